import PyProof.Rows.All
import Wide.All
import OpenK.AllK
import Wide.FinOn
import Lean
import PyProof.EqAt
import PyProof.EqKinds
import PyProof.TupleCall
import PyProof.NeKinds
import PySem.Challenge.RW_standstill_k72_names_and_numbers
set_option Elab.async false
set_option genSizeOf false
set_option linter.all false
set_option maxRecDepth 100000
namespace L2
open PySem PySem.Spec PyProof.Rows
noncomputable abbrev Key := Sum Int Str
noncomputable def zkv : Key -> Value -> Bool
  | .inl k, v => Value.isInt k v
  | .inr x, v => Value.isStrOf x v
noncomputable def zsr (w : World) : Key -> Int
  | .inl k => hashInt k
  | .inr x => hashStr w x
theorem zdo : ∀ {k : Key} {v : Value}, zkv k v = true -> (∃ i t, k = Sum.inl i /\ v = Value.int i t) \/ (∃ x t, k = Sum.inr x /\ v = Value.str x t)
  | .inl i, v, h => by
    obtain ⟨t, e⟩ := Value.isInt_shape (k := i) (v := v) h
    exact .inl ⟨i, t, rfl, e⟩
  | .inr x, v, h => by
    obtain ⟨t, e⟩ := Value.isStrOf_shape (x := x) (v := v) h
    exact .inr ⟨x, t, rfl, e⟩
theorem zve (a b : Int) : decide ((Sum.inl a : Key) = Sum.inl b) = (a == b) := by
  by_cases e : a = b
  · subst e; simp
  · have h : ¬ (Sum.inl a : Key) = Sum.inl b := fun q => e (Sum.inl.inj q)
    rw [decide_eq_false h]
    exact (beq_eq_false_iff_ne.mpr e).symm
theorem zp9 (a b : Str) : decide ((Sum.inr a : Key) = Sum.inr b) = decide (a = b) := by
  by_cases e : a = b
  · subst e; simp
  · have h : ¬ (Sum.inr a : Key) = Sum.inr b := fun q => e (Sum.inr.inj q)
    rw [decide_eq_false h, decide_eq_false e]
theorem zuk (a : Int) (b : Str) : decide ((Sum.inl a : Key) = Sum.inr b) = false := decide_eq_false (fun q => nomatch q)
theorem zo7 (a : Str) (b : Int) : decide ((Sum.inr a : Key) = Sum.inl b) = false := decide_eq_false (fun q => nomatch q)
noncomputable def zi0 (prog : Program) (w : World) : PySem.KeyKind prog w Key where
  is := zkv
  hash := zsr w
  inj := fun v a b ha hb => by
    rcases zdo ha with ⟨i, t, rfl, rfl⟩ | ⟨x, t, rfl, rfl⟩
    · rcases zdo hb with ⟨j, u, rfl, e⟩ | ⟨y, u, rfl, e⟩
      · injection e with e1 _; rw [e1]
      · exact nomatch e
    · rcases zdo hb with ⟨j, u, rfl, e⟩ | ⟨y, u, rfl, e⟩
      · exact nomatch e
      · injection e with e1 _; rw [e1]
  byValue := fun k v h => by
    rcases zdo h with ⟨i, t, rfl, rfl⟩ | ⟨x, t, rfl, rfl⟩ <;> rfl
  pyHash := fun hv h => by
    rcases zdo hv with ⟨i, t, rfl, rfl⟩ | ⟨x, t, rfl, rfl⟩
    · exact wpAny_pyHash_int h
    · exact wpAny_pyHash_str h
  eqBool := fun hu hv h => by
    rcases zdo hu with ⟨i, t, rfl, rfl⟩ | ⟨x, t, rfl, rfl⟩
    · rcases zdo hv with ⟨j, u, rfl, rfl⟩ | ⟨y, u, rfl, rfl⟩
      · rw [zve] at h; exact wpAny_eqBool_int h
      · rw [zuk] at h; exact SeqAt.EqAt.int_str i t y u _ _ _ _ h
    · rcases zdo hv with ⟨j, u, rfl, rfl⟩ | ⟨y, u, rfl, rfl⟩
      · rw [zo7] at h; exact SeqAt.EqAt.str_int x t j u _ _ _ _ h
      · rw [zp9] at h; exact wpAny_eqBool_str h
  «strs» := fun k x t v h => by
    rcases zdo h with ⟨i, u, rfl, e⟩ | ⟨y, u, rfl, e⟩
    · exact nomatch e
    · injection e with e1 _
      subst e1
      cases v <;> rfl
end L2
namespace L2
open PySem PySem.Spec PyProof.Rows
inductive V where
  | non | bl (b : Bool) | int (i : Int) | str (x : Str) | byt (b : Array UInt8) | flt (b : UInt64) | ref (a : Addr) | ty (n : String)
  deriving DecidableEq
noncomputable def zag : V -> Value -> Prop
  | .non, u => u = Value.none
  | .bl b, u => u = Value.bool b
  | .int i, u => ∃ t, u = Value.int i t
  | .str x, u => ∃ t, u = Value.str x t
  | .byt b, u => ∃ t, u = Value.bytes b t
  | .flt b, u => ∃ t, u = Value.float b t
  | .ref a, u => u = Value.ref a
  | .ty n, u => u = Value.type n
noncomputable abbrev zaf : List V -> List Value -> Prop := Paired zag
theorem zaf.length {xs : List V} {us : List Value} (r : zaf xs us) : xs.length = us.length := Paired.length r
theorem zaf.get : ∀ {xs : List V} {us : List Value} {i : Nat} {x : V}, zaf xs us -> xs[i]? = some x -> ∃ u, us[i]? = some u /\ zag x u
  | _, _, _, _, .nil, e => by simp at e
  | _, _, 0, _, .cons r _, e => by simp at e; subst e; exact ⟨_, rfl, r⟩
  | _, _, i + 1, x, .cons _ t, e => by
    obtain ⟨u, h1, h2⟩ := zaf.get (i := i) (x := x) t (by simpa using e)
    exact ⟨u, by simpa using h1, h2⟩
theorem zaf.set {x : V} {u : Value} (r : zag x u) : ∀ {xs : List V} {us : List Value} (i : Nat), zaf xs us -> zaf (xs.set i x) (us.set i u)
  | _, _, _, .nil => .nil
  | _, _, 0, .cons _ t => .cons r t
  | _, _, i + 1, .cons q t => .cons q (zaf.set r i t)
theorem zaf.append : ∀ {xs ys : List V} {us ws : List Value}, zaf xs us -> zaf ys ws -> zaf (xs ++ ys) (us ++ ws)
  | _, _, _, _, .nil, s => s
  | _, _, _, _, .cons r t, s => .cons r (zaf.append t s)
theorem zaf.take : ∀ {xs : List V} {us : List Value} (n : Nat), zaf xs us -> zaf (xs.take n) (us.take n)
  | _, _, 0, _ => .nil
  | _, _, _ + 1, .nil => .nil
  | _, _, n + 1, .cons r t => .cons r (zaf.take n t)
theorem zaf.drop : ∀ {xs : List V} {us : List Value} (n : Nat), zaf xs us -> zaf (xs.drop n) (us.drop n)
  | _, _, 0, r => r
  | _, _, _ + 1, .nil => .nil
  | _, _, n + 1, .cons _ t => zaf.drop n t
noncomputable def zeg : Option V -> Option Value -> Prop
  | some v, some u => zag v u
  | none, none => True
  | _, _ => False
noncomputable def KV {κ : Type} : List (κ × V) -> List (κ × Value) -> Prop := Paired fun (p : κ × V) (q : κ × Value) => p.1 = q.1 /\ zag p.2 q.2
noncomputable def kV : Key -> V
  | .inl i => .int i
  | .inr x => .str x
inductive HO where
  | lst (xs : List V)
  | tup (xs : List V)
  | dK (kvs : List (Key × V)) | dT (kvs : List (List Key × V))
  | set (S : Int -> Bool) (n : Nat)
  | ins (C dx : Addr) (fs : List (Str × V))
  | own (x : Addr)
  | xd (fs : List (Str × V))
  | met (f x : Addr)
  | rng (lo hi : Int)
  | frz (o : Obj) (u : HO)
  | tbl (ps : Array Value)
  | ext (φ : Heap -> Prop)
noncomputable abbrev Hp := Addr -> Option HO
noncomputable def upd (H : Hp) (a : Addr) (o : HO) : Hp := fun b => if b = a then some o else H b
theorem zbp {H : Hp} {a : Addr} {o : HO} : upd H a o a = some o := by unfold upd; rw [if_pos rfl]
theorem zau {H : Hp} {a b : Addr} {o : HO} (h : b ≠ a) : upd H a o b = H b := by unfold upd; rw [if_neg h]
theorem zu6 {H : Hp} {a b : Addr} {o u : HO} (h : H a = some o) (h' : H b = some u) (d : o ≠ u) : a ≠ b := by
  intro e; subst e; rw [h] at h'; exact d (Option.some.inj h')
theorem zbo {H : Hp} {a b : Addr} {o : HO} (h : H a = some o) (h' : H b = none) : a ≠ b := by
  intro e; subst e; rw [h] at h'; cases h'
section
variable (P : Program) (w : World)
noncomputable def zbi (H : Hp) (h : Heap) (a : Addr) : HO -> Prop
  | .lst xs => xs.length <= sizeLine /\ ∃ (its : List Value) (n : Nat), zaf xs its /\ h.get? a = some { cls := .type "list", data := .seq its.toArray n }
  | .tup xs => xs.length <= sizeLine /\ ∃ its : List Value, zaf xs its /\ IsTup h a its.toArray
  | .dK kvs => kvs.length <= sizeLine /\ (a == sysModules) = false /\ ∃ vs, KV kvs vs /\ h.DictOf (zi0 P w) a vs
  | .dT kvs => kvs.length <= sizeLine /\ (a == sysModules) = false /\ ∃ xs : List (List Key × Addr × Value),
      Paired (fun (p : List Key × V) (q : List Key × Addr × Value) => p.1 = q.1 /\ H q.2.1 = some (.tup (p.1.map kV)) /\ zag p.2 q.2.2) kvs xs /\
      ∃ o es ep, h.get? a = some o /\ o.ExactDict /\ o.data = .dict es ep /\ es.toList = xs.map (entryOfKey (tupleKind (zi0 P w))) /\ (xs.map (·.1)).Nodup
  | .set S n => h.SetOf (intKind P w) a S n
  | .ins C dx fs => H dx = some (.own a) /\ fs.length <= 1000 /\ dx ≠ a /\ h.get? a = some (PySem.W.instObj C dx) /\
      ∃ mA, h.Ns1 dx mA /\ (∀ f, zeg (fs.lookup f) (mA f)) /\ PySem.Within mA (fs.map (·.1))
  | .own _ => ∃ o, h.get? a = some o
  | .xd fs => ∃ mA, h.Ns1 a mA /\ ∀ f, zeg (fs.lookup f) (mA f)
  | .rng lo hi => ∃ t u v, h.get? a = some { cls := .type "range", data := .fields #[.int lo t, .int hi u, .int 1 v] }
  | .frz o u => h.get? a = some o /\ zbi H h a u
  | .tbl ps => h.get? a = some { cls := .none, data := .fields ps }
  | .met f x => h.get? a = some (PySem.W.methodObj (.ref f) (.ref x))
  | .ext φ => φ h /\ (∃ o, h.get? a = some o) /\ ∀ h1 h2 : Heap, φ h1 -> (∀ o, h1.get? a = some o -> h2.get? a = some o) -> φ h2
noncomputable def HOk (H : Hp) (h : Heap) : Prop := ∀ a o, H a = some o -> zbi P w H h a o
end
section
variable {P : Program} {w : World} {H H' : Hp} {h h' : Heap} {a : Addr} {o : HO}
theorem zbi.lt (x : zbi P w H h a o) : a < h.objs.size := by
  cases o with
  | lst xs => obtain ⟨_, _, _, _, e⟩ := x; exact Heap.lt_size e
  | tup xs => obtain ⟨_, _, _, p⟩ := x; exact p.lt
  | dK kvs => obtain ⟨_, _, _, _, o, _, _, e, _⟩ := x; exact Heap.lt_size e
  | dT kvs => obtain ⟨_, _, _, _, o, _, _, e, _⟩ := x; exact Heap.lt_size e
  | set S n => obtain ⟨o, _, _, _, e, _⟩ := x; exact Heap.lt_size e
  | ins C dx fs => obtain ⟨_, _, _, e, _⟩ := x; exact Heap.lt_size e
  | own y => obtain ⟨_, e⟩ := x; exact Heap.lt_size e
  | xd fs => obtain ⟨_, ⟨_, _, _, e, _⟩, _⟩ := x; exact Heap.lt_size e
  | rng lo hi => obtain ⟨_, _, _, e⟩ := x; exact Heap.lt_size e
  | frz ob u => obtain ⟨e, _⟩ := x; exact Heap.lt_size e
  | tbl ps => exact Heap.lt_size (show h.get? a = some _ from x)
  | met f y => exact Heap.lt_size (show h.get? a = some _ from x)
  | ext φ => obtain ⟨_, ⟨_, e⟩, _⟩ := x; exact Heap.lt_size e
theorem Paired.mapP {α β : Type} {F G : α -> β -> Prop} : ∀ {l₁ : List α} {l₂ : List β}, Paired F l₁ l₂ -> (∀ a b, F a b -> G a b) -> Paired G l₁ l₂
  | _, _, .nil, _ => .nil
  | _, _, .cons r t, f => .cons (f _ _ r) (Paired.mapP t f)
theorem zbi.stay (x : zbi P w H h a o) (k : ∀ b u, (b = a \/ H b = some (.own a)) -> h.get? b = some u -> h'.get? b = some u)
    (ho : ∀ b, H b = some (.own a) -> H' b = some (.own a)) (ht : ∀ b xs, H b = some (.tup xs) -> H' b = some (.tup xs)) : zbi P w H' h' a o := by
  induction o with
  | lst xs => obtain ⟨z, its, n, r, e⟩ := x; exact ⟨z, its, n, r, k _ _ (.inl rfl) e⟩
  | tup xs => obtain ⟨z, its, r, ob, e, c⟩ := x; exact ⟨z, its, r, ob, k _ _ (.inl rfl) e, c⟩
  | dK kvs => obtain ⟨z, y, vs, r, ob, es, ep, e, c⟩ := x; exact ⟨z, y, vs, r, ob, es, ep, k _ _ (.inl rfl) e, c⟩
  | dT kvs =>
    obtain ⟨z, y, xs, r, ob, es, ep, e, c⟩ := x
    exact ⟨z, y, xs, Paired.mapP r fun p q z => ⟨z.1, ht _ _ z.2.1, z.2.2⟩, ob, es, ep, k _ _ (.inl rfl) e, c⟩
  | set S n => obtain ⟨ob, es, ep, t, e, c⟩ := x; exact ⟨ob, es, ep, t, k _ _ (.inl rfl) e, c⟩
  | ins C dx fs =>
    obtain ⟨d, z, ne, e, mA, ⟨od, es, ep, e2, c⟩, r⟩ := x
    exact ⟨ho _ d, z, ne, k _ _ (.inl rfl) e, mA, ⟨od, es, ep, k _ _ (.inr d) e2, c⟩, r⟩
  | own y => obtain ⟨ob, e⟩ := x; exact ⟨ob, k _ _ (.inl rfl) e⟩
  | xd fs => obtain ⟨mA, ⟨od, es, ep, e, c⟩, r⟩ := x; exact ⟨mA, ⟨od, es, ep, k _ _ (.inl rfl) e, c⟩, r⟩
  | rng lo hi => obtain ⟨t, u, v, e⟩ := x; exact ⟨t, u, v, k _ _ (.inl rfl) e⟩
  | frz ob u ih => obtain ⟨e, q⟩ := x; exact ⟨k _ _ (.inl rfl) e, ih q⟩
  | tbl ps =>
    have e : h.get? a = some { cls := .none, data := .fields ps } := x
    show h'.get? a = some { cls := .none, data := .fields ps }
    exact k a _ (.inl rfl) e
  | met f y =>
    have e : h.get? a = some (PySem.W.methodObj (.ref f) (.ref y)) := x
    show h'.get? a = some (PySem.W.methodObj (.ref f) (.ref y))
    exact k a _ (.inl rfl) e
  | ext φ => obtain ⟨p, ⟨o, e⟩, st⟩ := x; exact ⟨st _ _ p fun o q => k _ _ (.inl rfl) q, ⟨o, k _ _ (.inl rfl) e⟩, st⟩
theorem HOk.lt (x : HOk P w H h) (e : H a = some o) : a < h.objs.size := (x a o e).lt
theorem HOk.fresh (x : HOk P w H h) (e : h.objs.size <= a) : H a = none := by
  cases q : H a with
  | none => rfl
  | some u => exact absurd (Nat.lt_of_lt_of_le (x.lt q) e) (Nat.lt_irrefl _)
theorem HOk.kept (x : HOk P w H h) (k : ∀ b u, h.get? b = some u -> h'.get? b = some u) : HOk P w H h' := fun a o e =>
  (x a o e).stay (fun b u _ q => k b u q) (fun _ q => q) fun _ _ q => q
theorem HOk.laid (x : HOk P w H h) (k : ∀ b u, h.get? b = some u -> h'.get? b = some u) (hp : h.objs.size <= a) (new : zbi P w (upd H a o) h' a o) : HOk P w (upd H a o) h' := fun b u e => by
  have hn := x.fresh hp
  by_cases hb : b = a
  · subst hb; rw [zbp] at e; cases e; exact new
  · rw [zau hb] at e
    exact (x b u e).stay (fun c v _ q => k c v q) (fun c q => by rw [zau (zbo q hn)]; exact q) fun c xs q => by rw [zau (zbo q hn)]; exact q
end
noncomputable def Rd (H : Hp) (a : Addr) (u : HO) : Prop := H a = some u \/ ∃ o, H a = some (.frz o u)
theorem Rd.of {H : Hp} {a : Addr} {u : HO} (h : H a = some u) : Rd H a u := .inl h
theorem Rd.ok {P : Program} {w : World} {H : Hp} {h : Heap} {a : Addr} {u : HO} (r : Rd H a u) (x : HOk P w H h) : zbi P w H h a u := by
  rcases r with r | ⟨o, r⟩
  · exact x a u r
  · obtain ⟨_, q⟩ := x a _ r
    exact q
noncomputable def Mut : Option HO -> Prop
  | some (.lst _) => True
  | some (.dK _) => True
  | some (.dT _) => True
  | some (.set _ _) => True
  | some (.ins _ _ _) => True
  | some (.ext _) => True
  | _ => False
section
variable {P : Program} {w : World} {H : Hp} {h h' : Heap} {x e : Addr} {o' : HO}
theorem HOk.write (ok : HOk P w H h) (mu : Mut (H x)) (he : e = x \/ H e = some (.own x)) (k : ∀ b u, b ≠ e -> h.get? b = some u -> h'.get? b = some u) (heo : ∃ u, h'.get? e = some u)
    (new : zbi P w (upd H x o') h' x o') : HOk P w (upd H x o') h' := fun b u q => by
  have nown : ∀ c y, H c = some (.own y) -> c ≠ x := fun c y r z => by subst z; rw [r] at mu; exact mu
  have ntup : ∀ c xs, H c = some (.tup xs) -> c ≠ x := fun c xs r z => by subst z; rw [r] at mu; exact mu
  by_cases hb : b = x
  · subst hb; rw [zbp] at q; cases q; exact new
  · rw [zau hb] at q
    by_cases hbe : b = e
    · have q' : H b = some (.own x) := by
        rcases he with z | z
        · exact absurd (hbe.trans z) hb
        · rw [hbe]; exact z
      rw [q] at q'; cases q'
      obtain ⟨v, hv⟩ := heo
      exact ⟨v, by rw [hbe]; exact hv⟩
    · refine (ok b u q).stay (fun c v hc r => k c v ?_ r) (fun c r => by rw [zau (nown c b r)]; exact r) fun c xs r => by rw [zau (ntup c xs r)]; exact r
      rcases hc with rfl | hc
      · exact hbe
      · rintro rfl
        rcases he with z | z
        · exact nown c b hc z
        · rw [hc] at z; cases z; exact hb rfl
end
structure Un (fs ex : List Addr) (H H' : Hp) (h h' : Heap) : Prop where
  keep : ∀ b o, h.get? b = some o -> H b = none -> b ∉ fs -> b ∉ ex -> h'.get? b = some o
  slot : ∀ b o, h.get? b = some o -> H b = none -> b ∈ fs -> b ∉ ex -> ∃ sl, h'.get? b = some { o with slots := sl }
  free : ∀ b o, h.get? b = some o -> H b = none -> b ∉ ex -> H' b = none
  there : ∀ b o, h.get? b = some o -> b ∉ ex -> ∃ o', h'.get? b = some o'
  tups : ∀ b xs, H b = some (.tup xs) -> H' b = some (.tup xs)
  frzs : ∀ b o u, H b = some (.frz o u) -> H' b = some (.frz o u)
  tbls : ∀ b ps, H b = some (.tbl ps) -> ∃ more, H' b = some (.tbl (ps ++ more))
section
variable {fs fs' ex ex' : List Addr} {H H1 H2 : Hp} {h h1 h2 h' : Heap} {a x e : Addr} {o : HO}
theorem Un.any (u : Un fs ex H H1 h h1) {b : Addr} {ob : Obj} (q : h.get? b = some ob) (n : H b = none) (hx : b ∉ ex) : ∃ sl, h1.get? b = some { ob with slots := sl } := by
  by_cases hb : b ∈ fs
  · exact u.slot b ob q n hb hx
  · exact ⟨ob.slots, u.keep b ob q n hb hx⟩
theorem Un.trans (a : Un fs ex H H1 h h1) (b : Un fs ex H1 H2 h1 h2) : Un fs ex H H2 h h2 where
  keep := fun c ob q n hc hx => b.keep c ob (a.keep c ob q n hc hx) (a.free c ob q n hx) hc hx
  slot := fun c ob q n hc hx => by
    obtain ⟨sl, e1⟩ := a.slot c ob q n hc hx
    obtain ⟨sl', e2⟩ := b.slot c _ e1 (a.free c ob q n hx) hc hx
    exact ⟨sl', e2⟩
  free := fun c ob q n hx => by
    obtain ⟨o', e1⟩ := a.there c ob q hx
    exact b.free c o' e1 (a.free c ob q n hx) hx
  there := fun c ob q hx => by
    obtain ⟨o', e1⟩ := a.there c ob q hx
    exact b.there c o' e1 hx
  tups := fun c xs q => b.tups c xs (a.tups c xs q)
  frzs := fun c ob xs q => b.frzs c ob xs (a.frzs c ob xs q)
  tbls := fun c ps q => by
    obtain ⟨m1, e1⟩ := a.tbls c ps q
    obtain ⟨m2, e2⟩ := b.tbls c _ e1
    exact ⟨m1 ++ m2, by rw [e2, Array.append_assoc]⟩
theorem Un.kept (k : ∀ b u, h.get? b = some u -> h'.get? b = some u) : Un fs ex H H h h' :=
  ⟨fun b ob q _ _ _ => k b ob q, fun b ob q _ _ _ => ⟨ob.slots, k b ob q⟩, fun _ _ _ n _ => n, fun b ob q _ => ⟨ob, k b ob q⟩, fun _ _ q => q, fun _ _ _ q => q, fun _ ps q => ⟨#[], by rw [q]; simp⟩⟩
theorem Un.refl : Un fs ex H H h h := Un.kept fun _ _ q => q
theorem Un.laid (k : ∀ b u, h.get? b = some u -> h'.get? b = some u) (hp : h.objs.size <= a) (hn : H a = none) : Un fs ex H (upd H a o) h h' where
  keep := fun b u q _ _ _ => k b u q
  slot := fun b u q _ _ _ => ⟨u.slots, k b u q⟩
  free := fun b u q n _ => by rw [zau (Nat.ne_of_lt (Nat.lt_of_lt_of_le (Heap.lt_size q) hp))]; exact n
  there := fun b u q _ => ⟨u, k b u q⟩
  tups := fun b xs q => by rw [zau (zbo q hn)]; exact q
  frzs := fun b u xs q => by rw [zau (zbo q hn)]; exact q
  tbls := fun b ps q => ⟨#[], by rw [zau (zbo q hn), q]; simp⟩
theorem Un.write (mu : Mut (H x)) (he : e = x \/ H e = some (.own x)) (k : ∀ b u, b ≠ e -> h.get? b = some u -> h'.get? b = some u) (heo : ∃ u, h'.get? e = some u) : Un fs ex H (upd H x o) h h' := by
  have hx : ∀ b, H b = none -> b ≠ x := fun b n z => by subst z; rw [n] at mu; exact mu
  have hb : ∀ b, H b = none -> b ≠ e := fun b n z => by
    subst z
    rcases he with r | r
    · exact hx b n r
    · rw [n] at r; cases r
  have hm : ∀ b u, H b = some u -> ¬ Mut (some u) -> b ≠ x := fun b u q nm z => by subst z; rw [q] at mu; exact nm mu
  refine ⟨fun b u q n _ _ => k b u (hb b n) q, fun b u q n _ _ => ⟨u.slots, k b u (hb b n) q⟩, fun b u q n _ => by rw [zau (hx b n)]; exact n, fun b u q _ => ?_,
    fun b xs q => by rw [zau (hm b _ q fun z => z)]; exact q, fun b u xs q => by rw [zau (hm b _ q fun z => z)]; exact q, fun b ps q => ⟨#[], by rw [zau (hm b _ q fun z => z), q]; simp⟩⟩
  by_cases hbe : b = e
  · subst hbe; exact heo
  · exact ⟨u, k b u hbe q⟩
theorem Un.mono (u : Un fs ex H H1 h h1) (hs : ∀ b ∈ fs, b ∈ fs') (hx : ∀ b ∈ ex, b ∈ ex') : Un fs' ex' H H1 h h1 :=
  ⟨fun b ob q n hb he => u.keep b ob q n (fun z => hb (hs b z)) fun z => he (hx b z), fun _ _ q n _ he => u.any q n fun z => he (hx _ z), fun b ob q n he => u.free b ob q n fun z => he (hx b z), fun b ob q he => u.there b ob q fun z => he (hx b z), u.tups, u.frzs, u.tbls⟩
end
noncomputable def trk (h : Heap) (H : Hp) : List Addr := (List.range h.objs.size).filter fun a => (H a).isSome
noncomputable def zdw (h : Heap) (H : Hp) : Heap := PySem.W.hideAll h (trk h H)
theorem zrp (h : Heap) (H : Hp) : (zdw h H).objs.size = h.objs.size := PySem.W.hideAll_size _ _
theorem zsm {h : Heap} {H : Hp} {b : Addr} {o : Obj} (e : h.get? b = some o) (n : H b = none) : (zdw h H).get? b = some o :=
  PySem.W.hideAll_get _ e fun hm => by
    have q : (H b).isSome = true := (List.mem_filter.mp hm).2
    rw [n] at q; simp at q
theorem zry {h : Heap} {H : Hp} {b : Addr} {o : Obj} (e : (zdw h H).get? b = some o) : h.get? b = some o /\ H b = none := by
  have e' : h.get? b = some o := PySem.W.of_hideAll (trk h H) e
  refine ⟨e', ?_⟩
  cases q : H b with
  | none => rfl
  | some x =>
    have hm : b ∈ trk h H := List.mem_filter.mpr ⟨List.mem_range.mpr (Heap.lt_size e'), by simp [q]⟩
    have z : (zdw h H).get? b = none := PySem.W.hideAll_none (trk h H) hm
    rw [z] at e; cases e
noncomputable def zr8 (g h : Heap) (L : Addr) : List (Addr × Obj) := (List.range h.objs.size).filterMap fun a => if a = L \/ (g.get? a).isSome = true then none else (h.get? a).map fun o => (a, o)
noncomputable def zav (g h : Heap) (L d : Addr) : List (Addr × Obj) := (zr8 g h L).filter fun p => decide (p.1 ≠ d)
end L2
namespace L2
open PySem PySem.Spec PyProof.Rows
structure Mod (K : PySem.W.Frag) (mg : Str -> Option Value) (base : Heap) : Prop where
  kin : K.In base
  glob : base.Ns mainGlobals mg
  blt : ∃ mb, base.Ns builtinsNs mb /\ ∀ x : Str, x ≠ "__name__" -> mb x = bootBuiltins x
  nolimit : base.NoLimit
set_option genInjectivity false in
structure Cx where
  prog : Program
  w : World
  K : PySem.W.Frag
  mg : Str -> Option Value
  base : Heap
  A : Around
  N : List Str
  s₀ : Shared
  H₀ : Hp
  env : Env
  outer : List Env
  stack : List Env
  ex : List Addr
  fn : Str -> Bool
  calm : Bool
  pn : List (Addr × Obj)
  xe : Value -> Shared -> Prop
noncomputable def frs (l : List Env) : List Addr := l.filterMap (·.frame)
noncomputable abbrev Cx.fs (X : Cx) : List Addr := frs X.outer
noncomputable def Vis (sc : Scope) (x : Str) : Prop := sc.names.lookup x = some .local \/ sc.names.lookup x = some .cell \/ sc.names.lookup x = some .free
noncomputable def Loc (sc : Scope) (x : Str) : Prop := sc.names.lookup x = some .local \/ sc.names.lookup x = some .cell
noncomputable def zp6 (env : Env) (h : Heap) (m : Str -> Option Value) (x : Str) (u : Value) : Prop :=
  (env.kindOf x = some .local /\ m x = some u) \/ ((env.kindOf x = some .cell \/ env.kindOf x = some .free) /\ ∃ c, env.cells.lookup x = some c /\ h.IsCell c (some u))
structure Cx.Ok (X : Cx) : Prop where
  mod : Mod X.K X.mg X.base
  kind : X.env.scope.kind = .function
  glob : X.env.globals = mainGlobals
  blt : X.env.builtins = builtinsNs
  above : X.s₀.heap.objs.size <= X.env.locals
  inj : ∀ x y c, X.env.cells.lookup x = some c -> X.env.cells.lookup y = some c -> x = y
  has : ∀ x, (X.env.kindOf x = some .cell \/ X.env.kindOf x = some .free) -> ∃ c, X.env.cells.lookup x = some c
  cab : ∀ x c, X.fn x = true -> X.env.cells.lookup x = some c -> X.s₀.heap.objs.size <= c
  hd : X.calm = true -> X.A.handled = none
  frames : X.A.frames = some X.stack
  stk : X.stack = X.outer \/ (X.stack = X.env :: X.outer /\ X.env.frame = some X.env.locals)
  exf : ∀ b ∈ X.ex, b ≠ X.env.locals /\ ∀ x c, X.env.cells.lookup x = some c -> c ≠ b
  bs : ∀ b o, X.base.get? b = some o -> X.s₀.heap.get? b = some o /\ X.H₀ b = none
  bsz : X.base.objs.size <= X.s₀.heap.objs.size
  noex : ∀ b o, X.base.get? b = some o -> b ∉ X.ex
  exfs : ∀ b ∈ X.ex, b ∉ X.fs
  funs : X.s₀.heap.FunFrames X.base X.outer
  frf : ∀ b ∈ X.fs, X.H₀ b = none
structure Inv (X : Cx) (pins : List (Addr × Obj)) (σ : List (Option V)) (H : Hp) (s : Shared) : Prop where
  ok : X.Ok
  os : s.os = X.s₀.os
  bare : AllBare s.gens
  base : Un X.fs X.ex X.H₀ H X.s₀.heap s.heap
  loc : ∃ m, s.heap.Ns X.env.locals m /\ ∀ (i : Nat) (x : Str) (v : V), X.N[i]? = some x -> σ[i]? = some (some v) -> Vis X.env.scope x -> ∃ u, zag v u /\ zp6 X.env s.heap m x u
  cell : ∀ x c, X.env.cells.lookup x = some c -> ∃ v, s.heap.IsCell c v
  free : H X.env.locals = none
  freeC : ∀ x c, X.env.cells.lookup x = some c -> H c = none
  pin : ∀ p ∈ X.pn ++ pins, s.heap.get? p.1 = some p.2 /\ H p.1 = none /\ p.1 ≠ X.env.locals /\ p.1 ∉ X.fs /\ ∀ v, p.2.data ≠ .cell v
  hok : HOk X.prog X.w H s.heap
  len : σ.length = X.N.length
section
variable {X : Cx} {pins : List (Addr × Obj)} {σ : List (Option V)} {H H' : Hp} {s : Shared} {h' : Heap}
theorem Cx.Ok.nofr (ok : X.Ok) {b : Addr} {o : Obj} (e : X.base.get? b = some o) : b ∉ X.fs := fun hb => by
  have := (ok.funs.mem hb).1
  rw [e] at this; cases this
theorem Inv.bs (I : Inv X pins σ H s) : ∀ b o, X.base.get? b = some o -> s.heap.get? b = some o /\ H b = none := fun b o e =>
  ⟨I.base.keep b o (I.ok.bs b o e).1 (I.ok.bs b o e).2 (I.ok.nofr e) (I.ok.noex b o e), I.base.free b o (I.ok.bs b o e).1 (I.ok.bs b o e).2 (I.ok.noex b o e)⟩
theorem Inv.bk (I : Inv X pins σ H s) : ∀ b o, X.base.get? b = some o -> s.heap.get? b = some o := fun b o e => (I.bs b o e).1
theorem Inv.mod (I : Inv X pins σ H s) : Mod X.K X.mg X.base := I.ok.mod
theorem Inv.kIn (I : Inv X pins σ H s) : X.K.In s.heap := I.ok.mod.kin.keeps I.bk
theorem Inv.nolimit (I : Inv X pins σ H s) : s.heap.NoLimit := I.ok.mod.nolimit.keeps I.bk
theorem Inv.fr (I : Inv X pins σ H s) : ∃ m, Fr X.base X.env.locals s.heap m :=
  let ⟨m, hn, _⟩ := I.loc
  ⟨m, hn, I.bk, Nat.le_trans I.ok.bsz I.ok.above⟩
theorem Inv.lt (I : Inv X pins σ H s) : X.env.locals < s.heap.objs.size := let ⟨_, hn, _⟩ := I.loc; hn.lt
theorem Inv.sz (I : Inv X pins σ H s) : X.s₀.heap.objs.size <= s.heap.objs.size := Nat.le_trans I.ok.above (Nat.le_of_lt I.lt)
theorem Inv.nofs (I : Inv X pins σ H s) {a : Addr} (h : s.heap.objs.size <= a) : a ∉ X.fs := fun hb => by
  obtain ⟨_, o, ho, _⟩ := I.ok.funs.mem hb
  exact absurd (Nat.lt_of_lt_of_le (Heap.lt_size ho) (Nat.le_trans I.sz h)) (Nat.lt_irrefl _)
theorem Inv.cne (I : Inv X pins σ H s) : ∀ x c, X.env.cells.lookup x = some c -> c ≠ X.env.locals := fun x c e z => by
  obtain ⟨v, o, ho, hd⟩ := I.cell x c e
  obtain ⟨m, ⟨o', es, ep, ho', hd', _⟩, _⟩ := I.loc
  rw [z, ho'] at ho; cases ho; rw [hd'] at hd; cases hd
theorem Inv.funs (I : Inv X pins σ H s) : s.heap.FunFrames X.base X.outer := by
  have all : ∀ (l : List Env), (∀ b ∈ frs l, b ∈ X.fs) -> X.s₀.heap.FunFrames X.base l -> s.heap.FunFrames X.base l := by
    intro l
    induction l with
    | nil => intro _ _; trivial
    | cons env r ih =>
      intro hs hl
      obtain ⟨hk, ⟨L, o, hf, hn, ho, hd⟩, hr⟩ := hl
      have hL : L ∈ X.fs := hs L (by unfold frs; rw [List.filterMap_cons, hf]; exact List.mem_cons_self)
      obtain ⟨sl, e⟩ := I.base.slot L o ho (I.ok.frf L hL) hL fun z => I.ok.exfs L z hL
      exact ⟨hk, ⟨L, _, hf, hn, e, hd⟩, ih (fun b hb => hs b (by unfold frs; rw [List.filterMap_cons, hf]; exact List.mem_cons_of_mem _ hb)) hr⟩
  exact all X.outer (fun _ hb => hb) I.ok.funs
theorem Inv.stack (I : Inv X pins σ H s) : s.heap.FunFrames X.base X.stack := by
  rcases I.ok.stk with e | ⟨e, hf⟩
  · rw [e]; exact I.funs
  · rw [e]
    obtain ⟨m, hn, _⟩ := I.loc
    refine .cons (by rw [I.ok.kind]; decide) hf hn ?_ I.funs
    exact Heap.get?_none_of_le (Nat.le_trans I.ok.bsz I.ok.above)
theorem Inv.stkSub (I : Inv X pins σ H s) : ∀ b ∈ frs X.stack, b ∈ X.env.locals :: X.fs := fun b hb => by
  rcases I.ok.stk with e | ⟨e, hf⟩
  · rw [e] at hb; exact List.mem_cons_of_mem _ hb
  · rw [e] at hb
    unfold frs at hb
    rw [List.filterMap_cons, hf] at hb
    exact hb
theorem Inv.stkFree (I : Inv X pins σ H s) : ∀ b ∈ frs X.stack, H b = none := fun b hb => by
  rcases List.mem_cons.mp (I.stkSub b hb) with e | hb
  · rw [e]; exact I.free
  · obtain ⟨_, o, ho, _⟩ := I.ok.funs.mem hb
    exact I.base.free b o ho (I.ok.frf b hb) fun z => I.ok.exfs b z hb
theorem Inv.step {g' : Array GenState} {t' : Nat} {d' : Drawn} {ch : List Addr} (I : Inv X pins σ H s)
    (hch : ∀ b ∈ ch, (b ∈ X.ex \/ X.s₀.heap.objs.size <= b) /\ b ≠ X.env.locals /\ (∀ x c, X.env.cells.lookup x = some c -> c ≠ b) /\ ∀ p ∈ X.pn ++ pins, p.1 ≠ b)
    (keep : ∀ b o, b ≠ X.env.locals -> b ∉ X.fs -> b ∉ ch -> s.heap.get? b = some o -> H b = none -> h'.get? b = some o)
    (slot : ∀ b o, b ≠ X.env.locals -> b ∈ X.fs -> b ∉ ch -> s.heap.get? b = some o -> H b = none -> ∃ sl, h'.get? b = some { o with slots := sl }) (free : ∀ b o, b ∉ ch -> s.heap.get? b = some o -> H b = none -> H' b = none)
    (there : ∀ b o, b ∉ ch -> s.heap.get? b = some o -> ∃ o', h'.get? b = some o')
    (tups : ∀ b xs, H b = some (.tup xs) -> H' b = some (.tup xs)) (frzs : ∀ b o u, H b = some (.frz o u) -> H' b = some (.frz o u)) (tbls : ∀ b ps, H b = some (.tbl ps) -> ∃ more, H' b = some (.tbl (ps ++ more)))
    (ns : ∀ m, s.heap.Ns X.env.locals m -> h'.Ns X.env.locals m) (hok : HOk X.prog X.w H' h') (hg : AllBare g') :
    Inv X pins σ H' { s with heap := h', gens := g', drawn := d', toks := t' } := by
  have neL : ∀ b o, X.s₀.heap.get? b = some o -> b ≠ X.env.locals := fun b o e => Nat.ne_of_lt (Nat.lt_of_lt_of_le (Heap.lt_size e) I.ok.above)
  have neC : ∀ b o, X.s₀.heap.get? b = some o -> b ∉ X.ex -> b ∉ ch := fun b o e hx hb => by
    rcases (hch b hb).1 with z | z
    · exact hx z
    · exact absurd (Nat.lt_of_lt_of_le (Heap.lt_size e) z) (Nat.lt_irrefl _)
  have cellK : ∀ x c, X.env.cells.lookup x = some c -> ∀ v, s.heap.IsCell c v -> h'.IsCell c v := fun x c e v ⟨o, ho, hd⟩ => by
    have nch : c ∉ ch := fun z => (hch c z).2.2.1 x c e rfl
    by_cases hc : c ∈ X.fs
    · obtain ⟨sl, q⟩ := slot c o (I.cne x c e) hc nch ho (I.freeC x c e)
      exact ⟨_, q, hd⟩
    · exact ⟨o, keep c o (I.cne x c e) hc nch ho (I.freeC x c e), hd⟩
  refine ⟨I.ok, I.os, hg, ⟨fun b o e n hb hx => ?_, fun b o e n hb hx => ?_, fun b o e n hx => ?_, fun b o e hx => ?_, fun b xs e => tups b xs (I.base.tups b xs e), fun b o xs e => frzs b o xs (I.base.frzs b o xs e), fun b ps e => ?_⟩, ?_, fun x c e => ?_, ?_, fun x c e => ?_, fun p hp => ?_, hok, I.len⟩
  · exact keep b o (neL b o e) hb (neC b o e hx) (I.base.keep b o e n hb hx) (I.base.free b o e n hx)
  · obtain ⟨sl, e1⟩ := I.base.slot b o e n hb hx
    obtain ⟨sl', e2⟩ := slot b _ (neL b o e) hb (neC b o e hx) e1 (I.base.free b o e n hx)
    exact ⟨sl', e2⟩
  · obtain ⟨o', e1⟩ := I.base.there b o e hx
    exact free b o' (neC b o e hx) e1 (I.base.free b o e n hx)
  · obtain ⟨o', e1⟩ := I.base.there b o e hx
    exact there b o' (neC b o e hx) e1
  · obtain ⟨m1, e1⟩ := I.base.tbls b ps e
    obtain ⟨m2, e2⟩ := tbls b _ e1
    exact ⟨m1 ++ m2, by rw [e2, Array.append_assoc]⟩
  · obtain ⟨m, hn, hl⟩ := I.loc
    refine ⟨m, ns m hn, fun i x v e1 e2 e3 => ?_⟩
    obtain ⟨u, r, l⟩ := hl i x v e1 e2 e3
    refine ⟨u, r, ?_⟩
    rcases l with l | ⟨k, c, e, z⟩
    · exact .inl l
    · exact .inr ⟨k, c, e, cellK x c e _ z⟩
  · obtain ⟨v, z⟩ := I.cell x c e
    exact ⟨v, cellK x c e v z⟩
  · obtain ⟨m, ⟨o, _, _, ho, _⟩, _⟩ := I.loc
    exact free _ o (fun z => (hch _ z).2.1 rfl) ho I.free
  · obtain ⟨v, o, ho, hd⟩ := I.cell x c e
    exact free c o (fun z => (hch c z).2.2.1 x c e rfl) ho (I.freeC x c e)
  · obtain ⟨e, n, ne, nf, d⟩ := I.pin p hp
    have nch : p.1 ∉ ch := fun z => (hch p.1 z).2.2.2 p hp rfl
    exact ⟨keep p.1 p.2 ne nf nch e n, free p.1 p.2 nch e n, ne, nf, d⟩
theorem Inv.un {t' : Nat} (I : Inv X pins σ H s) (u : Un X.fs [] H H' s.heap h') (hok : HOk X.prog X.w H' h') : Inv X pins σ H' { s with heap := h', toks := t' } := by
  obtain ⟨m, ⟨o, es, ep, ho, r⟩, _⟩ := id I.loc
  obtain ⟨sl, hL⟩ := u.any ho I.free (by simp)
  exact I.step (g' := s.gens) (d' := s.drawn) (ch := []) (fun _ z => nomatch z) (fun b o _ hb _ e n => u.keep b o e n hb (by simp)) (fun b o _ hb _ e n => u.slot b o e n hb (by simp)) (fun b o _ e n => u.free b o e n (by simp)) (fun b o _ e => u.there b o e (by simp)) u.tups u.frzs u.tbls (fun m' hm => by
    obtain ⟨o', es', ep', ho', r'⟩ := hm
    rw [ho] at ho'; cases ho'
    exact ⟨_, es', ep', hL, r'⟩) hok I.bare
theorem Inv.call {g' : Array GenState} {t' : Nat} {d' : Drawn} {ch : List Addr} (I : Inv X pins σ H s) (u : Un (frs X.stack) ch H H' s.heap h') (hok : HOk X.prog X.w H' h') (hg : AllBare g')
    (hch : ∀ b ∈ ch, (b ∈ X.ex \/ X.s₀.heap.objs.size <= b) /\ b ≠ X.env.locals /\ (∀ x c, X.env.cells.lookup x = some c -> c ≠ b) /\ ∀ p ∈ X.pn ++ pins, p.1 ≠ b) :
    Inv X pins σ H' { s with heap := h', gens := g', drawn := d', toks := t' } := by
  obtain ⟨m, ⟨o, es, ep, ho, r⟩, _⟩ := id I.loc
  obtain ⟨sl, hL⟩ := u.any ho I.free fun z => (hch _ z).2.1 rfl
  exact I.step (ch := ch) hch (fun b o hL hb hc e n => u.keep b o e n (fun z => (List.mem_cons.mp (I.stkSub b z)).elim hL hb) hc) (fun b o _ _ hc e n => u.any e n hc) (fun b o hc e n => u.free b o e n hc) (fun b o hc e => u.there b o e hc) u.tups u.frzs u.tbls (fun m' hm => by
    obtain ⟨o', es', ep', ho', r'⟩ := hm
    rw [ho] at ho'; cases ho'
    exact ⟨_, es', ep', hL, r'⟩) hok hg
theorem Inv.turned {t' : Nat} {it : Addr} (I : Inv X pins σ H s) (k : ∀ b o, b ≠ it -> s.heap.get? b = some o -> h'.get? b = some o) (hn : H it = none) (hL : it ≠ X.env.locals)
    (h1 : it ∈ X.ex \/ X.s₀.heap.objs.size <= it) (h2 : ∀ x c, X.env.cells.lookup x = some c -> c ≠ it) (h3 : ∀ p ∈ X.pn ++ pins, p.1 ≠ it) : Inv X pins σ H { s with heap := h', toks := t' } := by
  have nit : ∀ b u, H b = some u -> b ≠ it := fun b u e z => by rw [z, hn] at e; cases e
  refine I.step (g' := s.gens) (d' := s.drawn) (ch := [it]) (fun b hb => ?_) (fun b o _ _ hc e _ => k b o (fun z => hc (by simp [z])) e) (fun b o _ _ hc e _ => ⟨o.slots, k b o (fun z => hc (by simp [z])) e⟩) (fun _ _ _ _ n => n)
    (fun b o hc e => ⟨o, k b o (fun z => hc (by simp [z])) e⟩) (fun _ _ e => e) (fun _ _ _ e => e) (fun b ps e => ⟨#[], by rw [e]; simp⟩) (fun m hm => ?_) (fun b u e => ?_) I.bare
  · have e : b = it := by simpa using hb
    subst e
    exact ⟨h1, hL, h2, h3⟩
  · obtain ⟨o, es, ep, ho, r⟩ := hm
    exact ⟨o, es, ep, k _ o (Ne.symm hL) ho, r⟩
  · refine (I.hok b u e).stay (fun c v hc q => k c v ?_ q) (fun _ q => q) fun _ _ q => q
    rcases hc with z | z
    · rw [z]; exact nit b u e
    · exact nit c _ z
theorem Inv.tok (I : Inv X pins σ H s) (t : Nat) : Inv X pins σ H { s with toks := t } := I.un (h' := s.heap) (t' := t) Un.refl I.hok
theorem Inv.kept {t' : Nat} (I : Inv X pins σ H s) (k : ∀ b u, s.heap.get? b = some u -> h'.get? b = some u) : Inv X pins σ H { s with heap := h', toks := t' } := I.un (Un.kept k) (I.hok.kept k)
theorem Inv.laid {a : Addr} {o : HO} {t' : Nat} (I : Inv X pins σ H s) (k : ∀ b u, s.heap.get? b = some u -> h'.get? b = some u) (hp : s.heap.objs.size <= a) (new : zbi X.prog X.w (upd H a o) h' a o) :
    Inv X pins σ (upd H a o) { s with heap := h', toks := t' } := I.un (Un.laid k hp (I.hok.fresh hp)) (I.hok.laid k hp new)
theorem Inv.write {x e : Addr} {o : HO} {t' : Nat} (I : Inv X pins σ H s) (mu : Mut (H x)) (he : e = x \/ H e = some (.own x)) (k : ∀ b u, b ≠ e -> s.heap.get? b = some u -> h'.get? b = some u) (heo : ∃ u, h'.get? e = some u)
    (new : zbi X.prog X.w (upd H x o) h' x o) : Inv X pins σ (upd H x o) { s with heap := h', toks := t' } := I.un (Un.write mu he k heo) (I.hok.write mu he k heo new)
theorem Inv.weak {σ' : List (Option V)} (I : Inv X pins σ H s) (hl : σ'.length = σ.length) (w : ∀ (i : Nat) v, σ'[i]? = some (some v) -> σ[i]? = some (some v)) : Inv X pins σ' H s :=
  ⟨I.ok, I.os, I.bare, I.base, let ⟨m, hn, hl'⟩ := I.loc; ⟨m, hn, fun i x v e1 e2 e3 => hl' i x v e1 (w i v e2) e3⟩, I.cell, I.free, I.freeC, I.pin, I.hok, hl.trans I.len⟩
theorem Inv.pins_of {pins' : List (Addr × Obj)} (I : Inv X pins σ H s) (h : ∀ p ∈ pins', s.heap.get? p.1 = some p.2 /\ H p.1 = none /\ p.1 ≠ X.env.locals /\ p.1 ∉ X.fs /\ ∀ v, p.2.data ≠ .cell v) : Inv X pins' σ H s :=
  ⟨I.ok, I.os, I.bare, I.base, I.loc, I.cell, I.free, I.freeC, fun p hp => (List.mem_append.mp hp).elim (fun z => I.pin p (List.mem_append_left _ z)) (h p), I.hok, I.len⟩
theorem zl6 {N : List Str} (hN : N.Nodup) {i j : Nat} {x : Str} (a : N[i]? = some x) (b : N[j]? = some x) : i = j := by
  obtain ⟨h1, e1⟩ := List.getElem?_eq_some_iff.mp a
  obtain ⟨h2, e2⟩ := List.getElem?_eq_some_iff.mp b
  exact (List.getElem_inj hN).mp (e1.trans e2.symm)
theorem zor {M : Model} {A : Around} {E : Value -> Shared -> Prop} {i : Nat} {x : Str} {v : V} {u : Value} {Q : Unit -> Shared -> Prop} (I : Inv X pins σ H s) (hN : X.N.Nodup) (hi : X.N[i]? = some x) (hx : Loc X.env.scope x) (r : zag v u)
    (h : ∀ s', Inv X pins (σ.set i (some v)) H s' -> (∃ a, Heap.SameBut a s.heap s'.heap /\ (a = X.env.locals \/ X.env.cells.lookup x = some a)) -> Q () s') (hf : X.fn x = true \/ X.env.scope.names.lookup x = some .local := by first | exact .inl rfl | exact .inr rfl | assumption) : wpAny M A (storeName X.env x u) Q E s := by
  obtain ⟨m, hn, hl⟩ := id I.loc
  have hcls : (X.env.scope.kind == .class || (X.env.scope.kind == .module && X.env.locals != X.env.globals)) = false := by rw [I.ok.kind]; rfl
  have hiσ : i < σ.length := by rw [I.len]; exact (List.getElem?_eq_some_iff.mp hi).1
  have cne := I.cne
  have tracked : ∀ {a : Addr} {h' : Heap}, (∃ o, s.heap.get? a = some o /\ H a = none) -> Heap.SameBut a s.heap h' -> HOk X.prog X.w H h' := fun {a h'} ha hs b ob e => by
    obtain ⟨_, _, hfree⟩ := ha
    refine (I.hok b ob e).stay (fun c w' hc q => (hs.2 c ?_).trans q) (fun _ q => q) fun _ _ q => q
    rintro rfl
    rcases hc with rfl | hc
    · rw [hfree] at e; cases e
    · rw [hfree] at hc; cases hc
  rcases hx with hk | hk
  · refine wpAny_storeName_local hk hn (fun h' hn' hs => ?_) hcls
    obtain ⟨oL, _, _, hoL, _⟩ := id hn
    refine h _ ⟨I.ok, I.os, I.bare, ⟨fun b o e n hb hx => ?_, fun b o e n hb hx => ?_, I.base.free, fun b o e hx => ?_, I.base.tups, I.base.frzs, I.base.tbls⟩, ⟨_, hn', fun j y v' e1 e2 e3 => ?_⟩, fun y c e => ?_, I.free, I.freeC, fun p hp => ?_, tracked ⟨oL, hoL, I.free⟩ hs, by simpa using I.len⟩ ⟨_, hs, .inl rfl⟩
    · exact (hs.2 b (Nat.ne_of_lt (Nat.lt_of_lt_of_le (Heap.lt_size e) I.ok.above))).trans (I.base.keep b o e n hb hx)
    · obtain ⟨sl, e1⟩ := I.base.slot b o e n hb hx
      exact ⟨sl, (hs.2 b (Nat.ne_of_lt (Nat.lt_of_lt_of_le (Heap.lt_size e) I.ok.above))).trans e1⟩
    · obtain ⟨o', e1⟩ := I.base.there b o e hx
      exact ⟨o', (hs.2 b (Nat.ne_of_lt (Nat.lt_of_lt_of_le (Heap.lt_size e) I.ok.above))).trans e1⟩
    · by_cases hj : j = i
      · subst hj
        rw [hi] at e1; cases e1
        rw [List.getElem?_set_self hiσ] at e2
        cases e2
        exact ⟨u, r, .inl ⟨hk, by simp⟩⟩
      · rw [List.getElem?_set_ne (Ne.symm hj)] at e2
        obtain ⟨u', r', q⟩ := hl j y v' e1 e2 e3
        refine ⟨u', r', ?_⟩
        rcases q with ⟨k, e⟩ | ⟨k, c, e, z⟩
        · refine .inl ⟨k, ?_⟩
          have : y ≠ x := fun e => hj (zl6 hN e1 (e ▸ hi))
          simp [this, e]
        · exact .inr ⟨k, c, e, z.sameBut hs (cne y c e)⟩
    · obtain ⟨w', z⟩ := I.cell y c e
      exact ⟨w', z.sameBut hs (cne y c e)⟩
    · obtain ⟨e, n, ne, nf, d⟩ := I.pin p hp
      exact ⟨(hs.2 p.1 ne).trans e, n, ne, nf, d⟩
  · have hfn : X.fn x = true := by
      rcases hf with z | z
      · exact z
      · rw [z] at hk; cases hk
    obtain ⟨c, hc⟩ := I.ok.has x (.inl hk)
    obtain ⟨w', z⟩ := I.cell x c hc
    refine wpAny_storeName_cell I.ok.kind hk hc z (fun h' hc' hs => ?_)
    obtain ⟨oc, hoc, hocd⟩ := id z
    refine h { s with heap := h' } ⟨I.ok, I.os, I.bare, ⟨fun b o e n hb hx => ?_, fun b o e n hb hx => ?_, I.base.free, fun b o e hx => ?_, I.base.tups, I.base.frzs, I.base.tbls⟩, ⟨m, hn.sameBut hs (Ne.symm (cne x c hc)), fun j y v' e1 e2 e3 => ?_⟩, fun y c' e => ?_, I.free, I.freeC, fun p hp => ?_, tracked ⟨oc, hoc, I.freeC x c hc⟩ hs, by simpa using I.len⟩ ⟨c, hs, .inr hc⟩
    · exact (hs.2 b (Nat.ne_of_lt (Nat.lt_of_lt_of_le (Heap.lt_size e) (I.ok.cab x c hfn hc)))).trans (I.base.keep b o e n hb hx)
    · obtain ⟨sl, e1⟩ := I.base.slot b o e n hb hx
      exact ⟨sl, (hs.2 b (Nat.ne_of_lt (Nat.lt_of_lt_of_le (Heap.lt_size e) (I.ok.cab x c hfn hc)))).trans e1⟩
    · obtain ⟨o', e1⟩ := I.base.there b o e hx
      exact ⟨o', (hs.2 b (Nat.ne_of_lt (Nat.lt_of_lt_of_le (Heap.lt_size e) (I.ok.cab x c hfn hc)))).trans e1⟩
    · by_cases hj : j = i
      · subst hj
        rw [hi] at e1; cases e1
        rw [List.getElem?_set_self hiσ] at e2
        cases e2
        exact ⟨u, r, .inr ⟨.inl hk, c, hc, hc'⟩⟩
      · rw [List.getElem?_set_ne (Ne.symm hj)] at e2
        obtain ⟨u', r', q⟩ := hl j y v' e1 e2 e3
        refine ⟨u', r', ?_⟩
        rcases q with q | ⟨k, c', e, z'⟩
        · exact .inl q
        · refine .inr ⟨k, c', e, z'.sameBut hs ?_⟩
          rintro rfl
          exact hj (zl6 hN e1 (I.ok.inj _ _ _ e hc ▸ hi))
    · by_cases hcc : c' = c
      · subst hcc; exact ⟨_, hc'⟩
      · obtain ⟨w2, z2⟩ := I.cell y c' e
        exact ⟨w2, z2.sameBut hs hcc⟩
    · obtain ⟨e, n, ne, nf, d⟩ := I.pin p hp
      refine ⟨(hs.2 p.1 ?_).trans e, n, ne, nf, d⟩
      intro q
      rw [q, hoc] at e
      have q' : oc = p.2 := Option.some.inj e
      exact d w' (by rw [<- q']; exact hocd)
theorem zi4 {M : Model} {A : Around} {E : Value -> Shared -> Prop} {i : Nat} {x : Str} {v : V} {u : Value} {Q : Unit -> Shared -> Prop} (I : Inv X pins σ H s) (hN : X.N.Nodup) (hi : X.N[i]? = some x) (hx : Loc X.env.scope x) (r : zag v u)
    (h : ∀ s', Inv X pins (σ.set i (some v)) H s' -> Q () s') (hf : X.fn x = true \/ X.env.scope.names.lookup x = some .local := by first | exact .inl rfl | exact .inr rfl | assumption) : wpAny M A (storeName X.env x u) Q E s :=
  zor I hN hi hx r (fun s' I' _ => h s' I') hf
theorem Inv.call' {s' : Shared} {ch : List Addr} (I : Inv X pins σ H s) (ho : s'.os = s.os) (u : Un (frs X.stack) ch H H' s.heap s'.heap) (hok : HOk X.prog X.w H' s'.heap) (hg : AllBare s'.gens)
    (hch : ∀ b ∈ ch, (b ∈ X.ex \/ X.s₀.heap.objs.size <= b) /\ b ≠ X.env.locals /\ (∀ x c, X.env.cells.lookup x = some c -> c ≠ b) /\ ∀ p ∈ X.pn ++ pins, p.1 ≠ b) : Inv X pins σ H' s' := by
  obtain ⟨h', g', d', t', o'⟩ := s'
  have e : o' = s.os := ho
  subst e
  exact I.call (g' := g') (t' := t') (d' := d') u hok hg hch
end
noncomputable abbrev XK := Value -> Option Addr -> Hp -> Prop
noncomputable abbrev St := List (Option V)
noncomputable abbrev VK := V -> Hp -> Prop
noncomputable abbrev TE := St -> Hp -> VK -> Prop
noncomputable abbrev TT := St -> Hp -> (Bool -> Hp -> Prop) -> Prop
noncomputable abbrev TA := St -> Hp -> (List V -> Hp -> Prop) -> Prop
structure ze1 where
  nx : St -> Hp -> Prop
  rt : VK
  bk : St -> Hp -> Prop := fun _ _ => False
  ct : St -> Hp -> Prop := fun _ _ => False
noncomputable abbrev TS := ze1 -> St -> Hp -> Prop
noncomputable def EP (X : Cx) (pins : List (Addr × Obj)) (σ : St) (Q : VK) (u : Value) (s' : Shared) : Prop := ∃ v H', Inv X pins σ H' s' /\ zag v u /\ Q v H'
noncomputable def TP (X : Cx) (pins : List (Addr × Obj)) (σ : St) (Q : Bool -> Hp -> Prop) (b : Bool) (s' : Shared) : Prop := ∃ H', Inv X pins σ H' s' /\ Q b H'
noncomputable def AP (X : Cx) (pins : List (Addr × Obj)) (σ : St) (Q : List V -> Hp -> Prop) (us : List Value) (s' : Shared) : Prop := ∃ vs H', Inv X pins σ H' s' /\ zaf vs us /\ Q vs H'
noncomputable def SP (X : Cx) (pins : List (Addr × Obj)) (D : ze1) (f : Flow) (s' : Shared) : Prop :=
  match f with
  | .next => ∃ σ' H', Inv X pins σ' H' s' /\ D.nx σ' H'
  | .brk => ∃ σ' H', Inv X pins σ' H' s' /\ D.bk σ' H'
  | .cont => ∃ σ' H', Inv X pins σ' H' s' /\ D.ct σ' H'
  | .ret u => ∃ v σ' H', Inv X pins σ' H' s' /\ zag v u /\ D.rt v H'
noncomputable def PE (X : Cx) (e : Expr) (t : TE) : Prop :=
  ∀ (pins : List (Addr × Obj)) (s : Shared) (σ : St) (H : Hp) (Q : VK), Inv X pins σ H s -> t σ H Q -> wpAny (model X.prog X.w) X.A (eval e X.env) (EP X pins σ Q) X.xe s
noncomputable def PT (X : Cx) (e : Expr) (t : TT) : Prop :=
  ∀ (pins : List (Addr × Obj)) (s : Shared) (σ : St) (H : Hp) (Q : Bool -> Hp -> Prop), Inv X pins σ H s -> t σ H Q -> wpAny (model X.prog X.w) X.A (isTrue e X.env (eval e X.env)) (TP X pins σ Q) X.xe s
noncomputable def PW (X : Cx) (e : Expr) (t : TT) : Prop :=
  ∀ (whole : Sem Value) (pins : List (Addr × Obj)) (s : Shared) (σ : St) (H : Hp) (Q : Bool -> Hp -> Prop), Inv X pins σ H s -> t σ H Q -> wpAny (model X.prog X.w) X.A (isTrue e X.env whole) (TP X pins σ Q) X.xe s
theorem PW.pt {X : Cx} {e : Expr} {t : TT} (h : PW X e t) : PT X e t := h _
noncomputable def PA (X : Cx) (es : List Expr) (t : TA) : Prop :=
  ∀ (pos : Pos) (pins : List (Addr × Obj)) (s : Shared) (σ : St) (H : Hp) (Q : List V -> Hp -> Prop), Inv X pins σ H s -> t σ H Q -> wpAny (model X.prog X.w) X.A (spliced (backTo pos (starEach es X.env))) (AP X pins σ Q) X.xe s
noncomputable def PS (X : Cx) (st : Stmt) (t : TS) : Prop :=
  ∀ (pins : List (Addr × Obj)) (s : Shared) (σ : St) (H : Hp) (D : ze1), Inv X pins σ H s -> t D σ H -> wpAny (model X.prog X.w) X.A (exec st X.env) (SP X pins D) X.xe s
noncomputable def PSs (X : Cx) (st : List Stmt) (t : TS) : Prop :=
  ∀ (pins : List (Addr × Obj)) (s : Shared) (σ : St) (H : Hp) (D : ze1), Inv X pins σ H s -> t D σ H -> wpAny (model X.prog X.w) X.A (execs st X.env) (SP X pins D) X.xe s
theorem thn {α : Type} {t : Sem α} {Q Q' : α -> Shared -> Prop} {M : Model} {A : Around} {E : Value -> Shared -> Prop} {s : Shared} (h : wpAny M A t Q E s) (hQ : ∀ a s, Q a s -> Q' a s) : wpAny M A t Q' E s := wpAny_mono h hQ fun _ _ x => x
end L2
namespace L2
open PySem PySem.Spec PyProof.Rows
section
variable {X : Cx}
noncomputable def zef (i : Nat) : TE := fun σ H Q => ∃ v, σ[i]? = some (some v) /\ Q v H
noncomputable def tC (v : V) : TE := fun _ H Q => Q v H
theorem ze6 {i : Nat} {x : Str} {pos : Pos} (hN : X.N[i]? = some x) (hv : Vis X.env.scope x) (hd : (x == ("__debug__" : Str)) = false := by decide) (hcd : (x == ("__classdict__" : Str)) = false := by decide) : PE X (.Name x pos) (zef i) := by
  intro pins s σ H Q I h
  obtain ⟨v, e, h⟩ := h
  obtain ⟨m, hn, hl⟩ := I.loc
  obtain ⟨u, r, l⟩ := hl i x v hN e hv
  have fin : EP X pins σ Q u s := ⟨v, H, I, r, h⟩
  rcases l with ⟨hk, hm⟩ | ⟨hk, c, hc, hcell⟩
  · exact wpAny_Name (wpAny_loadName_local I.ok.kind hk hn hm fin) hd
  · rcases hk with hk | hk
    · exact wpAny_Name (wpAny_loadName_cell I.ok.kind hk hc hcell fin) hd
    · exact wpAny_Name (wpAny_loadName_free I.ok.kind hk hc hcell fin hcd) hd
theorem zos {i j pos} : PE X (.Constant (.int i) j pos) (tC (.int i)) := fun _ _ _ H _ I h => wpAny_Constant_int ⟨.int i, H, I.tok _, ⟨_, rfl⟩, h⟩
theorem zti {b j pos} : PE X (.Constant (.bool b) j pos) (tC (.bl b)) := fun _ _ _ H _ I h => Constant_bool ⟨.bl b, H, I, rfl, h⟩
theorem zo6 {x j pos} : PE X (.Constant (.str x) j pos) (tC (.str x)) := fun _ _ _ H _ I h => Calls.Constant_str ⟨.str x, H, I.tok _, ⟨_, rfl⟩, h⟩
noncomputable def Gl (X : Cx) (x : Str) : Prop := X.env.kindOf x = some .globalImplicit
theorem zi9 {E : Value -> Shared -> Prop} {pins : List (Addr × Obj)} {s : Shared} {σ : St} {H : Hp} {x : Str} {u : Value} {pos : Pos} {Q : Value -> Shared -> Prop} (I : Inv X pins σ H s) (hg : Gl X x) (hm : X.mg x = some u) (h : Q u s)
    (hd : (x == ("__debug__" : Str)) = false := by decide) : wpAny (model X.prog X.w) X.A (eval (.Name x pos) X.env) Q E s :=
  Calls.Name_function_global I.ok.kind hg (Calls.loadGlobal_global (by rw [I.ok.glob]; exact I.mod.glob.keeps I.bk) hm h) hd
theorem zgs {E : Value -> Shared -> Prop} {pins : List (Addr × Obj)} {s : Shared} {σ : St} {H : Hp} {x : Str} {u : Value} {pos : Pos} {Q : Value -> Shared -> Prop} (I : Inv X pins σ H s) (hg : Gl X x) (hm : X.mg x = none) (hv : bootBuiltins x = some u) (h : Q u s)
    (hn : x ≠ "__name__" := by decide) (hd : (x == ("__debug__" : Str)) = false := by decide) : wpAny (model X.prog X.w) X.A (eval (.Name x pos) X.env) Q E s := by
  obtain ⟨mb, h1, h2⟩ := I.mod.blt
  exact Calls.Name_function_global I.ok.kind hg (Calls.loadGlobal_builtin (by rw [I.ok.glob]; exact I.mod.glob.keeps I.bk) hm (by rw [I.ok.blt]; exact h1.keeps I.bk) ((h2 x hn).trans hv) h) hd
theorem zkl {x : Str} {v : V} {u : Value} {pos : Pos} (hg : Gl X x) (hm : X.mg x = some u) (r : zag v u) (hd : (x == ("__debug__" : Str)) = false := by decide) : PE X (.Name x pos) (tC v) :=
  fun _ _ _ H _ I h => zi9 I hg hm ⟨v, H, I, r, h⟩ hd
theorem zr4 {x : Str} {v : V} {u : Value} {pos : Pos} (hg : Gl X x) (hm : X.mg x = none) (hv : bootBuiltins x = some u) (r : zag v u) (hn : x ≠ "__name__" := by decide) (hd : (x == ("__debug__" : Str)) = false := by decide) : PE X (.Name x pos) (tC v) :=
  fun _ _ _ H _ I h => zgs I hg hm hv ⟨v, H, I, r, h⟩ hn hd
variable {a b : Expr} {ta tb : TE} {pos : Pos}
variable {tA tB' : TT} {zav : List Expr}
noncomputable def tOr (t u : TT) : TT := fun σ H Q => t σ H fun c H1 => if c = true then Q true H1 else u σ H1 Q
noncomputable def zt4 (t : TT) : TT := fun σ H Q => t σ H fun c H1 => Q (!c) H1
theorem zrh (ha : PT X a tA) : PW X (.BoolOp .Or [a] pos) tA := by
  intro wh pins s σ H Q I h
  refine isTrue_or (thn (ha pins s σ H Q I h) fun c s1 e => ?_)
  cases c with
  | false => exact isTrue_or_nil e
  | true => exact e
theorem zp0 (ha : PT X a tA) (hb : PW X (.BoolOp .Or (b :: zav) pos) tB') : PW X (.BoolOp .Or (a :: b :: zav) pos) (tOr tA tB') := by
  intro wh pins s σ H Q I h
  refine isTrue_or (thn (ha pins s σ H _ I h) fun c s1 ⟨H1, I1, q1⟩ => ?_)
  cases c with
  | true => exact ⟨H1, I1, q1⟩
  | false => exact hb wh pins s1 σ H1 Q I1 q1
theorem zou (ha : PT X a tA) : PT X (.UnaryOp .Not a pos) (zt4 tA) := by
  intro pins s σ H Q I h
  exact isTrue_not (ha pins s σ H (fun c H1 => Q (!c) H1) I h)
noncomputable def zqq (ta tb : TE) : TE := fun σ H Q => ta σ H fun x H1 => ∃ c, x = .bl c /\ if c = true then tb σ H1 Q else Q (.bl false) H1
noncomputable def zon (ta tb : TE) : TE := fun σ H Q => ta σ H fun x H1 => ∃ c, x = .bl c /\ if c = true then Q (.bl true) H1 else tb σ H1 Q
noncomputable def zur (ta : TE) : TE := fun σ H Q => ta σ H fun x H1 => ∃ c, x = .bl c /\ Q (.bl (!c)) H1
theorem zuo {op} {t : TE} (h : PE X a t) : PE X (.BoolOp op [a] pos) t := fun pins s σ H Q I hw => BoolOp_one (h pins s σ H Q I hw)
theorem zvh (ha : PE X a ta) (hb : PE X (.BoolOp .And (b :: zav) pos) tb) : PE X (.BoolOp .And (a :: b :: zav) pos) (zqq ta tb) := by
  intro pins s σ H Q I h
  refine BoolOp_and (thn (ha pins s σ H _ I h) fun v s1 ⟨x, H1, I1, r1, q1⟩ => ?_)
  obtain ⟨c, rfl, q1⟩ := q1
  cases r1
  refine wpAny_truthy_bool ?_
  cases c with
  | true => exact hb pins s1 σ H1 Q I1 q1
  | false => exact ⟨.bl false, H1, I1, rfl, q1⟩
theorem zpm (ha : PE X a ta) (hb : PE X (.BoolOp .Or (b :: zav) pos) tb) : PE X (.BoolOp .Or (a :: b :: zav) pos) (zon ta tb) := by
  intro pins s σ H Q I h
  refine BoolOp_or (thn (ha pins s σ H _ I h) fun v s1 ⟨x, H1, I1, r1, q1⟩ => ?_)
  obtain ⟨c, rfl, q1⟩ := q1
  cases r1
  refine wpAny_truthy_bool ?_
  cases c with
  | false => exact hb pins s1 σ H1 Q I1 q1
  | true => exact ⟨.bl true, H1, I1, rfl, q1⟩
theorem zsk (ha : PE X a ta) : PE X (.UnaryOp .Not a pos) (zur ta) := by
  intro pins s σ H Q I h
  refine UnaryOp_ (thn (ha pins s σ H _ I h) fun v s1 ⟨x, H1, I1, r1, q1⟩ => ?_)
  obtain ⟨c, rfl, q1⟩ := q1
  cases r1
  exact not_of (wpAny_truthy_bool ⟨.bl (!c), H1, I1, rfl, q1⟩)
noncomputable def tIf (t : TT) (ta tb : TE) : TE := fun σ H Q => t σ H fun c H1 => if c = true then ta σ H1 Q else tb σ H1 Q
theorem zo0 {c : Expr} (hc : PT X c tA) (ha : PE X a ta) (hb : PE X b tb) : PE X (.IfExp c a b pos) (tIf tA ta tb) := by
  intro pins s σ H Q I h
  refine wpAny_IfExp (thn (hc pins s σ H _ I h) fun d s1 ⟨H1, I1, q1⟩ => ?_)
  cases d with
  | true => exact ha pins s1 σ H1 Q I1 q1
  | false => exact hb pins s1 σ H1 Q I1 q1
end
end L2
namespace L2
open PySem PySem.Spec PyProof.Rows
noncomputable def SqL (K : PySem.W.Frag) (H : Hp) (a : Addr) (xs : List V) : Prop :=
  Rd H a (.lst xs) \/
    ∃ (o : Obj) (its : Array Value) (n : Nat), K.lookup a = some o /\ o.cls = .type "list" /\ o.dict = none /\ o.data = .seq its n /\ its.size <= sizeLine /\ zaf xs its.toList
noncomputable def SqT (K : PySem.W.Frag) (H : Hp) (a : Addr) (xs : List V) : Prop :=
  Rd H a (.tup xs) \/
    ∃ (o : Obj) (its : Array Value) (n : Nat), K.lookup a = some o /\ o.cls = .type "tuple" /\ o.data = .seq its n /\ its.size <= sizeLine /\ zaf xs its.toList
noncomputable def zsd : Value -> Option V
  | .none => some .non
  | .bool b => some (.bl b)
  | .int i _ => some (.int i)
  | .str x _ => some (.str x)
  | .bytes b _ => some (.byt b)
  | .float b _ => some (.flt b)
  | .ref a => some (.ref a)
  | .type n => some (.ty n)
  | _ => none
theorem zag.abs {x : V} {u : Value} (r : zag x u) : zsd u = some x := by
  cases x with
  | non => cases r; rfl
  | bl _ => cases r; rfl
  | int _ => obtain ⟨t, rfl⟩ := r; rfl
  | str _ => obtain ⟨t, rfl⟩ := r; rfl
  | byt _ => obtain ⟨t, rfl⟩ := r; rfl
  | flt _ => obtain ⟨t, rfl⟩ := r; rfl
  | ref _ => cases r; rfl
  | ty _ => cases r; rfl
theorem zag.inj {x y : V} {u : Value} (r : zag x u) (q : zag y u) : x = y := Option.some.inj (r.abs.symm.trans q.abs)
theorem zaf.inj : ∀ {xs ys : List V} {us : List Value}, zaf xs us -> zaf ys us -> xs = ys
  | _, _, _, .nil, .nil => rfl
  | _, _, _, .cons r t, .cons r' t' => by rw [r.inj r', zaf.inj t t']
section
variable {X : Cx} {pins : List (Addr × Obj)} {σ : St} {H : Hp} {s : Shared} {a : Addr} {xs ys : List V}
theorem SqL.of {K : PySem.W.Frag} (h : H a = some (.lst xs)) : SqL K H a xs := .inl (.inl h)
theorem SqT.of {K : PySem.W.Frag} (h : H a = some (.tup xs)) : SqT K H a xs := .inl (.inl h)
theorem Inv.list (I : Inv X pins σ H s) (h : SqL X.K H a xs) : ∃ its : List Value, zaf xs its /\ PlainL s.heap a its.toArray /\ xs.length <= sizeLine := by
  rcases h with h | ⟨o, its, n, hk, hc, hd, hs, hz, r⟩
  · obtain ⟨z, its, n, r, e⟩ := h.ok I.hok
    exact ⟨its, r, ⟨_, n, e, rfl, rfl, rfl⟩, z⟩
  · refine ⟨its.toList, r, ⟨o, n, I.kIn a o hk, hc, hd, by simpa using hs⟩, ?_⟩
    have e := r.length
    simp only [Array.length_toList] at e
    omega
theorem Inv.tuple (I : Inv X pins σ H s) (h : SqT X.K H a xs) : ∃ its : List Value, zaf xs its /\ IsTup s.heap a its.toArray /\ xs.length <= sizeLine := by
  rcases h with h | ⟨o, its, n, hk, hc, hs, hz, r⟩
  · obtain ⟨z, its, r, p⟩ := h.ok I.hok
    exact ⟨its, r, p, z⟩
  · refine ⟨its.toList, r, ⟨o, I.kIn a o hk, hc, n, by simpa using hs⟩, ?_⟩
    have e := r.length
    simp only [Array.length_toList] at e
    omega
theorem Inv.list_inj (I : Inv X pins σ H s) (h : SqL X.K H a xs) (h' : SqL X.K H a ys) : xs = ys := by
  obtain ⟨its, r, ⟨o, n, e, _, _, d⟩, _⟩ := I.list h
  obtain ⟨its', r', ⟨o', n', e', _, _, d'⟩, _⟩ := I.list h'
  rw [e] at e'; cases e'
  rw [d] at d'
  injection d' with d1 _
  have : its = its' := by simpa using congrArg Array.toList d1
  subst this
  exact r.inj r'
theorem Inv.tuple_inj (I : Inv X pins σ H s) (h : SqT X.K H a xs) (h' : SqT X.K H a ys) : xs = ys := by
  obtain ⟨its, r, ⟨o, e, _, n, d⟩, _⟩ := I.tuple h
  obtain ⟨its', r', ⟨o', e', _, n', d'⟩, _⟩ := I.tuple h'
  rw [e] at e'; cases e'
  rw [d] at d'
  injection d' with d1 _
  have : its = its' := by simpa using congrArg Array.toList d1
  subst this
  exact r.inj r'
end
noncomputable abbrev Cx.wish (X : Cx) (E : Value -> Shared -> Prop) : Cx := { X with xe := E }
noncomputable abbrev Cx.nox (X : Cx) : Cx := X.wish fun _ _ => False
theorem Cx.Ok.wish {X : Cx} (ok : X.Ok) (E : Value -> Shared -> Prop) : (X.wish E).Ok :=
  ⟨ok.mod, ok.kind, ok.glob, ok.blt, ok.above, ok.inj, ok.has, ok.cab, ok.hd, ok.frames, ok.stk, ok.exf, ok.bs, ok.bsz, ok.noex, ok.exfs, ok.funs, ok.frf⟩
theorem Cx.Ok.unwish {X : Cx} {E : Value -> Shared -> Prop} (ok : (X.wish E).Ok) : X.Ok :=
  ⟨ok.mod, ok.kind, ok.glob, ok.blt, ok.above, ok.inj, ok.has, ok.cab, ok.hd, ok.frames, ok.stk, ok.exf, ok.bs, ok.bsz, ok.noex, ok.exfs, ok.funs, ok.frf⟩
section
variable {X : Cx} {pins : List (Addr × Obj)} {σ : St} {H : Hp} {s : Shared} {E : Value -> Shared -> Prop}
theorem Inv.wish (I : Inv X pins σ H s) (E : Value -> Shared -> Prop) : Inv (X.wish E) pins σ H s := ⟨I.ok.wish E, I.os, I.bare, I.base, I.loc, I.cell, I.free, I.freeC, I.pin, I.hok, I.len⟩
theorem Inv.unwish (I : Inv (X.wish E) pins σ H s) : Inv X pins σ H s := ⟨I.ok.unwish, I.os, I.bare, I.base, I.loc, I.cell, I.free, I.freeC, I.pin, I.hok, I.len⟩
theorem SP.unwish {D : ze1} {f : Flow} {s' : Shared} (h : SP (X.wish E) pins D f s') : SP X pins D f s' := by
  cases f with
  | next => obtain ⟨σ', H', I, q⟩ := h; exact ⟨σ', H', I.unwish, q⟩
  | brk => obtain ⟨σ', H', I, q⟩ := h; exact ⟨σ', H', I.unwish, q⟩
  | cont => obtain ⟨σ', H', I, q⟩ := h; exact ⟨σ', H', I.unwish, q⟩
  | ret u => obtain ⟨v, σ', H', I, r, q⟩ := h; exact ⟨v, σ', H', I.unwish, r, q⟩
theorem PE.nox {e : Expr} {t : TE} (h : PE X.nox e t) : PE X e t := fun pins s σ H Q I hw =>
  wpAny_mono (h pins s σ H Q (I.wish _) hw) (fun _ _ ⟨v, H', I', r, q⟩ => ⟨v, H', I'.unwish, r, q⟩) fun _ _ z => False.elim z
theorem PT.nox {e : Expr} {t : TT} (h : PT X.nox e t) : PT X e t := fun pins s σ H Q I hw =>
  wpAny_mono (h pins s σ H Q (I.wish _) hw) (fun _ _ ⟨H', I', q⟩ => ⟨H', I'.unwish, q⟩) fun _ _ z => False.elim z
theorem PSs.nox {st : List Stmt} {t : TS} (h : PSs X.nox st t) : PSs X st t := fun pins s σ H D I hw =>
  wpAny_mono (h pins s σ H D (I.wish _) hw) (fun _ _ q => q.unwish) fun _ _ z => False.elim z
end
section
variable {X : Cx} {st : Stmt} {zav : List Stmt} {t u : TS} {e : Expr} {te : TE} {pos : Pos}
noncomputable def zty : TS := fun D σ H => D.nx σ H
noncomputable def zs6 (t u : TS) : TS := fun D σ H => t { D with nx := u D } σ H
theorem zuj : PSs X [] zty := fun _ _ σ H _ I h => wpAny_execs_nil ⟨σ, H, I, h⟩
theorem zpz (h1 : PS X st t) (h2 : PSs X zav u) : PSs X (st :: zav) (zs6 t u) := by
  intro pins s σ H D I h
  refine wpAny_execs_cons (thn (h1 pins s σ H { D with nx := u D } I h) fun f s1 q => ?_)
  cases f with
  | next =>
    obtain ⟨σ', H', I', q⟩ := q
    exact h2 pins s1 σ' H' D I' q
  | ret v => exact q
  | brk => exact q
  | cont => exact q
theorem zvg (h1 : PS X st t) : PSs X [st] t := by
  intro pins s σ H D I h
  refine wpAny_execs_cons (thn (h1 pins s σ H D I h) fun f s1 q => ?_)
  cases f with
  | next => exact wpAny_execs_nil q
  | ret v => exact q
  | brk => exact q
  | cont => exact q
noncomputable def zsl (te : TE) : TS := fun D σ H => te σ H D.rt
theorem zhg (he : PE X e te) : PS X (.Return (some e) pos) (zsl te) := by
  intro pins s σ H D I h
  exact wpAny_Return_some (thn (he pins s σ H _ I h) fun v s1 ⟨x, H1, I1, r1, q1⟩ => ⟨x, σ, H1, I1, r1, q1⟩)
noncomputable def zus (c : TT) (t u : TS) : TS := fun D σ H => c σ H fun b H1 => if b = true then t D σ H1 else u D σ H1
theorem zny {c : Expr} {a b : List Stmt} {tc : TT} (hc : PT X c tc) (ha : PSs X a t) (hb : PSs X b u) : PS X (.If c a b pos) (zus tc t u) := by
  intro pins s σ H D I h
  refine wpAny_If (thn (hc pins s σ H _ I h) fun d s1 ⟨H1, I1, q1⟩ => ?_)
  cases d with
  | true => exact ha pins s1 σ H1 D I1 q1
  | false => exact hb pins s1 σ H1 D I1 q1
end
noncomputable abbrev TG := V -> St -> Hp -> (St -> Hp -> Prop) -> Prop
noncomputable abbrev TGs := List V -> St -> Hp -> (St -> Hp -> Prop) -> Prop
noncomputable def PG (X : Cx) (target : Expr) (t : TG) : Prop :=
  ∀ (pins : List (Addr × Obj)) (s : Shared) (σ : St) (H : Hp) (v : V) (u : Value) (Q : St -> Hp -> Prop), Inv X pins σ H s -> zag v u -> t v σ H Q ->
    wpAny (model X.prog X.w) X.A (assign target X.env u) (fun _ s' => ∃ σ' H', Inv X pins σ' H' s' /\ Q σ' H') X.xe s
noncomputable def PGs (X : Cx) (ts : List Expr) (t : TGs) : Prop :=
  ∀ (pins : List (Addr × Obj)) (s : Shared) (σ : St) (H : Hp) (vs : List V) (us : List Value) (Q : St -> Hp -> Prop), Inv X pins σ H s -> zaf vs us -> t vs σ H Q ->
    wpAny (model X.prog X.w) X.A (assignInOrder ((assignEach ts X.env).map (·.2)) us) (fun _ s' => ∃ σ' H', Inv X pins σ' H' s' /\ Q σ' H') X.xe s
noncomputable abbrev zh4 := V -> V -> V -> Hp -> (Hp -> Prop) -> Prop
noncomputable def zkr (X : Cx) (t : zh4) : Prop :=
  ∀ (pins : List (Addr × Obj)) (s : Shared) (σ : St) (H : Hp) (o i v : V) (ov iv u : Value) (Q : Hp -> Prop), Inv X pins σ H s -> zag o ov -> zag i iv -> zag v u -> t o i v H Q ->
    wpAny (model X.prog X.w) X.A (setItem ov iv u) (fun _ s' => ∃ H', Inv X pins σ H' s' /\ Q H') X.xe s
noncomputable abbrev TIp := V -> V -> Hp -> VK -> Prop
noncomputable def PIp (X : Cx) (op : Operator) (t : TIp) : Prop :=
  ∀ (pins : List (Addr × Obj)) (s : Shared) (σ : St) (H : Hp) (x y : V) (v u : Value) (Q : VK), Inv X pins σ H s -> zag x v -> zag y u -> t x y H Q ->
    wpAny (model X.prog X.w) X.A (inplaceOp op v u) (EP X pins σ Q) X.xe s
section
variable {X : Cx} {pos : Pos}
noncomputable def zfp (i : Nat) : TG := fun v σ H Q => Q (σ.set i (some v)) H
theorem zl9 {i : Nat} {x : Str} (hN : X.N.Nodup) (hi : X.N[i]? = some x) (hx : Loc X.env.scope x) (hf : X.fn x = true \/ X.env.scope.names.lookup x = some .local := by first | exact .inl rfl | exact .inr rfl | assumption) : PG X (.Name x pos) (zfp i) := by
  intro pins s σ H v u Q I r h
  exact wpAny_assign_Name (zi4 I hN hi hx r (fun s' I' => ⟨_, H, I', h⟩) hf)
noncomputable def zkd (to ti : TE) (t : zh4) : TG := fun v σ H Q => to σ H fun o H1 => ti σ H1 fun i H2 => t o i v H2 fun H3 => Q σ H3
theorem zt5 {o i : Expr} {to ti : TE} {t : zh4} (ho : PE X o to) (hi : PE X i ti) (hs : zkr X t)
    (ha : ∀ v, assign (.Subscript o i pos) X.env v = (do
      let ov <- holding [v] (eval o X.env)
      let iv <- holding [v, ov] (eval i X.env)
      standAt pos
      holding [v, ov, iv] (setItem ov iv v)
      release [v, ov, iv] []) := by intro _; rfl) : PG X (.Subscript o i pos) (zkd to ti t) := by
  intro pins s σ H v u Q I r h
  rw [ha]
  refine wpAny_bind (wpAny_holding (thn (ho pins s σ H _ I h) fun ov s1 ⟨x, H1, I1, r1, q1⟩ => ?_))
  refine wpAny_bind (wpAny_holding (thn (hi pins s1 σ H1 _ I1 q1) fun iv s2 ⟨y, H2, I2, r2, q2⟩ => ?_))
  refine wpAny_bind (wpAny_standAt (wpAny_bind (wpAny_holding (thn (hs pins s2 σ H2 x y v ov iv u _ I2 r1 r2 r q2) fun _ s3 ⟨H3, I3, q3⟩ => ?_))))
  exact wpAny_release ⟨σ, H3, I3, q3⟩
noncomputable def zf8 (te : TE) (g : TG) : TS := fun D σ H => te σ H fun x H1 => g x σ H1 D.nx
theorem zog {tg e : Expr} {te : TE} {g : TG} (he : PE X e te) (hg : PG X tg g) (hs : swapsWithSole [tg] e pos.line X.env = pure false := by rfl) (hw : swappedStores [tg] e X.env = pure none := by rfl)
    (h1 : (assignEach [tg] X.env).map (·.2) = [assign tg X.env] := by rfl) : PS X (.Assign [tg] e pos) (zf8 te g) := by
  intro pins s σ H D I h
  refine wpAny_Assign_stores (thn (he pins s σ H _ I h) fun v s1 ⟨x, H1, I1, r1, q1⟩ => ?_) hs hw
  rw [h1]
  exact thn (hg pins s1 σ H1 x v _ I1 r1 q1) fun _ s2 q => q
theorem zjg {i : Nat} {x : Str} {e : Expr} {te : TE} {pos' : Pos} (hN : X.N.Nodup) (hi : X.N[i]? = some x) (hx : Loc X.env.scope x) (he : PE X e te) (hs : swapsWith e (some (.Name x pos')) pos.line X.env = pure false := by rfl) (hf : X.fn x = true \/ X.env.scope.names.lookup x = some .local := by first | exact .inl rfl | exact .inr rfl | assumption) :
    PS X (.Assign [.Name x pos'] e pos) (zf8 te (zfp i)) := by
  intro pins s σ H D I h
  refine wpAny_Assign_Name (thn (he pins s σ H _ I h) fun v s1 ⟨y, H1, I1, r1, q1⟩ => ?_) hs
  exact zi4 I1 hN hi hx r1 (fun s2 I2 => ⟨_, H1, I2, q1⟩) hf
noncomputable def zpy (i : Nat) (te : TE) (ti : TIp) : TS := fun D σ H => ∃ x, σ[i]? = some (some x) /\ te σ H fun y H1 => ti x y H1 fun z H2 => D.nx (σ.set i (some z)) H2
theorem zu4 {i : Nat} {x : Str} {e : Expr} {te : TE} {op : Operator} {ti : TIp} {pos' : Pos} (hN : X.N.Nodup) (hi : X.N[i]? = some x) (hx : Loc X.env.scope x) (he : PE X e te) (ho : PIp X op ti) (hf : X.fn x = true \/ X.env.scope.names.lookup x = some .local := by first | exact .inl rfl | exact .inr rfl | assumption) :
    PS X (.AugAssign (.Name x pos') op e pos) (zpy i te ti) := by
  intro pins s σ H D I h
  obtain ⟨v, e1, h⟩ := h
  obtain ⟨m, hn, hl⟩ := I.loc
  have vis : Vis X.env.scope x := by rcases hx with k | k; exact .inl k; exact .inr (.inl k)
  obtain ⟨u, r, l⟩ := hl i x v hi e1 vis
  refine wpAny_AugAssign_Name ?_
  have go : wpAny (model X.prog X.w) X.A (eval e X.env) (fun w s₂ => wpAny (model X.prog X.w) X.A (inplaceOp op u w) (fun r s₃ => wpAny (model X.prog X.w) X.A (storeName X.env x r) (fun _ => SP X pins D .next) X.xe s₃) X.xe s₂) X.xe s := by
    refine thn (he pins s σ H _ I h) fun w s1 ⟨y, H1, I1, r1, q1⟩ => ?_
    refine thn (ho pins s1 σ H1 v y u w _ I1 r r1 q1) fun z s2 ⟨zv, H2, I2, r2, q2⟩ => ?_
    exact zi4 I2 hN hi hx r2 (fun s3 I3 => ⟨_, H2, I3, q2⟩) hf
  rcases l with ⟨hk, hm⟩ | ⟨hk, c, hc, hcell⟩
  · exact wpAny_loadName_local I.ok.kind hk hn hm go
  · rcases hk with hk | hk
    · exact wpAny_loadName_cell I.ok.kind hk hc hcell go
    · rcases hx with k | k
      · have : X.env.scope.names.lookup x = some .free := hk
        rw [k] at this; cases this
      · have : X.env.scope.names.lookup x = some .free := hk
        rw [k] at this; cases this
noncomputable def ipI (f : Int -> Int -> Int) : TIp := fun x y H Q => ∃ i j, x = .int i /\ y = .int j /\ Q (.int (f i j)) H
theorem zt0 : PIp X .Add (ipI fun i j => i + j) := by
  intro pins s σ H x y v u Q I r1 r2 h
  obtain ⟨i, j, e1, e2, q⟩ := h
  subst e1; subst e2
  obtain ⟨t, rfl⟩ := r1
  obtain ⟨t', rfl⟩ := r2
  exact iadd_int ⟨.int _, H, I.tok _, ⟨_, rfl⟩, q⟩
end
section
variable {X : Cx} {pos : Pos}
end
structure It where
  go : Nat -> Hp -> Prop
  yld : Nat -> Hp -> V -> Hp -> Prop
  stop : Nat -> Hp -> Prop
noncomputable def zdu (X : Cx) (pins : List (Addr × Obj)) (H : Hp) (b : Addr) : Prop :=
  H b = none /\ b ≠ X.env.locals /\ b ∉ X.fs /\ (b ∈ X.ex \/ X.s₀.heap.objs.size <= b) /\ (∀ x c, X.env.cells.lookup x = some c -> c ≠ b) /\ ∀ p ∈ X.pn ++ pins, p.1 ≠ b
theorem Inv.fpOk {X : Cx} {pins : List (Addr × Obj)} {σ : St} {H H' : Hp} {s : Shared} {b : Addr} (I : Inv X pins σ H s) (hb : s.heap.objs.size <= b) (hn : H' b = none) : zdu X pins H' b := by
  refine ⟨hn, Nat.ne_of_gt (Nat.lt_of_lt_of_le I.lt hb), I.nofs hb, .inr (Nat.le_trans I.sz hb), fun x c e z => ?_, fun p hp z => ?_⟩
  · obtain ⟨v, q⟩ := I.cell x c e
    exact absurd (Nat.lt_of_lt_of_le q.lt (by rw [z]; exact hb)) (Nat.lt_irrefl _)
  · exact absurd (Nat.lt_of_lt_of_le (Heap.lt_size (I.pin p hp).1) (by rw [z]; exact hb)) (Nat.lt_irrefl _)
structure zfe (P : Program) (w : World) (K : PySem.W.Frag) (tg : Expr) (J : It) (fp : List Addr) (it : Addr) (tn : Nat -> Heap -> Prop) : Prop where
  mem : it ∈ fp
  obj : ∀ i h, tn i h -> ∀ b ∈ fp, ∃ o, h.get? b = some o /\ ∀ v, o.data ≠ .cell v
  keep : ∀ i h h', tn i h -> (∀ b ∈ fp, ∀ o, h.get? b = some o -> h'.get? b = some o) -> tn i h'
  item : ∀ (X : Cx), X.prog = P -> X.w = w -> X.K = K -> X.calm = true -> ∀ (i : Nat) (pins : List (Addr × Obj)) (s : Shared) (σ : St) (H : Hp) (E : Value -> Shared -> Prop), Inv X pins σ H s -> (∀ b ∈ fp, zdu X pins H b) -> tn i s.heap -> J.go i H ->
    wpAny (model P w) X.A (pyNext (.ref it)) (fun r s1 => ∃ u, r = some u /\
      wpAny (model P w) X.A (letOwnedTupleGo tg (.ref it) u) (fun _ s2 => ∃ x H', Inv X pins σ H' s2 /\ zag x u /\ J.yld i H x H' /\ tn (i + 1) s2.heap /\ ∀ b ∈ fp, H' b = none) E s1) E s
  done : ∀ (X : Cx), X.prog = P -> X.w = w -> X.K = K -> X.calm = true -> ∀ (i : Nat) (pins : List (Addr × Obj)) (s : Shared) (σ : St) (H : Hp) (E : Value -> Shared -> Prop), Inv X pins σ H s -> (∀ b ∈ fp, zdu X pins H b) -> tn i s.heap -> J.stop i H ->
    wpAny (model P w) X.A (pyNext (.ref it)) (fun r s1 => r = none /\ Inv X pins σ H s1) E s
  self : ∀ (A : Around) (i : Nat) (s : Shared) (Q : Value -> Shared -> Prop) (E : Value -> Shared -> Prop), tn i s.heap -> Q (.ref it) s -> wpAny (model P w) A (pyIter (.ref it)) Q E s
noncomputable abbrev TI := St -> Hp -> (It -> Hp -> Prop) -> Prop
noncomputable def PIE (X : Cx) (pins : List (Addr × Obj)) (σ : St) (tg : Expr) (R : It -> Hp -> Prop) (itv : Value) (s2 : Shared) : Prop :=
  ∃ (it : Addr) (fp : List Addr) (tn : Nat -> Heap -> Prop) (J : It) (H' : Hp), itv = .ref it /\ Inv X pins σ H' s2 /\ zfe X.prog X.w X.K tg J fp it tn /\ tn 0 s2.heap /\ (∀ b ∈ fp, zdu X pins H' b) /\ R J H'
noncomputable def PI (X : Cx) (tg iter : Expr) (wi : TI) : Prop :=
  ∀ (pins : List (Addr × Obj)) (s : Shared) (σ : St) (H : Hp) (R : It -> Hp -> Prop), Inv X pins σ H s -> wi σ H R ->
    wpAny (model X.prog X.w) X.A (eval iter X.env) (fun v s1 => wpAny (model X.prog X.w) X.A (pyIter v) (PIE X pins σ tg R) X.xe s1) X.xe s
theorem zhi {M : Model} {A : Around} {E : Value -> Shared -> Prop} {s : Shared} {tg : Expr} {it : Addr} {u : Value} {o : Obj} {n : String} {vs : Array Value} {Q : Unit -> Shared -> Prop} (ho : s.heap.get? it = some o) (hc : o.cls = .type n) (hd : o.data = .fields vs)
    (hn : ["enumerate", "zip", "dict_itemiterator", "dict_reverseitemiterator", "odict_iterator", "itertools.zip_longest", "itertools.pairwise"].contains n = false) (hQ : Q () s) : wpAny M A (letOwnedTupleGo tg (.ref it) u) Q E s := by
  unfold letOwnedTupleGo
  cases tg <;> first
    | exact wpAny_pure hQ
    | (cases u <;> first
        | exact wpAny_pure hQ
        | (refine wpAny_bind (wpAny_load ho ?_)
           rw [hc, hd]
           show wpAny M A (if (["enumerate", "zip", "dict_itemiterator", "dict_reverseitemiterator", "odict_iterator", "itertools.zip_longest", "itertools.pairwise"].contains n && vs[0]? == some (rawInt _)) = true then _ else _) Q E s
           rw [if_neg (by intro h; rw [hn, Bool.false_and] at h; cases h)]
           exact wpAny_pure hQ))
noncomputable def Itl (K : PySem.W.Frag) (a : Addr) : It :=
  ⟨fun i H => ∃ xs x, SqL K H a xs /\ xs[i]? = some x, fun i H x H' => H' = H /\ ∀ xs, SqL K H a xs -> xs[i]? = some x, fun i H => ∃ xs, SqL K H a xs /\ xs.length <= i⟩
noncomputable def Itt (K : PySem.W.Frag) (a : Addr) : It :=
  ⟨fun i H => ∃ xs x, SqT K H a xs /\ xs[i]? = some x, fun i H x H' => H' = H /\ ∀ xs, SqT K H a xs -> xs[i]? = some x, fun i H => ∃ xs, SqT K H a xs /\ xs.length <= i⟩
noncomputable def Itr (lo : Int) (n : Nat) : It := ⟨fun i _ => i < n, fun i H x H' => H' = H /\ x = .int (lo + i), fun i _ => n <= i⟩
theorem zoy {P : Program} {w : World} {K : PySem.W.Frag} {tg : Expr} (a it : Addr) : zfe P w K tg (Itl K a) [it] it (fun i h => h.IsListIter it a i) where
  mem := by simp
  obj := fun i h st b hb => by
    have e : b = it := by simpa using hb
    subst e
    obtain ⟨o, e, c, d⟩ := st
    exact ⟨o, e, fun v z => by rw [d] at z; cases z⟩
  keep := fun i h h' st k => st.at fun o e => k it (by simp) o e
  item := by
    intro X hP hw hK hc i pins s σ H E I hf st hg
    subst hP hw hK
    obtain ⟨xs, x, hq, hx⟩ := hg
    obtain ⟨its, rv, p, hz⟩ := I.list hq
    obtain ⟨u, hu, ru⟩ := rv.get hx
    obtain ⟨f0, f1, f2, f3, f4, f5⟩ := hf it (by simp)
    refine wpAny_pyNext_list_item st p.isList (x := u) (by simpa using hu) fun h' st' sb => ?_
    have I1 : Inv X pins σ H { s with heap := h' } := I.turned (t' := s.toks) (fun b o hb e => (sb.2 b hb).trans e) f0 f1 f3 f4 f5
    obtain ⟨o, e, c, d⟩ := id st'
    exact ⟨u, rfl, zhi (s := { s with heap := h' }) e c d (by decide) ⟨x, H, I1, ru, ⟨rfl, fun ys hy => by rw [I.list_inj hy hq]; exact hx⟩, st', fun b hb => (hf b hb).1⟩⟩
  done := by
    intro X hP hw hK hc i pins s σ H E I hf st hg
    subst hP hw hK
    obtain ⟨xs, hq, hx⟩ := hg
    obtain ⟨its, rv, p, hz⟩ := I.list hq
    obtain ⟨f0, f1, f2, f3, f4, f5⟩ := hf it (by simp)
    have hl := rv.length
    exact wpAny_pyNext_list_end (I.ok.hd hc) st p.isList (by simp; omega) fun h' eb => ⟨rfl, I.turned (t' := s.toks) (fun b o hb e => eb b o hb e) f0 f1 f3 f4 f5⟩
  self := fun _ _ _ _ _ st h => wpAny_pyIter_listiter st h
theorem zq3 {P : Program} {w : World} {K : PySem.W.Frag} {tg : Expr} (a it : Addr) : zfe P w K tg (Itt K a) [it] it (fun i h => h.IsTupleIter it a i) where
  mem := by simp
  obj := fun i h st b hb => by
    have e : b = it := by simpa using hb
    subst e
    obtain ⟨o, e, c, d⟩ := st
    exact ⟨o, e, fun v z => by rw [d] at z; cases z⟩
  keep := fun i h h' st k => st.at fun o e => k it (by simp) o e
  item := by
    intro X hP hw hK hc i pins s σ H E I hf st hg
    subst hP hw hK
    obtain ⟨xs, x, hq, hx⟩ := hg
    obtain ⟨its, rv, p, hz⟩ := I.tuple hq
    obtain ⟨u, hu, ru⟩ := rv.get hx
    obtain ⟨f0, f1, f2, f3, f4, f5⟩ := hf it (by simp)
    refine wpAny_pyNext_tuple_item st (show s.heap.IsTuple a its.toArray from p) (x := u) (by simpa using hu) fun h' st' sb => ?_
    have I1 : Inv X pins σ H { s with heap := h' } := I.turned (t' := s.toks) (fun b o hb e => (sb.2 b hb).trans e) f0 f1 f3 f4 f5
    obtain ⟨o, e, c, d⟩ := id st'
    exact ⟨u, rfl, zhi (s := { s with heap := h' }) e c d (by decide) ⟨x, H, I1, ru, ⟨rfl, fun ys hy => by rw [I.tuple_inj hy hq]; exact hx⟩, st', fun b hb => (hf b hb).1⟩⟩
  done := by
    intro X hP hw hK hc i pins s σ H E I hf st hg
    subst hP hw hK
    obtain ⟨xs, hq, hx⟩ := hg
    obtain ⟨its, rv, p, hz⟩ := I.tuple hq
    obtain ⟨f0, f1, f2, f3, f4, f5⟩ := hf it (by simp)
    have hl := rv.length
    exact wpAny_pyNext_tuple_end (I.ok.hd hc) st (show s.heap.IsTuple a its.toArray from p) (by simp; omega) fun h' eb => ⟨rfl, I.turned (t' := s.toks) (fun b o hb e => eb b o hb e) f0 f1 f3 f4 f5⟩
  self := fun _ _ _ _ _ st h => wpAny_pyIter_tupleiter st h
theorem zsj {P : Program} {w : World} {K : PySem.W.Frag} {tg : Expr} (it : Addr) (lo : Int) (n : Nat) : zfe P w K tg (Itr lo n) [it] it (fun i h => IsRangeIter h it (lo + (i : Nat) * 1) ((n : Int) - (i : Nat)) 1) where
  mem := by simp
  obj := fun i h st b hb => by
    have e : b = it := by simpa using hb
    subst e
    exact ⟨_, st, fun v z => by
      have z' : Data.fields _ = Data.cell v := z
      cases z'⟩
  keep := fun i h h' st k => k it (by simp) _ st
  item := by
    intro X hP hw hK hc i pins s σ H E I hf st hg
    subst hP hw hK
    obtain ⟨f0, f1, f2, f3, f4, f5⟩ := hf it (by simp)
    have W := Walks.range (prog := X.prog) (w := X.w) (I.ok.hd hc) it lo 1 n
    refine W.item i s _ _ hg st fun v h' tk hv st' kk => ?_
    obtain ⟨t, rfl⟩ := hv
    have I1 : Inv X pins σ H { s with heap := h', toks := tk } := I.turned (fun b o hb e => kk b o (by simpa using hb) e) f0 f1 f3 f4 f5
    refine ⟨_, rfl, zhi (s := { s with heap := h', toks := tk }) (n := "range_iterator") st' rfl rfl (by decide) ⟨.int (lo + i), H, I1, ⟨t, ?_⟩, ⟨rfl, rfl⟩, st', fun b hb => (hf b hb).1⟩⟩
    rw [Int.mul_one]
  done := by
    intro X hP hw hK hc i pins s σ H E I hf st hg
    subst hP hw hK
    obtain ⟨f0, f1, f2, f3, f4, f5⟩ := hf it (by simp)
    exact wpAny_pyNext_range_end (I.ok.hd hc) st (by have : n <= i := hg; omega) fun h' eb => ⟨rfl, I.turned (t' := s.toks) (fun b o hb e => eb b o hb e) f0 f1 f3 f4 f5⟩
  self := fun _ _ _ _ _ st h => wpAny_pyIter_rangeiter st h
end L2
namespace L2
open PySem PySem.Spec PyProof.Rows
section
variable {X : Cx} {tg : Expr}
noncomputable def zp8 (K : PySem.W.Frag) (tl : TE) : TI := fun σ H R => tl σ H fun x H1 => ∃ a, x = .ref a /\ (∃ xs, SqL K H1 a xs) /\ R (Itl K a) H1
noncomputable def zs3 (K : PySem.W.Frag) (tl : TE) : TI := fun σ H R => tl σ H fun x H1 => ∃ a, x = .ref a /\ (∃ xs, SqT K H1 a xs) /\ R (Itt K a) H1
theorem zva {l : Expr} {tl : TE} (hl : PE X l tl) : PI X tg l (zp8 X.K tl) := by
  intro pins s σ H R I h
  refine thn (hl pins s σ H _ I h) fun v s1 ⟨x, H1, I1, r1, q1⟩ => ?_
  obtain ⟨a, e, ⟨xs, hq⟩, q⟩ := q1
  subst e
  cases r1
  obtain ⟨its, rv, p, hz⟩ := I1.list hq
  refine wpAny_pyIter_list p.isList ?_
  refine ⟨s1.heap.objs.size, [s1.heap.objs.size], _, _, H1, rfl, I1.kept (t' := s1.toks) fun b o e => Heap.get?_push_of_some _ e, zoy a _, ⟨_, Heap.get?_push_size _ rfl, rfl, rfl⟩, fun b hb => ?_, q⟩
  have e : b = s1.heap.objs.size := by simpa using hb
  subst e
  exact I1.fpOk (Nat.le_refl _) (I1.hok.fresh (Nat.le_refl _))
theorem zsp {l : Expr} {tl : TE} (hl : PE X l tl) : PI X tg l (zs3 X.K tl) := by
  intro pins s σ H R I h
  refine thn (hl pins s σ H _ I h) fun v s1 ⟨x, H1, I1, r1, q1⟩ => ?_
  obtain ⟨a, e, ⟨xs, hq⟩, q⟩ := q1
  subst e
  cases r1
  obtain ⟨its, rv, p, hz⟩ := I1.tuple hq
  refine wpAny_pyIter_tuple (show s1.heap.IsTuple a its.toArray from p) ?_
  refine ⟨s1.heap.objs.size, [s1.heap.objs.size], _, _, H1, rfl, I1.kept (t' := s1.toks) fun b o e => Heap.get?_push_of_some _ e, zq3 a _, ⟨_, Heap.get?_push_size _ rfl, rfl, rfl⟩, fun b hb => ?_, q⟩
  have e : b = s1.heap.objs.size := by simpa using hb
  subst e
  exact I1.fpOk (Nat.le_refl _) (I1.hok.fresh (Nat.le_refl _))
theorem zth {pins : List (Addr × Obj)} {σ : St} {H : Hp} {s : Shared} {R : It -> Hp -> Prop} {E : Value -> Shared -> Prop} {lo hi : Int} {t u v : Tok} {tk : Nat} (I : Inv X pins σ H s) (h1 : -(2 ^ 62) <= lo) (h2 : lo < 2 ^ 62) (h3 : -(2 ^ 62) <= hi) (h4 : hi < 2 ^ 62)
    (q : R (Itr lo (hi - lo).toNat) H) : wpAny (model X.prog X.w) X.A (pyIter (.ref s.heap.objs.size)) (PIE X pins σ tg R) E { s with heap := s.heap.push { cls := .type "range", data := .fields #[.int lo t, .int hi u, .int 1 v] }, toks := tk } := by
  refine wpAny_pyIter_range (IsRange.new ..) (small_one h1 h2 h3 h4) ?_
  have I1 : Inv X pins σ H { s with heap := s.heap.push { cls := .type "range", data := .fields #[.int lo t, .int hi u, .int 1 v] }, toks := tk } := I.kept fun b o e => Heap.get?_push_of_some _ e
  refine ⟨(s.heap.push { cls := .type "range", data := .fields #[.int lo t, .int hi u, .int 1 v] }).objs.size, [(s.heap.push { cls := .type "range", data := .fields #[.int lo t, .int hi u, .int 1 v] }).objs.size], _, _, H, rfl,
    I1.kept (t' := tk) fun b o e => Heap.get?_push_of_some _ e, zsj _ lo (hi - lo).toNat, ?_, fun b hb => ?_, q⟩
  · have e1 : lo + ((0 : Nat) : Int) * 1 = lo := by simp
    have e2 : (((hi - lo).toNat : Nat) : Int) - ((0 : Nat) : Int) = Builtin.Range.rangeSize lo hi 1 := by rw [rangeSize_one]; split <;> omega
    show IsRangeIter _ _ (lo + ((0 : Nat) : Int) * 1) ((((hi - lo).toNat : Nat) : Int) - ((0 : Nat) : Int)) 1
    rw [e1, e2]
    exact Heap.get?_push_size _ rfl
  · have e : b = (s.heap.push { cls := .type "range", data := .fields #[.int lo t, .int hi u, .int 1 v] }).objs.size := by simpa using hb
    subst e
    exact I1.fpOk (Nat.le_refl _) (I1.hok.fresh (Nat.le_refl _))
noncomputable def zq9 (ta : TA) : TI := fun σ H R => ta σ H fun vs H1 => ∃ j : Int, vs = [.int j] /\ -(2 ^ 62) <= j /\ j < 2 ^ 62 /\ R (Itr 0 j.toNat) H1
theorem zpr {a : Expr} {ta : TA} {p pos : Pos} (hg : Gl X "range") (hm : X.mg "range" = none) (ha : PA X [a] ta) (hs : starEach [a] X.env = [(false, eval a X.env)] := by rfl) : PI X tg (.Call (.Name "range" p) [a] [] pos) (zq9 ta) := by
  intro pins s σ H R I h
  refine Call_ (zgs I hg hm boot_range (PyProof.Rows.callWith_type1 (thn (ha pos pins s σ H _ I h) fun us s1 ⟨vs, H1, I1, r1, q1⟩ => ?_) hs rfl))
  obtain ⟨j, e, q1, q2, q⟩ := q1
  subst e
  cases r1 with
  | cons r rr =>
    cases rr
    obtain ⟨t, rfl⟩ := r
    exact call_range_1 (zth I1 (by omega) (by omega) q1 q2 (by simpa using q))
noncomputable def zqc (wi : TI) (g : TG) (tb : TS) : TS := fun D σ H => wi σ H fun J H1 => ∃ W : Nat -> Nat -> St -> Hp -> Prop, (∃ m, W 0 m σ H1) /\ ∀ i m σ H, W i m σ H ->
  (J.stop i H /\ D.nx σ H) \/ (J.go i H /\ ∃ N : St -> Hp -> Prop, (∀ σ' H', N σ' H' -> ∃ m', m' < m /\ W (i + 1) m' σ' H') /\ ∀ x H', J.yld i H x H' -> g x σ H' fun σ2 H2 => tb { D with nx := N, ct := N, bk := D.nx } σ2 H2)
noncomputable def zf4 (fp : List Addr) (h : Heap) : List (Addr × Obj) := fp.filterMap fun b => (h.get? b).map fun o => (b, o)
theorem zhd {fp : List Addr} {h : Heap} {b : Addr} {o : Obj} (hb : b ∈ fp) (e : h.get? b = some o) : (b, o) ∈ zf4 fp h := List.mem_filterMap.mpr ⟨b, hb, by rw [e]; rfl⟩
theorem zu9 {fp : List Addr} {h : Heap} {p : Addr × Obj} (hp : p ∈ zf4 fp h) : p.1 ∈ fp /\ h.get? p.1 = some p.2 := by
  obtain ⟨b, hb, e⟩ := List.mem_filterMap.mp hp
  cases q : h.get? b with
  | none => rw [q] at e; cases e
  | some o =>
    rw [q] at e
    have e' : (b, o) = p := Option.some.inj e
    subst e'
    exact ⟨hb, q⟩
theorem Inv.pinned {pins : List (Addr × Obj)} {σ : St} {H : Hp} {s : Shared} {fp : List Addr} (I : Inv X pins σ H s) (hf : ∀ b ∈ fp, zdu X pins H b) (ho : ∀ b ∈ fp, ∃ o, s.heap.get? b = some o /\ ∀ v, o.data ≠ .cell v) : Inv X (pins ++ zf4 fp s.heap) σ H s :=
  I.pins_of fun p hp => (List.mem_append.mp hp).elim (fun z => I.pin p (List.mem_append_right _ z)) fun z => by
    obtain ⟨hb, e⟩ := zu9 z
    obtain ⟨f0, f1, f2, _⟩ := hf p.1 hb
    obtain ⟨o, e', d⟩ := ho p.1 hb
    rw [e] at e'; cases e'
    exact ⟨e, f0, f1, f2, d⟩
theorem Inv.unpinned {pins pl : List (Addr × Obj)} {σ : St} {H : Hp} {s : Shared} (I : Inv X (pins ++ pl) σ H s) : Inv X pins σ H s := I.pins_of fun p hp => I.pin p (List.mem_append_right _ (List.mem_append_left _ hp))
theorem zso {iter : Expr} {body : List Stmt} {wi : TI} {g : TG} {tb : TS} {pos : Pos} (hp : PassesOwn (model X.prog X.w) X.A X.env X.xe) (hc : X.calm = true) (hi : PI X tg iter wi) (hg : PG X tg g) (hb : PSs X body tb)
    (hs : ∀ x, foldedSetIterable iter X.env x = pure x := by intro _; rfl) : PS X (.For tg iter body [] pos) (zqc wi g tb) := by
  intro pins s σ H D I h
  refine wpAny_For (thn (hi pins s σ H _ I h) fun v s1 h1 => thn h1 fun itv s2 h2 => ?_) hs
  obtain ⟨it, fp, tn, J, H2, e, I2, T, st2, f2, W, ⟨m0, w0⟩, turn⟩ := h2
  subst e
  have stat : ∀ {H' : Hp}, (∀ b ∈ fp, H' b = none) -> ∀ b ∈ fp, zdu X pins H' b := fun hn b hb => ⟨hn b hb, (f2 b hb).2⟩
  refine codeAny_forLoop_any (fun n s' => ∃ i σ' H', Inv X pins σ' H' s' /\ tn i s'.heap /\ (∀ b ∈ fp, H' b = none) /\ W i n σ' H') ?_ m0 ⟨0, σ, H2, I2, st2, fun b hb => (f2 b hb).1, w0⟩
  rintro n s3 ⟨i, σ3, H3, I3, st3, fr3, w3⟩
  rcases turn i n σ3 H3 w3 with ⟨stop, qn⟩ | ⟨go, N, hN, step⟩
  · refine wpAny_passesOwn hp (thn (T.done X rfl rfl rfl hc i pins s3 σ3 H3 X.xe I3 (stat fr3) st3 stop) fun r s4 ⟨hr, I4⟩ => ?_)
    subst hr
    exact wpAny_execs_nil ⟨σ3, H3, I4, qn⟩
  · refine wpAny_passesOwn hp (thn (T.item X rfl rfl rfl hc i pins s3 σ3 H3 X.xe I3 (stat fr3) st3 go) fun r s4 ⟨u, hr, h4⟩ => ?_)
    subst hr
    refine wpAny_passesOwn hp (thn h4 fun _ s5 ⟨x, H5, I5, r5, y5, st5, fr5⟩ => ?_)
    have I5' := I5.pinned (stat fr5) (T.obj _ _ st5)
    refine wpAny_passesOwn hp (thn (hg _ s5 σ3 H5 x u _ I5' r5 (step x H5 y5)) fun _ s6 ⟨σ6, H6, I6, q6⟩ => ?_)
    refine wpAny_passesOwn hp (thn (hb _ s6 σ6 H6 _ I6 q6) fun f s7 q7 => ?_)
    have again : ∀ {σ7 : St} {H7 : Hp}, Inv X (pins ++ zf4 fp s5.heap) σ7 H7 s7 -> N σ7 H7 -> ∃ m, m < n /\ ∃ i σ' H', Inv X pins σ' H' s7 /\ tn i s7.heap /\ (∀ b ∈ fp, H' b = none) /\ W i m σ' H' := fun {σ7 H7} I7 n7 => by
      obtain ⟨m', hm, w7⟩ := hN σ7 H7 n7
      refine ⟨m', hm, i + 1, σ7, H7, I7.unpinned, T.keep _ _ _ st5 fun b hb o e => (I7.pin (b, o) (List.mem_append_right _ (List.mem_append_right _ (zhd hb e)))).1, fun b hb => ?_, w7⟩
      obtain ⟨o, e, d⟩ := T.obj _ _ st5 b hb
      exact (I7.pin (b, o) (List.mem_append_right _ (List.mem_append_right _ (zhd hb e)))).2.1
    cases f with
    | next => obtain ⟨σ7, H7, I7, n7⟩ := q7; exact again I7 n7
    | cont => obtain ⟨σ7, H7, I7, n7⟩ := q7; exact again I7 n7
    | brk => obtain ⟨σ7, H7, I7, q7⟩ := q7; exact ⟨σ7, H7, I7.unpinned, q7⟩
    | ret v => obtain ⟨x7, σ7, H7, I7, r7, q7⟩ := q7; exact ⟨x7, σ7, H7, I7.unpinned, r7, q7⟩
end
end L2
namespace L2
open PySem PySem.Spec PyProof.Rows
noncomputable abbrev R2 := V -> V -> Hp -> VK -> Prop
noncomputable def OpR (X : Cx) (f : Value -> Value -> Sem Value) (r : R2) : Prop :=
  ∀ (pins : List (Addr × Obj)) (s : Shared) (σ : St) (H : Hp) (x y : V) (v u : Value) (Q : VK), Inv X pins σ H s -> zag x v -> zag y u -> r x y H Q ->
    wpAny (model X.prog X.w) X.A (f v u) (EP X pins σ Q) X.xe s
noncomputable def UnR (X : Cx) (f : Value -> Sem Value) (r : V -> Hp -> VK -> Prop) : Prop :=
  ∀ (pins : List (Addr × Obj)) (s : Shared) (σ : St) (H : Hp) (x : V) (v : Value) (Q : VK), Inv X pins σ H s -> zag x v -> r x H Q ->
    wpAny (model X.prog X.w) X.A (f v) (EP X pins σ Q) X.xe s
noncomputable def zbr (X : Cx) (f : Value) (r : List V -> Hp -> VK -> Prop) : Prop :=
  ∀ (pins : List (Addr × Obj)) (s : Shared) (σ : St) (H : Hp) (xs : List V) (us : List Value) (Q : VK), Inv X pins σ H s -> zaf xs us -> r xs H Q ->
    wpAny (model X.prog X.w) X.A (call f us) (EP X pins σ Q) X.xe s
noncomputable def zsu (X : Cx) (r : V -> Hp -> (Bool -> Hp -> Prop) -> Prop) : Prop :=
  ∀ (pins : List (Addr × Obj)) (s : Shared) (σ : St) (H : Hp) (x : V) (v : Value) (Q : Bool -> Hp -> Prop), Inv X pins σ H s -> zag x v -> r x H Q ->
    wpAny (model X.prog X.w) X.A (truthy v) (TP X pins σ Q) X.xe s
noncomputable def tOp (r : R2) (ta tb : TE) : TE := fun σ H Q => ta σ H fun x H1 => tb σ H1 fun y H2 => r x y H2 Q
noncomputable def tUn (r : V -> Hp -> VK -> Prop) (ta : TE) : TE := fun σ H Q => ta σ H fun x H1 => r x H1 Q
noncomputable def rI (C : Int -> Int -> Prop) (g : Int -> Int -> V) : R2 := fun x y H Q => ∃ i j, x = .int i /\ y = .int j /\ C i j /\ Q (g i j) H
noncomputable def rI0 (g : Int -> Int -> V) : R2 := fun x y H Q => ∃ i j, x = .int i /\ y = .int j /\ Q (g i j) H
noncomputable def rU (g : Int -> V) : V -> Hp -> VK -> Prop := fun x H Q => ∃ i, x = .int i /\ Q (g i) H
section
variable {X : Cx} {a b c : Expr} {ta tb tc : TE} {pos : Pos}
theorem zg8 (ha : PE X a ta) (hb : PE X b tb) {pins : List (Addr × Obj)} {s : Shared} {σ : St} {H : Hp} {R : V -> V -> Hp -> Prop} (I : Inv X pins σ H s)
    (h : ta σ H fun x H1 => tb σ H1 fun y H2 => R x y H2) {Q : Value -> Shared -> Prop} {f : Value -> Value -> Sem Value}
    (hf : ∀ v u s2 x y H2, Inv X pins σ H2 s2 -> zag x v -> zag y u -> R x y H2 -> wpAny (model X.prog X.w) X.A (f v u) Q X.xe s2) :
    wpAny (model X.prog X.w) X.A (eval a X.env) (fun v s₁ => wpAny (model X.prog X.w) X.A (eval b X.env) (fun u s₂ => wpAny (model X.prog X.w) X.A (f v u) Q X.xe s₂) X.xe s₁) X.xe s := by
  refine thn (ha pins s σ H _ I h) fun v s1 ⟨x, H1, I1, r1, q1⟩ => ?_
  refine thn (hb pins s1 σ H1 _ I1 q1) fun u s2 ⟨y, H2, I2, r2, q2⟩ => ?_
  exact hf v u s2 x y H2 I2 r1 r2 q2
theorem ziw {op : Operator} {r : R2} (ho : OpR X (binaryOp op) r) (ha : PE X a ta) (hb : PE X b tb) : PE X (.BinOp a op b pos) (tOp r ta tb) := by
  intro pins s σ H Q I h
  exact wpAny_BinOp (zg8 ha hb I h fun v u s2 x y H2 I2 rx ry q => ho pins s2 σ H2 x y v u Q I2 rx ry q)
theorem zt6 {op : UnaryOp} {r : V -> Hp -> VK -> Prop} (ho : UnR X (unaryOp op) r) (ha : PE X a ta) : PE X (.UnaryOp op a pos) (tUn r ta) := by
  intro pins s σ H Q I h
  exact UnaryOp_ (thn (ha pins s σ H _ I h) fun v s1 ⟨x, H1, I1, r1, q1⟩ => ho pins s1 σ H1 x v Q I1 r1 q1)
theorem opI {f : Value -> Value -> Sem Value} {C : Int -> Int -> Prop} {g : Int -> Int -> Int}
    (rule : ∀ (i j : Int) (t u : Tok) (s : Shared) (Q : Value -> Shared -> Prop) (E : Value -> Shared -> Prop), C i j -> Q (.int (g i j) s.toks) { s with toks := s.toks + 1 } -> wpAny (model X.prog X.w) X.A (f (.int i t) (.int j u)) Q E s) :
    OpR X f (rI C fun i j => .int (g i j)) := by
  intro pins s σ H x y v u Q I rx ry h
  obtain ⟨i, j, rfl, rfl, hc, q⟩ := h
  obtain ⟨t, rfl⟩ := rx
  obtain ⟨t', rfl⟩ := ry
  exact rule i j t t' s _ _ hc ⟨.int (g i j), H, I.tok _, ⟨_, rfl⟩, q⟩
theorem zme {f : Value -> Value -> Sem Value} {g : Int -> Int -> Int}
    (rule : ∀ (i j : Int) (t u : Tok) (s : Shared) (Q : Value -> Shared -> Prop) (E : Value -> Shared -> Prop), Q (.int (g i j) s.toks) { s with toks := s.toks + 1 } -> wpAny (model X.prog X.w) X.A (f (.int i t) (.int j u)) Q E s) :
    OpR X f (rI0 fun i j => .int (g i j)) := by
  intro pins s σ H x y v u Q I rx ry h
  obtain ⟨i, j, rfl, rfl, q⟩ := h
  obtain ⟨t, rfl⟩ := rx
  obtain ⟨t', rfl⟩ := ry
  exact rule i j t t' s _ _ ⟨.int (g i j), H, I.tok _, ⟨_, rfl⟩, q⟩
theorem zmp {f : Value -> Value -> Sem Value} {g : Int -> Int -> Bool}
    (rule : ∀ (i j : Int) (t u : Tok) (s : Shared) (Q : Value -> Shared -> Prop) (E : Value -> Shared -> Prop), Q (.bool (g i j)) s -> wpAny (model X.prog X.w) X.A (f (.int i t) (.int j u)) Q E s) :
    OpR X f (rI0 fun i j => .bl (g i j)) := by
  intro pins s σ H x y v u Q I rx ry h
  obtain ⟨i, j, rfl, rfl, q⟩ := h
  obtain ⟨t, rfl⟩ := rx
  obtain ⟨t', rfl⟩ := ry
  exact rule i j t t' s _ _ ⟨.bl (g i j), H, I, rfl, q⟩
noncomputable def zgg (i j : Int) : Prop := 0 < j /\ j < 1073741824
noncomputable def zgn (i j : Int) : Prop := 0 <= j /\ j <= 1000000 /\ i.natAbs < 2 ^ 64
noncomputable def zek (i j : Int) : Prop := (-(2 ^ 64) < i /\ i < 2 ^ 64) \/ (-(2 ^ 64) < j /\ j < 2 ^ 64)
theorem zek.ok {i j : Int} (h : zek i j) : IntMulOk i j := by
  rcases h with ⟨h1, h2⟩ | ⟨h1, h2⟩
  · exact .of_left (intBits_le_64 h1 h2)
  · exact .of_right (intBits_le_64 h1 h2)
theorem zsi : OpR X (binaryOp .Add) (rI0 fun i j => .int (i + j)) := zme fun _ _ _ _ _ _ _ q => add_int q
theorem zq7 : OpR X (binaryOp .Sub) (rI0 fun i j => .int (i - j)) := zme fun _ _ _ _ _ _ _ q => sub_int q
theorem zts : OpR X (binaryOp .FloorDiv) (rI zgg fun i j => .int (i / j)) := opI fun i j _ _ _ _ _ hc q => by
  have h1 : (0 : Int) < j := hc.1
  have h2 : j < 1073741824 := hc.2
  exact floordiv_int (by omega) (by rw [Int.fdiv_eq_ediv_of_nonneg i (by omega)]; exact q) (.inl (PyProof.noPylong_small (by omega)))
theorem zt7 : OpR X (binaryOp .Mod) (rI (fun _ j => 0 < j) fun i j => .int (i % j)) := opI fun i j _ _ _ _ _ hc q => by
  have h1 : (0 : Int) < j := hc
  exact mod_int' (by omega) (by rw [Int.fmod_eq_emod_of_nonneg i (by omega)]; exact q)
theorem zr9 : OpR X (binaryOp .Pow) (rI zgn fun i j => .int (i ^ j.toNat)) := opI fun _ _ _ _ _ _ _ hc q => pow_int_small hc.1 hc.2.1 hc.2.2 q
theorem unI {f : Value -> Sem Value} {g : Int -> Int}
    (rule : ∀ (i : Int) (t : Tok) (s : Shared) (Q : Value -> Shared -> Prop) (E : Value -> Shared -> Prop), Q (.int (g i) s.toks) { s with toks := s.toks + 1 } -> wpAny (model X.prog X.w) X.A (f (.int i t)) Q E s) :
    UnR X f (rU fun i => .int (g i)) := by
  intro pins s σ H x v Q I rx h
  obtain ⟨i, rfl, q⟩ := h
  obtain ⟨t, rfl⟩ := rx
  exact rule i t s _ _ ⟨.int (g i), H, I.tok _, ⟨_, rfl⟩, q⟩
theorem ztm : UnR X (unaryOp .USub) (rU fun i => .int (-i)) := unI fun _ _ _ _ _ q => neg_int q
end
noncomputable def zkk : V -> V -> Bool
  | .non, .non => true | .non, .int _ => true | .int _, .non => true | .non, .bl _ => true | .bl _, .non => true | .non, .str _ => true | .str _, .non => true
  | .int _, .int _ => true | .bl _, .bl _ => true | .str _, .str _ => true | .byt _, .byt _ => true
  | .int _, .str _ => true | .str _, .int _ => true | .bl _, .str _ => true | .str _, .bl _ => true
  | _, _ => false
noncomputable def rEq : R2 := fun x y H Q => zkk x y = true /\ Q (.bl (decide (x = y))) H
theorem znr {i j : Int} : decide (V.int i = V.int j) = (i == j) := by
  rw [Bool.eq_iff_iff]
  simp
theorem zne {i j : Bool} : decide (V.bl i = V.bl j) = (i == j) := by
  rw [Bool.eq_iff_iff]
  simp
theorem zkm {i j : Str} : decide (V.str i = V.str j) = (i == j) := by
  rw [Bool.eq_iff_iff]
  simp
theorem zo4 {i j : Array UInt8} : decide (V.byt i = V.byt j) = (i.toList == j.toList) := by
  rw [Bool.eq_iff_iff]
  cases i
  cases j
  simp
section
variable {X : Cx} {a b c : Expr} {ta tb tc : TE} {pos : Pos}
theorem zb1 {pins : List (Addr × Obj)} {σ : St} {H : Hp} {s : Shared} {Q : VK} {k k' : Bool} (I : Inv X pins σ H s) (q : Q (.bl k) H) (e : k = k') : EP X pins σ Q (.bool k') s := by
  subst e
  exact ⟨.bl k, H, I, rfl, q⟩
theorem zoa : OpR X (compareOp .Eq) rEq := by
  intro pins s σ H x y v u Q I rx ry h
  obtain ⟨hs, q⟩ := h
  cases x with
  | non =>
    cases rx
    cases y with
    | non => cases ry; exact PySem.EqNone.eq_none_none (zb1 I q (by simp))
    | bl j => cases ry; exact PySem.EqNone.eq_none_bool (zb1 I q (by simp))
    | int j => obtain ⟨t', rfl⟩ := ry; exact PySem.EqNone.eq_none_int (zb1 I q (by simp))
    | str j => obtain ⟨t', rfl⟩ := ry; exact PySem.EqNone.eq_none_str (zb1 I q (by simp))
    | _ => exact absurd (show false = true from hs) Bool.false_ne_true
  | bl i =>
    cases rx
    cases y with
    | non => cases ry; exact PySem.EqNone.eq_bool_none (zb1 I q (by simp))
    | bl j => cases ry; exact eq_bool (zb1 I q zne)
    | str j => obtain ⟨t', rfl⟩ := ry; exact PySem.EqMixed.eq_bool_str (zb1 I q (by simp))
    | _ => exact absurd (show false = true from hs) Bool.false_ne_true
  | int i =>
    obtain ⟨t, rfl⟩ := rx
    cases y with
    | non => cases ry; exact PySem.EqNone.eq_int_none (zb1 I q (by simp))
    | int j => obtain ⟨t', rfl⟩ := ry; exact eq_int (zb1 I q znr)
    | str j => obtain ⟨t', rfl⟩ := ry; exact PySem.EqMixed.eq_int_str (zb1 I q (by simp))
    | _ => exact absurd (show false = true from hs) Bool.false_ne_true
  | str i =>
    obtain ⟨t, rfl⟩ := rx
    cases y with
    | non => cases ry; exact PySem.EqNone.eq_str_none (zb1 I q (by simp))
    | bl j => cases ry; exact PySem.EqMixed.eq_str_bool (zb1 I q (by simp))
    | int j => obtain ⟨t', rfl⟩ := ry; exact PySem.EqMixed.eq_str_int (zb1 I q (by simp))
    | str j => obtain ⟨t', rfl⟩ := ry; exact eq_str (zb1 I q zkm)
    | _ => exact absurd (show false = true from hs) Bool.false_ne_true
  | byt i =>
    obtain ⟨t, rfl⟩ := rx
    cases y with
    | byt j => obtain ⟨t', rfl⟩ := ry; exact PySem.W.eq_bytes (zb1 I q zo4)
    | _ => exact absurd (show false = true from hs) Bool.false_ne_true
  | _ => cases y <;> exact absurd (show false = true from hs) Bool.false_ne_true
theorem zu1 : OpR X (compareOp .LtE) (rI0 fun i j => .bl (decide (i <= j))) := zmp fun _ _ _ _ _ _ _ q => le_int q
theorem zqr : OpR X (compareOp .Gt) (rI0 fun i j => .bl (decide (j < i))) := zmp fun _ _ _ _ _ _ _ q => gt_int q
theorem OpR.or {f : Value -> Value -> Sem Value} {r r' : R2} (h : OpR X f r) (h' : OpR X f r') : OpR X f (fun x y H Q => r x y H Q \/ r' x y H Q) := by
  intro pins s σ H x y v u Q I rx ry q
  rcases q with q | q
  · exact h pins s σ H x y v u Q I rx ry q
  · exact h' pins s σ H x y v u Q I rx ry q
theorem zjs (b : Expr) {op : CmpOp} (h : op ≠ .In := by decide) (h2 : op ≠ .NotIn := by decide) : behindInMarks op b = false := by
  have e1 : (op == CmpOp.In) = false := by cases op <;> first | rfl | exact absurd rfl h
  have e2 : (op == CmpOp.NotIn) = false := by cases op <;> first | rfl | exact absurd rfl h2
  cases b <;> simp [behindInMarks, e1, e2]
theorem zr7 {op : CmpOp} {r : R2} (ho : OpR X (compareOp op) r) (ha : PE X a ta) (hb : PE X b tb) (hm : behindInMarks op b = false) : PE X (.Compare a [op] [b] pos) (tOp r ta tb) := by
  intro pins s σ H Q I h
  exact wpAny_Compare1 (zg8 ha hb I h fun v u s2 x y H2 I2 rx ry q => ho pins s2 σ H2 x y v u Q I2 rx ry q) hm
noncomputable def ztb (t : TE) : TT := fun σ H Q => t σ H fun x H' => ∃ k, x = .bl k /\ Q k H'
theorem zkf {op : CmpOp} {r : R2} (ho : OpR X (compareOp op) r) (ha : PE X a ta) (hb : PE X b tb) (hm : behindInMarks op b = false) : PT X (.Compare a [op] [b] pos) (ztb (tOp r ta tb)) := by
  intro pins s σ H Q I h
  refine wpAny_isTrue_Compare1 (thn (ha pins s σ H _ I h) fun v s1 ⟨x, H1, I1, r1, q1⟩ => thn (hb pins s1 σ H1 _ I1 q1) fun u s2 ⟨y, H2, I2, r2, q2⟩ =>
    thn (ho pins s2 σ H2 x y v u _ I2 r1 r2 q2) fun c s3 ⟨z, H3, I3, r3, k, e, q3⟩ => ?_) hm
  subst e
  cases r3
  exact wpAny_truthy_bool ⟨H3, I3, q3⟩
noncomputable def zr2 (r r' : R2) (ta tb tc : TE) : TE := fun σ H Q => ta σ H fun x H1 => tb σ H1 fun y H2 => r x y H2 fun z H3 => ∃ k, z = .bl k /\
  (if k = true then tc σ H3 fun w' H4 => r' y w' H4 Q else Q (.bl false) H3)
theorem ztl {op op' : CmpOp} {r r' : R2} (ho : OpR X (compareOp op) r) (ho' : OpR X (compareOp op') r') (ha : PE X a ta) (hb : PE X b tb) (hc : PE X c tc)
    (hm : lastMarks [op, op'] [b, c] = false := by with_unfolding_all rfl) : PE X (.Compare a [op, op'] [b, c] pos) (zr2 r r' ta tb tc) := by
  intro pins s σ H Q I h
  refine Compare_chain (thn (ha pins s σ H _ I h) fun v s1 ⟨x, H1, I1, r1, q1⟩ => chain_link (thn (hb pins s1 σ H1 _ I1 q1) fun u s2 ⟨y, H2, I2, r2, q2⟩ =>
    thn (ho pins s2 σ H2 x y v u _ I2 r1 r2 q2) fun d s3 ⟨z, H3, I3, r3, k, e, q3⟩ => ?_)) hm
  subst e
  cases r3
  refine wpAny_truthy_bool ?_
  cases k with
  | false => exact ite_ff ⟨.bl false, H3, I3, rfl, q3⟩
  | true => exact ite_tt (chain_last (thn (hc pins s3 σ H3 _ I3 q3) fun w' s4 ⟨z', H4, I4, r4, q4⟩ => ho' pins s4 σ H4 y z' u w' Q I4 r2 r4 q4))
noncomputable def zij (K : PySem.W.Frag) (x : V) (H : Hp) (k : Bool) : Prop :=
  match x with
  | .non => k = false
  | .bl b => k = b
  | .int i => k = (i != 0)
  | .str y => y.length <= sizeLine /\ k = ((y.length : Int) != 0)
  | .byt y => y.size <= sizeLine /\ k = ((y.size : Int) != 0)
  | .ref p => (∃ xs, SqL K H p xs /\ k = !xs.isEmpty) \/ (∃ xs, SqT K H p xs /\ k = !xs.isEmpty) \/ ∃ kvs, H p = some (.dK kvs) /\ k = !kvs.isEmpty
  | _ => False
theorem zrr {κ : Type} {kvs : List (κ × V)} {vs : List (κ × Value)} (r : KV kvs vs) : (!vs.isEmpty) = !kvs.isEmpty := by
  cases r <;> rfl
theorem zkw {xs : List V} {its : List Value} (r : zaf xs its) : (!its.toArray.isEmpty) = !xs.isEmpty := by
  cases r <;> simp
theorem ze9 : (sizeLine : Nat) < 2 ^ 63 := by rw [sizeLine_eq]; decide
theorem zp4 : zsu X (fun x H Q => ∃ k, zij X.K x H k /\ Q k H) := by
  intro pins s σ H x v Q I rx h
  obtain ⟨k, e, q⟩ := h
  have hl := ze9
  have hs : sizeLine = 16777216 := sizeLine_eq
  cases x with
  | non =>
    cases rx
    have e' : k = false := e
    subst e'
    exact truthy_none ⟨H, I, q⟩
  | bl b =>
    cases rx
    have e' : k = b := e
    subst e'
    exact wpAny_truthy_bool ⟨H, I, q⟩
  | int i =>
    obtain ⟨t, rfl⟩ := rx
    have e' : k = (i != 0) := e
    subst e'
    exact PySem.P.truthy_int ⟨H, I, q⟩
  | str y =>
    obtain ⟨t, rfl⟩ := rx
    obtain ⟨hy, e'⟩ : y.length <= sizeLine /\ k = ((y.length : Int) != 0) := e
    subst e'
    exact PySem.P.truthy_str (by omega) ⟨H, I.tok _, q⟩
  | byt y =>
    obtain ⟨t, rfl⟩ := rx
    obtain ⟨hy, e'⟩ : y.size <= sizeLine /\ k = ((y.size : Int) != 0) := e
    subst e'
    exact PySem.W.truthy_bytes (by omega) ⟨H, I.tok _, q⟩
  | ref p =>
    cases rx
    have e' : (∃ xs, SqL X.K H p xs /\ k = !xs.isEmpty) \/ (∃ xs, SqT X.K H p xs /\ k = !xs.isEmpty) \/ ∃ kvs, H p = some (.dK kvs) /\ k = !kvs.isEmpty := e
    rcases e' with ⟨xs, hx, e'⟩ | ⟨xs, hx, e'⟩ | ⟨kvs, hx, e'⟩
    · subst e'
      obtain ⟨its, r, pl, hz⟩ := I.list hx
      have hlen := r.length
      exact wpAny_truthy_list pl.isList (by simp only [List.size_toArray]; omega) ⟨H, I.tok _, by rw [zkw r]; exact q⟩
    · subst e'
      obtain ⟨its, r, pl, hz⟩ := I.tuple hx
      have hlen := r.length
      exact truthy_tuple pl (by simp only [List.size_toArray]; omega) ⟨H, I.tok _, by rw [zkw r]; exact q⟩
    · subst e'
      obtain ⟨hz, hS, vs, r, m⟩ : kvs.length <= sizeLine /\ (p == sysModules) = false /\ ∃ vs, KV kvs vs /\ s.heap.DictOf (zi0 X.prog X.w) p vs := I.hok p _ hx
      have hlen : kvs.length = vs.length := Paired.length r
      exact wpAny_truthy_dict hS m (by omega) ⟨H, I.tok _, by rw [zrr r]; exact q⟩
  | _ => exact (show False from e).elim
theorem zov (ha : PE X a ta) (he : ∀ whole, isTrue a X.env whole = (do let v <- whole; standAt a.pos; holding [v] (truthy v))) :
    PT X a (fun σ H Q => ta σ H fun x H' => ∃ k, zij X.K x H' k /\ Q k H') := by
  intro pins s σ H Q I h
  exact isTrue_plain (thn (ha pins s σ H _ I h) fun v s1 ⟨x, H1, I1, r1, q1⟩ => zp4 pins s1 σ H1 x v Q I1 r1 q1) (he _)
theorem zqk : OpR X (binaryOp .Add) (fun x y H Q => ∃ i j, x = .str i /\ y = .str j /\ i.length + j.length <= sizeLine /\ Q (.str (i ++ j)) H) := by
  intro pins s σ H x y v u Q I rx ry h
  obtain ⟨i, j, rfl, rfl, hz, q⟩ := h
  obtain ⟨t, rfl⟩ := rx
  obtain ⟨t', rfl⟩ := ry
  exact add_str (fun t' tk => ⟨.str (i ++ j), H, I.tok _, ⟨_, rfl⟩, q⟩) hz
theorem zo8 : OpR X (inplaceOp .Add) (fun x y H Q => ∃ i j, x = .str i /\ y = .str j /\ i.length + j.length <= sizeLine /\ Q (.str (i ++ j)) H) := by
  intro pins s σ H x y v u Q I rx ry h
  obtain ⟨i, j, rfl, rfl, hz, q⟩ := h
  obtain ⟨t, rfl⟩ := rx
  obtain ⟨t', rfl⟩ := ry
  exact iadd_str (fun t' tk => ⟨.str (i ++ j), H, I.tok _, ⟨_, rfl⟩, q⟩) hz
noncomputable def zja (b : Expr) : Prop := ∀ o i, subscripted b false o i = operate [o, i] (getItem o i)
theorem zkq (ha : PE X a ta) (hb : PE X b tb) (hs : zja b) :
    PE X (.Subscript a b pos) (tOp (fun x y H Q => ∃ z i c, x = .str z /\ y = .int i /\ 0 <= i /\ i < 2 ^ 63 /\ i < z.length /\ z.cps[i.toNat]? = some c /\ Q (.str ⟨#[c]⟩) H) ta tb) := by
  intro pins s σ H Q I h
  refine Subscript_ (zg8 ha hb I h fun v u s2 x y H2 I2 rx ry q => ?_)
  obtain ⟨z, i, c, rfl, rfl, h0, h63, h1, hc, q⟩ := q
  obtain ⟨t, rfl⟩ := rx
  obtain ⟨t', rfl⟩ := ry
  have e : seqIndex? i z.length = some i.toNat := PySem.StrLaws.seqIndex_nonneg h0 h1
  exact tail_any (typeIs_str s2 z t) slot_str_getitem.lookup (getItem_str (c := c) (by
    have e1 : decide (i < -(2 ^ 63 : Int)) = false := decide_eq_false (by omega)
    have e2 : decide (i ≥ 2 ^ 63) = false := decide_eq_false (by omega)
    rw [e1, e2] <;> rfl) (by rw [e]; exact hc) ⟨.str ⟨#[c]⟩, H2, I2.tok _, ⟨_, rfl⟩, q⟩) (hs _ _)
theorem zfy {x : V} {us : List Value} (r : zaf [x] us) : ∃ u, us = [u] /\ zag x u := by
  cases r with
  | cons r1 r2 => cases r2; exact ⟨_, rfl, r1⟩
theorem zoj {x y : V} {us : List Value} (r : zaf [x, y] us) : ∃ u w', us = [u, w'] /\ zag x u /\ zag y w' := by
  cases r with
  | cons r1 r2 =>
    cases r2 with
    | cons r3 r4 => cases r4; exact ⟨_, _, rfl, r1, r3⟩
theorem zps : zbr X (.type "str") (fun xs H Q => ∃ i, xs = [.int i] /\ i.natAbs.log2 < 1920 /\ Q (.str (toString i)) H) := by
  intro pins s σ H xs us Q I r h
  obtain ⟨i, rfl, hz, q⟩ := h
  obtain ⟨u, rfl, t, rfl⟩ := zfy r
  exact PySem.P.str_of_int hz ⟨.str _, H, I.tok _, ⟨_, rfl⟩, q⟩
end
end L2
namespace L2
open PySem PySem.Spec PyProof.Rows
structure zh6 (h : Heap) (x dx C : Addr) (mA : Str -> Option Value) : Prop where
  obj : h.get? x = some (PySem.W.instObj C dx)
  ns : h.Ns1 dx mA
  ne : dx ≠ x
theorem zqx {h : Heap} {dx : Addr} {mA : Str -> Option Value} (n : h.Ns1 dx mA) : ∃ od, h.get? dx = some od /\ ∀ name, PySem.W.lookIn name od = some (mA name) := by
  obtain ⟨o, es, ep, ho, hd, hk, _, hm⟩ := n
  refine ⟨o, ho, fun name => ?_⟩
  have e := hm name
  unfold nsFind findBy at e
  rw [<- Array.find?_toList] at e
  unfold PySem.W.lookIn
  rw [hd]
  dsimp only
  split
  · rename_i y q
    rw [q] at e
    exact congrArg some e
  · rename_i q
    rw [q] at e
    have a : es.toList.any (·.refKey) = false := by
      rw [List.any_eq_false]
      intro y hy
      obtain ⟨z, t, hkey⟩ := hk y (Array.mem_toList_iff.mp hy)
      simp [DictEntry.refKey, hkey]
    have a' : ¬ es.toList.any (·.refKey) = true := by rw [a]; exact Bool.false_ne_true
    rw [if_neg a']
    exact congrArg some e
theorem zh6.look {h : Heap} {x dx C : Addr} {mA : Str -> Option Value} (I : zh6 h x dx C mA) : ∃ od, PySem.W.InstAt h x (PySem.W.instObj C dx) C (some od) /\ ∀ name, PySem.W.lookIn name od = some (mA name) :=
  let ⟨od, ho, hl⟩ := zqx I.ns
  ⟨od, ⟨I.obj, rfl, rfl, ho⟩, hl⟩
section
variable {prog : Program} {w : World} {A : Around} {E : Value -> Shared -> Prop} {s : Shared} {K : PySem.W.Frag} {x dx C f : Addr} {mA : Str -> Option Value} {name : Str} {v : Value}
end
section
variable {P : Program} {w : World} {H H' : Hp} {h h' : Heap} {a C dx : Addr} {fs fs' : List (Str × V)}
theorem zox (hok : HOk P w H h) (e : H a = some (.ins C dx fs)) : ∃ mA, zh6 h a dx C mA /\ (∀ f, zeg (fs.lookup f) (mA f)) /\ PySem.Within mA (fs.map (·.1)) /\ fs.length <= 1000 /\ H dx = some (.own a) := by
  obtain ⟨d, z, ne, ob, mA, n, r, q⟩ := (show zbi P w H h a (.ins C dx fs) from hok a _ e)
  exact ⟨mA, ⟨ob, n, ne⟩, r, q, z, d⟩
end
structure Cls (K : PySem.W.Frag) (C : Addr) : Prop where
  pg : PySem.W.plainGet K C Str.empty = true
  hd : PySem.W.hasDictIn K C = true
  po : PySem.W.plainOver K C = true
  sa : PySem.W.findIn K (.ref C) "__setattr__" = some (some (.builtin "object.__setattr__"))
theorem Cls.get {K : PySem.W.Frag} {C : Addr} (c : Cls K C) (f : Str) : PySem.W.plainGet K C f = true := c.pg
section
variable {X : Cx} {pins : List (Addr × Obj)} {σ : St} {H : Hp} {s : Shared} {a C dx : Addr} {fs : List (Str × V)} {f : Str} {v : V} {A : Around} {E : Value -> Shared -> Prop}
theorem Inv.made (I : Inv X pins σ H s) : Inv X pins σ (upd (upd H s.heap.objs.size (.own (s.heap.objs.size + 1))) (s.heap.objs.size + 1) (.ins C s.heap.objs.size []))
    { s with heap := (s.heap.push PySem.W.emptyDict).push (PySem.W.instObj C s.heap.objs.size) } := by
  have e1 : (s.heap.push PySem.W.emptyDict).get? s.heap.objs.size = some PySem.W.emptyDict := Heap.get?_push_size s.heap rfl
  have e2 : ((s.heap.push PySem.W.emptyDict).push (PySem.W.instObj C s.heap.objs.size)).get? (s.heap.objs.size + 1) = some (PySem.W.instObj C s.heap.objs.size) := by
    have := Heap.get?_push_size (s.heap.push PySem.W.emptyDict) (o := PySem.W.instObj C s.heap.objs.size) rfl
    rwa [Heap.size_push] at this
  have e3 : (s.heap.push PySem.W.emptyDict).Ns s.heap.objs.size (fun _ => none) := ⟨PySem.W.emptyDict, #[], _, e1, rfl, (fun e he => absurd he (by simp)), fun _ => rfl⟩
  have I1 := I.laid (a := s.heap.objs.size) (o := .own (s.heap.objs.size + 1)) (h' := s.heap.push PySem.W.emptyDict) (t' := s.toks) (fun b u q => Heap.get?_push_of_some _ q) (Nat.le_refl _) ⟨_, e1⟩
  refine I1.laid (a := s.heap.objs.size + 1) (o := .ins C s.heap.objs.size []) (t' := s.toks) (fun b u q => Heap.get?_push_of_some _ q) (Nat.le_of_eq (Heap.size_push _ _)) ?_
  have ne : s.heap.objs.size ≠ s.heap.objs.size + 1 := Nat.ne_of_lt (Nat.lt_succ_self _)
  refine ⟨by rw [zau ne, zbp], Nat.zero_le _, ne, e2, fun _ => none, (Heap.Ns1.of_empty e3).at fun o q => Heap.get?_push_of_some _ q, fun _ => True.intro, fun y hy => absurd rfl hy⟩
end
section
variable {X : Cx} {o e value : Expr} {f : Str} {pos pos' tpos : Pos} {ta tv : TE}
end
section
variable {X : Cx} {pins : List (Addr × Obj)} {σ : St} {H : Hp} {s : Shared} {A : Around} {E : Value -> Shared -> Prop} {Q : Value -> Shared -> Prop} {c : Value} {b : Bool}
inductive zb5 (K : PySem.W.Frag) (H : Hp) : V -> Value -> Prop where
  | non : zb5 K H .non (.type "NoneType")
  | bl (x : Bool) : zb5 K H (.bl x) (.type "bool")
  | int (i : Int) : zb5 K H (.int i) (.type "int")
  | str (x : Str) : zb5 K H (.str x) (.type "str")
  | flt (x : UInt64) : zb5 K H (.flt x) (.type "float")
  | lst {a : Addr} {xs : List V} (e : H a = some (.lst xs)) : zb5 K H (.ref a) (.type "list")
  | frz {a : Addr} {o : Obj} {xs : List V} (e : H a = some (.frz o (.lst xs))) : zb5 K H (.ref a) (.type "list")
  | tup {a : Addr} {xs : List V} (e : H a = some (.tup xs)) : zb5 K H (.ref a) (.type "tuple")
  | dK {a : Addr} {kvs : List (Key × V)} (e : H a = some (.dK kvs)) : zb5 K H (.ref a) (.type "dict")
  | dT {a : Addr} {kvs : List (List Key × V)} (e : H a = some (.dT kvs)) : zb5 K H (.ref a) (.type "dict")
  | ins {a C dx : Addr} {fs : List (Str × V)} (e : H a = some (.ins C dx fs)) (cl : Cls K C) (ha : PySem.W.findIn K (.ref C) "__class__" = some (some (.builtin "object.__class__")))
      (hn : PySem.W.specialIn K (.builtin "object.__class__") "__get__" = some (some (.builtin "getset_descriptor.__get__"))) (htk : PySem.W.takesIn K (.builtin "object.__class__") = some true)
      (hm : PySem.W.mroIn K C (.type "object") = some true) : zb5 K H (.ref a) (.ref C)
theorem zrn {x : V} {u t : Value} (I : Inv X pins σ H s) (rx : zag x u) (ty : zb5 X.K H x t) (e : PySem.W.kitOne X.K t c = some b) (h : ∀ tk, Q (.bool b) { s with toks := tk }) :
    wpAny (model X.prog X.w) A (call (.builtin "isinstance") [u, c]) Q E s := by
  cases ty with
  | non => cases (show u = Value.none from rx); exact PySem.W.kia_one PySem.W.kitx_none I.kIn True.intro e (fun z => nomatch z) h
  | bl y => cases (show u = Value.bool y from rx); exact PySem.W.kia_one PySem.W.kitx_bool I.kIn True.intro e (fun z => nomatch z) h
  | int i => obtain ⟨t, q⟩ := (show ∃ t, u = Value.int i t from rx); cases q; exact PySem.W.kia_one PySem.W.kitx_int I.kIn True.intro e (fun z => nomatch z) h
  | str y => obtain ⟨t, q⟩ := (show ∃ t, u = Value.str y t from rx); cases q; exact PySem.W.kia_one PySem.W.kitx_str I.kIn True.intro e (fun z => nomatch z) h
  | flt y => obtain ⟨t, q⟩ := (show ∃ t, u = Value.float y t from rx); cases q; exact PySem.W.kia_one PySem.W.kitx_float I.kIn True.intro e (fun z => nomatch z) h
  | @lst a xs ea =>
    cases (show u = Value.ref a from rx)
    obtain ⟨_, _, n, _, h1⟩ := (show zbi X.prog X.w H s.heap a (.lst xs) from I.hok a _ ea)
    exact PySem.W.kia_one PySem.W.kitx_list I.kIn ⟨_, h1, rfl⟩ e (fun z => nomatch z) h
  | @frz a ob xs ea =>
    cases (show u = Value.ref a from rx)
    obtain ⟨_, _, _, n, _, h1⟩ := (show zbi X.prog X.w H s.heap a (.frz ob (.lst xs)) from I.hok a _ ea)
    exact PySem.W.kia_one PySem.W.kitx_list I.kIn ⟨_, h1, rfl⟩ e (fun z => nomatch z) h
  | @tup a xs ea =>
    cases (show u = Value.ref a from rx)
    obtain ⟨_, _, _, p⟩ := (show zbi X.prog X.w H s.heap a (.tup xs) from I.hok a _ ea)
    obtain ⟨o, h1, h2, _⟩ := p
    exact PySem.W.kia_one PySem.W.kitx_tuple I.kIn ⟨o, h1, h2⟩ e (fun z => nomatch z) h
  | @dK a kvs ea =>
    cases (show u = Value.ref a from rx)
    obtain ⟨_, _, vs, _, p⟩ := (show zbi X.prog X.w H s.heap a (.dK kvs) from I.hok a _ ea)
    obtain ⟨o, es, ep, h1, h2, _⟩ := p
    exact PySem.W.kia_one PySem.W.kitx_dict I.kIn ⟨o, h1, h2.1⟩ e (fun z => nomatch z) h
  | @dT a kvs ea =>
    cases (show u = Value.ref a from rx)
    obtain ⟨_, _, xs, _, o, es, ep, h1, h2, _⟩ := (show zbi X.prog X.w H s.heap a (.dT kvs) from I.hok a _ ea)
    exact PySem.W.kia_one PySem.W.kitx_dict I.kIn ⟨o, h1, h2.1⟩ e (fun z => nomatch z) h
  | @ins a C dx fs ea cl ha hn htk hm =>
    cases (show u = Value.ref a from rx)
    obtain ⟨mA, O, _⟩ := zox I.hok ea
    obtain ⟨od, J, _⟩ := O.look
    exact PySem.W.kia_one (PySem.W.kitx_own (cl.get _) cl.hd ha hn htk hm) I.kIn J e (fun z => nomatch z) h
end
end L2
namespace L2
open PySem PySem.Spec PyProof.Rows
structure zaz (k : Nat) (A : Around) : Prop where
  hd : A.handled = none
  dp : A.depth + 3 * k + 5 < recursionLimit
  un : A.units + 16 * k + 200 < cLine
theorem zaz.mono {j k : Nat} {A : Around} (r : zaz k A) (h : j <= k) : zaz j A := ⟨r.hd, by have := r.dp; omega, by have := r.un; omega⟩
theorem zaz.deeper {k : Nat} {A : Around} (r : zaz (k + 1) A) (env : Env) : zaz k (A.deeper env) :=
  ⟨r.hd, by have := r.dp; show A.depth + 1 + 3 * k + 5 < _; omega, by have := r.un; show A.units + 3 + 16 * k + 200 < _; omega⟩
theorem zaz.in1 {k : Nat} {A : Around} (r : zaz (k + 1) A) : zaz k A.in1 :=
  ⟨r.hd, by have := r.dp; show A.depth + 3 * k + 5 < _; omega, by have := r.un; show A.units + 1 + 16 * k + 200 < _; omega⟩
theorem zq8 {A : Around} {C : Addr} {us : List Value} {kw : List (Str × Value)} : (A.under (.builtin "type.__call__" ⟨.ref C :: us, kw⟩)).depth = A.depth + 1 := by
  first | rfl | simp [Around.under, Code.weight, Code.isCreation, Code.isGuard, Code.isCaller, Code.frames, Code.isFrame, guardIds]
theorem zro {A : Around} {C : Addr} {us : List Value} {kw : List (Str × Value)} : (A.under (.builtin "type.__call__" ⟨.ref C :: us, kw⟩)).units = A.units + 1 := by
  first | rfl | simp [Around.under, Code.cUnits, Code.frames, Code.isFrame]
theorem zaz.make {k : Nat} {A : Around} (r : zaz (k + 1) A) (C : Addr) (us : List Value) (kw : List (Str × Value)) : zaz k (A.under (.builtin "type.__call__" ⟨.ref C :: us, kw⟩)) :=
  ⟨r.hd, by have := r.dp; rw [zq8]; omega, by have := r.un; rw [zro]; omega⟩
theorem zaz.depth {k : Nat} {A : Around} (r : zaz k A) : A.depth < recursionLimit := by have := r.dp; omega
theorem zaz.units {k : Nat} {A : Around} (r : zaz k A) : A.units + 64 < cLine := by have := r.un; omega
noncomputable def zgy : TA := fun _ H Q => Q [] H
noncomputable def zim (ta : TE) (tr : TA) : TA := fun σ H Q => ta σ H fun x H1 => tr σ H1 fun xs H2 => Q (x :: xs) H2
section
variable {X : Cx} {e : Expr} {es : List Expr} {te : TE} {t : TA} {pos : Pos}
theorem zdn : PA X [] zgy := fun _ _ _ _ H Q I h => Calls.spliced_nil ⟨[], H, I, .nil, h⟩
theorem zcc (ha : PE X e te) (hr : PA X es t) (hs : starEach (e :: es) X.env = (false, eval e X.env) :: starEach es X.env := by rfl) : PA X (e :: es) (zim te t) := by
  intro pos pins s σ H Q I h
  rw [hs]
  show wpAny _ _ (spliced ((false, eval e X.env) :: backTo pos (starEach es X.env))) _ _ s
  refine Calls.spliced_cons (thn (ha pins s σ H _ I h) fun u s1 ⟨x, H1, I1, r1, q1⟩ => ?_)
  exact thn (hr pos pins s1 σ H1 _ I1 q1) fun us s2 ⟨xs, H2, I2, r2, q2⟩ => ⟨x :: xs, H2, I2, .cons r1 r2, q2⟩
noncomputable def zpn (t : TA) : TE := fun σ H Q => t σ H fun xs H1 => xs.length <= sizeLine /\ ∀ p, H1 p = none -> Q (.ref p) (upd H1 p (.lst xs))
theorem zk6 (h : PA X es t) : PE X (.List es pos) (zpn t) := by
  intro pins s σ H Q I hq
  refine wpAny_List_spliced (thn (h pos pins s σ H _ I hq) fun us s1 ⟨xs, H1, I1, r, z, q⟩ => ⟨by rw [<- r.length]; exact z, ?_⟩)
  have hf : H1 s1.heap.objs.size = none := I1.hok.fresh (Nat.le_refl _)
  refine ⟨.ref s1.heap.objs.size, upd H1 s1.heap.objs.size (.lst xs), I1.laid (t' := s1.toks) (fun b u e => Heap.get?_push_of_some _ e) (Nat.le_refl _) ?_, rfl, q _ hf⟩
  exact ⟨z, us, 0, r, Heap.get?_push_size _ rfl⟩
end
noncomputable abbrev Sp := List V -> Hp -> VK -> XK -> Prop
noncomputable abbrev CXT := List Env -> Hp -> Shared -> XK -> Value -> Shared -> Prop
structure zc8 (P : Program) (w : World) (K : PySem.W.Frag) (mg : Str -> Option Value) (base : Heap) (A : Around) (outer : List Env) (s : Shared) (H : Hp) : Prop where
  frames : A.frames = some outer
  mod : Mod K mg base
  bs : ∀ b o, base.get? b = some o -> s.heap.get? b = some o /\ H b = none
  bsz : base.objs.size <= s.heap.objs.size
  funs : s.heap.FunFrames base outer
  frf : ∀ b ∈ frs outer, H b = none
  hok : HOk P w H s.heap
  bare : AllBare s.gens
noncomputable def CE (outer : List Env) (P : Program) (w : World) (H : Hp) (s : Shared) (Q : VK) (u : Value) (s' : Shared) : Prop :=
  ∃ v H', s'.os = s.os /\ AllBare s'.gens /\ Un (frs outer) [] H H' s.heap s'.heap /\ HOk P w H' s'.heap /\ zag v u /\ Q v H'
noncomputable def CR (CX : CXT) (outer : List Env) (P : Program) (w : World) (H : Hp) (s : Shared) (Q : VK) (E : XK) (r : Result) (s' : Shared) : Prop :=
  match r with
  | .ok (.ret u) => CE outer P w H s Q u s'
  | .ok _ => False
  | .error e => CX outer H s E e s'
structure zar (P : Program) (w : World) (K : PySem.W.Frag) (mg : Str -> Option Value) (base : Heap) (CX : CXT) (k : Nat) (f : Addr) (fd : FuncData) (ps : List Str) (sp : Sp) : Prop where
  len : ∀ vs H Q E, sp vs H Q E -> vs.length = ps.length
  run : ∀ (A : Around) (outer : List Env) (s : Shared) (H : Hp) (args : Args) (us : List Value) (vs : List V) (Q : VK) (E : XK), zaz k A -> zc8 P w K mg base A outer s H -> BindsTo s fd args (ps.zip us) -> zaf vs us -> sp vs H Q E ->
    codeAny (model P w) A (.call (.ref f) args) (CR CX outer P w H s Q E) s
theorem zar.mono {P : Program} {w : World} {K : PySem.W.Frag} {mg : Str -> Option Value} {base : Heap} {CX : CXT} {j k : Nat} {f : Addr} {fd : FuncData} {ps : List Str} {sp : Sp} (F : zar P w K mg base CX j f fd ps sp) (h : j <= k) :
    zar P w K mg base CX k f fd ps sp := ⟨F.len, fun A outer s H args us vs Q E hr => F.run A outer s H args us vs Q E (hr.mono h)⟩
theorem zar.imp {P : Program} {w : World} {K : PySem.W.Frag} {mg : Str -> Option Value} {base : Heap} {CX : CXT} {k : Nat} {f : Addr} {fd : FuncData} {ps : List Str} {sp sp' : Sp} (F : zar P w K mg base CX k f fd ps sp)
    (h : ∀ vs H Q E, sp' vs H Q E -> sp vs H Q E) : zar P w K mg base CX k f fd ps sp' :=
  ⟨fun vs H Q E q => F.len vs H Q E (h _ _ _ _ q), fun A outer s H args us vs Q E hr he hb hv hs => F.run A outer s H args us vs Q E hr he hb hv (h _ _ _ _ hs)⟩
theorem zc8.make {P : Program} {w : World} {K : PySem.W.Frag} {mg : Str -> Option Value} {base : Heap} {A : Around} {outer : List Env} {s : Shared} {H : Hp} (e : zc8 P w K mg base A outer s H) (C : Addr) (us : List Value) (kw : List (Str × Value)) :
    zc8 P w K mg base (A.under (.builtin "type.__call__" ⟨.ref C :: us, kw⟩)) outer s H := ⟨by first | exact e.frames | (simpa [Around.under, Code.envs, Code.isFrame, pushEnvs] using e.frames), e.mod, e.bs, e.bsz, e.funs, e.frf, e.hok, e.bare⟩
theorem zc8.in1 {P : Program} {w : World} {K : PySem.W.Frag} {mg : Str -> Option Value} {base : Heap} {A : Around} {outer : List Env} {s : Shared} {H : Hp} (e : zc8 P w K mg base A outer s H) :
    zc8 P w K mg base A.in1 outer s H := ⟨e.frames, e.mod, e.bs, e.bsz, e.funs, e.frf, e.hok, e.bare⟩
section
variable {X : Cx} {pins : List (Addr × Obj)} {σ : St} {H : Hp} {s s' : Shared}
theorem Inv.env0 (I : Inv X pins σ H s) : zc8 X.prog X.w X.K X.mg X.base X.A X.stack s H :=
  ⟨I.ok.frames, I.ok.mod, I.bs, Nat.le_trans I.ok.bsz I.sz, I.stack, I.stkFree, I.hok, I.bare⟩
theorem Inv.after {Q : VK} {u : Value} (I : Inv X pins σ H s) (h : CE X.stack X.prog X.w H s Q u s') : EP X pins σ Q u s' := by
  obtain ⟨v, H', os, bare, un, hok, r, q⟩ := h
  obtain ⟨hh, g, d, t, os'⟩ := s'
  obtain rfl : os' = s.os := os
  exact ⟨v, H', I.call (h' := hh) (g' := g) (d' := d) (t' := t) (ch := []) un hok bare (fun b z => absurd z (by simp)), r, q⟩
end
noncomputable def zlu (sp : Sp) (dvs : List V) (E : XK) (t : TA) : TE := fun σ H Q => t σ H fun vs H1 => sp (vs ++ dvs) H1 Q E
noncomputable def za2 (K : PySem.W.Frag) (fd : FuncData) (ps : List Str) (ds : List Value) : Prop :=
  ∀ (s : Shared) (us : List Value), K.In s.heap -> (us ++ ds).length = ps.length -> BindsTo s fd ⟨us, []⟩ (ps.zip (us ++ ds))
theorem za2.all {K : PySem.W.Frag} {fd : FuncData} {ps : List Str} (h : ∀ us : List Value, us.length = ps.length -> bindArgs fd ⟨us, []⟩ = pure (ps.zip us)) : za2 K fd ps [] := fun s us _ hl => by
  rw [List.append_nil] at hl ⊢
  exact .of_eq (h us hl)
noncomputable def zhq (CX : CXT) (X : Cx) (E : XK) : Prop := ∀ (pins : List (Addr × Obj)) (σ : St) (H : Hp) (s : Shared) (e : Value) (s' : Shared), Inv X pins σ H s -> CX X.stack H s E e s' -> X.xe e s'
section
variable {X : Cx} {CX : CXT} {k : Nat} {f C : Addr} {fd : FuncData} {ps : List Str} {sp : Sp} {dvs : List V} {ds : List Value} {E : XK} {x m : Str} {p pos apos : Pos} {e o : Expr} {es : List Expr} {ta : TE} {t : TA}
theorem zlt {pins : List (Addr × Obj)} {σ : St} {H : Hp} {s : Shared} {Q : VK} {us : List Value} {vs : List V} (F : zar X.prog X.w X.K X.mg X.base CX k f fd ps sp) (hr : zaz k X.A) (hb : za2 X.K fd ps ds) (hd : zaf dvs ds) (hx : zhq CX X E)
    (I : Inv X pins σ H s) (r : zaf vs us) (h : sp (vs ++ dvs) H Q E) : wpAny (model X.prog X.w) X.A (call (.ref f) us) (EP X pins σ Q) X.xe s := by
  have r2 : zaf (vs ++ dvs) (us ++ ds) := r.append hd
  have hl : (us ++ ds).length = ps.length := by rw [<- r2.length]; exact F.len _ _ _ _ h
  refine wpAny_call (codeAny_mono (F.run X.A X.stack s H ⟨us, []⟩ (us ++ ds) (vs ++ dvs) Q E hr I.env0 (hb s us I.kIn hl) r2 h) fun r s' hq => ?_)
  cases r with
  | error e => exact hx pins σ H s e s' I hq
  | ok fl =>
    cases fl with
    | ret u => exact I.after hq
    | next => exact False.elim hq
    | brk => exact False.elim hq
    | cont => exact False.elim hq
theorem zhl (F : zar X.prog X.w X.K X.mg X.base CX k f fd ps sp) (hr : zaz k X.A) (hg : Gl X x) (hm : X.mg x = some (.ref f)) (hk : PySem.W.keepIn X.K (.ref f) = true) (hb : za2 X.K fd ps ds) (hd : zaf dvs ds) (hx : zhq CX X E)
    (ha : PA X (e :: es) t) (hdb : (x == ("__debug__" : Str)) = false := by decide) (he : starEach (e :: es) X.env = (false, eval e X.env) :: starEach es X.env := by rfl) (hpl : (backTo pos (starEach es X.env)).any (·.1) = false := by rfl) :
    PE X (.Call (.Name x p) (e :: es) [] pos) (zlu sp dvs E t) := by
  intro pins s σ H Q I h
  refine wpAny_Call_Name_kw (zi9 I hg hm ?_ hdb)
  refine PySem.W.callWith_K (h₀ := X.base) I.ok.mod.kin hk (thn (ha pos pins s σ H _ I h) fun us s1 ⟨vs, H1, I1, r, q⟩ => ⟨I1.kIn, ?_⟩) he hpl
  exact zlt F hr hb hd hx I1 r q
theorem zru (F : zar X.prog X.w X.K X.mg X.base CX k f fd ps sp) (hr : zaz k X.A) (hg : Gl X x) (hm : X.mg x = some (.ref f)) (hk : PySem.W.keepIn X.K (.ref f) = true) (hb : za2 X.K fd ps ds) (hd : zaf dvs ds) (hx : zhq CX X E)
    (hdb : (x == ("__debug__" : Str)) = false := by decide) : PE X (.Call (.Name x p) [] [] pos) (zlu sp dvs E zgy) := by
  intro pins s σ H Q I h
  refine wpAny_Call_Name_kw (zi9 I hg hm ?_ hdb)
  exact PySem.W.callWith_K0 I.kIn hk (zlt (us := []) F hr hb hd hx I .nil h)
end
section
variable {X : Cx} {CX : CXT} {k : Nat} {f C : Addr} {fd : FuncData} {ps ks : List Str} {sp : Sp} {E : XK} {x m : Str} {p pos apos kpos : Pos} {e o : Expr} {es : List Expr} {kws : List Keyword} {te ta : TE} {t tk : TA} {nm : Option Str}
variable {g : List Value -> List Value -> List Value} {gV : List V -> List V -> List V}
end
structure zba (N P : List Str) (sc : Scope) : Prop where
  kind : sc.kind = .function
  co : sc.isCoroutine = false
  gen : sc.isGenerator = false
  nd : N.Nodup
  pre : N.take P.length = P
  par : ∀ x ∈ P, sc.names.lookup x = some .local \/ sc.names.lookup x = some .cell
  nofree : ∀ y ∈ sc.names, y.2 ≠ .free
theorem zlf {kindOf : Str -> Option NameKind} {x : Str} : ∀ {binds : List (Str × Value)} {m : Str -> Option Value}, (∀ v, (x, v) ∉ binds) -> bindL kindOf binds m x = m x
  | [], _, _ => rfl
  | (n, v) :: r, m, h => by
    unfold bindL
    rw [zlf fun w hw => h w (List.mem_cons_of_mem _ hw)]
    split
    · have : x ≠ n := by rintro rfl; exact h v List.mem_cons_self
      simp [this]
    · rfl
theorem zlw {kindOf : Str -> Option NameKind} {x : Str} : ∀ {binds : List (Str × Value)} {m : Str -> Option Value}, (∀ v, (x, v) ∉ binds) -> bindC kindOf binds m x = m x
  | [], _, _ => rfl
  | (n, v) :: r, m, h => by
    unfold bindC
    rw [zlw fun w hw => h w (List.mem_cons_of_mem _ hw)]
    split
    · rfl
    · have : x ≠ n := by rintro rfl; exact h v List.mem_cons_self
      simp [this]
theorem zn1 {kindOf : Str -> Option NameKind} {x : Str} {v : Value} : ∀ {P : List Str} {vs : List Value} {i : Nat} {m : Str -> Option Value}, P.Nodup -> P[i]? = some x -> vs[i]? = some v -> kindOf x = some .local ->
    bindL kindOf (P.zip vs) m x = some v
  | [], _, _, _, _, h, _, _ => by simp at h
  | _ :: _, [], _, _, _, _, h, _ => by simp at h
  | p :: P, w :: vs, 0, m, nd, h1, h2, hk => by
    simp at h1 h2; subst h1; subst h2
    show bindL kindOf ((p, w) :: P.zip vs) m p = _
    unfold bindL
    rw [zlf fun v hv => (List.nodup_cons.mp nd).1 (List.of_mem_zip hv).1, if_pos hk]
    simp
  | p :: P, w :: vs, i + 1, m, nd, h1, h2, hk => by
    show bindL kindOf ((p, w) :: P.zip vs) m x = _
    unfold bindL
    exact zn1 (i := i) (List.nodup_cons.mp nd).2 (by simpa using h1) (by simpa using h2) hk
theorem zke {kindOf : Str -> Option NameKind} {x : Str} {v : Value} : ∀ {P : List Str} {vs : List Value} {i : Nat} {m : Str -> Option Value}, P.Nodup -> P[i]? = some x -> vs[i]? = some v -> kindOf x ≠ some .local ->
    bindC kindOf (P.zip vs) m x = some v
  | [], _, _, _, _, h, _, _ => by simp at h
  | _ :: _, [], _, _, _, _, h, _ => by simp at h
  | p :: P, w :: vs, 0, m, nd, h1, h2, hk => by
    simp at h1 h2; subst h1; subst h2
    show bindC kindOf ((p, w) :: P.zip vs) m p = _
    unfold bindC
    rw [zlw fun v hv => (List.nodup_cons.mp nd).1 (List.of_mem_zip hv).1, if_neg hk]
    simp
  | p :: P, w :: vs, i + 1, m, nd, h1, h2, hk => by
    show bindC kindOf ((p, w) :: P.zip vs) m x = _
    unfold bindC
    exact zke (i := i) (List.nodup_cons.mp nd).2 (by simpa using h1) (by simpa using h2) hk
noncomputable def start (N : List Str) (vs : List V) : St := vs.map some ++ List.replicate (N.length - vs.length) none
noncomputable def zd7 (CX : CXT) (P : Program) (w : World) (K : PySem.W.Frag) (mg : Str -> Option Value) (base : Heap) (N : List Str) (qual : Str) (scope : Scope) (f : Addr) (cd : Value) (A : Around) (outer : List Env) (s : Shared) (H : Hp) (E : XK) : Cx where
  prog := P
  w := w
  K := K
  mg := mg
  base := base
  A := A.deeper (envOfC qual scope s.heap.objs.size f cd)
  N := N
  s₀ := s
  H₀ := H
  env := envOfC qual scope s.heap.objs.size f cd
  outer := outer
  stack := envOfC qual scope s.heap.objs.size f cd :: outer
  ex := []
  calm := true
  fn := fun _ => true
  pn := []
  xe := fun e s' => wpAny (model P w) (A.deeper (envOfC qual scope s.heap.objs.size f cd)) (leaving (envOfC qual scope s.heap.objs.size f cd) e) (fun _ s'' => CX outer H s E e s'') (fun e' s'' => CX outer H s E e' s'') s'
theorem zly {sc : Scope} {n : Nat} {x : Str} (h : sc.names.lookup x = some .cell) : ∃ c, (cellsFrom n sc.names []).lookup x = some c := by
  have q := PySem.W.cellsFrom_some sc.names n [] (.inl h)
  exact Option.isSome_iff_exists.mp q
theorem zoh {CX : CXT} {P : Program} {w : World} {K : PySem.W.Frag} {mg : Str -> Option Value} {base : Heap} {N ps : List Str} {qual : Str} {scope : Scope} {f : Addr} {cd : Value} {A : Around} {outer : List Env} {s s1 : Shared} {H : Hp} {E : XK} {us : List Value} {vs : List V}
    (S : zba N ps scope) (hd : A.handled = none) (e0 : zc8 P w K mg base A outer s H) (hl : vs.length = ps.length) (r : zaf vs us)
    (x : InCallC s s.heap.objs.size (bindL (envOfC qual scope s.heap.objs.size f cd).kindOf (ps.zip us) fun _ => none) (cellsFrom (s.heap.objs.size + 1) scope.names []) (bindC (envOfC qual scope s.heap.objs.size f cd).kindOf (ps.zip us) fun _ => none) s1) :
    Inv (zd7 CX P w K mg base N qual scope f cd A outer s H E) [] (start N vs) H s1 := by
  have hpl : ps.length <= N.length := by have := congrArg List.length S.pre; rw [List.length_take] at this; omega
  obtain ⟨h1, tk, rfl, hk⟩ := x.done
  have noA : ∀ b : Addr, b ∉ (zd7 CX P w K mg base N qual scope f cd A outer s H E).ex := fun b z => absurd (show b ∈ ([] : List Addr) from z) (by simp)
  refine ⟨⟨e0.mod, S.kind, rfl, rfl, Nat.le_refl _, fun y z c h1 h2 => ?_, fun y hy => ?_, fun y c _ h => ?_, fun _ => hd, Around.frames_deeper e0.frames, .inr ⟨rfl, rfl⟩, fun b z => absurd z (noA b), e0.bs, e0.bsz, fun b _ _ => noA b, fun b z => absurd z (noA b), e0.funs, e0.frf⟩,
    rfl, e0.bare, Un.kept hk, ⟨_, x.toInCall.ns, fun i y v h1 h2 h3 => ?_⟩, fun y c h => ⟨_, x.cell y c h⟩, e0.hok.fresh (Nat.le_refl _), fun y c h => ?_, fun p hp => absurd (show p ∈ ([] : List (Addr × Obj)) from hp) (by simp), e0.hok.kept hk, ?_⟩
  · exact name_of_addr x.apart (PySem.mem_of_lookup h1) (PySem.mem_of_lookup h2)
  · have hy : scope.names.lookup y = some .cell \/ scope.names.lookup y = some .free := hy
    rcases hy with hy | hy
    · exact zly hy
    · exact absurd rfl (S.nofree _ (PySem.mem_of_lookup hy))
  · exact Nat.le_of_lt (x.above y c (PySem.mem_of_lookup h))
  · have hi : i < vs.length := by
      unfold start at h2
      by_cases hi : i < vs.length
      · exact hi
      · rw [List.getElem?_append_right (by simpa using hi)] at h2
        rw [List.getElem?_replicate] at h2
        split at h2 <;> cases h2
    have ha : vs[i]? = some v := by
      unfold start at h2
      rw [List.getElem?_append_left (by simpa using hi), List.getElem?_map] at h2
      cases e : vs[i]? with
      | none => rw [e] at h2; cases h2
      | some a => rw [e] at h2; cases h2; rfl
    obtain ⟨u, hu, rv⟩ := r.get ha
    have hp : ps[i]? = some y := by
      rw [<- S.pre, List.getElem?_take_of_lt (by omega)]; exact h1
    have ndP : ps.Nodup := by rw [<- S.pre]; exact S.nd.sublist (List.take_sublist _ _)
    refine ⟨u, rv, ?_⟩
    rcases S.par y (List.mem_of_getElem? hp) with k | k
    · exact .inl ⟨k, zn1 ndP hp hu k⟩
    · obtain ⟨c, e⟩ := zly (n := s.heap.objs.size + 1) k
      refine .inr ⟨.inl k, c, e, ?_⟩
      have q := x.cell y c e
      rw [zke ndP hp hu (by show scope.names.lookup y ≠ _; rw [k]; decide)] at q
      exact q
  · exact e0.hok.fresh (Nat.le_of_lt (x.above y c (PySem.mem_of_lookup h)))
  · unfold start
    show _ = N.length
    rw [List.length_append, List.length_map, List.length_replicate]
    omega
theorem zu3 {CX : CXT} {P : Program} {w : World} {K : PySem.W.Frag} {mg : Str -> Option Value} {base : Heap} {k : Nat} {f : Addr} {name qual : Str} {params : Arguments} {body : List Stmt} {scope : Scope} {dV kV doc pm cdv ct oc : Value} {an od : Option Addr}
    {osl : Array (Option Value)} {N ps : List Str} {sp : Sp} (lk : K.lookup f = some ⟨oc, od, .func (PySem.W.fnOf name qual params body scope dV kV doc pm an cdv ct), osl⟩) (hcd : PySem.W.codeIn K cdv qual = true) (S : zba N ps scope)
    (len : ∀ vs H Q E, sp vs H Q E -> vs.length = ps.length)
    (hbody : ∀ (A : Around) (outer : List Env) (s : Shared) (H : Hp) (vs : List V) (Q : VK) (E : XK), zaz k (A.deeper (envOfC qual scope s.heap.objs.size f cdv)) -> sp vs H Q E ->
      ∃ t, PSs (zd7 CX P w K mg base N qual scope f cdv A outer s H E) body t /\ t { nx := fun _ H' => Q .non H', rt := Q } (start N vs) H) :
    zar P w K mg base CX (k + 1) f (PySem.W.fnOf name qual params body scope dV kV doc pm an cdv ct) ps sp := by
  refine ⟨len, fun A outer s H args us vs Q E hr e0 hb r hsp => ?_⟩
  have hl := len _ _ _ _ hsp
  have KX : K.In s.heap := e0.mod.kin.keeps fun b o e => (e0.bs b o e).1
  have lim : s.heap.NoLimit := e0.mod.nolimit.keeps fun b o e => (e0.bs b o e).1
  have hkind : ∀ y ∈ ps.zip us, scope.names.lookup y.1 = some .local \/ (scope.names.lookup y.1 = some .cell /\ ((cellsFrom (s.heap.objs.size + 1) scope.names []).lookup y.1).isSome = true) := fun ⟨n, v⟩ hy => by
    rcases S.par n (List.of_mem_zip hy).1 with q | q
    · exact .inl q
    · exact .inr ⟨q, PySem.W.cellsFrom_some _ _ _ (.inl q)⟩
  refine codeAny_call_function hr.depth (KX _ _ lk) rfl S.co S.gen rfl (PySem.W.codeRec_of KX hcd) (hb _ _ _ _ ?_)
  refine wpAny_newFunctionEnv_cells S.kind hkind fun env he s1 x => ?_
  subst he
  refine ⟨lim.keeps x.toInCall.keep, codeAny_func ?_⟩
  obtain ⟨t, ht, hq⟩ := hbody A outer s H vs Q E (hr.deeper _) hsp
  have I : Inv (zd7 CX P w K mg base N qual scope f cdv A outer s H E) [] (start N vs) H s1 := zoh S hr.hd e0 hl r x
  refine wpAny_mono (ht [] s1 (start N vs) H _ I hq) (fun fl s' hs => ?_) fun e s' hs => hs
  have fin : ∀ {σ' : St} {H' : Hp} {v : V} {u : Value}, Inv (zd7 CX P w K mg base N qual scope f cdv A outer s H E) [] σ' H' s' -> zag v u -> Q v H' -> CE outer P w H s Q u s' :=
    fun {σ' H' v u} J rv q => ⟨v, H', J.os, J.bare, J.base, J.hok, rv, q⟩
  cases fl with
  | ret u =>
    obtain ⟨v, σ', H', J, rv, q⟩ := hs
    exact fin J rv q
  | next =>
    obtain ⟨σ', H', J, q⟩ := hs
    exact fin (v := V.non) (u := Value.none) J rfl q
  | brk =>
    obtain ⟨_, _, _, q⟩ := hs
    exact False.elim q
  | cont =>
    obtain ⟨_, _, _, q⟩ := hs
    exact False.elim q
end L2
namespace L2
open PySem PySem.Spec PyProof.Rows
section
variable {X : Cx} {x : Str} {p pos : Pos} {e : Expr} {es : List Expr} {t : TA} {id T : String} {r : List V -> Hp -> VK -> Prop}
noncomputable def tCB (r : List V -> Hp -> VK -> Prop) (t : TA) : TE := fun σ H Q => t σ H fun vs H1 => r vs H1 Q
theorem zkg (hc : zbr X (.builtin id) r) (hg : Gl X x) (hm : X.mg x = none) (hv : bootBuiltins x = some (.builtin id)) (ha : PA X (e :: es) t) (hn : x ≠ "__name__" := by decide) (hdb : (x == ("__debug__" : Str)) = false := by decide)
    (he : starEach (e :: es) X.env = (false, eval e X.env) :: starEach es X.env := by rfl) (hpl : (backTo pos (starEach es X.env)).any (·.1) = false := by rfl) : PE X (.Call (.Name x p) (e :: es) [] pos) (tCB r t) := by
  intro pins s σ H Q I h
  refine wpAny_Call_Name_kw (zgs I hg hm hv ?_ hn hdb)
  exact PyProof.Rows.callWith_builtin1 (thn (ha pos pins s σ H _ I h) fun us s1 ⟨vs, H1, I1, r1, q1⟩ => hc pins s1 σ H1 vs us Q I1 r1 q1) he hpl
theorem zlb (hc : zbr X (.type T) r) (hg : Gl X x) (hm : X.mg x = none) (hv : bootBuiltins x = some (.type T)) (ha : PA X (e :: es) t) (hn : x ≠ "__name__" := by decide) (hdb : (x == ("__debug__" : Str)) = false := by decide)
    (he : starEach (e :: es) X.env = (false, eval e X.env) :: starEach es X.env := by rfl) (hpl : (backTo pos (starEach es X.env)).any (·.1) = false := by rfl) : PE X (.Call (.Name x p) (e :: es) [] pos) (tCB r t) := by
  intro pins s σ H Q I h
  refine wpAny_Call_Name_kw (zgs I hg hm hv ?_ hn hdb)
  exact PyProof.Rows.callWith_type1 (thn (ha pos pins s σ H _ I h) fun us s1 ⟨vs, H1, I1, r1, q1⟩ => hc pins s1 σ H1 vs us Q I1 r1 q1) he hpl
end
end L2
namespace HT
open PySem PyProof.Rows
section
open PySem.SeqAt
open PySem.AutoSeq1 (wpAny_loadPart')
open PySem.MeetsSeq PySem.MeetsSeq2 PySem.MeetsSeq3
end
section
variable {prog : Program} {w : World} {A : Around} {E : Value -> Shared -> Prop} {s : Shared}
noncomputable def sIx (n d : Nat) : Option Int -> Nat
  | none => d
  | some v => if v < 0 then (v + (n : Int)).toNat else min v.toNat n
end
end HT
namespace L2
open PySem PySem.Spec PyProof.Rows
noncomputable abbrev TO := St -> Hp -> (Option Int -> Hp -> Prop) -> Prop
noncomputable def PO (X : Cx) (e : Option Expr) (t : TO) : Prop :=
  ∀ (pins : List (Addr × Obj)) (s : Shared) (σ : St) (H : Hp) (Q : Option Int -> Hp -> Prop), Inv X pins σ H s -> t σ H Q ->
    wpAny (model X.prog X.w) X.A (evalPart e X.env) (fun u s' => ∃ o H', Inv X pins σ H' s' /\ IsPart u o /\ Q o H') X.xe s
noncomputable def zum : TO := fun _ H Q => Q none H
noncomputable def ztq (t : TE) : TO := fun σ H Q => t σ H fun x H1 => ∃ i, x = .int i /\ Q (some i) H1
section
variable {X : Cx} {e : Expr} {te : TE} {lo hi : Option Expr} {tl th : TO} {pos p2 : Pos}
theorem zk2 : PO X none zum := by
  intro pins s σ H Q I h
  rw [evalPart_none]
  exact wpAny_pure ⟨none, H, I, .none, h⟩
theorem zk7 (h : PE X e te) : PO X (some e) (ztq te) := by
  intro pins s σ H Q I hw
  rw [evalPart_some]
  refine thn (h pins s σ H _ I hw) fun u s1 ⟨x, H1, I1, r1, q1⟩ => ?_
  obtain ⟨i, rfl, q⟩ := q1
  obtain ⟨t, rfl⟩ := r1
  exact ⟨some i, H1, I1, .int i t, q⟩
noncomputable def SlR (X : Cx) (r : V -> Option Int -> Option Int -> Hp -> VK -> Prop) : Prop :=
  ∀ (pins : List (Addr × Obj)) (s : Shared) (σ : St) (H : Hp) (x : V) (v vl vu : Value) (lo hi : Option Int) (sl : Addr) (Q : VK), Inv X pins σ H s -> zag x v -> s.heap.IsSliceOf sl vl vu .none -> IsPart vl lo -> IsPart vu hi -> r x lo hi H Q ->
    ∃ T id, typeLookup (.type T) "__getitem__" = pure (some (.builtin id)) /\ s.TypeIs v T /\ wpAny (model X.prog X.w) X.A (getItem v (.ref sl)) (EP X pins σ Q) X.xe s
theorem SlR.or {r r' : V -> Option Int -> Option Int -> Hp -> VK -> Prop} (h : SlR X r) (h' : SlR X r') : SlR X (fun x lo hi H Q => r x lo hi H Q \/ r' x lo hi H Q) := by
  intro pins s σ H x v vl vu lo hi sl Q I rx hs pl pu q
  rcases q with q | q
  · exact h pins s σ H x v vl vu lo hi sl Q I rx hs pl pu q
  · exact h' pins s σ H x v vl vu lo hi sl Q I rx hs pl pu q
noncomputable def tSl (r : V -> Option Int -> Option Int -> Hp -> VK -> Prop) (te : TE) (tl th : TO) : TE := fun σ H Q => te σ H fun x H1 => tl σ H1 fun l H2 => th σ H2 fun u H3 => r x l u H3 Q
theorem zjz {r : V -> Option Int -> Option Int -> Hp -> VK -> Prop} (hr : SlR X r) (he : PE X e te) (hl : PO X lo tl) (hu : PO X hi th) : PE X (.Subscript e (.Slice lo hi none p2) pos) (tSl r te tl th) := by
  intro pins s σ H Q I h
  refine Subscript_ (thn (he pins s σ H _ I h) fun v s1 ⟨x, H1, I1, r1, q1⟩ => ?_)
  refine wpAny_Slice (thn (hl pins s1 σ H1 _ I1 q1) fun vl s2 ⟨l, H2, I2, pl, q2⟩ => thn (hu pins s2 σ H2 _ I2 q2) fun vu s3 ⟨u, H3, I3, pu, q3⟩ => ?_)
  rw [evalPart_none]
  refine wpAny_pure ?_
  have I4 : Inv X pins σ H3 { s3 with heap := s3.heap.push { cls := .type "slice", data := .fields #[vl, vu, .none] } } := I3.kept (t' := s3.toks) fun b ob q => Heap.get?_push_of_some _ q
  obtain ⟨T, id, hT, ht, hg⟩ := hr pins { s3 with heap := s3.heap.push { cls := .type "slice", data := .fields #[vl, vu, .none] } } σ H3 x v vl vu l u s3.heap.objs.size Q I4 r1 (Heap.IsSliceOf.new ..) pl pu q3
  show wpAny (model X.prog X.w) X.A (subscriptTail e (.Slice lo hi none p2) v (.ref s3.heap.objs.size)) (EP X pins σ Q) X.xe { s3 with heap := s3.heap.push { cls := .type "slice", data := .fields #[vl, vu, .none] } }
  exact tail_any (ops := [.ref s3.heap.objs.size, v]) ht hT hg (by with_unfolding_all rfl)
noncomputable def zd1 (xs : List V) (lo hi : Option Int) : List V := (xs.drop (HT.sIx xs.length 0 lo)).take (HT.sIx xs.length xs.length hi - HT.sIx xs.length 0 lo)
theorem zui (xs : List V) (lo hi : Option Int) : (zd1 xs lo hi).length <= xs.length := by
  unfold zd1
  rw [List.length_take, List.length_drop]
  omega
end
end L2
namespace L2
open PySem PySem.Spec PyProof.Rows
noncomputable def ixN (n : Nat) (i : Int) : Option Nat := if 0 <= i then (if i < n then some i.toNat else none) else if -(n : Int) <= i then some (i + n).toNat else none
noncomputable def atI {α : Type} (xs : List α) (i : Int) : Option α := (ixN xs.length i).bind fun j => xs[j]?
theorem zm5 {n : Nat} {i : Int} {j : Nat} (h : ixN n i = some j) : seqIndex? i n = some j /\ j < n /\ -(n : Int) <= i /\ i < n := by
  unfold ixN at h
  by_cases h0 : 0 <= i
  · rw [if_pos h0] at h
    by_cases h1 : i < n
    · rw [if_pos h1] at h
      have e : i.toNat = j := Option.some.inj h
      exact ⟨by rw [seqIndex_of h0 h1, e], by omega, by omega, h1⟩
    · rw [if_neg h1] at h; cases h
  · rw [if_neg h0] at h
    by_cases h1 : -(n : Int) <= i
    · rw [if_pos h1] at h
      have e : (i + n).toNat = j := Option.some.inj h
      exact ⟨by rw [seqIndex_neg (by omega) h1, e], by omega, h1, by omega⟩
    · rw [if_neg h1] at h; cases h
theorem zk8 {α : Type} {xs : List α} {i : Int} {v : α} (h : atI xs i = some v) : ∃ j, seqIndex? i xs.length = some j /\ xs[j]? = some v /\ j < xs.length /\ -(xs.length : Int) <= i /\ i < xs.length := by
  unfold atI at h
  cases e : ixN xs.length i with
  | none => rw [e] at h; cases h
  | some j =>
    rw [e] at h
    obtain ⟨h1, h2, h3, h4⟩ := zm5 e
    exact ⟨j, h1, h, h2, h3, h4⟩
noncomputable def zjm (b : Expr) : Prop := ∀ o i, subscripted b false o i = operate [o, i] (getItem o i)
noncomputable def IxR (X : Cx) (r : R2) : Prop :=
  ∀ (value slice : Expr) (pins : List (Addr × Obj)) (s : Shared) (σ : St) (H : Hp) (x y : V) (v u : Value) (Q : VK), Inv X pins σ H s -> zag x v -> zag y u -> r x y H Q ->
    subscripted slice false v u = operate [v, u] (getItem v u) -> wpAny (model X.prog X.w) X.A (subscriptTail value slice v u) (EP X pins σ Q) X.xe s
noncomputable def MtR (X : Cx) (id : String) (r : V -> List V -> Hp -> VK -> Prop) : Prop :=
  ∀ (pins : List (Addr × Obj)) (s : Shared) (σ : St) (H : Hp) (x : V) (xs : List V) (v : Value) (us : List Value) (Q : VK), Inv X pins σ H s -> zag x v -> zaf xs us -> r x xs H Q ->
    wpAny (model X.prog X.w) X.A (call (.builtin id) (v :: us)) (EP X pins σ Q) X.xe s
section
variable {X : Cx} {a b : Expr} {ta tb : TE} {pos : Pos}
theorem IxR.or {r r' : R2} (h : IxR X r) (h' : IxR X r') : IxR X (fun x y H Q => r x y H Q \/ r' x y H Q) := by
  intro value slice pins s σ H x y v u Q I rx ry q hs
  rcases q with q | q
  · exact h value slice pins s σ H x y v u Q I rx ry q hs
  · exact h' value slice pins s σ H x y v u Q I rx ry q hs
theorem MtR.or {id : String} {r r' : V -> List V -> Hp -> VK -> Prop} (h : MtR X id r) (h' : MtR X id r') : MtR X id (fun x xs H Q => r x xs H Q \/ r' x xs H Q) := by
  intro pins s σ H x xs v us Q I rx rs q
  rcases q with q | q
  · exact h pins s σ H x xs v us Q I rx rs q
  · exact h' pins s σ H x xs v us Q I rx rs q
theorem znw {r : R2} (hr : IxR X r) (ha : PE X a ta) (hb : PE X b tb) (hs : zjm b) : PE X (.Subscript a b pos) (tOp r ta tb) := by
  intro pins s σ H Q I h
  exact Subscript_ (zg8 ha hb I h fun v u s2 x y H2 I2 rx ry q => hr a b pins s2 σ H2 x y v u Q I2 rx ry q (hs _ _))
noncomputable def zqp (K : PySem.W.Frag) : R2 := fun x y H Q => ∃ p xs i v, x = .ref p /\ y = .int i /\ SqL K H p xs /\ atI xs i = some v /\ Q v H
noncomputable def zoe (K : PySem.W.Frag) : R2 := fun x y H Q => ∃ p xs i v, x = .ref p /\ y = .int i /\ SqT K H p xs /\ atI xs i = some v /\ Q v H
theorem zlo : IxR X (zqp X.K) := by
  intro value slice pins s σ H x y v u Q I rx ry h hs
  obtain ⟨p, xs, i, z, rfl, rfl, hq, he, q⟩ := h
  cases rx
  obtain ⟨t, rfl⟩ := ry
  obtain ⟨its, r, pl, hz⟩ := I.list hq
  obtain ⟨j, h1, h2, h3, h4, h5⟩ := zk8 he
  obtain ⟨w, ew, rw'⟩ := r.get h2
  have hl := r.length
  have hn := ze9
  have fin : EP X pins σ Q w s := ⟨z, H, I, rw', q⟩
  by_cases h0 : 0 <= i
  · have hj : i.toNat = j := by
      rw [seqIndex_of h0 h5] at h1
      exact Option.some.inj h1
    exact item_listR pl.isList h0 (by omega) (by rw [hj]; simpa using ew) fin hs
  · have hj : (i + (its.toArray.size : Int)).toNat = j := by
      rw [seqIndex_neg (by omega) h4] at h1
      rw [List.size_toArray, <- hl]
      exact Option.some.inj h1
    exact subscriptTail_builtinR (x := w) pl.isList.typeIs slot_list_getitem.lookup
      (wpAny_getItem_list_neg (Q := fun r s' => r = w /\ EP X pins σ Q r s') pl.isList (by omega) (by rw [List.size_toArray] <;> omega) (by omega) (by rw [hj]; simpa using ew) ⟨rfl, fin⟩) hs
theorem zlv : IxR X (zoe X.K) := by
  intro value slice pins s σ H x y v u Q I rx ry h hs
  obtain ⟨p, xs, i, z, rfl, rfl, hq, he, q⟩ := h
  cases rx
  obtain ⟨t, rfl⟩ := ry
  obtain ⟨its, r, pl, hz⟩ := I.tuple hq
  obtain ⟨j, h1, h2, h3, h4, h5⟩ := zk8 he
  obtain ⟨w, ew, rw'⟩ := r.get h2
  have hl := r.length
  have hn := ze9
  have fin : EP X pins σ Q w s := ⟨z, H, I, rw', q⟩
  exact subscriptTail_builtinR (x := w) pl.typeIs slot_tuple_getitem.lookup
    (getItem_tuple (j := j) (Q := fun r s' => r = w /\ EP X pins σ Q r s') pl (by omega) (by omega) (by rw [List.size_toArray, <- hl]; exact h1) (by simpa using ew) ⟨rfl, fin⟩) hs
theorem zr5 (its : List Value) (n j : Nat) (u : Value) : Obj.mapSeq (·.setIfInBounds j u) { cls := .type "list", data := .seq its.toArray n } = { cls := .type "list", data := .seq (its.set j u).toArray n } := by
  simp [Obj.mapSeq]
theorem Inv.lst {pins : List (Addr × Obj)} {σ : St} {H : Hp} {s : Shared} {p : Addr} {xs : List V} (I : Inv X pins σ H s) (h : H p = some (.lst xs)) :
    ∃ (its : List Value) (n : Nat), zaf xs its /\ s.heap.get? p = some { cls := .type "list", data := .seq its.toArray n } /\ xs.length <= sizeLine := by
  obtain ⟨z, its, n, r, e⟩ := I.hok p _ h
  exact ⟨its, n, r, e, z⟩
theorem Inv.lstUpd {pins : List (Addr × Obj)} {σ : St} {H : Hp} {s : Shared} {p : Addr} {xs ys : List V} {its its' : List Value} {n n' : Nat} {f : Obj -> Obj} (I : Inv X pins σ H s) (h : H p = some (.lst xs))
    (ho : s.heap.get? p = some { cls := .type "list", data := .seq its.toArray n }) (hf : f { cls := .type "list", data := .seq its.toArray n } = { cls := .type "list", data := .seq its'.toArray n' }) (r : zaf ys its') (hz : ys.length <= sizeLine) (t : Nat) :
    Inv X pins σ (upd H p (.lst ys)) { s with heap := s.heap.update p f, toks := t } := by
  have e : (s.heap.update p f).get? p = some { cls := .type "list", data := .seq its'.toArray n' } := by
    rw [Heap.get?_update_self f ho (by rw [hf] <;> rfl), hf]
  refine I.write (x := p) (e := p) (by rw [h]; trivial) (.inl rfl) (fun b u hb q => (Heap.get?_update_other _ _ (Ne.symm hb)).trans q) ⟨_, e⟩ ?_
  exact ⟨hz, its', n', r, e⟩
noncomputable def zms : V -> V -> V -> Hp -> (Hp -> Prop) -> Prop := fun o i v H Q => ∃ p xs k j, o = .ref p /\ i = .int k /\ H p = some (.lst xs) /\ ixN xs.length k = some j /\ Q (upd H p (.lst (xs.set j v)))
theorem zqi : zkr X zms := by
  intro pins s σ H o i v ov iv u Q I ro ri rv h
  obtain ⟨p, xs, k, j, rfl, rfl, hp, hj, q⟩ := h
  cases ro
  obtain ⟨t, rfl⟩ := ri
  obtain ⟨its, n, r, ho, hz⟩ := I.lst hp
  obtain ⟨h1, h2, h3, h4⟩ := zm5 hj
  have hl := r.length
  have hn := ze9
  have I' : Inv X pins σ (upd H p (.lst (xs.set j v))) { s with heap := s.heap.update p (Obj.mapSeq (·.setIfInBounds j u)) } :=
    I.lstUpd hp ho (zr5 its n j u) (r.set rv j) (by rw [List.length_set]; exact hz) s.toks
  by_cases h0 : 0 <= k
  · have hk : k.toNat = j := by
      rw [seqIndex_of h0 h4] at h1
      exact Option.some.inj h1
    exact PySem.W.ki_setAt ho h0 (by omega) (by rw [List.size_toArray, <- hl]; exact h4) (by rw [hk]; exact ⟨_, I', q⟩)
  · have hk : (k + (its.toArray.size : Int)).toNat = j := by
      rw [seqIndex_neg (by omega) h3] at h1
      rw [List.size_toArray, <- hl]
      exact Option.some.inj h1
    exact PySem.W.ki_setBack ho (by omega) (by rw [List.size_toArray, <- hl]; exact h3) (by omega) (by rw [hk]; exact ⟨_, I', q⟩)
theorem zu5 (lo hi : Option Int) (n : Nat) : (sliceBounds lo hi none n).1 = ((HT.sIx n 0 lo : Nat) : Int) /\ (sliceBounds lo hi none n).2.1 = ((HT.sIx n n hi : Nat) : Int) /\ (sliceBounds lo hi none n).2.2 = 1 := by
  refine ⟨?_, ?_, rfl⟩
  · cases lo with
    | none => simp [sliceBounds, HT.sIx]
    | some i =>
      simp only [sliceBounds, HT.sIx, Option.getD_none, show (1 : Int) > 0 by decide, if_true]
      by_cases h : i < 0
      · simp only [h, if_true] <;> omega
      · simp only [h, if_false] <;> omega
  · cases hi with
    | none => simp [sliceBounds, HT.sIx]
    | some i =>
      simp only [sliceBounds, HT.sIx, Option.getD_none, show (1 : Int) > 0 by decide, if_true]
      by_cases h : i < 0
      · simp only [h, if_true] <;> omega
      · simp only [h, if_false] <;> omega
theorem zpa (its : List Value) (lo hi : Option Int) : slicePick its.toArray lo hi none = ((its.drop (HT.sIx its.length 0 lo)).take (HT.sIx its.length its.length hi - HT.sIx its.length 0 lo)).toArray := by
  obtain ⟨h1, h2, h3⟩ := zu5 lo hi its.toArray.size
  unfold slicePick
  rw [h1, h2, h3]
  simp only [sliceRange_one, pick_run, List.size_toArray] <;> rfl
noncomputable def zun (K : PySem.W.Frag) : V -> Option Int -> Option Int -> Hp -> VK -> Prop := fun x lo hi H Q => ∃ a xs, x = .ref a /\ SqL K H a xs /\ ∀ p, H p = none -> Q (.ref p) (upd H p (.lst (zd1 xs lo hi)))
theorem zpp : SlR X (zun X.K) := by
  intro pins s σ H x v vl vu lo hi sl Q I rx hs pl pu h
  obtain ⟨a, xs, rfl, hx, q⟩ := h
  cases rx
  obtain ⟨its, r, ht, hz⟩ := I.list hx
  have hlen := r.length
  refine ⟨"list", _, slot_list_getitem.lookup, ht.isList.typeIs, ?_⟩
  refine wpAny_getItem_list_slice ht.isList hs pl pu .none (by simp) ?_ (by rw [List.size_toArray] <;> omega)
  rw [zpa, <- hlen]
  refine ⟨.ref s.heap.objs.size, _, I.laid (t' := s.toks) (o := .lst (zd1 xs lo hi)) (fun b ob q => Heap.get?_push_of_some _ q) (Nat.le_refl _) ?_, rfl, q _ (I.hok.fresh (Nat.le_refl _))⟩
  exact ⟨Nat.le_trans (zui xs lo hi) hz, _, 0, (r.drop (HT.sIx xs.length 0 lo)).take (HT.sIx xs.length xs.length hi - HT.sIx xs.length 0 lo), Heap.get?_push_size _ rfl⟩
noncomputable def zbu : V -> Bool
  | .non => true
  | .bl _ => true
  | .int _ => true
  | .str _ => true
  | _ => false
noncomputable def eqV : V -> V -> Bool
  | .non, .non => true
  | .bl a, .bl b => a == b
  | .bl a, .int b => (if a then 1 else 0) == b
  | .int a, .bl b => a == (if b then 1 else 0)
  | .int a, .int b => a == b
  | .str a, .str b => a == b
  | _, _ => false
theorem zmz {A : Around} {s : Shared} {y x : V} {u v : Value} (ry : zag y u) (rx : zag x v) (fy : zbu y = true) (fx : zbu x = true) : SeqAt.EqAt A s u v (eqV y x) := by
  cases y with
  | non =>
    cases ry
    cases x with
    | non => cases rx; exact SeqAt.EqAt.same _
    | bl b => cases rx; exact SeqAt.EqAt.none_bool b
    | int b => obtain ⟨t, rfl⟩ := rx; exact SeqAt.EqAt.none_int b t
    | str b => obtain ⟨t, rfl⟩ := rx; exact SeqAt.EqAt.none_str b t
    | _ => exact absurd (show false = true from fx) Bool.false_ne_true
  | bl a =>
    cases ry
    cases x with
    | non => cases rx; exact SeqAt.EqAt.bool_none a
    | bl b => cases rx; exact SeqAt.EqAt.bool_bool a b
    | int b => obtain ⟨t, rfl⟩ := rx; exact SeqAt.EqAt.bool_int a b t
    | str b => obtain ⟨t, rfl⟩ := rx; exact SeqAt.EqAt.bool_str a b t
    | _ => exact absurd (show false = true from fx) Bool.false_ne_true
  | int a =>
    obtain ⟨t', rfl⟩ := ry
    cases x with
    | non => cases rx; exact SeqAt.EqAt.int_none a t'
    | bl b => cases rx; exact SeqAt.EqAt.int_bool a t' b
    | int b => obtain ⟨t, rfl⟩ := rx; exact SeqAt.EqAt.int_int a t' b t
    | str b => obtain ⟨t, rfl⟩ := rx; exact SeqAt.EqAt.int_str a t' b t
    | _ => exact absurd (show false = true from fx) Bool.false_ne_true
  | str a =>
    obtain ⟨t', rfl⟩ := ry
    cases x with
    | non => cases rx; exact SeqAt.EqAt.str_none a t'
    | bl b => cases rx; exact SeqAt.EqAt.str_bool a t' b
    | int b => obtain ⟨t, rfl⟩ := rx; exact SeqAt.EqAt.str_int a t' b t
    | str b => obtain ⟨t, rfl⟩ := rx; exact SeqAt.EqAt.str_str a t' b t
    | _ => exact absurd (show false = true from fx) Bool.false_ne_true
  | _ => exact absurd (show false = true from fy) Bool.false_ne_true
noncomputable def eqU (x : V) (u : Value) : Bool := match u with
  | .none => eqV .non x
  | .bool b => eqV (.bl b) x
  | .int i _ => eqV (.int i) x
  | .str z _ => eqV (.str z) x
  | _ => false
theorem zln {x y : V} {u : Value} (r : zag y u) (f : zbu y = true) : eqU x u = eqV y x := by
  cases y with
  | non => cases r; rfl
  | bl b => cases r; rfl
  | int i => obtain ⟨t, rfl⟩ := r; rfl
  | str z => obtain ⟨t, rfl⟩ := r; rfl
  | _ => exact absurd (show false = true from f) Bool.false_ne_true
theorem zji {x : V} : ∀ {xs : List V} {us : List Value}, zaf xs us -> xs.all zbu = true -> us.any (eqU x) = xs.any fun y => eqV y x
  | _, _, .nil, _ => rfl
  | y :: xs, u :: us, .cons r t, f => by
    rw [List.all_cons, Bool.and_eq_true] at f
    rw [List.any_cons, List.any_cons, zln r f.1, zji t f.2]
theorem zj2 {A : Around} {s : Shared} {x : V} {v : Value} (rx : zag x v) (fx : zbu x = true) : ∀ {xs : List V} {us : List Value}, zaf xs us -> xs.all zbu = true -> ∀ u ∈ us, SeqAt.EqAt A s u v (eqU x u)
  | _, _, .nil, _ => fun u hu => by cases hu
  | y :: xs, u :: us, .cons r t, f => fun u' hu => by
    rw [List.all_cons, Bool.and_eq_true] at f
    rcases List.mem_cons.mp hu with rfl | hu
    · rw [zln r f.1]; exact zmz r rx f.1 fx
    · exact zj2 rx fx t f.2 u' hu
noncomputable def inV (x : V) (xs : List V) : Bool := xs.any fun y => eqV y x
noncomputable def rIn (K : PySem.W.Frag) (neg : Bool) : R2 := fun x y H Q => ∃ p xs, y = .ref p /\ (SqL K H p xs \/ SqT K H p xs) /\ zbu x = true /\ xs.all zbu = true /\ Q (.bl (if neg then !inV x xs else inV x xs)) H
theorem zr1 : OpR X (compareOp .NotIn) (rIn X.K true) := by
  intro pins s σ H x y v u Q I rx ry h
  obtain ⟨p, xs, rfl, hq, fx, fs, q⟩ := h
  cases ry
  rcases hq with hq | hq
  · obtain ⟨its, r, pl, hz⟩ := I.list hq
    refine SeqAt.notIn_listAt (eqU x) pl.isList (fun w hw => zj2 rx fx r fs w (by simpa using hw)) ⟨.bl _, H, I, rfl, ?_⟩
    rw [show its.toArray.any (eqU x) = its.any (eqU x) by simp, zji r fs]
    exact q
  · obtain ⟨its, r, pl, hz⟩ := I.tuple hq
    refine SeqAt.notIn_tupleAt (eqU x) pl (fun w hw => zj2 rx fx r fs w (by simpa using hw)) ⟨.bl _, H, I, rfl, ?_⟩
    rw [show its.toArray.any (eqU x) = its.any (eqU x) by simp, zji r fs]
    exact q
theorem zql : zbr X (.builtin "len") (fun xs H Q => ∃ p ys, xs = [.ref p] /\ (SqL X.K H p ys \/ SqT X.K H p ys) /\ Q (.int ys.length) H) := by
  intro pins s σ H xs us Q I r h
  obtain ⟨p, ys, rfl, hq, q⟩ := h
  obtain ⟨u, rfl, rx⟩ := zfy r
  cases rx
  have hn := ze9
  rcases hq with hq | hq
  · obtain ⟨its, r', pl, hz⟩ := I.list hq
    have hlen := r'.length
    exact Calls.call_len_list pl.isList (by simp only [List.size_toArray] <;> omega) ⟨.int ys.length, H, I.tok _, ⟨s.toks + 1, by rw [List.size_toArray, hlen]⟩, q⟩
  · obtain ⟨its, r', pl, hz⟩ := I.tuple hq
    have hlen := r'.length
    exact len_tuple pl (by simp only [List.size_toArray] <;> omega) ⟨.int ys.length, H, I.tok _, ⟨s.toks + 1, by rw [List.size_toArray, hlen]⟩, q⟩
theorem zt9 : zbr X (.builtin "len") (fun xs H Q => ∃ z, xs = [.str z] /\ z.length <= sizeLine /\ Q (.int z.length) H) := by
  intro pins s σ H xs us Q I r h
  obtain ⟨z, rfl, hz, q⟩ := h
  obtain ⟨u, rfl, t, rfl⟩ := zfy r
  have hn := ze9
  exact len_str (by omega) ⟨.int z.length, H, I.tok _, ⟨_, rfl⟩, q⟩
theorem zbr.or {f : Value} {r r' : List V -> Hp -> VK -> Prop} (h : zbr X f r) (h' : zbr X f r') : zbr X f (fun xs H Q => r xs H Q \/ r' xs H Q) := by
  intro pins s σ H xs us Q I rs q
  rcases q with q | q
  · exact h pins s σ H xs us Q I rs q
  · exact h' pins s σ H xs us Q I rs q
noncomputable def tyV (K : PySem.W.Frag) (T : String) (x : V) (H : Hp) : Prop := match x with
  | .str _ => T = "str"
  | .int _ => T = "int"
  | .ref p => (T = "list" /\ ∃ xs, SqL K H p xs) \/ (T = "tuple" /\ ∃ o, K.lookup p = some o /\ o.cls = .type "tuple" /\ o.dict = none) \/
      (T = "dict" /\ ((∃ kvs, H p = some (.dK kvs)) \/ ∃ kvs, H p = some (.dT kvs))) \/ (T = "set" /\ ∃ S n, H p = some (.set S n))
  | _ => False
theorem zlq {pins : List (Addr × Obj)} {σ : St} {H : Hp} {s : Shared} {T : String} {x : V} {v : Value} (I : Inv X pins σ H s) (r : zag x v) (ty : tyV X.K T x H) :
    s.TypeIs v T /\ ∀ a, v = .ref a -> ∃ ob, s.heap.get? a = some ob /\ ob.dict = none := by
  cases x with
  | str z =>
    obtain ⟨t, rfl⟩ := r
    cases (show T = "str" from ty)
    exact ⟨typeIs_str s z t, fun _ e => nomatch e⟩
  | int i =>
    obtain ⟨t, rfl⟩ := r
    cases (show T = "int" from ty)
    exact ⟨typeIs_int s i t, fun _ e => nomatch e⟩
  | ref p =>
    cases r
    rcases ty with ⟨rfl, xs, hq⟩ | ⟨rfl, o, hk, hc, hd⟩ | ⟨rfl, hk⟩ | ⟨rfl, S, n, hk⟩
    · obtain ⟨its, _, pl, _⟩ := I.list hq
      refine ⟨pl.isList.typeIs, fun a e => ?_⟩
      cases e
      obtain ⟨o, n, e, c, hd, _⟩ := pl
      exact ⟨o, e, hd⟩
    · refine ⟨⟨o, I.kIn p o hk, hc⟩, fun a e => ?_⟩
      cases e
      exact ⟨o, I.kIn _ o hk, hd⟩
    · have z : ∃ o, s.heap.get? p = some o /\ o.ExactDict := by
        rcases hk with ⟨kvs, hk⟩ | ⟨kvs, hk⟩
        · obtain ⟨_, _, _, _, o, _, _, e, ex, _⟩ := I.hok p _ hk
          exact ⟨o, e, ex⟩
        · obtain ⟨_, _, _, _, o, _, _, e, ex, _⟩ := I.hok p _ hk
          exact ⟨o, e, ex⟩
      obtain ⟨o, e, ex⟩ := z
      refine ⟨⟨o, e, ex.1⟩, fun a e2 => ?_⟩
      cases e2
      exact ⟨o, e, ex.2.1⟩
    · obtain ⟨o, _, _, _, e, ex, _⟩ := I.hok p _ hk
      refine ⟨⟨o, e, ex.1⟩, fun a e2 => ?_⟩
      cases e2
      exact ⟨o, e, ex.2.1⟩
  | _ => exact False.elim ty
noncomputable def znf (K : PySem.W.Frag) (T : String) (r : V -> List V -> Hp -> VK -> Prop) (to : TE) : TE := fun σ H Q => to σ H fun x H1 => tyV K T x H1 /\ r x [] H1 Q
noncomputable def tBM (K : PySem.W.Frag) (T : String) (r : V -> List V -> Hp -> VK -> Prop) (to : TE) (t : TA) : TE := fun σ H Q => to σ H fun x H1 => tyV K T x H1 /\ t σ H1 fun xs H2 => r x xs H2 Q
variable {o e : Expr} {es : List Expr} {to : TE} {t : TA} {name : Str} {apos cpos : Pos} {T id : String} {r : V -> List V -> Hp -> VK -> Prop}
theorem zuz (pa : PlainAttrs T) (slot : Slot T name id) (hty : typeOf (.builtin id) = pure (.type "method_descriptor")) (hm : MtR X id r) (ho : PE X o to)
    (hbase : attributeBase o name X.env (eval o X.env) = eval o X.env := by rfl) (hline : (apos.endLine == cpos.line) = true := by rfl) : PE X (.Call (.Attribute o name apos) [] [] cpos) (znf X.K T r to) := by
  intro pins s σ H Q I h
  refine wpAny_Call_method0_late hbase hline (thn (ho pins s σ H _ I h) fun v s1 ⟨x, H1, I1, r1, ty, q1⟩ => ?_)
  obtain ⟨h1, h2⟩ := zlq I1 r1 ty
  exact ⟨T, id, pa, slot, hty, h1, h2, Calls.callWith_builtin rfl (PySem.evalArgs_none (hm pins s1 σ H1 x [] v [] Q I1 r1 .nil q1))⟩
theorem zjn (pa : PlainAttrs T) (slot : Slot T name id) (hty : typeOf (.builtin id) = pure (.type "method_descriptor")) (hm : MtR X id r) (ho : PE X o to) (ha : PA X (e :: es) t)
    (hbase : attributeBase o name X.env (eval o X.env) = eval o X.env := by rfl)
    (hfew : ((backTo cpos (starEach (e :: es) X.env)).all (fun x => !x.1) && (backToKw cpos (keywordEach [] X.env)).all (fun x => x.1.isSome)
      && decide ((e :: es).length + ([] : List Keyword).length + (if ([] : List Keyword).isEmpty then 0 else 1) < 30)) = true := by rfl)
    (hline : (apos.endLine == cpos.line) = true := by rfl) (hs : starEach (e :: es) X.env = (false, eval e X.env) :: starEach es X.env := by rfl) (hplain : (backTo cpos (starEach es X.env)).any (·.1) = false := by rfl) :
    PE X (.Call (.Attribute o name apos) (e :: es) [] cpos) (tBM X.K T r to t) := by
  intro pins s σ H Q I h
  refine wpAny_Call_method_late hbase hfew hline rfl (thn (ho pins s σ H _ I h) fun v s1 ⟨x, H1, I1, r1, ty, q1⟩ => ?_)
  obtain ⟨h1, h2⟩ := zlq I1 r1 ty
  refine ⟨T, id, pa, slot, hty, h1, h2, ?_⟩
  have hA := ha cpos pins s1 σ H1 _ I1 q1
  rw [hs] at hA ⊢
  refine Calls.callWith_builtin (by show (false || (backTo cpos (starEach es X.env)).any (·.1)) = false; rw [hplain] <;> rfl) (Calls.evalArgs_plain ?_)
  exact thn hA fun us s2 ⟨vs, H2, I2, r2, q2⟩ => hm pins s2 σ H2 x vs v us Q I2 r1 r2 q2
end
end L2
namespace L2
open PySem PySem.Spec PyProof.Rows
theorem zaf.one : ∀ {x : V} {us : List Value}, zaf [x] us -> ∃ u, us = [u] /\ zag x u
  | _, _, .cons r .nil => ⟨_, rfl, r⟩
theorem zaf.two : ∀ {x y : V} {us : List Value}, zaf [x, y] us -> ∃ u v, us = [u, v] /\ zag x u /\ zag y v
  | _, _, _, .cons r (.cons q .nil) => ⟨_, _, rfl, r, q⟩
theorem zaf.zero : ∀ {us : List Value}, zaf [] us -> us = []
  | _, .nil => rfl
theorem zaf.dropLast {xs : List V} {us : List Value} (h : zaf xs us) : zaf xs.dropLast us.dropLast := by
  induction h with
  | nil => exact .nil
  | cons r t ih =>
    cases t with
    | nil => exact .nil
    | cons q t' => exact .cons r ih
section
variable {X : Cx} {pins : List (Addr × Obj)} {σ : St} {H : Hp} {s : Shared} {l b : Addr} {xs ys zs : List V}
theorem Inv.lnew {its : List Value} {t' : Nat} (I : Inv X pins σ H s) (hv : zaf ys its) (hz : ys.length <= sizeLine) :
    Inv X pins σ (upd H s.heap.objs.size (.lst ys)) { s with heap := s.heap.push { cls := .type "list", data := .seq its.toArray }, toks := t' } :=
  I.laid (fun _ _ q => Heap.get?_push_of_some _ q) (Nat.le_refl _) ⟨hz, its, 0, hv, Heap.get?_push_size _ rfl⟩
theorem Inv.fresh (I : Inv X pins σ H s) : H s.heap.objs.size = none := I.hok.fresh (Nat.le_refl _)
theorem Inv.lstM (I : Inv X pins σ H s) (hH : H l = some (.lst xs)) : xs.length <= sizeLine /\ ∃ (its : List Value) (n : Nat), zaf xs its /\ xs.length = its.length /\ s.heap.get? l = some { cls := .type "list", data := .seq its.toArray n } := by
  obtain ⟨z, its, n, r, e⟩ := I.hok l _ hH
  exact ⟨z, its, n, r, r.length, e⟩
end
section
variable {X : Cx}
noncomputable def zsv : R2 := fun x y H Q => ∃ l b xs zs, x = .ref l /\ y = .ref b /\ H l = some (.lst xs) /\ H b = some (.lst zs) /\ xs.length + zs.length <= sizeLine /\ ∀ p, H p = none -> Q (.ref p) (upd H p (.lst (xs ++ zs)))
theorem zmh : OpR X (binaryOp .Add) zsv := by
  intro pins s σ H x y v u Q I rx ry h
  obtain ⟨l, b, xs, zs, rfl, rfl, hH, hB, hz, q⟩ := h
  cases rx
  cases ry
  obtain ⟨z, its, n, r, hl, e⟩ := I.lstM hH
  obtain ⟨z2, its2, n2, r2, hl2, e2⟩ := I.lstM hB
  refine PySem.P.add_list e e2 ?_ (by rw [List.size_toArray, List.size_toArray]; omega)
  have ea : its.toArray ++ its2.toArray = (its ++ its2).toArray := by simp
  rw [ea]
  exact ⟨.ref _, _, I.lnew (t' := s.toks) (r.append r2) (by rw [List.length_append]; omega), rfl, q _ I.fresh⟩
end
section
variable {prog : Program} {w : World} {A : Around} {E : Value -> Shared -> Prop} {s : Shared}
set_option maxRecDepth 100000 in
end
section
variable {X : Cx}
end
end L2
namespace Att
open PySem PySem.W PySem.Calls PyProof.Rows
theorem zse {P : Params} {h : Heap} : ∀ (ns : List Int) (vs : List Value), WellAll P h vs (ns.map WData.int) -> IntsAre vs ns := by
  intro ns
  induction ns with
  | nil =>
    intro vs w
    rw [List.map_nil] at w
    cases w
    exact .nil
  | cons n ns ih =>
    intro vs w
    rw [List.map_cons] at w
    cases w with
    | cons a b =>
      cases a
      exact .cons _ _ (ih _ b)
theorem zqd {l : OpenLaw} {n : Nat} (hn : l.most = some n) {P : Params} {h : Heap} {args : List WData} {vals : List Value}
    (hpre : l.row.toRowW.claim.pre args = true) (hwl : WellAll P h vals args) :
    ∃ a vs ns, vals = [Value.ref a] /\ args = [WData.list (ns.map WData.int)] /\ h.get? a = some { cls := .type "list", data := .seq vs.toArray } /\ IntsAre vs ns /\ ns.length <= n := by
  have hsh : WShape.hasAll [] args [.list .int] = true := (pre_splitW hpre).1
  have hc : l.pre.holds [] { args := args } = true := (pre_splitW hpre).2
  obtain ⟨d, r, rfl, h1, h2⟩ := hasAllW_cons hsh
  obtain rfl := hasAllW_nil h2
  obtain ⟨xs, rfl, h3⟩ := hasW_list h1
  obtain ⟨ns, rfl⟩ := items_int h3
  have hlen : ns.length <= n := by
    unfold OpenLaw.pre at hc
    have h4 : (WTm.not (.lt (.lit (.int (n : Int))) (.len (.arg 0)))).holds [] { args := [.list (ns.map .int)] } = true := by
      have h4 := (holds_andW hc).1
      rw [hn] at h4
      exact h4
    have h5 := condW_of h4 (w_not (w_lt w_lit (w_len_list (w_arg rfl))))
    rw [List.length_map] at h5
    refine Nat.le_of_not_lt fun q => ?_
    have q' : (n : Int) < ((ns.length : Nat) : Int) := by omega
    first
      | (rw [decide_eq_true q'] at h5; exact absurd h5 (by decide))
      | (simp at h5; omega)
  cases hwl with
  | cons w1 w2 =>
    cases w2
    cases w1 with
    | list ho hall => exact ⟨_, _, ns, rfl, rfl, ho, zse ns _ hall, hlen⟩
theorem zpj (l : OpenLaw) (args : List WData) : l.row.toRowW.claim.post args (.bool true) args = true :=
  postW_of (r := l.row.toRowW) (X := (true == true))
    (show WShape.has [] (.bool true) .bool = true by first | rfl | decide | simp [WShape.has, WShape.arms, WShape.armsAll])
    (show (WTm.eq .res (.lit (.bool true))).value [] { args := args, res := some (.bool true), after := args } = some (.bool (true == true)) from w_eq_bool (w_res rfl) w_lit) rfl
theorem attach_call {l : OpenLaw} {n : Nat} {q : Program} {loose : List Str} {XP : (Str -> Option Value) -> Heap -> Prop} {YP : World -> Heap -> Prop} {d : DefRec}
    (hn : l.most = some n) (hdf : d.params.defaults = [])
    (call : ∀ (w : World) (s₀ s₁ : Shared) (mg mb : Str -> Option Value) (fa : Addr) (o : Obj) (pm cd doc : Value) (a : Addr) (vs : List Value) (ns : List Int),
      Ground q loose [] XP w s₀ mg mb s₁.heap -> YP w s₁.heap ->
      s₁.heap.get? fa = some o -> o.data = .func (docDef d.name d.params d.body d.scope pm cd doc) -> s₁.heap.CodeRec cd d.name -> mg d.name = some (.ref fa) ->
      s₁.heap.get? a = some { cls := .type "list", data := .seq vs.toArray } -> IntsAre vs ns -> ns.length <= n -> s₁.gens = #[] ->
      codeAny (model l.prog w) callerA (.call (.ref fa) ⟨[.ref a], []⟩) (fun r s' => r = .ok (.ret (.bool true)) /\ OldK s₁.heap s'.heap /\ s'.os = s₁.os /\ AllBare s'.gens) s₁) :
    WalkO q loose XP YP l.row.toRowW d [] (fun f vs => PySem.call f vs) := by
  intro w s₀ s₁ mg mb G Y fa o pm cd doc dV kV ho hd hcd hD hmg hg args vals as hpre hlay hrd hwl hlo
  obtain rfl : dV = .none := Dflts.none hD hdf
  obtain rfl : kV = .none := Dflts.noKw hD
  obtain ⟨a, vs, ns, rfl, rfl, hobj, hints, hlen⟩ := zqd hn hpre hwl
  refine enter_call (codeAny_mono (call w s₀ s₁ mg mb fa o pm cd doc a vs ns G Y ho (fd_plain hd) hcd hmg hobj hints hlen hg) fun r s' hq => ?_)
  obtain ⟨rfl, h2, h3, h4⟩ := hq
  exact ⟨.inl ⟨.bool true, .bool true, [], rfl, fun _ => rfl, .bool true, zpj l _, fun _ => ⟨List.Pairwise.nil, fun _ hm => (nomatch hm)⟩⟩, h2, h3, h4⟩
section
variable {prog : Program} {w : World} {A : Around} {E : Value -> Shared -> Prop} {s : Shared} {K : Frag}
end
end Att
namespace L2
open PySem PySem.Spec PyProof.Rows
theorem znh : ∀ {vs : List Value} {ns : List Int}, IntsAre vs ns -> zaf (ns.map V.int) vs
  | _, _, .nil => .nil
  | _, _, .cons n t h => .cons ⟨t, rfl⟩ (znh h)
noncomputable def zhh (H : Hp) : Prop := ∀ b, H b = none \/ ∃ o xs, H b = some (.frz o (.lst xs))
theorem zt3 {P : Program} {w : World} {K : PySem.W.Frag} {mg mb : Str -> Option Value} {CX : CXT} {k : Nat} {fa a : Addr} {fd : FuncData} {x : Str} {sp : Sp} {s₁ : Shared} {vs : List Value} {ns : List Int}
    (KX : K.In s₁.heap) (hns : s₁.heap.Ns mainGlobals mg) (hb : s₁.heap.Ns builtinsNs mb) (hbb : ∀ x : Str, x ≠ "__name__" -> mb x = bootBuiltins x) (hlim : s₁.heap.NoLimit) (hg : s₁.gens = #[])
    (ha : s₁.heap.get? a = some { cls := .type "list", data := .seq vs.toArray }) (hi : IntsAre vs ns) (hl : ns.length <= sizeLine) (hr : zaz k callerA)
    (F : ∀ base : Heap, K.In base -> base.Ns mainGlobals mg -> zar P w K mg base CX k fa fd [x] sp) (hbind : ∀ (s : Shared) (u : Value), BindsTo s fd ⟨[u], []⟩ [(x, u)])
    (hsp : ∀ H : Hp, zhh H -> SqL K H a (ns.map V.int) -> sp [.ref a] H (fun v _ => v = .bl true) fun _ _ _ => False)
    (hCX : ∀ H e s', CX [] H s₁ (fun _ _ _ => False) e s' -> False) :
    codeAny (model P w) callerA (.call (.ref fa) ⟨[.ref a], []⟩) (fun r s' => r = .ok (.ret (.bool true)) /\ OldK s₁.heap s'.heap /\ s'.os = s₁.os /\ AllBare s'.gens) s₁ := by
  have rv := znh hi
  have lenV := hi.length
  have core : ∀ H : Hp, zhh H -> SqL K H a (ns.map V.int) -> HOk P w H s₁.heap -> (∀ b, H b ≠ none -> b = a) -> (H a ≠ none -> K.lookup a = none) ->
      codeAny (model P w) callerA (.call (.ref fa) ⟨[.ref a], []⟩) (fun r s' => r = .ok (.ret (.bool true)) /\ OldK s₁.heap s'.heap /\ s'.os = s₁.os /\ AllBare s'.gens) s₁ := by
    intro H hO hS hok hA hK
    have base_of : ∀ {b : Addr} {o : Obj}, s₁.heap.get? b = some o -> H b = none -> (zdw s₁.heap H).get? b = some o := fun e n => zsm e n
    have noA : ∀ {b : Addr} {o : Obj} {es : Array DictEntry} {ep : Nat}, s₁.heap.get? b = some o -> o.data = .dict es ep -> H b = none := fun {b o es ep} e d => by
      cases q : H b with
      | none => rfl
      | some u =>
        have e' : b = a := hA b (by rw [q]; simp)
        subst e'
        rw [ha] at e; cases e
        have d' : Data.seq vs.toArray _ = Data.dict es ep := d
        cases d'
    have nsK : ∀ {b : Addr} {m : Str -> Option Value}, s₁.heap.Ns b m -> (zdw s₁.heap H).Ns b m := fun {b m} ⟨o, es, ep, e, d, r⟩ => ⟨o, es, ep, base_of e (noA e d), d, r⟩
    have hKb : K.In (zdw s₁.heap H) := fun b o e => base_of (KX b o e) (by
      cases q : H b with
      | none => rfl
      | some u =>
        have e' : b = a := hA b (by rw [q]; simp)
        subst e'
        rw [hK (by rw [q]; simp)] at e; cases e)
    have hM : Mod K mg (zdw s₁.heap H) := ⟨hKb, nsK hns, ⟨mb, nsK hb, hbb⟩, let ⟨mc, h1, h2⟩ := hlim; ⟨mc, nsK h1, h2⟩⟩
    have e0 : zc8 P w K mg (zdw s₁.heap H) callerA [] s₁ H := ⟨rfl, hM, fun b o e => zry e, Nat.le_of_eq (zrp _ _), trivial, fun b hb => absurd (show b ∈ ([] : List Addr) from hb) (by simp), hok, .of_eq hg⟩
    refine codeAny_mono ((F _ hKb (nsK hns)).run callerA [] s₁ H ⟨[.ref a], []⟩ [.ref a] [.ref a] _ _ hr e0 (hbind s₁ (.ref a)) (.cons rfl .nil) (hsp H hO hS)) fun r s' h => ?_
    cases r with
    | error e => exact (hCX H e s' h).elim
    | ok fl =>
      cases fl with
      | next => exact False.elim h
      | brk => exact False.elim h
      | cont => exact False.elim h
      | ret u =>
        obtain ⟨v, H', os, bare, un, hok', r', q⟩ := h
        have q' : v = .bl true := q
        subst q'
        obtain rfl : u = Value.bool true := r'
        refine ⟨rfl, OldK.of_keep fun b o e => ?_, os, bare⟩
        cases q : H b with
        | none => exact un.keep b o e q (by intro z; exact absurd (show b ∈ ([] : List Addr) from z) (by simp)) (by simp)
        | some u =>
          rcases hO b with z | ⟨ob, xs, z⟩
          · rw [q] at z; cases z
          · have z2 := un.frzs b ob _ z
            obtain ⟨e1, _⟩ := hok b _ z
            obtain ⟨e2, _⟩ := hok' b _ z2
            rw [e] at e1; cases e1
            exact e2
  cases hk : K.lookup a with
  | some o =>
    have e := KX a o hk
    rw [ha] at e
    cases e
    refine core (fun _ => none) (fun _ => .inl rfl) (.inr ⟨_, vs.toArray, _, hk, rfl, rfl, rfl, by rw [List.size_toArray, lenV]; exact hl, by simpa using rv⟩) (fun b u z => by have z' : (none : Option HO) = some u := z; cases z') (fun b z => absurd rfl z) fun z => absurd rfl z
  | none =>
    refine core (fun b => if b = a then some (.frz { cls := .type "list", data := .seq vs.toArray } (.lst (ns.map V.int))) else none) (fun b => ?_) (.inl (.inr ⟨{ cls := .type "list", data := .seq vs.toArray }, if_pos rfl⟩)) (fun b u z => ?_) (fun b z => ?_) fun _ => hk
    · by_cases hb : b = a
      · exact .inr ⟨_, _, if_pos hb⟩
      · exact .inl (if_neg hb)
    · by_cases hb : b = a
      · have z' := (if_pos hb).symm.trans z
        cases z'
        subst hb
        exact ⟨ha, by rw [List.length_map]; exact hl, vs, _, rv, ha⟩
      · have z' := (if_neg hb).symm.trans z
        cases z'
    · by_cases hb : b = a
      · exact hb
      · exact absurd (if_neg hb) z
end L2
namespace L2
open PySem PySem.Spec PyProof.Rows
noncomputable abbrev KOf {K : PySem.W.Frag} {h : Heap} (_ : K.In h) : PySem.W.Frag := K
theorem zs1 {l : PySem.W.OpenLaw} {n k : Nat} {q : Program} {loose : List Str} {XP : (Str -> Option Value) -> Heap -> Prop} {YP : World -> Heap -> Prop} {d : DefRec} {K : Params -> PySem.W.Frag} {CX : World -> CXT} {sp : World -> Sp} {x : Str}
    (hn : l.most = some n) (hn2 : n <= sizeLine) (hdf : d.params.defaults = []) (hr : zaz k callerA)
    (hY : ∀ (w : World) (h : Heap), YP w h -> (K w.params).In h)
    (F : ∀ (w : World) (mg : Str -> Option Value) (fa : Addr) (h : Heap), (K w.params).In h -> h.Ns mainGlobals mg -> mg d.name = some (.ref fa) ->
      ∃ fd : FuncData, (∀ (s : Shared) (u : Value), BindsTo s fd ⟨[u], []⟩ [(x, u)]) /\
        ∀ base : Heap, (K w.params).In base -> base.Ns mainGlobals mg -> zar l.prog w (K w.params) mg base (CX w) k fa fd [x] (sp w))
    (hsp : ∀ (w : World) (H : Hp) (a : Addr) (ns : List Int), ns.length <= n -> zhh H -> SqL (K w.params) H a (ns.map V.int) -> sp w [.ref a] H (fun v _ => v = .bl true) fun _ _ _ => False)
    (hCX : ∀ (w : World) (H : Hp) (s : Shared) (e : Value) (s' : Shared), CX w [] H s (fun _ _ _ => False) e s' -> False) :
    PySem.W.WalkO q loose XP YP l.row.toRowW d [] (fun f vs => PySem.call f vs) := by
  refine Att.attach_call hn hdf fun w s₀ s₁ mg mb fa o pm cd doc a vs ns G Y ho hd hcd hmg hobj hints hlen hg => ?_
  have KX := hY w _ Y
  obtain ⟨fd, hb, hF⟩ := F w mg fa _ KX G.T.g hmg
  exact zt3 KX G.T.g G.T.b G.T.builtins G.T.nolimit hg hobj hints (Nat.le_trans hlen hn2) hr hF hb (fun H hO hS => hsp w H a ns hlen hO hS) fun H e s' => hCX w H s₁ e s'
theorem walk_ofK {l : PySem.W.OpenLaw} {n k : Nat} {q : Program} {loose : List Str} {XP : (Str -> Option Value) -> Heap -> Prop} {YP : World -> Heap -> Prop} {d : DefRec} {K : Params -> PySem.W.Frag} {CX : CXT} {sp : PySem.W.Frag -> Sp} {x : Str}
    (hn : l.most = some n) (hn2 : n <= sizeLine) (hdf : d.params.defaults = []) (hr : zaz k callerA)
    (hY : ∀ (w : World) (h : Heap), YP w h -> (K w.params).In h)
    (F : ∀ (w : World) (mg : Str -> Option Value) (fa : Addr) (h : Heap), (K w.params).In h -> h.Ns mainGlobals mg -> mg d.name = some (.ref fa) ->
      ∃ fd : FuncData, (∀ (s : Shared) (u : Value), BindsTo s fd ⟨[u], []⟩ [(x, u)]) /\
        ∀ base : Heap, (K w.params).In base -> base.Ns mainGlobals mg -> zar l.prog w (K w.params) mg base CX k fa fd [x] (sp (K w.params)))
    (hsp : ∀ (K : PySem.W.Frag) (H : Hp) (a : Addr) (ns : List Int), ns.length <= n -> zhh H -> SqL K H a (ns.map V.int) -> sp K [.ref a] H (fun v _ => v = .bl true) fun _ _ _ => False)
    (hCX : ∀ (H : Hp) (s : Shared) (e : Value) (s' : Shared), CX [] H s (fun _ _ _ => False) e s' -> False) :
    PySem.W.WalkO q loose XP YP l.row.toRowW d [] (fun f vs => PySem.call f vs) :=
  zs1 (K := K) (CX := fun _ => CX) (sp := fun w => sp (K w.params)) hn hn2 hdf hr hY F (fun w H a ns h1 h2 h3 => hsp (K w.params) H a ns h1 h2 h3) fun _ H s e s' => hCX H s e s'
end L2
namespace L2
open PySem PySem.Spec PyProof.Rows
noncomputable def zbd (s : Stmt) : Arguments := match s with
  | .FunctionDef _ a _ _ _ _ _ _ _ _ => a
  | _ => { posonlyargs := [], args := [], vararg := none, kwonlyargs := [], kw_defaults := [], kwarg := none, defaults := [] }
noncomputable def za5 (s : Stmt) : List Stmt := match s with
  | .FunctionDef _ _ b _ _ _ _ _ _ _ => b
  | _ => []
noncomputable def zal (s : Stmt) : Scope := match s with
  | .FunctionDef _ _ _ _ _ _ sc _ _ _ => sc
  | _ => { kind := .function, names := [], isGenerator := false, isCoroutine := false }
noncomputable abbrev CX0 : CXT := fun _ _ _ _ _ _ => False
noncomputable abbrev E0 : XK := fun _ _ _ => False
theorem zf6 {X : Cx} : zhq CX0 X E0 := fun _ _ _ _ _ _ _ h => h.elim
structure Fun (K : PySem.W.Frag) (x qual : Str) (st : Stmt) (f : Addr) (fd : FuncData) : Prop where
  ex : ∃ (oc : Value) (od : Option Addr) (kV doc pm : Value) (an : Option Addr) (cdv ct : Value) (osl : Array (Option Value)),
    fd = PySem.W.fnOf x qual (zbd st) (za5 st) (zal st) .none kV doc pm an cdv ct /\ K.lookup f = some ⟨oc, od, .func fd, osl⟩ /\ PySem.W.codeIn K cdv qual = true
  kp : PySem.W.keepIn K (.ref f) = true
section
variable {P : Program} {w : World} {K : PySem.W.Frag} {mg : Str -> Option Value} {base : Heap}
theorem Fun.ok {x qual : Str} {st : Stmt} {f : Addr} {fd : FuncData} {N ps : List Str} {k : Nat} {sp : Sp} (F : Fun K x qual st f fd) (S : zba N ps (zal st)) (len : ∀ vs H Q E, sp vs H Q E -> vs.length = ps.length)
    (hbody : ∀ (cdv : Value) (A : Around) (outer : List Env) (s : Shared) (H : Hp) (vs : List V) (Q : VK) (E : XK), zaz k (A.deeper (envOfC qual (zal st) s.heap.objs.size f cdv)) -> sp vs H Q E ->
      ∃ t, PSs (zd7 CX0 P w K mg base N qual (zal st) f cdv A outer s H E).nox (za5 st) t /\ t { nx := fun _ H' => Q .non H', rt := Q } (start N vs) H) : zar P w K mg base CX0 (k + 1) f fd ps sp := by
  obtain ⟨oc, od, kV, doc, pm, an, cdv, ct, osl, rfl, lk, hcd⟩ := F.ex
  refine zu3 lk hcd S len fun A outer s H vs Q E hr hsp => ?_
  obtain ⟨t, h, q⟩ := hbody cdv A outer s H vs Q E hr hsp
  exact ⟨t, h.nox, q⟩
theorem Fun.binds {x qual : Str} {st : Stmt} {f : Addr} {fd : FuncData} {ps : List Str} (F : Fun K x qual st f fd)
    (h : ∀ (kV doc pm : Value) (an : Option Addr) (cdv ct : Value) (us : List Value), us.length = ps.length -> bindArgs (PySem.W.fnOf x qual (zbd st) (za5 st) (zal st) .none kV doc pm an cdv ct) ⟨us, []⟩ = pure (ps.zip us)) : za2 K fd ps [] := by
  obtain ⟨oc, od, kV, doc, pm, an, cdv, ct, osl, rfl, lk, hcd⟩ := F.ex
  exact .all (h kV doc pm an cdv ct)
theorem zbk {x qual : Str} {st : Stmt} {f : Addr} {oc : Value} {od an : Option Addr} {osl : Array (Option Value)} {kV doc pm cdv ct : Value} (l : K.lookup f = some ⟨oc, od, .func (PySem.W.fnOf x qual (zbd st) (za5 st) (zal st) .none kV doc pm an cdv ct), osl⟩)
    (c : PySem.W.codeIn K cdv qual = true) (k : PySem.W.keepIn K (.ref f) = true) : Fun K x qual st f (PySem.W.fnOf x qual (zbd st) (za5 st) (zal st) .none kV doc pm an cdv ct) := ⟨⟨oc, od, kV, doc, pm, an, cdv, ct, osl, rfl, l, c⟩, k⟩
end
theorem znc {n : Nat} (h : n <= 1000) : n < sizeLine := Nat.lt_of_le_of_lt h (by decide)
section
variable {X : Cx}
theorem pv (i : Nat) {x : Str} {pos : Pos} (hN : X.N[i]? = some x := by rfl) (hv : Vis X.env.scope x := by first | exact Or.inl rfl | exact Or.inr (Or.inl rfl) | exact Or.inr (Or.inr rfl)) (hd : (x == ("__debug__" : Str)) = false := by decide)
    (hcd : (x == ("__classdict__" : Str)) = false := by decide) : PE X (.Name x pos) (zef i) := ze6 hN hv hd hcd
end
theorem zuw {A B : Prop} (h : B) : if false = true then A else B := by
  rw [if_neg Bool.false_ne_true]
  exact h
theorem zvp {A B : Prop} (h : A) : if true = true then A else B := by
  rw [if_pos rfl]
  exact h
noncomputable def zae (H H' : Hp) : Prop := ∀ b o, H b = some o -> H' b = some o
theorem zae.refl (H : Hp) : zae H H := fun _ _ h => h
theorem zae.trans {H H1 H2 : Hp} (a : zae H H1) (b : zae H1 H2) : zae H H2 := fun c o h => b c o (a c o h)
theorem zae.free {H H' : Hp} (e : zae H H') {l : Addr} (h : H' l = Option.none) : H l = Option.none := by
  cases q : H l with
  | none => rfl
  | some o =>
    rw [e l o q] at h
    cases h
theorem zae.seq {K : PySem.W.Frag} {H H' : Hp} {a : Addr} {xs : List V} (e : zae H H') (h : SqL K H a xs) : SqL K H' a xs := by
  rcases h with (h | ⟨o, h⟩) | h
  · exact .inl (.inl (e _ _ h))
  · exact .inl (.inr ⟨o, e _ _ h⟩)
  · exact .inr h
end L2
namespace L2
open PySem PySem.Spec PyProof.Rows
section
variable {κ : Type} [DecidableEq κ]
noncomputable def zc4 (kvs : List (κ × V)) (k : κ) : Option V := (kvs.find? fun kv => decide (kv.1 = k)).map (·.2)
noncomputable def zhe (kvs : List (κ × V)) (k : κ) (v : V) : List (κ × V) :=
  if (kvs.any fun kv => decide (kv.1 = k)) = true then kvs.map (fun kv => if kv.1 = k then (kv.1, v) else kv) else kvs ++ [(k, v)]
noncomputable def zmc (kvs : List (κ × V)) (k : κ) : List (κ × V) := kvs.filter fun kv => decide (kv.1 ≠ k)
theorem zk9 {p : κ × V} {r : List (κ × V)} {k : κ} (e : p.1 = k) : zc4 (p :: r) k = some p.2 := by simp [zc4, List.find?_cons, e]
theorem zlg {p : κ × V} {r : List (κ × V)} {k : κ} (e : ¬ p.1 = k) : zc4 (p :: r) k = zc4 r k := by simp [zc4, List.find?_cons, e]
theorem zeg.getD {o : Option V} {u : Option Value} {d : V} {d' : Value} (r : zeg o u) (rd : zag d d') : zag (o.getD d) (u.getD d') := by
  cases o with
  | none => cases u with
    | none => exact rd
    | some _ => exact (show False from r).elim
  | some _ => cases u with
    | none => exact (show False from r).elim
    | some _ => exact r
theorem KV.val {kvs : List (κ × V)} {vs : List (κ × Value)} (r : KV kvs vs) (k : κ) : zeg (zc4 kvs k) (valueAt vs k) := by
  unfold KV at r
  induction r with
  | nil => exact True.intro
  | @cons p q ps qs h t ih =>
    obtain ⟨h1, h2⟩ := h
    by_cases e : p.1 = k
    · have e' : q.1 = k := h1.symm.trans e
      have b : valueAt (q :: qs) k = some q.2 := by simp [valueAt, List.find?_cons, e']
      rw [zk9 e, b]; exact h2
    · have e' : ¬ q.1 = k := fun z => e (h1.trans z)
      have b : valueAt (q :: qs) k = valueAt qs k := by simp [valueAt, List.find?_cons, e']
      rw [zlg e, b]; exact ih
theorem KV.any {kvs : List (κ × V)} {vs : List (κ × Value)} (r : KV kvs vs) (k : κ) : (kvs.any fun kv => decide (kv.1 = k)) = vs.any fun kv => decide (kv.1 = k) := by
  unfold KV at r
  induction r with
  | nil => rfl
  | cons h t ih => rw [List.any_cons, List.any_cons, ih, h.1]
theorem KV.drop {kvs : List (κ × V)} {vs : List (κ × Value)} (r : KV kvs vs) (k : κ) : KV (zmc kvs k) (without vs k) := by
  unfold KV at r ⊢
  unfold zmc without
  induction r with
  | nil => exact .nil
  | @cons p q ps qs h t ih =>
    obtain ⟨h1, h2⟩ := h
    rw [List.filter_cons, List.filter_cons]
    by_cases e : p.1 = k
    · have a : ¬ decide (p.1 ≠ k) = true := by simp [e]
      have b : ¬ decide (q.1 ≠ k) = true := by simp [h1.symm.trans e]
      rw [if_neg a, if_neg b]; exact ih
    · have e' : ¬ q.1 = k := fun z => e (h1.trans z)
      have a : decide (p.1 ≠ k) = true := by simp [e]
      have b : decide (q.1 ≠ k) = true := by simp [e']
      rw [if_pos a, if_pos b]; exact .cons ⟨h1, h2⟩ ih
theorem KV.length {kvs : List (κ × V)} {vs : List (κ × Value)} (r : KV kvs vs) : kvs.length = vs.length := Paired.length r
end
noncomputable abbrev KT (H : Hp) : List (List Key × V) -> List (List Key × Addr × Value) -> Prop := Paired fun p q => p.1 = q.1 /\ H q.2.1 = some (.tup (p.1.map kV)) /\ zag p.2 q.2.2
theorem KT.val {H : Hp} {kvs : List (List Key × V)} {xs : List (List Key × Addr × Value)} (r : KT H kvs xs) (k : List Key) : zeg (zc4 kvs k) ((atKey xs k).map (·.2)) := by
  induction r with
  | nil => exact True.intro
  | @cons p q ps qs h t ih =>
    obtain ⟨h1, _, h2⟩ := h
    by_cases e : p.1 = k
    · have e' : q.1 = k := h1.symm.trans e
      have b : atKey (q :: qs) k = some q.2 := by simp [atKey, List.find?_cons, e']
      rw [zk9 e, b]; exact h2
    · have e' : ¬ q.1 = k := fun z => e (h1.trans z)
      have b : atKey (q :: qs) k = atKey qs k := by simp [atKey, List.find?_cons, e']
      rw [zlg e, b]; exact ih
theorem KT.keeps {H H' : Hp} {kvs : List (List Key × V)} {xs : List (List Key × Addr × Value)} (r : KT H kvs xs) (ht : ∀ b ys, H b = some (.tup ys) -> H' b = some (.tup ys)) : KT H' kvs xs :=
  Paired.mapP r fun _ _ z => ⟨z.1, ht _ _ z.2.1, z.2.2⟩
section
variable {P : Program} {w : World} {H : Hp} {h : Heap} {a : Addr}
end
noncomputable def zhy (H : Hp) (a : Addr) (y : V) (r : Option V) : Prop :=
  (∃ kvs k, Rd H a (.dK kvs) /\ y = kV k /\ r = zc4 kvs k) \/ ∃ kvs k b, Rd H a (.dT kvs) /\ y = .ref b /\ H b = some (.tup (k.map kV)) /\ r = zc4 kvs k
noncomputable def zhc (H : Hp) (a : Addr) (y v : V) (H' : Hp) : Prop :=
  (∃ kvs k, H a = some (.dK kvs) /\ y = kV k /\ kvs.length < sizeLine /\ H' = upd H a (.dK (zhe kvs k v))) \/
  ∃ kvs k b, H a = some (.dT kvs) /\ y = .ref b /\ H b = some (.tup (k.map kV)) /\ kvs.length < sizeLine /\ H' = upd H a (.dT (zhe kvs k v))
theorem zhy.k {H : Hp} {a : Addr} {kvs : List (Key × V)} {k : Key} (e : H a = some (.dK kvs)) : zhy H a (kV k) (zc4 kvs k) := .inl ⟨kvs, k, .inl e, rfl, rfl⟩
theorem zhy.t {H : Hp} {a b : Addr} {kvs : List (List Key × V)} {k : List Key} (e : H a = some (.dT kvs)) (eb : H b = some (.tup (k.map kV))) : zhy H a (.ref b) (zc4 kvs k) := .inr ⟨kvs, k, b, .inl e, rfl, eb, rfl⟩
theorem zhc.k {H : Hp} {a : Addr} {kvs : List (Key × V)} {k : Key} {v : V} (e : H a = some (.dK kvs)) (hl : kvs.length < sizeLine) : zhc H a (kV k) v (upd H a (.dK (zhe kvs k v))) := .inl ⟨kvs, k, e, rfl, hl, rfl⟩
theorem zhc.t {H : Hp} {a b : Addr} {kvs : List (List Key × V)} {k : List Key} {v : V} (e : H a = some (.dT kvs)) (eb : H b = some (.tup (k.map kV))) (hl : kvs.length < sizeLine) :
    zhc H a (.ref b) v (upd H a (.dT (zhe kvs k v))) := .inr ⟨kvs, k, b, e, rfl, eb, hl, rfl⟩
section
variable {X : Cx} {pins : List (Addr × Obj)} {σ : St} {H : Hp} {s : Shared} {a : Addr} {y v : V} {u r : Value} {o : Option V} {A : Around} {E : Value -> Shared -> Prop}
end
section
variable {X : Cx} {pins : List (Addr × Obj)} {σ : St} {H : Hp} {s : Shared} {a : Addr} {kvs : List (Key × V)} {k : Key} {u : Value} {A : Around} {E : Value -> Shared -> Prop}
end
section
variable {X : Cx} {o i e value : Expr} {pos pos' tpos : Pos} {td ty tv : TE}
end
section
variable {X : Cx} {pos : Pos}
end
section
variable {X : Cx} {pins : List (Addr × Obj)} {σ : St} {H : Hp} {s : Shared} {a : Addr} {y d : V} {u r : Value} {o : Option V} {A : Around} {E : Value -> Shared -> Prop}
end
section
variable {X : Cx} {o e f : Expr} {apos cpos : Pos} {td ty tx : TE}
end
section
variable {X : Cx} {pins : List (Addr × Obj)} {σ : St} {H : Hp} {s : Shared} {a : Addr} {kvs : List (Key × V)} {A : Around} {E : Value -> Shared -> Prop}
end
section
variable {X : Cx} {pins : List (Addr × Obj)} {σ : St} {H : Hp} {s : Shared} {a : Addr} {y : V} {u : Value} {A : Around} {E : Value -> Shared -> Prop}
end
end L2
namespace L2
open PySem PySem.Spec PyProof.Rows
section
variable {κ : Type} [DecidableEq κ]
end
end L2
set_option maxHeartbeats 4000000
namespace L2
open PySem
theorem zjc {env : Env} (f : (Str × NameKind) -> List (Str × Addr) -> Sem (ForInStep (List (Str × Addr))))
    (h1 : ∀ n k r, k ≠ NameKind.free -> f (n, k) r = pure (.yield r))
    (h2 : ∀ n r c, env.cells.lookup n = some c -> f (n, .free) r = pure (.yield ((n, c) :: r))) :
    ∀ (l : List (Str × NameKind)) (acc : List (Str × Addr)), (∀ x ∈ l, x.2 = .free -> ∃ c, env.cells.lookup x.1 = some c) ->
      (∀ x c, acc.lookup x = some c -> env.cells.lookup x = some c) ->
      ∃ cl, forIn l acc f = (pure cl : Sem _) /\ (∀ x c, cl.lookup x = some c -> env.cells.lookup x = some c) /\
        (∀ x, ((∃ c, acc.lookup x = some c) \/ (x, NameKind.free) ∈ l) -> ∃ c, cl.lookup x = some c)
  | [], acc, _, ha => ⟨acc, rfl, ha, fun x hx => hx.elim id (fun z => nomatch z)⟩
  | (n, k) :: l, acc, hl, ha => by
    have hl' : ∀ x ∈ l, x.2 = .free -> ∃ c, env.cells.lookup x.1 = some c := fun x hx => hl x (List.mem_cons_of_mem _ hx)
    by_cases hk : k = .free
    · subst hk
      obtain ⟨c, hc⟩ := hl (n, .free) List.mem_cons_self rfl
      have hc' : env.cells.lookup n = some c := hc
      have ha' : ∀ x c', ((n, c) :: acc).lookup x = some c' -> env.cells.lookup x = some c' := fun x c' hx => by
        rw [List.lookup_cons] at hx
        cases e : x == n with
        | true =>
          rw [e] at hx
          cases hx
          rw [eq_of_beq e]; exact hc'
        | false =>
          rw [e] at hx
          exact ha x c' hx
      obtain ⟨cl, e, a1, a2⟩ := zjc f h1 h2 l ((n, c) :: acc) hl' ha'
      refine ⟨cl, ?_, a1, fun x hx => a2 x ?_⟩
      · rw [List.forIn_cons, h2 n acc c hc', pure_bind]
        exact e
      · have here : ∀ c', acc.lookup x = some c' -> ∃ c'', ((n, c) :: acc).lookup x = some c'' := fun c' z => by
          rw [List.lookup_cons]
          cases e : x == n with
          | true => exact ⟨c, rfl⟩
          | false => exact ⟨c', z⟩
        rcases hx with ⟨c', z⟩ | hx
        · exact .inl (here c' z)
        · rcases List.mem_cons.mp hx with z | z
          · cases z
            refine .inl ⟨c, ?_⟩
            rw [List.lookup_cons, beq_self_eq_true]
          · exact .inr z
    · obtain ⟨cl, e, a1, a2⟩ := zjc f h1 h2 l acc hl' ha
      refine ⟨cl, ?_, a1, fun x hx => a2 x ?_⟩
      · rw [List.forIn_cons, h1 n k acc hk, pure_bind]
        exact e
      · rcases hx with hx | hx
        · exact .inl hx
        · rcases List.mem_cons.mp hx with z | z
          · cases z; exact absurd rfl hk
          · exact .inr z
theorem zoq {scope : Scope} {env : Env} (h : ∀ x ∈ scope.names, x.2 = .free -> ∃ c, env.cells.lookup x.1 = some c) :
    ∃ cl, closureFor scope env = pure cl /\ (∀ x c, cl.lookup x = some c -> env.cells.lookup x = some c) /\ (∀ x, (x, NameKind.free) ∈ scope.names -> ∃ c, cl.lookup x = some c) := by
  unfold closureFor
  obtain ⟨cl, e, a1, a2⟩ := zjc (env := env) (fun (x : Str × NameKind) (r : List (Str × Addr)) => (match x with
      | (name, kind) => if (kind == NameKind.free) = true then (do let a <- cellOf env name; pure (ForInStep.yield ((name, a) :: r))) else (pure (ForInStep.yield r) : Sem _)))
    (fun n k r hk => by
      have : (k == NameKind.free) = false := by simpa using hk
      simp only [this, Bool.false_eq_true, if_false])
    (fun n r c hc => by
      simp only [beq_self_eq_true, if_true, cellOf, hc, pure_bind])
    scope.names [] h (fun x c z => by cases z)
  refine ⟨cl, ?_, a1, fun x hx => a2 x (.inr hx)⟩
  refine (congrArg (fun (t : Sem (List (Str × Addr))) => t >>= pure) ?_).trans ((congrArg (fun (t : Sem (List (Str × Addr))) => t >>= pure) e).trans (pure_bind _ _))
  rfl
section
variable {prog : Program} {w : World} {A : Around} {R : Result -> Shared -> Prop} {s : Shared}
noncomputable abbrev E00 : Value -> Shared -> Prop := fun _ _ => False
theorem zua {elt target iter : Expr} {ifs : List Expr} {scope : Scope} {pos : Pos} {it acc : Value} {env : Env} (I : Nat -> Shared -> Prop)
    (turn : ∀ n s, I n s -> wpAny (model prog w) A (pyNext it) (fun r s₁ => match r with
      | none => R (.ok .next) s₁
      | some v => wpAny (model prog w) A (letOwnedTupleGo target it v) (fun _ s₁' => wpAny (model prog w) A (assign target env v) (fun _ s₂ =>
          wpAny (model prog w) A (forIn ifs true fun c r => if r = true then do let ok <- isTrue c env (eval c env); pure (ForInStep.yield ok) else pure (ForInStep.yield r)) (fun ok s₃ =>
            if ok = true then wpAny (model prog w) A (eval elt env) (fun x s₄ =>
              wpAny (model prog w) A (call (.builtin "list.append") [acc, x]) (fun _ s₅ => ∃ m, m < n /\ I m s₅) E00 s₄) E00 s₃
            else ∃ m, m < n /\ I m s₃) E00 s₂) E00 s₁') E00 s₁) E00 s)
    (n : Nat) (h : I n s) :
    codeAny (model prog w) A (.compLoop (.ListComp elt [⟨target, iter, ifs, 0⟩] scope pos) 0 it acc env) R s := by
  refine codeAny_loop rfl I (fun n s hI => ?_) n h
  show wpAny _ A ((compTurn (.ListComp elt [⟨target, iter, ifs, 0⟩] scope pos) 0 it acc env).onRaise (fun x => do noteFrame x env; theTreesLotGoes x)) _ _ s
  refine wpAny_noted ?_
  rw [compTurn_list]
  refine wpAny_mono (E := E00) ?_ (fun _ _ z => z) (fun _ _ z => z.elim)
  refine wpAny_bind (wpAny_standAt (wpAny_bind (wpAny_mono (turn n s hI) (fun r s₁ h₁ => ?_) fun _ _ h' => h')))
  cases r with
  | none => exact wpAny_pure h₁
  | some v =>
    refine wpAny_bind (wpAny_mono h₁ (fun _ s₁' h₁' => ?_) fun _ _ h' => h')
    refine wpAny_bind (wpAny_mono h₁' (fun _ s₂ h₂ => wpAny_bind (wpAny_mono h₂ (fun ok s₃ h₃ => ?_) fun _ _ h' => h')) fun _ _ h' => h')
    cases ok with
    | false => exact wpAny_pure ⟨rfl, h₃⟩
    | true =>
      exact wpAny_bind (wpAny_bind (wpAny_mono h₃ (fun x s₄ h₄ => wpAny_bind (wpAny_mono h₄ (fun _ s₅ h₅ => wpAny_pure (wpAny_pure ⟨rfl, h₅⟩)) fun _ _ h' => h')) fun _ _ h' => h'))
end
end L2
namespace L2
open PySem PySem.Spec PyProof.Rows
noncomputable abbrev Cx.comp (X : Cx) (scope : Scope) (Nc : List Str) (cl : List (Str × Addr)) (C : Addr) (ex : List Addr) (s₂ : Shared) (H₂ : Hp) : Cx :=
  { X with N := Nc, s₀ := s₂, H₀ := H₂, env := compEnvC scope cl C X.env, outer := X.stack, ex := ex, fn := fun _ => false, pn := [], xe := E00 }
theorem zik {env : Env} : ∀ {names : List (Str × NameKind)} {x : Str}, names.lookup x = some .free ->
    (names.map fun (n, k) => if (k == NameKind.free && env.scope.kind == .function && env.kindOf n == some .cell) then (n, NameKind.cell) else (n, k)).lookup x = some .cell \/
    (names.map fun (n, k) => if (k == NameKind.free && env.scope.kind == .function && env.kindOf n == some .cell) then (n, NameKind.cell) else (n, k)).lookup x = some .free
  | [], _, h => by simp at h
  | (n, k) :: r, x, h => by
    have ih := @zik env r x
    rw [List.map_cons]
    show List.lookup x ((if (k == NameKind.free && env.scope.kind == .function && env.kindOf n == some .cell) = true then (n, NameKind.cell) else (n, k)) :: _) = _ \/ List.lookup x ((if (k == NameKind.free && env.scope.kind == .function && env.kindOf n == some .cell) = true then (n, NameKind.cell) else (n, k)) :: _) = _
    rw [List.lookup_cons] at h
    cases hx : x == n with
    | true =>
      rw [hx] at h
      cases h
      split
      · left; rw [List.lookup_cons, hx]
      · right; rw [List.lookup_cons, hx]
    | false =>
      rw [hx] at h
      split
      · rw [List.lookup_cons, hx]; exact ih h
      · rw [List.lookup_cons, hx]; exact ih h
theorem zh8 {env : Env} {k' : NameKind} (hk' : k' = .cell \/ k' = .free) : ∀ {names : List (Str × NameKind)} {x : Str},
    (names.map fun (n, k) => if (k == NameKind.free && env.scope.kind == .function && env.kindOf n == some .cell) then (n, NameKind.cell) else (n, k)).lookup x = some k' ->
    (x, NameKind.free) ∈ names \/ (x, NameKind.cell) ∈ names
  | [], _, h => by simp at h
  | (n, k) :: r, x, h => by
    have ih := @zh8 env k' hk' r x
    rw [List.map_cons] at h
    have h' : List.lookup x ((if (k == NameKind.free && env.scope.kind == .function && env.kindOf n == some .cell) = true then (n, NameKind.cell) else (n, k)) :: (r.map fun (n, k) => if (k == NameKind.free && env.scope.kind == .function && env.kindOf n == some .cell) then (n, NameKind.cell) else (n, k))) = some k' := h
    cases hx : x == n with
    | true =>
      have e := eq_of_beq hx
      subst e
      split at h'
      · rename_i hc
        have hk : k = .free := by
          rw [Bool.and_eq_true, Bool.and_eq_true] at hc
          exact eq_of_beq hc.1.1
        subst hk
        exact .inl List.mem_cons_self
      · rw [List.lookup_cons, hx] at h'
        have e : k = k' := Option.some.inj h'
        subst e
        rcases hk' with z | z
        · subst z; exact .inr List.mem_cons_self
        · subst z; exact .inl List.mem_cons_self
    | false =>
      have h2 : (r.map fun (n, k) => if (k == NameKind.free && env.scope.kind == .function && env.kindOf n == some .cell) then (n, NameKind.cell) else (n, k)).lookup x = some k' := by
        split at h' <;> (rw [List.lookup_cons, hx] at h'; exact h')
      rcases ih h2 with z | z
      · exact .inl (List.mem_cons_of_mem _ z)
      · exact .inr (List.mem_cons_of_mem _ z)
noncomputable def zhz (scope : Scope) (outer : List (Str × NameKind)) (N Nc : List Str) (k : Nat) (js : List Nat) : Bool :=
  scope.names.all (fun x => (x.2 != .free || outer.lookup x.1 == some .cell || outer.lookup x.1 == some .free) && x.2 != .cell && (x.2 != .local || scope.names.lookup x.1 == some .local)) &&
  scope.kind == .function && Nc.length == k + js.length &&
  (List.range js.length).all (fun i => match Nc[k + i]?, js[i]? with
    | some x, some j => N[j]? == some x && scope.names.lookup x == some .free
    | _, _ => false)
structure zg4 (scope : Scope) (outer : List (Str × NameKind)) (N Nc : List Str) (k : Nat) (js : List Nat) : Prop where
  free : ∀ x ∈ scope.names, x.2 = .free -> outer.lookup x.1 = some .cell \/ outer.lookup x.1 = some .free
  nocell : ∀ x ∈ scope.names, x.2 ≠ .cell
  loc : ∀ x ∈ scope.names, x.2 = .local -> scope.names.lookup x.1 = some .local
  kind : scope.kind = .function
  len : Nc.length = k + js.length
  at' : ∀ i j, js[i]? = some j -> ∃ x, Nc[k + i]? = some x /\ N[j]? = some x /\ scope.names.lookup x = some .free
theorem zg4.of {scope : Scope} {outer : List (Str × NameKind)} {N Nc : List Str} {k : Nat} {js : List Nat} (h : zhz scope outer N Nc k js = true) : zg4 scope outer N Nc k js := by
  unfold zhz at h
  rw [Bool.and_eq_true, Bool.and_eq_true, Bool.and_eq_true] at h
  obtain ⟨⟨⟨h1, h2⟩, h3⟩, h4⟩ := h
  rw [List.all_eq_true] at h1 h4
  refine ⟨fun x hx e => ?_, fun x hx e => ?_, fun x hx e => ?_, eq_of_beq h2, eq_of_beq h3, fun i j e => ?_⟩
  · have := h1 x hx
    simp only [Bool.and_eq_true, Bool.or_eq_true, bne_iff_ne, beq_iff_eq] at this
    rcases this.1.1 with (z | z) | z
    · exact absurd e z
    · exact .inl z
    · exact .inr z
  · have := h1 x hx
    simp only [Bool.and_eq_true, Bool.or_eq_true, bne_iff_ne, beq_iff_eq] at this
    exact this.1.2 e
  · have := h1 x hx
    simp only [Bool.and_eq_true, Bool.or_eq_true, bne_iff_ne, beq_iff_eq] at this
    rcases this.2 with z | z
    · exact absurd e z
    · exact z
  · have hi : i < js.length := (List.getElem?_eq_some_iff.mp e).1
    have := h4 i (List.mem_range.mpr hi)
    rw [e] at this
    cases q : Nc[k + i]? with
    | none => rw [q] at this; cases this
    | some x =>
      rw [q] at this
      simp only [Bool.and_eq_true, beq_iff_eq] at this
      exact ⟨x, rfl, this.1, this.2⟩
noncomputable def zdg (k : Nat) (js : List Nat) (σ : St) : St := List.replicate k none ++ js.map fun j => (σ[j]?).getD none
noncomputable def PTs (X : Cx) (ifs : List Expr) (t : TT) : Prop :=
  ∀ (pins : List (Addr × Obj)) (s : Shared) (σ : St) (H : Hp) (Q : Bool -> Hp -> Prop), Inv X pins σ H s -> t σ H Q ->
    wpAny (model X.prog X.w) X.A (forIn ifs true fun c r => if r = true then do let ok <- isTrue c X.env (eval c X.env); pure (ForInStep.yield ok) else pure (ForInStep.yield r)) (TP X pins σ Q) X.xe s
noncomputable def zpv : TT := fun _ H Q => Q true H
theorem zvl {X : Cx} : PTs X [] zpv := fun _ _ _ H _ I h => wpAny_tests_nil ⟨H, I, h⟩
theorem zrl {X : Cx} {c : Expr} {t : TT} (h : PT X c t) : PTs X [c] t := fun pins s σ H Q I q => wpAny_tests_one (h pins s σ H Q I q)
noncomputable def znq (J : It) (g : TG) (tt : TT) (te : TE) (σ0 : St) (H1 : Hp) (Q : VK) : Prop :=
  ∃ W : Nat -> Nat -> List V -> St -> Hp -> Prop, (∃ m, W 0 m [] σ0 H1) /\ ∀ i m ys σ' H', W i m ys σ' H' ->
    (J.stop i H' /\ ys.length <= sizeLine /\ ∀ D, H1 D = none -> H' D = none -> Q (.ref D) (upd H' D (.lst ys))) \/
    (J.go i H' /\ ys.length <= sizeLine /\ ∃ N : List V -> St -> Hp -> Prop, (∀ ys' σ2 H2, N ys' σ2 H2 -> ∃ m', m' < m /\ W (i + 1) m' ys' σ2 H2) /\
      ∀ x H2, J.yld i H' x H2 -> g x σ' H2 fun σ3 H3 => tt σ3 H3 fun b H4 => if b = true then te σ3 H4 fun y H5 => N (ys ++ [y]) σ3 H5 else N ys σ3 H4)
noncomputable def zlk (k : Nat) (js : List Nat) (wi : TI) (g : TG) (tt : TT) (te : TE) : TE := fun σ H Q => wi σ H fun J H1 => znq J g tt te (zdg k js σ) H1 Q
section
variable {X : Cx} {elt tg iter : Expr} {ifs : List Expr} {scope : Scope} {pos : Pos} {Nc : List Str} {k : Nat} {js : List Nat} {wi : TI} {g : TG} {tt : TT} {te : TE}
noncomputable abbrev zc0 (us : List Value) (n : Nat) : Obj := { cls := .type "list", data := .seq us.toArray n }
theorem zrs {pins : List (Addr × Obj)} {σ : St} {H2 : Hp} {s2 : Shared} {it : Addr} {fp : List Addr} {tn : Nat -> Heap -> Prop} {J : It} {cl : List (Str × Addr)} {Q : VK} {RR : Value -> Addr -> Result -> Shared -> Prop} {E : Value -> Shared -> Prop}
    (hc : X.calm = true) (ck : zg4 scope X.env.scope.names X.N Nc k js)
    (hg : ∀ cl C ex s₂ H₂, PG (X.comp scope Nc cl C ex s₂ H₂) tg g) (ht : ∀ cl C ex s₂ H₂, PTs (X.comp scope Nc cl C ex s₂ H₂) ifs tt) (he : ∀ cl C ex s₂ H₂, PE (X.comp scope Nc cl C ex s₂ H₂) elt te)
    (a1 : ∀ x c, cl.lookup x = some c -> X.env.cells.lookup x = some c) (a2 : ∀ x, (x, NameKind.free) ∈ scope.names -> ∃ c, cl.lookup x = some c)
    (I2 : Inv X pins σ H2 s2) (T : zfe X.prog X.w X.K tg J fp it tn) (st2 : tn 0 s2.heap) (f2 : ∀ b ∈ fp, zdu X pins H2 b) (hW : znq J g tt te (zdg k js σ) H2 Q)
    (hRR : ∀ (D C : Addr) (s' : Shared) (H' : Hp), Inv X pins σ H' s' -> (∃ m, s'.heap.Ns C m) -> zdu X pins H' C -> Q (.ref D) H' -> RR (.ref D) C (.ok .next) s') :
    wpAny (model X.prog X.w) X.A (newList []) (fun acc s₃ => wpAny (model X.prog X.w) X.A (newFunctionEnv scope X.env.globals cl [] X.env.qual none .none (some X.env)) (fun cenv s₄ =>
      codeAny (model X.prog X.w) X.A (.compStart (.ListComp elt [⟨tg, iter, ifs, 0⟩] scope pos) 0 (.ref it) acc { cenv with scope := relabel scope X.env }) (RR acc cenv.locals) s₄) E s₃) E s2 := by
  obtain ⟨W, ⟨m0, w0⟩, turn⟩ := hW
  refine wpAny_newObj_type (wpAny_newFunctionEnv ck.nocell (by intro y hy; simp at hy) (fun h₁ hns₁ hsb₁ => ?_) ck.kind)
  dsimp only at hns₁ hsb₁ ⊢
  generalize hP : s2.heap.push { cls := .type "list", dict := none, data := .seq ([] : List Value).toArray } = P at hns₁ hsb₁ ⊢
  generalize hD : s2.heap.objs.size = D at hP hns₁ hsb₁ ⊢
  have hCs : P.objs.size = D + 1 := by rw [<- hP, Heap.size_push, hD]
  generalize hC : P.objs.size = C at hCs hns₁ hsb₁ ⊢
  have hDC' : D < C := by rw [hCs]; exact Nat.lt_succ_self _
  have hDC : D ≠ C := Nat.ne_of_lt hDC'
  have below : ∀ b o, s2.heap.get? b = some o -> b < D := fun b o e => hD ▸ Heap.lt_size e
  have old : ∀ b o, s2.heap.get? b = some o -> h₁.get? b = some o := fun b o e => by
    have hb := below b o e
    exact hsb₁.extBut b o (Nat.ne_of_lt (Nat.lt_trans hb hDC')) (Heap.get?_push_of_some _ (hP ▸ Heap.get?_push_of_some _ e))
  have hDo : h₁.get? D = some (zc0 [] 0) := hsb₁.extBut _ _ hDC (Heap.get?_push_of_some _ (by rw [<- hP, <- hD]; exact Heap.get?_push_size _ rfl))
  have Hn : ∀ b, D <= b -> H2 b = none := fun b hb => I2.hok.fresh (by omega)
  have fpo : ∀ b ∈ fp, b < D := fun b hb => by obtain ⟨o, e, _⟩ := T.obj 0 _ st2 b hb; exact below b o e
  have clo : ∀ x c, cl.lookup x = some c -> c < D := fun x c e => by
    obtain ⟨v, o, ho, _⟩ := I2.cell x c (a1 x c e)
    exact below c o ho
  have stko : ∀ b ∈ frs X.stack, b < D := fun b hb => by
    obtain ⟨_, o, ho, _⟩ := I2.stack.mem hb
    exact below b o ho
  let Y : Cx := X.comp scope Nc cl C fp s2 H2
  have yk : Y.Ok := by
    refine ⟨I2.ok.mod, ck.kind, I2.ok.glob, I2.ok.blt, ?_, ?_, ?_, ?_, I2.ok.hd, I2.ok.frames, .inl rfl, ?_, I2.bs, ?_, ?_, ?_, I2.stack, I2.stkFree⟩
    · show s2.heap.objs.size <= C
      omega
    · exact fun x y c h1 h2 => I2.ok.inj x y c (a1 x c h1) (a1 y c h2)
    · intro x hx
      have : (x, NameKind.free) ∈ scope.names \/ (x, NameKind.cell) ∈ scope.names := by
        rcases hx with hx | hx
        · exact zh8 (.inl rfl) hx
        · exact zh8 (.inr rfl) hx
      rcases this with z | z
      · exact a2 x z
      · exact absurd rfl (ck.nocell _ z)
    · exact fun x c z => nomatch z
    · intro b hb
      refine ⟨?_, fun x c e => ?_⟩
      · exact Nat.ne_of_lt (Nat.lt_trans (fpo b hb) hDC')
      · exact (f2 b hb).2.2.2.2.1 x c (a1 x c e)
    · exact Nat.le_trans I2.ok.bsz I2.sz
    · intro b o e hb
      rcases (f2 b hb).2.2.2.1 with z | z
      · exact I2.ok.noex b o e z
      · exact absurd (Nat.lt_of_lt_of_le (Heap.lt_size e) (Nat.le_trans I2.ok.bsz z)) (Nat.lt_irrefl _)
    · intro b hb z
      rcases List.mem_cons.mp (I2.stkSub b z) with e | e
      · exact (f2 b hb).2.1 e
      · exact (f2 b hb).2.2.1 e
  have I4 : Inv Y [(D, zc0 [] 0)] (zdg k js σ) H2 { s2 with heap := h₁, toks := s2.toks + ([] : List (Str × Value)).length } := by
    refine ⟨yk, rfl, I2.bare, Un.kept old, ⟨_, hns₁, fun i x v e1 e2 e3 => ?_⟩, fun x c e => ?_, Hn C (by omega), fun x c e => I2.freeC x c (a1 x c e), fun p hp => ?_, I2.hok.kept old, ?_⟩
    · have e1 : Nc[i]? = some x := e1
      unfold zdg at e2
      have hik : k <= i := by
        rcases Nat.lt_or_ge i k with z | z
        · rw [List.getElem?_append_left (by simpa using z), List.getElem?_replicate] at e2
          simp [z] at e2
        · exact z
      rw [List.getElem?_append_right (by simpa using hik), List.getElem?_map] at e2
      simp only [List.length_replicate] at e2
      cases q : js[i - k]? with
      | none => rw [q] at e2; cases e2
      | some j =>
        rw [q] at e2
        obtain ⟨x', q1, q2, q3⟩ := ck.at' _ _ q
        rw [show k + (i - k) = i by omega, e1] at q1
        cases q1
        have e2 : (σ[j]?).getD none = some v := Option.some.inj e2
        have e2' : σ[j]? = some (some v) := by
          cases z : σ[j]? with
          | none => rw [z] at e2; cases e2
          | some y => rw [z] at e2; rw [show y = some v from e2]
        have hmem : (x, NameKind.free) ∈ scope.names := by
          have : ∀ l : List (Str × NameKind), l.lookup x = some .free -> (x, NameKind.free) ∈ l := by
            intro l
            induction l with
            | nil => intro z; cases z
            | cons a l ih =>
              intro z
              obtain ⟨n, kk⟩ := a
              rw [List.lookup_cons] at z
              cases hb : x == n with
              | true =>
                rw [hb] at z
                cases z
                rw [eq_of_beq hb]; exact List.mem_cons_self
              | false => rw [hb] at z; exact List.mem_cons_of_mem _ (ih z)
          exact this _ q3
        have hout : X.env.kindOf x = some .cell \/ X.env.kindOf x = some .free := ck.free _ hmem rfl
        obtain ⟨m, hn, hl⟩ := I2.loc
        have vis : Vis X.env.scope x := by
          rcases hout with z | z
          · exact .inr (.inl z)
          · exact .inr (.inr z)
        obtain ⟨u, r, l⟩ := hl j x v q2 e2' vis
        refine ⟨u, r, .inr ⟨zik q3, ?_⟩⟩
        rcases l with ⟨z, _⟩ | ⟨_, c, hcl, hcell⟩
        · rcases hout with y | y <;> (rw [y] at z; cases z)
        · obtain ⟨c', hc'⟩ := a2 x hmem
          have := a1 x c' hc'
          rw [hcl] at this
          cases this
          exact ⟨c, hc', hcell.keeps old⟩
    · obtain ⟨v, z⟩ := I2.cell x c (a1 x c e)
      exact ⟨v, z.keeps old⟩
    · have hp : p ∈ [(D, zc0 [] 0)] := (List.mem_append.mp hp).elim (fun z => nomatch (show p ∈ ([] : List (Addr × Obj)) from z)) id
      have hp : p = (D, zc0 [] 0) := List.mem_singleton.mp hp
      subst hp
      refine ⟨hDo, Hn D (Nat.le_refl _), hDC, fun z => ?_, fun v z => by cases z⟩
      exact absurd (stko D z) (Nat.lt_irrefl _)
    · show (zdg k js σ).length = Nc.length
      rw [ck.len]
      simp [zdg]
  have st1 : tn 0 h₁ := T.keep 0 _ _ st2 fun b _ o e => old b o e
  have fpY : ∀ {H' : Hp} {p : List (Addr × Obj)}, (∀ q ∈ p, q.1 = D) -> (∀ b ∈ fp, H' b = none) -> ∀ b ∈ fp, zdu Y p H' b := fun {H' p} hp hn b hb => by
    refine ⟨hn b hb, (yk.exf b hb).1, yk.exfs b hb, .inl hb, fun x c e => (yk.exf b hb).2 x c e, fun q hq => ?_⟩
    have hq : q ∈ p := (List.mem_append.mp hq).elim (fun z => nomatch (show q ∈ ([] : List (Addr × Obj)) from z)) id
    rw [hp q hq]
    exact Nat.ne_of_gt (fpo b hb)
  have loop : codeAny (model X.prog X.w) X.A (.compLoop (.ListComp elt [⟨tg, iter, ifs, 0⟩] scope pos) 0 (.ref it) (.ref D) (compEnvC scope cl C X.env)) (RR (.ref D) C) { s2 with heap := h₁, toks := s2.toks + ([] : List (Str × Value)).length } := by
    refine zua (fun n s' => ∃ i ys us nn σ' H', Inv Y [(D, zc0 us nn)] σ' H' s' /\ tn i s'.heap /\ (∀ b ∈ fp, H' b = none) /\ zaf ys us /\ W i n ys σ' H') ?_ m0
      ⟨0, [], [], 0, zdg k js σ, H2, I4, st1, fun b hb => (f2 b hb).1, .nil, w0⟩
    rintro n s3 ⟨i, ys, us, nn, σ3, H3, I3, st3, fr3, rv, w3⟩
    have one : ∀ q ∈ [(D, zc0 us nn)], q.1 = D := fun q hq => by
      have : q = (D, zc0 us nn) := by simpa using hq
      rw [this]
    rcases turn i n ys σ3 H3 w3 with ⟨stop, hz, qn⟩ | ⟨go, hz, N, hN, step⟩
    · refine thn (T.done Y rfl rfl rfl hc i _ s3 σ3 H3 E00 I3 (fpY one fr3) st3 stop) fun r s4 ⟨hr, I5⟩ => ?_
      subst hr
      show RR (.ref D) C (.ok .next) s4
      obtain ⟨pD, nD, _, _, _⟩ := I5.pin (D, zc0 us nn) (by simp)
      have bs : Un (frs X.stack) fp H2 H3 s2.heap s4.heap := I5.base
      have h2D : ∀ b o, H2 b = some o -> b ≠ D := fun b o e z => by rw [z, Hn D (Nat.le_refl _)] at e; cases e
      have I6 : Inv X pins σ (upd H3 D (.lst ys)) s4 := by
        refine I2.call' (ch := fp) I5.os ⟨bs.keep, bs.slot, fun b o e n hx => ?_, bs.there, fun b xs e => ?_, fun b o u e => ?_, fun b ps e => ?_⟩ (fun b u e => ?_) I5.bare fun b hb => ?_
        · rw [zau (Nat.ne_of_lt (below b o e))]
          exact bs.free b o e n hx
        · rw [zau (h2D b _ e)]; exact bs.tups b xs e
        · rw [zau (h2D b _ e)]; exact bs.frzs b o u e
        · rw [zau (h2D b _ e)]; exact bs.tbls b ps e
        · by_cases hb : b = D
          · subst hb
            rw [zbp] at e
            cases e
            exact ⟨hz, us, nn, rv, pD⟩
          · rw [zau hb] at e
            exact (I5.hok b u e).stay (fun c v _ q => q) (fun c q => by rw [zau (zbo q nD)]; exact q) fun c xs q => by rw [zau (zbo q nD)]; exact q
        · obtain ⟨_, f1, _, f3, f4, f5⟩ := f2 b hb
          exact ⟨f3, f1, f4, f5⟩
      obtain ⟨m, hn, _⟩ := I5.loc
      refine hRR D C s4 _ I6 ⟨m, hn⟩ (I2.fpOk (by omega) ?_) (qn D (Hn D (Nat.le_refl _)) nD)
      rw [zau hDC.symm]
      exact I5.free
    · refine thn (T.item Y rfl rfl rfl hc i _ s3 σ3 H3 E00 I3 (fpY one fr3) st3 go) fun r s4 ⟨u, hr, h4⟩ => ?_
      subst hr
      refine thn h4 fun _ s5 ⟨x, H5, I5, r5, y5, st5, fr5⟩ => ?_
      have I5' := I5.pinned (fpY one fr5) (T.obj _ _ st5)
      refine thn (hg cl C fp s2 H2 _ s5 σ3 H5 x u _ I5' r5 (step x H5 y5)) fun _ s6 ⟨σ6, H6, I6, q6⟩ => ?_
      refine thn (ht cl C fp s2 H2 _ s6 σ6 H6 _ I6 q6) fun b s7 ⟨H7, I7, q7⟩ => ?_
      have kp : ∀ {H8 : Hp} {s8 : Shared}, Inv Y ([(D, zc0 us nn)] ++ zf4 fp s5.heap) σ6 H8 s8 -> tn (i + 1) s8.heap /\ (∀ b ∈ fp, H8 b = none) := fun {H8 s8} I8 => by
        refine ⟨T.keep _ _ _ st5 fun b hb o e => (I8.pin (b, o) (List.mem_append_right _ (List.mem_append_right _ (zhd hb e)))).1, fun b hb => ?_⟩
        obtain ⟨o, e, d⟩ := T.obj _ _ st5 b hb
        exact (I8.pin (b, o) (List.mem_append_right _ (List.mem_append_right _ (zhd hb e)))).2.1
      cases b with
      | false =>
        rw [if_neg Bool.false_ne_true] at q7 ⊢
        obtain ⟨m', hm, w7⟩ := hN _ _ _ q7
        obtain ⟨st7, fr7⟩ := kp I7
        exact ⟨m', hm, i + 1, ys, us, nn, σ6, H7, I7.unpinned, st7, fr7, rv, w7⟩
      | true =>
        rw [if_pos rfl] at q7 ⊢
        refine thn (he cl C fp s2 H2 _ s7 σ6 H7 _ I7 q7) fun uy s8 ⟨y, H8, I8, r8, q8⟩ => ?_
        obtain ⟨m', hm, w8⟩ := hN _ _ _ q8
        obtain ⟨st8, fr8⟩ := kp I8
        obtain ⟨pD, nD, pC, pF, _⟩ := I8.pin (D, zc0 us nn) (by simp)
        have hl := rv.length
        refine wpAny_list_append_plain (items := us.toArray) ⟨nn, pD⟩ (fun h' hl' sb => ?_) (by simp only [List.size_toArray] <;> omega)
        obtain ⟨n', e'⟩ := hl'
        have I8n : Inv Y [] σ6 H8 s8 := I8.pins_of (fun _ z => nomatch z)
        have I9 : Inv Y [] σ6 H8 { s8 with heap := h' } := I8n.turned (t' := s8.toks) (it := D) (fun b o hb e => (sb.2 b hb).trans e) nD pC (.inr (by show s2.heap.objs.size <= D; omega)) (fun x c e => Nat.ne_of_lt (clo x c e)) (fun p hp => nomatch hp)
        refine ⟨m', hm, i + 1, ys ++ [y], us ++ [uy], n', σ6, H8, I9.pins_of (fun p hp => ?_), ?_, fr8, rv.append (.cons r8 .nil), w8⟩
        · have hp : p = (D, zc0 (us ++ [uy]) n') := by simpa using hp
          subst hp
          refine ⟨?_, nD, pC, pF, fun v z => by cases z⟩
          have e2 : h'.get? D = some { cls := .type "list", data := .seq (us.toArray.push uy) n' } := e'
          show h'.get? D = some { cls := .type "list", data := .seq (us ++ [uy]).toArray n' }
          rw [e2]
          simp
        · exact T.keep _ _ _ st8 fun b hb o e => (sb.2 b (Nat.ne_of_lt (fpo b hb))).trans e
  exact codeAny_compStart_list loop (T.self X.A 0 _ _ _ st1 loop)
theorem zq6 (k : Nat) (js : List Nat) (Nc : List Str) (hc : X.calm = true) (hi : PI X tg iter wi)
    (hg : ∀ cl C ex s₂ H₂, PG (X.comp scope Nc cl C ex s₂ H₂) tg g) (ht : ∀ cl C ex s₂ H₂, PTs (X.comp scope Nc cl C ex s₂ H₂) ifs tt) (he : ∀ cl C ex s₂ H₂, PE (X.comp scope Nc cl C ex s₂ H₂) elt te)
    (ck : zhz scope X.env.scope.names X.N Nc k js = true := by rfl) (hs : ∀ x, foldedSetIterable iter X.env x = pure x := by intro _; rfl) :
    PE X (.ListComp elt [⟨tg, iter, ifs, 0⟩] scope pos) (zlk k js wi g tt te) := by
  intro pins s σ H Q I h
  have ck := zg4.of ck
  rw [eval_ListComp]
  obtain ⟨cl, hcl, a1, a2⟩ := zoq (scope := scope) (env := X.env) fun x hx e => I.ok.has x.1 (ck.free x hx e)
  refine wpAny_comprehension_free (use := none) rfl hs hcl ck.kind ck.loc (thn (hi pins s σ H _ I h) fun v s1 h1 => thn h1 fun itv s2 h2 => ?_)
  obtain ⟨it, fp, tn, J, H2, e, I2, T, st2, f2, hW⟩ := h2
  subst e
  refine zrs (RR := fun acc C => compPost (model X.prog X.w) X.A X.xe none (EP X pins σ Q) acc C) hc ck hg ht he a1 a2 I2 T st2 f2 hW fun D C s' H' I' ⟨m, hn⟩ fC q => ?_
  obtain ⟨f0, f1, _, f3, f4, f5⟩ := fC
  exact ⟨m, hn, fun h' hs' => ⟨.ref D, H', I'.turned (t' := s'.toks) (fun b o hb e => (hs'.2 b hb).trans e) f0 f1 f3 f4 f5, rfl, q⟩⟩
end
section
variable {K : PySem.W.Frag} {g : TG} {tt : TT} {te : TE} {σ0 : St} {H1 : Hp} {Q : VK}
end
end L2
namespace L2
open PySem PySem.Spec PyProof.Rows
section
variable {X : Cx}
theorem zre : zbr X (.builtin "isinstance") (fun xs H Q => ∃ x T t b, xs = [x, .ty T] /\ zb5 X.K H x t /\ PySem.W.kitOne X.K t (.type T) = some b /\ Q (.bl b) H) := by
  intro pins s σ H xs us Q I r h
  obtain ⟨x, T, t, b, rfl, ty, e, q⟩ := h
  obtain ⟨u, w', rfl, rx, rc⟩ := zoj r
  cases (show w' = Value.type T from rc)
  exact zrn I rx ty e fun tk => ⟨.bl b, H, I.tok tk, rfl, q⟩
theorem PE.or {e : Expr} {t t' : TE} (h : PE X e t) (h' : PE X e t') : PE X e (fun σ H Q => t σ H Q \/ t' σ H Q) := by
  intro pins s σ H Q I q
  rcases q with q | q
  · exact h pins s σ H Q I q
  · exact h' pins s σ H Q I q
end
theorem Paired.at' {α β : Type} {F : α -> β -> Prop} : ∀ {l₁ : List α} {l₂ : List β} {i : Nat} {a : α} {b : β}, Paired F l₁ l₂ -> l₁[i]? = some a -> l₂[i]? = some b -> F a b
  | _, _, _, _, _, .nil, e, _ => by simp at e
  | _, _, 0, _, _, .cons r _, e, e' => by simp at e e'; subst e e'; exact r
  | _, _, i + 1, a, b, .cons _ t, e, e' => Paired.at' (i := i) t (by simpa using e) (by simpa using e')
theorem zaf.at' {xs : List V} {us : List Value} {i : Nat} {u : Value} (r : zaf xs us) (e : us[i]? = some u) : ∃ x, xs[i]? = some x /\ zag x u := by
  have hl := r.length
  have hi : i < xs.length := by have := (List.getElem?_eq_some_iff.mp e).1; omega
  refine ⟨xs[i], by simp [hi], ?_⟩
  obtain ⟨u', e', r'⟩ := r.get (i := i) (x := xs[i]) (by simp [hi])
  rw [e] at e'; cases e'; exact r'
section
variable {X : Cx} {pins : List (Addr × Obj)} {σ : St} {H : Hp} {s : Shared}
end
end L2
namespace L2
open PySem PySem.Spec PyProof.Rows
theorem zf5 {env : Env} {k' : NameKind} (hk : k' ≠ .free) : ∀ {names : List (Str × NameKind)} {x : Str}, names.lookup x = some k' ->
    (names.map fun (n, k) => if (k == NameKind.free && env.scope.kind == .function && env.kindOf n == some .cell) then (n, NameKind.cell) else (n, k)).lookup x = some k'
  | [], _, h => by simp at h
  | (n, k) :: r, x, h => by
    have ih := @zf5 env k' hk r x
    rw [List.map_cons]
    show List.lookup x ((if (k == NameKind.free && env.scope.kind == .function && env.kindOf n == some .cell) = true then (n, NameKind.cell) else (n, k)) :: _) = _
    rw [List.lookup_cons] at h
    cases hx : x == n with
    | true =>
      rw [hx] at h
      have e : k = k' := Option.some.inj h
      subst e
      have hf : (k == NameKind.free) = false := by simpa using hk
      rw [hf, Bool.false_and, Bool.false_and, if_neg Bool.false_ne_true, List.lookup_cons, hx]
    | false =>
      rw [hx] at h
      split
      · rw [List.lookup_cons, hx]; exact ih h
      · rw [List.lookup_cons, hx]; exact ih h
theorem zot {env : Env} {scope : Scope} {x : Str} (h : Vis scope x) : Vis (relabel scope env) x := by
  rcases h with h | h | h
  · exact .inl (zf5 (by decide) h)
  · exact .inr (.inl (zf5 (by decide) h))
  · rcases zik (env := env) h with z | z
    · exact .inr (.inl z)
    · exact .inr (.inr z)
section
variable {X : Cx} {scope : Scope} {Nc : List Str} {cl : List (Str × Addr)} {C : Addr} {ex : List Addr} {s₂ : Shared} {H₂ : Hp}
theorem pvc (i : Nat) {x : Str} {pos : Pos} (hN : Nc[i]? = some x := by rfl) (hv : Vis scope x := by first | exact Or.inl rfl | exact Or.inr (Or.inl rfl) | exact Or.inr (Or.inr rfl)) (hd : (x == ("__debug__" : Str)) = false := by decide)
    (hcd : (x == ("__classdict__" : Str)) = false := by decide) : PE (X.comp scope Nc cl C ex s₂ H₂) (.Name x pos) (zef i) := ze6 hN (zot hv) hd hcd
theorem pgc (i : Nat) {x : Str} {pos : Pos} (hN : Nc.Nodup := by decide +kernel) (hi : Nc[i]? = some x := by rfl) (hl : scope.names.lookup x = some .local := by rfl) : PG (X.comp scope Nc cl C ex s₂ H₂) (.Name x pos) (zfp i) :=
  zl9 (X := X.comp scope Nc cl C ex s₂ H₂) hN hi (.inl (zf5 (by decide) hl)) (.inr (zf5 (by decide) hl))
end
theorem zc6 {H : Hp} {p : Addr} {o : HO} (h : H p = none) : zae H (upd H p o) := fun b u e => by rw [zau (zbo e h)]; exact e
theorem zae.tup {K : PySem.W.Frag} {H H' : Hp} {a : Addr} {xs : List V} (e : zae H H') (h : SqT K H a xs) : SqT K H' a xs := by
  rcases h with (h | ⟨o, h⟩) | h
  · exact .inl (.inl (e _ _ h))
  · exact .inl (.inr ⟨o, e _ _ h⟩)
  · exact .inr h
noncomputable def zcv (p : Addr) (H H' : Hp) : Prop := ∀ b o, H b = some o -> b ≠ p -> H' b = some o
theorem zcv.refl (p : Addr) (H : Hp) : zcv p H H := fun _ _ h _ => h
theorem zcv.trans {p : Addr} {H H1 H2 : Hp} (a : zcv p H H1) (b : zcv p H1 H2) : zcv p H H2 := fun c o h n => b c o (a c o h n) n
theorem zae.grow {p : Addr} {H H' : Hp} (a : zae H H') : zcv p H H' := fun c o h _ => a c o h
theorem zcv.same {p : Addr} {H H' : Hp} (a : zcv p H H') (h : H p = none) : zae H H' := fun c o e => a c o e (zbo e h)
theorem zcv.seq {K : PySem.W.Frag} {p : Addr} {H H' : Hp} {a : Addr} {xs : List V} (e : zcv p H H') (n : a ≠ p) (h : SqL K H a xs) : SqL K H' a xs := by
  rcases h with (h | ⟨o, h⟩) | h
  · exact .inl (.inl (e _ _ h n))
  · exact .inl (.inr ⟨o, e _ _ h n⟩)
  · exact .inr h
noncomputable def zgb (K : PySem.W.Frag) (H : Hp) (L : Addr) (its : List (Int × Int)) : Prop :=
  ∃ zs : List (Addr × Int × Int), SqL K H L (zs.map fun z => V.ref z.1) /\ (∀ z ∈ zs, SqT K H z.1 [.int z.2.1, .int z.2.2]) /\ its = zs.map (·.2) /\ zs.length <= 1000
theorem zae.items {K : PySem.W.Frag} {H H' : Hp} {L : Addr} {its : List (Int × Int)} (e : zae H H') (h : zgb K H L its) : zgb K H' L its := by
  obtain ⟨zs, h1, h2, h3, h4⟩ := h
  exact ⟨zs, e.seq h1, fun z hz => e.tup (h2 z hz), h3, h4⟩
noncomputable def InR (n : Nat) (its : List (Int × Int)) : Prop := ∀ z ∈ its, 0 <= z.1 /\ z.1 < (n : Int)
noncomputable def zmf (p : Option Bool -> Bool) (es : List (Option Bool)) (its : List (Int × Int)) : Int := ((its.filter fun z => p (es.getD z.1.toNat none)).map (·.2)).sum
inductive Prt where
  | inn (t : Int) | out (t : Int) | least (k : Int) (its : List (Int × Int)) | most (k : Int) (its : List (Int × Int))
noncomputable def Prt.InR (n : Nat) : Prt -> Prop
  | .inn t => 0 <= t /\ t < (n : Int)
  | .out t => 0 <= t /\ t < (n : Int)
  | .least _ its => L2.InR n its
  | .most _ its => L2.InR n its
noncomputable def zqw (K : PySem.W.Frag) (H : Hp) (p : Addr) : Prt -> Prop
  | .inn t => SqT K H p [.str "in", .int t]
  | .out t => SqT K H p [.str "out", .int t]
  | .least k its => ∃ L, SqT K H p [.str "least", .int k, .ref L] /\ zgb K H L its
  | .most k its => ∃ L, SqT K H p [.str "most", .int k, .ref L] /\ zgb K H L its
noncomputable def bs (l : List Bool) : List (Option Bool) := l.map some
noncomputable def Prt.holds (rs ws : List Bool) : Prt -> Bool
  | .inn t => (rs.getD t.toNat false)
  | .out t => !(ws.getD t.toNat false)
  | .least k its => decide (k <= zmf (· == some true) (bs rs) its)
  | .most k its => decide (zmf (· == some true) (bs ws) its <= k)
end L2
namespace L2
open PySem PySem.Spec PyProof.Rows
section
variable {X : Cx} {pins : List (Addr × Obj)} {σ : St} {H : Hp} {s : Shared} {h' : Heap}
end
section
variable {X : Cx} {elts : List Expr} {kx : Nat} {tpos : Pos}
end
end L2
namespace L2
open PySem PySem.Spec PyProof.Rows
noncomputable def zg9 (L : Addr) (its : List (Int × Int)) (vs : List V) : Prt -> Prop
  | .inn t => vs = [.str "in", .int t]
  | .out t => vs = [.str "out", .int t]
  | .least k i => vs = [.str "least", .int k, .ref L] /\ i = its
  | .most k i => vs = [.str "most", .int k, .ref L] /\ i = its
theorem zg9.at {K : PySem.W.Frag} {H : Hp} {L p : Addr} {its : List (Int × Int)} {vs : List V} {r : Prt} (t : zg9 L its vs r) (hp : H p = some (.tup vs)) (hL : zgb K H L its) : zqw K H p r := by
  cases r with
  | inn t' => cases t; exact SqT.of hp
  | out t' => cases t; exact SqT.of hp
  | least k i => obtain ⟨rfl, rfl⟩ := t; exact ⟨L, SqT.of hp, hL⟩
  | most k i => obtain ⟨rfl, rfl⟩ := t; exact ⟨L, SqT.of hp, hL⟩
structure zjp (Hb : Hp) (r L : Addr) (its : List (Int × Int)) (n : Nat) (rows : List (Addr × List V × Prt)) (H : Hp) : Prop where
  same : zae Hb H
  lst : H r = some (.lst (rows.map fun z => V.ref z.1))
  all : ∀ z ∈ rows, H z.1 = some (.tup z.2.1) /\ zg9 L its z.2.1 z.2.2 /\ z.2.2.InR n
theorem zjp.more {Hb H : Hp} {r L : Addr} {its : List (Int × Int)} {n : Nat} {rows : List (Addr × List V × Prt)} (R : zjp Hb r L its n rows H) (hr : Hb r = none) {p : Addr} (hp : H p = none) {vs : List V} {pr : Prt} (ht : zg9 L its vs pr) (hin : pr.InR n) :
    (upd H p (.tup vs)) r = some (.lst (rows.map fun z => V.ref z.1)) /\ zjp Hb r L its n (rows ++ [(p, vs, pr)]) (upd (upd H p (.tup vs)) r (.lst (rows.map (fun z => V.ref z.1) ++ [.ref p]))) /\
    (∀ b o, H b = some o -> b ≠ r -> (upd (upd H p (.tup vs)) r (.lst (rows.map (fun z => V.ref z.1) ++ [.ref p]))) b = some o) := by
  have nrp : r ≠ p := zbo R.lst hp
  refine ⟨by rw [zau nrp]; exact R.lst, ⟨fun b o e => ?_, ?_, fun z hz' => ?_⟩, fun b o e nb => ?_⟩
  · rw [zau (zbo e hr), zau (zbo (R.same _ _ e) hp)]
    exact R.same _ _ e
  · rw [zbp, List.map_append]
    rfl
  · rcases List.mem_append.mp hz' with hz' | hz'
    · obtain ⟨h1, h2⟩ := R.all z hz'
      refine ⟨?_, h2⟩
      rw [zau (zu6 h1 R.lst (by intro e; cases e)), zau (zbo h1 hp)]
      exact h1
    · have : z = (p, vs, pr) := by simpa using hz'
      subst this
      refine ⟨?_, ht, hin⟩
      rw [zau nrp.symm, zbp]
  · rw [zau nb, zau (zbo e hp)]
    exact e
end L2
namespace L2
open PySem PySem.Spec PyProof.Rows
inductive D where
  | non
  | bl (b : Bool)
  | int (i : Int)
  | str (x : Str)
  | lst (xs : List D)
  | tup (xs : List D)
  | kl (xs : List D)
  | kt (xs : List D)
  | dic (ks : List Key) (xs : List D)
  | ins (c : Str) (ns : List Str) (xs : List D)
  | kd (ks : List Key) (xs : List D)
  deriving Inhabited
set_option genInjectivity false in
structure Gc where
  K : PySem.W.Frag
  cl : Str -> Addr
mutual
noncomputable def Rep (G : Gc) (H : Hp) : D -> V -> Prop
  | .non, v => v = .non
  | .bl b, v => v = .bl b
  | .int i, v => v = .int i
  | .str x, v => v = .str x
  | .lst ds, v => ∃ a vs, v = .ref a /\ H a = some (.lst vs) /\ zab G H ds vs
  | .tup ds, v => ∃ a vs, v = .ref a /\ H a = some (.tup vs) /\ zab G H ds vs
  | .kl ds, v => ∃ a vs, v = .ref a /\ SqL G.K H a vs /\ zab G H ds vs
  | .kt ds, v => ∃ a vs, v = .ref a /\ SqT G.K H a vs /\ zab G H ds vs
  | .dic ks ds, v => ∃ a vs, v = .ref a /\ H a = some (.dK (ks.zip vs)) /\ ks.length = vs.length /\ zab G H ds vs
  | .ins c ns ds, v => ∃ a dx vs, v = .ref a /\ H a = some (.ins (G.cl c) dx (ns.zip vs)) /\ ns.length = vs.length /\ zab G H ds vs
  | .kd ks ds, v => ∃ a od vs, v = .ref a /\ H a = some (.frz od (.dK (ks.zip vs))) /\ ks.length = vs.length /\ zab G H ds vs
noncomputable def zab (G : Gc) (H : Hp) : List D -> List V -> Prop
  | [], vs => vs = []
  | d :: ds, vs => ∃ v r, vs = v :: r /\ Rep G H d v /\ zab G H ds r
end
section
variable {G : Gc} {H H' Hf Hf' : Hp}
mutual
theorem Rep.upM (s : zae H H') : ∀ (d : D) (v : V), Rep G H d v -> Rep G H' d v
  | .non, _, h => h
  | .bl _, _, h => h
  | .int _, _, h => h
  | .str _, _, h => h
  | .lst ds, _, ⟨a, vs, e, q, r⟩ => ⟨a, vs, e, s _ _ q, zab.upM s ds vs r⟩
  | .tup ds, _, ⟨a, vs, e, q, r⟩ => ⟨a, vs, e, s _ _ q, zab.upM s ds vs r⟩
  | .kl ds, _, ⟨a, vs, e, q, r⟩ => ⟨a, vs, e, s.seq q, zab.upM s ds vs r⟩
  | .kt ds, _, ⟨a, vs, e, q, r⟩ => ⟨a, vs, e, s.tup q, zab.upM s ds vs r⟩
  | .dic _ ds, _, ⟨a, vs, e, q, l, r⟩ => ⟨a, vs, e, s _ _ q, l, zab.upM s ds vs r⟩
  | .ins _ _ ds, _, ⟨a, dx, vs, e, q, l, r⟩ => ⟨a, dx, vs, e, s _ _ q, l, zab.upM s ds vs r⟩
  | .kd _ ds, _, ⟨a, od, vs, e, q, l, r⟩ => ⟨a, od, vs, e, s _ _ q, l, zab.upM s ds vs r⟩
theorem zab.upM (s : zae H H') : ∀ (ds : List D) (vs : List V), zab G H ds vs -> zab G H' ds vs
  | [], _, h => h
  | d :: ds, _, ⟨v, r, e, h1, h2⟩ => ⟨v, r, e, Rep.upM s d v h1, zab.upM s ds r h2⟩
end
theorem Rep.up {d : D} {v : V} (r : Rep G H d v) (s : zae H H') : Rep G H' d v := Rep.upM s d v r
theorem zab.up {ds : List D} {vs : List V} (r : zab G H ds vs) (s : zae H H') : zab G H' ds vs := zab.upM s ds vs r
theorem zab.nil : zab G H [] [] := rfl
theorem zab.cons {d : D} {ds : List D} {v : V} {vs : List V} (h : Rep G H d v) (t : zab G H ds vs) : zab G H (d :: ds) (v :: vs) := ⟨v, vs, rfl, h, t⟩
theorem zab.length : ∀ {ds : List D} {vs : List V}, zab G H ds vs -> ds.length = vs.length
  | [], _, h => by cases (show _ = [] from h); rfl
  | d :: ds, _, ⟨v, r, e, _, h⟩ => by subst e; simp [zab.length h]
theorem zab.append : ∀ {ds es : List D} {vs us : List V}, zab G H ds vs -> zab G H es us -> zab G H (ds ++ es) (vs ++ us)
  | [], _, _, _, h, t => by cases (show _ = [] from h); exact t
  | d :: ds, _, _, _, ⟨v, r, e, h1, h2⟩, t => by subst e; exact ⟨v, r ++ _, rfl, h1, zab.append h2 t⟩
theorem zab.get : ∀ {ds : List D} {vs : List V} {i : Nat} {d : D}, zab G H ds vs -> ds[i]? = some d -> ∃ v, vs[i]? = some v /\ Rep G H d v
  | [], _, _, _, _, e => by simp at e
  | d :: ds, _, 0, _, ⟨v, r, e, h1, _⟩, e' => by subst e; simp at e'; subst e'; exact ⟨v, rfl, h1⟩
  | d :: ds, _, i + 1, d', ⟨v, r, e, _, h2⟩, e' => by
    subst e
    obtain ⟨u, a, b⟩ := zab.get (i := i) (d := d') h2 (by simpa using e')
    exact ⟨u, by simpa using a, b⟩
theorem zab.get' : ∀ {ds : List D} {vs : List V} {i : Nat} {v : V}, zab G H ds vs -> vs[i]? = some v -> ∃ d, ds[i]? = some d /\ Rep G H d v := fun {ds vs i v} h e => by
  have hl := h.length
  have hi : i < ds.length := by have := (List.getElem?_eq_some_iff.mp e).1; omega
  obtain ⟨u, a, b⟩ := h.get (i := i) (d := ds[i]) (by simp [hi])
  rw [e] at a; cases a
  exact ⟨ds[i], by simp [hi], b⟩
theorem zab.ints : ∀ (ns : List Int), zab G H (ns.map D.int) (ns.map V.int)
  | [] => rfl
  | n :: ns => ⟨_, _, rfl, rfl, zab.ints ns⟩
theorem zab.take : ∀ {ds : List D} {vs : List V} (n : Nat), zab G H ds vs -> zab G H (ds.take n) (vs.take n)
  | _, _, 0, _ => rfl
  | [], _, n + 1, h => by cases (show _ = [] from h); rfl
  | d :: ds, _, n + 1, ⟨v, r, e, h1, h2⟩ => by subst e; exact ⟨v, r.take n, rfl, h1, zab.take n h2⟩
theorem zab.drop : ∀ {ds : List D} {vs : List V} (n : Nat), zab G H ds vs -> zab G H (ds.drop n) (vs.drop n)
  | _, _, 0, h => h
  | [], _, n + 1, h => by cases (show _ = [] from h); rfl
  | d :: ds, _, n + 1, ⟨v, r, e, h1, h2⟩ => by subst e; exact zab.drop n h2
theorem zab.set : ∀ {ds : List D} {vs : List V} (i : Nat) {d : D} {v : V}, zab G H ds vs -> Rep G H d v -> zab G H (ds.set i d) (vs.set i v)
  | [], _, _, _, _, h, _ => by cases (show _ = [] from h); exact .nil
  | e :: ds, _, 0, _, _, ⟨v, r, e', _, h2⟩, q => by subst e'; exact ⟨_, r, rfl, q, h2⟩
  | e :: ds, _, i + 1, _, _, ⟨v, r, e', h1, h2⟩, q => by subst e'; exact ⟨v, r.set i _, rfl, h1, zab.set i h2 q⟩
end
noncomputable def zd4 : HO -> Bool
  | .tup _ => true
  | _ => false
structure Ext (Hf H Hf' H' : Hp) : Prop where
  f : zae Hf Hf'
  h : zae H H'
  s : zae Hf' H'
  n : ∀ l o, H l = some o -> zd4 o = false -> Hf' l = Hf l
section
variable {Hf H Hf1 H1 Hf2 H2 : Hp} {p : Addr} {o : HO}
theorem Ext.refl (s : zae Hf H) : Ext Hf H Hf H := ⟨zae.refl _, zae.refl _, s, fun _ _ _ _ => rfl⟩
theorem Ext.trans (a : Ext Hf H Hf1 H1) (b : Ext Hf1 H1 Hf2 H2) : Ext Hf H Hf2 H2 := ⟨a.f.trans b.f, a.h.trans b.h, b.s, fun l o e t => (b.n l o (a.h l o e) t).trans (a.n l o e t)⟩
theorem Ext.new (s : zae Hf H) (h : H p = none) : Ext Hf H (upd Hf p o) (upd H p o) :=
  ⟨zc6 (s.free h), zc6 h, fun b u e => by
    by_cases hb : b = p
    · subst hb; rw [zbp] at e ⊢; exact e
    · rw [zau hb] at e ⊢; exact s b u e, fun l u e _ => by rw [zau (zbo e h)]⟩
theorem Ext.tmp (s : zae Hf H) (h : H p = none) : Ext Hf H Hf (upd H p o) := ⟨zae.refl _, zc6 h, s.trans (zc6 h), fun _ _ _ _ => rfl⟩
theorem Ext.grow (s : zae Hf H) (g : zae H H1) : Ext Hf H Hf H1 := ⟨zae.refl _, g, s.trans g, fun _ _ _ _ => rfl⟩
theorem Ext.fix (a : Ext Hf H Hf1 H1) (hn : H p = none) (hf : Hf1 p = none) (hp : H1 p = some o) : Ext Hf H (upd Hf1 p o) H1 :=
  ⟨a.f.trans (zc6 hf), a.h, fun b u e => by
    by_cases hb : b = p
    · subst hb; rw [zbp] at e; rw [hp]; exact e
    · rw [zau hb] at e; exact a.s b u e, fun l u e t => by rw [zau (zbo e hn)]; exact a.n l u e t⟩
end
inductive O where
  | fz (d : D)
  | lst (xs : List O)
  | tup (xs : List O)
  | dic (ks : List Key) (xs : List O)
  | ins (c : Str) (ns : List Str) (xs : List O)
  | jnk (n : Nat)
  deriving Inhabited
mutual
noncomputable def OT (G : Gc) (Hf H : Hp) : O -> V -> List Addr -> Prop
  | .fz d, v, fp => Rep G Hf d v /\ fp = []
  | .lst os, v, fp => ∃ a vs fs, v = .ref a /\ H a = some (.lst vs) /\ OTs G Hf H os vs fs /\ fp = a :: fs
  | .tup os, v, fp => ∃ a vs, v = .ref a /\ H a = some (.tup vs) /\ OTs G Hf H os vs fp
  | .dic ks os, v, fp => ∃ a vs fs, v = .ref a /\ H a = some (.dK (ks.zip vs)) /\ ks.length = vs.length /\ OTs G Hf H os vs fs /\ fp = a :: fs
  | .ins c ns os, v, fp => ∃ a dx vs fs, v = .ref a /\ H a = some (.ins (G.cl c) dx (ns.zip vs)) /\ ns.length = vs.length /\ OTs G Hf H os vs fs /\ fp = a :: fs
  | .jnk n, v, fp => ∃ a vs, v = .ref a /\ H a = some (.lst vs) /\ vs.length <= n /\ fp = [a]
noncomputable def OTs (G : Gc) (Hf H : Hp) : List O -> List V -> List Addr -> Prop
  | [], vs, fp => vs = [] /\ fp = []
  | o :: os, vs, fp => ∃ v r f1 f2, vs = v :: r /\ OT G Hf H o v f1 /\ OTs G Hf H os r f2 /\ fp = f1 ++ f2
end
section
variable {G : Gc} {Hf H Hf' H' : Hp}
mutual
theorem OT.frameM (f : zae Hf Hf') : ∀ (o : O) (v : V) (fp : List Addr), OT G Hf H o v fp -> (∀ b u, H b = some u -> (zd4 u = true \/ b ∈ fp) -> H' b = some u) -> OT G Hf' H' o v fp
  | .fz d, _, _, h, _ => ⟨h.1.up f, h.2⟩
  | .lst os, _, fp, ⟨a, vs, fs, e, q, r, ef⟩, k => ⟨a, vs, fs, e, k _ _ q (.inr (by rw [ef]; exact List.mem_cons_self)), OTs.frameM f os vs fs r (fun b u hb hm => k b u hb (hm.imp_right fun z => by rw [ef]; exact List.mem_cons_of_mem _ z)), ef⟩
  | .tup os, _, fp, ⟨a, vs, e, q, r⟩, k => ⟨a, vs, e, k _ _ q (.inl rfl), OTs.frameM f os vs fp r k⟩
  | .dic ks os, _, fp, ⟨a, vs, fs, e, q, z, r, ef⟩, k => ⟨a, vs, fs, e, k _ _ q (.inr (by rw [ef]; exact List.mem_cons_self)), z, OTs.frameM f os vs fs r (fun b u hb hm => k b u hb (hm.imp_right fun z => by rw [ef]; exact List.mem_cons_of_mem _ z)), ef⟩
  | .ins c ns os, _, fp, ⟨a, dx, vs, fs, e, q, z, r, ef⟩, k => ⟨a, dx, vs, fs, e, k _ _ q (.inr (by rw [ef]; exact List.mem_cons_self)), z, OTs.frameM f os vs fs r (fun b u hb hm => k b u hb (hm.imp_right fun z => by rw [ef]; exact List.mem_cons_of_mem _ z)), ef⟩
  | .jnk n, _, fp, ⟨a, vs, e, q, z, ef⟩, k => ⟨a, vs, e, k _ _ q (.inr (by rw [ef]; exact List.mem_cons_self)), z, ef⟩
theorem OTs.frameM (f : zae Hf Hf') : ∀ (os : List O) (vs : List V) (fp : List Addr), OTs G Hf H os vs fp -> (∀ b u, H b = some u -> (zd4 u = true \/ b ∈ fp) -> H' b = some u) -> OTs G Hf' H' os vs fp
  | [], _, _, h, _ => h
  | o :: os, _, fp, ⟨v, r, f1, f2, e, h1, h2, ef⟩, k => ⟨v, r, f1, f2, e, OT.frameM f o v f1 h1 (fun b u hb hm => k b u hb (hm.imp_right fun z => by rw [ef]; exact List.mem_append_left _ z)), OTs.frameM f os r f2 h2 (fun b u hb hm => k b u hb (hm.imp_right fun z => by rw [ef]; exact List.mem_append_right _ z)), ef⟩
end
theorem OT.frame {o : O} {v : V} {fp : List Addr} (h : OT G Hf H o v fp) (f : zae Hf Hf') (k : ∀ b u, H b = some u -> (zd4 u = true \/ b ∈ fp) -> H' b = some u) : OT G Hf' H' o v fp := OT.frameM f o v fp h k
theorem OT.up {o : O} {v : V} {fp : List Addr} (h : OT G Hf H o v fp) (f : zae Hf Hf') (s : zae H H') : OT G Hf' H' o v fp := h.frame f fun b u e _ => s b u e
theorem zic {α β : Type} : ∀ {ks : List α} {vs us : List β}, ks.length = vs.length -> ks.length = us.length -> ks.zip vs = ks.zip us -> vs = us
  | [], [], [], _, _, _ => rfl
  | k :: ks, v :: vs, u :: us, h1, h2, e => by
    rw [List.zip_cons_cons, List.zip_cons_cons] at e
    injection e with e1 e2
    injection e1 with _ e3
    rw [e3, zic (by simpa using h1) (by simpa using h2) e2]
  | [], _ :: _, _, h, _, _ => by cases h
  | [], [], _ :: _, _, h, _ => by cases h
  | _ :: _, [], _, h, _, _ => by cases h
  | _ :: _, _ :: _, [], _, h, _ => by cases h
mutual
theorem OT.funM : ∀ (o : O) (v : V) (f f' : List Addr), OT G Hf H o v f -> OT G Hf' H o v f' -> f = f'
  | .fz d, _, _, _, h, h' => h.2.trans h'.2.symm
  | .lst os, _, _, _, ⟨a, vs, fs, e, q, r, ef⟩, ⟨a', vs', fs', e', q', r', ef'⟩ => by
    subst e ef ef'
    cases e'
    rw [q] at q'
    cases q'
    rw [OTs.funM os vs fs fs' r r']
  | .tup os, _, f, f', ⟨a, vs, e, q, r⟩, ⟨a', vs', e', q', r'⟩ => by
    subst e
    cases e'
    rw [q] at q'
    cases q'
    exact OTs.funM os vs f f' r r'
  | .dic ks os, _, _, _, ⟨a, vs, fs, e, q, z, r, ef⟩, ⟨a', vs', fs', e', q', z', r', ef'⟩ => by
    subst e ef ef'
    cases e'
    rw [q] at q'
    have := zic z z' (HO.dK.inj (Option.some.inj q'))
    subst this
    rw [OTs.funM os vs fs fs' r r']
  | .ins c ns os, _, _, _, ⟨a, dx, vs, fs, e, q, z, r, ef⟩, ⟨a', dx', vs', fs', e', q', z', r', ef'⟩ => by
    subst e ef ef'
    cases e'
    rw [q] at q'
    have := zic z z' (HO.ins.inj (Option.some.inj q')).2.2
    subst this
    rw [OTs.funM os vs fs fs' r r']
  | .jnk n, _, _, _, ⟨a, vs, e, q, z, ef⟩, ⟨a', vs', e', q', z', ef'⟩ => by
    subst e ef ef'
    cases e'
    rfl
theorem OTs.funM : ∀ (os : List O) (vs : List V) (f f' : List Addr), OTs G Hf H os vs f -> OTs G Hf' H os vs f' -> f = f'
  | [], _, _, _, h, h' => h.2.trans h'.2.symm
  | o :: os, _, _, _, ⟨v, r, f1, f2, e, h1, h2, ef⟩, ⟨v', r', f1', f2', e', h1', h2', ef'⟩ => by
    subst e ef ef'
    cases e'
    rw [OT.funM o v f1 f1' h1 h1', OTs.funM os r f2 f2' h2 h2']
end
mutual
theorem OT.memM : ∀ (o : O) (v : V) (f : List Addr), OT G Hf H o v f -> ∀ a ∈ f, ∃ u, H a = some u /\ zd4 u = false
  | .fz d, _, _, h, a, ha => by rw [h.2] at ha; cases ha
  | .lst os, _, _, ⟨a, vs, fs, e, q, r, ef⟩, b, hb => by
    subst ef
    rcases List.mem_cons.mp hb with z | z
    · subst z; exact ⟨_, q, rfl⟩
    · exact OTs.memM os vs fs r b z
  | .tup os, _, f, ⟨a, vs, e, q, r⟩, b, hb => OTs.memM os vs f r b hb
  | .dic ks os, _, _, ⟨a, vs, fs, e, q, z, r, ef⟩, b, hb => by
    subst ef
    rcases List.mem_cons.mp hb with z | z
    · subst z; exact ⟨_, q, rfl⟩
    · exact OTs.memM os vs fs r b z
  | .ins c ns os, _, _, ⟨a, dx, vs, fs, e, q, z, r, ef⟩, b, hb => by
    subst ef
    rcases List.mem_cons.mp hb with z | z
    · subst z; exact ⟨_, q, rfl⟩
    · exact OTs.memM os vs fs r b z
  | .jnk n, _, _, ⟨a, vs, e, q, z, ef⟩, b, hb => by
    subst ef
    rw [List.mem_singleton.mp hb]
    exact ⟨_, q, rfl⟩
theorem OTs.memM : ∀ (os : List O) (vs : List V) (f : List Addr), OTs G Hf H os vs f -> ∀ a ∈ f, ∃ u, H a = some u /\ zd4 u = false
  | [], _, _, h, a, ha => by rw [h.2] at ha; cases ha
  | o :: os, _, _, ⟨v, r, f1, f2, e, h1, h2, ef⟩, a, ha => by
    subst ef
    rcases List.mem_append.mp ha with z | z
    · exact OT.memM o v f1 h1 a z
    · exact OTs.memM os r f2 h2 a z
end
theorem OTs.fz : ∀ {ds : List D} {vs : List V}, zab G Hf ds vs -> OTs G Hf H (ds.map .fz) vs []
  | [], _, h => ⟨h, rfl⟩
  | d :: ds, _, ⟨v, r, e, h1, h2⟩ => ⟨v, r, [], [], e, ⟨h1, rfl⟩, OTs.fz h2, rfl⟩
end
inductive Sl where
  | no
  | im (d : D)
  | own (xs : List D)
  | ownd (ks : List Key) (xs : List D)
  | obj (c : Str) (ns : List Str) (xs : List D)
  | pin (l : Addr) (xs : List D)
  | pind (l : Addr) (ks : List Key) (xs : List D)
  | deep (o : O)
  | val (u : V)
noncomputable def Sl.isOwn : Sl -> Bool
  | .own _ => true
  | .ownd _ _ => true
  | .obj _ _ _ => true
  | .pin _ _ => true
  | .pind _ _ _ => true
  | _ => false
noncomputable def Sl.calm : Sl -> Bool
  | .no => true
  | .im _ => true
  | _ => false
noncomputable def zb6 (G : Gc) (Hf H : Hp) (l : Addr) : Sl -> Prop
  | .own ds => ∃ vs, H l = some (.lst vs) /\ zab G Hf ds vs
  | .ownd ks ds => ∃ vs, H l = some (.dK (ks.zip vs)) /\ ks.length = vs.length /\ zab G Hf ds vs
  | .obj c ns ds => ∃ dx vs, H l = some (.ins (G.cl c) dx (ns.zip vs)) /\ ns.length = vs.length /\ zab G Hf ds vs
  | .pin l0 ds => l = l0 /\ ∃ vs, H l = some (.lst vs) /\ zab G Hf ds vs
  | .pind l0 ks ds => l = l0 /\ ∃ vs, H l = some (.dK (ks.zip vs)) /\ ks.length = vs.length /\ zab G Hf ds vs
  | _ => False
theorem zb6.there {G : Gc} {Hf H : Hp} {l : Addr} {s : Sl} (h : zb6 G Hf H l s) : ∃ o, H l = some o := by
  cases s with
  | own ds => obtain ⟨vs, h, _⟩ := h; exact ⟨_, h⟩
  | ownd ks ds => obtain ⟨vs, h, _⟩ := h; exact ⟨_, h⟩
  | obj c ns ds => obtain ⟨dx, vs, h, _⟩ := h; exact ⟨_, h⟩
  | pin l0 ds => obtain ⟨_, vs, h, _⟩ := h; exact ⟨_, h⟩
  | pind l0 ks ds => obtain ⟨_, vs, h, _⟩ := h; exact ⟨_, h⟩
  | _ => exact h.elim
theorem zb6.there2 {G : Gc} {Hf H : Hp} {l : Addr} {s : Sl} (h : zb6 G Hf H l s) : ∃ o, H l = some o /\ zd4 o = false := by
  cases s with
  | own ds => obtain ⟨vs, h, _⟩ := h; exact ⟨_, h, rfl⟩
  | ownd ks ds => obtain ⟨vs, h, _⟩ := h; exact ⟨_, h, rfl⟩
  | obj c ns ds => obtain ⟨dx, vs, h, _⟩ := h; exact ⟨_, h, rfl⟩
  | pin l0 ds => obtain ⟨_, vs, h, _⟩ := h; exact ⟨_, h, rfl⟩
  | pind l0 ks ds => obtain ⟨_, vs, h, _⟩ := h; exact ⟨_, h, rfl⟩
  | _ => exact h.elim
theorem zb6.up {G : Gc} {Hf H Hf' H' : Hp} {l : Addr} {s : Sl} (h : zb6 G Hf H l s) (f : zae Hf Hf') (e : ∀ o, H l = some o -> H' l = some o) : zb6 G Hf' H' l s := by
  cases s with
  | own ds => obtain ⟨vs, h, r⟩ := h; exact ⟨vs, e _ h, r.up f⟩
  | ownd ks ds => obtain ⟨vs, h, z, r⟩ := h; exact ⟨vs, e _ h, z, r.up f⟩
  | obj c ns ds => obtain ⟨dx, vs, h, z, r⟩ := h; exact ⟨dx, vs, e _ h, z, r.up f⟩
  | pin l0 ds => obtain ⟨q, vs, h, r⟩ := h; exact ⟨q, vs, e _ h, r.up f⟩
  | pind l0 ks ds => obtain ⟨q, vs, h, z, r⟩ := h; exact ⟨q, vs, e _ h, z, r.up f⟩
  | _ => exact h.elim
noncomputable def zci (G : Gc) (H0 Hf H : Hp) (v : Option V) : Sl -> Prop
  | .no => True
  | .im d => ∃ u, v = some u /\ Rep G Hf d u
  | .deep o => ∃ u fp, v = some u /\ OT G Hf H o u fp /\ fp.Nodup /\ ∀ a ∈ fp, H0 a = none /\ Hf a = none
  | .val u => v = some u
  | s => ∃ l, v = some (.ref l) /\ H0 l = none /\ Hf l = none /\ zb6 G Hf H l s
theorem zci.own {G : Gc} {H0 Hf H : Hp} {v : Option V} {s : Sl} (hs : s.isOwn = true) (h : zci G H0 Hf H v s) : ∃ l, v = some (.ref l) /\ H0 l = none /\ Hf l = none /\ zb6 G Hf H l s := by
  cases s <;> first | exact h | cases hs
theorem zci.ofOwn {G : Gc} {H0 Hf H : Hp} {v : Option V} {s : Sl} (hs : s.isOwn = true) (h : ∃ l, v = some (.ref l) /\ H0 l = none /\ Hf l = none /\ zb6 G Hf H l s) : zci G H0 Hf H v s := by
  cases s <;> first | exact h | cases hs
noncomputable def Holds (G : Gc) (Hf H : Hp) (s : Sl) (v : V) (a : Addr) : Prop := match s with
  | .deep o => ∃ fp, OT G Hf H o v fp /\ a ∈ fp
  | s => s.isOwn = true /\ v = .ref a
theorem Holds.own {G : Gc} {Hf H : Hp} {s : Sl} {v : V} {a : Addr} (hs : s.isOwn = true) : Holds G Hf H s v a ↔ v = .ref a := by
  cases s <;> first | exact ⟨fun h => h.2, fun h => ⟨rfl, h⟩⟩ | cases hs
theorem Holds.calm {G : Gc} {Hf H : Hp} {s : Sl} {v : V} {a : Addr} (h : Holds G Hf H s v a) (hs : s.calm = true) : False := by
  cases s <;> first | exact Bool.noConfusion h.1 | cases hs
theorem zci.back {G : Gc} {H0 Hf H Hf' H' : Hp} {s : Sl} {v : V} {a : Addr} (q : zci G H0 Hf H (some v) s) (k : ∀ o fp, s = .deep o -> OT G Hf H o v fp -> OT G Hf' H' o v fp) (h : Holds G Hf' H' s v a) : Holds G Hf H s v a := by
  cases s with
  | deep o =>
    obtain ⟨u, fp, e, r, _⟩ := q
    cases e
    obtain ⟨fp', r', ha⟩ := h
    have := OT.funM o v fp fp' (k o fp rfl r) r'
    subst this
    exact ⟨fp, r, ha⟩
  | _ => exact h
theorem zci.there {G : Gc} {H0 Hf H : Hp} {s : Sl} {v : V} {a : Addr} (q : zci G H0 Hf H (some v) s) (h : Holds G Hf H s v a) : ∃ o, H a = some o /\ zd4 o = false := by
  cases hs : s.isOwn with
  | true =>
    obtain ⟨l, e, _, _, ho⟩ := q.own hs
    have e2 := (Holds.own hs).mp h
    cases e
    cases e2
    exact ho.there2
  | false =>
    cases s with
    | deep o =>
      obtain ⟨fp, r, ha⟩ := h
      exact OT.memM o v fp r a ha
    | _ => first | exact Bool.noConfusion h.1 | cases hs
structure zac (G : Gc) (Hf0 H0 Hf H : Hp) (σ : St) (ρ : List Sl) : Prop where
  ext : Ext Hf0 H0 Hf H
  len : σ.length = ρ.length
  at' : ∀ (i : Nat) (v : Option V) (s : Sl), σ[i]? = some v -> ρ[i]? = some s -> zci G H0 Hf H v s
  dj : ∀ (i j : Nat) (s t : Sl) (v w : V) (a : Addr), ρ[i]? = some s -> ρ[j]? = some t -> σ[i]? = some (some v) -> σ[j]? = some (some w) -> Holds G Hf H s v a -> Holds G Hf H t w a -> i = j
section
variable {G : Gc} {Hf0 H0 Hf H Hf' H' : Hp} {σ : St} {ρ : List Sl}
theorem zac.sub (h : zac G Hf0 H0 Hf H σ ρ) : zae Hf H := h.ext.s
theorem zac.inj (h : zac G Hf0 H0 Hf H σ ρ) (i j : Nat) (s t : Sl) (l : Addr) (a : ρ[i]? = some s) (b : ρ[j]? = some t) (hs : s.isOwn = true) (ht : t.isOwn = true) (c : σ[i]? = some (some (.ref l))) (d : σ[j]? = some (some (.ref l))) : i = j :=
  h.dj i j s t _ _ l a b c d ((Holds.own hs).mpr rfl) ((Holds.own ht).mpr rfl)
theorem zac.re {Hf0' H0' : Hp} {ρ' : List Sl} (h : zac G Hf0 H0 Hf H σ ρ) (x : Ext Hf0' H0' Hf' H') (hl : ρ'.length = ρ.length) (ha : ∀ (i : Nat) (v : Option V) (s : Sl), σ[i]? = some v -> ρ'[i]? = some s -> zci G H0' Hf' H' v s)
    (hd : ∀ (i : Nat) (s : Sl) (v : V) (a : Addr), ρ'[i]? = some s -> σ[i]? = some (some v) -> Holds G Hf' H' s v a -> ∃ t, ρ[i]? = some t /\ Holds G Hf H t v a) : zac G Hf0' H0' Hf' H' σ ρ' :=
  ⟨x, h.len.trans hl.symm, ha, fun i j s t v w a b c e f p q => by
    obtain ⟨s0, b0, p0⟩ := hd i s v a b e p
    obtain ⟨t0, c0, q0⟩ := hd j t w a c f q
    exact h.dj i j s0 t0 v w a b0 c0 e f p0 q0⟩
theorem zac.step (h : zac G Hf0 H0 Hf H σ ρ) (e : Ext Hf H Hf' H') : zac G Hf0 H0 Hf' H' σ ρ := by
  refine h.re (h.ext.trans e) rfl (fun i v s a b => ?_) fun i s v a b c d => ⟨s, b, (h.at' i _ s c b).back (fun o fp _ r => r.up e.f e.h) d⟩
  have q := h.at' i v s a b
  cases hs : s.isOwn with
  | true =>
    obtain ⟨l, e1, e2, e3, e4⟩ := q.own hs
    obtain ⟨o, ho, ht⟩ := e4.there2
    exact .ofOwn hs ⟨l, e1, e2, by rw [e.n l o ho ht]; exact e3, e4.up e.f fun o ho => e.h _ _ ho⟩
  | false =>
    cases s with
    | no => trivial
    | im d => obtain ⟨u, e1, r⟩ := q; exact ⟨u, e1, r.up e.f⟩
    | val u => exact q
    | deep o =>
      obtain ⟨u, fp, e1, r, n, z⟩ := q
      refine ⟨u, fp, e1, r.up e.f e.h, n, fun a ha => ⟨(z a ha).1, ?_⟩⟩
      obtain ⟨oo, ho, ht⟩ := OT.memM o u fp r a ha
      rw [e.n a oo ho ht]
      exact (z a ha).2
    | _ => cases hs
theorem zac.slot {i : Nat} {s : Sl} (h : zac G Hf0 H0 Hf H σ ρ) (e : ρ[i]? = some s) : ∃ v, σ[i]? = some v /\ zci G H0 Hf H v s := by
  have hi : i < σ.length := by rw [h.len]; exact (List.getElem?_eq_some_iff.mp e).1
  exact ⟨σ[i], by simp [hi], h.at' i _ s (by simp [hi]) e⟩
theorem zac.imm {i : Nat} {d : D} (h : zac G Hf0 H0 Hf H σ ρ) (e : ρ[i]? = some (.im d)) : ∃ v, σ[i]? = some (some v) /\ Rep G Hf d v := by
  obtain ⟨v, e1, u, e2, r⟩ := h.slot e
  subst e2
  exact ⟨u, e1, r⟩
theorem zac.ownAt {i : Nat} {s : Sl} (hs : s.isOwn = true) (h : zac G Hf0 H0 Hf H σ ρ) (e : ρ[i]? = some s) : ∃ l, σ[i]? = some (some (.ref l)) /\ H0 l = none /\ Hf l = none /\ zb6 G Hf H l s := by
  obtain ⟨v, e1, q⟩ := h.slot e
  obtain ⟨l, e2, q2⟩ := q.own hs
  rw [e2] at e1
  exact ⟨l, e1, q2⟩
theorem zbh {α : Type} {l : List α} {i j : Nat} {x y : α} (h : (l.set i x)[j]? = some y) : (j = i /\ y = x /\ i < l.length) \/ (j ≠ i /\ l[j]? = some y) := by
  by_cases hj : j = i
  · subst hj
    left
    have hi : j < l.length := by have := (List.getElem?_eq_some_iff.mp h).1; simpa using this
    rw [List.getElem?_set_self hi] at h
    exact ⟨rfl, (Option.some.inj h).symm, hi⟩
  · right
    rw [List.getElem?_set_ne (Ne.symm hj)] at h
    exact ⟨hj, h⟩
theorem zac.setIm {i : Nat} {d : D} {v : V} (h : zac G Hf0 H0 Hf H σ ρ) (r : Rep G Hf d v) : zac G Hf0 H0 Hf H (σ.set i (some v)) (ρ.set i (.im d)) := by
  refine ⟨h.ext, by simpa using h.len, fun j u s a b => ?_, fun j k s t u w l a b c d' p q => ?_⟩
  · rcases zbh b with ⟨e, e', _⟩ | ⟨e, b⟩
    · subst e e'
      rcases zbh a with ⟨_, e', _⟩ | ⟨e, _⟩
      · subst e'; exact ⟨v, rfl, r⟩
      · exact absurd rfl e
    · rcases zbh a with ⟨e', _⟩ | ⟨_, a⟩
      · exact absurd e' e
      · exact h.at' j u s a b
  · rcases zbh a with ⟨e, e', _⟩ | ⟨e, a⟩
    · subst e'; exact (p.calm rfl).elim
    · rcases zbh b with ⟨e2, e', _⟩ | ⟨e2, b⟩
      · subst e'; exact (q.calm rfl).elim
      · rcases zbh c with ⟨e', _⟩ | ⟨_, c⟩
        · exact absurd e' e
        · rcases zbh d' with ⟨e', _⟩ | ⟨_, d'⟩
          · exact absurd e' e2
          · exact h.dj j k s t u w l a b c d' p q
theorem zac.setNew {i : Nat} {u : V} {s : Sl} (h : zac G Hf0 H0 Hf H σ ρ) (e : Ext Hf H Hf' H') (ho : zci G H0 Hf' H' (some u) s) (hn : ∀ a, Holds G Hf' H' s u a -> H a = none) :
    zac G Hf0 H0 Hf' H' (σ.set i (some u)) (ρ.set i s) := by
  have h' := h.step e
  have no : ∀ (j : Nat) (t : Sl) (w : V) (a : Addr), ρ[j]? = some t -> σ[j]? = some (some w) -> Holds G Hf' H' t w a -> Holds G Hf' H' s u a -> False := fun j t w a b c p q => by
    have p0 := (h.at' j _ t c b).back (fun o fp _ r => r.up e.f e.h) p
    obtain ⟨o, ho, _⟩ := (h.at' j _ t c b).there p0
    rw [hn a q] at ho; cases ho
  refine ⟨h'.ext, by simpa using h.len, fun j w t a b => ?_, fun j k t t' v w l a b c d' p q => ?_⟩
  · rcases zbh b with ⟨e, e', _⟩ | ⟨e, b⟩
    · subst e e'
      rcases zbh a with ⟨_, e', _⟩ | ⟨e, _⟩
      · subst e'; exact ho
      · exact absurd rfl e
    · rcases zbh a with ⟨e', _⟩ | ⟨_, a⟩
      · exact absurd e' e
      · exact h'.at' j w t a b
  · rcases zbh a with ⟨e1, e1', _⟩ | ⟨e1, a⟩
    · rcases zbh b with ⟨e2, e2', _⟩ | ⟨e2, b⟩
      · rw [e1, e2]
      · rcases zbh c with ⟨_, e', _⟩ | ⟨e', _⟩
        · cases e'
          rw [e1'] at p
          rcases zbh d' with ⟨e', _⟩ | ⟨_, d'⟩
          · exact absurd e' e2
          · exact (no k t' w l b d' q p).elim
        · exact absurd e1 e'
    · rcases zbh c with ⟨e', _⟩ | ⟨_, c⟩
      · exact absurd e' e1
      · rcases zbh b with ⟨e2, e2', _⟩ | ⟨e2, b⟩
        · rcases zbh d' with ⟨_, e', _⟩ | ⟨e', _⟩
          · cases e'
            rw [e2'] at q
            exact (no j t v l a c p q).elim
          · exact absurd e2 e'
        · rcases zbh d' with ⟨e', _⟩ | ⟨_, d'⟩
          · exact absurd e' e2
          · exact h'.dj j k t t' v w l a b c d' p q
theorem zac.setOwn {i : Nat} {l : Addr} {s : Sl} (hs : s.isOwn = true) (h : zac G Hf0 H0 Hf H σ ρ) (e : Ext Hf H Hf' H') (hn : H l = none) (hf : Hf' l = none) (ho : zb6 G Hf' H' l s) :
    zac G Hf0 H0 Hf' H' (σ.set i (some (.ref l))) (ρ.set i s) :=
  h.setNew e (.ofOwn hs ⟨l, rfl, h.ext.h.free hn, hf, ho⟩) fun a p => by cases (Holds.own hs).mp p; exact hn
theorem zac.chg {i : Nat} {s s' : Sl} {v : V} (h : zac G Hf0 H0 Hf H σ ρ) (e : ρ[i]? = some s) (el : σ[i]? = some (some v)) (k : ∀ b u, H b = some u -> Holds G Hf H s v b \/ H' b = some u) (ho : zci G H0 Hf H' (some v) s')
    (hh : ∀ a, Holds G Hf H' s' v a -> Holds G Hf H s v a \/ ∀ (j : Nat) (t : Sl) (w : V), ρ[j]? = some t -> σ[j]? = some (some w) -> Holds G Hf H t w a -> False) : zac G Hf0 H0 Hf H' σ (ρ.set i s') := by
  have q := h.at' i _ s el e
  have gone : ∀ b, Holds G Hf H s v b -> H0 b = none /\ Hf b = none := fun b p => by
    cases hs : s.isOwn with
    | true =>
      obtain ⟨l, e1, h0, hf, _⟩ := q.own hs
      have e2 := (Holds.own hs).mp p
      cases e1
      cases e2
      exact ⟨h0, hf⟩
    | false =>
      cases s with
      | deep o =>
        obtain ⟨u, fp, e1, r, n, z⟩ := q
        cases e1
        obtain ⟨fp', r', ha⟩ := p
        have := OT.funM o v fp fp' r r'
        subst this
        exact z b ha
      | _ => first | exact Bool.noConfusion p.1 | cases hs
  have fr : ∀ (j : Nat) (t : Sl) (w : V), j ≠ i -> ρ[j]? = some t -> σ[j]? = some (some w) -> ∀ o fp, t = .deep o -> OT G Hf H o w fp -> OT G Hf H' o w fp := fun j t w hj b c o fp et r => by
    subst et
    refine r.frame (zae.refl _) fun x u hx hm => ?_
    rcases k x u hx with z | z
    · rcases hm with hm | hm
      · obtain ⟨o', ho', ht'⟩ := q.there z
        rw [hx] at ho'
        cases ho'
        rw [hm] at ht'
        cases ht'
      · exact absurd (h.dj j i _ s w v x b e c el ⟨fp, r, hm⟩ z) hj
    · exact z
  refine ⟨⟨h.ext.f, fun b u e => ?_, fun b u e => ?_, h.ext.n⟩, by simpa using h.len, fun j u t a b => ?_, fun j j' t t' w w' a b c b' c' p p' => ?_⟩
  · rcases k b u (h.ext.h b u e) with z | z
    · rw [(gone b z).1] at e; cases e
    · exact z
  · rcases k b u (h.ext.s b u e) with z | z
    · rw [(gone b z).2] at e; cases e
    · exact z
  · rcases zbh b with ⟨e', e2, _⟩ | ⟨en, b⟩
    · subst e' e2
      rw [el] at a; cases a
      exact ho
    · have q' := h.at' j u t a b
      cases ht : t.isOwn with
      | false =>
        cases t with
        | no => trivial
        | im d => exact q'
        | val u => exact q'
        | deep o =>
          obtain ⟨w, fp, e1, r, n, z⟩ := q'
          subst e1
          exact ⟨w, fp, rfl, fr j _ w en b a o fp rfl r, n, z⟩
        | _ => cases ht
      | true =>
        obtain ⟨l2, e2, e3, e4, q2⟩ := q'.own ht
        subst e2
        refine .ofOwn ht ⟨l2, rfl, e3, e4, q2.up (zae.refl _) fun o' ho' => ?_⟩
        rcases k l2 o' ho' with z | z
        · exact absurd (h.dj j i t s _ v l2 b e a el ((Holds.own ht).mpr rfl) z) en
        · exact z
  · have old : ∀ (j : Nat) (t : Sl) (w : V), (ρ.set i s')[j]? = some t -> σ[j]? = some (some w) -> Holds G Hf H' t w a -> (j = i /\ ∀ (j : Nat) (t : Sl) (w : V), ρ[j]? = some t -> σ[j]? = some (some w) -> Holds G Hf H t w a -> False) \/ ∃ t0, ρ[j]? = some t0 /\ Holds G Hf H t0 w a := fun j t w b y p => by
      rcases zbh b with ⟨e', e2, _⟩ | ⟨en, b⟩
      · rw [e2] at p
        rw [e', el] at y
        cases y
        rw [e']
        rcases hh a p with z | z
        · exact .inr ⟨s, e, z⟩
        · exact .inl ⟨rfl, z⟩
      · exact .inr ⟨t, b, (h.at' j _ t y b).back (fr j t w en b y) p⟩
    rcases old j t w b b' p with ⟨z1, z2⟩ | ⟨t0, z1, z2⟩
    · rcases old j' t' w' c c' p' with ⟨y1, y2⟩ | ⟨t1, y1, y2⟩
      · rw [z1, y1]
      · exact (z2 j' t1 w' y1 c' y2).elim
    · rcases old j' t' w' c c' p' with ⟨y1, y2⟩ | ⟨t1, y1, y2⟩
      · exact (y2 j t0 w z1 b' z2).elim
      · exact h.dj j j' t0 t1 w w' a z1 y1 b' c' z2 y2
theorem zac.mutd {i : Nat} {l : Addr} {s s' : Sl} {o : HO} (hs : s.isOwn = true) (hs' : s'.isOwn = true) (h : zac G Hf0 H0 Hf H σ ρ) (e : ρ[i]? = some s) (el : σ[i]? = some (some (.ref l))) (ho : zb6 G Hf (upd H l o) l s') :
    zac G Hf0 H0 Hf (upd H l o) σ (ρ.set i s') := by
  obtain ⟨l', e1, h0, hf, q⟩ := h.ownAt hs e
  rw [el] at e1; cases e1
  refine h.chg e el (fun b u hb => ?_) (.ofOwn hs' ⟨l, rfl, h0, hf, ho⟩) fun a p => .inl ?_
  · by_cases hl : b = l
    · subst hl; exact .inl ((Holds.own hs).mpr rfl)
    · exact .inr (by rw [zau hl]; exact hb)
  · exact (Holds.own hs).mpr ((Holds.own hs').mp p)
end
end L2
namespace L2
open PySem PySem.Spec PyProof.Rows
section
variable {X : Cx} {e : Expr}
theorem PE.imp {t t' : TE} (h : PE X e t) (i : ∀ σ H Q, t' σ H Q -> t σ H Q) : PE X e t' := fun pins s σ H Q I q => h pins s σ H Q I (i σ H Q q)
theorem PT.imp {t t' : TT} (h : PT X e t) (i : ∀ σ H Q, t' σ H Q -> t σ H Q) : PT X e t' := fun pins s σ H Q I q => h pins s σ H Q I (i σ H Q q)
theorem PW.imp {t t' : TT} (h : PW X e t) (i : ∀ σ H Q, t' σ H Q -> t σ H Q) : PW X e t' := fun wh pins s σ H Q I q => h wh pins s σ H Q I (i σ H Q q)
theorem PA.imp {es : List Expr} {t t' : TA} (h : PA X es t) (i : ∀ σ H Q, t' σ H Q -> t σ H Q) : PA X es t' := fun pos pins s σ H Q I q => h pos pins s σ H Q I (i σ H Q q)
theorem PS.imp {st : Stmt} {t t' : TS} (h : PS X st t) (i : ∀ E σ H, t' E σ H -> t E σ H) : PS X st t' := fun pins s σ H E I q => h pins s σ H E I (i E σ H q)
theorem PSs.imp {st : List Stmt} {t t' : TS} (h : PSs X st t) (i : ∀ E σ H, t' E σ H -> t E σ H) : PSs X st t' := fun pins s σ H E I q => h pins s σ H E I (i E σ H q)
theorem PG.imp {t t' : TG} (h : PG X e t) (i : ∀ v σ H Q, t' v σ H Q -> t v σ H Q) : PG X e t' := fun pins s σ H v u Q I r q => h pins s σ H v u Q I r (i v σ H Q q)
theorem PGs.imp {es : List Expr} {t t' : TGs} (h : PGs X es t) (i : ∀ v σ H Q, t' v σ H Q -> t v σ H Q) : PGs X es t' := fun pins s σ H v u Q I r q => h pins s σ H v u Q I r (i v σ H Q q)
theorem PI.imp {tg : Expr} {t t' : TI} (h : PI X tg e t) (i : ∀ σ H R, t' σ H R -> t σ H R) : PI X tg e t' := fun pins s σ H R I q => h pins s σ H R I (i σ H R q)
theorem PTs.imp {ifs : List Expr} {t t' : TT} (h : PTs X ifs t) (i : ∀ σ H Q, t' σ H Q -> t σ H Q) : PTs X ifs t' := fun pins s σ H Q I q => h pins s σ H Q I (i σ H Q q)
theorem OpR.imp {f : Value -> Value -> Sem Value} {r r' : R2} (h : OpR X f r) (i : ∀ x y H Q, r' x y H Q -> r x y H Q) : OpR X f r' := fun pins s σ H x y v u Q I rx ry q => h pins s σ H x y v u Q I rx ry (i x y H Q q)
theorem zbr.imp {f : Value} {r r' : List V -> Hp -> VK -> Prop} (h : zbr X f r) (i : ∀ xs H Q, r' xs H Q -> r xs H Q) : zbr X f r' := fun pins s σ H xs us Q I rx q => h pins s σ H xs us Q I rx (i xs H Q q)
end
noncomputable abbrev Gx (c : Str -> Addr) (X : Cx) : Gc := ⟨X.K, c⟩
noncomputable def tD (G : Gc) (f : List Sl -> Option D) : TE := fun σ H Q => ∃ Hf0 H0 Hf ρ d, zac G Hf0 H0 Hf H σ ρ /\ f ρ = some d /\ ∀ v Hf' H', Ext Hf H Hf' H' -> Rep G Hf' d v -> Q v H'
noncomputable def tDB (G : Gc) (f : List Sl -> Option D) : TE := fun σ H Q => ∃ Hf0 H0 Hf ρ d, zac G Hf0 H0 Hf H σ ρ /\ f ρ = some d /\ ∀ v Hf' H', Ext Hf H Hf' H' -> Rep G H' d v -> Q v H'
noncomputable def tDC (G : Gc) (f : List Sl -> Option (List D)) : TE := fun σ H Q => ∃ Hf0 H0 Hf ρ ds, zac G Hf0 H0 Hf H σ ρ /\ f ρ = some ds /\ ∀ a vs Hf' H', Ext Hf H Hf' H' -> (SqL G.K H' a vs \/ SqT G.K H' a vs) -> zab G Hf' ds vs -> Q (.ref a) H'
noncomputable def tDO (G : Gc) (f : List Sl -> Option (List D)) : TE := fun σ H Q => ∃ Hf0 H0 Hf ρ ds, zac G Hf0 H0 Hf H σ ρ /\ f ρ = some ds /\
  ∀ l vs Hf' H', Ext Hf H Hf' H' -> H l = none -> Hf' l = none -> H' l = some (.lst vs) -> zab G Hf' ds vs -> Q (.ref l) H'
noncomputable def tDA (G : Gc) (f : List Sl -> Option (List D)) : TA := fun σ H Q => ∃ Hf0 H0 Hf ρ ds, zac G Hf0 H0 Hf H σ ρ /\ f ρ = some ds /\ ∀ vs Hf' H', Ext Hf H Hf' H' -> zab G Hf' ds vs -> Q vs H'
noncomputable def zp2 (G : Gc) (f : List Sl -> Option (List D)) : TA := fun σ H Q => ∃ Hf0 H0 Hf ρ ds, zac G Hf0 H0 Hf H σ ρ /\ f ρ = some ds /\ ∀ vs Hf' H', Ext Hf H Hf' H' -> zab G H' ds vs -> Q vs H'
noncomputable def tDT (G : Gc) (f : List Sl -> Option Bool) : TT := fun σ H Q => ∃ Hf0 H0 Hf ρ b, zac G Hf0 H0 Hf H σ ρ /\ f ρ = some b /\ ∀ Hf' H', Ext Hf H Hf' H' -> Q b H'
noncomputable def DE (c : Str -> Addr) (X : Cx) (e : Expr) (f : List Sl -> Option D) : Prop := PE X e (tD (Gx c X) f)
noncomputable def DB (c : Str -> Addr) (X : Cx) (e : Expr) (f : List Sl -> Option D) : Prop := PE X e (tDB (Gx c X) f)
noncomputable def DC (c : Str -> Addr) (X : Cx) (e : Expr) (f : List Sl -> Option (List D)) : Prop := PE X e (tDC (Gx c X) f)
noncomputable def DO (c : Str -> Addr) (X : Cx) (e : Expr) (f : List Sl -> Option (List D)) : Prop := PE X e (tDO (Gx c X) f)
structure DA (c : Str -> Addr) (X : Cx) (es : List Expr) (f : List Sl -> Option (List D)) : Prop where
  pa : PA X es (tDA (Gx c X) f)
  len : ∀ ρ ds, f ρ = some ds -> ds.length = es.length
structure DAB (c : Str -> Addr) (X : Cx) (es : List Expr) (f : List Sl -> Option (List D)) : Prop where
  pa : PA X es (zp2 (Gx c X) f)
  len : ∀ ρ ds, f ρ = some ds -> ds.length = es.length
noncomputable def DT (c : Str -> Addr) (X : Cx) (e : Expr) (f : List Sl -> Option Bool) : Prop := PT X e (tDT (Gx c X) f)
noncomputable def DW (c : Str -> Addr) (X : Cx) (e : Expr) (f : List Sl -> Option Bool) : Prop := PW X e (tDT (Gx c X) f)
noncomputable def D.scalar : D -> Bool
  | .non => true
  | .bl _ => true
  | .int _ => true
  | .str _ => true
  | _ => false
theorem Rep.sc {G : Gc} {H H' : Hp} {d : D} {v : V} (hs : d.scalar = true) (r : Rep G H d v) : Rep G H' d v := by
  cases d <;> first | exact r | cases hs
noncomputable def zeq : D -> Option (List D)
  | .lst xs => some xs
  | .tup xs => some xs
  | .kl xs => some xs
  | .kt xs => some xs
  | _ => none
theorem zk4 {G : Gc} {H : Hp} {d : D} {v : V} {ds : List D} (e : zeq d = some ds) (r : Rep G H d v) : ∃ a vs, v = .ref a /\ (SqL G.K H a vs \/ SqT G.K H a vs) /\ zab G H ds vs := by
  cases d with
  | lst xs => cases e; obtain ⟨a, vs, e1, q, r⟩ := r; exact ⟨a, vs, e1, .inl (SqL.of q), r⟩
  | tup xs => cases e; obtain ⟨a, vs, e1, q, r⟩ := r; exact ⟨a, vs, e1, .inr (SqT.of q), r⟩
  | kl xs => cases e; obtain ⟨a, vs, e1, q, r⟩ := r; exact ⟨a, vs, e1, .inl q, r⟩
  | kt xs => cases e; obtain ⟨a, vs, e1, q, r⟩ := r; exact ⟨a, vs, e1, .inr q, r⟩
  | _ => cases e
theorem zqj {K : PySem.W.Frag} {H H' : Hp} (s : zae H H') {a : Addr} {vs : List V} (h : SqL K H a vs \/ SqT K H a vs) : SqL K H' a vs \/ SqT K H' a vs := h.imp s.seq s.tup
noncomputable def zcf (f : List Sl -> Option (List D)) (ρ : List Sl) : Option D := (f ρ).map .lst
noncomputable def zm7 (f : List Sl -> Option (List D)) (ρ : List Sl) : Option D := (f ρ).map .tup
noncomputable def zet (f : List Sl -> Option D) (ρ : List Sl) : Option (List D) := (f ρ).bind zeq
section
variable {c : Str -> Addr} {X : Cx} {e a b : Expr} {es : List Expr} {pos : Pos}
theorem DE.db {f : List Sl -> Option D} (h : DE c X e f) : DB c X e f := PE.imp h fun σ H Q q_ => by
  obtain ⟨Hf0, H0, Hf, ρ, d, st, ef, k⟩ := q_
  exact (⟨Hf0, H0, Hf, ρ, d, st, ef, fun v Hf' H' x r => k v Hf' H' x (r.up x.s)⟩)
theorem DO.de {f : List Sl -> Option (List D)} (h : DO c X e f) : DE c X e (zcf f) := PE.imp h fun σ H Q q_ => by
  obtain ⟨Hf0, H0, Hf, ρ, d, st, ef, k⟩ := q_
  unfold zcf at ef
  cases ed : f ρ with
  | none => rw [ed] at ef; cases ef
  | some ds =>
    rw [ed] at ef
    have ef : D.lst ds = d := Option.some.inj ef
    subst ef
    exact ⟨Hf0, H0, Hf, ρ, ds, st, ed, fun l vs Hf' H' x hn hf hl r => k _ (upd Hf' l (.lst vs)) H' (x.fix hn hf hl) ⟨l, vs, rfl, zbp, r.up (zc6 hf)⟩⟩
theorem DB.sc {f : List Sl -> Option D} (h : DB c X e f) (hs : ∀ ρ d, f ρ = some d -> d.scalar = true) : DE c X e f := PE.imp h fun σ H Q q_ => by
  obtain ⟨Hf0, H0, Hf, ρ, d, st, ef, k⟩ := q_
  exact (
  ⟨Hf0, H0, Hf, ρ, d, st, ef, fun v Hf' H' x r => k v Hf' H' x (r.sc (hs ρ d ef))⟩)
noncomputable def zaa (i : Nat) (ρ : List Sl) : Option D := match ρ[i]? with
  | some (.im d) => some d
  | _ => none
theorem zo1 {i : Nat} {ρ : List Sl} {d : D} (h : zaa i ρ = some d) : ρ[i]? = some (.im d) := by
  unfold zaa at h
  cases e : ρ[i]? with
  | none => rw [e] at h; cases h
  | some s => rw [e] at h; cases s <;> cases h; rfl
theorem zkz {i : Nat} (h : PE X e (zef i)) : DE c X e (zaa i) := PE.imp h fun σ H Q q_ => by
  obtain ⟨Hf0, H0, Hf, ρ, d, st, ef, k⟩ := q_
  obtain ⟨v, e1, r⟩ := st.imm (zo1 ef)
  exact ⟨v, e1, k v Hf H (Ext.refl st.sub) r⟩
theorem zjw {v : V} {d : D} (h : PE X e (tC v)) (r : ∀ G H, Rep G H d v) : DE c X e (fun _ => some d) := PE.imp h fun σ H Q q_ => by
  obtain ⟨Hf0, H0, Hf, ρ, d', st, ef, k⟩ := q_
  cases ef
  exact k v Hf H (Ext.refl st.sub) (r _ _)
theorem zai {i : Int} {j} : DE c X (.Constant (.int i) j pos) (fun _ => some (.int i)) := zjw zos fun _ _ => rfl
theorem zd2 {i : Bool} {j} : DE c X (.Constant (.bool i) j pos) (fun _ => some (.bl i)) := zjw zti fun _ _ => rfl
theorem za0 {i : Str} {j} : DE c X (.Constant (.str i) j pos) (fun _ => some (.str i)) := zjw zo6 fun _ _ => rfl
theorem dv (i : Nat) {x : Str} (hN : X.N[i]? = some x := by rfl) (hv : Vis X.env.scope x := by first | exact Or.inl rfl | exact Or.inr (Or.inl rfl) | exact Or.inr (Or.inr rfl)) (hd : (x == ("__debug__" : Str)) = false := by decide)
    (hcd : (x == ("__classdict__" : Str)) = false := by decide) : DE c X (.Name x pos) (zaa i) := zkz (ze6 hN hv hd hcd)
noncomputable def zad (f : List Sl -> Option D) (g : List Sl -> Option (List D)) (ρ : List Sl) : Option (List D) := (f ρ).bind fun d => (g ρ).map fun ds => d :: ds
theorem zh1 {f : List Sl -> Option D} {g : List Sl -> Option (List D)} {ρ : List Sl} {ds : List D} (h : zad f g ρ = some ds) : ∃ d r, f ρ = some d /\ g ρ = some r /\ ds = d :: r := by
  unfold zad at h
  cases e1 : f ρ with
  | none => rw [e1] at h; cases h
  | some d =>
    cases e2 : g ρ with
    | none => rw [e1, e2] at h; cases h
    | some r => rw [e1, e2] at h; cases h; exact ⟨d, r, rfl, rfl, rfl⟩
theorem za8 : DA c X [] (fun _ => some []) := ⟨PA.imp zdn fun σ H Q ⟨Hf0, H0, Hf, ρ, ds, st, ef, k⟩ => by cases ef; exact k [] Hf H (Ext.refl st.sub) rfl, fun ρ ds h => by cases h; rfl⟩
theorem zak {f : List Sl -> Option D} {g : List Sl -> Option (List D)} (ha : DE c X e f) (hr : DA c X es g) (hs : starEach (e :: es) X.env = (false, eval e X.env) :: starEach es X.env := by rfl) : DA c X (e :: es) (zad f g) := by
  refine ⟨PA.imp (zcc ha hr.pa hs) fun σ H Q ⟨Hf0, H0, Hf, ρ, ds, st, ef, k⟩ => ?_, fun ρ ds h => ?_⟩
  · obtain ⟨d, r, e1, e2, rfl⟩ := zh1 ef
    exact ⟨Hf0, H0, Hf, ρ, d, st, e1, fun v Hf1 H1 x1 r1 => ⟨Hf0, H0, Hf1, ρ, r, st.step x1, e2, fun vs Hf2 H2 x2 r2 => k _ Hf2 H2 (x1.trans x2) (.cons (r1.up x2.f) r2)⟩⟩
  · obtain ⟨d, r, e1, e2, rfl⟩ := zh1 h
    simp [hr.len ρ r e2]
theorem zdt : DAB c X [] (fun _ => some []) := ⟨PA.imp zdn fun σ H Q ⟨Hf0, H0, Hf, ρ, ds, st, ef, k⟩ => by cases ef; exact k [] Hf H (Ext.refl st.sub) rfl, fun ρ ds h => by cases h; rfl⟩
theorem zdv {f : List Sl -> Option D} {g : List Sl -> Option (List D)} (ha : DB c X e f) (hr : DAB c X es g) (hs : starEach (e :: es) X.env = (false, eval e X.env) :: starEach es X.env := by rfl) : DAB c X (e :: es) (zad f g) := by
  refine ⟨PA.imp (zcc ha hr.pa hs) fun σ H Q ⟨Hf0, H0, Hf, ρ, ds, st, ef, k⟩ => ?_, fun ρ ds h => ?_⟩
  · obtain ⟨d, r, e1, e2, rfl⟩ := zh1 ef
    exact ⟨Hf0, H0, Hf, ρ, d, st, e1, fun v Hf1 H1 x1 r1 => ⟨Hf0, H0, Hf1, ρ, r, st.step x1, e2, fun vs Hf2 H2 x2 r2 => k _ Hf2 H2 (x1.trans x2) (.cons (r1.up x2.h) r2)⟩⟩
  · obtain ⟨d, r, e1, e2, rfl⟩ := zh1 h
    simp [hr.len ρ r e2]
theorem zgq {f : List Sl -> Option (List D)} (h : DA c X es f) (hz : es.length <= 1000 := by exact Nat.le_of_ble_eq_true rfl) : DO c X (.List es pos) f := PE.imp (zk6 h.pa) fun σ H Q ⟨Hf0, H0, Hf, ρ, ds, st, ef, k⟩ =>
  ⟨Hf0, H0, Hf, ρ, ds, st, ef, fun vs Hf' H' x r => ⟨by
    rw [<- r.length, h.len ρ ds ef]
    exact Nat.le_of_lt (znc hz), fun p hp => k p vs Hf' (upd H' p (.lst vs)) (x.trans (Ext.tmp x.s hp)) (x.h.free hp) (x.s.free hp) zbp r⟩⟩
noncomputable def rD (G : Gc) (m : D -> D -> Option D) : R2 := fun vx vy H Q => ∃ Hf x y d, zae Hf H /\ Rep G Hf x vx /\ Rep G Hf y vy /\ m x y = some d /\ ∀ v Hf' H', Ext Hf H Hf' H' -> Rep G Hf' d v -> Q v H'
noncomputable abbrev OpD (c : Str -> Addr) (X : Cx) (f : Value -> Value -> Sem Value) (m : D -> D -> Option D) : Prop := OpR X f (rD (Gx c X) m)
noncomputable def m2 (m : D -> D -> Option D) (f g : List Sl -> Option D) (ρ : List Sl) : Option D := (f ρ).bind fun x => (g ρ).bind fun y => m x y
theorem zhf {m : D -> D -> Option D} {f g : List Sl -> Option D} {ρ : List Sl} {d : D} (h : m2 m f g ρ = some d) : ∃ x y, f ρ = some x /\ g ρ = some y /\ m x y = some d := by
  unfold m2 at h
  cases e1 : f ρ with
  | none => rw [e1] at h; cases h
  | some x =>
    cases e2 : g ρ with
    | none => rw [e1, e2] at h; cases h
    | some y => rw [e1, e2] at h; exact ⟨x, y, rfl, rfl, h⟩
theorem two {m : D -> D -> Option D} {f g : List Sl -> Option D} {r : R2} {σ : St} {H : Hp} {Q : VK} (hr : ∀ x y H Q, rD (Gx c X) m x y H Q -> r x y H Q) (h : tD (Gx c X) (m2 m f g) σ H Q) : tOp r (tD (Gx c X) f) (tD (Gx c X) g) σ H Q := by
  obtain ⟨Hf0, H0, Hf, ρ, d, st, ef, k⟩ := h
  obtain ⟨x, y, e1, e2, e3⟩ := zhf ef
  exact ⟨Hf0, H0, Hf, ρ, x, st, e1, fun v Hf1 H1 x1 r1 => ⟨Hf0, H0, Hf1, ρ, y, st.step x1, e2, fun u Hf2 H2 x2 r2 => hr _ _ _ _ ⟨Hf2, x, y, d, x2.s, r1.up x2.f, r2, e3, fun w Hf3 H3 x3 r3 => k w Hf3 H3 ((x1.trans x2).trans x3) r3⟩⟩⟩
theorem zmo {m : D -> D -> Option D} {f g : List Sl -> Option D} {r : R2} {σ : St} {H : Hp} {Q : VK} (hr : ∀ x y H Q, rD (Gx c X) m x y H Q -> r x y H Q) (hs : ∀ x y d, m x y = some d -> d.scalar = true) (h : tD (Gx c X) (m2 m f g) σ H Q) : tOp r (tDB (Gx c X) f) (tDB (Gx c X) g) σ H Q := by
  obtain ⟨Hf0, H0, Hf, ρ, d, st, ef, k⟩ := h
  obtain ⟨x, y, e1, e2, e3⟩ := zhf ef
  exact ⟨Hf0, H0, Hf, ρ, x, st, e1, fun v Hf1 H1 x1 r1 => ⟨Hf0, H0, Hf1, ρ, y, st.step x1, e2, fun u Hf2 H2 x2 r2 => hr _ _ _ _ ⟨H2, x, y, d, zae.refl _, r1.up x2.h, r2, e3, fun w Hf3 H3 x3 r3 =>
    k w Hf2 H3 ((x1.trans x2).trans (Ext.grow x2.s x3.h)) (r3.sc (hs _ _ _ e3))⟩⟩⟩
theorem zbj {op : Operator} {m : D -> D -> Option D} {f g : List Sl -> Option D} (ho : OpD c X (binaryOp op) m) (ha : DE c X a f) (hb : DE c X b g) : DE c X (.BinOp a op b pos) (m2 m f g) :=
  PE.imp (ziw ho ha hb) fun _ _ _ h => two (fun _ _ _ _ h => h) h
theorem zdz {op : CmpOp} {m : D -> D -> Option D} {f g : List Sl -> Option D} (ho : OpD c X (compareOp op) m) (hs : ∀ x y d, m x y = some d -> d.scalar = true) (ha : DB c X a f) (hb : DB c X b g) (hm : behindInMarks op b = false := by first | exact zjs _ | rfl) :
    DE c X (.Compare a [op] [b] pos) (m2 m f g) := PE.imp (zr7 ho ha hb hm) fun _ _ _ h => zmo (fun _ _ _ _ h => h) hs h
noncomputable def mB (f : List Sl -> Option D) (ρ : List Sl) : Option Bool := (f ρ).bind fun d => match d with
  | .bl b => some b
  | _ => none
theorem zhr {f : List Sl -> Option D} {ρ : List Sl} {b : Bool} (h : mB f ρ = some b) : f ρ = some (.bl b) := by
  unfold mB at h
  cases e : f ρ with
  | none => rw [e] at h; cases h
  | some d => rw [e] at h; cases d <;> cases h; rfl
theorem zcw {op : CmpOp} {m : D -> D -> Option D} {f g : List Sl -> Option D} (ho : OpD c X (compareOp op) m) (hs : ∀ x y d, m x y = some d -> d.scalar = true) (ha : DB c X a f) (hb : DB c X b g) (hm : behindInMarks op b = false := by first | exact zjs _ | rfl) :
    DT c X (.Compare a [op] [b] pos) (mB (m2 m f g)) := PT.imp (zkf ho ha hb hm) fun σ H Q ⟨Hf0, H0, Hf, ρ, b, st, ef, k⟩ =>
  zmo (fun _ _ _ _ h => h) hs ⟨Hf0, H0, Hf, ρ, .bl b, st, zhr ef, fun v Hf' H' x r => ⟨b, r, k Hf' H' x⟩⟩
noncomputable def zjv : D -> Option Bool
  | .non => some false
  | .bl b => some b
  | .int i => some (i != 0)
  | .str x => if x.length <= 16777216 then some ((x.length : Int) != 0) else none
  | .lst xs => some (!xs.isEmpty)
  | .tup xs => some (!xs.isEmpty)
  | .kl xs => some (!xs.isEmpty)
  | .kt xs => some (!xs.isEmpty)
  | .dic ks _ => some (!ks.isEmpty)
  | _ => none
theorem zab.empty {G : Gc} {H : Hp} {ds : List D} {vs : List V} (r : zab G H ds vs) : ds.isEmpty = vs.isEmpty := by
  cases ds with
  | nil => cases (show vs = [] from r); rfl
  | cons d ds => obtain ⟨v, r', e, _⟩ := r; subst e; rfl
theorem ztn {α β : Type} {ks : List α} {vs : List β} (h : ks.length = vs.length) : (ks.zip vs).isEmpty = ks.isEmpty := by
  cases ks <;> cases vs <;> first | rfl | cases h
theorem zrb {G : Gc} {H : Hp} {d : D} {v : V} {b : Bool} (e : zjv d = some b) (r : Rep G H d v) : zij G.K v H b := by
  cases d with
  | non => cases e; cases r; rfl
  | bl x => cases e; cases r; rfl
  | int i => cases e; cases r; rfl
  | str x =>
    cases r
    replace e : (if x.length <= 16777216 then some ((x.length : Int) != 0) else none) = some b := e
    split at e
    · rename_i hl
      cases e
      exact ⟨by rw [sizeLine_eq]; exact hl, rfl⟩
    · cases e
  | lst xs => cases e; obtain ⟨a, vs, e1, q, r⟩ := r; subst e1; exact .inl ⟨vs, SqL.of q, by rw [r.empty]⟩
  | tup xs => cases e; obtain ⟨a, vs, e1, q, r⟩ := r; subst e1; exact .inr (.inl ⟨vs, SqT.of q, by rw [r.empty]⟩)
  | kl xs => cases e; obtain ⟨a, vs, e1, q, r⟩ := r; subst e1; exact .inl ⟨vs, q, by rw [r.empty]⟩
  | kt xs => cases e; obtain ⟨a, vs, e1, q, r⟩ := r; subst e1; exact .inr (.inl ⟨vs, q, by rw [r.empty]⟩)
  | dic ks xs => cases e; obtain ⟨a, vs, e1, q, l, r⟩ := r; subst e1; exact .inr (.inr ⟨_, q, by rw [ztn l]⟩)
  | ins _ _ _ => cases e
  | kd _ _ => cases e
noncomputable def zc5 (f : List Sl -> Option D) (ρ : List Sl) : Option Bool := (f ρ).bind zjv
theorem zfk {f : List Sl -> Option D} (ha : DB c X a f) (he : ∀ whole, isTrue a X.env whole = (do let v <- whole; standAt a.pos; holding [v] (truthy v)) := by intro _; rfl) : DT c X a (zc5 f) :=
  PT.imp (zov ha he) fun σ H Q q_ => by
    obtain ⟨Hf0, H0, Hf, ρ, b, st, ef, k⟩ := q_
    unfold zc5 at ef
    cases ed : f ρ with
    | none => rw [ed] at ef; cases ef
    | some d =>
      rw [ed] at ef
      exact ⟨Hf0, H0, Hf, ρ, d, st, ed, fun v Hf' H' x r => ⟨b, zrb ef r, k Hf' H' x⟩⟩
noncomputable def zgh (f g : List Sl -> Option Bool) (ρ : List Sl) : Option Bool := (f ρ).bind fun b => if b then g ρ else some false
noncomputable def mOr (f g : List Sl -> Option Bool) (ρ : List Sl) : Option Bool := (f ρ).bind fun b => if b then some true else g ρ
noncomputable def zdb (f : List Sl -> Option Bool) (ρ : List Sl) : Option Bool := (f ρ).map not
theorem DW.dt {f : List Sl -> Option Bool} (h : DW c X e f) : DT c X e f := PW.pt h
theorem zqa {f : List Sl -> Option Bool} (h : DT c X a f) : DW c X (.BoolOp .Or [a] pos) f := zrh h
theorem zni {f g : List Sl -> Option Bool} {zav : List Expr} (h : DT c X a f) (h' : DW c X (.BoolOp .Or (b :: zav) pos) g) : DW c X (.BoolOp .Or (a :: b :: zav) pos) (mOr f g) := PW.imp (zp0 h h') fun σ H Q q_ => by
  obtain ⟨Hf0, H0, Hf, ρ, b, st, ef, k⟩ := q_
  unfold mOr at ef
  cases e1 : f ρ with
  | none => rw [e1] at ef; cases ef
  | some x =>
    rw [e1] at ef
    refine ⟨Hf0, H0, Hf, ρ, x, st, e1, fun Hf1 H1 x1 => ?_⟩
    cases x with
    | false => rw [if_neg Bool.false_ne_true]; exact ⟨Hf0, H0, Hf1, ρ, b, st.step x1, ef, fun Hf2 H2 x2 => k Hf2 H2 (x1.trans x2)⟩
    | true => cases ef; rw [if_pos rfl]; exact k Hf1 H1 x1
theorem zgo {f : List Sl -> Option Bool} (h : DT c X a f) : DT c X (.UnaryOp .Not a pos) (zdb f) := PT.imp (zou h) fun σ H Q q_ => by
  obtain ⟨Hf0, H0, Hf, ρ, b, st, ef, k⟩ := q_
  unfold zdb at ef
  cases e1 : f ρ with
  | none => rw [e1] at ef; cases ef
  | some x =>
    rw [e1] at ef
    cases ef
    exact ⟨Hf0, H0, Hf, ρ, x, st, e1, fun Hf1 H1 x1 => k Hf1 H1 x1⟩
noncomputable def zch (f g : List Sl -> Option D) (ρ : List Sl) : Option D := (mB f ρ).bind fun b => if b then g ρ else some (.bl false)
noncomputable def vOr (f g : List Sl -> Option D) (ρ : List Sl) : Option D := (mB f ρ).bind fun b => if b then some (.bl true) else g ρ
noncomputable def zf0 (f : List Sl -> Option D) (ρ : List Sl) : Option D := (mB f ρ).map fun b => .bl (!b)
theorem zdm {f : List Sl -> Option D} {op} (h : DE c X a f) : DE c X (.BoolOp op [a] pos) f := zuo h
theorem zdy {f g : List Sl -> Option D} {zav : List Expr} (h : DE c X a f) (h' : DE c X (.BoolOp .And (b :: zav) pos) g) : DE c X (.BoolOp .And (a :: b :: zav) pos) (zch f g) := PE.imp (zvh h h') fun σ H Q q_ => by
  obtain ⟨Hf0, H0, Hf, ρ, d, st, ef, k⟩ := q_
  unfold zch at ef
  cases e1 : mB f ρ with
  | none => rw [e1] at ef; cases ef
  | some x =>
    rw [e1] at ef
    refine ⟨Hf0, H0, Hf, ρ, .bl x, st, zhr e1, fun v Hf1 H1 x1 r1 => ⟨x, r1, ?_⟩⟩
    cases x with
    | true => rw [if_pos rfl]; exact ⟨Hf0, H0, Hf1, ρ, d, st.step x1, ef, fun v Hf2 H2 x2 r2 => k v Hf2 H2 (x1.trans x2) r2⟩
    | false => cases ef; rw [if_neg Bool.false_ne_true]; exact k _ Hf1 H1 x1 rfl
theorem zl5 {f g : List Sl -> Option D} {zav : List Expr} (h : DE c X a f) (h' : DE c X (.BoolOp .Or (b :: zav) pos) g) : DE c X (.BoolOp .Or (a :: b :: zav) pos) (vOr f g) := PE.imp (zpm h h') fun σ H Q q_ => by
  obtain ⟨Hf0, H0, Hf, ρ, d, st, ef, k⟩ := q_
  unfold vOr at ef
  cases e1 : mB f ρ with
  | none => rw [e1] at ef; cases ef
  | some x =>
    rw [e1] at ef
    refine ⟨Hf0, H0, Hf, ρ, .bl x, st, zhr e1, fun v Hf1 H1 x1 r1 => ⟨x, r1, ?_⟩⟩
    cases x with
    | false => rw [if_neg Bool.false_ne_true]; exact ⟨Hf0, H0, Hf1, ρ, d, st.step x1, ef, fun v Hf2 H2 x2 r2 => k v Hf2 H2 (x1.trans x2) r2⟩
    | true => cases ef; rw [if_pos rfl]; exact k _ Hf1 H1 x1 rfl
theorem zsq {f : List Sl -> Option D} (h : DE c X a f) : DE c X (.UnaryOp .Not a pos) (zf0 f) := PE.imp (zsk h) fun σ H Q q_ => by
  obtain ⟨Hf0, H0, Hf, ρ, d, st, ef, k⟩ := q_
  unfold zf0 at ef
  cases e1 : mB f ρ with
  | none => rw [e1] at ef; cases ef
  | some x =>
    rw [e1] at ef
    cases ef
    exact ⟨Hf0, H0, Hf, ρ, .bl x, st, zhr e1, fun v Hf1 H1 x1 r1 => ⟨x, r1, k _ Hf1 H1 x1 rfl⟩⟩
noncomputable def vIf (t : List Sl -> Option Bool) (f g : List Sl -> Option D) (ρ : List Sl) : Option D := (t ρ).bind fun b => if b then f ρ else g ρ
theorem zpc {t : List Sl -> Option Bool} {f g : List Sl -> Option D} {cd : Expr} (hc : DT c X cd t) (ha : DE c X a f) (hb : DE c X b g) : DE c X (.IfExp cd a b pos) (vIf t f g) := PE.imp (zo0 hc ha hb) fun σ H Q q_ => by
  obtain ⟨Hf0, H0, Hf, ρ, d, st, ef, k⟩ := q_
  unfold vIf at ef
  cases e1 : t ρ with
  | none => rw [e1] at ef; cases ef
  | some x =>
    rw [e1] at ef
    refine ⟨Hf0, H0, Hf, ρ, x, st, e1, fun Hf1 H1 x1 => ?_⟩
    cases x with
    | true => rw [if_pos rfl]; exact ⟨Hf0, H0, Hf1, ρ, d, st.step x1, ef, fun v Hf2 H2 x2 r => k v Hf2 H2 (x1.trans x2) r⟩
    | false => rw [if_neg Bool.false_ne_true]; exact ⟨Hf0, H0, Hf1, ρ, d, st.step x1, ef, fun v Hf2 H2 x2 r => k v Hf2 H2 (x1.trans x2) r⟩
end
end L2
namespace L2
open PySem PySem.Spec PyProof.Rows
noncomputable instance {i j : Int} : Decidable (zgg i j) := by unfold zgg; infer_instance
noncomputable instance {i j : Int} : Decidable (zgn i j) := by unfold zgn; infer_instance
noncomputable instance {i j : Int} : Decidable (zek i j) := by unfold zek; infer_instance
noncomputable def dI (C : Int -> Int -> Prop) [∀ i j, Decidable (C i j)] (g : Int -> Int -> D) : D -> D -> Option D
  | .int i, .int j => if C i j then some (g i j) else none
  | _, _ => none
noncomputable def dI0 (g : Int -> Int -> D) : D -> D -> Option D
  | .int i, .int j => some (g i j)
  | _, _ => none
noncomputable def zbg : D -> D -> Option D
  | .int i, .int j => some (.int (i + j))
  | .str a, .str b => if a.length + b.length <= 16777216 then some (.str (a ++ b)) else none
  | .lst a, .lst b => if a.length + b.length <= 16777216 then some (.lst (a ++ b)) else none
  | _, _ => none
noncomputable abbrev zhs : D -> D -> Option D := dI0 fun i j => .int (i - j)
noncomputable abbrev zsc : D -> D -> Option D := dI zek fun i j => .int (i * j)
noncomputable abbrev ziq : D -> D -> Option D := dI zgg fun i j => .int (i / j)
noncomputable abbrev zf3 : D -> D -> Option D := dI (fun _ j => 0 < j) fun i j => .int (i % j)
noncomputable abbrev zg3 : D -> D -> Option D := dI zgn fun i j => .int (i ^ j.toNat)
noncomputable abbrev ztt : D -> D -> Option D := dI (fun _ j => 0 <= j) fun i j => .int (i / 2 ^ j.toNat)
noncomputable abbrev zr6 : D -> D -> Option D := dI0 fun i j => .int (Builtin.bitAnd i j)
noncomputable abbrev dLt : D -> D -> Option D := dI0 fun i j => .bl (decide (i < j))
noncomputable abbrev dLe : D -> D -> Option D := dI0 fun i j => .bl (decide (i <= j))
noncomputable abbrev dGt : D -> D -> Option D := dI0 fun i j => .bl (decide (j < i))
noncomputable abbrev dGe : D -> D -> Option D := dI0 fun i j => .bl (decide (j <= i))
section
variable {c : Str -> Addr} {X : Cx}
theorem zg6 {f : Value -> Value -> Sem Value} {C : Int -> Int -> Prop} [∀ i j, Decidable (C i j)] {g : Int -> Int -> V} {gd : Int -> Int -> D} (h : OpR X f (rI C g)) (hg : ∀ G H i j, Rep G H (gd i j) (g i j)) : OpD c X f (dI C gd) := by
  rintro pins s σ H vx vy v u Q I rx ry ⟨Hf, x, y, d, s0, r1, r2, e, k⟩
  unfold dI at e
  split at e
  · split at e
    · rename_i hc
      cases e
      exact h pins s σ H vx vy v u Q I rx ry ⟨_, _, r1, r2, hc, k _ Hf H (Ext.refl s0) (hg _ _ _ _)⟩
    · cases e
  · cases e
theorem zh9 {f : Value -> Value -> Sem Value} {g : Int -> Int -> V} {gd : Int -> Int -> D} (h : OpR X f (rI0 g)) (hg : ∀ G H i j, Rep G H (gd i j) (g i j)) : OpD c X f (dI0 gd) := by
  rintro pins s σ H vx vy v u Q I rx ry ⟨Hf, x, y, d, s0, r1, r2, e, k⟩
  unfold dI0 at e
  split at e
  · cases e
    exact h pins s σ H vx vy v u Q I rx ry ⟨_, _, r1, r2, k _ Hf H (Ext.refl s0) (hg _ _ _ _)⟩
  · cases e
theorem zcg : OpD c X (binaryOp .Add) zbg := by
  rintro pins s σ H vx vy v u Q I rx ry ⟨Hf, x, y, d, s0, r1, r2, e, k⟩
  unfold zbg at e
  split at e
  · cases e
    exact zsi pins s σ H vx vy v u Q I rx ry ⟨_, _, r1, r2, k _ Hf H (Ext.refl s0) rfl⟩
  · split at e
    · rename_i hl
      cases e
      exact zqk pins s σ H vx vy v u Q I rx ry ⟨_, _, r1, r2, by rw [sizeLine_eq]; exact hl, k _ Hf H (Ext.refl s0) rfl⟩
    · cases e
  · split at e
    · rename_i hl
      cases e
      obtain ⟨a, vs, e1, q1, r1⟩ := r1
      obtain ⟨b, us, e2, q2, r2⟩ := r2
      exact zmh pins s σ H vx vy v u Q I rx ry ⟨a, b, vs, us, e1, e2, s0 _ _ q1, s0 _ _ q2, by rw [sizeLine_eq, <- r1.length, <- r2.length]; exact hl,
        fun p hp => k _ (upd Hf p (.lst (vs ++ us))) (upd H p (.lst (vs ++ us))) (Ext.new s0 hp) ⟨p, _, rfl, zbp, (r1.append r2).up (zc6 (s0.free hp))⟩⟩
    · cases e
  · cases e
theorem zm3 : OpD c X (binaryOp .Sub) zhs := zh9 zq7 fun _ _ _ _ => rfl
theorem zq2 : OpD c X (binaryOp .FloorDiv) ziq := zg6 zts fun _ _ _ _ => rfl
theorem zi2 : OpD c X (binaryOp .Mod) zf3 := zg6 zt7 fun _ _ _ _ => rfl
theorem zlc : OpD c X (binaryOp .Pow) zg3 := zg6 zr9 fun _ _ _ _ => rfl
theorem zgw : OpD c X (compareOp .LtE) dLe := zh9 zu1 fun _ _ _ _ => rfl
theorem zrq : OpD c X (compareOp .Gt) dGt := zh9 zqr fun _ _ _ _ => rfl
theorem zl2 {g : Int -> Int -> D} (hg : ∀ i j, (g i j).scalar = true) : ∀ x y d, dI0 g x y = some d -> d.scalar = true := by
  intro x y d e
  unfold dI0 at e
  split at e
  · cases e; exact hg _ _
  · cases e
theorem zg2 : ∀ x y d, dLe x y = some d -> d.scalar = true := zl2 fun _ _ => rfl
theorem zra : ∀ x y d, dGt x y = some d -> d.scalar = true := zl2 fun _ _ => rfl
noncomputable def zg1 : D -> Option D
  | .int i => some (.int (-i))
  | _ => none
noncomputable def m1 (m : D -> Option D) (f : List Sl -> Option D) (ρ : List Sl) : Option D := (f ρ).bind m
theorem zm6 {a : Expr} {f : List Sl -> Option D} {pos : Pos} (ha : DE c X a f) : DE c X (.UnaryOp .USub a pos) (m1 zg1 f) := PE.imp (zt6 ztm ha) fun σ H Q q_ => by
  obtain ⟨Hf0, H0, Hf, ρ, d, st, ef, k⟩ := q_
  unfold m1 at ef
  cases e1 : f ρ with
  | none => rw [e1] at ef; cases ef
  | some y =>
    rw [e1] at ef
    cases y with
    | int i => cases ef; exact ⟨Hf0, H0, Hf, ρ, .int i, st, e1, fun v Hf' H' x r => ⟨i, r, k _ Hf' H' x rfl⟩⟩
    | _ => cases ef
theorem zmb {x : Option Bool} {g : Bool -> Bool} : ∀ d, x.map (fun b => D.bl (g b)) = some d -> d.scalar = true := by
  intro d e
  cases x with
  | none => cases e
  | some b => cases e; rfl
noncomputable def eqF : D -> D -> Bool
  | .non, .non => true
  | .bl a, .bl b => a == b
  | .int a, .int b => a == b
  | .str a, .str b => a == b
  | _, _ => false
noncomputable def zb3 (f : D -> D -> Option Bool) : List D -> List D -> Option Bool
  | [], [] => some true
  | x :: xs, y :: ys => (f x y).bind fun b => (zb3 f xs ys).map fun r => b && r
  | _, _ => some false
noncomputable def zih : D -> D -> Bool
  | .bl _, .int _ => true
  | .int _, .bl _ => true
  | _, _ => false
noncomputable def zjj (f : D -> D -> Option Bool) : D -> D -> Option Bool
  | .lst xs, .lst ys => if xs.length = ys.length then zb3 f xs ys else some false
  | .tup xs, .tup ys => if xs.length = ys.length then zb3 f xs ys else none
  | x, y => if x.scalar && y.scalar && !zih x y then some (eqF x y) else none
noncomputable def deq : Nat -> D -> D -> Option Bool
  | 0, _, _ => none
  | n + 1, x, y => zjj (deq n) x y
noncomputable def dEq (x y : D) : Option D := (deq 20 x y).map .bl
noncomputable def dNe (x y : D) : Option D := (deq 20 x y).map fun b => .bl (!b)
theorem zb8 : ∀ x y d, dEq x y = some d -> d.scalar = true := fun _ _ d e => zmb (g := id) d e
theorem zlz {f : D -> D -> Option Bool} {x y : D} {xs ys : List D} {b : Bool} (h : zb3 f (x :: xs) (y :: ys) = some b) : ∃ b1 b2, f x y = some b1 /\ zb3 f xs ys = some b2 /\ b = (b1 && b2) := by
  unfold zb3 at h
  cases e1 : f x y with
  | none => rw [e1] at h; cases h
  | some b1 =>
    cases e2 : zb3 f xs ys with
    | none => rw [e1, e2] at h; cases h
    | some b2 => rw [e1, e2] at h; cases h; exact ⟨b1, b2, rfl, rfl, rfl⟩
theorem zgp {f : D -> D -> Option Bool} : ∀ {xs ys : List D} {b : Bool}, xs.length = ys.length -> zb3 f xs ys = some b -> ∃ e : Nat -> Bool, (∀ j x y, xs[j]? = some x -> ys[j]? = some y -> f x y = some (e j)) /\ (List.range xs.length).all e = b
  | [], [], b, _, h => by cases h; exact ⟨fun _ => true, fun j x y e => by simp at e, rfl⟩
  | x :: xs, y :: ys, b, hl, h => by
    obtain ⟨b1, b2, h1, h2, rfl⟩ := zlz h
    obtain ⟨e, he, ha⟩ := zgp (by simpa using hl) h2
    refine ⟨fun j => match j with | 0 => b1 | j + 1 => e j, fun j x' y' ex ey => ?_, ?_⟩
    · cases j with
      | zero => simp at ex ey; subst ex ey; exact h1
      | succ j => exact he j x' y' (by simpa using ex) (by simpa using ey)
    · rw [List.length_cons, List.range_succ_eq_map, List.all_cons, List.all_map, <- ha]
      rfl
  | [], _ :: _, _, hl, _ => by cases hl
  | _ :: _, [], _, hl, _ => by cases hl
theorem ziz {G : Gc} {H : Hp} {x y : D} {v u : V} (hs : (x.scalar && y.scalar && !zih x y) = true) (r1 : Rep G H x v) (r2 : Rep G H y u) : zbu v = true /\ zbu u = true /\ eqV v u = eqF x y /\ zkk v u = true /\ decide (v = u) = eqF x y := by
  cases x <;> first
    | (cases hs; done)
    | (cases y <;> first
      | (cases hs; done)
      | (cases r1; cases r2; refine ⟨rfl, rfl, rfl, rfl, ?_⟩; first | exact zne | exact znr | exact zkm | rfl))
theorem ziy {n : Nat} {x y : D} {b : Bool} (hs : ¬ (∃ xs ys, x = .lst xs /\ y = .lst ys) /\ ¬ (∃ xs ys, x = .tup xs /\ y = .tup ys)) (h : deq (n + 1) x y = some b) : (x.scalar && y.scalar && !zih x y) = true /\ b = eqF x y := by
  replace h : zjj (deq n) x y = some b := h
  unfold zjj at h
  split at h
  · exact absurd ⟨_, _, rfl, rfl⟩ hs.1
  · exact absurd ⟨_, _, rfl, rfl⟩ hs.2
  · split at h
    · rename_i hc
      cases h
      exact ⟨hc, rfl⟩
    · cases h
theorem znu {G : Gc} {H : Hp} : ∀ (n : Nat) {x y : D} {b : Bool} {v : V}, deq n x y = some b -> Rep G H x v -> Rep G H y v -> b = true := by
  intro n
  induction n with
  | zero => intro x y b v h; cases h
  | succ n ih =>
    have all : ∀ (xs ys : List D) (vs : List V) (b : Bool), zab G H xs vs -> zab G H ys vs -> zb3 (deq n) xs ys = some b -> b = true := by
      intro xs
      induction xs with
      | nil =>
        intro ys vs b r1 r2 h
        cases (show vs = [] from r1)
        have : ys = [] := List.length_eq_zero_iff.mp r2.length
        subst this
        cases h; rfl
      | cons x xs ihx =>
        intro ys vs b r1 r2 h
        obtain ⟨v, r, e, h1, h2⟩ := r1
        subst e
        cases ys with
        | nil => cases (show v :: r = [] from r2)
        | cons y ys =>
          obtain ⟨v', r', e, h1', h2'⟩ := r2
          cases e
          obtain ⟨b1, b2, e1, e2, rfl⟩ := zlz h
          rw [ih e1 h1 h1', ihx ys _ b2 h2 h2' e2]
          rfl
    intro x y b v h r1 r2
    by_cases hl : ∃ xs ys, x = .lst xs /\ y = .lst ys
    · obtain ⟨xs, ys, rfl, rfl⟩ := hl
      obtain ⟨a, vs, e, q, r1⟩ := r1
      obtain ⟨a', vs', e', q', r2⟩ := r2
      subst e; cases e'
      rw [q] at q'; cases q'
      have hlen : xs.length = ys.length := r1.length.trans r2.length.symm
      replace h : (if xs.length = ys.length then zb3 (deq n) xs ys else some false) = some b := h
      rw [if_pos hlen] at h
      exact all xs ys vs b r1 r2 h
    · by_cases ht : ∃ xs ys, x = .tup xs /\ y = .tup ys
      · obtain ⟨xs, ys, rfl, rfl⟩ := ht
        obtain ⟨a, vs, e, q, r1⟩ := r1
        obtain ⟨a', vs', e', q', r2⟩ := r2
        subst e; cases e'
        rw [q] at q'; cases q'
        have hlen : xs.length = ys.length := r1.length.trans r2.length.symm
        replace h : (if xs.length = ys.length then zb3 (deq n) xs ys else none) = some b := h
        rw [if_pos hlen] at h
        exact all xs ys vs b r1 r2 h
      · obtain ⟨hs, rfl⟩ := ziy ⟨hl, ht⟩ h
        obtain ⟨_, _, _, _, e⟩ := ziz hs r1 r2
        rw [<- e]
        exact decide_eq_true rfl
section
variable {pins : List (Addr × Obj)} {σ : St} {H : Hp} {s : Shared}
theorem zh0 {G : Gc} {xs ys : List D} {vs us : List V} {its its2 : List Value} {n : Nat} {A : Around} {e : Nat -> Bool} (r1 : zab G H xs vs) (r2 : zab G H ys us) (r : zaf vs its) (r' : zaf us its2)
    (he : ∀ j x y, xs[j]? = some x -> ys[j]? = some y -> deq n x y = some (e j))
    (ih : ∀ {x y : D} {b : Bool} {v u : V} {w w' : Value}, deq n x y = some b -> Rep G H x v -> Rep G H y u -> zag v w -> zag u w' -> SeqAt.EqAt A s w w' b) :
    ∀ j (h1 : j < its.toArray.size) (h2 : j < its2.toArray.size), SeqAt.EqAt A s its.toArray[j] its2.toArray[j] (e j) := fun j h1 h2 => by
  have h1' : j < its.length := by simpa using h1
  have h2' : j < its2.length := by simpa using h2
  obtain ⟨v, ev, rv⟩ := r.at' (i := j) (u := its[j]) (by simp [h1'])
  obtain ⟨u, eu, ru⟩ := r'.at' (i := j) (u := its2[j]) (by simp [h2'])
  obtain ⟨x, ex, rx⟩ := r1.get' ev
  obtain ⟨y, ey, ry⟩ := r2.get' eu
  exact ih (he j x y ex ey) rx ry rv ru
theorem ztu (I : Inv X pins σ H s) : ∀ (n : Nat) {A : Around} {x y : D} {b : Bool} {v u : V} {w w' : Value}, A.units + n < cLine -> deq n x y = some b -> Rep (Gx c X) H x v -> Rep (Gx c X) H y u -> zag v w -> zag u w' -> SeqAt.EqAt A s w w' b := by
  intro n
  induction n with
  | zero => intro A x y b v u w w' _ h; cases h
  | succ n ih =>
    intro A x y b v u w w' hu h r1 r2 rv ru
    have hin : ∀ {x y : D} {b : Bool} {v u : V} {w w' : Value}, deq n x y = some b -> Rep (Gx c X) H x v -> Rep (Gx c X) H y u -> zag v w -> zag u w' -> SeqAt.EqAt A.in1 s w w' b := fun h a b c d => ih (by rw [Around.in1_units]; omega) h a b c d
    by_cases hl : ∃ xs ys, x = .lst xs /\ y = .lst ys
    · obtain ⟨xs, ys, rfl, rfl⟩ := hl
      obtain ⟨a, vs, e, q, rs1⟩ := id r1
      obtain ⟨a', vs', e', q', rs2⟩ := id r2
      subst e e'
      cases rv; cases ru
      by_cases hab : a = a'
      · subst hab
        have := znu (n + 1) h (show Rep (Gx c X) H (.lst xs) (.ref a) from ⟨a, vs, rfl, q, rs1⟩) ⟨a, vs', rfl, q', rs2⟩
        subst this
        exact SeqAt.EqAt.same _
      · refine SeqAt.EqAt.of_refs hab ?_
        obtain ⟨its, rr, pl, hz⟩ := I.list (SqL.of (K := X.K) q)
        obtain ⟨its2, rr2, pl2, hz2⟩ := I.list (SqL.of (K := X.K) q')
        have l1 := rr.length
        have l2 := rr2.length
        have l3 := rs1.length
        have l4 := rs2.length
        replace h : (if xs.length = ys.length then zb3 (deq n) xs ys else some false) = some b := h
        split at h
        · rename_i hlen
          obtain ⟨ee, he, ha⟩ := zgp hlen h
          have := SeqAt.RcAt.lists (A := A) (s := s) pl.isList pl2.isList (by simp only [List.size_toArray]; omega) (by omega) (zh0 (A := A.in1) (s := s) rs1 rs2 rr rr2 he hin)
          rw [List.size_toArray, <- l1, <- l3, ha] at this
          exact this
        · rename_i hlen
          cases h
          exact SeqAt.RcAt.lists_lengths (A := A) (s := s) pl.isList pl2.isList (by simp only [List.size_toArray, bne_iff_ne, ne_eq]; omega) (by omega)
    · by_cases ht : ∃ xs ys, x = .tup xs /\ y = .tup ys
      · obtain ⟨xs, ys, rfl, rfl⟩ := ht
        obtain ⟨a, vs, e, q, rs1⟩ := id r1
        obtain ⟨a', vs', e', q', rs2⟩ := id r2
        subst e e'
        cases rv; cases ru
        by_cases hab : a = a'
        · subst hab
          have := znu (n + 1) h (show Rep (Gx c X) H (.tup xs) (.ref a) from ⟨a, vs, rfl, q, rs1⟩) ⟨a, vs', rfl, q', rs2⟩
          subst this
          exact SeqAt.EqAt.same _
        · refine SeqAt.EqAt.of_refs hab ?_
          obtain ⟨its, rr, pl, hz⟩ := I.tuple (SqT.of (K := X.K) q)
          obtain ⟨its2, rr2, pl2, hz2⟩ := I.tuple (SqT.of (K := X.K) q')
          have l1 := rr.length
          have l2 := rr2.length
          have l3 := rs1.length
          have l4 := rs2.length
          replace h : (if xs.length = ys.length then zb3 (deq n) xs ys else none) = some b := h
          split at h
          · rename_i hlen
            obtain ⟨ee, he, ha⟩ := zgp hlen h
            have := SeqAt.RcAt.tuples (A := A) (s := s) (show s.heap.IsTuple a its.toArray from pl) (show s.heap.IsTuple a' its2.toArray from pl2) (by omega) (zh0 (A := A.in1) (s := s) rs1 rs2 rr rr2 he hin)
            have hsz : its.toArray.size = its2.toArray.size := by simp only [List.size_toArray]; omega
            rw [<- hsz, Nat.min_self, beq_self_eq_true, Bool.and_true, List.size_toArray, <- l1, <- l3, ha] at this
            exact this
          · cases h
      · obtain ⟨hs, rfl⟩ := ziy ⟨hl, ht⟩ h
        obtain ⟨f1, f2, e, _, _⟩ := ziz hs r1 r2
        rw [<- e]
        exact zmz rv ru f1 f2
end
theorem zbw (hu : X.A.units + 64 < cLine) : OpD c X (compareOp .Eq) dEq := by
  rintro pins s σ H v u w w' Q I rv ru ⟨Hf, x, y, d, s0, r1, r2, e, k⟩
  unfold dEq at e
  cases h : deq 20 x y with
  | none => rw [h] at e; cases e
  | some b =>
    rw [h] at e
    cases e
    have q0 := k (.bl b) Hf H (Ext.refl s0) rfl
    have fin : EP X pins σ Q (.bool b) s := ⟨.bl b, H, I, rfl, q0⟩
    have r1 := r1.up s0
    have r2 := r2.up s0
    have hin : ∀ {x y : D} {b : Bool} {v u : V} {w w' : Value}, deq 19 x y = some b -> Rep (Gx c X) H x v -> Rep (Gx c X) H y u -> zag v w -> zag u w' -> SeqAt.EqAt X.A.in1 s w w' b := fun h a b c d => ztu I 19 (by rw [Around.in1_units]; omega) h a b c d
    by_cases hl : ∃ xs ys, x = .lst xs /\ y = .lst ys
    · obtain ⟨xs, ys, rfl, rfl⟩ := hl
      obtain ⟨a, vs, e, q, rs1⟩ := id r1
      obtain ⟨a', vs', e', q', rs2⟩ := id r2
      subst e e'
      cases rv; cases ru
      obtain ⟨its, rr, pl, hz⟩ := I.list (SqL.of (K := X.K) q)
      obtain ⟨its2, rr2, pl2, hz2⟩ := I.list (SqL.of (K := X.K) q')
      have l1 := rr.length
      have l2 := rr2.length
      have l3 := rs1.length
      have l4 := rs2.length
      replace h : (if xs.length = ys.length then zb3 (deq 19) xs ys else some false) = some b := h
      split at h
      · rename_i hlen
        obtain ⟨ee, he, ha⟩ := zgp hlen h
        refine SeqAt.eq_listAt pl.isList pl2.isList (by simp only [List.size_toArray]; omega) (by omega) (zh0 rs1 rs2 rr rr2 he hin) ?_
        rw [List.size_toArray, <- l1, <- l3, ha]
        exact fin
      · rename_i hlen
        cases h
        exact SeqAt.eq_list_lengthsAt pl.isList pl2.isList (by simp only [List.size_toArray, bne_iff_ne, ne_eq]; omega) (by omega) fin
    · by_cases ht : ∃ xs ys, x = .tup xs /\ y = .tup ys
      · obtain ⟨xs, ys, rfl, rfl⟩ := ht
        obtain ⟨a, vs, e, q, rs1⟩ := id r1
        obtain ⟨a', vs', e', q', rs2⟩ := id r2
        subst e e'
        cases rv; cases ru
        obtain ⟨its, rr, pl, hz⟩ := I.tuple (SqT.of (K := X.K) q)
        obtain ⟨its2, rr2, pl2, hz2⟩ := I.tuple (SqT.of (K := X.K) q')
        have l1 := rr.length
        have l2 := rr2.length
        have l3 := rs1.length
        have l4 := rs2.length
        replace h : (if xs.length = ys.length then zb3 (deq 19) xs ys else none) = some b := h
        split at h
        · rename_i hlen
          obtain ⟨ee, he, ha⟩ := zgp hlen h
          refine SeqAt.eq_tupleAt (show s.heap.IsTuple a its.toArray from pl) (show s.heap.IsTuple a' its2.toArray from pl2) (by omega) (zh0 rs1 rs2 rr rr2 he hin) ?_
          have hsz : its.toArray.size = its2.toArray.size := by simp only [List.size_toArray]; omega
          rw [<- hsz, Nat.min_self, beq_self_eq_true, Bool.and_true, List.size_toArray, <- l1, <- l3, ha]
          exact fin
        · cases h
      · obtain ⟨hs, rfl⟩ := ziy ⟨hl, ht⟩ h
        obtain ⟨_, _, _, hsc, e⟩ := ziz hs r1 r2
        exact zoa pins s σ H v u w w' Q I rv ru ⟨hsc, by rw [e]; exact q0⟩
noncomputable def eqX : D -> D -> Bool
  | .non, .non => true
  | .bl a, .bl b => a == b
  | .bl a, .int b => (if a then 1 else 0) == b
  | .int a, .bl b => a == (if b then 1 else 0)
  | .int a, .int b => a == b
  | .str a, .str b => a == b
  | _, _ => false
noncomputable def inD (x y : D) : Option Bool := (zeq y).bind fun ds => if x.scalar && ds.all D.scalar then some (ds.any fun d => eqX d x) else none
noncomputable def zev (x y : D) : Option D := (inD x y).map fun b => .bl (!b)
theorem zn8 : ∀ x y d, zev x y = some d -> d.scalar = true := fun _ _ d e => zmb (g := not) d e
theorem zqh {G : Gc} {H : Hp} {x y : D} {v u : V} (hx : x.scalar = true) (hy : y.scalar = true) (r1 : Rep G H x v) (r2 : Rep G H y u) : zbu v = true /\ zbu u = true /\ eqV v u = eqX x y := by
  cases x <;> first
    | (cases hx; done)
    | (cases y <;> first
      | (cases hy; done)
      | (cases r1; cases r2; exact ⟨rfl, rfl, rfl⟩))
theorem zn2 {G : Gc} {H : Hp} {x : D} {v : V} (hx : x.scalar = true) (r : Rep G H x v) : ∀ {ds : List D} {vs : List V}, ds.all D.scalar = true -> zab G H ds vs -> vs.all zbu = true /\ inV v vs = ds.any fun d => eqX d x
  | [], _, _, h => by cases (show _ = [] from h); exact ⟨rfl, rfl⟩
  | d :: ds, _, ha, ⟨u, r', e, h1, h2⟩ => by
    subst e
    rw [List.all_cons, Bool.and_eq_true] at ha
    obtain ⟨f1, f2, e⟩ := zqh ha.1 hx h1 r
    obtain ⟨g1, g2⟩ := zn2 hx r ha.2 h2
    refine ⟨by rw [List.all_cons, f1, g1]; rfl, ?_⟩
    unfold inV at g2 ⊢
    rw [List.any_cons, List.any_cons, e, g2]
theorem zok {G : Gc} {H : Hp} {x y : D} {v u : V} {b : Bool} (e : inD x y = some b) (r1 : Rep G H x v) (r2 : Rep G H y u) : ∃ p vs, u = .ref p /\ (SqL G.K H p vs \/ SqT G.K H p vs) /\ zbu v = true /\ vs.all zbu = true /\ inV v vs = b := by
  unfold inD at e
  cases es : zeq y with
  | none => rw [es] at e; cases e
  | some ds =>
    rw [es] at e
    replace e : (if (x.scalar && ds.all D.scalar) = true then some (ds.any fun d => eqX d x) else none) = some b := e
    split at e
    · rename_i hc
      cases e
      rw [Bool.and_eq_true] at hc
      obtain ⟨a, vs, e1, q, r⟩ := zk4 es r2
      obtain ⟨g1, g2⟩ := zn2 hc.1 r1 hc.2 r
      have f : zbu v = true := by cases x <;> first | (cases r1; rfl) | (cases hc.1)
      exact ⟨a, vs, e1, q, f, g1, g2⟩
    · cases e
theorem zki : OpD c X (compareOp .NotIn) zev := by
  rintro pins s σ H v u w w' Q I rv ru ⟨Hf, x, y, d, s0, r1, r2, e, k⟩
  unfold zev at e
  cases h : inD x y with
  | none => rw [h] at e; cases e
  | some b =>
    rw [h] at e
    cases e
    obtain ⟨p, vs, e1, q, f1, f2, e2⟩ := zok h (r1.up s0) (r2.up s0)
    refine zr1 pins s σ H v u w w' Q I rv ru ⟨p, vs, e1, q, f1, f2, ?_⟩
    rw [if_pos rfl, e2]
    exact k _ Hf H (Ext.refl s0) rfl
end
end L2
namespace L2
open PySem PySem.Spec PyProof.Rows
section
variable {c : Str -> Addr} {X : Cx} {e a b o : Expr} {es : List Expr} {pos p apos : Pos}
theorem zin {G : Gc} {H : Hp} {ds : List D} {vs : List V} {i : Int} {d : D} (h : atI ds i = some d) (r : zab G H ds vs) : ∃ v, atI vs i = some v /\ Rep G H d v := by
  unfold atI at h ⊢
  rw [<- r.length]
  cases e : ixN ds.length i with
  | none => rw [e] at h; cases h
  | some j =>
    rw [e] at h
    exact r.get h
noncomputable def ixD (ds : List D) : D -> Option D
  | .int k => atI ds k
  | _ => none
noncomputable def mIx (f : List Sl -> Option (List D)) (g : List Sl -> Option D) (ρ : List Sl) : Option D := (f ρ).bind fun ds => (g ρ).bind fun i => ixD ds i
theorem zmm {f : List Sl -> Option (List D)} {g : List Sl -> Option D} (ha : DC c X a f) (hb : DE c X b g) (hs : zjm b := by exact fun _ _ => rfl) : DE c X (.Subscript a b pos) (mIx f g) :=
  PE.imp (znw (zlo.or zlv) ha hb hs) fun σ H Q q_ => by
    obtain ⟨Hf0, H0, Hf, ρ, d, st, ef, k⟩ := q_
    unfold mIx at ef
    cases e1 : f ρ with
    | none => rw [e1] at ef; cases ef
    | some ds =>
      cases e2 : g ρ with
      | none => rw [e1, e2] at ef; cases ef
      | some i =>
        rw [e1, e2] at ef
        replace ef : ixD ds i = some d := ef
        cases i with
        | int n =>
          replace ef : atI ds n = some d := ef
          refine ⟨Hf0, H0, Hf, ρ, ds, st, e1, fun l vs Hf1 H1 x1 q r => ⟨Hf0, H0, Hf1, ρ, .int n, st.step x1, e2, fun u Hf2 H2 x2 r2 => ?_⟩⟩
          cases (show u = V.int n from r2)
          obtain ⟨v, ev, rv⟩ := zin ef r
          have fin := k v Hf2 H2 (x1.trans x2) (rv.up x2.f)
          rcases q with q | q
          · exact .inl ⟨l, vs, n, v, rfl, rfl, x2.h.seq q, ev, fin⟩
          · exact .inr ⟨l, vs, n, v, rfl, rfl, x2.h.tup q, ev, fin⟩
        | _ => cases ef
noncomputable def zer (xs : List D) (lo hi : Option Int) : List D := (xs.drop (HT.sIx xs.length 0 lo)).take (HT.sIx xs.length xs.length hi - HT.sIx xs.length 0 lo)
noncomputable def lsD : D -> Option (List D)
  | .lst xs => some xs
  | .kl xs => some xs
  | _ => none
theorem zjh {G : Gc} {H : Hp} {d : D} {v : V} {ds : List D} (e : lsD d = some ds) (r : Rep G H d v) : ∃ a vs, v = .ref a /\ SqL G.K H a vs /\ zab G H ds vs := by
  cases d with
  | lst xs => cases e; obtain ⟨a, vs, e1, q, r⟩ := r; exact ⟨a, vs, e1, SqL.of q, r⟩
  | kl xs => cases e; obtain ⟨a, vs, e1, q, r⟩ := r; exact ⟨a, vs, e1, q, r⟩
  | _ => cases e
noncomputable def zpw (G : Gc) (f : List Sl -> Option (Option Int)) : TO := fun σ H Q => ∃ Hf0 H0 Hf ρ i, zac G Hf0 H0 Hf H σ ρ /\ f ρ = some i /\ ∀ Hf' H', Ext Hf H Hf' H' -> Q i H'
noncomputable def DPt (c : Str -> Addr) (X : Cx) (e : Option Expr) (f : List Sl -> Option (Option Int)) : Prop := PO X e (zpw (Gx c X) f)
theorem zde : DPt c X none (fun _ => some none) := fun pins s σ H Q I q_ => by
  obtain ⟨Hf0, H0, Hf, ρ, i, st, ef, k⟩ := q_
  exact (zk2 pins s σ H Q I (by cases ef; exact k Hf H (Ext.refl st.sub)))
noncomputable def mPt (f : List Sl -> Option D) (ρ : List Sl) : Option (Option Int) := (f ρ).bind fun d => match d with
  | .int i => some (some i)
  | _ => none
theorem zdk {f : List Sl -> Option D} (h : DE c X e f) : DPt c X (some e) (mPt f) := fun pins s σ H Q I q_ => by
  obtain ⟨Hf0, H0, Hf, ρ, i, st, ef, k⟩ := q_
  exact (zk7 h pins s σ H Q I (by
  unfold mPt at ef
  cases e1 : f ρ with
  | none => rw [e1] at ef; cases ef
  | some d =>
    rw [e1] at ef
    cases d with
    | int n => cases ef; exact ⟨Hf0, H0, Hf, ρ, .int n, st, e1, fun v Hf' H' x r => ⟨n, r, k Hf' H' x⟩⟩
    | _ => cases ef))
noncomputable def mSl (f : List Sl -> Option D) (l h : List Sl -> Option (Option Int)) (ρ : List Sl) : Option (List D) := (f ρ).bind fun d => (lsD d).bind fun ds => (l ρ).bind fun lo => (h ρ).map fun hi => zer ds lo hi
theorem zvd {G : Gc} {H : Hp} {ds : List D} {vs : List V} (r : zab G H ds vs) (lo hi : Option Int) : zab G H (zer ds lo hi) (zd1 vs lo hi) := by
  unfold zer zd1
  rw [r.length]
  exact (r.drop _).take _
theorem zsg {f : List Sl -> Option D} {l h : List Sl -> Option (Option Int)} {lo hi : Option Expr} {p2 : Pos} (ha : DE c X e f) (hl : DPt c X lo l) (hh : DPt c X hi h) : DO c X (.Subscript e (.Slice lo hi none p2) pos) (mSl f l h) :=
  PE.imp (zjz zpp ha hl hh) fun σ H Q q_ => by
    obtain ⟨Hf0, H0, Hf, ρ, rs, st, ef, k⟩ := q_
    unfold mSl at ef
    cases e1 : f ρ with
    | none => rw [e1] at ef; cases ef
    | some d =>
      cases e2 : lsD d with
      | none => rw [e1] at ef; replace ef : (lsD d).bind _ = _ := ef; rw [e2] at ef; cases ef
      | some ds =>
        cases e3 : l ρ with
        | none => rw [e1] at ef; replace ef : (lsD d).bind _ = _ := ef; rw [e2, e3] at ef; cases ef
        | some lo' =>
          cases e4 : h ρ with
          | none => rw [e1] at ef; replace ef : (lsD d).bind _ = _ := ef; rw [e2, e3, e4] at ef; cases ef
          | some hi' =>
            rw [e1] at ef
            replace ef : (lsD d).bind _ = _ := ef
            rw [e2, e3, e4] at ef
            cases ef
            refine ⟨Hf0, H0, Hf, ρ, d, st, e1, fun v Hf1 H1 x1 r1 => ⟨Hf0, H0, Hf1, ρ, lo', st.step x1, e3, fun Hf2 H2 x2 => ⟨Hf0, H0, Hf2, ρ, hi', (st.step x1).step x2, e4, fun Hf3 H3 x3 => ?_⟩⟩⟩
            obtain ⟨a, vs, ea, q, r⟩ := zjh e2 r1
            subst ea
            have x := (x1.trans x2).trans x3
            have y := (x2.trans x3)
            refine ⟨a, vs, rfl, (x1.s.trans y.h).seq q, fun p hp => ?_⟩
            exact k p (zd1 vs lo' hi') Hf3 (upd H3 p (.lst (zd1 vs lo' hi'))) (x.trans (Ext.tmp x.s hp)) (x.h.free hp) (x.s.free hp) zbp (zvd (r.up y.f) _ _)
noncomputable def rCD (G : Gc) (m : List D -> Option D) : List V -> Hp -> VK -> Prop := fun vs H Q => ∃ Hf ds d, zae Hf H /\ zab G Hf ds vs /\ m ds = some d /\ ∀ v Hf' H', Ext Hf H Hf' H' -> Rep G Hf' d v -> Q v H'
noncomputable abbrev zh7 (c : Str -> Addr) (X : Cx) (f : Value) (m : List D -> Option D) : Prop := zbr X f (rCD (Gx c X) m)
noncomputable def zah (m : List D -> Option D) (f : List Sl -> Option (List D)) (ρ : List Sl) : Option D := (f ρ).bind m
theorem zi7 {m : List D -> Option D} {f : List Sl -> Option (List D)} {ρ : List Sl} {d : D} (h : zah m f ρ = some d) : ∃ ds, f ρ = some ds /\ m ds = some d := by
  unfold zah at h
  cases e : f ρ with
  | none => rw [e] at h; cases h
  | some ds => rw [e] at h; exact ⟨ds, rfl, h⟩
theorem zdr {m : List D -> Option D} {f : List Sl -> Option (List D)} {x : Str} {id : String} (hc : zh7 c X (.builtin id) m) (hs : ∀ ds d, m ds = some d -> d.scalar = true) (hg : Gl X x) (hm : X.mg x = none) (hv : bootBuiltins x = some (.builtin id)) (ha : DAB c X (e :: es) f) (hn : x ≠ "__name__" := by decide) (hdb : (x == ("__debug__" : Str)) = false := by decide)
    (he : starEach (e :: es) X.env = (false, eval e X.env) :: starEach es X.env := by rfl) (hpl : (backTo pos (starEach es X.env)).any (·.1) = false := by rfl) :
    DE c X (.Call (.Name x p) (e :: es) [] pos) (zah m f) := PE.imp (zkg hc hg hm hv ha.pa hn hdb he hpl) fun σ H Q q_ => by
  obtain ⟨Hf0, H0, Hf, ρ, d, st, ef, k⟩ := q_
  obtain ⟨ds, e1, e2⟩ := zi7 ef
  exact ⟨Hf0, H0, Hf, ρ, ds, st, e1, fun vs Hf' H' x r => ⟨H', ds, d, zae.refl _, r, e2, fun v Hf2 H2 x2 r2 => k v Hf' H2 (x.trans (Ext.grow x.s x2.h)) (r2.sc (hs _ _ e2))⟩⟩
noncomputable def zbf : List D -> Option D
  | [.lst xs] => some (.int xs.length)
  | [.tup xs] => some (.int xs.length)
  | [.kl xs] => some (.int xs.length)
  | [.kt xs] => some (.int xs.length)
  | [.str x] => if x.length <= 16777216 then some (.int x.length) else none
  | _ => none
theorem zab.one {G : Gc} {H : Hp} {d : D} {vs : List V} (r : zab G H [d] vs) : ∃ v, vs = [v] /\ Rep G H d v := by
  obtain ⟨v, r', e, h, q⟩ := r
  cases (show r' = [] from q)
  exact ⟨v, e, h⟩
theorem zab.two {G : Gc} {H : Hp} {d d' : D} {vs : List V} (r : zab G H [d, d'] vs) : ∃ v v', vs = [v, v'] /\ Rep G H d v /\ Rep G H d' v' := by
  obtain ⟨v, r', e, h, q⟩ := r
  obtain ⟨v', e', h'⟩ := q.one
  subst e'
  exact ⟨v, v', e, h, h'⟩
theorem zd9 : zh7 c X (.builtin "len") zbf := by
  rintro pins s σ H vs us Q I rv ⟨Hf, ds, d, s0, r, e, k⟩
  have sq : ∀ (d0 : D) (xs : List D), ds = [d0] -> zeq d0 = some xs -> d = .int xs.length -> wpAny (model X.prog X.w) X.A (call (.builtin "len") us) (EP X pins σ Q) X.xe s := fun d0 xs ed es e0 => by
    subst ed e0
    obtain ⟨v, e1, r1⟩ := r.one
    subst e1
    obtain ⟨a, ws, e2, q, rs⟩ := zk4 es r1
    subst e2
    refine zql pins s σ H _ us Q I rv ⟨a, ws, rfl, zqj s0 q, ?_⟩
    rw [<- rs.length]
    exact k _ Hf H (Ext.refl s0) rfl
  unfold zbf at e
  split at e
  · cases e; exact sq _ _ rfl rfl rfl
  · cases e; exact sq _ _ rfl rfl rfl
  · cases e; exact sq _ _ rfl rfl rfl
  · cases e; exact sq _ _ rfl rfl rfl
  · split at e
    · rename_i hl
      cases e
      obtain ⟨v, e1, r1⟩ := r.one
      subst e1
      exact zt9 pins s σ H _ us Q I rv ⟨_, by rw [show v = V.str _ from r1], by rw [sizeLine_eq]; exact hl, k _ Hf H (Ext.refl s0) rfl⟩
    · cases e
  · cases e
theorem zee : ∀ ds d, zbf ds = some d -> d.scalar = true := by
  intro ds d e
  unfold zbf at e
  split at e <;> first | (cases e; done) | (cases e; rfl) | (split at e <;> first | (cases e; done) | (cases e; rfl))
noncomputable def tyN : D -> Option String
  | .non => some "NoneType"
  | .bl _ => some "bool"
  | .int _ => some "int"
  | .str _ => some "str"
  | .lst _ => some "list"
  | .tup _ => some "tuple"
  | .dic _ _ => some "dict"
  | _ => none
noncomputable def zie (T : String) (d : D) : Option D := (tyN d).map fun t => .bl (t == T || (t == "bool" && T == "int"))
theorem zvi {G : Gc} {H : Hp} {d : D} {v : V} {t : String} (e : tyN d = some t) (r : Rep G H d v) : zb5 G.K H v (.type t) := by
  cases d with
  | non => cases e; cases r; exact .non
  | bl b => cases e; cases r; exact .bl b
  | int i => cases e; cases r; exact .int i
  | str x => cases e; cases r; exact .str x
  | lst xs => cases e; obtain ⟨a, vs, e1, q, r⟩ := r; subst e1; exact .lst q
  | tup xs => cases e; obtain ⟨a, vs, e1, q, r⟩ := r; subst e1; exact .tup q
  | dic ks xs => cases e; obtain ⟨a, vs, e1, q, l, r⟩ := r; subst e1; exact .dK q
  | _ => cases e
noncomputable def zmq (K : PySem.W.Frag) (T : String) : Prop := ∀ t ∈ ["NoneType", "bool", "int", "str", "list", "tuple", "dict"], PySem.W.kitOne K (.type t) (.type T) = some (t == T || (t == "bool" && T == "int"))
theorem zs9 {d : D} {t : String} (e : tyN d = some t) : t ∈ ["NoneType", "bool", "int", "str", "list", "tuple", "dict"] := by
  cases d <;> first | (cases e; decide) | cases e
noncomputable def zjk (T : String) (f : List Sl -> Option D) (ρ : List Sl) : Option D := (f ρ).bind (zie T)
theorem zsb {f : List Sl -> Option D} {T : String} {q1 : Pos} {y : Str} (hk : zmq X.K T) (hg : Gl X "isinstance") (hm : X.mg "isinstance" = none) (hy : bootBuiltins y = some (.type T)) (hgy : Gl X y) (hmy : X.mg y = none) (ha : DB c X e f)
    (hs : starEach [e, .Name y q1] X.env = (false, eval e X.env) :: starEach [.Name y q1] X.env := by rfl) (hs2 : starEach [.Name y q1] X.env = (false, eval (.Name y q1) X.env) :: starEach [] X.env := by rfl)
    (hn : y ≠ "__name__" := by decide) (hdb : (y == ("__debug__" : Str)) = false := by decide) (hpl : (backTo pos (starEach [.Name y q1] X.env)).any (·.1) = false := by rfl) :
    DE c X (.Call (.Name "isinstance" p) [e, .Name y q1] [] pos) (zjk T f) :=
  PE.imp (zkg zre hg hm boot_isinstance (zcc ha (zcc (zr4 (v := .ty T) hgy hmy hy rfl hn hdb) zdn hs2) hs) (by decide) (by decide) hs hpl) fun σ H Q q_ => by
    obtain ⟨Hf0, H0, Hf, ρ, d, st, ef, k⟩ := q_
    unfold zjk at ef
    cases e1 : f ρ with
    | none => rw [e1] at ef; cases ef
    | some x =>
      rw [e1] at ef
      replace ef : zie T x = some d := ef
      unfold zie at ef
      cases e2 : tyN x with
      | none => rw [e2] at ef; cases ef
      | some t =>
        rw [e2] at ef
        cases ef
        exact ⟨Hf0, H0, Hf, ρ, x, st, e1, fun v Hf' H' x1 r => ⟨v, T, .type t, _, rfl, zvi e2 r, hk t (zs9 e2), k _ Hf' H' x1 rfl⟩⟩
end
noncomputable def tDG (G : Gc) (g : D -> List Sl -> Option (List Sl)) : TG := fun v σ H Q => ∃ Hf0 H0 Hf ρ d ρ', zac G Hf0 H0 Hf H σ ρ /\ Rep G Hf d v /\ g d ρ = some ρ' /\ ∀ σ', zac G Hf0 H0 Hf H σ' ρ' -> Q σ' H
structure DG (c : Str -> Addr) (X : Cx) (tg : Expr) (k : Nat) (g : D -> List Sl -> Option (List Sl)) : Prop where
  pg : PG X tg (tDG (Gx c X) g)
  len : ∀ d ρ ρ', g d ρ = some ρ' -> ρ'.length = ρ.length
  keep : ∀ d ρ ρ' i, g d ρ = some ρ' -> k <= i -> ρ'[i]? = ρ[i]?
section
variable {c : Str -> Addr} {X : Cx} {e : Expr} {es : List Expr} {pos : Pos}
noncomputable def zc7 (i : Nat) (d : D) (ρ : List Sl) : Option (List Sl) := some (ρ.set i (.im d))
theorem znz {i k : Nat} (h : PG X e (zfp i)) (hk : i < k) : DG c X e k (zc7 i) :=
  ⟨PG.imp h fun v σ H Q ⟨Hf0, H0, Hf, ρ, d, ρ', st, r, eg, q⟩ => by cases eg; exact q _ (st.setIm r), fun d ρ ρ' h => by cases h; simp, fun d ρ ρ' j h hj => by
    cases h
    rw [List.getElem?_set_ne (by omega)]⟩
theorem zii (i k : Nat) {x : Str} (hN : X.N.Nodup) (hk : i < k := by decide) (hi : X.N[i]? = some x := by rfl) (hx : Loc X.env.scope x := by first | exact Or.inl rfl | exact Or.inr rfl) (hf : X.fn x = true \/ X.env.scope.names.lookup x = some .local := by first | exact .inl rfl | exact .inr rfl) : DG c X (.Name x pos) k (zc7 i) :=
  znz (zl9 hN hi hx hf) hk
noncomputable def tpD : D -> Option (List D)
  | .tup xs => some xs
  | .kt xs => some xs
  | _ => none
theorem zuc {G : Gc} {H : Hp} {d : D} {v : V} {ds : List D} (e : tpD d = some ds) (r : Rep G H d v) : ∃ a vs, v = .ref a /\ SqT G.K H a vs /\ zab G H ds vs := by
  cases d with
  | tup xs => cases e; obtain ⟨a, vs, e1, q, r⟩ := r; exact ⟨a, vs, e1, SqT.of q, r⟩
  | kt xs => cases e; obtain ⟨a, vs, e1, q, r⟩ := r; exact ⟨a, vs, e1, q, r⟩
  | _ => cases e
end
noncomputable def zfi (G : Gc) (Hf : Hp) (J : It) (ds : List D) : Prop := ∀ Hf' H', zae Hf Hf' -> zae Hf' H' -> ∀ i : Nat,
  (∀ d, ds[i]? = some d -> J.go i H' /\ ∀ x H2, J.yld i H' x H2 -> ∃ Hf2, Ext Hf' H' Hf2 H2 /\ Rep G Hf2 d x) /\ (i = ds.length -> J.stop i H')
noncomputable def zlh (G : Gc) (Hf H : Hp) (J : It) (ds : List D) : Prop := ∀ Hf' H', Ext Hf H Hf' H' -> ∀ i : Nat,
  (∀ d, ds[i]? = some d -> J.go i H' /\ ∀ x H2, J.yld i H' x H2 -> ∃ Hf2, Ext Hf' H' Hf2 H2 /\ Rep G Hf2 d x) /\ (i = ds.length -> J.stop i H')
theorem zfi.toE {G : Gc} {Hf H : Hp} {J : It} {ds : List D} (h : zfi G Hf J ds) : zlh G Hf H J ds := fun Hf' H' x i => h Hf' H' x.f x.s i
noncomputable def tDI (G : Gc) (f : List Sl -> Option (List D)) : TI := fun σ H R => ∃ Hf0 H0 Hf ρ ds, zac G Hf0 H0 Hf H σ ρ /\ f ρ = some ds /\ ∀ J Hf' H', Ext Hf H Hf' H' -> zfi G Hf' J ds -> R J H'
noncomputable def zl3 (G : Gc) (f : List Sl -> Option (List D)) : TI := fun σ H R => ∃ Hf0 H0 Hf ρ ds, zac G Hf0 H0 Hf H σ ρ /\ f ρ = some ds /\ ∀ J Hf' H', Ext Hf H Hf' H' -> zlh G Hf' H' J ds -> R J H'
noncomputable def DI (c : Str -> Addr) (X : Cx) (tg iter : Expr) (f : List Sl -> Option (List D)) : Prop := PI X tg iter (tDI (Gx c X) f)
noncomputable def DIe (c : Str -> Addr) (X : Cx) (tg iter : Expr) (f : List Sl -> Option (List D)) : Prop := PI X tg iter (zl3 (Gx c X) f)
section
variable {c : Str -> Addr} {X : Cx} {tg e a b : Expr} {es : List Expr} {pos p : Pos}
theorem DI.de {f : List Sl -> Option (List D)} (h : DI c X tg e f) : DIe c X tg e f := PI.imp h fun σ H R q_ => by
  obtain ⟨Hf0, H0, Hf, ρ, ds, st, ef, k⟩ := q_
  exact (⟨Hf0, H0, Hf, ρ, ds, st, ef, fun J Hf' H' x i => k J Hf' H' x i.toE⟩)
theorem zss {G : Gc} {Hf : Hp} {ds : List D} {l : Addr} {vs : List V} (q : SqT G.K Hf l vs) (r : zab G Hf ds vs) : zfi G Hf (Itt G.K l) ds := fun Hf' H' f s i => by
  have q' : SqT G.K H' l vs := (f.trans s).tup q
  refine ⟨fun d ed => ?_, fun ei => ⟨vs, q', by rw [<- r.length, ei]; exact Nat.le_refl _⟩⟩
  obtain ⟨v, ev, rv⟩ := r.get ed
  refine ⟨⟨vs, v, q', ev⟩, fun x H2 ⟨e2, y⟩ => ?_⟩
  subst e2
  have := y vs q'
  rw [ev] at this
  cases this
  exact ⟨Hf', Ext.refl s, rv.up f⟩
theorem zn9 {f : List Sl -> Option D} (h : DE c X e f) : DI c X tg e (zet f) := fun pins s σ H R I q_ => by
  obtain ⟨Hf0, H0, Hf, ρ, ds, st, ef, k⟩ := q_
  unfold zet at ef
  cases e1 : f ρ with
  | none => rw [e1] at ef; cases ef
  | some d =>
    rw [e1] at ef
    replace ef : zeq d = some ds := ef
    have un : ∀ {l : Addr} {H' : Hp} {us vs : List V}, SqL X.K H' l us -> SqL X.K H' l vs -> us = vs \/ True := fun _ _ => .inr trivial
    cases e2 : lsD d with
    | some ds' =>
      have : ds' = ds := by cases d <;> first | (cases e2; done) | (cases e2; cases ef; rfl)
      subst this
      refine zva h pins s σ H R I ⟨Hf0, H0, Hf, ρ, d, st, e1, fun v Hf' H' x r => ?_⟩
      obtain ⟨a, vs, ea, q, rs⟩ := zjh e2 r
      exact ⟨a, ea, ⟨vs, x.s.seq q⟩, k _ Hf' H' x fun Hf2 H2 f2 s2 i => by
        have q' : SqL X.K H2 a vs := (f2.trans s2).seq q
        refine ⟨fun d ed => ?_, fun ei => ⟨vs, q', by rw [<- rs.length, ei]; exact Nat.le_refl _⟩⟩
        obtain ⟨v, ev, rv⟩ := rs.get ed
        refine ⟨⟨vs, v, q', ev⟩, fun x H3 ⟨e3, y⟩ => ?_⟩
        subst e3
        have := y vs q'
        rw [ev] at this
        cases this
        exact ⟨Hf2, Ext.refl s2, rv.up f2⟩⟩
    | none =>
      have e3 : tpD d = some ds := by cases d <;> first | (cases e2; done) | (cases ef; done) | (cases ef; rfl)
      refine zsp h pins s σ H R I ⟨Hf0, H0, Hf, ρ, d, st, e1, fun v Hf' H' x r => ?_⟩
      obtain ⟨a, vs, ea, q, rs⟩ := zuc e3 r
      exact ⟨a, ea, ⟨vs, x.s.tup q⟩, k _ Hf' H' x (zss q rs)⟩
noncomputable def rng (lo : Int) (n : Nat) : List D := (List.range n).map fun (i : Nat) => .int (lo + i)
theorem zpb {G : Gc} {Hf : Hp} {lo : Int} {n : Nat} : zfi G Hf (Itr lo n) (rng lo n) := fun Hf' H' f s i => by
  refine ⟨fun d ed => ?_, fun ei => ?_⟩
  · unfold rng at ed
    rw [List.getElem?_map] at ed
    cases e : (List.range n)[i]? with
    | none => rw [e] at ed; cases ed
    | some j =>
      rw [e] at ed
      obtain ⟨hi, ej⟩ := List.getElem?_eq_some_iff.mp e
      rw [List.length_range] at hi
      rw [List.getElem_range] at ej
      subst ej
      cases ed
      exact ⟨hi, fun x H2 ⟨e2, y⟩ => by subst e2; exact ⟨Hf', Ext.refl s, y⟩⟩
  · unfold rng at ei
    rw [List.length_map, List.length_range] at ei
    exact Nat.le_of_eq ei.symm
noncomputable def zh3 : List D -> Option (List D)
  | [.int j] => if -(2 ^ 62) <= j /\ j < 2 ^ 62 then some (rng 0 j.toNat) else none
  | [.int i, .int j] => if -(2 ^ 62) <= i /\ i < 2 ^ 62 /\ -(2 ^ 62) <= j /\ j < 2 ^ 62 then some (rng i (j - i).toNat) else none
  | _ => none
noncomputable def zhw (f : List Sl -> Option (List D)) (ρ : List Sl) : Option (List D) := (f ρ).bind zh3
theorem zt2 {f : List Sl -> Option (List D)} (hg : Gl X "range") (hm : X.mg "range" = none) (ha : DA c X [a] f) (hs : starEach [a] X.env = [(false, eval a X.env)] := by rfl) : DI c X tg (.Call (.Name "range" p) [a] [] pos) (zhw f) :=
  PI.imp (zpr hg hm ha.pa hs) fun σ H R q_ => by
    obtain ⟨Hf0, H0, Hf, ρ, ds, st, ef, k⟩ := q_
    unfold zhw at ef
    cases e1 : f ρ with
    | none => rw [e1] at ef; cases ef
    | some as =>
      rw [e1] at ef
      replace ef : zh3 as = some ds := ef
      have hl := ha.len ρ as e1
      refine ⟨Hf0, H0, Hf, ρ, as, st, e1, fun vs Hf' H' x r => ?_⟩
      unfold zh3 at ef
      split at ef
      · split at ef
        · rename_i j hj
          cases ef
          obtain ⟨v, ev, rv⟩ := r.one
          cases (show v = V.int j from rv)
          exact ⟨j, ev, hj.1, hj.2, k _ Hf' H' x zpb⟩
        · cases ef
      · cases hl
      · cases ef
end
end L2
namespace L2
open PySem PySem.Spec PyProof.Rows
noncomputable def zb9 (k : Nat) (js : List Nat) (ρ : List Sl) : List Sl := List.replicate k .no ++ js.map fun j => (ρ[j]?).getD .no
section
variable {G : Gc} {Hf0 H0 Hf H : Hp} {σ : St} {ρ : List Sl}
theorem zac.weak {ρ' : List Sl} (h : zac G Hf0 H0 Hf H σ ρ) (hl : ρ'.length = ρ.length) (hw : ∀ (i : Nat) (s : Sl), ρ'[i]? = some s -> s = .no \/ ρ[i]? = some s) : zac G Hf0 H0 Hf H σ ρ' := by
  refine h.re h.ext hl (fun i v s a b => ?_) fun i s v a b c p => ?_
  · rcases hw i s b with e | e
    · subst e; trivial
    · exact h.at' i v s a e
  · rcases hw i s b with e | e
    · subst e; exact (p.calm rfl).elim
    · exact ⟨s, e, p⟩
theorem zgv {α : Type} {k : Nat} {x : α} {l : List α} {i : Nat} {y : α} (h : (List.replicate k x ++ l)[i]? = some y) : (i < k /\ y = x) \/ (k <= i /\ l[i - k]? = some y) := by
  by_cases hi : i < k
  · left
    rw [List.getElem?_append_left (by simpa using hi), List.getElem?_replicate, if_pos hi] at h
    exact ⟨hi, (Option.some.inj h).symm⟩
  · right
    rw [List.getElem?_append_right (by simpa using Nat.le_of_not_lt hi), List.length_replicate] at h
    exact ⟨Nat.le_of_not_lt hi, h⟩
theorem zgi {α β : Type} {f : α -> β} {l : List α} {i : Nat} {y : β} (h : (l.map f)[i]? = some y) : ∃ x, l[i]? = some x /\ y = f x := by
  rw [List.getElem?_map] at h
  cases e : l[i]? with
  | none => rw [e] at h; cases h
  | some x => rw [e] at h; exact ⟨x, rfl, (Option.some.inj h).symm⟩
theorem zop {js : List Nat} (h : js.Nodup) {i j x : Nat} (a : js[i]? = some x) (b : js[j]? = some x) : i = j := by
  obtain ⟨h1, e1⟩ := List.getElem?_eq_some_iff.mp a
  obtain ⟨h2, e2⟩ := List.getElem?_eq_some_iff.mp b
  exact (List.getElem_inj h).mp (e1.trans e2.symm)
theorem zac.comp (k : Nat) {js : List Nat} (h : zac G Hf0 H0 Hf H σ ρ) (hj : js.Nodup) : zac G Hf0 H0 Hf H (zdg k js σ) (zb9 k js ρ) := by
  have own : ∀ (i : Nat) (s : Sl), (zb9 k js ρ)[i]? = some s -> s.calm = false -> ∃ j, k <= i /\ js[i - k]? = some j /\ ρ[j]? = some s := fun i s a hs => by
    rcases zgv a with ⟨_, e⟩ | ⟨hi, a⟩
    · subst e; cases hs
    · obtain ⟨j, ej, es⟩ := zgi a
      cases e : ρ[j]? with
      | none => rw [e] at es; subst es; cases hs
      | some t => rw [e] at es; replace es : s = t := es; subst es; exact ⟨j, hi, ej, e⟩
  have val : ∀ (i : Nat) (v : Option V) (j : Nat), (zdg k js σ)[i]? = some v -> k <= i -> js[i - k]? = some j -> v = (σ[j]?).getD none := fun i v j a hi ej => by
    rcases zgv a with ⟨hi', _⟩ | ⟨_, a⟩
    · omega
    · obtain ⟨j', ej', es⟩ := zgi a
      rw [ej] at ej'; cases ej'
      exact es
  refine ⟨h.ext, by simp [zdg, zb9], fun i v s a b => ?_, fun i j s t y z l a b c d p q => ?_⟩
  · rcases zgv b with ⟨_, e⟩ | ⟨hi, b⟩
    · subst e; trivial
    · obtain ⟨j, ej, es⟩ := zgi b
      have ev := val i v j a hi ej
      cases e : ρ[j]? with
      | none => rw [e] at es; subst es; trivial
      | some t =>
        rw [e] at es
        replace es : s = t := es
        subst es
        obtain ⟨u, eu, q⟩ := h.slot e
        rw [eu] at ev
        replace ev : v = u := ev
        subst ev
        exact q
  · have hs : s.calm = false := by
      cases hc : s.calm with
      | true => exact (p.calm hc).elim
      | false => rfl
    have ht : t.calm = false := by
      cases hc : t.calm with
      | true => exact (q.calm hc).elim
      | false => rfl
    obtain ⟨i', hi, ei, e1⟩ := own i s a hs
    obtain ⟨j', hj', ej, e2⟩ := own j t b ht
    have v1 := val i _ i' c hi ei
    have v2 := val j _ j' d hj' ej
    obtain ⟨u1, eu1, _⟩ := h.slot e1
    obtain ⟨u2, eu2, _⟩ := h.slot e2
    rw [eu1] at v1
    rw [eu2] at v2
    replace v1 : some y = u1 := v1
    replace v2 : some z = u2 := v2
    subst v1 v2
    have := h.dj i' j' s t y z l e1 e2 eu1 eu2 p q
    subst this
    have := zop hj ei ej
    omega
end
noncomputable def zcl (h : D -> Option (Option D)) : List D -> Option (List D)
  | [] => some []
  | d :: ds => (h d).bind fun o => (zcl h ds).map fun r => match o with
    | some y => y :: r
    | none => r
theorem zvn {h : D -> Option (Option D)} {d : D} {ds r : List D} (e : zcl h (d :: ds) = some r) : ∃ o r', h d = some o /\ zcl h ds = some r' /\ r = (match o with | some y => y :: r' | none => r') := by
  unfold zcl at e
  cases e1 : h d with
  | none => rw [e1] at e; cases e
  | some o =>
    cases e2 : zcl h ds with
    | none => rw [e1, e2] at e; cases e
    | some r' =>
      rw [e1, e2] at e
      cases e
      refine ⟨o, r', rfl, rfl, ?_⟩
      cases o <;> rfl
noncomputable def zdf (g : D -> List Sl -> Option (List Sl)) (ft : List Sl -> Option Bool) (fe : List Sl -> Option D) (ρ : List Sl) (d : D) : Option (Option D) := (g d ρ).bind fun ρ1 => (ft ρ1).bind fun b => if b then (fe ρ1).map some else some none
noncomputable def zcs (k : Nat) (js : List Nat) (fi : List Sl -> Option (List D)) (g : D -> List Sl -> Option (List Sl)) (ft : List Sl -> Option Bool) (fe : List Sl -> Option D) (ρ : List Sl) : Option (List D) :=
  (fi ρ).bind fun ds => if ds.length <= 16777216 then zcl (zdf g ft fe (zb9 k js ρ)) ds else none
theorem zn4 {α : Type} {l : List α} {i : Nat} (h : i < l.length) : ∃ x, l[i]? = some x /\ l.drop i = x :: l.drop (i + 1) := ⟨l[i], by simp [h], (List.drop_eq_getElem_cons h)⟩
noncomputable def DTs (c : Str -> Addr) (X : Cx) (ifs : List Expr) (f : List Sl -> Option Bool) : Prop := PTs X ifs (tDT (Gx c X) f)
section
variable {c : Str -> Addr} {X : Cx} {elt tg iter e : Expr} {ifs : List Expr} {scope : Scope} {pos : Pos} {Nc : List Str} {k : Nat} {js : List Nat}
  {fi : List Sl -> Option (List D)} {g : D -> List Sl -> Option (List Sl)} {ft : List Sl -> Option Bool} {fe : List Sl -> Option D}
theorem zvk : DTs c X [] (fun _ => some true) := PTs.imp zvl fun σ H Q q_ => by
  obtain ⟨Hf0, H0, Hf, ρ, b, st, ef, k⟩ := q_
  exact (by cases ef; exact k Hf H (Ext.refl st.sub))
theorem zrg {f : List Sl -> Option Bool} (h : DT c X e f) : DTs c X [e] f := zrl h
theorem zrc {G : Gc} (hj : js.Nodup) (hk : ∀ d ρ ρ' i, g d ρ = some ρ' -> k <= i -> ρ'[i]? = ρ[i]?) (hlen : ∀ d ρ ρ', g d ρ = some ρ' -> ρ'.length = ρ.length) {σ : St} {H : Hp} {Q : VK} (h : tDO G (zcs k js fi g ft fe) σ H Q) :
    zlk k js (zl3 G fi) (tDG G g) (tDT G ft) (tD G fe) σ H Q := by
  obtain ⟨Hf0, H0, Hf, ρ, rs, st, ef, kq⟩ := h
  unfold zcs at ef
  cases e1 : fi ρ with
  | none => rw [e1] at ef; cases ef
  | some ds =>
    rw [e1] at ef
    replace ef : (if ds.length <= 16777216 then zcl (zdf g ft fe (zb9 k js ρ)) ds else none) = some rs := ef
    by_cases hz : ds.length <= 16777216
    · rw [if_pos hz] at ef
      refine ⟨Hf0, H0, Hf, ρ, ds, st, e1, fun J Hf1 H1 x1 it => ?_⟩
      refine ⟨fun i m ys σ' H' => m = ds.length - i /\ i <= ds.length /\ ∃ Hf' as zav, Ext Hf1 H1 Hf' H' /\ zac G Hf0 H0 Hf' H' σ' (zb9 k js ρ) /\ zab G Hf' as ys /\ zcl (zdf g ft fe (zb9 k js ρ)) (ds.drop i) = some zav /\ rs = as ++ zav /\ as.length <= i,
        ⟨ds.length, rfl, Nat.zero_le _, Hf1, [], rs, Ext.refl x1.s, (st.step x1).comp k hj, rfl, ef, rfl, Nat.le_refl _⟩, ?_⟩
      rintro i m ys σ' H' ⟨rfl, hi, Hf', as, zav, x2, st2, ra, ec, er, hal⟩
      have hys : ys.length <= sizeLine := by rw [sizeLine_eq, <- ra.length]; omega
      obtain ⟨it1, it2⟩ := it Hf' H' x2 i
      by_cases hlt : i < ds.length
      · obtain ⟨d, ed, edr⟩ := zn4 hlt
        obtain ⟨go, yl⟩ := it1 d ed
        refine .inr ⟨go, hys, fun ys' σ2 H2 => ds.length - (i + 1) = ds.length - (i + 1) /\ i + 1 <= ds.length /\ ∃ Hf' as zav, Ext Hf1 H1 Hf' H2 /\ zac G Hf0 H0 Hf' H2 σ2 (zb9 k js ρ) /\ zab G Hf' as ys' /\ zcl (zdf g ft fe (zb9 k js ρ)) (ds.drop (i + 1)) = some zav /\ rs = as ++ zav /\ as.length <= i + 1,
          fun ys' σ2 H2 w => ⟨ds.length - (i + 1), by omega, w⟩, fun x H2 y => ?_⟩
        obtain ⟨Hf2, x3, rx⟩ := yl x H2 y
        rw [edr] at ec
        obtain ⟨o, r', eo, ec', erest⟩ := zvn ec
        unfold zdf at eo
        cases eg : g d (zb9 k js ρ) with
        | none => rw [eg] at eo; cases eo
        | some ρ1 =>
          rw [eg] at eo
          replace eo : (ft ρ1).bind _ = _ := eo
          cases et : ft ρ1 with
          | none => rw [et] at eo; cases eo
          | some b =>
            rw [et] at eo
            replace eo : (if b = true then (fe ρ1).map some else some none) = some o := eo
            refine ⟨Hf0, H0, Hf2, zb9 k js ρ, d, ρ1, st2.step x3, rx, eg, fun σ3 st3 => ⟨Hf0, H0, Hf2, ρ1, b, st3, et, fun Hf4 H4 x4 => ?_⟩⟩
            have back : ∀ {Hf5 H5 : Hp}, zac G Hf0 H0 Hf5 H5 σ3 ρ1 -> zac G Hf0 H0 Hf5 H5 σ3 (zb9 k js ρ) := fun {Hf5 H5} s5 => s5.weak (hlen _ _ _ eg).symm fun j s hs => by
              rcases zgv hs with ⟨_, e⟩ | ⟨hj', _⟩
              · exact .inl e
              · exact .inr (by rw [hk _ _ _ _ eg hj']; exact hs)
            cases b with
            | true =>
              rw [if_pos rfl] at eo
              refine zvp ?_
              cases ee : fe ρ1 with
              | none => rw [ee] at eo; cases eo
              | some y' =>
                rw [ee] at eo
                cases eo
                refine ⟨Hf0, H0, Hf4, ρ1, y', st3.step x4, ee, fun v Hf5 H5 x5 r5 => ?_⟩
                have x := (x3.trans x4).trans x5
                refine ⟨rfl, hlt, Hf5, as ++ [y'], r', x2.trans x, back ((st3.step x4).step x5), (ra.up x.f).append (.cons r5 .nil), ec', ?_, by rw [List.length_append, List.length_singleton]; omega⟩
                rw [er, erest, List.append_assoc]
                rfl
            | false =>
              rw [if_neg Bool.false_ne_true] at eo
              refine zuw ?_
              cases eo
              have x := x3.trans x4
              exact ⟨rfl, hlt, Hf4, as, r', x2.trans x, back (st3.step x4), ra.up x.f, ec', by rw [er, erest], by omega⟩
      · have ei : i = ds.length := by omega
        subst ei
        refine .inl ⟨it2 rfl, hys, fun l h1 h2 => ?_⟩
        rw [List.drop_eq_nil_of_le (Nat.le_refl _)] at ec
        cases ec
        rw [List.append_nil] at er
        subst er
        have x := x1.trans x2
        exact kq l ys Hf' (upd H' l (.lst ys)) (x.trans (Ext.tmp x.s h2)) (x.h.free h2) (x.s.free h2) zbp ra
    · rw [if_neg hz] at ef
      cases ef
theorem znn (k : Nat) (js : List Nat) (Nc : List Str) (hc : X.calm = true) (hi : DIe c X tg iter fi) (hg : ∀ cl C ex s₂ H₂, DG c (X.comp scope Nc cl C ex s₂ H₂) tg k g) (ht : ∀ cl C ex s₂ H₂, DTs c (X.comp scope Nc cl C ex s₂ H₂) ifs ft)
    (he : ∀ cl C ex s₂ H₂, DE c (X.comp scope Nc cl C ex s₂ H₂) elt fe) (ck : zhz scope X.env.scope.names X.N Nc k js = true := by rfl) (hs : ∀ x, foldedSetIterable iter X.env x = pure x := by intro _; rfl) (hj : js.Nodup := by decide) :
    DO c X (.ListComp elt [⟨tg, iter, ifs, 0⟩] scope pos) (zcs k js fi g ft fe) :=
  PE.imp (zq6 (g := tDG (Gx c X) g) (tt := tDT (Gx c X) ft) (te := tD (Gx c X) fe) k js Nc hc hi (fun cl C ex s₂ H₂ => (hg cl C ex s₂ H₂).pg) ht he ck hs) fun σ H Q h =>
    zrc hj (hg [] 0 [] X.s₀ X.H₀).keep (hg [] 0 [] X.s₀ X.H₀).len h
end
section
variable {c : Str -> Addr} {X : Cx} {tg : Expr} {scope : Scope} {Nc : List Str} {cl : List (Str × Addr)} {C : Addr} {ex : List Addr} {s₂ : Shared} {H₂ : Hp}
theorem dvc (i : Nat) {x : Str} {pos : Pos} (hN : Nc[i]? = some x := by rfl) (hv : Vis scope x := by first | exact Or.inl rfl | exact Or.inr (Or.inl rfl) | exact Or.inr (Or.inr rfl)) (hd : (x == ("__debug__" : Str)) = false := by decide)
    (hcd : (x == ("__classdict__" : Str)) = false := by decide) : DE c (X.comp scope Nc cl C ex s₂ H₂) (.Name x pos) (zaa i) := zkz (pvc i hN hv hd hcd)
theorem dgc (i k : Nat) {x : Str} {pos : Pos} (hk : i < k := by decide) (hN : Nc.Nodup := by decide +kernel) (hi : Nc[i]? = some x := by rfl) (hl : scope.names.lookup x = some .local := by rfl) : DG c (X.comp scope Nc cl C ex s₂ H₂) (.Name x pos) k (zc7 i) :=
  znz (pgc i hN hi hl) hk
end
inductive Fl where
  | nx (ρ : List Sl)
  | bk (ρ : List Sl)
  | ct (ρ : List Sl)
  | rt (d : D)
  | rtO (ds : List D)
  | rtS (d : D) (ρ : List Sl)
  | rtT (o : O)
noncomputable def zhv (G : Gc) (Hf0 H0 Hf : Hp) (E : ze1) : Fl -> Prop
  | .nx ρ' => ∀ σ' Hf' H', zae Hf Hf' -> zac G Hf0 H0 Hf' H' σ' ρ' -> E.nx σ' H'
  | .bk ρ' => ∀ σ' Hf' H', zae Hf Hf' -> zac G Hf0 H0 Hf' H' σ' ρ' -> E.bk σ' H'
  | .ct ρ' => ∀ σ' Hf' H', zae Hf Hf' -> zac G Hf0 H0 Hf' H' σ' ρ' -> E.ct σ' H'
  | .rt d => ∀ v Hf' H', Ext Hf0 H0 Hf' H' -> Rep G Hf' d v -> E.rt v H'
  | .rtO ds => ∀ l vs Hf' H', Ext Hf0 H0 Hf' H' -> H0 l = none -> Hf' l = none -> H' l = some (.lst vs) -> zab G Hf' ds vs -> E.rt (.ref l) H'
  | .rtS d ρ => ∀ v σ' Hf' H', zac G Hf0 H0 Hf' H' σ' ρ -> Rep G Hf' d v -> E.rt v H'
  | .rtT o => ∀ u fp Hf' H', Ext Hf0 H0 Hf' H' -> OT G Hf' H' o u fp -> fp.Nodup -> (∀ a ∈ fp, H0 a = none /\ Hf' a = none) -> E.rt u H'
noncomputable def tDS (G : Gc) (F : List Sl -> Option Fl) : TS := fun E σ H => ∃ Hf0 H0 Hf ρ o, zac G Hf0 H0 Hf H σ ρ /\ F ρ = some o /\ zhv G Hf0 H0 Hf E o
noncomputable def DS (c : Str -> Addr) (X : Cx) (st : Stmt) (F : List Sl -> Option Fl) : Prop := PS X st (tDS (Gx c X) F)
noncomputable def DSs (c : Str -> Addr) (X : Cx) (st : List Stmt) (F : List Sl -> Option Fl) : Prop := PSs X st (tDS (Gx c X) F)
noncomputable def zbl (ρ : List Sl) : Option Fl := some (.nx ρ)
noncomputable def zas (F F' : List Sl -> Option Fl) (ρ : List Sl) : Option Fl := (F ρ).bind fun o => match o with
  | .nx ρ' => F' ρ'
  | o => some o
noncomputable def zbq (t : List Sl -> Option Bool) (F F' : List Sl -> Option Fl) (ρ : List Sl) : Option Fl := (t ρ).bind fun b => if b then F ρ else F' ρ
noncomputable def zco (i : Nat) (f : List Sl -> Option D) (ρ : List Sl) : Option Fl := (f ρ).map fun d => .nx (ρ.set i (.im d))
noncomputable def zeu (i : Nat) (f : List Sl -> Option (List D)) (ρ : List Sl) : Option Fl := (f ρ).map fun d => .nx (ρ.set i (.own d))
noncomputable def zbb (f : List Sl -> Option D) (ρ : List Sl) : Option Fl := (f ρ).map .rt
noncomputable def zj5 (f : List Sl -> Option (List D)) (ρ : List Sl) : Option Fl := (f ρ).map .rtO
noncomputable def zdd (g : D -> List Sl -> Option (List Sl)) (F : List Sl -> Option Fl) : List D -> List Sl -> Option Fl
  | [], ρ => some (.nx ρ)
  | d :: ds, ρ => (g d ρ).bind fun ρ1 => (F ρ1).bind fun o => match o with
    | .nx ρ2 => zdd g F ds ρ2
    | .ct ρ2 => zdd g F ds ρ2
    | .bk ρ2 => some (.nx ρ2)
    | .rt d => some (.rt d)
    | .rtO d => some (.rtO d)
    | .rtS d ρ2 => some (.rtS d ρ2)
    | .rtT o => some (.rtT o)
noncomputable def zex (fi : List Sl -> Option (List D)) (g : D -> List Sl -> Option (List Sl)) (F : List Sl -> Option Fl) (ρ : List Sl) : Option Fl := (fi ρ).bind fun ds => zdd g F ds ρ
section
variable {c : Str -> Addr} {X : Cx} {st : Stmt} {sts a b : List Stmt} {e cd tg iter : Expr} {pos : Pos} {F F' : List Sl -> Option Fl}
theorem zb2 : DSs c X [] zbl := PSs.imp zuj fun E σ H q_ => by
  obtain ⟨Hf0, H0, Hf, ρ, o, so, ef, k⟩ := q_
  exact (by cases ef; exact k σ Hf H (zae.refl _) so)
theorem zhv.up {G : Gc} {Hf0 H0 Hf Hf' : Hp} {E : ze1} {o : Fl} (h : zhv G Hf0 H0 Hf E o) (s : zae Hf Hf') : zhv G Hf0 H0 Hf' E o := by
  cases o with
  | nx ρ => exact fun σ' Hf2 H2 s2 q => h σ' Hf2 H2 (s.trans s2) q
  | bk ρ => exact fun σ' Hf2 H2 s2 q => h σ' Hf2 H2 (s.trans s2) q
  | ct ρ => exact fun σ' Hf2 H2 s2 q => h σ' Hf2 H2 (s.trans s2) q
  | rt d => exact h
  | rtO d => exact h
  | rtS d ρ => exact h
  | rtT o => exact h
theorem zax (h1 : DS c X st F) (h2 : DSs c X sts F') : DSs c X (st :: sts) (zas F F') := PSs.imp (zpz h1 h2) fun E σ H q_ => by
  obtain ⟨Hf0, H0, Hf, ρ, o, so, ef, k⟩ := q_
  unfold zas at ef
  cases e1 : F ρ with
  | none => rw [e1] at ef; cases ef
  | some o1 =>
    rw [e1] at ef
    refine ⟨Hf0, H0, Hf, ρ, o1, so, e1, ?_⟩
    cases o1 with
    | nx ρ1 => exact fun σ1 Hf1 H1 s1 so1 => ⟨Hf0, H0, Hf1, ρ1, o, so1, ef, k.up s1⟩
    | bk ρ1 => cases ef; exact k
    | ct ρ1 => cases ef; exact k
    | rt d => cases ef; exact k
    | rtO d => cases ef; exact k
    | rtS d ρ1 => cases ef; exact k
    | rtT o' => cases ef; exact k
theorem zaw (h1 : DS c X st F) : DSs c X [st] F := zvg h1
theorem zcd {t : List Sl -> Option Bool} (hc : DT c X cd t) (ha : DSs c X a F) (hb : DSs c X b F') : DS c X (.If cd a b pos) (zbq t F F') := PS.imp (zny hc ha hb) fun E σ H q_ => by
  obtain ⟨Hf0, H0, Hf, ρ, o, so, ef, k⟩ := q_
  unfold zbq at ef
  cases e1 : t ρ with
  | none => rw [e1] at ef; cases ef
  | some x =>
    rw [e1] at ef
    refine ⟨Hf0, H0, Hf, ρ, x, so, e1, fun Hf1 H1 x1 => ?_⟩
    cases x with
    | true => rw [if_pos rfl]; exact ⟨Hf0, H0, Hf1, ρ, o, so.step x1, ef, k.up x1.f⟩
    | false => rw [if_neg Bool.false_ne_true]; exact ⟨Hf0, H0, Hf1, ρ, o, so.step x1, ef, k.up x1.f⟩
theorem zvc {te : TE} {i : Nat} {f : List Sl -> Option D} (hp : PS X st (zf8 te (zfp i))) (hi : ∀ σ H Q, tD (Gx c X) f σ H Q -> te σ H Q) : DS c X st (zco i f) := PS.imp hp fun E σ H q_ => by
  obtain ⟨Hf0, H0, Hf, ρ, o, so, ef, k⟩ := q_
  unfold zco at ef
  cases e1 : f ρ with
  | none => rw [e1] at ef; cases ef
  | some d =>
    rw [e1] at ef
    cases ef
    exact hi _ _ _ ⟨Hf0, H0, Hf, ρ, d, so, e1, fun v Hf' H' x r => k _ Hf' H' x.f ((so.step x).setIm r)⟩
theorem zst {te : TE} {i : Nat} {f : List Sl -> Option (List D)} (hp : PS X st (zf8 te (zfp i))) (hi : ∀ σ H Q, tDO (Gx c X) f σ H Q -> te σ H Q) : DS c X st (zeu i f) := PS.imp hp fun E σ H q_ => by
  obtain ⟨Hf0, H0, Hf, ρ, o, so, ef, k⟩ := q_
  unfold zeu at ef
  cases e1 : f ρ with
  | none => rw [e1] at ef; cases ef
  | some d =>
    rw [e1] at ef
    cases ef
    exact hi _ _ _ ⟨Hf0, H0, Hf, ρ, d, so, e1, fun l vs Hf' H' x hn hf hl r => k _ Hf' H' x.f (so.setOwn (s := .own d) rfl x hn hf ⟨vs, hl, r⟩)⟩
theorem zft (i : Nat) {x : Str} {f : List Sl -> Option D} {pos' : Pos} (hN : X.N.Nodup) (he : DE c X e f) (hi : X.N[i]? = some x := by rfl) (hx : Loc X.env.scope x := by first | exact Or.inl rfl | exact Or.inr rfl) (hs : swapsWith e (some (.Name x pos')) pos.line X.env = pure false := by rfl) (hf : X.fn x = true \/ X.env.scope.names.lookup x = some .local := by first | exact .inl rfl | exact .inr rfl) :
    DS c X (.Assign [.Name x pos'] e pos) (zco i f) := zvc (zjg hN hi hx he hs hf) fun _ _ _ h => h
theorem zvo (i : Nat) {x : Str} {f : List Sl -> Option (List D)} {pos' : Pos} (hN : X.N.Nodup) (he : DO c X e f) (hi : X.N[i]? = some x := by rfl) (hx : Loc X.env.scope x := by first | exact Or.inl rfl | exact Or.inr rfl) (hs : swapsWith e (some (.Name x pos')) pos.line X.env = pure false := by rfl) (hf : X.fn x = true \/ X.env.scope.names.lookup x = some .local := by first | exact .inl rfl | exact .inr rfl) :
    DS c X (.Assign [.Name x pos'] e pos) (zeu i f) := zst (zjg hN hi hx he hs hf) fun _ _ _ h => h
theorem zbm {f : List Sl -> Option D} (he : DE c X e f) : DS c X (.Return (some e) pos) (zbb f) := PS.imp (zhg he) fun E σ H q_ => by
  obtain ⟨Hf0, H0, Hf, ρ, o, so, ef, k⟩ := q_
  unfold zbb at ef
  cases e1 : f ρ with
  | none => rw [e1] at ef; cases ef
  | some d =>
    rw [e1] at ef
    cases ef
    exact ⟨Hf0, H0, Hf, ρ, d, so, e1, fun v Hf' H' x r => k v Hf' H' (so.ext.trans x) r⟩
noncomputable def zct (f : List Sl -> Option D) (ρ : List Sl) : Option Fl := (f ρ).map fun d => .rtS d ρ
theorem zej {f : List Sl -> Option D} (he : DE c X e f) : DS c X (.Return (some e) pos) (zct f) := PS.imp (zhg he) fun E σ H q_ => by
  obtain ⟨Hf0, H0, Hf, ρ, o, so, ef, k⟩ := q_
  unfold zct at ef
  cases e1 : f ρ with
  | none => rw [e1] at ef; cases ef
  | some d =>
    rw [e1] at ef
    cases ef
    exact ⟨Hf0, H0, Hf, ρ, d, so, e1, fun v Hf' H' x r => k v σ Hf' H' (so.step x) r⟩
theorem zob {f : List Sl -> Option (List D)} (he : DO c X e f) : DS c X (.Return (some e) pos) (zj5 f) := PS.imp (zhg he) fun E σ H q_ => by
  obtain ⟨Hf0, H0, Hf, ρ, o, so, ef, k⟩ := q_
  unfold zj5 at ef
  cases e1 : f ρ with
  | none => rw [e1] at ef; cases ef
  | some d =>
    rw [e1] at ef
    cases ef
    exact ⟨Hf0, H0, Hf, ρ, d, so, e1, fun l vs Hf' H' x hn hf hl r => k l vs Hf' H' (so.ext.trans x) (so.ext.h.free hn) hf hl r⟩
theorem ziu {fi : List Sl -> Option (List D)} {g : D -> List Sl -> Option (List Sl)} {kk : Nat} (hp : PassesOwn (model X.prog X.w) X.A X.env X.xe) (hc : X.calm = true) (hi : DI c X tg iter fi) (hg : DG c X tg kk g) (hb : DSs c X a F) (hs : ∀ x, foldedSetIterable iter X.env x = pure x := by intro _; rfl) :
    DS c X (.For tg iter a [] pos) (zex fi g F) := PS.imp (zso hp hc hi hg.pg hb hs) fun E σ H q_ => by
  obtain ⟨Hf0, H0, Hf, ρ, o, so, ef, k⟩ := q_
  unfold zex at ef
  cases e1 : fi ρ with
  | none => rw [e1] at ef; cases ef
  | some ds =>
    rw [e1] at ef
    replace ef : zdd g F ds ρ = some o := ef
    refine ⟨Hf0, H0, Hf, ρ, ds, so, e1, fun J Hf1 H1 x1 it => ?_⟩
    refine ⟨fun i m σ' H' => m = ds.length - i /\ i <= ds.length /\ ∃ Hf' ρ', zac (Gx c X) Hf0 H0 Hf' H' σ' ρ' /\ zae Hf1 Hf' /\ zdd g F (ds.drop i) ρ' = some o, ⟨ds.length, rfl, Nat.zero_le _, Hf1, ρ, so.step x1, zae.refl _, ef⟩, ?_⟩
    rintro i m σ' H' ⟨rfl, hi', Hf', ρ', so', s1, em⟩
    obtain ⟨it1, it2⟩ := it Hf' H' s1 so'.sub i
    by_cases hlt : i < ds.length
    · obtain ⟨d, ed, edr⟩ := zn4 hlt
      obtain ⟨go, yl⟩ := it1 d ed
      rw [edr] at em
      unfold zdd at em
      refine .inr ⟨go, fun σ2 H2 => ds.length - (i + 1) = ds.length - (i + 1) /\ i + 1 <= ds.length /\ ∃ Hf' ρ', zac (Gx c X) Hf0 H0 Hf' H2 σ2 ρ' /\ zae Hf1 Hf' /\ zdd g F (ds.drop (i + 1)) ρ' = some o, fun σ2 H2 w => ⟨ds.length - (i + 1), by omega, w⟩, fun x H2 y => ?_⟩
      obtain ⟨Hf2, x2, rx⟩ := yl x H2 y
      cases eg : g d ρ' with
      | none => rw [eg] at em; cases em
      | some ρ1 =>
        rw [eg] at em
        replace em : (F ρ1).bind _ = _ := em
        cases eF : F ρ1 with
        | none => rw [eF] at em; cases em
        | some o1 =>
          rw [eF] at em
          refine ⟨Hf0, H0, Hf2, ρ', d, ρ1, so'.step x2, rx, eg, fun σ3 so3 => ⟨Hf0, H0, Hf2, ρ1, o1, so3, eF, ?_⟩⟩
          have sf := s1.trans x2.f
          cases o1 with
          | nx ρ2 => exact fun σ4 Hf4 H4 s4 so4 => ⟨rfl, hlt, Hf4, ρ2, so4, sf.trans s4, em⟩
          | ct ρ2 => exact fun σ4 Hf4 H4 s4 so4 => ⟨rfl, hlt, Hf4, ρ2, so4, sf.trans s4, em⟩
          | bk ρ2 => cases em; exact fun σ4 Hf4 H4 s4 so4 => k σ4 Hf4 H4 ((x1.f.trans sf).trans s4) so4
          | rt d => cases em; exact k
          | rtO d => cases em; exact k
          | rtS d ρ2 => cases em; exact k
          | rtT o' => cases em; exact k
    · have ei : i = ds.length := by omega
      subst ei
      rw [List.drop_eq_nil_of_le (Nat.le_refl _)] at em
      cases em
      exact .inl ⟨it2 rfl, k σ' Hf' H' (x1.f.trans s1) so'⟩
end
noncomputable def zjd : Fl -> Option D
  | .rt d => some d
  | .rtO ds => some (.lst ds)
  | .rtS d _ => some d
  | .nx _ => some .non
  | _ => none
noncomputable def zdp (n : Nat) (ds : List D) : List Sl := ds.map .im ++ List.replicate (n - ds.length) .no
noncomputable def zbn (n : Nat) (F : List Sl -> Option Fl) (ds : List D) : Option D := (F (zdp n ds)).bind zjd
noncomputable def spD (G : Gc) (n : Nat) (m : List D -> Option D) : Sp := fun vs H Q _ => ∃ Hf ds d, zae Hf H /\ zab G Hf ds vs /\ ds.length = n /\ m ds = some d /\ ∀ v Hf' H', Ext Hf H Hf' H' -> Rep G Hf' d v -> Q v H'
theorem zac.start {G : Gc} {Hf H : Hp} {N : List Str} {ds : List D} {vs : List V} (s0 : zae Hf H) (r : zab G Hf ds vs) : zac G Hf H Hf H (start N vs) (zdp N.length ds) := by
  have hl := r.length
  have im : ∀ (i : Nat) (s : Sl), (zdp N.length ds)[i]? = some s -> s = .no \/ ∃ d, ds[i]? = some d /\ s = .im d := fun i s b => by
    unfold zdp at b
    by_cases hi : i < ds.length
    · rw [List.getElem?_append_left (by simpa using hi)] at b
      obtain ⟨d, ed, es⟩ := zgi b
      exact .inr ⟨d, ed, es⟩
    · rw [List.getElem?_append_right (by simpa using Nat.le_of_not_lt hi)] at b
      obtain ⟨_, e⟩ := List.getElem?_eq_some_iff.mp b
      rw [List.getElem_replicate] at e
      exact .inl e.symm
  refine ⟨Ext.refl s0, by simp [L2.start, zdp, hl], fun i v s a b => ?_, fun i j s t v w l a b c d p q => ?_⟩
  · rcases im i s b with e | ⟨d, ed, es⟩
    · subst e; trivial
    · subst es
      obtain ⟨u, eu, ru⟩ := r.get ed
      refine ⟨u, ?_, ru⟩
      have hi : i < vs.length := (List.getElem?_eq_some_iff.mp eu).1
      unfold L2.start at a
      rw [List.getElem?_append_left (by simpa using hi), List.getElem?_map, eu] at a
      exact (Option.some.inj a).symm
  · rcases im i s a with e | ⟨d, ed, es⟩
    · subst e; exact (p.calm rfl).elim
    · subst es; exact (p.calm rfl).elim
section
variable {P : Program} {w : World} {K : PySem.W.Frag} {mg : Str -> Option Value} {base : Heap} {c : Str -> Addr}
theorem zcj {x qual : Str} {st : Stmt} {f : Addr} {fd : FuncData} {N ps : List Str} {k : Nat} {F : List Sl -> Option Fl} (Fn : Fun K x qual st f fd) (S : zba N ps (zal st))
    (h : ∀ (cdv : Value) (A : Around) (outer : List Env) (s : Shared) (H : Hp) (E : XK), zaz k (A.deeper (envOfC qual (zal st) s.heap.objs.size f cdv)) -> DSs c (zd7 CX0 P w K mg base N qual (zal st) f cdv A outer s H E).nox (za5 st) F) :
    zar P w K mg base CX0 (k + 1) f fd ps (spD ⟨K, c⟩ ps.length (zbn N.length F)) := by
  refine Fn.ok S (fun vs H Q E ⟨Hf, ds, d, s0, r, hl, _⟩ => by rw [<- r.length]; exact hl) fun cdv A outer s H vs Q E hr ⟨Hf, ds, d, s0, r, hl, e, kq⟩ => ⟨_, h cdv A outer s H E hr, ?_⟩
  unfold zbn at e
  cases eF : F (zdp N.length ds) with
  | none => rw [eF] at e; cases e
  | some o =>
    rw [eF] at e
    replace e : zjd o = some d := e
    refine ⟨Hf, H, Hf, _, o, zac.start s0 r, eF, ?_⟩
    cases o with
    | nx ρ => cases e; exact fun σ' Hf' H' _ so => kq _ Hf' H' so.ext rfl
    | bk ρ => cases e
    | ct ρ => cases e
    | rt d => cases e; exact kq
    | rtO rs => cases e; exact fun l vs Hf' H' x hn hf hl r => kq _ (upd Hf' l (.lst vs)) H' (x.fix hn hf hl) ⟨l, vs, rfl, zbp, r.up (zc6 hf)⟩
    | rtS d ρ => cases e; exact fun v σ' Hf' H' so r => kq v Hf' H' so.ext r
    | rtT o => cases e
end
section
variable {c : Str -> Addr} {X : Cx} {k : Nat} {f C : Addr} {fd : FuncData} {ps : List Str} {x : Str} {p pos apos : Pos} {e o : Expr} {es : List Expr} {fa : List Sl -> Option (List D)}
theorem zbx {m : List D -> Option D} (F : zar X.prog X.w X.K X.mg X.base CX0 k f fd ps (spD (Gx c X) ps.length m)) (hr : zaz k X.A) (hg : Gl X x) (hm : X.mg x = some (.ref f)) (hk : PySem.W.keepIn X.K (.ref f) = true) (hb : za2 X.K fd ps []) (ha : DA c X (e :: es) fa)
    (hl : (e :: es).length = ps.length := by rfl) (hdb : (x == ("__debug__" : Str)) = false := by decide) (he : starEach (e :: es) X.env = (false, eval e X.env) :: starEach es X.env := by rfl) (hpl : (backTo pos (starEach es X.env)).any (·.1) = false := by rfl) :
    DE c X (.Call (.Name x p) (e :: es) [] pos) (zah m fa) := PE.imp (zhl F hr hg hm hk hb .nil zf6 ha.pa hdb he hpl) fun σ H Q q_ => by
  obtain ⟨Hf0, H0, Hf, ρ, d, st, ef, kq⟩ := q_
  obtain ⟨ds, e1, e2⟩ := zi7 ef
  refine ⟨Hf0, H0, Hf, ρ, ds, st, e1, fun vs Hf' H' x r => ?_⟩
  dsimp only
  rw [List.append_nil]
  exact ⟨Hf', ds, d, x.s, r, (ha.len ρ ds e1).trans hl, e2, fun v Hf2 H2 x2 r2 => kq v Hf2 H2 (x.trans x2) r2⟩
noncomputable def zkp (m : List D -> Option D) (f : List Sl -> Option (List D)) (ρ : List Sl) : Option D := (f ρ).bind fun ds => (m ds).bind fun d => if d.scalar then some d else none
end
end L2
namespace L2
open PySem PySem.Spec PyProof.Rows
section
variable {c : Str -> Addr} {X : Cx} {k : Nat} {f C : Addr} {fd : FuncData} {ps : List Str} {x fl cn : Str} {p pos apos : Pos} {e o : Expr} {es : List Expr} {fo : List Sl -> Option D} {fa : List Sl -> Option (List D)}
end
section
variable {c : Str -> Addr} {X : Cx} {cn fl : Str} {e o : Expr} {sts : List Stmt} {pos pos' : Pos} {m : List Sl -> Option D} {fs : List (Str × (List Sl -> Option D))}
end
section
variable {P : Program} {w : World} {K : PySem.W.Frag} {mg : Str -> Option Value} {base : Heap} {c : Str -> Addr}
end
section
variable {c : Str -> Addr} {X : Cx} {k : Nat} {f : Addr} {fd : FuncData} {ps : List Str} {x cn : Str} {p pos : Pos} {e : Expr} {es : List Expr} {fa : List Sl -> Option (List D)}
end
end L2
namespace L2
open PySem PySem.Spec PyProof.Rows
theorem zrx {i : Nat} {f : List Sl -> Option D} {ρ : List Sl} {d : D} (h : f ρ = some d) : zco i f ρ = some (.nx (ρ.set i (.im d))) := by
  unfold zco
  rw [h]
  rfl
theorem zpi {i : Nat} {f : List Sl -> Option (List D)} {ρ : List Sl} {d : List D} (h : f ρ = some d) : zeu i f ρ = some (.nx (ρ.set i (.own d))) := by
  unfold zeu
  rw [h]
  rfl
theorem zu7 {f : List Sl -> Option D} {ρ : List Sl} {d : D} (h : f ρ = some d) : zbb f ρ = some (.rt d) := by
  unfold zbb
  rw [h]
  rfl
theorem zap {m : List D -> Option D} {f : List Sl -> Option (List D)} {ρ : List Sl} {ds : List D} {d : D} (h : f ρ = some ds) (h' : m ds = some d) : zah m f ρ = some d := by
  unfold zah
  rw [h]
  exact h'
theorem zir {α : Type} {h : D -> Option (Option D)} (f : α -> D) (p : α -> Bool) (q : α -> D) : ∀ (xs : List α), (∀ x ∈ xs, h (f x) = some (if p x then some (q x) else none)) -> zcl h (xs.map f) = some ((xs.filter p).map q)
  | [], _ => rfl
  | x :: xs, hh => by
    rw [List.map_cons]
    unfold zcl
    rw [hh x List.mem_cons_self, zir f p q xs fun y hy => hh y (List.mem_cons_of_mem _ hy)]
    cases hp : p x with
    | true => rw [List.filter_cons_of_pos hp]; rfl
    | false => rw [List.filter_cons_of_neg (by rw [hp]; exact Bool.false_ne_true)]; rfl
theorem zsf {α : Type} {h : D -> Option (Option D)} (f : α -> D) (q : α -> D) (xs : List α) (hh : ∀ x ∈ xs, h (f x) = some (some (q x))) : zcl h (xs.map f) = some (xs.map q) := by
  have := zir (h := h) f (fun _ => true) q xs fun x hx => (hh x hx).trans rfl
  rw [this, List.filter_eq_self.mpr fun _ _ => rfl]
theorem zu8 {α : Type} {k : Nat} {js : List Nat} {fi : List Sl -> Option (List D)} {g : D -> List Sl -> Option (List Sl)} {ft : List Sl -> Option Bool} {fe : List Sl -> Option D} {ρ : List Sl} (xs : List α) (f : α -> D) (p : α -> Bool) (q : α -> D)
    (hi : fi ρ = some (xs.map f)) (hz : xs.length <= 16777216) (hh : ∀ x ∈ xs, zdf g ft fe (zb9 k js ρ) (f x) = some (if p x then some (q x) else none)) : zcs k js fi g ft fe ρ = some ((xs.filter p).map q) := by
  unfold zcs
  rw [hi]
  show (if (xs.map f).length <= 16777216 then _ else none) = _
  rw [List.length_map, if_pos hz]
  exact zir f p q xs hh
theorem zp7 {α : Type} {k : Nat} {js : List Nat} {fi : List Sl -> Option (List D)} {g : D -> List Sl -> Option (List Sl)} {ft : List Sl -> Option Bool} {fe : List Sl -> Option D} {ρ : List Sl} (xs : List α) (f : α -> D) (q : α -> D)
    (hi : fi ρ = some (xs.map f)) (hz : xs.length <= 16777216) (hh : ∀ x ∈ xs, zdf g ft fe (zb9 k js ρ) (f x) = some (some (q x))) : zcs k js fi g ft fe ρ = some (xs.map q) := by
  unfold zcs
  rw [hi]
  show (if (xs.map f).length <= 16777216 then _ else none) = _
  rw [List.length_map, if_pos hz]
  exact zsf f q xs hh
theorem zrz (lo : Int) (n : Nat) : rng lo n = (List.range n).map fun (i : Nat) => D.int (lo + i) := rfl
noncomputable def zc3 : Nat -> D -> Prop
  | 0, _ => False
  | n + 1, d => match d with
    | .lst xs => ∀ x ∈ xs, zc3 n x
    | .tup xs => ∀ x ∈ xs, zc3 n x
    | d => d.scalar = true
theorem zc3.mono : ∀ (n : Nat) (d : D), zc3 n d -> zc3 (n + 1) d
  | 0, _, h => h.elim
  | n + 1, d, h => by
    cases d with
    | lst xs => exact fun x hx => zc3.mono n x (h x hx)
    | tup xs => exact fun x hx => zc3.mono n x (h x hx)
    | _ => exact h
theorem zc3.le {n m : Nat} {d : D} (h : zc3 n d) (hm : n <= m) : zc3 m d := by
  induction hm with
  | refl => exact h
  | step _ ih => exact zc3.mono _ _ ih
theorem zck (i j : Int) : dEq (.int i) (.int j) = some (.bl (i == j)) := rfl
theorem zgj (i j : Str) : dEq (.str i) (.str j) = some (.bl (i == j)) := rfl
theorem zm4 (i j : Bool) : dEq (.bl i) (.bl j) = some (.bl (i == j)) := rfl
theorem zup (i j : Int) : dNe (.int i) (.int j) = some (.bl (!(i == j))) := rfl
theorem zqz (i j : Str) : dNe (.str i) (.str j) = some (.bl (!(i == j))) := rfl
end L2
namespace L2
open PySem PySem.Spec PyProof.Rows
theorem zan {m : D -> D -> Option D} {f g : List Sl -> Option D} {ρ : List Sl} {x y d : D} (h1 : f ρ = some x) (h2 : g ρ = some y) (h3 : m x y = some d) : m2 m f g ρ = some d := by
  unfold m2
  rw [h1, h2]
  exact h3
theorem zb0 {f : List Sl -> Option D} {ρ : List Sl} {b : Bool} (h : f ρ = some (.bl b)) : mB f ρ = some b := by
  unfold mB
  rw [h]
  rfl
theorem zel {f : List Sl -> Option D} {ρ : List Sl} {d : D} {b : Bool} (h : f ρ = some d) (h' : zjv d = some b) : zc5 f ρ = some b := by
  unfold zc5
  rw [h]
  exact h'
theorem zfx {f : List Sl -> Option Bool} {ρ : List Sl} {b : Bool} (h : f ρ = some b) : zdb f ρ = some (!b) := by
  unfold zdb
  rw [h]
  rfl
theorem zsn {f g : List Sl -> Option Bool} {ρ : List Sl} {r : Option Bool} (h : f ρ = some true) (h' : g ρ = r) : zgh f g ρ = r := by
  unfold zgh
  rw [h]
  exact h'
theorem zqn {f g : List Sl -> Option Bool} {ρ : List Sl} (h : f ρ = some false) : zgh f g ρ = some false := by
  unfold zgh
  rw [h]
  rfl
theorem zuy {f g : List Sl -> Option Bool} {ρ : List Sl} (h : f ρ = some true) : mOr f g ρ = some true := by
  unfold mOr
  rw [h]
  rfl
theorem zrk {f g : List Sl -> Option Bool} {ρ : List Sl} {r : Option Bool} (h : f ρ = some false) (h' : g ρ = r) : mOr f g ρ = r := by
  unfold mOr
  rw [h]
  exact h'
theorem zu2 {f g : List Sl -> Option Bool} {ρ : List Sl} {a b : Bool} (h : f ρ = some a) (h' : g ρ = some b) : zgh f g ρ = some (a && b) := by
  cases a with
  | true => exact zsn h h'
  | false => exact zqn h
theorem zjq {f g : List Sl -> Option Bool} {ρ : List Sl} {a b : Bool} (h : f ρ = some a) (h' : g ρ = some b) : mOr f g ρ = some (a || b) := by
  cases a with
  | true => exact zuy h
  | false => exact zrk h h'
theorem zdc {f g : List Sl -> Option D} {ρ : List Sl} {a b : Bool} (h : f ρ = some (.bl a)) (h' : g ρ = some (.bl b)) : zch f g ρ = some (.bl (a && b)) := by
  unfold zch
  rw [zb0 h]
  cases a with
  | true => exact h'
  | false => rfl
theorem zjy {f g : List Sl -> Option D} {ρ : List Sl} {a b : Bool} (h : f ρ = some (.bl a)) (h' : g ρ = some (.bl b)) : vOr f g ρ = some (.bl (a || b)) := by
  unfold vOr
  rw [zb0 h]
  cases a with
  | true => rfl
  | false => exact h'
theorem zl8 {f : List Sl -> Option D} {ρ : List Sl} {a : Bool} (h : f ρ = some (.bl a)) : zf0 f ρ = some (.bl (!a)) := by
  unfold zf0
  rw [zb0 h]
  rfl
theorem zat {f : List Sl -> Option D} {g : List Sl -> Option (List D)} {ρ : List Sl} {d : D} {ds : List D} (h : f ρ = some d) (h' : g ρ = some ds) : zad f g ρ = some (d :: ds) := by
  unfold zad
  rw [h, h']
  rfl
theorem zuq {f : List Sl -> Option (List D)} {ρ : List Sl} {ds : List D} (h : f ρ = some ds) : zm7 f ρ = some (.tup ds) := by
  unfold zm7
  rw [h]
  rfl
theorem zfq {f : List Sl -> Option (List D)} {ρ : List Sl} {ds : List D} (h : f ρ = some ds) : zcf f ρ = some (.lst ds) := by
  unfold zcf
  rw [h]
  rfl
theorem zri {f : List Sl -> Option (List D)} {g : List Sl -> Option D} {ρ : List Sl} {ds : List D} {i : Int} {r : Option D} (h : f ρ = some ds) (h' : g ρ = some (.int i)) (h2 : atI ds i = r) : mIx f g ρ = r := by
  unfold mIx
  rw [h, h']
  exact h2
theorem zfh {C : Int -> Int -> Prop} [∀ i j, Decidable (C i j)] {g : Int -> Int -> D} {i j : Int} (h : C i j) : dI C g (.int i) (.int j) = some (g i j) := by
  show (if C i j then some (g i j) else none) = _
  rw [if_pos h]
theorem zkx {g : D -> List Sl -> Option (List Sl)} {ft : List Sl -> Option Bool} {fe : List Sl -> Option D} {ρ ρ1 : List Sl} {d y : D} {b : Bool} (h1 : g d ρ = some ρ1) (h2 : ft ρ1 = some b) (h3 : b = true -> fe ρ1 = some y) : zdf g ft fe ρ d = some (if b then some y else none) := by
  unfold zdf
  rw [h1]
  show (ft ρ1).bind _ = _
  rw [h2]
  show (if b = true then (fe ρ1).map some else some none) = _
  cases b with
  | true => rw [h3 rfl]; rfl
  | false => rfl
theorem zq4 {g : D -> List Sl -> Option (List Sl)} {ft : List Sl -> Option Bool} {fe : List Sl -> Option D} {ρ ρ1 : List Sl} {d y : D} (h1 : g d ρ = some ρ1) (h2 : ft ρ1 = some true) (h3 : fe ρ1 = some y) : zdf g ft fe ρ d = some (some y) := zkx h1 h2 fun _ => h3
theorem zjo {f : List Sl -> Option D} {ρ : List Sl} {d : D} {ds : List D} (h : f ρ = some d) (h' : zeq d = some ds) : zet f ρ = some ds := by
  unfold zet
  rw [h]
  exact h'
end L2
namespace L2
open PySem PySem.Spec PyProof.Rows
end L2
namespace L2
open PySem PySem.Spec PyProof.Rows
noncomputable def itD (z : Int × Int) : D := .tup [.int z.1, .int z.2]
noncomputable def InN (n : Nat) (its : List (Int × Int)) : Prop := ∀ z ∈ its, 0 <= z.1 /\ z.1 < (n : Int) /\ 0 <= z.2
noncomputable def Prt.obj : Prt -> D
  | .inn t => .ins "In" ["thing"] [.int t]
  | .out t => .ins "Out" ["thing"] [.int t]
  | .least k its => .ins "Least" ["bound", "pieces"] [.int k, .lst (its.map itD)]
  | .most k its => .ins "Most" ["bound", "pieces"] [.int k, .lst (its.map itD)]
noncomputable def Prt.Ok (n : Nat) : Prt -> Prop
  | .inn t => 0 <= t /\ t < (n : Int)
  | .out t => 0 <= t /\ t < (n : Int)
  | .least _ its => InN n its /\ its.length <= 100000
  | .most _ its => InN n its /\ its.length <= 100000
end L2
namespace L2
open PySem PySem.Spec PyProof.Rows
theorem zm0 : ∀ {bs : List Bool} {us : List Value}, zaf (bs.map V.bl) us -> us = bs.map Value.bool
  | [], _, .nil => rfl
  | b :: bs, _, .cons r t => by
    rw [zm0 t]
    cases (show _ = Value.bool b from r)
    rfl
theorem zoo (bs : List Bool) : ((List.range bs.length).all fun i => (bs[i]?).getD true) = bs.all id := by
  rw [Bool.eq_iff_iff, List.all_eq_true, List.all_eq_true]
  constructor
  · intro h b hb
    obtain ⟨i, hi, e⟩ := List.getElem_of_mem hb
    have := h i (List.mem_range.mpr hi)
    simp only [List.getElem?_eq_getElem hi, Option.getD_some, e] at this
    exact this
  · intro h i hi
    have hi' := List.mem_range.mp hi
    simp only [List.getElem?_eq_getElem hi', Option.getD_some]
    exact h _ (List.getElem_mem hi')
section
variable {c : Str -> Addr} {X : Cx}
theorem ztv {h h' : Heap} {o : Obj} (hk : ∀ b x, b ∉ [h.objs.size] -> (h.push o).get? b = some x -> h'.get? b = some x) : ∀ b x, h.get? b = some x -> h'.get? b = some x :=
  fun b x e => hk b x (fun hm => by rw [List.mem_singleton.mp hm] at e; exact Nat.lt_irrefl _ (Heap.lt_size e)) (Heap.get?_push_of_some _ e)
theorem zpd (hc : X.calm = true) : zbr X (.builtin "all") (fun xs H Q => ∃ (p : Addr) (bs : List Bool), xs = [.ref p] /\ SqL X.K H p (bs.map V.bl) /\ Q (.bl (bs.all id)) H) := by
  intro pins s σ H xs us Q I r h
  obtain ⟨l, bs, rfl, hq, q⟩ := h
  obtain ⟨u, rfl, rx⟩ := zfy r
  cases rx
  obtain ⟨its, r', pl, hz⟩ := I.list hq
  have e := zm0 r'
  subst e
  have hl := pl.isList
  have hlt : l < s.heap.objs.size := by obtain ⟨_, e, _⟩ := hl; exact Heap.lt_size e
  refine call_all_walk (wpAny_pyIter_list hl ?_)
  refine ⟨s.heap.objs.size, [s.heap.objs.size, l], [s.heap.objs.size], (bs.map Value.bool).toArray.size, _, _, fun i => (bs[i]?).getD true, rfl, Walks.list (A := X.A.in1) (I.ok.hd hc) _ l (Nat.ne_of_lt hlt) (bs.map Value.bool).toArray,
    ⟨⟨_, Heap.get?_push_size _ rfl, rfl, rfl⟩, hl.push _⟩, fun i v s' Q' E' hP hQ => ?_, fun h' tk hk => ?_⟩
  · have hP' : (bs.map Value.bool)[i]? = some v := by simpa using hP
    obtain ⟨b, e, rfl⟩ := zgi hP'
    simp only [e, Option.getD_some] at hQ
    exact wpAny_truthy_bool hQ
  · have e : ((List.range (bs.map Value.bool).toArray.size).all fun i => (bs[i]?).getD true) = bs.all id := by
      rw [List.size_toArray, List.length_map]; exact zoo bs
    rw [e]
    exact ⟨.bl (bs.all id), H, I.kept (ztv hk), rfl, q⟩
noncomputable def zby : List D -> Option (List Bool)
  | [] => some []
  | .bl b :: ds => (zby ds).map fun r => b :: r
  | _ => none
theorem zmy : ∀ {ds : List D} {bs : List Bool}, zby ds = some bs -> ds = bs.map D.bl
  | [], _, e => by cases e; rfl
  | .bl b :: ds, _, e => by
    unfold zby at e
    cases es : zby ds with
    | none => rw [es] at e; cases e
    | some r => rw [es] at e; cases e; rw [zmy es]; rfl
  | .int _ :: _, _, e => by cases e
  | .non :: _, _, e => by cases e
  | .str _ :: _, _, e => by cases e
  | .lst _ :: _, _, e => by cases e
  | .tup _ :: _, _, e => by cases e
  | .kl _ :: _, _, e => by cases e
  | .kt _ :: _, _, e => by cases e
  | .dic _ _ :: _, _, e => by cases e
  | .ins _ _ _ :: _, _, e => by cases e
theorem zl7 (bs : List Bool) : zby (bs.map D.bl) = some bs := by
  induction bs with
  | nil => rfl
  | cons n ns ih => rw [List.map_cons, zby, ih]; rfl
theorem zab.bls {G : Gc} {H : Hp} : ∀ {bs : List Bool} {vs : List V}, zab G H (bs.map D.bl) vs -> vs = bs.map V.bl
  | [], _, h => h
  | b :: bs, _, ⟨v, r, e, h1, h2⟩ => by
    subst e
    rw [zab.bls h2, show v = V.bl b from h1]
    rfl
noncomputable def ze4 : List D -> Option D
  | [d] => (lsD d).bind fun ds => (zby ds).map fun bs => .bl (bs.all id)
  | _ => none
noncomputable def zlr : List D -> Option D
  | [d] => (lsD d).bind fun ds => (zby ds).map fun bs => .bl (bs.any id)
  | _ => none
theorem zk5 {f : List Bool -> D} {ds : List D} {d : D} (e : (match ds with | [d] => (lsD d).bind fun ds => (zby ds).map f | _ => none) = some d) : ∃ d0 xs bs, ds = [d0] /\ lsD d0 = some xs /\ xs = bs.map D.bl /\ d = f bs := by
  split at e
  · rename_i d0
    cases e1 : lsD d0 with
    | none => rw [e1] at e; cases e
    | some xs =>
      rw [e1] at e
      replace e : (zby xs).map f = some d := e
      cases e2 : zby xs with
      | none => rw [e2] at e; cases e
      | some bs => rw [e2] at e; cases e; exact ⟨d0, xs, bs, rfl, e1, zmy e2, rfl⟩
  · cases e
theorem zsy (hc : X.calm = true) : zh7 c X (.builtin "all") ze4 := by
  rintro pins s σ H vs us Q I rv ⟨Hf, ds, d, s0, r, e, k⟩
  obtain ⟨d0, xs, bs, rfl, e1, rfl, rfl⟩ := zk5 e
  obtain ⟨v, ev, r1⟩ := r.one
  subst ev
  obtain ⟨a, ws, ea, q, rs⟩ := zjh e1 r1
  subst ea
  refine zpd hc pins s σ H _ us Q I rv ⟨a, bs, rfl, ?_, k _ Hf H (Ext.refl s0) rfl⟩
  rw [<- rs.bls]
  exact s0.seq q
theorem zsx : ∀ ds d, ze4 ds = some d -> d.scalar = true := fun ds d e => by
  obtain ⟨d0, xs, bs, rfl, e1, rfl, rfl⟩ := zk5 e
  rfl
theorem zqo (bs : List Bool) : ze4 [.lst (bs.map D.bl)] = some (.bl (bs.all id)) := by
  show (zby (bs.map D.bl)).map _ = _
  rw [zl7]
  rfl
theorem zud (bs : List Bool) : zlr [.lst (bs.map D.bl)] = some (.bl (bs.any id)) := by
  show (zby (bs.map D.bl)).map _ = _
  rw [zl7]
  rfl
end
end L2
namespace L2
open PySem PySem.Spec PyProof.Rows
inductive Wrd where
  | make | may | never
  deriving DecidableEq
noncomputable def Wrd.s : Wrd -> Str
  | .make => "make"
  | .may => "may"
  | .never => "never"
structure Rul where
  w : Wrd
  hd : Int
  ps : List Prt
structure Rul.Ok (n : Nat) (r : Rul) : Prop where
  hd : r.w ≠ .never -> 0 <= r.hd /\ r.hd < (n : Int)
  ps : ∀ p ∈ r.ps, p.Ok n
  len : r.ps.length <= 100000
theorem zkj {α : Type} (f : α -> Bool) (xs : List α) : (xs.map fun x => D.bl (f x)) = (xs.map f).map D.bl := by
  rw [List.map_map]
  rfl
theorem all_map (f : Prt -> Bool) (xs : List Prt) : ze4 [.lst (xs.map fun x => D.bl (f x))] = some (.bl (xs.all f)) := by
  rw [zkj, zqo, List.all_map]
  rfl
theorem any_map (f : Prt -> Bool) (xs : List Prt) : zlr [.lst (xs.map fun x => D.bl (f x))] = some (.bl (xs.any f)) := by
  rw [zkj, zud, List.any_map]
  rfl
end L2
namespace L2
open PySem PySem.Spec PyProof.Rows
structure zmv (es es' : List (Option Bool)) : Prop where
  len : es'.length = es.length
  at' : ∀ i, es.getD i none = none \/ es'.getD i none = es.getD i none
structure zmu (ws ws' : List Bool) : Prop where
  len : ws'.length = ws.length
  at' : ∀ i, ws.getD i false = true -> ws'.getD i false = true
theorem zmv.refl (es : List (Option Bool)) : zmv es es := ⟨rfl, fun _ => .inr rfl⟩
theorem zmu.refl (ws : List Bool) : zmu ws ws := ⟨rfl, fun _ h => h⟩
theorem Prt.Ok.le {n m : Nat} {p : Prt} (h : p.Ok n) (e : m = n) : p.Ok m := e ▸ h
end L2
namespace L2
open PySem PySem.Spec PyProof.Rows
section
variable {X : Cx} {elts : List Expr} {kx : Nat} {tpos : Pos}
end
section
variable {c : Str -> Addr} {X : Cx} {a : Expr} {pos p : Pos}
end
section
variable {c : Str -> Addr} {X : Cx} {st : Stmt} {e a b i' value : Expr} {pos pos' p' : Pos}
end
end L2
namespace L2
open PySem PySem.Spec PyProof.Rows
section
variable {c : Str -> Addr} {X : Cx} {st : Stmt} {e a b i' value : Expr} {pos pos' : Pos}
end
section
variable {c : Str -> Addr} {X : Cx}
open Classical in
end
end L2
namespace L2
open PySem PySem.Spec PyProof.Rows
noncomputable def Ris (xs : Array Nat) : Prop := xs.toList.Pairwise (· < ·)
end L2
namespace L2
open PySem PySem.Spec PyProof.Rows
noncomputable def zfm (P : Program) (w : World) (h : Heap) (a : Addr) (led : Bool) (S : Int -> Bool) (n : Nat) : Prop :=
  ∃ o ents ep tb, h.get? a = some o /\ o.ExactSet /\ o.data = .set ents ep tb /\ ElemsOf (intKind P w) ents.toList /\ (∀ k, S k = true ↔ ∃ e ∈ ents.toList, (intKind P w).is k e.2 = true)
    /\ ents.size < scanBound /\ tb.fits ents.size = true /\ ents.size = n /\ Ris tb.place /\ tb.led = led
section
variable {P : Program} {w : World} {A : Around} {E : Value -> Shared -> Prop} {s : Shared}
theorem zfm.stay {h h' : Heap} {a : Addr} {led : Bool} {S : Int -> Bool} {n : Nat} (q : zfm P w h a led S n) (k : ∀ o, h.get? a = some o -> h'.get? a = some o) : zfm P w h' a led S n := by
  obtain ⟨o, ents, ep, tb, ho, r⟩ := q
  exact ⟨o, ents, ep, tb, k o ho, r⟩
theorem zfm.congr {h : Heap} {a : Addr} {led : Bool} {S S' : Int -> Bool} {n n' : Nat} (q : zfm P w h a led S n) (e : ∀ k, S k = S' k) (en : n = n') : zfm P w h a led S' n' := by
  have : S = S' := funext e
  subst this en
  exact q
end
end L2
namespace L2
open PySem PySem.Spec PyProof.Rows
set_option maxRecDepth 100000
section
variable {P : Program} {w : World} {A : Around} {R : Result -> Shared -> Prop} {I : Addr} {fp wr : List Addr} {G : Array GenState -> Array GenState -> Prop} {n : Nat} {Pv : Nat -> Value -> Prop} {St : Nat -> Shared -> Prop}
end
section
variable {P : Program} {w : World} {A : Around} {E : Value -> Shared -> Prop} {s : Shared}
end
end L2
namespace L2
open PySem PySem.Spec PyProof.Rows
set_option maxRecDepth 100000
section
variable {P : Program} {w : World} {A : Around} {E : Value -> Shared -> Prop} {s : Shared}
end
end L2
namespace L2
open PySem PySem.Spec PyProof.Rows
set_option maxRecDepth 100000
section
variable {P : Program} {w : World} {A : Around} {E : Value -> Shared -> Prop}
end
end L2
namespace L2
open PySem PySem.Spec PyProof.Rows
set_option maxRecDepth 100000
section
variable {P : Program} {w : World} {A : Around} {E : Value -> Shared -> Prop} {s : Shared}
end
end L2
namespace L2
open PySem PySem.Spec PyProof.Rows
set_option maxRecDepth 100000
section
variable {P : Program} {w : World} {A : Around} {E : Value -> Shared -> Prop} {s : Shared} {a : Addr} {o : Obj} {ents : Array (Int × Value)} {ep : Nat} {tb : SetTable}
end
section
variable {P : Program} {w : World} {a I T : Addr} {o : Obj} {ents : Array (Int × Value)} {ep n : Nat} {tb : SetTable}
end
end L2
namespace L2
open PySem PySem.Spec PyProof.Rows
set_option maxRecDepth 100000
section
variable {P : Program} {w : World} {A : Around} {E : Value -> Shared -> Prop} {s : Shared} {a : Addr}
end
end L2
namespace L2
open PySem PySem.Spec PyProof.Rows
set_option maxRecDepth 100000
section
variable {P : Program} {w : World} {A : Around} {E : Value -> Shared -> Prop} {s : Shared} {a : Addr}
end
end L2
namespace L2
open PySem PySem.Spec PyProof.Rows
section
variable {X : Cx} {pins : List (Addr × Obj)} {σ : St} {H : Hp} {s : Shared}
end
end L2
namespace L2
open PySem PySem.Spec PyProof.Rows
section
variable {X : Cx} {e : Expr} {te : TE} {p p2 pos pos2 : Pos}
end
section
variable {c : Str -> Addr} {X : Cx} {e : Expr} {p p2 pos pos2 : Pos}
noncomputable def zff (f g : List Sl -> Option D) (ρ : List Sl) : Option (List D) := (f ρ).bind fun x => (g ρ).bind fun y => match x, y with
  | .lst a, .lst b => if a.length + b.length <= 16777216 then some (a ++ b) else none
  | _, _ => none
theorem ztz {f g : List Sl -> Option D} {ρ : List Sl} {ds : List D} (h : zff f g ρ = some ds) : ∃ a b, f ρ = some (.lst a) /\ g ρ = some (.lst b) /\ a.length + b.length <= 16777216 /\ ds = a ++ b := by
  unfold zff at h
  cases e1 : f ρ with
  | none => rw [e1] at h; cases h
  | some x =>
    cases e2 : g ρ with
    | none => rw [e1, e2] at h; cases h
    | some y =>
      rw [e1, e2, Option.bind_some, Option.bind_some] at h
      split at h
      · split at h
        · rename_i a b hl
          cases h
          exact ⟨a, b, rfl, rfl, hl, rfl⟩
        · cases h
      · cases h
theorem zku {a b : Expr} {f g : List Sl -> Option D} (ha : DE c X a f) (hb : DE c X b g) : DO c X (.BinOp a .Add b pos) (zff f g) := PE.imp (ziw zmh ha hb) fun σ H Q q_ => by
  obtain ⟨Hf0, H0, Hf, ρ, ds, st, ef, k⟩ := q_
  obtain ⟨xs, ys, e1, e2, hl, rfl⟩ := ztz ef
  refine ⟨Hf0, H0, Hf, ρ, _, st, e1, fun v Hf1 H1 x1 r1 => ⟨Hf0, H0, Hf1, ρ, _, st.step x1, e2, fun u Hf2 H2 x2 r2 => ?_⟩⟩
  obtain ⟨l, vs, el, q1, s1⟩ := r1.up x2.f
  obtain ⟨m, us, em, q2, s2⟩ := r2
  subst el em
  have x := x1.trans x2
  exact ⟨l, m, vs, us, rfl, rfl, x2.s _ _ q1, x2.s _ _ q2, by rw [sizeLine_eq, <- s1.length, <- s2.length]; exact hl, fun p hp => k p _ Hf2 _ (x.trans (Ext.tmp x.s hp)) (x.h.free hp) (x.s.free hp) zbp (s1.append s2)⟩
end
end L2
namespace L2
open PySem PySem.Spec PyProof.Rows
noncomputable def wp (F : List Sl -> Option Fl) (ρ : List Sl) (K : Fl -> Prop) : Prop := ∃ o, F ρ = some o /\ K o
noncomputable def zmj (F : List Sl -> Option Fl) (K : Fl -> Prop) : Fl -> Prop
  | .nx ρ => wp F ρ K
  | o => K o
noncomputable def zky (J : List Sl -> Prop) (K : Fl -> Prop) : Fl -> Prop
  | .nx ρ => J ρ
  | .ct ρ => J ρ
  | .bk ρ => K (.nx ρ)
  | o => K o
noncomputable def zib (Q : D -> Prop) (o : Fl) : Prop := ∃ d, zjd o = some d /\ Q d
theorem zay {F F' : List Sl -> Option Fl} {ρ : List Sl} {K : Fl -> Prop} (h : wp F ρ (zmj F' K)) : wp (zas F F') ρ K := by
  obtain ⟨o, e, k⟩ := h
  unfold wp zas
  rw [e]
  cases o with
  | nx ρ' => exact k
  | _ => exact ⟨_, rfl, k⟩
theorem zbz {ρ : List Sl} {K : Fl -> Prop} (h : K (.nx ρ)) : wp zbl ρ K := ⟨_, rfl, h⟩
theorem zfw {i : Nat} {f : List Sl -> Option D} {ρ : List Sl} {d : D} {K : Fl -> Prop} (h : f ρ = some d) (k : K (.nx (ρ.set i (.im d)))) : wp (zco i f) ρ K := ⟨_, zrx h, k⟩
theorem zma {i : Nat} {f : List Sl -> Option (List D)} {ρ : List Sl} {d : List D} {K : Fl -> Prop} (h : f ρ = some d) (k : K (.nx (ρ.set i (.own d)))) : wp (zeu i f) ρ K := ⟨_, zpi h, k⟩
theorem zcq {f : List Sl -> Option D} {ρ : List Sl} {d : D} {K : Fl -> Prop} (h : f ρ = some d) (k : K (.rt d)) : wp (zbb f) ρ K := ⟨_, zu7 h, k⟩
theorem zcb {t : List Sl -> Option Bool} {F F' : List Sl -> Option Fl} {ρ : List Sl} {b : Bool} {K : Fl -> Prop} (h : t ρ = some b) (kT : b = true -> wp F ρ K) (kF : b = false -> wp F' ρ K) : wp (zbq t F F') ρ K := by
  unfold wp zbq
  rw [h]
  cases b with
  | true => exact kT rfl
  | false => exact kF rfl
theorem zmg {α : Type} {g : D -> List Sl -> Option (List Sl)} {F : List Sl -> Option Fl} {K : Fl -> Prop} (f : α -> D) (I : List α -> List Sl -> Prop) : ∀ (post pre : List α) (ρ : List Sl), I pre ρ ->
    (∀ pre' x post' ρ, pre ++ post = pre' ++ x :: post' -> I pre' ρ -> ∃ ρ1, g (f x) ρ = some ρ1 /\ wp F ρ1 (zky (I (pre' ++ [x])) K)) -> (∀ ρ', I (pre ++ post) ρ' -> K (.nx ρ')) -> wp (zdd g F (post.map f)) ρ K
  | [], pre, ρ, h, _, hk => ⟨_, rfl, hk ρ (by rw [List.append_nil]; exact h)⟩
  | x :: post, pre, ρ, h, hs, hk => by
    obtain ⟨ρ1, e1, o, e2, k2⟩ := hs pre x post ρ rfl h
    unfold wp
    rw [List.map_cons]
    unfold zdd
    rw [e1, Option.bind_some, e2, Option.bind_some]
    have go : ∀ ρ2, I (pre ++ [x]) ρ2 -> wp (zdd g F (post.map f)) ρ2 K := fun ρ2 h2 =>
      zmg f I post (pre ++ [x]) ρ2 h2 (by rw [List.append_assoc]; exact hs) (by rw [List.append_assoc]; exact hk)
    cases o with
    | nx ρ2 => exact go ρ2 k2
    | ct ρ2 => exact go ρ2 k2
    | bk ρ2 => exact ⟨_, rfl, k2⟩
    | rt d => exact ⟨_, rfl, k2⟩
    | rtO d => exact ⟨_, rfl, k2⟩
    | rtS d ρ2 => exact ⟨_, rfl, k2⟩
    | rtT o => exact ⟨_, rfl, k2⟩
theorem zj6 {α : Type} {fi : List Sl -> Option (List D)} {g : D -> List Sl -> Option (List Sl)} {F : List Sl -> Option Fl} {ρ : List Sl} {K : Fl -> Prop} (xs : List α) (f : α -> D) (I : List α -> List Sl -> Prop) (hi : fi ρ = some (xs.map f)) (h0 : I [] ρ)
    (hs : ∀ pre x post ρ, xs = pre ++ x :: post -> I pre ρ -> ∃ ρ1, g (f x) ρ = some ρ1 /\ wp F ρ1 (zky (I (pre ++ [x])) K)) (hk : ∀ ρ', I xs ρ' -> K (.nx ρ')) : wp (zex fi g F) ρ K := by
  obtain ⟨o, e, k⟩ := zmg f I xs [] ρ h0 hs hk
  refine ⟨o, ?_, k⟩
  unfold zex
  rw [hi]
  exact e
theorem zvb {n : Nat} {F : List Sl -> Option Fl} {ds : List D} {Q : D -> Prop} (h : wp F (zdp n ds) (zib Q)) : ∃ d, zbn n F ds = some d /\ Q d := by
  obtain ⟨o, e, d, e', q⟩ := h
  refine ⟨d, ?_, q⟩
  unfold zbn
  rw [e]
  exact e'
theorem zdq {n : Nat} {F : List Sl -> Option Fl} {ds : List D} {r : D} (h : wp F (zdp n ds) (zib fun d => d = r)) : zbn n F ds = some r := by
  obtain ⟨d, e, q⟩ := zvb h
  rw [e, q]
theorem zcx {Q : D -> Prop} {d : D} (h : Q d) : zib Q (.rt d) := ⟨d, rfl, h⟩
theorem zpk {t : List Sl -> Option Bool} {f g : List Sl -> Option D} {ρ : List Sl} {b : Bool} {r : Option D} (h : t ρ = some b) (hT : b = true -> f ρ = r) (hF : b = false -> g ρ = r) : vIf t f g ρ = r := by
  unfold vIf
  rw [h]
  cases b with
  | true => exact hT rfl
  | false => exact hF rfl
theorem zs4 {m : List D -> Option D} {f : List Sl -> Option (List D)} {ρ : List Sl} {ds : List D} {d : D} (h : f ρ = some ds) (h' : m ds = some d) (hs : d.scalar = true) : zkp m f ρ = some d := by
  unfold zkp
  rw [h, Option.bind_some, h', Option.bind_some, if_pos hs]
theorem zht {i j : Int} (h : 0 < j) : zf3 (.int i) (.int j) = some (.int (i % j)) := zfh h
theorem zng {i j : Int} (h : zgg i j) : ziq (.int i) (.int j) = some (.int (i / j)) := zfh h
theorem zta {i j : Int} (h : zek i j) : zsc (.int i) (.int j) = some (.int (i * j)) := zfh h
theorem zig {i j : Int} (h : zgn i j) : zg3 (.int i) (.int j) = some (.int (i ^ j.toNat)) := zfh h
theorem zuh {i j : Int} (h : 0 <= j) : ztt (.int i) (.int j) = some (.int (i / 2 ^ j.toNat)) := zfh h
theorem zgk {i j : Int} : zbg (.int i) (.int j) = some (.int (i + j)) := rfl
theorem zi1 {i j : Int} : zhs (.int i) (.int j) = some (.int (i - j)) := rfl
theorem zr0 {i j : Int} : zr6 (.int i) (.int j) = some (.int (Builtin.bitAnd i j)) := rfl
theorem zsw {i j : Int} : dLt (.int i) (.int j) = some (.bl (decide (i < j))) := rfl
theorem zgc {i j : Int} : dLe (.int i) (.int j) = some (.bl (decide (i <= j))) := rfl
theorem zj7 {i j : Int} : dGt (.int i) (.int j) = some (.bl (decide (j < i))) := rfl
theorem zsa {i j : Int} : dGe (.int i) (.int j) = some (.bl (decide (j <= i))) := rfl
theorem zjb {α : Type} (xs : List α) (f : α -> D) : zbf [.lst (xs.map f)] = some (.int xs.length) := by
  show some (D.int ((xs.map f).length : Int)) = _
  rw [List.length_map]
theorem zow {α : Type} (xs : List α) (f : α -> D) : zbf [.kl (xs.map f)] = some (.int xs.length) := by
  show some (D.int ((xs.map f).length : Int)) = _
  rw [List.length_map]
theorem zno {α : Type} (f : α -> D) (xs : List α) (lo hi : Option Int) : zer (xs.map f) lo hi = ((xs.drop (HT.sIx xs.length 0 lo)).take (HT.sIx xs.length xs.length hi - HT.sIx xs.length 0 lo)).map f := by
  unfold zer
  rw [List.length_map, List.map_take, List.map_drop]
theorem zpu {α : Type} {f : List Sl -> Option D} {l h : List Sl -> Option (Option Int)} {ρ : List Sl} {g : α -> D} {xs : List α} {lo hi : Option Int} (e : f ρ = some (.lst (xs.map g))) (e1 : l ρ = some lo) (e2 : h ρ = some hi) : mSl f l h ρ = some (((xs.drop (HT.sIx xs.length 0 lo)).take (HT.sIx xs.length xs.length hi - HT.sIx xs.length 0 lo)).map g) := by
  unfold mSl
  rw [e, Option.bind_some]
  show (l ρ).bind (fun lo => (h ρ).map fun hi => zer (xs.map g) lo hi) = _
  rw [e1, Option.bind_some, e2, <- zno]
  rfl
theorem zmd {α : Type} {f : List Sl -> Option D} {l h : List Sl -> Option (Option Int)} {ρ : List Sl} {g : α -> D} {xs : List α} {lo hi : Option Int} (e : f ρ = some (.kl (xs.map g))) (e1 : l ρ = some lo) (e2 : h ρ = some hi) : mSl f l h ρ = some (((xs.drop (HT.sIx xs.length 0 lo)).take (HT.sIx xs.length xs.length hi - HT.sIx xs.length 0 lo)).map g) := by
  unfold mSl
  rw [e, Option.bind_some]
  show (l ρ).bind (fun lo => (h ρ).map fun hi => zer (xs.map g) lo hi) = _
  rw [e1, Option.bind_some, e2, <- zno]
  rfl
theorem zs2 {α : Type} (xs : List α) (f : α -> D) : dEq (.lst (xs.map f)) (.lst []) = some (.bl xs.isEmpty) := by cases xs <;> rfl
theorem zq1 {α : Type} (xs : List α) (f : α -> D) : dNe (.lst (xs.map f)) (.lst []) = some (.bl (!xs.isEmpty)) := by cases xs <;> rfl
noncomputable def kJ (J : List Sl -> Prop) (o : Fl) : Prop := ∃ ρ', o = .nx ρ' /\ J ρ'
theorem zrm {S F : List Sl -> Option Fl} {ρ : List Sl} {K : Fl -> Prop} (J : List Sl -> Prop) (h : wp S ρ (kJ J)) (k : ∀ ρ', J ρ' -> wp F ρ' K) : wp (zas S F) ρ K := by
  apply zay
  obtain ⟨o, e, ρ', rfl, j⟩ := h
  exact ⟨_, e, k ρ' j⟩
end L2
namespace L2
open PySem PySem.Spec PyProof.Rows
theorem zab.sc {G : Gc} {H H' : Hp} : ∀ {ds : List D} {vs : List V}, ds.all D.scalar = true -> zab G H ds vs -> zab G H' ds vs
  | [], _, _, h => h
  | d :: ds, _, hs, ⟨v, r, e, h1, h2⟩ => by
    rw [List.all_cons, Bool.and_eq_true] at hs
    exact ⟨v, r, e, h1.sc hs.1, zab.sc hs.2 h2⟩
section
variable {c : Str -> Addr} {X : Cx} {e : Expr} {es : List Expr} {x : Str} {p pos : Pos} {k : Nat} {f : Addr} {fd : FuncData} {ps : List Str} {fa : List Sl -> Option (List D)}
noncomputable def ze0 (m m' : D -> D -> Option D) (f g h : List Sl -> Option D) (ρ : List Sl) : Option D := (f ρ).bind fun x => (g ρ).bind fun y => (m x y).bind fun z => match z with
  | .bl true => (h ρ).bind fun w => m' y w
  | .bl false => some (.bl false)
  | _ => none
theorem zpe {m m' : D -> D -> Option D} {f g h : List Sl -> Option D} {ρ : List Sl} {d : D} (e : ze0 m m' f g h ρ = some d) : ∃ x y b, f ρ = some x /\ g ρ = some y /\ m x y = some (.bl b) /\ (b = false -> d = .bl false) /\ (b = true -> ∃ w, h ρ = some w /\ m' y w = some d) := by
  unfold ze0 at e
  cases e1 : f ρ with
  | none => rw [e1] at e; cases e
  | some x =>
    cases e2 : g ρ with
    | none => rw [e1, e2] at e; cases e
    | some y =>
      rw [e1, e2, Option.bind_some, Option.bind_some] at e
      cases e3 : m x y with
      | none => rw [e3] at e; cases e
      | some z =>
        rw [e3, Option.bind_some] at e
        cases z with
        | bl b =>
          cases b with
          | false =>
            have e : some (D.bl false) = some d := e
            exact ⟨x, y, false, rfl, rfl, e3, fun _ => (Option.some.inj e).symm, fun q => by cases q⟩
          | true =>
            have e : (h ρ).bind (fun w => m' y w) = some d := e
            cases e4 : h ρ with
            | none => rw [e4] at e; cases e
            | some w => rw [e4] at e; exact ⟨x, y, true, rfl, rfl, e3, fun q => (by cases q), fun _ => ⟨w, rfl, e⟩⟩
        | _ => cases e
theorem zm1 {a b c' : Expr} {op op' : CmpOp} {m m' : D -> D -> Option D} {f g h : List Sl -> Option D} (ho : OpD c X (compareOp op) m) (hs : ∀ x y d, m x y = some d -> d.scalar = true) (ho' : OpD c X (compareOp op') m') (hs' : ∀ x y d, m' x y = some d -> d.scalar = true) (ha : DB c X a f) (hb : DB c X b g) (hc : DB c X c' h)
    (hm : lastMarks [op, op'] [b, c'] = false := by with_unfolding_all rfl) : DE c X (.Compare a [op, op'] [b, c'] pos) (ze0 m m' f g h) := PE.imp (ztl ho ho' ha hb hc hm) fun σ H Q q_ => by
  obtain ⟨Hf0, H0, Hf, ρ, d, st, ef, k⟩ := q_
  obtain ⟨x, y, b', e1, e2, e3, eF, eT⟩ := zpe ef
  refine ⟨Hf0, H0, Hf, ρ, x, st, e1, fun v Hf1 H1 x1 r1 => ⟨Hf0, H0, Hf1, ρ, y, st.step x1, e2, fun u Hf2 H2 x2 r2 => ⟨H2, x, y, .bl b', zae.refl _, r1.up x2.h, r2, e3, fun z Hf3 H3 x3 r3 => ⟨b', r3, ?_⟩⟩⟩⟩
  have x23 : Ext Hf2 H2 Hf2 H3 := Ext.grow x2.s x3.h
  have st3 : zac (Gx c X) Hf0 H0 Hf2 H3 σ ρ := (st.step (x1.trans x2)).step x23
  cases b' with
  | false =>
    rw [if_neg Bool.false_ne_true]
    exact k _ Hf2 H3 ((x1.trans x2).trans x23) (by rw [eF rfl]; rfl)
  | true =>
    rw [if_pos rfl]
    obtain ⟨w, e4, e5⟩ := eT rfl
    exact ⟨Hf0, H0, Hf2, ρ, w, st3, e4, fun w' Hf4 H4 x4 r4 => ⟨H4, y, w, d, zae.refl _, r2.up (x3.h.trans x4.h), r4, e5, fun q Hf5 H5 x5 r5 => k _ Hf4 H5 (((x1.trans x2).trans x23).trans (x4.trans (Ext.grow x4.s x5.h))) (r5.sc (hs' _ _ _ e5))⟩⟩
end
theorem zli {m m' : D -> D -> Option D} {f g h : List Sl -> Option D} {ρ : List Sl} {x y w : D} {b b' : Bool} (e1 : f ρ = some x) (e2 : g ρ = some y) (e3 : m x y = some (.bl b)) (e4 : h ρ = some w) (e5 : m' y w = some (.bl b')) : ze0 m m' f g h ρ = some (.bl (b && b')) := by
  unfold ze0
  rw [e1, Option.bind_some, e2, Option.bind_some, e3, Option.bind_some]
  cases b with
  | false => rfl
  | true =>
    show (h ρ).bind (fun w => m' y w) = _
    rw [e4]
    exact e5
end L2
namespace L2
open PySem PySem.Spec PyProof.Rows
theorem zlj {k : Int} {n : Nat} (h : k.natAbs < 2 ^ n) : Builtin.Int.intBits k <= n := by
  unfold Builtin.Int.intBits
  split
  · exact Nat.zero_le _
  · rename_i hk
    have : k.natAbs ≠ 0 := fun z => hk (by rw [Int.natAbs_eq_zero.mp z]; rfl)
    exact (Nat.log2_lt this).mpr h
noncomputable def zea (i j : Int) : Prop := zek i j \/ (i.natAbs < 2 ^ 200 /\ j.natAbs < 2 ^ 200)
theorem zea.ok {i j : Int} (h : zea i j) : IntMulOk i j := by
  rcases h with h | ⟨h1, h2⟩
  · exact h.ok
  · have a := zlj h1
    have b := zlj h2
    unfold IntMulOk
    have : Builtin.Int.intTooBig (Builtin.Int.intBits i + Builtin.Int.intBits j) = false := by
      unfold Builtin.Int.intTooBig
      have c : (400 : Int) <= bitsLine := by decide
      exact decide_eq_false (by omega)
    rw [this, Bool.and_false]
    exact Bool.false_ne_true
noncomputable instance {i j : Int} : Decidable (zea i j) := by unfold zea; infer_instance
noncomputable abbrev zis : D -> D -> Option D := dI zea fun i j => .int (i * j)
section
variable {c : Str -> Addr} {X : Cx}
theorem zsh : OpR X (binaryOp .Mult) (rI zea fun i j => .int (i * j)) := opI fun _ _ _ _ _ _ _ hc q => mul_int q hc.ok
theorem zpl : OpD c X (binaryOp .Mult) zis := zg6 zsh fun _ _ _ _ => rfl
end
theorem zmk {i j : Int} (h : zea i j) : zis (.int i) (.int j) = some (.int (i * j)) := zfh h
end L2
namespace L2
open PySem PySem.Spec PyProof.Rows
noncomputable def zc2 (H : Hp) (l : Addr) : Hp := fun a => if a = l then none else H a
theorem ziv {H : Hp} {l : Addr} : zc2 H l l = none := by unfold zc2; rw [if_pos rfl]
theorem zj0 {H : Hp} {l a : Addr} (h : a ≠ l) : zc2 H l a = H a := by unfold zc2; rw [if_neg h]
theorem ztk {H : Hp} {l : Addr} : zae (zc2 H l) H := fun a o e => by
  by_cases h : a = l
  · subst h; rw [ziv] at e; cases e
  · rw [zj0 h] at e; exact e
theorem zj8 {F H : Hp} {l : Addr} (s : zae F H) (h : F l = none) : zae F (zc2 H l) := fun a o e => by
  rw [zj0 (zbo e h)]; exact s a o e
section
variable {P : Program} {w : World} {K : PySem.W.Frag} {mg : Str -> Option Value} {base : Heap} {c : Str -> Addr}
end
noncomputable def tDX (G : Gc) (f : List Sl -> Option (D × List Sl)) : TE := fun σ H Q => ∃ Hf0 H0 Hf ρ d ρ', zac G Hf0 H0 Hf H σ ρ /\ f ρ = some (d, ρ') /\ ∀ v Hf' H', zae Hf Hf' -> zac G Hf0 H0 Hf' H' σ ρ' -> Rep G Hf' d v -> Q v H'
noncomputable def DX (c : Str -> Addr) (X : Cx) (e : Expr) (f : List Sl -> Option (D × List Sl)) : Prop := PE X e (tDX (Gx c X) f)
section
variable {c : Str -> Addr} {X : Cx} {k : Nat} {f C : Addr} {fd : FuncData} {ps : List Str} {x : Str} {p pos apos : Pos} {e o tg iter : Expr} {es : List Expr} {fa ga : List Sl -> Option (List D)} {i : Nat}
end
end L2
namespace L2
open PySem PySem.Spec PyProof.Rows
noncomputable def spM (G : Gc) (n0 n : Nat) (m : Addr -> List D -> List D -> List D -> Option (List D × D)) : Sp := fun vs H Q _ => ∃ Hf ds0 ds1 xs ys d l us vs0 vs1, vs = vs0 ++ .ref l :: vs1 /\ zae Hf H /\ Hf l = none /\ H l = some (.lst us) /\ zab G Hf ds0 vs0 /\ zab G Hf ds1 vs1 /\ zab G Hf xs us /\ ds0.length = n0 /\ ds0.length + 1 + ds1.length = n /\ m l ds0 ds1 xs = some (ys, d) /\
  ∀ v Hf' H' us', Ext Hf (zc2 H l) Hf' H' -> Hf' l = none -> H' l = some (.lst us') -> zab G Hf' ys us' -> Rep G Hf' d v -> Q v H'
noncomputable def zhu (N : Nat) (l : Addr) (ds0 ds1 xs : List D) : List Sl := (zdp N (ds0 ++ .non :: ds1)).set ds0.length (.pin l xs)
open Classical in
noncomputable def zc1 (l : Addr) (i : Nat) (ρ : List Sl) : Option (List D) := match ρ[i]? with
  | some (.pin l' ys) => if l' = l then some ys else none
  | _ => none
theorem zm9 {l : Addr} {i : Nat} {ρ : List Sl} {ys : List D} (h : zc1 l i ρ = some ys) : ρ[i]? = some (.pin l ys) := by
  unfold zc1 at h
  split at h
  · rename_i l' zs e
    split at h
    · rename_i q
      cases h
      rw [e, q]
    · cases h
  · cases h
noncomputable def zdl (N : Nat) (F : List Sl -> Option Fl) (l : Addr) (ds0 ds1 xs : List D) : Option (List D × D) := (F (zhu N l ds0 ds1 xs)).bind fun o => match o with
  | .nx ρ => (zc1 l ds0.length ρ).map fun ys => (ys, .non)
  | .rtS d ρ => (zc1 l ds0.length ρ).map fun ys => (ys, d)
  | _ => none
theorem ztp {N : List Str} {vs0 vs1 : List V} {l : Addr} : (L2.start N (vs0 ++ .non :: vs1)).set vs0.length (some (.ref l)) = L2.start N (vs0 ++ .ref l :: vs1) := by
  unfold L2.start
  simp [List.set_append, List.length_append]
theorem zac.startM {G : Gc} {Hf H : Hp} {N : List Str} {ds0 ds1 xs : List D} {vs0 vs1 us : List V} {l : Addr} (s0 : zae Hf H) (hf : Hf l = none) (hl : H l = some (.lst us)) (r0 : zab G Hf ds0 vs0) (r1 : zab G Hf ds1 vs1) (rx : zab G Hf xs us) :
    zac G Hf (zc2 H l) Hf H (L2.start N (vs0 ++ .ref l :: vs1)) (zhu N.length l ds0 ds1 xs) := by
  have st0 := zac.start (N := N) (zj8 s0 hf) (r0.append (.cons (d := .non) (v := .non) rfl r1))
  have := st0.setOwn (i := ds0.length) (l := l) (s := .pin l xs) rfl (Ext.grow (zj8 s0 hf) ztk) ziv hf ⟨rfl, us, hl, rx⟩
  rw [r0.length, ztp, <- r0.length] at this
  exact this
section
variable {P : Program} {w : World} {K : PySem.W.Frag} {mg : Str -> Option Value} {base : Heap} {c : Str -> Addr}
theorem zf1 {x qual : Str} {st : Stmt} {f : Addr} {fd : FuncData} {N ps : List Str} {k n0 : Nat} {F : List Sl -> Option Fl} (Fn : Fun K x qual st f fd) (S : zba N ps (zal st))
    (h : ∀ (cdv : Value) (A : Around) (outer : List Env) (s : Shared) (H : Hp) (E : XK), zaz k (A.deeper (envOfC qual (zal st) s.heap.objs.size f cdv)) -> DSs c (zd7 CX0 P w K mg base N qual (zal st) f cdv A outer s H E).nox (za5 st) F) :
    zar P w K mg base CX0 (k + 1) f fd ps (spM ⟨K, c⟩ n0 ps.length (zdl N.length F)) := by
  refine Fn.ok S (fun vs H Q E ⟨Hf, ds0, ds1, xs, ys, d, l, us, vs0, vs1, ev, s0, hf, hu, r0, r1, rx, hn, hl, _⟩ => by rw [ev, List.length_append, List.length_cons, <- r0.length, <- r1.length]; omega) fun cdv A outer s H vs Q E hr ⟨Hf, ds0, ds1, xs, ys, d, l, us, vs0, vs1, ev, s0, hf, hu, r0, r1, rx, hn, hl, e, kq⟩ => ⟨_, h cdv A outer s H E hr, ?_⟩
  subst ev
  unfold zdl at e
  cases eF : F (zhu N.length l ds0 ds1 xs) with
  | none => rw [eF] at e; cases e
  | some o =>
    rw [eF, Option.bind_some] at e
    refine ⟨Hf, zc2 H l, Hf, _, o, zac.startM s0 hf hu r0 r1 rx, eF, ?_⟩
    cases o with
    | nx ρ =>
      replace e : (zc1 l ds0.length ρ).map (fun ys => (ys, D.non)) = some (ys, d) := e
      cases ep : zc1 l ds0.length ρ with
      | none => rw [ep] at e; cases e
      | some zs =>
        rw [ep] at e
        cases e
        intro σ' Hf' H' _ so
        obtain ⟨l', e1, h0, hf', e2, us', hu', rx'⟩ := so.ownAt (s := .pin l ys) rfl (zm9 ep)
        subst e2
        exact kq .non Hf' H' us' so.ext hf' hu' rx' rfl
    | rtS d' ρ =>
      replace e : (zc1 l ds0.length ρ).map (fun ys => (ys, d')) = some (ys, d) := e
      cases ep : zc1 l ds0.length ρ with
      | none => rw [ep] at e; cases e
      | some zs =>
        rw [ep] at e
        cases e
        intro v σ' Hf' H' so r
        obtain ⟨l', e1, h0, hf', e2, us', hu', rx'⟩ := so.ownAt (s := .pin l ys) rfl (zm9 ep)
        subst e2
        exact kq v Hf' H' us' so.ext hf' hu' rx' r
    | _ => cases e
end
theorem zac.giveS {G : Gc} {Hf0 H0 Hf H : Hp} {σ : St} {ρ : List Sl} {i : Nat} {l : Addr} {s : Sl} (hs : s.isOwn = true) (h : zac G Hf0 H0 Hf H σ ρ) (e : ρ[i]? = some s) (el : σ[i]? = some (some (.ref l))) : zac G Hf0 H0 Hf (zc2 H l) σ (ρ.set i .no) := by
  refine h.chg e el (fun b u hb => ?_) trivial fun a p => (p.calm rfl).elim
  by_cases hl : b = l
  · subst hl; exact .inl ((Holds.own hs).mpr rfl)
  · exact .inr (by rw [zj0 hl]; exact hb)
theorem zac.back {G : Gc} {Hf0 H0 Hf H Hf' H' : Hp} {σ : St} {ρ : List Sl} {i : Nat} {l : Addr} {s s' : Sl} (hs : s.isOwn = true) (hs' : s'.isOwn = true) (h : zac G Hf0 H0 Hf H σ ρ) (e : ρ[i]? = some s) (el : σ[i]? = some (some (.ref l))) (x : Ext Hf (zc2 H l) Hf' H') (hf : Hf' l = none) (ho : zb6 G Hf' H' l s') : zac G Hf0 H0 Hf' H' σ (ρ.set i s') := by
  have := (h.giveS hs e el).setOwn (i := i) (l := l) hs' x ziv hf ho
  rw [List.set_set] at this
  have e2 : σ.set i (some (.ref l)) = σ := by
    apply List.ext_getElem?
    intro j
    by_cases hj : i = j
    · subst hj
      rw [List.getElem?_set_self (List.getElem?_eq_some_iff.mp el).1, el]
    · rw [List.getElem?_set_ne hj]
  rw [e2] at this
  exact this
noncomputable def ztr (G : Gc) (i : Nat) (f : List Sl -> Option (List D × List D)) : TA := fun σ H Q => ∃ Hf0 H0 Hf ρ ds0 ds1 l, zac G Hf0 H0 Hf H σ ρ /\ σ[i]? = some (some (.ref l)) /\ f ρ = some (ds0, ds1) /\ ∀ vs0 vs1 Hf' H', Ext Hf H Hf' H' -> zab G Hf' ds0 vs0 -> zab G Hf' ds1 vs1 -> Q (vs0 ++ .ref l :: vs1) H'
structure DAM (c : Str -> Addr) (X : Cx) (es : List Expr) (i n0 : Nat) (f : List Sl -> Option (List D × List D)) : Prop where
  pa : PA X es (ztr (Gx c X) i f)
  len : ∀ ρ p, f ρ = some p -> p.1.length = n0 /\ p.1.length + 1 + p.2.length = es.length
noncomputable def zez (g : List Sl -> Option (List D)) (ρ : List Sl) : Option (List D × List D) := (g ρ).map fun ds => ([], ds)
noncomputable def zfa (f : List Sl -> Option D) (g : List Sl -> Option (List D × List D)) (ρ : List Sl) : Option (List D × List D) := (f ρ).bind fun d => (g ρ).map fun p => (d :: p.1, p.2)
theorem zls {f : List Sl -> Option D} {g : List Sl -> Option (List D × List D)} {ρ : List Sl} {p : List D × List D} (h : zfa f g ρ = some p) : ∃ d r, f ρ = some d /\ g ρ = some r /\ p = (d :: r.1, r.2) := by
  unfold zfa at h
  cases e1 : f ρ with
  | none => rw [e1] at h; cases h
  | some d =>
    cases e2 : g ρ with
    | none => rw [e1, e2] at h; cases h
    | some r => rw [e1, e2] at h; cases h; exact ⟨d, r, rfl, rfl, rfl⟩
section
variable {c : Str -> Addr} {X : Cx} {k n0 : Nat} {f : Addr} {fd : FuncData} {ps : List Str} {x : Str} {p pos pos' : Pos} {e : Expr} {es : List Expr} {fa : List Sl -> Option (List D × List D)} {i : Nat}
theorem zpg {g : List Sl -> Option (List D)} (h : PE X e (zef i)) (hr : DA c X es g) (hs : starEach (e :: es) X.env = (false, eval e X.env) :: starEach es X.env := by rfl) : DAM c X (e :: es) i 0 (zez g) :=
  ⟨PA.imp (zcc h hr.pa hs) fun σ H Q ⟨Hf0, H0, Hf, ρ, ds0, ds1, l, st, el, ef, k⟩ => by
    unfold zez at ef
    cases e1 : g ρ with
    | none => rw [e1] at ef; cases ef
    | some ds =>
      rw [e1] at ef
      cases ef
      exact ⟨_, el, Hf0, H0, Hf, ρ, ds1, st, e1, fun vs Hf' H' x r => k [] vs Hf' H' x rfl r⟩, fun ρ p h => by
    unfold zez at h
    cases e1 : g ρ with
    | none => rw [e1] at h; cases h
    | some ds =>
      rw [e1] at h
      cases h
      refine ⟨rfl, ?_⟩
      rw [List.length_cons, <- hr.len ρ ds e1]
      show 0 + 1 + ds.length = _
      omega⟩
theorem zoc (i : Nat) {x : Str} {g : List Sl -> Option (List D)} (hr : DA c X es g) (hN : X.N[i]? = some x := by rfl) (hv : Vis X.env.scope x := by first | exact Or.inl rfl | exact Or.inr (Or.inl rfl) | exact Or.inr (Or.inr rfl)) (hd : (x == ("__debug__" : Str)) = false := by decide)
    (hcd : (x == ("__classdict__" : Str)) = false := by decide) (hs : starEach (.Name x pos :: es) X.env = (false, eval (.Name x pos) X.env) :: starEach es X.env := by rfl) : DAM c X (.Name x pos :: es) i 0 (zez g) := zpg (ze6 hN hv hd hcd) hr hs
theorem zrj {f : List Sl -> Option D} {g : List Sl -> Option (List D × List D)} (ha : DE c X e f) (hr : DAM c X es i n0 g) (hs : starEach (e :: es) X.env = (false, eval e X.env) :: starEach es X.env := by rfl) : DAM c X (e :: es) i (n0 + 1) (zfa f g) := by
  refine ⟨PA.imp (zcc ha hr.pa hs) fun σ H Q ⟨Hf0, H0, Hf, ρ, ds0, ds1, l, st, el, ef, k⟩ => ?_, fun ρ p h => ?_⟩
  · obtain ⟨d, r, e1, e2, e3⟩ := zls ef
    cases e3
    exact ⟨Hf0, H0, Hf, ρ, d, st, e1, fun v Hf1 H1 x1 r1 => ⟨Hf0, H0, Hf1, ρ, r.1, r.2, l, st.step x1, el, e2, fun vs0 vs1 Hf2 H2 x2 r2 r3 => k _ vs1 Hf2 H2 (x1.trans x2) (.cons (r1.up x2.f) r2) r3⟩⟩
  · obtain ⟨d, r, e1, e2, rfl⟩ := zls h
    obtain ⟨h1, h2⟩ := hr.len ρ r e2
    refine ⟨by show r.1.length + 1 = _; rw [h1], ?_⟩
    show (r.1.length + 1) + 1 + r.2.length = _
    rw [List.length_cons]
    omega
open Classical in
noncomputable def zf9 (i : Nat) (m : Addr -> List D -> List D -> List D -> Option (List D × D)) (f : List Sl -> Option (List D × List D)) (ρ : List Sl) : Option (D × List Sl) := match ρ[i]? with
  | some (.own xs) => (f ρ).bind fun p => if h : ∃ q, ∀ l, m l p.1 p.2 xs = some q then some (h.choose.2, ρ.set i (.own h.choose.1)) else none
  | _ => none
theorem zvm {m : Addr -> List D -> List D -> List D -> Option (List D × D)} (F : zar X.prog X.w X.K X.mg X.base CX0 k f fd ps (spM (Gx c X) n0 ps.length m)) (hr : zaz k X.A) (hg : Gl X x) (hm : X.mg x = some (.ref f)) (hk : PySem.W.keepIn X.K (.ref f) = true) (hb : za2 X.K fd ps []) (ha : DAM c X (e :: es) i n0 fa)
    (hl : (e :: es).length = ps.length := by rfl) (hdb : (x == ("__debug__" : Str)) = false := by decide) (he : starEach (e :: es) X.env = (false, eval e X.env) :: starEach es X.env := by rfl) (hpl : (backTo pos (starEach es X.env)).any (·.1) = false := by rfl) :
    DX c X (.Call (.Name x p) (e :: es) [] pos) (zf9 i m fa) := PE.imp (zhl F hr hg hm hk hb .nil zf6 ha.pa hdb he hpl) fun σ H Q q_ => by
  obtain ⟨Hf0, H0, Hf, ρ, d, ρ', st, ef, kq⟩ := q_
  unfold zf9 at ef
  split at ef
  · rename_i xs eo
    cases e1 : fa ρ with
    | none => rw [e1] at ef; cases ef
    | some pp =>
      rw [e1, Option.bind_some] at ef
      split at ef
      · rename_i hq
        have e2 := hq.choose_spec
        generalize hq.choose = q at ef e2
        cases ef
        obtain ⟨l', el, h0, hf, us, hu, rx⟩ := st.ownAt (s := .own xs) rfl eo
        refine ⟨Hf0, H0, Hf, ρ, pp.1, pp.2, l', st, el, e1, fun vs0 vs1 Hf' H' x r0 r1 => ?_⟩
        dsimp only
        rw [List.append_nil]
        have st' := st.step x
        obtain ⟨l2, el2, h02, hf2, us2, hu2, rx2⟩ := st'.ownAt (s := .own xs) rfl eo
        rw [el] at el2; cases el2
        obtain ⟨n1, n2⟩ := ha.len ρ pp e1
        exact ⟨Hf', pp.1, pp.2, xs, q.1, q.2, l', us2, vs0, vs1, rfl, x.s, hf2, hu2, r0, r1, rx2, n1, n2.trans hl, e2 l', fun v Hf3 H3 us3 x3 hf3 hu3 rx3 r3 => kq v Hf3 H3 (x.f.trans x3.f) (st'.back (s := .own xs) (s' := .own q.1) rfl rfl eo el x3 hf3 ⟨us3, hu3, rx3⟩) r3⟩
      · cases ef
  · cases ef
noncomputable def zgu (i : Nat) (ρ : List Sl) : Option (List D) := match ρ[i]? with
  | some (.pin _ xs) => some xs
  | _ => none
theorem zm8 (i : Nat) {x : Str} (hN : X.N[i]? = some x := by rfl) (hv : Vis X.env.scope x := by first | exact Or.inl rfl | exact Or.inr (Or.inl rfl) | exact Or.inr (Or.inr rfl)) (hd : (x == ("__debug__" : Str)) = false := by decide)
    (hcd : (x == ("__classdict__" : Str)) = false := by decide) : DC c X (.Name x pos) (zgu i) := PE.imp (ze6 hN hv hd hcd) fun σ H Q q_ => by
  obtain ⟨Hf0, H0, Hf, ρ, d, st, ef, k⟩ := q_
  unfold zgu at ef
  split at ef
  · rename_i l xs es
    cases ef
    obtain ⟨l', e1, _, _, _, vs, q, r⟩ := st.ownAt (s := .pin l d) rfl es
    exact ⟨_, e1, k l' vs Hf H (Ext.refl st.sub) (.inl (SqL.of q)) r⟩
  · cases ef
end
theorem zt8 {i : Nat} {m : Addr -> List D -> List D -> List D -> Option (List D × D)} {f : List Sl -> Option (List D × List D)} {ρ : List Sl} {xs ds0 ds1 ys : List D} {d : D} (h : ρ[i]? = some (.own xs)) (hf : f ρ = some (ds0, ds1)) (hm : ∀ l, m l ds0 ds1 xs = some (ys, d)) : zf9 i m f ρ = some (d, ρ.set i (.own ys)) := by
  unfold zf9
  rw [h]
  show (f ρ).bind _ = _
  rw [hf, Option.bind_some, dif_pos ⟨(ys, d), hm⟩]
  have e : (⟨(ys, d), hm⟩ : ∃ q, ∀ l, m l ds0 ds1 xs = some q).choose = (ys, d) := by
    have := (⟨(ys, d), hm⟩ : ∃ q, ∀ l, m l ds0 ds1 xs = some q).choose_spec 0
    rw [hm 0] at this
    exact (Option.some.inj this).symm
  rw [e]
theorem zut {f : List Sl -> Option D} {g : List Sl -> Option (List D × List D)} {ρ : List Sl} {d : D} {a b : List D} (h : f ρ = some d) (h' : g ρ = some (a, b)) : zfa f g ρ = some (d :: a, b) := by
  unfold zfa
  rw [h, h']
  rfl
theorem zuf {g : List Sl -> Option (List D)} {ρ : List Sl} {ds : List D} (h : g ρ = some ds) : zez g ρ = some ([], ds) := by
  unfold zez
  rw [h]
  rfl
theorem zei {f : List Sl -> Option D} {ρ : List Sl} {d : D} {K : Fl -> Prop} (h : f ρ = some d) (k : K (.rtS d ρ)) : wp (zct f) ρ K := ⟨_, by unfold zct; rw [h]; rfl, k⟩
theorem zp1 {l : Addr} {i : Nat} {ρ : List Sl} {ys : List D} (h : ρ[i]? = some (.pin l ys)) : zc1 l i ρ = some ys := by
  unfold zc1
  rw [h]
  exact if_pos rfl
theorem zfz {N : Nat} {F : List Sl -> Option Fl} {l : Addr} {ds0 ds1 xs ys : List D} {d : D} {ρ : List Sl} (h : F (zhu N l ds0 ds1 xs) = some (.rtS d ρ)) (h' : ρ[ds0.length]? = some (.pin l ys)) : zdl N F l ds0 ds1 xs = some (ys, d) := by
  unfold zdl
  rw [h, Option.bind_some]
  show (zc1 l ds0.length ρ).map _ = _
  rw [zp1 h']
  rfl
end L2
namespace L2
open PySem PySem.Spec PyProof.Rows
noncomputable def ze8 (i : Nat) (fk fv : List Sl -> Option D) (ρ : List Sl) : Option Fl := (fv ρ).bind fun d => (fk ρ).bind fun x => match x with
  | .int k => (match ρ[i]? with
    | some (.pin l xs) => (ixN xs.length k).map fun j => .nx (ρ.set i (.pin l (xs.set j d)))
    | _ => none)
  | _ => none
section
variable {c : Str -> Addr} {X : Cx} {st : Stmt} {e a b i' value : Expr} {pos pos' : Pos}
theorem zul {i : Nat} {fk fv : List Sl -> Option D} (hp : PS X st (zf8 (tD (Gx c X) fv) (zkd (zef i) (tD (Gx c X) fk) zms))) : DS c X st (ze8 i fk fv) := PS.imp hp fun E σ H q_ => by
  obtain ⟨Hf0, H0, Hf, ρ, o, so, ef, k⟩ := q_
  unfold ze8 at ef
  cases e1 : fv ρ with
  | none => rw [e1] at ef; cases ef
  | some d =>
    rw [e1] at ef
    cases e2 : fk ρ with
    | none => rw [e2] at ef; cases ef
    | some x =>
      rw [e2] at ef
      obtain ⟨ky, rfl⟩ : ∃ ky, x = .int ky := by cases x <;> first | exact ⟨_, rfl⟩ | cases ef
      replace ef : (match ρ[i]? with | some (.pin l xs) => (ixN xs.length ky).map fun j => Fl.nx (ρ.set i (.pin l (xs.set j d))) | _ => none) = some o := ef
      split at ef
      · rename_i l0 xs es
        cases ej : ixN xs.length ky with
        | none => rw [ej] at ef; cases ef
        | some j =>
          rw [ej] at ef
          cases ef
          refine ⟨Hf0, H0, Hf, ρ, d, so, e1, fun v Hf1 H1 x1 r1 => ?_⟩
          have so1 := so.step x1
          obtain ⟨l, el, h0, hf, eq, vs, q, r⟩ := so1.ownAt (s := .pin l0 xs) rfl es
          subst eq
          refine ⟨_, el, Hf0, H0, Hf1, ρ, .int ky, so1, e2, fun y Hf2 H2 x2 r2 => ?_⟩
          have so2 := so1.step x2
          have q2 := x2.h _ _ q
          refine ⟨l, vs, ky, j, rfl, r2, q2, by rw [<- r.length]; exact ej, ?_⟩
          exact k σ Hf2 _ (x1.f.trans x2.f) (so2.mutd (s := .pin l xs) (s' := .pin l (xs.set j d)) rfl rfl es el ⟨rfl, vs.set j v, zbp, (r.up x2.f).set j (r1.up x2.f)⟩)
      · cases ef
theorem zvj {i : Nat} {fk fv : List Sl -> Option D} (ho : PE X e (zef i)) (hk : DE c X i' fk) (hv : DE c X value fv) (hs : swapsWithSole [.Subscript e i' pos'] value pos.line X.env = pure false := by rfl) (hw : swappedStores [.Subscript e i' pos'] value X.env = pure none := by rfl)
    (h1 : (assignEach [.Subscript e i' pos'] X.env).map (·.2) = [assign (.Subscript e i' pos') X.env] := by rfl)
    (ha : ∀ v, assign (.Subscript e i' pos') X.env v = (do
      let ov <- holding [v] (eval e X.env)
      let iv <- holding [v, ov] (eval i' X.env)
      standAt pos'
      holding [v, ov, iv] (setItem ov iv v)
      release [v, ov, iv] []) := by intro _; rfl) :
    DS c X (.Assign [.Subscript e i' pos'] value pos) (ze8 i fk fv) := zul (zog hv (zt5 ho hk zqi ha) hs hw h1)
end
theorem zo5 {i : Nat} {fk fv : List Sl -> Option D} {ρ : List Sl} {d : D} {xs : List D} {l : Addr} {k : Int} {K : Fl -> Prop} (hv : fv ρ = some d) (hk : fk ρ = some (.int k)) (h' : ρ[i]? = some (.pin l xs)) (h0 : 0 <= k) (h1 : k < xs.length) (q : K (.nx (ρ.set i (.pin l (xs.set k.toNat d))))) : wp (ze8 i fk fv) ρ K := ⟨_, by
  unfold ze8
  rw [hv, Option.bind_some, hk, Option.bind_some, h']
  show (ixN xs.length k).map _ = _
  unfold ixN
  rw [if_pos h0, if_pos h1]
  rfl, q⟩
end L2
namespace L2
open PySem PySem.Spec PyProof.Rows
noncomputable abbrev Xe := List Sl -> Option (D × List Sl)
noncomputable abbrev Xa := List Sl -> Option (List D × List Sl)
noncomputable abbrev Xt := List Sl -> Option (Bool × List Sl)
noncomputable def mX (f : List Sl -> Option D) : Xe := fun ρ => (f ρ).map fun d => (d, ρ)
noncomputable def mX2 (m : D -> D -> Option D) (f g : Xe) : Xe := fun ρ => (f ρ).bind fun p => (g p.2).bind fun q => (m p.1 q.1).map fun d => (d, q.2)
noncomputable def zam : Xa := fun ρ => some ([], ρ)
noncomputable def zaj (f : Xe) (g : Xa) : Xa := fun ρ => (f ρ).bind fun p => (g p.2).map fun q => (p.1 :: q.1, q.2)
noncomputable def zgd (f : Xa) : Xe := fun ρ => (f ρ).map fun p => (.lst p.1, p.2)
theorem zuu {f : List Sl -> Option D} {ρ ρ' : List Sl} {d : D} (h : mX f ρ = some (d, ρ')) : f ρ = some d /\ ρ' = ρ := by
  unfold mX at h
  cases e : f ρ with
  | none => rw [e] at h; cases h
  | some d' => rw [e] at h; cases h; exact ⟨rfl, rfl⟩
theorem zhb {m : D -> D -> Option D} {f g : Xe} {ρ ρ' : List Sl} {d : D} (h : mX2 m f g ρ = some (d, ρ')) : ∃ x y ρ1, f ρ = some (x, ρ1) /\ g ρ1 = some (y, ρ') /\ m x y = some d := by
  unfold mX2 at h
  cases e1 : f ρ with
  | none => rw [e1] at h; cases h
  | some p =>
    rw [e1, Option.bind_some] at h
    cases e2 : g p.2 with
    | none => rw [e2] at h; cases h
    | some q =>
      rw [e2, Option.bind_some] at h
      cases e3 : m p.1 q.1 with
      | none => rw [e3] at h; cases h
      | some z => rw [e3] at h; cases h; exact ⟨p.1, q.1, p.2, rfl, e2, e3⟩
theorem znl {f : Xe} {g : Xa} {ρ ρ' : List Sl} {ds : List D} (h : zaj f g ρ = some (ds, ρ')) : ∃ d r ρ1, f ρ = some (d, ρ1) /\ g ρ1 = some (r, ρ') /\ ds = d :: r := by
  unfold zaj at h
  cases e1 : f ρ with
  | none => rw [e1] at h; cases h
  | some p =>
    rw [e1, Option.bind_some] at h
    cases e2 : g p.2 with
    | none => rw [e2] at h; cases h
    | some q => rw [e2] at h; cases h; exact ⟨p.1, q.1, p.2, rfl, e2, rfl⟩
noncomputable def zr3 (G : Gc) (f : Xa) : TA := fun σ H Q => ∃ Hf0 H0 Hf ρ ds ρ', zac G Hf0 H0 Hf H σ ρ /\ f ρ = some (ds, ρ') /\ ∀ vs Hf' H', zae Hf Hf' -> zac G Hf0 H0 Hf' H' σ ρ' -> zab G Hf' ds vs -> Q vs H'
structure DAX (c : Str -> Addr) (X : Cx) (es : List Expr) (f : Xa) : Prop where
  pa : PA X es (zr3 (Gx c X) f)
  len : ∀ ρ ds ρ', f ρ = some (ds, ρ') -> ds.length = es.length
noncomputable def ztf (G : Gc) (f : Xt) : TT := fun σ H Q => ∃ Hf0 H0 Hf ρ b ρ', zac G Hf0 H0 Hf H σ ρ /\ f ρ = some (b, ρ') /\ ∀ Hf' H', zae Hf Hf' -> zac G Hf0 H0 Hf' H' σ ρ' -> Q b H'
noncomputable def DTX (c : Str -> Addr) (X : Cx) (e : Expr) (f : Xt) : Prop := PT X e (ztf (Gx c X) f)
section
variable {c : Str -> Addr} {X : Cx} {st : Stmt} {e a b : Expr} {es : List Expr} {pos pos' p : Pos}
theorem DE.dx {f : List Sl -> Option D} (h : DE c X e f) : DX c X e (mX f) := PE.imp h fun σ H Q q_ => by
  obtain ⟨Hf0, H0, Hf, ρ, d, ρ', st, ef, k⟩ := q_
  obtain ⟨e1, rfl⟩ := zuu ef
  exact ⟨Hf0, H0, Hf, _, d, st, e1, fun v Hf' H' x r => k v Hf' H' x.f (st.step x) r⟩
theorem zgf {op : Operator} {m : D -> D -> Option D} {f g : Xe} (ho : OpD c X (binaryOp op) m) (ha : DX c X a f) (hb : DX c X b g) : DX c X (.BinOp a op b pos) (mX2 m f g) := PE.imp (ziw ho ha hb) fun σ H Q q_ => by
  obtain ⟨Hf0, H0, Hf, ρ, d, ρ', st, ef, k⟩ := q_
  obtain ⟨x, y, ρ1, e1, e2, e3⟩ := zhb ef
  exact ⟨Hf0, H0, Hf, ρ, x, ρ1, st, e1, fun v Hf1 H1 f1 st1 r1 => ⟨Hf0, H0, Hf1, ρ1, y, ρ', st1, e2, fun u Hf2 H2 f2 st2 r2 => ⟨Hf2, x, y, d, st2.sub, r1.up f2, r2, e3, fun w Hf3 H3 x3 r3 => k w Hf3 H3 ((f1.trans f2).trans x3.f) (st2.step x3) r3⟩⟩⟩
theorem za6 : DAX c X [] zam := ⟨PA.imp zdn fun σ H Q ⟨Hf0, H0, Hf, ρ, ds, ρ', st, ef, k⟩ => by cases ef; exact k [] Hf H (zae.refl _) st rfl, fun ρ ds ρ' h => by cases h; rfl⟩
theorem za1 {f : Xe} {g : Xa} (ha : DX c X e f) (hr : DAX c X es g) (hs : starEach (e :: es) X.env = (false, eval e X.env) :: starEach es X.env := by rfl) : DAX c X (e :: es) (zaj f g) := by
  refine ⟨PA.imp (zcc ha hr.pa hs) fun σ H Q ⟨Hf0, H0, Hf, ρ, ds, ρ', st, ef, k⟩ => ?_, fun ρ ds ρ' h => ?_⟩
  · obtain ⟨d, r, ρ1, e1, e2, rfl⟩ := znl ef
    exact ⟨Hf0, H0, Hf, ρ, d, ρ1, st, e1, fun v Hf1 H1 f1 st1 r1 => ⟨Hf0, H0, Hf1, ρ1, r, ρ', st1, e2, fun vs Hf2 H2 f2 st2 r2 => k _ Hf2 H2 (f1.trans f2) st2 (.cons (r1.up f2) r2)⟩⟩
  · obtain ⟨d, r, ρ1, e1, e2, rfl⟩ := znl h
    simp [hr.len ρ1 r ρ' e2]
theorem zrv {f : Xa} (h : DAX c X es f) (hz : es.length <= 1000 := by exact Nat.le_of_ble_eq_true rfl) : DX c X (.List es pos) (zgd f) := PE.imp (zk6 h.pa) fun σ H Q q_ => by
  obtain ⟨Hf0, H0, Hf, ρ, d, ρ', st, ef, k⟩ := q_
  unfold zgd at ef
  cases ed : f ρ with
  | none => rw [ed] at ef; cases ef
  | some q =>
    obtain ⟨ds, ρ1⟩ := q
    rw [ed] at ef
    cases ef
    refine ⟨Hf0, H0, Hf, ρ, ds, _, st, ed, fun vs Hf' H' f1 st1 r => ⟨?_, fun q hq => ?_⟩⟩
    · rw [<- r.length, h.len ρ ds _ ed]
      exact Nat.le_of_lt (znc hz)
    · exact k _ (upd Hf' q (.lst vs)) (upd H' q (.lst vs)) (f1.trans (zc6 (st1.sub.free hq))) (st1.step (Ext.new st1.sub hq)) ⟨q, vs, rfl, zbp, r.up (zc6 (st1.sub.free hq))⟩
end
noncomputable def tMX (G : Gc) (i : Nat) (f : Xa) : TA := fun σ H Q => ∃ Hf0 H0 Hf ρ ds ρ' l, zac G Hf0 H0 Hf H σ ρ /\ σ[i]? = some (some (.ref l)) /\ f ρ = some (ds, ρ') /\ ∀ vs Hf' H', zae Hf Hf' -> zac G Hf0 H0 Hf' H' σ ρ' -> zab G Hf' ds vs -> Q (.ref l :: vs) H'
structure DMX (c : Str -> Addr) (X : Cx) (es : List Expr) (i : Nat) (f : Xa) : Prop where
  pa : PA X es (tMX (Gx c X) i f)
  len : ∀ ρ ds ρ', f ρ = some (ds, ρ') -> ds.length + 1 = es.length
noncomputable def zaq (i : Nat) (m : Addr -> List D -> List D -> List D -> Option (List D × D)) (f : Xa) : Xe := fun ρ => match ρ[i]? with
  | some (.pin _ _) => (f ρ).bind fun p => match p.2[i]? with
    | some (.pin l xs) => (m l [] p.1 xs).map fun q => (q.2, p.2.set i (.pin l q.1))
    | _ => none
  | _ => none
open Classical in
noncomputable def zd0 (i : Nat) (m : Addr -> List D -> List D -> List D -> Option (List D × D)) (f : Xa) : Xe := fun ρ => match ρ[i]? with
  | some (.own _) => (f ρ).bind fun p => match p.2[i]? with
    | some (.own xs) => if h : ∃ q, ∀ l, m l [] p.1 xs = some q then some (h.choose.2, p.2.set i (.own h.choose.1)) else none
    | _ => none
  | _ => none
section
variable {c : Str -> Addr} {X : Cx} {k : Nat} {f : Addr} {fd : FuncData} {ps : List Str} {x : Str} {p pos pos' : Pos} {e : Expr} {es : List Expr} {fa : Xa} {i : Nat}
theorem za7 (i : Nat) {x : Str} {g : Xa} (hr : DAX c X es g) (hN : X.N[i]? = some x := by rfl) (hv : Vis X.env.scope x := by first | exact Or.inl rfl | exact Or.inr (Or.inl rfl) | exact Or.inr (Or.inr rfl)) (hd : (x == ("__debug__" : Str)) = false := by decide)
    (hcd : (x == ("__classdict__" : Str)) = false := by decide) (hs : starEach (.Name x pos :: es) X.env = (false, eval (.Name x pos) X.env) :: starEach es X.env := by rfl) : DMX c X (.Name x pos :: es) i g :=
  ⟨PA.imp (zcc (ze6 hN hv hd hcd) hr.pa hs) fun σ H Q ⟨Hf0, H0, Hf, ρ, ds, ρ', l, st, el, ef, k⟩ => ⟨_, el, Hf0, H0, Hf, ρ, ds, ρ', st, ef, fun vs Hf' H' f1 st1 r => k vs Hf' H' f1 st1 r⟩, fun ρ ds ρ' h => by
    rw [List.length_cons, hr.len ρ ds ρ' h]⟩
theorem zbe {m : Addr -> List D -> List D -> List D -> Option (List D × D)} (F : zar X.prog X.w X.K X.mg X.base CX0 k f fd ps (spM (Gx c X) 0 ps.length m)) (hr : zaz k X.A) (hg : Gl X x) (hm : X.mg x = some (.ref f)) (hk : PySem.W.keepIn X.K (.ref f) = true) (hb : za2 X.K fd ps []) (ha : DMX c X (e :: es) i fa)
    (hl : (e :: es).length = ps.length := by rfl) (hdb : (x == ("__debug__" : Str)) = false := by decide) (he : starEach (e :: es) X.env = (false, eval e X.env) :: starEach es X.env := by rfl) (hpl : (backTo pos (starEach es X.env)).any (·.1) = false := by rfl) :
    DX c X (.Call (.Name x p) (e :: es) [] pos) (zaq i m fa) := PE.imp (zhl F hr hg hm hk hb .nil zf6 ha.pa hdb he hpl) fun σ H Q q_ => by
  obtain ⟨Hf0, H0, Hf, ρ, d, ρ', st, ef, kq⟩ := q_
  unfold zaq at ef
  split at ef
  · rename_i l0 xs0 eo0
    cases e1 : fa ρ with
    | none => rw [e1] at ef; cases ef
    | some pp =>
      obtain ⟨ds, ρ1⟩ := pp
      rw [e1, Option.bind_some] at ef
      dsimp only at ef
      split at ef
      · rename_i l xs eo
        cases e2 : m l [] ds xs with
        | none => rw [e2] at ef; cases ef
        | some q =>
          rw [e2] at ef
          cases ef
          obtain ⟨l1, el, _, _, _, _, _, _⟩ := st.ownAt (s := .pin l0 xs0) rfl eo0
          refine ⟨Hf0, H0, Hf, ρ, ds, ρ1, l1, st, el, e1, fun vs Hf' H' f1 st1 r => ?_⟩
          dsimp only
          rw [List.append_nil]
          obtain ⟨l2, el2, h02, hf2, eq2, us2, hu2, rx2⟩ := st1.ownAt (s := .pin l xs) rfl eo
          subst eq2
          rw [el] at el2
          cases el2
          have hn : 0 + 1 + ds.length = ps.length := by
            have := (ha.len ρ ds _ e1).trans hl
            omega
          exact ⟨Hf', [], ds, xs, q.1, q.2, l1, us2, [], vs, rfl, st1.sub, hf2, hu2, rfl, r, rx2, rfl, hn, e2, fun v Hf3 H3 us3 x3 hf3 hu3 rx3 r3 => kq v Hf3 H3 (f1.trans x3.f) (st1.back (s := .pin l1 xs) (s' := .pin l1 q.1) rfl rfl eo el x3 hf3 ⟨rfl, us3, hu3, rx3⟩) r3⟩
      · cases ef
  · cases ef
theorem zlx {m : Addr -> List D -> List D -> List D -> Option (List D × D)} (F : zar X.prog X.w X.K X.mg X.base CX0 k f fd ps (spM (Gx c X) 0 ps.length m)) (hr : zaz k X.A) (hg : Gl X x) (hm : X.mg x = some (.ref f)) (hk : PySem.W.keepIn X.K (.ref f) = true) (hb : za2 X.K fd ps []) (ha : DMX c X (e :: es) i fa)
    (hl : (e :: es).length = ps.length := by rfl) (hdb : (x == ("__debug__" : Str)) = false := by decide) (he : starEach (e :: es) X.env = (false, eval e X.env) :: starEach es X.env := by rfl) (hpl : (backTo pos (starEach es X.env)).any (·.1) = false := by rfl) :
    DX c X (.Call (.Name x p) (e :: es) [] pos) (zd0 i m fa) := PE.imp (zhl F hr hg hm hk hb .nil zf6 ha.pa hdb he hpl) fun σ H Q q_ => by
  obtain ⟨Hf0, H0, Hf, ρ, d, ρ', st, ef, kq⟩ := q_
  unfold zd0 at ef
  split at ef
  · rename_i xs0 eo0
    cases e1 : fa ρ with
    | none => rw [e1] at ef; cases ef
    | some pp =>
      obtain ⟨ds, ρ1⟩ := pp
      rw [e1, Option.bind_some] at ef
      dsimp only at ef
      split at ef
      · rename_i xs eo
        split at ef
        · rename_i hq
          have e2 := hq.choose_spec
          generalize hq.choose = q at ef e2
          cases ef
          obtain ⟨l1, el, _, _, _, _, _⟩ := st.ownAt (s := .own xs0) rfl eo0
          refine ⟨Hf0, H0, Hf, ρ, ds, ρ1, l1, st, el, e1, fun vs Hf' H' f1 st1 r => ?_⟩
          dsimp only
          rw [List.append_nil]
          obtain ⟨l2, el2, h02, hf2, us2, hu2, rx2⟩ := st1.ownAt (s := .own xs) rfl eo
          rw [el] at el2
          cases el2
          have hn : 0 + 1 + ds.length = ps.length := by
            have := (ha.len ρ ds _ e1).trans hl
            omega
          exact ⟨Hf', [], ds, xs, q.1, q.2, l1, us2, [], vs, rfl, st1.sub, hf2, hu2, rfl, r, rx2, rfl, hn, e2 l1, fun v Hf3 H3 us3 x3 hf3 hu3 rx3 r3 => kq v Hf3 H3 (f1.trans x3.f) (st1.back (s := .own xs) (s' := .own q.1) rfl rfl eo el x3 hf3 ⟨us3, hu3, rx3⟩) r3⟩
        · cases ef
      · cases ef
  · cases ef
end
noncomputable def zca (i : Nat) (f : Xe) (ρ : List Sl) : Option Fl := (f ρ).map fun p => .nx (p.2.set i (.im p.1))
noncomputable def zdh (f : Xe) (ρ : List Sl) : Option Fl := (f ρ).map fun p => .rtS p.1 p.2
noncomputable def zg5 : D -> D -> Option D
  | .int i, .int j => some (.int (i + j))
  | .str a, .str b => if a.length + b.length <= 16777216 then some (.str (a ++ b)) else none
  | _, _ => none
noncomputable def zf7 (i : Nat) (f : Xe) (ρ : List Sl) : Option Fl := match ρ[i]? with
  | some (.im x) => (f ρ).bind fun p => (zg5 x p.1).map fun z => .nx (p.2.set i (.im z))
  | _ => none
noncomputable def zfo (t : Xt) (F F' : List Sl -> Option Fl) (ρ : List Sl) : Option Fl := (t ρ).bind fun p => if p.1 then F p.2 else F' p.2
section
variable {c : Str -> Addr} {X : Cx} {st : Stmt} {e a b : Expr} {pos pos' p : Pos} {as bs : List Stmt} {F F' : List Sl -> Option Fl}
theorem zda (i : Nat) {x : Str} {f : Xe} {pos' : Pos} (hN : X.N.Nodup) (he : DX c X e f) (hi : X.N[i]? = some x := by rfl) (hx : Loc X.env.scope x := by first | exact Or.inl rfl | exact Or.inr rfl) (hs : swapsWith e (some (.Name x pos')) pos.line X.env = pure false := by rfl) (hf : X.fn x = true \/ X.env.scope.names.lookup x = some .local := by first | exact .inl rfl | exact .inr rfl) :
    DS c X (.Assign [.Name x pos'] e pos) (zca i f) := PS.imp (zjg hN hi hx he hs hf) fun E σ H q_ => by
  obtain ⟨Hf0, H0, Hf, ρ, o, so, ef, k⟩ := q_
  unfold zca at ef
  cases e1 : f ρ with
  | none => rw [e1] at ef; cases ef
  | some p =>
    rw [e1] at ef
    cases ef
    exact ⟨Hf0, H0, Hf, ρ, p.1, p.2, so, e1, fun v Hf' H' s so' r => k _ Hf' H' s (so'.setIm r)⟩
theorem zfs {f : Xe} (he : DX c X e f) : DS c X (.Return (some e) pos) (zdh f) := PS.imp (zhg he) fun E σ H q_ => by
  obtain ⟨Hf0, H0, Hf, ρ, o, so, ef, k⟩ := q_
  unfold zdh at ef
  cases e1 : f ρ with
  | none => rw [e1] at ef; cases ef
  | some p =>
    rw [e1] at ef
    cases ef
    exact ⟨Hf0, H0, Hf, ρ, p.1, p.2, so, e1, fun v Hf' H' s so' r => k v σ Hf' H' so' r⟩
theorem zt1 : PIp X .Add (rD (Gx c X) zg5) := fun pins s σ H x y v u Q I rx ry ⟨Hf, dx, dy, d, s0, r1, r2, e, k⟩ => by
  cases dx <;> cases dy <;> first | (cases e; done) | skip
  · cases r1
    cases r2
    cases e
    exact zt0 pins s σ H _ _ v u Q I rx ry ⟨_, _, rfl, rfl, k _ Hf H (Ext.refl s0) rfl⟩
  · cases r1
    cases r2
    replace e : (if _ then some (D.str _) else none) = some d := e
    split at e
    · rename_i hl
      cases e
      exact zo8 pins s σ H _ _ v u Q I rx ry ⟨_, _, rfl, rfl, by rw [sizeLine_eq]; exact hl, k _ Hf H (Ext.refl s0) rfl⟩
    · cases e
theorem zrf (i : Nat) {x : Str} {f : Xe} {pos' : Pos} (hN : X.N.Nodup) (he : DX c X e f) (hi : X.N[i]? = some x := by rfl) (hx : Loc X.env.scope x := by first | exact Or.inl rfl | exact Or.inr rfl) (hf : X.fn x = true \/ X.env.scope.names.lookup x = some .local := by first | exact .inl rfl | exact .inr rfl) :
    DS c X (.AugAssign (.Name x pos') .Add e pos) (zf7 i f) := PS.imp (zu4 hN hi hx he (zt1 (c := c)) hf) fun E σ H q_ => by
  obtain ⟨Hf0, H0, Hf, ρ, o, so, ef, k⟩ := q_
  unfold zf7 at ef
  split at ef
  · rename_i d es
    cases e1 : f ρ with
    | none => rw [e1] at ef; cases ef
    | some p =>
      rw [e1, Option.bind_some] at ef
      cases e2 : zg5 d p.1 with
      | none => rw [e2] at ef; cases ef
      | some z =>
        rw [e2] at ef
        cases ef
        obtain ⟨v, ev, w, ew, rw'⟩ := so.slot es
        cases ew
        exact ⟨_, ev, Hf0, H0, Hf, ρ, p.1, p.2, so, e1, fun u Hf' H' s so' r => ⟨Hf', d, p.1, z, so'.sub, rw'.up s, r, e2, fun y Hf2 H2 x2 r2 => k _ Hf2 H2 (s.trans x2.f) ((so'.step x2).setIm r2)⟩⟩
  · cases ef
theorem zle {t : Xt} (hc : DTX c X e t) (ha : DSs c X as F) (hb : DSs c X bs F') : DS c X (.If e as bs pos) (zfo t F F') := PS.imp (zny hc ha hb) fun E σ H q_ => by
  obtain ⟨Hf0, H0, Hf, ρ, o, so, ef, k⟩ := q_
  unfold zfo at ef
  cases e1 : t ρ with
  | none => rw [e1] at ef; cases ef
  | some x =>
    obtain ⟨b, ρ1⟩ := x
    rw [e1, Option.bind_some] at ef
    refine ⟨Hf0, H0, Hf, ρ, b, ρ1, so, e1, fun Hf1 H1 s1 so1 => ?_⟩
    cases b with
    | true => rw [if_pos rfl]; exact ⟨Hf0, H0, Hf1, ρ1, o, so1, ef, k.up s1⟩
    | false => rw [if_neg Bool.false_ne_true]; exact ⟨Hf0, H0, Hf1, ρ1, o, so1, ef, k.up s1⟩
end
noncomputable def mBX (f : Xe) : Xt := fun ρ => (f ρ).bind fun p => match p.1 with
  | .bl b => some (b, p.2)
  | _ => none
noncomputable def zcu : D -> D -> Option D
  | .str z, .int i => if 0 <= i /\ i < 2 ^ 63 /\ i < (z.length : Int) then (z.cps[i.toNat]?).map fun ch => .str ⟨#[ch]⟩ else none
  | _, _ => none
noncomputable def zd5 (x y : D) : Option D := match x with
  | .lst ds => ixD ds y
  | .tup ds => ixD ds y
  | _ => none
section
variable {c : Str -> Addr} {X : Cx} {e a b tg : Expr} {pos p : Pos}
theorem zl0 {op : CmpOp} {m : D -> D -> Option D} {f g : Xe} (ho : OpD c X (compareOp op) m) (ha : DX c X a f) (hb : DX c X b g) (hm : behindInMarks op b = false := by first | exact zjs _ | rfl) :
    DTX c X (.Compare a [op] [b] pos) (mBX (mX2 m f g)) := PT.imp (zkf ho ha hb hm) fun σ H Q q_ => by
  obtain ⟨Hf0, H0, Hf, ρ, bb, ρ', st, ef, k⟩ := q_
  unfold mBX at ef
  cases e0 : mX2 m f g ρ with
  | none => rw [e0] at ef; cases ef
  | some q =>
    obtain ⟨d, ρ2⟩ := q
    rw [e0, Option.bind_some] at ef
    obtain ⟨x, y, ρ1, e1, e2, e3⟩ := zhb e0
    cases d <;> first | (cases ef; done) | skip
    cases ef
    exact ⟨Hf0, H0, Hf, ρ, x, ρ1, st, e1, fun v Hf1 H1 f1 st1 r1 => ⟨Hf0, H0, Hf1, ρ1, y, _, st1, e2, fun u Hf2 H2 f2 st2 r2 => ⟨Hf2, x, y, _, st2.sub, r1.up f2, r2, e3, fun w Hf3 H3 x3 r3 => ⟨_, r3, k Hf3 H3 ((f1.trans f2).trans x3.f) (st2.step x3)⟩⟩⟩⟩
theorem zlm {x y d : D} (h : zcu x y = some d) : ∃ z i ch, x = .str z /\ y = .int i /\ 0 <= i /\ i < 2 ^ 63 /\ i < (z.length : Int) /\ z.cps[i.toNat]? = some ch /\ d = .str ⟨#[ch]⟩ := by
  unfold zcu at h
  split at h
  · rename_i z i
    split at h
    · rename_i hc
      cases e : z.cps[i.toNat]? with
      | none => rw [e] at h; cases h
      | some ch => rw [e] at h; cases h; exact ⟨z, i, ch, rfl, rfl, hc.1, hc.2.1, hc.2.2, e, rfl⟩
    · cases h
  · cases h
theorem zu0 {f g : List Sl -> Option D} (ha : DE c X a f) (hb : DE c X b g) (hs : zja b := by exact fun _ _ => rfl) : DE c X (.Subscript a b pos) (m2 zcu f g) := PE.imp (zkq ha hb hs) fun σ H Q q_ => two (m := zcu) (fun vx vy H Q q => by
  obtain ⟨Hf, x, y, d, s0, r1, r2, e, k⟩ := q
  obtain ⟨z, i, ch, rfl, rfl, h0, h1, h2, h3, rfl⟩ := zlm e
  exact ⟨z, i, ch, r1, r2, h0, h1, h2, h3, k _ Hf H (Ext.refl s0) rfl⟩) q_
theorem znp {f g : Xe} (ha : DX c X a f) (hb : DX c X b g) (hs : zja b := by exact fun _ _ => rfl) : DX c X (.Subscript a b pos) (mX2 zcu f g) := PE.imp (zkq ha hb hs) fun σ H Q q_ => by
  obtain ⟨Hf0, H0, Hf, ρ, d, ρ', st, ef, k⟩ := q_
  obtain ⟨x, y, ρ1, e1, e2, e3⟩ := zhb ef
  obtain ⟨z, i, ch, rfl, rfl, h0, h1, h2, h3, rfl⟩ := zlm e3
  exact ⟨Hf0, H0, Hf, ρ, _, ρ1, st, e1, fun v Hf1 H1 f1 st1 r1 => ⟨Hf0, H0, Hf1, ρ1, _, ρ', st1, e2, fun u Hf2 H2 f2 st2 r2 => ⟨z, i, ch, r1, r2, h0, h1, h2, h3, k _ Hf2 H2 (f1.trans f2) st2 rfl⟩⟩⟩
theorem zi8 {f g : Xe} (ha : DX c X a f) (hb : DX c X b g) (hs : zjm b := by exact fun _ _ => rfl) : DX c X (.Subscript a b pos) (mX2 zd5 f g) := PE.imp (znw (zlo.or zlv) ha hb hs) fun σ H Q q_ => by
  obtain ⟨Hf0, H0, Hf, ρ, d, ρ', st, ef, k⟩ := q_
  obtain ⟨x, y, ρ1, e1, e2, e3⟩ := zhb ef
  refine ⟨Hf0, H0, Hf, ρ, x, ρ1, st, e1, fun v Hf1 H1 f1 st1 r1 => ⟨Hf0, H0, Hf1, ρ1, y, ρ', st1, e2, fun u Hf2 H2 f2 st2 r2 => ?_⟩⟩
  have r1 := r1.up f2
  unfold zd5 at e3
  split at e3
  · rename_i ds
    cases y <;> first | (cases e3; done) | skip
    rename_i n
    cases (show u = V.int n from r2)
    obtain ⟨l, vs, el, q, r⟩ := r1
    subst el
    obtain ⟨v, ev, rv⟩ := zin e3 r
    exact .inl ⟨l, vs, n, v, rfl, rfl, SqL.of (st2.sub _ _ q), ev, k v Hf2 H2 (f1.trans f2) st2 rv⟩
  · rename_i ds
    cases y <;> first | (cases e3; done) | skip
    rename_i n
    cases (show u = V.int n from r2)
    obtain ⟨l, vs, el, q, r⟩ := r1
    subst el
    obtain ⟨v, ev, rv⟩ := zin e3 r
    exact .inr ⟨l, vs, n, v, rfl, rfl, SqT.of (st2.sub _ _ q), ev, k v Hf2 H2 (f1.trans f2) st2 rv⟩
  · cases e3
end
end L2
namespace L2
open PySem PySem.Spec PyProof.Rows
theorem zl1 {G : Gc} {H : Hp} : ∀ (l : List Str), zab G H (l.map D.str) (l.map V.str)
  | [] => rfl
  | _ :: l => .cons rfl (zl1 l)
section
variable {c : Str -> Addr} {X : Cx}
open PySem.Builtin PySem.Builtin.Str in
theorem zgr {x g : Str} {pos : Pos} (hg : Gl X x) (hm : ∃ t, X.mg x = some (.str g t)) (hd : (x == ("__debug__" : Str)) = false := by decide) : DE c X (.Name x pos) (fun _ => some (.str g)) := by
  obtain ⟨t, hm⟩ := hm
  exact PE.imp (zkl hg hm (v := .str g) ⟨t, rfl⟩ hd) fun σ H Q ⟨Hf0, H0, Hf, ρ, d, st, ef, k⟩ => by
    cases ef
    exact k _ Hf H (Ext.refl st.sub) rfl
end
end L2
namespace L2
open PySem PySem.Spec PyProof.Rows
noncomputable def Its (x : Str) : It := ⟨fun i _ => i < x.length, fun i H v H' => H' = H /\ ∃ ch, x.cps[i]? = some ch /\ v = .str ⟨#[ch]⟩, fun i _ => x.length <= i⟩
theorem zq0 {P : Program} {w : World} {K : PySem.W.Frag} {tg : Expr} (it : Addr) (x : Str) (t : Tok) : zfe P w K tg (Its x) [it] it (fun i h => h.IsStrIter it "str_ascii_iterator" x t i) where
  mem := List.mem_singleton.mpr rfl
  obj := fun i h ⟨o, e, oc, od⟩ b hb => by
    cases List.mem_singleton.mp hb
    exact ⟨o, e, fun v z => by rw [od] at z; cases z⟩
  keep := fun i h h' ⟨o, e, r⟩ k => ⟨o, k it (List.mem_singleton.mpr rfl) o e, r⟩
  item := by
    intro X eP ew eK cm i pins s σ H E I hf st hg
    subst eP ew eK
    obtain ⟨f0, f1, f2, f3, f4, f5⟩ := hf it (List.mem_singleton.mpr rfl)
    have hx : x.cps[i]? = some x.cps[i] := Array.getElem?_eq_getElem hg
    refine wpAny_pyNext_ascii_item st hx fun h' st' sb => ?_
    have I1 : Inv X pins σ H { s with heap := h', toks := s.toks + 1 } := I.turned (fun b o hb e => (sb.2 b hb).trans e) f0 f1 f3 f4 f5
    obtain ⟨o, e, oc, od⟩ := id st'
    exact ⟨_, rfl, zhi (s := { s with heap := h', toks := s.toks + 1 }) e oc od (by decide) ⟨.str ⟨#[x.cps[i]]⟩, H, I1, ⟨_, rfl⟩, ⟨rfl, _, hx, rfl⟩, st', fun b hb => (hf b hb).1⟩⟩
  done := by
    intro X eP ew eK cm i pins s σ H E I hf st hg
    subst eP ew eK
    obtain ⟨f0, f1, f2, f3, f4, f5⟩ := hf it (List.mem_singleton.mpr rfl)
    exact wpAny_pyNext_ascii_end (I.ok.hd cm) st (Array.getElem?_eq_none hg) fun h' eb => ⟨rfl, I.turned (t' := s.toks) (fun b o hb e => eb b o hb e) f0 f1 f3 f4 f5⟩
  self := fun _ _ _ _ _ st h => wpAny_pyIter_striter_ascii st h
noncomputable def zd8 (f : List Sl -> Option D) (ρ : List Sl) : Option (List D) := (f ρ).bind fun d => match d with
  | .str x => if x.cps.all (· < 128) = true then some (x.cps.toList.map fun ch => .str ⟨#[ch]⟩) else none
  | _ => none
theorem zto {G : Gc} {Hf : Hp} {x : Str} : zfi G Hf (Its x) (x.cps.toList.map fun ch => D.str ⟨#[ch]⟩) := fun Hf' H' f s i => by
  refine ⟨fun d ed => ?_, fun ei => ?_⟩
  · rw [List.getElem?_map] at ed
    cases e : x.cps.toList[i]? with
    | none => rw [e] at ed; cases ed
    | some ch =>
      rw [e] at ed
      cases ed
      have hi : i < x.cps.size := by simpa using (List.getElem?_eq_some_iff.mp e).1
      refine ⟨hi, fun v H2 ⟨e2, c2, h2, hv⟩ => ?_⟩
      subst e2 hv
      rw [<- Array.getElem?_toList, e] at h2
      cases h2
      exact ⟨Hf', Ext.refl s, rfl⟩
  · rw [List.length_map, Array.length_toList] at ei
    exact Nat.le_of_eq ei.symm
section
variable {c : Str -> Addr} {X : Cx} {tg e a b : Expr} {pos p : Pos}
theorem zuv {l : Expr} {tl : TE} (hl : PE X l tl) : PI X tg l (fun σ H R => tl σ H fun x H1 => ∃ z, x = .str z /\ z.cps.all (· < 128) = true /\ R (Its z) H1) := by
  intro pins s σ H R I h
  refine thn (hl pins s σ H _ I h) fun v s1 ⟨x, H1, I1, r1, z, ez, as, q⟩ => ?_
  subst ez
  obtain ⟨t, rfl⟩ := r1
  refine wpAny_pyIter_ascii as ?_
  refine ⟨s1.heap.objs.size, [s1.heap.objs.size], _, _, H1, rfl, I1.kept (t' := s1.toks) fun b o e => Heap.get?_push_of_some _ e, zq0 _ z t, ⟨_, Heap.get?_push_size _ rfl, rfl, rfl⟩, fun b hb => ?_, q⟩
  cases List.mem_singleton.mp hb
  exact I1.fpOk Nat.le.refl (I1.hok.fresh Nat.le.refl)
theorem zmn {f : List Sl -> Option D} (h : DE c X e f) : DI c X tg e (zd8 f) := PI.imp (zuv h) fun σ H R q_ => by
  obtain ⟨Hf0, H0, Hf, ρ, ds, st, ef, k⟩ := q_
  unfold zd8 at ef
  cases e1 : f ρ with
  | none => rw [e1] at ef; cases ef
  | some d =>
    rw [e1, Option.bind_some] at ef
    cases d <;> first | (cases ef; done) | skip
    rename_i x
    replace ef : (if x.cps.all (· < 128) = true then some (x.cps.toList.map fun ch => D.str ⟨#[ch]⟩) else none) = some ds := ef
    split at ef
    · rename_i as
      cases ef
      exact ⟨Hf0, H0, Hf, ρ, _, st, e1, fun v Hf1 H1 x1 r1 => ⟨x, r1, as, k _ Hf1 H1 x1 zto⟩⟩
    · cases ef
noncomputable def inS (y x : Str) : Bool := !(PySem.Builtin.Str.occurrences x y 0 x.length 1).isEmpty
noncomputable def zdj (y x : D) : Option D := match y, x with
  | .str y, .str x => some (.bl (inS y x))
  | _, _ => none
theorem zh5 : ∀ x y d, zdj x y = some d -> d.scalar = true := fun x y d e => by
  unfold zdj at e
  split at e
  · cases e; rfl
  · cases e
theorem zix : OpD c X (compareOp .In) zdj := by
  rintro pins s σ H vx vy v u Q I rx ry ⟨Hf, x, y, d, s0, r1, r2, e, k⟩
  unfold zdj at e
  split at e
  · rename_i y x
    cases e
    cases (show vx = V.str y from r1)
    cases (show vy = V.str x from r2)
    obtain ⟨t, rfl⟩ := rx
    obtain ⟨t', rfl⟩ := ry
    exact PyProof.Rows.in_str ⟨.bl _, H, I, rfl, k _ Hf H (Ext.refl s0) rfl⟩
  · cases e
noncomputable def zqt : V -> Option Int -> Option Int -> Hp -> VK -> Prop := fun x lo hi H Q => ∃ z, x = .str z /\ z.length <= sizeLine /\ Q (.str (Txt.slice z lo hi)) H
theorem zmi : SlR X zqt := by
  rintro pins s σ H x v vl vu lo hi sl Q I rx hs pl pu ⟨z, rfl, hz, q⟩
  obtain ⟨t, rfl⟩ := rx
  refine ⟨"str", _, F.slot_str_getitem.lookup, typeIs_str _ _ _, ?_⟩
  have fin : ∀ (t' : Tok) (k : Nat), EP X pins σ Q (.str (Txt.slice z lo hi) t') { s with toks := k } := fun t' k => ⟨.str _, H, I.tok k, ⟨t', rfl⟩, q⟩
  obtain ⟨o, ho, hc, hd⟩ := hs
  cases pl with
  | none =>
    cases pu with
    | none => exact wpAny_getItem_str_slice (l := none) (u := none) (st := none) ⟨o, ho, hc, hd⟩ rfl (post_val_or_str ⟨Nat.le_trans (Txt.slice_le z _ _) hz, fin⟩)
    | int i ti => exact wpAny_getItem_str_slice (l := none) (u := some (i, ti)) (st := none) ⟨o, ho, hc, hd⟩ rfl (post_val_or_str ⟨Nat.le_trans (Txt.slice_le z _ _) hz, fin⟩)
  | int j tj =>
    cases pu with
    | none => exact wpAny_getItem_str_slice (l := some (j, tj)) (u := none) (st := none) ⟨o, ho, hc, hd⟩ rfl (post_val_or_str ⟨Nat.le_trans (Txt.slice_le z _ _) hz, fin⟩)
    | int i ti => exact wpAny_getItem_str_slice (l := some (j, tj)) (u := some (i, ti)) (st := none) ⟨o, ho, hc, hd⟩ rfl (post_val_or_str ⟨Nat.le_trans (Txt.slice_le z _ _) hz, fin⟩)
noncomputable def zes (d : D) (lo hi : Option Int) : Option D := match d with
  | .str z => if z.length <= 16777216 then some (.str (Txt.slice z lo hi)) else none
  | _ => none
theorem znm {d r : D} {lo hi : Option Int} (h : zes d lo hi = some r) : ∃ z, d = .str z /\ z.length <= sizeLine /\ r = .str (Txt.slice z lo hi) := by
  unfold zes at h
  split at h
  · split at h
    · rename_i hz; cases h; exact ⟨_, rfl, by rw [sizeLine_eq]; exact hz, rfl⟩
    · cases h
  · cases h
noncomputable def zbt (f : List Sl -> Option D) (l h : List Sl -> Option (Option Int)) (ρ : List Sl) : Option D := (f ρ).bind fun d => (l ρ).bind fun lo => (h ρ).bind fun hi => zes d lo hi
theorem zds {f : List Sl -> Option D} {l h : List Sl -> Option (Option Int)} {lo hi : Option Expr} {p2 : Pos} (ha : DE c X e f) (hl : DPt c X lo l) (hh : DPt c X hi h) : DE c X (.Subscript e (.Slice lo hi none p2) pos) (zbt f l h) :=
  PE.imp (zjz zmi ha hl hh) fun σ H Q q_ => by
    obtain ⟨Hf0, H0, Hf, ρ, r, st, ef, k⟩ := q_
    unfold zbt at ef
    cases e1 : f ρ with
    | none => rw [e1] at ef; cases ef
    | some d =>
      rw [e1, Option.bind_some] at ef
      cases e2 : l ρ with
      | none => rw [e2] at ef; cases ef
      | some lo' =>
        rw [e2, Option.bind_some] at ef
        cases e3 : h ρ with
        | none => rw [e3] at ef; cases ef
        | some hi' =>
          rw [e3, Option.bind_some] at ef
          obtain ⟨z, rfl, hz, rfl⟩ := znm ef
          exact ⟨Hf0, H0, Hf, ρ, _, st, e1, fun v Hf1 H1 x1 r1 => ⟨Hf0, H0, Hf1, ρ, lo', st.step x1, e2, fun Hf2 H2 x2 => ⟨Hf0, H0, Hf2, ρ, hi', (st.step x1).step x2, e3, fun Hf3 H3 x3 => ⟨z, r1, hz, k _ Hf3 H3 ((x1.trans x2).trans x3) rfl⟩⟩⟩⟩
noncomputable def zgl (f g : Xe) : Xe := fun ρ => (f ρ).bind fun p => (g p.2).bind fun q => match q.1 with
  | .int i => (zes p.1 (some i) none).map fun d => (d, q.2)
  | _ => none
theorem zs8 {f g : Xe} {p2 : Pos} (ha : DX c X a f) (hb : DX c X b g) : DX c X (.Subscript a (.Slice (some b) none none p2) pos) (zgl f g) :=
  PE.imp (zjz zmi ha (zk7 hb) zk2) fun σ H Q q_ => by
    obtain ⟨Hf0, H0, Hf, ρ, r, ρ', st, ef, k⟩ := q_
    unfold zgl at ef
    cases e1 : f ρ with
    | none => rw [e1] at ef; cases ef
    | some p1 =>
      obtain ⟨d, ρ1⟩ := p1
      rw [e1, Option.bind_some] at ef
      cases e2 : g ρ1 with
      | none => dsimp only at ef; rw [e2] at ef; cases ef
      | some p2 =>
        obtain ⟨y, ρ2⟩ := p2
        dsimp only at ef
        rw [e2, Option.bind_some] at ef
        cases y <;> first | (cases ef; done) | skip
        rename_i i
        replace ef : (zes d (some i) none).map (fun d => (d, ρ2)) = some (r, ρ') := ef
        cases e3 : zes d (some i) none with
        | none => rw [e3] at ef; cases ef
        | some r' =>
          rw [e3] at ef
          cases ef
          obtain ⟨z, rfl, hz, rfl⟩ := znm e3
          exact ⟨Hf0, H0, Hf, ρ, _, ρ1, st, e1, fun v Hf1 H1 f1 st1 r1 => ⟨Hf0, H0, Hf1, ρ1, _, _, st1, e2, fun u Hf2 H2 f2 st2 r2 => ⟨i, r2, z, r1, hz, k _ Hf2 H2 (f1.trans f2) st2 rfl⟩⟩⟩
noncomputable def zkh : V -> List V -> Hp -> VK -> Prop := fun x vs H Q => ∃ a b, x = .str a /\ vs = [.str b] /\ Q (.bl (Txt.startswith a b)) H
theorem zn7 : MtR X "str.startswith" zkh := by
  rintro pins s σ H x xs v us Q I rx rv ⟨a, b, rfl, rfl, q⟩
  obtain ⟨t, rfl⟩ := rx
  obtain ⟨u, rfl, t', rfl⟩ := rv.one
  exact SC.startswith ⟨.bl _, H, I, rfl, q⟩
noncomputable def zko : V -> List V -> Hp -> VK -> Prop := fun x vs H Q => ∃ a b, x = .str a /\ vs = [.str b] /\ a.length <= sizeLine /\ Q (.str (Txt.lstripChars a b)) H
theorem zpf : MtR X "str.lstrip" zko := by
  rintro pins s σ H x xs v us Q I rx rv ⟨a, b, rfl, rfl, hz, q⟩
  obtain ⟨t, rfl⟩ := rx
  obtain ⟨u, rfl, t', rfl⟩ := rv.one
  exact SC.lstripChars (fun t' k => ⟨.str _, H, I.tok k, ⟨t', rfl⟩, q⟩) hz
noncomputable def znj : V -> List V -> Hp -> VK -> Prop := fun x vs H Q => ∃ a, x = .str a /\ vs = [] /\ PySem.Builtin.Str.tooLong (Txt.upper a).length = false /\ Q (.str (Txt.upper a)) H
theorem zo9 : MtR X "str.upper" znj := by
  rintro pins s σ H x xs v us Q I rx rv ⟨a, rfl, rfl, hz, q⟩
  obtain ⟨t, rfl⟩ := rx
  cases rv
  exact SC.upper hz ⟨.str _, H, I.tok _, ⟨_, rfl⟩, q⟩
noncomputable def zfg (x y : D) : Option D := match x, y with
  | .str a, .str b => some (.bl (Txt.startswith a b))
  | _, _ => none
noncomputable def zif (x y : D) : Option D := match x, y with
  | .str a, .str b => if a.length <= 16777216 then some (.str (Txt.lstripChars a b)) else none
  | _, _ => none
noncomputable def zho (x : D) : Option D := match x with
  | .str a => if PySem.Builtin.Str.tooLong (Txt.upper a).length = false then some (.str (Txt.upper a)) else none
  | _ => none
theorem zk3 {f g : List Sl -> Option D} (h : PE X e (tBM X.K "str" zkh (tD (Gx c X) f) (zim (tD (Gx c X) g) zgy))) : DE c X e (m2 zfg f g) := PE.imp h fun σ H Q q_ => by
  obtain ⟨Hf0, H0, Hf, ρ, d, st, ef, k⟩ := q_
  obtain ⟨x, y, e1, e2, e3⟩ := zhf ef
  unfold zfg at e3
  split at e3
  · rename_i a b
    cases e3
    refine ⟨Hf0, H0, Hf, ρ, _, st, e1, fun v Hf1 H1 x1 r1 => ?_⟩
    cases (show v = V.str a from r1)
    exact ⟨rfl, Hf0, H0, Hf1, ρ, _, st.step x1, e2, fun u Hf2 H2 x2 r2 => ⟨a, b, rfl, by rw [show u = V.str b from r2], k _ Hf2 H2 (x1.trans x2) rfl⟩⟩
  · cases e3
theorem zub {f g : List Sl -> Option D} (h : PE X e (tBM X.K "str" zko (tD (Gx c X) f) (zim (tD (Gx c X) g) zgy))) : DE c X e (m2 zif f g) := PE.imp h fun σ H Q q_ => by
  obtain ⟨Hf0, H0, Hf, ρ, d, st, ef, k⟩ := q_
  obtain ⟨x, y, e1, e2, e3⟩ := zhf ef
  unfold zif at e3
  split at e3
  · rename_i a b
    split at e3
    · rename_i hz
      cases e3
      refine ⟨Hf0, H0, Hf, ρ, _, st, e1, fun v Hf1 H1 x1 r1 => ?_⟩
      cases (show v = V.str a from r1)
      exact ⟨rfl, Hf0, H0, Hf1, ρ, _, st.step x1, e2, fun u Hf2 H2 x2 r2 => ⟨a, b, rfl, by rw [show u = V.str b from r2], by rw [sizeLine_eq]; exact hz, k _ Hf2 H2 (x1.trans x2) rfl⟩⟩
    · cases e3
  · cases e3
theorem zqy {f : List Sl -> Option D} (h : PE X e (znf X.K "str" znj (tD (Gx c X) f))) : DE c X e (m1 zho f) := PE.imp h fun σ H Q q_ => by
  obtain ⟨Hf0, H0, Hf, ρ, d, st, ef, k⟩ := q_
  unfold m1 at ef
  cases e1 : f ρ with
  | none => rw [e1] at ef; cases ef
  | some x =>
    rw [e1, Option.bind_some] at ef
    unfold zho at ef
    split at ef
    · rename_i a
      split at ef
      · rename_i hz
        cases ef
        refine ⟨Hf0, H0, Hf, ρ, _, st, e1, fun v Hf1 H1 x1 r1 => ?_⟩
        cases (show v = V.str a from r1)
        exact ⟨rfl, a, rfl, rfl, hz, k _ Hf1 H1 x1 rfl⟩
      · cases ef
    · cases ef
end
end L2
namespace L2
open PySem PySem.Spec PyProof.Rows
theorem zpo {X : Cx} : zbr X (.type "int") (fun xs H Q => ∃ z n, xs = [.str z] /\ PySem.intText? z = some n /\ z.length <= 640 /\ Q (.int n) H) := by
  rintro pins s σ H xs us Q I r ⟨z, n, rfl, hn, hl, q⟩
  obtain ⟨_, rfl, t, rfl⟩ := zfy r
  exact PySem.W.KIN.call_text hn hl ⟨.int n, H, I.tok _, ⟨_, rfl⟩, q⟩
theorem zp3 : bootBuiltins "int" = some (.type "int") := by decide +kernel
theorem zp5 : bootBuiltins "str" = some (.type "str") := by decide +kernel
noncomputable def zeb (x : D) : Option D := match x with
  | .str z => if z.length <= 640 then (PySem.intText? z).map .int else none
  | _ => none
noncomputable def zed (x : D) : Option D := match x with
  | .int i => if i.natAbs.log2 < 1920 then some (.str (toString i)) else none
  | _ => none
noncomputable def znv (K : PySem.W.Frag) (mg : Str -> Option Value) (x : Str) (ts : List Str) : Prop := ∃ a o its n, mg x = some (.ref a) /\ K.lookup a = some o /\ o.cls = .type "tuple" /\ o.data = .seq its n /\ its.size <= sizeLine /\ zaf (ts.map V.str) its.toList
section
variable {c : Str -> Addr} {X : Cx} {e : Expr} {p pos : Pos}
theorem znt {f : List Sl -> Option D} (hg : Gl X "int") (hm : X.mg "int" = none) (ha : DE c X e f) (hs : starEach [e] X.env = (false, eval e X.env) :: starEach [] X.env := by rfl) : DE c X (.Call (.Name "int" p) [e] [] pos) (m1 zeb f) := PE.imp (zlb zpo hg hm zp3 (zcc ha zdn hs) (by decide) (by decide) hs rfl) fun σ H Q q_ => by
  obtain ⟨Hf0, H0, Hf, ρ, d, st, ef, k⟩ := q_
  unfold m1 at ef
  cases e1 : f ρ with
  | none => rw [e1] at ef; cases ef
  | some x =>
    rw [e1, Option.bind_some] at ef
    unfold zeb at ef
    split at ef
    · rename_i z
      split at ef
      · rename_i hz
        cases e2 : PySem.intText? z with
        | none => rw [e2] at ef; cases ef
        | some n =>
          rw [e2] at ef
          cases ef
          refine ⟨Hf0, H0, Hf, ρ, _, st, e1, fun v Hf1 H1 x1 r1 => ?_⟩
          cases (show v = V.str z from r1)
          exact ⟨z, n, rfl, e2, hz, k _ Hf1 H1 x1 rfl⟩
      · cases ef
    · cases ef
theorem zmt {f : List Sl -> Option D} (hg : Gl X "str") (hm : X.mg "str" = none) (ha : DE c X e f) (hs : starEach [e] X.env = (false, eval e X.env) :: starEach [] X.env := by rfl) : DE c X (.Call (.Name "str" p) [e] [] pos) (m1 zed f) := PE.imp (zlb zps hg hm zp5 (zcc ha zdn hs) (by decide) (by decide) hs rfl) fun σ H Q q_ => by
  obtain ⟨Hf0, H0, Hf, ρ, d, st, ef, k⟩ := q_
  unfold m1 at ef
  cases e1 : f ρ with
  | none => rw [e1] at ef; cases ef
  | some x =>
    rw [e1, Option.bind_some] at ef
    unfold zed at ef
    split at ef
    · rename_i i
      split at ef
      · rename_i hz
        cases ef
        refine ⟨Hf0, H0, Hf, ρ, _, st, e1, fun v Hf1 H1 x1 r1 => ?_⟩
        cases (show v = V.int i from r1)
        exact ⟨i, rfl, hz, k _ Hf1 H1 x1 rfl⟩
      · cases ef
    · cases ef
theorem zb4 {k : Nat} {f : Addr} {fd : FuncData} {x : Str} {m : List D -> Option D} (F : zar X.prog X.w X.K X.mg X.base CX0 k f fd [] (spD (Gx c X) ([] : List Str).length m)) (hr : zaz k X.A) (hg : Gl X x) (hm : X.mg x = some (.ref f)) (hk : PySem.W.keepIn X.K (.ref f) = true) (hb : za2 X.K fd [] []) (hdb : (x == ("__debug__" : Str)) = false := by decide) :
    DE c X (.Call (.Name x p) [] [] pos) (zah m (fun _ => some [])) := PE.imp (zru F hr hg hm hk hb .nil zf6 hdb) fun σ H Q q_ => by
  obtain ⟨Hf0, H0, Hf, ρ, d, st, ef, kq⟩ := q_
  obtain ⟨ds, e1, e2⟩ := zi7 ef
  cases e1
  exact ⟨Hf, [], d, st.sub, rfl, rfl, e2, fun v Hf2 H2 x2 r2 => kq v Hf2 H2 x2 r2⟩
theorem zo2 {x : Str} {ts : List Str} (hg : Gl X x) (hm : znv X.K X.mg x ts) (hd : (x == ("__debug__" : Str)) = false := by decide) : DE c X (.Name x pos) (fun _ => some (.kt (ts.map D.str))) := by
  obtain ⟨a, o, its, n, hm, lk, oc, od, hz, vs⟩ := hm
  exact PE.imp (zkl hg hm (v := .ref a) rfl hd) fun σ H Q ⟨Hf0, H0, Hf, ρ, d, st, ef, k⟩ => by
    cases ef
    exact k _ Hf H (Ext.refl st.sub) ⟨a, ts.map V.str, rfl, .inr ⟨o, its, n, lk, oc, od, hz, vs⟩, zl1 ts⟩
end
end L2
namespace N_k72
open PySem PySem.Spec PyProof.Rows L2
noncomputable def top (i : Nat) : Stmt := PySem.Challenge.pw_standstill_k72_names_and_numbers.main.body.getD i (.Pass ⟨0, 0, 0, 0⟩)
noncomputable abbrev s_4 : Stmt := top 5
noncomputable abbrev zfj : Stmt := top 6
noncomputable abbrev zfb : Stmt := top 7
noncomputable abbrev zfc : Stmt := top 8
noncomputable abbrev s_0 : Stmt := top 10
noncomputable abbrev s_2 : Stmt := top 11
noncomputable abbrev s_7 : Stmt := top 12
noncomputable abbrev s_8 : Stmt := top 13
noncomputable abbrev s_1 : Stmt := top 14
noncomputable abbrev zfu : Stmt := top 15
noncomputable abbrev s_9 : Stmt := top 16
noncomputable abbrev ze7 : Stmt := top 17
noncomputable abbrev zfv : Stmt := top 18
noncomputable abbrev s_6 : Stmt := top 19
noncomputable abbrev ze5 : Stmt := top 20
noncomputable abbrev s_5 : Stmt := top 21
noncomputable abbrev s_3 : Stmt := top 22
theorem zqg : zba ["word", "signs", "most"] ["word", "signs", "most"] (zal s_4) := ⟨rfl, rfl, rfl, by decide +kernel, rfl, by decide +kernel, by decide +kernel⟩
theorem zqs : zba ["word"] ["word"] (zal zfj) := ⟨rfl, rfl, rfl, by decide +kernel, rfl, by decide +kernel, by decide +kernel⟩
theorem zqe : zba ["word"] ["word"] (zal zfb) := ⟨rfl, rfl, rfl, by decide +kernel, rfl, by decide +kernel, by decide +kernel⟩
theorem zkb : zba ["word", "figures"] ["word"] (zal zfc) := ⟨rfl, rfl, rfl, by decide +kernel, rfl, by decide +kernel, by decide +kernel⟩
theorem zs7 : zba ["_law_state", "_law_many"] ["_law_state", "_law_many"] (zal s_0) := ⟨rfl, rfl, rfl, by decide +kernel, rfl, by decide +kernel, by decide +kernel⟩
theorem zod : zba ([] : List Str) ([] : List Str) (zal s_2) := ⟨rfl, rfl, rfl, by decide +kernel, rfl, by decide +kernel, by decide +kernel⟩
theorem ztg : zba ([] : List Str) ([] : List Str) (zal s_7) := ⟨rfl, rfl, rfl, by decide +kernel, rfl, by decide +kernel, by decide +kernel⟩
theorem zk1 : zba ["_law_first"] ([] : List Str) (zal s_8) := ⟨rfl, rfl, rfl, by decide +kernel, rfl, by decide +kernel, by decide +kernel⟩
theorem zhj : zba ["_law_state", "_law_signs", "_law_many", "_law_run", "_law_k"] ["_law_state", "_law_signs", "_law_many"] (zal s_1) := ⟨rfl, rfl, rfl, by decide +kernel, rfl, by decide +kernel, by decide +kernel⟩
theorem zjx : zba ["_law_state", "_law_word_here", "_law_way"] ["_law_state"] (zal zfu) := ⟨rfl, rfl, rfl, by decide +kernel, rfl, by decide +kernel, by decide +kernel⟩
theorem zpt : zba ([] : List Str) ([] : List Str) (zal s_9) := ⟨rfl, rfl, rfl, by decide +kernel, rfl, by decide +kernel, by decide +kernel⟩
theorem zgt : zba ["_law_state", "_law_way", "_law_sign", "_law_many"] ["_law_state"] (zal ze7) := ⟨rfl, rfl, rfl, by decide +kernel, rfl, by decide +kernel, by decide +kernel⟩
theorem zg0 : zba ["_law_word_here", "_law_state", "_law_at", "_law_sign", "_law_rest"] ["_law_word_here", "_law_state"] (zal zfv) := ⟨rfl, rfl, rfl, by decide +kernel, rfl, by decide +kernel, by decide +kernel⟩
theorem zpx : zba ["_law_word_here", "_law_signs"] ["_law_word_here", "_law_signs"] (zal s_6) := ⟨rfl, rfl, rfl, by decide +kernel, rfl, by decide +kernel, by decide +kernel⟩
theorem zna : zba ["_law_word_here", "_law_figures"] ["_law_word_here"] (zal ze5) := ⟨rfl, rfl, rfl, by decide +kernel, rfl, by decide +kernel, by decide +kernel⟩
theorem ztc : zba ["_law_found", "_law_due"] ["_law_found", "_law_due"] (zal s_5) := ⟨rfl, rfl, rfl, by decide +kernel, rfl, by decide +kernel, by decide +kernel⟩
theorem zd3 : zba ["_law_script", "_law_cell", "_law_state", "_law_word_here", "_law_short", "_law_great_here"] ["_law_script"] (zal s_3) := ⟨rfl, rfl, rfl, by decide +kernel, rfl, by decide +kernel, by decide +kernel⟩
set_option genInjectivity false
set_option genSizeOf false
structure Wa where
  f_4 : Addr
  fd_4 : FuncData
  f_10 : Addr
  fd_10 : FuncData
  f_16 : Addr
  fd_16 : FuncData
  f_14 : Addr
  fd_14 : FuncData
  f_0 : Addr
  fd_0 : FuncData
  f_2 : Addr
  fd_2 : FuncData
  f_7 : Addr
  fd_7 : FuncData
  f_8 : Addr
  fd_8 : FuncData
  f_1 : Addr
  fd_1 : FuncData
  f_13 : Addr
  fd_13 : FuncData
  f_9 : Addr
  fd_9 : FuncData
  f_11 : Addr
  fd_11 : FuncData
  f_12 : Addr
  fd_12 : FuncData
  f_6 : Addr
  fd_6 : FuncData
  f_15 : Addr
  fd_15 : FuncData
  f_5 : Addr
  fd_5 : FuncData
  f_3 : Addr
  fd_3 : FuncData
structure Wd (K : PySem.W.Frag) (mg : Str -> Option Value) (a : Wa) : Prop where
  F_4 : Fun K "is_made_of" "is_made_of" s_4 a.f_4 a.fd_4
  b_4 : za2 K a.fd_4 ["word", "signs", "most"] []
  g_4 : mg "is_made_of" = some (.ref a.f_4)
  F_10 : Fun K "is_name" "is_name" zfj a.f_10 a.fd_10
  b_10 : za2 K a.fd_10 ["word"] []
  g_10 : mg "is_name" = some (.ref a.f_10)
  F_16 : Fun K "is_variable" "is_variable" zfb a.f_16 a.fd_16
  b_16 : za2 K a.fd_16 ["word"] []
  g_16 : mg "is_variable" = some (.ref a.f_16)
  F_14 : Fun K "is_number" "is_number" zfc a.f_14 a.fd_14
  b_14 : za2 K a.fd_14 ["word"] []
  g_14 : mg "is_number" = some (.ref a.f_14)
  F_0 : Fun K "_law_next" "_law_next" s_0 a.f_0 a.fd_0
  b_0 : za2 K a.fd_0 ["_law_state", "_law_many"] []
  g_0 : mg "_law_next" = some (.ref a.f_0)
  F_2 : Fun K "_law_small" "_law_small" s_2 a.f_2 a.fd_2
  b_2 : za2 K a.fd_2 ([] : List Str) []
  g_2 : mg "_law_small" = some (.ref a.f_2)
  F_7 : Fun K "_law_great" "_law_great" s_7 a.f_7 a.fd_7
  b_7 : za2 K a.fd_7 ([] : List Str) []
  g_7 : mg "_law_great" = some (.ref a.f_7)
  F_8 : Fun K "_law_kept" "_law_kept" s_8 a.f_8 a.fd_8
  b_8 : za2 K a.fd_8 ([] : List Str) []
  g_8 : mg "_law_kept" = some (.ref a.f_8)
  F_1 : Fun K "_law_some" "_law_some" s_1 a.f_1 a.fd_1
  b_1 : za2 K a.fd_1 ["_law_state", "_law_signs", "_law_many"] []
  g_1 : mg "_law_some" = some (.ref a.f_1)
  F_13 : Fun K "_law_near" "_law_near" zfu a.f_13 a.fd_13
  b_13 : za2 K a.fd_13 ["_law_state"] []
  g_13 : mg "_law_near" = some (.ref a.f_13)
  F_9 : Fun K "_law_any" "_law_any" s_9 a.f_9 a.fd_9
  b_9 : za2 K a.fd_9 ([] : List Str) []
  g_9 : mg "_law_any" = some (.ref a.f_9)
  F_11 : Fun K "_law_word" "_law_word" ze7 a.f_11 a.fd_11
  b_11 : za2 K a.fd_11 ["_law_state"] []
  g_11 : mg "_law_word" = some (.ref a.f_11)
  F_12 : Fun K "_law_spoiled" "_law_spoiled" zfv a.f_12 a.fd_12
  b_12 : za2 K a.fd_12 ["_law_word_here", "_law_state"] []
  g_12 : mg "_law_spoiled" = some (.ref a.f_12)
  F_6 : Fun K "_law_only" "_law_only" s_6 a.f_6 a.fd_6
  b_6 : za2 K a.fd_6 ["_law_word_here", "_law_signs"] []
  g_6 : mg "_law_only" = some (.ref a.f_6)
  F_15 : Fun K "_law_numeral" "_law_numeral" ze5 a.f_15 a.fd_15
  b_15 : za2 K a.fd_15 ["_law_word_here"] []
  g_15 : mg "_law_numeral" = some (.ref a.f_15)
  F_5 : Fun K "_law_told" "_law_told" s_5 a.f_5 a.fd_5
  b_5 : za2 K a.fd_5 ["_law_found", "_law_due"] []
  g_5 : mg "_law_told" = some (.ref a.f_5)
  F_3 : Fun K "law" "law" s_3 a.f_3 a.fd_3
  b_3 : za2 K a.fd_3 ["_law_script"] []
  g_3 : mg "law" = some (.ref a.f_3)
  kt_NoneType_bool : PySem.W.kitOne K (.type "NoneType") (.type "bool") = some false
  kt_bool_bool : PySem.W.kitOne K (.type "bool") (.type "bool") = some true
  kt_int_bool : PySem.W.kitOne K (.type "int") (.type "bool") = some false
  kt_str_bool : PySem.W.kitOne K (.type "str") (.type "bool") = some false
  kt_list_bool : PySem.W.kitOne K (.type "list") (.type "bool") = some false
  kt_tuple_bool : PySem.W.kitOne K (.type "tuple") (.type "bool") = some false
  kt_dict_bool : PySem.W.kitOne K (.type "dict") (.type "bool") = some false
  g_KEPT : znv K mg "KEPT" ["kind", "rule", "may", "choose", "never", "if", "and", "not", "unlike", "least", "most", "of", "to", "over", "in", "for"]
  g_SMALL : ∃ t, mg "SMALL" = some (.str "abcdefghijklmnopqrstuvwxyz" t)
  g_GREAT : ∃ t, mg "GREAT" = some (.str "ABCDEFGHIJKLMNOPQRSTUVWXYZ" t)
  g_FIGURES : ∃ t, mg "FIGURES" = some (.str "0123456789" t)
  z_all : mg "all" = none
  z_bool : mg "bool" = none
  z_int : mg "int" = none
  z_isinstance : mg "isinstance" = none
  z_len : mg "len" = none
  z_range : mg "range" = none
  z_str : mg "str" = none
set_option genInjectivity true
set_option genSizeOf true
section
variable {P : Program} {w : World} {K : PySem.W.Frag} {mg : Str -> Option Value} {base : Heap}
noncomputable def cl (a : Wa) : Str -> Addr := fun s => 0
theorem zsz {a : Wa} (W : Wd K mg a) : zmq K "bool" := fun t ht => by
  simp only [List.mem_cons, List.not_mem_nil, or_false] at ht
  rcases ht with rfl | rfl | rfl | rfl | rfl | rfl | rfl
  · exact W.kt_NoneType_bool
  · exact W.kt_bool_bool
  · exact W.kt_int_bool
  · exact W.kt_str_bool
  · exact W.kt_list_bool
  · exact W.kt_tuple_bool
  · exact W.kt_dict_bool
end
noncomputable def b_7 : List Sl -> Option Fl :=
  (zbb (fun _ => some (.str "ABCDEFGHIJKLMNOPQRSTUVWXYZ")))
noncomputable def m_7 (as : List D) : Option D := zbn 0 b_7 as
noncomputable def b_8 : List Sl -> Option Fl :=
  (zas (zco 0 (zcf (zad (fun _ => some (.str "kind")) (zad (fun _ => some (.str "rule")) (zad (fun _ => some (.str "may")) (zad (fun _ => some (.str "choose")) (zad (fun _ => some (.str "never")) (zad (fun _ => some (.str "if")) (zad (fun _ => some (.str "and")) (zad (fun _ => some (.str "not")) (fun _ => some [])))))))))))
    (zj5 (zff (zaa 0) (zcf (zad (fun _ => some (.str "unlike")) (zad (fun _ => some (.str "least")) (zad (fun _ => some (.str "most")) (zad (fun _ => some (.str "of")) (zad (fun _ => some (.str "to")) (zad (fun _ => some (.str "over")) (zad (fun _ => some (.str "in")) (zad (fun _ => some (.str "for")) (fun _ => some [])))))))))))))
noncomputable def m_8 (as : List D) : Option D := zbn 1 b_8 as
noncomputable def b_0 : List Sl -> Option Fl :=
  (zas (ze8 0 (fun _ => some (.int 0)) (m2 zf3 (m2 zbg (m2 zis (mIx (zgu 0) (fun _ => some (.int 0))) (fun _ => some (.int 1181783497276652981))) (fun _ => some (.int 12345678910987))) (m2 zhs (m2 zg3 (fun _ => some (.int 2)) (fun _ => some (.int 61))) (fun _ => some (.int 1)))))
    (zct (m2 zf3 (m2 ziq (mIx (zgu 0) (fun _ => some (.int 0))) (fun _ => some (.int 65537))) (zaa 1))))
noncomputable def m_0 : Addr -> List D -> List D -> List D -> Option (List D × D) := zdl 2 b_0
noncomputable def b_6 : List Sl -> Option Fl :=
  (zbb (m2 dEq (zah zbf (zad (zcf (zcs 1 [1] (zd8 (zaa 0)) (zc7 0) (mB (m2 zdj (zaa 0) (zaa 1))) (zaa 0))) (fun _ => some []))) (zah zbf (zad (zaa 0) (fun _ => some [])))))
noncomputable def m_6 (as : List D) : Option D := zbn 2 b_6 as
noncomputable def b_15 : List Sl -> Option Fl :=
  (zas (zco 1 (m2 zif (zaa 0) (fun _ => some (.str "-"))))
    (zas (zbq (mOr (mB (m2 dEq (zaa 1) (fun _ => some (.str "")))) (mOr (mB (m2 dGt (zah zbf (zad (zaa 1) (fun _ => some []))) (fun _ => some (.int 30)))) (zdb (zc5 (zah m_6 (zad (zaa 1) (zad (fun _ => some (.str "0123456789")) (fun _ => some [])))))))) (zbb (fun _ => some (.bl false))) zbl)
    (zbb (vOr (m2 dEq (zaa 0) (m1 zed (m1 zeb (zaa 1)))) (m2 dEq (zaa 0) (m1 zed (m1 zg1 (m1 zeb (zaa 1)))))))))
noncomputable def zi5 (as : List D) : Option D := zbn 2 b_15 as
noncomputable def b_2 : List Sl -> Option Fl :=
  (zbb (fun _ => some (.str "abcdefghijklmnopqrstuvwxyz")))
noncomputable def m_2 (as : List D) : Option D := zbn 0 b_2 as
noncomputable def b_9 : List Sl -> Option Fl :=
  (zbb (m2 zbg (m2 zbg (zah m_2 (fun _ => some [])) (zah m_7 (fun _ => some []))) (fun _ => some (.str "0123456789 !\"#$&'()*+,-./:;<=>?\x40[\\]^_`{|}~\t\n"))))
noncomputable def m_9 (as : List D) : Option D := zbn 0 b_9 as
noncomputable def b_1 : List Sl -> Option Fl :=
  (zas (zco 3 (fun _ => some (.str "")))
    (zas (zex (zhw (zad (zaa 2) (fun _ => some []))) (zc7 4) (zf7 3 (mX2 zcu (mX (zaa 1)) (zaq 0 m_0 (zaj (mX (zah zbf (zad (zaa 1) (fun _ => some [])))) zam)))))
    (zct (zaa 3))))
noncomputable def m_1 : Addr -> List D -> List D -> List D -> Option (List D × D) := zdl 5 b_1
noncomputable def b_12 : List Sl -> Option Fl :=
  (zas (zca 2 (zaq 1 m_0 (zaj (mX (m2 zbg (zah zbf (zad (zaa 0) (fun _ => some []))) (fun _ => some (.int 1)))) zam)))
    (zas (zca 3 (zaq 1 m_1 (zaj (mX (zah m_9 (fun _ => some []))) (zaj (mX (fun _ => some (.int 1))) zam))))
    (zas (zca 4 (zgl (mX (zaa 0)) (mX2 zbg (mX (zaa 2)) (zaq 1 m_0 (zaj (mX (fun _ => some (.int 2))) zam)))))
    (zas (zfo (mBX (mX2 dEq (zaq 1 m_0 (zaj (mX (fun _ => some (.int 3))) zam)) (mX (fun _ => some (.int 0))))) (zct (m2 zbg (zbt (zaa 0) (fun _ => some none) (mPt (zaa 2))) (zaa 4))) zbl)
    (zct (m2 zbg (m2 zbg (zbt (zaa 0) (fun _ => some none) (mPt (zaa 2))) (zaa 3)) (zaa 4)))))))
noncomputable def zit : Addr -> List D -> List D -> List D -> Option (List D × D) := zdl 5 b_12
noncomputable def b_5 : List Sl -> Option Fl :=
  (zbb (zch (zjk "bool" (zaa 0)) (m2 dEq (zaa 0) (zaa 1))))
noncomputable def m_5 (as : List D) : Option D := zbn 2 b_5 as
noncomputable def b_13 : List Sl -> Option Fl :=
  (zas (zca 1 (mX2 zd5 (mX (zah m_8 (fun _ => some []))) (zaq 0 m_0 (zaj (mX (fun _ => some (.int 16))) zam))))
    (zas (zca 2 (zaq 0 m_0 (zaj (mX (fun _ => some (.int 4))) zam)))
    (zas (zbq (mB (m2 dEq (zaa 2) (fun _ => some (.int 0)))) (zct (zbt (zaa 1) (fun _ => some none) (mPt (m1 zg1 (fun _ => some (.int 1)))))) zbl)
    (zas (zbq (mB (m2 dEq (zaa 2) (fun _ => some (.int 1)))) (zdh (mX2 zbg (mX (zaa 1)) (mX2 zcu (mX (zah m_2 (fun _ => some []))) (zaq 0 m_0 (zaj (mX (fun _ => some (.int 26))) zam))))) zbl)
    (zas (zbq (mB (m2 dEq (zaa 2) (fun _ => some (.int 2)))) (zct (m2 zbg (m1 zho (m2 zcu (zaa 1) (fun _ => some (.int 0)))) (zbt (zaa 1) (mPt (fun _ => some (.int 1))) (fun _ => some none)))) zbl)
    (zct (zaa 1)))))))
noncomputable def zil : Addr -> List D -> List D -> List D -> Option (List D × D) := zdl 3 b_13
noncomputable def b_11 : List Sl -> Option Fl :=
  (zas (zca 1 (zaq 0 m_0 (zaj (mX (fun _ => some (.int 5))) zam)))
    (zas (zbq (mB (m2 dEq (zaa 1) (fun _ => some (.int 0)))) (zdh (zaq 0 m_1 (zaj (mX (zah m_2 (fun _ => some []))) (zaj (zaq 0 m_0 (zaj (mX (fun _ => some (.int 11))) zam)) zam)))) zbl)
    (zas (zbq (mB (m2 dEq (zaa 1) (fun _ => some (.int 1)))) (zdh (mX2 zbg (zaq 0 m_1 (zaj (mX (zah m_7 (fun _ => some []))) (zaj (mX (fun _ => some (.int 1))) zam))) (zaq 0 m_1 (zaj (mX (zah m_2 (fun _ => some []))) (zaj (zaq 0 m_0 (zaj (mX (fun _ => some (.int 10))) zam)) zam))))) zbl)
    (zas (zbq (mB (m2 dEq (zaa 1) (fun _ => some (.int 2)))) (zas (zca 2 (mX2 zd5 (mX (zcf (zad (fun _ => some (.str "")) (zad (fun _ => some (.str "")) (zad (fun _ => some (.str "-")) (fun _ => some [])))))) (zaq 0 m_0 (zaj (mX (fun _ => some (.int 3))) zam))))
    (zas (zca 3 (mX2 zd5 (zgd (zaj (zaq 0 m_0 (zaj (mX (fun _ => some (.int 4))) zam)) (zaj (mX2 zbg (mX (fun _ => some (.int 29))) (zaq 0 m_0 (zaj (mX (fun _ => some (.int 4))) zam))) zam))) (zaq 0 m_0 (zaj (mX (fun _ => some (.int 2))) zam))))
    (zdh (mX2 zbg (mX (zaa 2)) (zaq 0 m_1 (zaj (mX (fun _ => some (.str "0123456789"))) (zaj (mX (zaa 3)) zam))))))) zbl)
    (zas (zbq (mB (m2 dEq (zaa 1) (fun _ => some (.int 3)))) (zdh (zaq 0 zil zam)) zbl)
    (zdh (zaq 0 m_1 (zaj (mX (zah m_9 (fun _ => some []))) (zaj (zaq 0 m_0 (zaj (mX (fun _ => some (.int 5))) zam)) zam)))))))))
noncomputable def zjl : Addr -> List D -> List D -> List D -> Option (List D × D) := zdl 4 b_11
noncomputable def b_4 : List Sl -> Option Fl :=
  (zbb (zch (ze0 dLe dLe (fun _ => some (.int 1)) (zah zbf (zad (zaa 0) (fun _ => some []))) (zaa 2)) (zah ze4 (zad (zcf (zcs 1 [1] (zd8 (zaa 0)) (zc7 0) (fun _ => some true) (m2 zdj (zaa 0) (zaa 1)))) (fun _ => some [])))))
noncomputable def m_4 (as : List D) : Option D := zbn 3 b_4 as
noncomputable def b_10 : List Sl -> Option Fl :=
  (zbb (zch (zah m_4 (zad (zaa 0) (zad (fun _ => some (.str "abcdefghijklmnopqrstuvwxyz")) (zad (fun _ => some (.int 8)) (fun _ => some []))))) (m2 zev (zaa 0) (fun _ => some (.kt (List.map D.str ["kind", "rule", "may", "choose", "never", "if", "and", "not", "unlike", "least", "most", "of", "to", "over", "in", "for"]))))))
noncomputable def zhp (as : List D) : Option D := zbn 1 b_10 as
noncomputable def b_14 : List Sl -> Option Fl :=
  (zas (zbq (mB (m2 dEq (zaa 0) (fun _ => some (.str "0")))) (zbb (fun _ => some (.bl true))) zbl)
    (zas (zco 1 (vIf (zc5 (m2 zfg (zaa 0) (fun _ => some (.str "-")))) (zbt (zaa 0) (mPt (fun _ => some (.int 1))) (fun _ => some none)) (zaa 0)))
    (zbb (zch (zah m_4 (zad (zaa 1) (zad (fun _ => some (.str "0123456789")) (zad (fun _ => some (.int 30)) (fun _ => some []))))) (zf0 (m2 zfg (zaa 1) (fun _ => some (.str "0"))))))))
noncomputable def zia (as : List D) : Option D := zbn 2 b_14 as
noncomputable def b_16 : List Sl -> Option Fl :=
  (zbb (zch (zah m_4 (zad (zbt (zaa 0) (fun _ => some none) (mPt (fun _ => some (.int 1)))) (zad (fun _ => some (.str "ABCDEFGHIJKLMNOPQRSTUVWXYZ")) (zad (fun _ => some (.int 1)) (fun _ => some []))))) (vOr (m2 dEq (zah zbf (zad (zaa 0) (fun _ => some []))) (fun _ => some (.int 1))) (zah m_4 (zad (zbt (zaa 0) (mPt (fun _ => some (.int 1))) (fun _ => some none)) (zad (fun _ => some (.str "abcdefghijklmnopqrstuvwxyz")) (zad (fun _ => some (.int 7)) (fun _ => some []))))))))
noncomputable def zjr (as : List D) : Option D := zbn 1 b_16 as
noncomputable def b_3 : List Sl -> Option Fl :=
  (zas (zex (zet (zcf (mSl (zaa 0) (fun _ => some none) (mPt (fun _ => some (.int 63)))))) (zc7 1) (zas (zeu 2 (zad (m2 zf3 (zaa 1) (m2 zhs (m2 zg3 (fun _ => some (.int 2)) (fun _ => some (.int 61))) (fun _ => some (.int 1)))) (fun _ => some [])))
    (zas (zca 3 (zd0 2 zjl zam))
    (zas (zfo (mBX (mX2 dEq (zd0 2 m_0 (zaj (mX (fun _ => some (.int 4))) zam)) (mX (fun _ => some (.int 0))))) (zca 3 (zf9 2 zit (zfa (zaa 3) (zez (fun _ => some []))))) zbl)
    (zas (zco 4 (ze0 dLe dLe (fun _ => some (.int 1)) (zah zbf (zad (zaa 3) (fun _ => some []))) (fun _ => some (.int 8))))
    (zas (zbq (zdb (zc5 (zah m_5 (zad (zah zhp (zad (zaa 3) (fun _ => some []))) (zad (zch (zaa 4) (zch (zah m_6 (zad (zaa 3) (zad (zah m_2 (fun _ => some [])) (fun _ => some [])))) (m2 zev (zaa 3) (zah m_8 (fun _ => some []))))) (fun _ => some [])))))) (zbb (fun _ => some (.bl false))) zbl)
    (zas (zco 5 (zch (zaa 4) (zch (m2 zdj (zbt (zaa 3) (fun _ => some none) (mPt (fun _ => some (.int 1)))) (zah m_7 (fun _ => some []))) (zah m_6 (zad (zbt (zaa 3) (mPt (fun _ => some (.int 1))) (fun _ => some none)) (zad (zah m_2 (fun _ => some [])) (fun _ => some [])))))))
    (zas (zbq (zdb (zc5 (zah m_5 (zad (zah zjr (zad (zaa 3) (fun _ => some []))) (zad (zaa 5) (fun _ => some [])))))) (zbb (fun _ => some (.bl false))) zbl)
    (zbq (zdb (zc5 (zah m_5 (zad (zah zia (zad (zaa 3) (fun _ => some []))) (zad (zah zi5 (zad (zaa 3) (fun _ => some []))) (fun _ => some [])))))) (zbb (fun _ => some (.bl false))) zbl)))))))))
    (zas (zex (zet (zcf (zff (zah m_8 (fun _ => some [])) (zcf (zad (fun _ => some (.str "")) (fun _ => some [])))))) (zc7 3) (zbq (zdb (zc5 (zah m_5 (zad (zah zhp (zad (zaa 3) (fun _ => some []))) (zad (fun _ => some (.bl false)) (fun _ => some [])))))) (zbb (fun _ => some (.bl false))) zbl))
    (zbb (fun _ => some (.bl true)))))
noncomputable def m_3 (as : List D) : Option D := zbn 6 b_3 as
section
variable {P : Program} {w : World} {K : PySem.W.Frag} {mg : Str -> Option Value} {base : Heap}
theorem zi3 {a : Wa} (W : Wd K mg a) : zar P w K mg base CX0 1 a.f_7 a.fd_7 ([] : List Str) (spD ⟨K, cl a⟩ ([] : List Str).length m_7) :=
  zcj (k := 0) (N := ([] : List Str)) (F := b_7) W.F_7 ztg fun cdv A outer s H E hr => by
    unfold b_7
    exact (zaw (zbm za0))
theorem zi6 {a : Wa} (W : Wd K mg a) : zar P w K mg base CX0 1 a.f_8 a.fd_8 ([] : List Str) (spD ⟨K, cl a⟩ ([] : List Str).length m_8) :=
  zcj (k := 0) (N := ["_law_first"]) (F := b_8) W.F_8 zk1 fun cdv A outer s H E hr => by
    unfold b_8
    exact (zax (zft 0 zk1.nd (DO.de (zgq (zak za0 (zak za0 (zak za0 (zak za0 (zak za0 (zak za0 (zak za0 (zak za0 za8)))))))))))
    (zaw (zob (zku (dv 0) (DO.de (zgq (zak za0 (zak za0 (zak za0 (zak za0 (zak za0 (zak za0 (zak za0 (zak za0 za8))))))))))))))
theorem zbv {a : Wa} (W : Wd K mg a) : zar P w K mg base CX0 1 a.f_0 a.fd_0 ["_law_state", "_law_many"] (spM ⟨K, cl a⟩ 0 ["_law_state", "_law_many"].length m_0) :=
  zf1 (k := 0) (N := ["_law_state", "_law_many"]) (F := b_0) W.F_0 zs7 fun cdv A outer s H E hr => by
    unfold b_0
    exact (zax (zvj (pv 0) zai (zbj zi2 (zbj zcg (zbj zpl (zmm (zm8 0) zai) zai) zai) (zbj zm3 (zbj zlc zai zai) zai)))
    (zaw (zej (zbj zi2 (zbj zq2 (zmm (zm8 0) zai) zai) (dv 1)))))
theorem zj1 {a : Wa} (W : Wd K mg a) : zar P w K mg base CX0 1 a.f_6 a.fd_6 ["_law_word_here", "_law_signs"] (spD ⟨K, cl a⟩ ["_law_word_here", "_law_signs"].length m_6) :=
  zcj (k := 0) (N := ["_law_word_here", "_law_signs"]) (F := b_6) W.F_6 zpx fun cdv A outer s H E hr => have hu := hr.units; by
    unfold b_6
    exact (zaw (zbm (zdz (zbw hu) zb8 (DE.db (zdr zd9 zee rfl W.z_len PySem.boot_len (zdv (DE.db (DO.de (znn 1 [1] ["_law_sign", "_law_signs"] rfl (DI.de (zmn (dv 0))) (fun _ _ _ _ _ => (dgc 0 1)) (fun _ _ _ _ _ => (zrg (zcw zix zh5 (DE.db (dvc 0)) (DE.db (dvc 1))))) (fun _ _ _ _ _ => (dvc 0))))) zdt))) (DE.db (zdr zd9 zee rfl W.z_len PySem.boot_len (zdv (DE.db (dv 0)) zdt))))))
theorem zoi {a : Wa} (W : Wd K mg a) : zar P w K mg base CX0 2 a.f_15 a.fd_15 ["_law_word_here"] (spD ⟨K, cl a⟩ ["_law_word_here"].length zi5) :=
  zcj (k := 1) (N := ["_law_word_here", "_law_figures"]) (F := b_15) W.F_15 zna fun cdv A outer s H E hr => have hu := hr.units; by
    unfold b_15
    exact (zax (zft 1 zna.nd (zub (zjn PySem.F.plainAttrs_str PySem.F.slot_str_lstrip PySem.F.type_str_lstrip zpf (dv 0) (zcc za0 zdn))))
    (zax (zcd (DW.dt (zni (zcw (zbw hu) zb8 (DE.db (dv 1)) (DE.db za0)) (zni (zcw zrq zra (DE.db (zdr zd9 zee rfl W.z_len PySem.boot_len (zdv (DE.db (dv 1)) zdt))) (DE.db zai)) (zqa (zgo (zfk (DE.db (zbx (zj1 W) (hr.mono (by decide)) rfl W.g_6 W.F_6.kp W.b_6 (zak (dv 1) (zak za0 za8)))))))))) (zaw (zbm zd2)) zb2)
    (zaw (zbm (zl5 (zdz (zbw hu) zb8 (DE.db (dv 0)) (DE.db (zmt rfl W.z_str (znt rfl W.z_int (dv 1))))) (zdm (zdz (zbw hu) zb8 (DE.db (dv 0)) (DE.db (zmt rfl W.z_str (zm6 (znt rfl W.z_int (dv 1))))))))))))
theorem zfr {a : Wa} (W : Wd K mg a) : zar P w K mg base CX0 1 a.f_2 a.fd_2 ([] : List Str) (spD ⟨K, cl a⟩ ([] : List Str).length m_2) :=
  zcj (k := 0) (N := ([] : List Str)) (F := b_2) W.F_2 zod fun cdv A outer s H E hr => by
    unfold b_2
    exact (zaw (zbm za0))
theorem zkc {a : Wa} (W : Wd K mg a) : zar P w K mg base CX0 2 a.f_9 a.fd_9 ([] : List Str) (spD ⟨K, cl a⟩ ([] : List Str).length m_9) :=
  zcj (k := 1) (N := ([] : List Str)) (F := b_9) W.F_9 zpt fun cdv A outer s H E hr => by
    unfold b_9
    exact (zaw (zbm (zbj zcg (zbj zcg (zb4 (zfr W) (hr.mono (by decide)) rfl W.g_2 W.F_2.kp W.b_2) (zb4 (zi3 W) (hr.mono (by decide)) rfl W.g_7 W.F_7.kp W.b_7)) za0)))
theorem ze3 {a : Wa} (W : Wd K mg a) : zar P w K mg base CX0 2 a.f_1 a.fd_1 ["_law_state", "_law_signs", "_law_many"] (spM ⟨K, cl a⟩ 0 ["_law_state", "_law_signs", "_law_many"].length m_1) :=
  zf1 (k := 1) (N := ["_law_state", "_law_signs", "_law_many", "_law_run", "_law_k"]) (F := b_1) W.F_1 zhj fun cdv A outer s H E hr => by
    unfold b_1
    exact (zax (zft 3 zhj.nd za0)
    (zax (ziu PassesOwn.never rfl (zt2 rfl W.z_range (zak (dv 2) za8)) (zii 4 5 zhj.nd) (zaw (zrf 3 zhj.nd (znp (DE.dx (dv 1)) (zbe (zbv W) (hr.mono (by decide)) rfl W.g_0 W.F_0.kp W.b_0 (za7 0 (za1 (DE.dx (zdr zd9 zee rfl W.z_len PySem.boot_len (zdv (DE.db (dv 1)) zdt))) za6)))))))
    (zaw (zej (dv 3)))))
theorem ztw {a : Wa} (W : Wd K mg a) : zar P w K mg base CX0 3 a.f_12 a.fd_12 ["_law_word_here", "_law_state"] (spM ⟨K, cl a⟩ 1 ["_law_word_here", "_law_state"].length zit) :=
  zf1 (k := 2) (N := ["_law_word_here", "_law_state", "_law_at", "_law_sign", "_law_rest"]) (F := b_12) W.F_12 zg0 fun cdv A outer s H E hr => have hu := hr.units; by
    unfold b_12
    exact (zax (zda 2 zg0.nd (zbe (zbv W) (hr.mono (by decide)) rfl W.g_0 W.F_0.kp W.b_0 (za7 1 (za1 (DE.dx (zbj zcg (zdr zd9 zee rfl W.z_len PySem.boot_len (zdv (DE.db (dv 0)) zdt)) zai)) za6))))
    (zax (zda 3 zg0.nd (zbe (ze3 W) (hr.mono (by decide)) rfl W.g_1 W.F_1.kp W.b_1 (za7 1 (za1 (DE.dx (zb4 (zkc W) (hr.mono (by decide)) rfl W.g_9 W.F_9.kp W.b_9)) (za1 (DE.dx zai) za6)))))
    (zax (zda 4 zg0.nd (zs8 (DE.dx (dv 0)) (zgf zcg (DE.dx (dv 2)) (zbe (zbv W) (hr.mono (by decide)) rfl W.g_0 W.F_0.kp W.b_0 (za7 1 (za1 (DE.dx zai) za6))))))
    (zax (zle (zl0 (zbw hu) (zbe (zbv W) (hr.mono (by decide)) rfl W.g_0 W.F_0.kp W.b_0 (za7 1 (za1 (DE.dx zai) za6))) (DE.dx zai)) (zaw (zej (zbj zcg (zds (dv 0) zde (zdk (dv 2))) (dv 4)))) zb2)
    (zaw (zej (zbj zcg (zbj zcg (zds (dv 0) zde (zdk (dv 2))) (dv 3)) (dv 4))))))))
theorem zhm {a : Wa} (W : Wd K mg a) : zar P w K mg base CX0 1 a.f_5 a.fd_5 ["_law_found", "_law_due"] (spD ⟨K, cl a⟩ ["_law_found", "_law_due"].length m_5) :=
  zcj (k := 0) (N := ["_law_found", "_law_due"]) (F := b_5) W.F_5 ztc fun cdv A outer s H E hr => have hu := hr.units; by
    unfold b_5
    exact (zaw (zbm (zdy (zsb (T := "bool") (zsz W) rfl W.z_isinstance boot_bool rfl W.z_bool (DE.db (dv 0))) (zdm (zdz (zbw hu) zb8 (DE.db (dv 0)) (DE.db (dv 1)))))))
theorem zph {a : Wa} (W : Wd K mg a) : zar P w K mg base CX0 2 a.f_13 a.fd_13 ["_law_state"] (spM ⟨K, cl a⟩ 0 ["_law_state"].length zil) :=
  zf1 (k := 1) (N := ["_law_state", "_law_word_here", "_law_way"]) (F := b_13) W.F_13 zjx fun cdv A outer s H E hr => have hu := hr.units; by
    unfold b_13
    exact (zax (zda 1 zjx.nd (zi8 (DE.dx (zb4 (zi6 W) (hr.mono (by decide)) rfl W.g_8 W.F_8.kp W.b_8)) (zbe (zbv W) (hr.mono (by decide)) rfl W.g_0 W.F_0.kp W.b_0 (za7 0 (za1 (DE.dx zai) za6)))))
    (zax (zda 2 zjx.nd (zbe (zbv W) (hr.mono (by decide)) rfl W.g_0 W.F_0.kp W.b_0 (za7 0 (za1 (DE.dx zai) za6))))
    (zax (zcd (zcw (zbw hu) zb8 (DE.db (dv 2)) (DE.db zai)) (zaw (zej (zds (dv 1) zde (zdk (zm6 zai))))) zb2)
    (zax (zcd (zcw (zbw hu) zb8 (DE.db (dv 2)) (DE.db zai)) (zaw (zfs (zgf zcg (DE.dx (dv 1)) (znp (DE.dx (zb4 (zfr W) (hr.mono (by decide)) rfl W.g_2 W.F_2.kp W.b_2)) (zbe (zbv W) (hr.mono (by decide)) rfl W.g_0 W.F_0.kp W.b_0 (za7 0 (za1 (DE.dx zai) za6))))))) zb2)
    (zax (zcd (zcw (zbw hu) zb8 (DE.db (dv 2)) (DE.db zai)) (zaw (zej (zbj zcg (zqy (zuz PySem.F.plainAttrs_str PySem.F.slot_str_upper PySem.F.type_str_upper zo9 (zu0 (dv 1) zai))) (zds (dv 1) (zdk zai) zde)))) zb2)
    (zaw (zej (dv 1))))))))
theorem zqu {a : Wa} (W : Wd K mg a) : zar P w K mg base CX0 3 a.f_11 a.fd_11 ["_law_state"] (spM ⟨K, cl a⟩ 0 ["_law_state"].length zjl) :=
  zf1 (k := 2) (N := ["_law_state", "_law_way", "_law_sign", "_law_many"]) (F := b_11) W.F_11 zgt fun cdv A outer s H E hr => have hu := hr.units; by
    unfold b_11
    exact (zax (zda 1 zgt.nd (zbe (zbv W) (hr.mono (by decide)) rfl W.g_0 W.F_0.kp W.b_0 (za7 0 (za1 (DE.dx zai) za6))))
    (zax (zcd (zcw (zbw hu) zb8 (DE.db (dv 1)) (DE.db zai)) (zaw (zfs (zbe (ze3 W) (hr.mono (by decide)) rfl W.g_1 W.F_1.kp W.b_1 (za7 0 (za1 (DE.dx (zb4 (zfr W) (hr.mono (by decide)) rfl W.g_2 W.F_2.kp W.b_2)) (za1 (zbe (zbv W) (hr.mono (by decide)) rfl W.g_0 W.F_0.kp W.b_0 (za7 0 (za1 (DE.dx zai) za6))) za6)))))) zb2)
    (zax (zcd (zcw (zbw hu) zb8 (DE.db (dv 1)) (DE.db zai)) (zaw (zfs (zgf zcg (zbe (ze3 W) (hr.mono (by decide)) rfl W.g_1 W.F_1.kp W.b_1 (za7 0 (za1 (DE.dx (zb4 (zi3 W) (hr.mono (by decide)) rfl W.g_7 W.F_7.kp W.b_7)) (za1 (DE.dx zai) za6)))) (zbe (ze3 W) (hr.mono (by decide)) rfl W.g_1 W.F_1.kp W.b_1 (za7 0 (za1 (DE.dx (zb4 (zfr W) (hr.mono (by decide)) rfl W.g_2 W.F_2.kp W.b_2)) (za1 (zbe (zbv W) (hr.mono (by decide)) rfl W.g_0 W.F_0.kp W.b_0 (za7 0 (za1 (DE.dx zai) za6))) za6))))))) zb2)
    (zax (zcd (zcw (zbw hu) zb8 (DE.db (dv 1)) (DE.db zai)) (zax (zda 2 zgt.nd (zi8 (DE.dx (DO.de (zgq (zak za0 (zak za0 (zak za0 za8)))))) (zbe (zbv W) (hr.mono (by decide)) rfl W.g_0 W.F_0.kp W.b_0 (za7 0 (za1 (DE.dx zai) za6)))))
    (zax (zda 3 zgt.nd (zi8 (zrv (za1 (zbe (zbv W) (hr.mono (by decide)) rfl W.g_0 W.F_0.kp W.b_0 (za7 0 (za1 (DE.dx zai) za6))) (za1 (zgf zcg (DE.dx zai) (zbe (zbv W) (hr.mono (by decide)) rfl W.g_0 W.F_0.kp W.b_0 (za7 0 (za1 (DE.dx zai) za6)))) za6))) (zbe (zbv W) (hr.mono (by decide)) rfl W.g_0 W.F_0.kp W.b_0 (za7 0 (za1 (DE.dx zai) za6)))))
    (zaw (zfs (zgf zcg (DE.dx (dv 2)) (zbe (ze3 W) (hr.mono (by decide)) rfl W.g_1 W.F_1.kp W.b_1 (za7 0 (za1 (DE.dx za0) (za1 (DE.dx (dv 3)) za6))))))))) zb2)
    (zax (zcd (zcw (zbw hu) zb8 (DE.db (dv 1)) (DE.db zai)) (zaw (zfs (zbe (zph W) (hr.mono (by decide)) rfl W.g_13 W.F_13.kp W.b_13 (za7 0 za6)))) zb2)
    (zaw (zfs (zbe (ze3 W) (hr.mono (by decide)) rfl W.g_1 W.F_1.kp W.b_1 (za7 0 (za1 (DE.dx (zb4 (zkc W) (hr.mono (by decide)) rfl W.g_9 W.F_9.kp W.b_9)) (za1 (zbe (zbv W) (hr.mono (by decide)) rfl W.g_0 W.F_0.kp W.b_0 (za7 0 (za1 (DE.dx zai) za6))) za6)))))))))))
theorem zg7 {a : Wa} (W : Wd K mg a) : zar P w K mg base CX0 1 a.f_4 a.fd_4 ["word", "signs", "most"] (spD ⟨K, cl a⟩ ["word", "signs", "most"].length m_4) :=
  zcj (k := 0) (N := ["word", "signs", "most"]) (F := b_4) W.F_4 zqg fun cdv A outer s H E hr => by
    unfold b_4
    exact (zaw (zbm (zdy (zm1 zgw zg2 zgw zg2 (DE.db zai) (DE.db (zdr zd9 zee rfl W.z_len PySem.boot_len (zdv (DE.db (dv 0)) zdt))) (DE.db (dv 2))) (zdm (zdr (zsy rfl) zsx rfl W.z_all boot_all (zdv (DE.db (DO.de (znn 1 [1] ["sign", "signs"] rfl (DI.de (zmn (dv 0))) (fun _ _ _ _ _ => (dgc 0 1)) (fun _ _ _ _ _ => zvk) (fun _ _ _ _ _ => (zdz zix zh5 (DE.db (dvc 0)) (DE.db (dvc 1))))))) zdt))))))
theorem zks {a : Wa} (W : Wd K mg a) : zar P w K mg base CX0 2 a.f_10 a.fd_10 ["word"] (spD ⟨K, cl a⟩ ["word"].length zhp) :=
  zcj (k := 1) (N := ["word"]) (F := b_10) W.F_10 zqs fun cdv A outer s H E hr => by
    unfold b_10
    exact (zaw (zbm (zdy (zbx (zg7 W) (hr.mono (by decide)) rfl W.g_4 W.F_4.kp W.b_4 (zak (dv 0) (zak (zgr rfl W.g_SMALL) (zak zai za8)))) (zdm (zdz zki zn8 (DE.db (dv 0)) (DE.db (zo2 rfl W.g_KEPT)))))))
theorem zqb {a : Wa} (W : Wd K mg a) : zar P w K mg base CX0 2 a.f_14 a.fd_14 ["word"] (spD ⟨K, cl a⟩ ["word"].length zia) :=
  zcj (k := 1) (N := ["word", "figures"]) (F := b_14) W.F_14 zkb fun cdv A outer s H E hr => have hu := hr.units; by
    unfold b_14
    exact (zax (zcd (zcw (zbw hu) zb8 (DE.db (dv 0)) (DE.db za0)) (zaw (zbm zd2)) zb2)
    (zax (zft 1 zkb.nd (zpc (zfk (DE.db (zk3 (zjn PySem.F.plainAttrs_str PySem.F.slot_str_startswith PySem.F.type_str_startswith zn7 (dv 0) (zcc za0 zdn))))) (zds (dv 0) (zdk zai) zde) (dv 0)))
    (zaw (zbm (zdy (zbx (zg7 W) (hr.mono (by decide)) rfl W.g_4 W.F_4.kp W.b_4 (zak (dv 1) (zak (zgr rfl W.g_FIGURES) (zak zai za8)))) (zdm (zsq (zk3 (zjn PySem.F.plainAttrs_str PySem.F.slot_str_startswith PySem.F.type_str_startswith zn7 (dv 1) (zcc za0 zdn))))))))))
theorem zoz {a : Wa} (W : Wd K mg a) : zar P w K mg base CX0 2 a.f_16 a.fd_16 ["word"] (spD ⟨K, cl a⟩ ["word"].length zjr) :=
  zcj (k := 1) (N := ["word"]) (F := b_16) W.F_16 zqe fun cdv A outer s H E hr => have hu := hr.units; by
    unfold b_16
    exact (zaw (zbm (zdy (zbx (zg7 W) (hr.mono (by decide)) rfl W.g_4 W.F_4.kp W.b_4 (zak (zds (dv 0) zde (zdk zai)) (zak (zgr rfl W.g_GREAT) (zak zai za8)))) (zdm (zl5 (zdz (zbw hu) zb8 (DE.db (zdr zd9 zee rfl W.z_len PySem.boot_len (zdv (DE.db (dv 0)) zdt))) (DE.db zai)) (zdm (zbx (zg7 W) (hr.mono (by decide)) rfl W.g_4 W.F_4.kp W.b_4 (zak (zds (dv 0) (zdk zai) zde) (zak (zgr rfl W.g_SMALL) (zak zai za8))))))))))
theorem zrt {a : Wa} (W : Wd K mg a) : zar P w K mg base CX0 4 a.f_3 a.fd_3 ["_law_script"] (spD ⟨K, cl a⟩ ["_law_script"].length m_3) :=
  zcj (k := 3) (N := ["_law_script", "_law_cell", "_law_state", "_law_word_here", "_law_short", "_law_great_here"]) (F := b_3) W.F_3 zd3 fun cdv A outer s H E hr => have hu := hr.units; by
    unfold b_3
    exact (zax (ziu PassesOwn.never rfl (zn9 (DO.de (by refine zsg ?a ?b ?c; (case a => exact (dv 0)); (case b => exact zde); (case c => exact (zdk zai))))) (zii 1 6 zd3.nd) (zax (zvo 2 zd3.nd (zgq (zak (zbj zi2 (dv 1) (zbj zm3 (zbj zlc zai zai) zai)) za8)))
    (zax (zda 3 zd3.nd (zlx (zqu W) (hr.mono (by decide)) rfl W.g_11 W.F_11.kp W.b_11 (za7 2 za6)))
    (zax (zle (zl0 (zbw hu) (zlx (zbv W) (hr.mono (by decide)) rfl W.g_0 W.F_0.kp W.b_0 (za7 2 (za1 (DE.dx zai) za6))) (DE.dx zai)) (zaw (zda 3 zd3.nd (zvm (ztw W) (hr.mono (by decide)) rfl W.g_12 W.F_12.kp W.b_12 (zrj (dv 3) (zoc 2 za8))))) zb2)
    (zax (zft 4 zd3.nd (zm1 zgw zg2 zgw zg2 (DE.db zai) (DE.db (zdr zd9 zee rfl W.z_len PySem.boot_len (zdv (DE.db (dv 3)) zdt))) (DE.db zai)))
    (zax (zcd (zgo (zfk (DE.db (zbx (zhm W) (hr.mono (by decide)) rfl W.g_5 W.F_5.kp W.b_5 (zak (zbx (zks W) (hr.mono (by decide)) rfl W.g_10 W.F_10.kp W.b_10 (zak (dv 3) za8)) (zak (zdy (dv 4) (zdy (zbx (zj1 W) (hr.mono (by decide)) rfl W.g_6 W.F_6.kp W.b_6 (zak (dv 3) (zak (zb4 (zfr W) (hr.mono (by decide)) rfl W.g_2 W.F_2.kp W.b_2) za8))) (zdm (zdz zki zn8 (DE.db (dv 3)) (DE.db (zb4 (zi6 W) (hr.mono (by decide)) rfl W.g_8 W.F_8.kp W.b_8)))))) za8)))))) (zaw (zbm zd2)) zb2)
    (zax (zft 5 zd3.nd (zdy (dv 4) (zdy (zdz zix zh5 (DE.db (zds (dv 3) zde (zdk zai))) (DE.db (zb4 (zi3 W) (hr.mono (by decide)) rfl W.g_7 W.F_7.kp W.b_7))) (zdm (zbx (zj1 W) (hr.mono (by decide)) rfl W.g_6 W.F_6.kp W.b_6 (zak (zds (dv 3) (zdk zai) zde) (zak (zb4 (zfr W) (hr.mono (by decide)) rfl W.g_2 W.F_2.kp W.b_2) za8)))))))
    (zax (zcd (zgo (zfk (DE.db (zbx (zhm W) (hr.mono (by decide)) rfl W.g_5 W.F_5.kp W.b_5 (zak (zbx (zoz W) (hr.mono (by decide)) rfl W.g_16 W.F_16.kp W.b_16 (zak (dv 3) za8)) (zak (dv 5) za8)))))) (zaw (zbm zd2)) zb2)
    (zaw (zcd (zgo (zfk (DE.db (zbx (zhm W) (hr.mono (by decide)) rfl W.g_5 W.F_5.kp W.b_5 (zak (zbx (zqb W) (hr.mono (by decide)) rfl W.g_14 W.F_14.kp W.b_14 (zak (dv 3) za8)) (zak (zbx (zoi W) (hr.mono (by decide)) rfl W.g_15 W.F_15.kp W.b_15 (zak (dv 3) za8)) za8)))))) (zaw (zbm zd2)) zb2))))))))))
    (zax (ziu PassesOwn.never rfl (zn9 (DO.de (zku (zb4 (zi6 W) (hr.mono (by decide)) rfl W.g_8 W.F_8.kp W.b_8) (DO.de (zgq (zak za0 za8)))))) (zii 3 6 zd3.nd) (zaw (zcd (zgo (zfk (DE.db (zbx (zhm W) (hr.mono (by decide)) rfl W.g_5 W.F_5.kp W.b_5 (zak (zbx (zks W) (hr.mono (by decide)) rfl W.g_10 W.F_10.kp W.b_10 (zak (dv 3) za8)) (zak zd2 za8)))))) (zaw (zbm zd2)) zb2)))
    (zaw (zbm zd2))))
end
local macro_rules | `(tactic| walk_at "evS") => `(tactic| first | decide | omega | assumption | exact ⟨by decide, by decide⟩ | exact ⟨by omega, by omega⟩ | exact .inl ⟨by decide, by decide⟩ | exact .inr ⟨by decide, by decide⟩ | exact .inl ⟨by omega, by omega⟩ | exact .inr ⟨by omega, by omega⟩ | exact ⟨by decide, by decide, by decide⟩)
local macro_rules | `(tactic| walk_at "evO") => `(tactic| first | with_reducible exact zgk | with_reducible exact zi1 | with_reducible exact zsw | with_reducible exact zj7 | with_reducible exact zgc | with_reducible exact zsa | with_reducible exact zck _ _ | with_reducible exact zup _ _ | ((with_reducible apply zht); (focus walk_at "evS")) | ((with_reducible apply zng); (focus walk_at "evS")) | ((with_reducible apply zta); (focus walk_at "evS")) | ((with_reducible apply zmk); (focus first | assumption | exact .inl (by walk_at "evS") | exact .inr ⟨by omega, by omega⟩)) | ((with_reducible apply zig); (focus walk_at "evS")) | ((with_reducible apply zuh); (focus walk_at "evS")) | with_reducible exact zgj _ _ | with_reducible exact zqz _ _ | with_reducible exact zm4 _ _ | with_reducible exact zr0 | exact zs2 _ _ | exact zq1 _ _ | assumption | rfl)
local macro_rules | `(tactic| walk_at "ev") => `(tactic| first
  | with_reducible assumption
  | ((with_reducible apply zan); (focus walk_at "ev"); (focus walk_at "ev"); (focus walk_at "evO"))
  | ((with_reducible apply zb0); (focus walk_at "ev"))
  | ((with_reducible apply zel); (focus walk_at "ev"); (focus first | assumption | rfl))
  | ((with_reducible apply zu2); (focus walk_at "ev"); (focus walk_at "ev"))
  | ((with_reducible apply zjq); (focus walk_at "ev"); (focus walk_at "ev"))
  | ((with_reducible apply zfx); (focus walk_at "ev"))
  | ((with_reducible apply zdc); (focus walk_at "ev"); (focus walk_at "ev"))
  | ((with_reducible apply zjy); (focus walk_at "ev"); (focus walk_at "ev"))
  | ((with_reducible apply zl8); (focus walk_at "ev"))
  | ((with_reducible apply zat); (focus walk_at "ev"); (focus walk_at "ev"))
  | ((with_reducible apply zuq); (focus walk_at "ev"))
  | ((with_reducible apply zfq); (focus walk_at "ev"))
  | ((with_reducible apply zap); (focus walk_at "ev"); (focus first | with_reducible assumption | with_reducible exact zjb _ _ | assumption | exact zjb _ _ | exact zow _ _ | rfl))
  | ((with_reducible apply zs4); (focus walk_at "ev"); (focus assumption); (focus rfl))
  | ((with_reducible apply zri); (focus walk_at "ev"); (focus walk_at "ev"); (focus first | assumption | rfl))
  | ((with_reducible apply zmd); (focus walk_at "ev"); (focus rfl); (focus rfl))
  | ((with_reducible apply zpu); (focus walk_at "ev"); (focus rfl); (focus rfl))
  | ((with_reducible apply zjo); (focus walk_at "ev"); (focus rfl))
  | rfl)
local macro_rules | `(tactic| walk_at "nrm") => `(tactic| simp only [zmj, List.set_cons_succ, List.set_cons_zero])
local macro_rules | `(tactic| walk_at "set") => `(tactic| (apply zay; (first | with_reducible apply zfw | with_reducible apply zma); (focus walk_at "ev"); walk_at "nrm"))
local macro_rules | `(tactic| walk_at "if0") => `(tactic| ((with_reducible first | apply zcb | apply zcq); (focus walk_at "ev")))
open PySem.Builtin PySem.Builtin.Str
noncomputable abbrev tx (l : List Nat) : Str := ⟨l.toArray⟩
theorem zb7 (l : List Nat) : (tx l).length = l.length := by show l.toArray.size = _; simp
theorem zhx (a b : List Nat) : tx a ++ tx b = tx (a ++ b) := by
  apply Str.ext'
  rw [Str.cps_append]
  simp
theorem zcn (z : Str) : tx z.cps.toList = z := by
  apply Str.ext'
  simp
theorem zl4 {a b : List Nat} (h : tx a = tx b) : a = b := by
  have := congrArg (fun z : Str => z.cps.toList) h
  simpa using this
open NumText
noncomputable def smL : List Nat := ("abcdefghijklmnopqrstuvwxyz" : Str).cps.toList
noncomputable def grL : List Nat := ("ABCDEFGHIJKLMNOPQRSTUVWXYZ" : Str).cps.toList
noncomputable def dgL : List Nat := ("0123456789" : Str).cps.toList
theorem ze2 (x : Nat) : x ∈ dgL ↔ 48 <= x /\ x <= 57 := by
  have e : dgL = [48, 49, 50, 51, 52, 53, 54, 55, 56, 57] := rfl
  rw [e]
  simp only [List.mem_cons, List.not_mem_nil, or_false]
  omega
noncomputable def za4 (sg w : List Nat) : Bool := w.all fun x => decide (x ∈ sg)
noncomputable def made (w sg : List Nat) (most : Nat) : Bool := (decide (1 <= w.length) && decide (w.length <= most)) && za4 sg w
noncomputable def nz (cs : List Nat) : List Nat := match cs.dropWhile (· == 48) with
  | [] => [48]
  | c :: r => c :: r
noncomputable def ngz (cs : List Nat) : List Nat := if cs.dropWhile (· == 48) = [] then [48] else 45 :: nz cs
noncomputable def zao (w : List Nat) : List Nat := w.dropWhile (· == 45)
noncomputable def zgm (w : List Nat) : Bool := if (zao w == []) || ((decide (30 < (zao w).length)) || !za4 dgL (zao w)) then false else (w == nz (zao w)) || (w == ngz (zao w))
noncomputable def fgs (w : List Nat) : List Nat := if w.head? = some 45 then w.tail else w
noncomputable def zge (w : List Nat) : Bool := if w == [48] then true else made (fgs w) dgL 30 && !decide ((fgs w).head? = some 48)
theorem zml (w : List Nat) (p : Nat -> Bool) : (w.dropWhile p).length <= w.length := (List.dropWhile_sublist p).length_le
theorem zk0 {c : Nat} {r : List Nat} (h : c ≠ 48) : nz (c :: r) = c :: r := by
  unfold nz
  rw [List.dropWhile_cons, if_neg (by simpa using h)]
theorem zld {r : List Nat} (h : r ≠ []) : nz (48 :: r) ≠ 48 :: r := by
  intro e
  have := congrArg List.length e
  unfold nz at this
  rw [List.dropWhile_cons, if_pos (beq_self_eq_true _)] at this
  have hl := zml r (· == 48)
  cases er : r.dropWhile (· == 48) with
  | nil =>
    rw [er] at this
    cases r with
    | nil => exact h rfl
    | cons a b => simp at this
  | cons a b =>
    rw [er] at this hl
    simp only [List.length_cons] at this hl
    omega
theorem zio {cs : List Nat} (h : za4 dgL cs = true) : ∀ x ∈ nz cs, 48 <= x /\ x <= 57 := by
  intro x hx
  unfold nz at hx
  split at hx
  · rw [List.mem_singleton.mp hx]; decide
  · rename_i e
    have : x ∈ cs.dropWhile (· == 48) := by rw [e]; exact hx
    have hm := (List.dropWhile_sublist _).subset this
    exact (ze2 x).mp (of_decide_eq_true (List.all_eq_true.mp h x hm))
theorem zs0 (w : List Nat) : zge w = zgm w := by
  cases w with
  | nil => rfl
  | cons c r =>
    by_cases hc : c = 45
    · subst hc
      have e48 : ((45 :: r) == [48]) = false := by simp
      have ef : fgs (45 :: r) = r := by unfold fgs; simp
      have eg : zao (45 :: r) = zao r := by unfold zao; rw [List.dropWhile_cons, if_pos (beq_self_eq_true _)]
      unfold zge zgm
      rw [e48, if_neg (by decide), ef, eg]
      cases r with
      | nil => rfl
      | cons d q =>
        by_cases hd : d = 45
        · subst hd
          have m0 : made (45 :: q) dgL 30 = false := by
            unfold made za4
            have : decide (45 ∈ dgL) = false := decide_eq_false fun h => by have := (ze2 45).mp h; omega
            rw [List.all_cons, this, Bool.false_and, Bool.and_false]
          rw [m0, Bool.false_and]
          split
          · rfl
          · rename_i hcond
            simp only [Bool.or_eq_true, not_or, Bool.not_eq_true, Bool.not_eq_false'] at hcond
            have ad := zio hcond.2.2
            have n1 : ((45 :: 45 :: q) == nz (zao (45 :: q))) = false := by
              apply beq_eq_false_iff_ne.mpr
              intro e
              have := ad 45 (by rw [<- e]; exact List.mem_cons_self)
              omega
            have n2 : ((45 :: 45 :: q) == ngz (zao (45 :: q))) = false := by
              apply beq_eq_false_iff_ne.mpr
              intro e
              unfold ngz at e
              split at e
              · cases e
              · have := ad 45 (by rw [<- List.tail_cons (a := 45) (as := nz (zao (45 :: q))), <- e]; exact List.mem_cons_self)
                omega
            rw [n1, n2]
            rfl
        · have eg2 : zao (d :: q) = d :: q := by unfold zao; rw [List.dropWhile_cons, if_neg (by simpa using hd)]
          rw [eg2]
          have hne : ((d :: q) == ([] : List Nat)) = false := rfl
          rw [hne, Bool.false_or]
          unfold made
          have h1 : decide (1 <= (d :: q).length) = true := decide_eq_true (by simp)
          rw [h1, Bool.true_and]
          by_cases hl : 30 < (d :: q).length
          · rw [decide_eq_true hl, decide_eq_false (by omega), Bool.true_or, if_pos rfl, Bool.false_and, Bool.false_and]
          · rw [decide_eq_false hl, decide_eq_true (Nat.le_of_not_lt hl), Bool.false_or, Bool.true_and]
            cases ha : za4 dgL (d :: q) with
            | false => rfl
            | true =>
              rw [Bool.not_true, if_neg (by decide), Bool.true_and]
              have ad := zio ha
              have n1 : ((45 :: d :: q) == nz (d :: q)) = false := by
                apply beq_eq_false_iff_ne.mpr
                intro e
                have := ad 45 (by rw [<- e]; exact List.mem_cons_self)
                omega
              rw [n1, Bool.false_or]
              by_cases h48 : d = 48
              · subst h48
                have e1 : (!decide ((48 :: q).head? = some 48)) = false := rfl
                rw [e1]
                symm
                apply beq_eq_false_iff_ne.mpr
                intro e
                unfold ngz at e
                split at e
                · cases e
                · rename_i hz
                  have e2 : nz (48 :: q) = 48 :: q := (List.cons.inj e).2.symm
                  cases q with
                  | nil => exact hz rfl
                  | cons a b => exact zld (by simp) e2
              · have e1 : (!decide ((d :: q).head? = some 48)) = true := by simp [h48]
                rw [e1]
                symm
                unfold ngz
                have hz : (d :: q).dropWhile (· == 48) ≠ [] := by rw [List.dropWhile_cons, if_neg (by simpa using h48)]; simp
                rw [if_neg hz, zk0 h48]
                simp
    · have ef : fgs (c :: r) = c :: r := by unfold fgs; simp [hc]
      have eg : zao (c :: r) = c :: r := by unfold zao; rw [List.dropWhile_cons, if_neg (by simpa using hc)]
      unfold zge zgm
      rw [ef, eg]
      have hne : ((c :: r) == ([] : List Nat)) = false := rfl
      rw [hne, Bool.false_or]
      by_cases hl : 30 < (c :: r).length
      · have h48 : ((c :: r) == [48]) = false := by
          apply beq_eq_false_iff_ne.mpr
          intro e
          rw [e] at hl
          simp at hl
        unfold made
        rw [h48, decide_eq_true hl, decide_eq_false (p := (c :: r).length <= 30) (by omega), Bool.true_or, if_pos rfl, if_neg (by decide), Bool.and_false, Bool.false_and, Bool.false_and]
      · cases ha : za4 dgL (c :: r) with
        | false =>
          have h48 : ((c :: r) == [48]) = false := by
            apply beq_eq_false_iff_ne.mpr
            intro e
            rw [e] at ha
            cases ha
          unfold made
          rw [h48, if_neg (by decide), ha, Bool.and_false, Bool.false_and]
          simp
        | true =>
          have hcond : (decide (30 < (c :: r).length) || !true) = false := by rw [decide_eq_false hl]; rfl
          simp only [hcond, Bool.false_eq_true, if_false]
          have hm : made (c :: r) dgL 30 = true := by
            unfold made
            rw [ha, decide_eq_true (Nat.le_of_not_lt hl), decide_eq_true (by simp)]
            rfl
          rw [hm, Bool.true_and]
          have n2 : ((c :: r) == ngz (c :: r)) = ((c :: r) == [48] && decide ((c :: r).dropWhile (· == 48) = [])) := by
            unfold ngz
            split
            · rename_i hz; rw [decide_eq_true hz, Bool.and_true]
            · rename_i hz
              rw [decide_eq_false hz, Bool.and_false]
              apply beq_eq_false_iff_ne.mpr
              intro e
              exact hc (List.cons.inj e).1
          rw [n2]
          by_cases h48 : c = 48
          · subst h48
            cases r with
            | nil => decide
            | cons a b =>
              have e1 : ((48 :: a :: b) == [48]) = false := by simp
              have e2 : ((48 :: a :: b) == nz (48 :: a :: b)) = false := beq_eq_false_iff_ne.mpr fun e => zld (by simp) e.symm
              rw [e1, e2]
              simp
          · rw [zk0 h48, beq_self_eq_true, Bool.true_or]
            simp [h48]
theorem zn5 {cs : List Nat} (h : za4 dgL cs = true) : (Nat.toDigits 10 (digitsVal cs)).map Char.toNat = nz cs := by
  have had : AllDigits cs := fun x hx => (ze2 x).mp (of_decide_eq_true (List.all_eq_true.mp h x hx))
  rw [toDigits_all cs had]
  have nd := zio h
  unfold nz at nd ⊢
  split
  · rename_i e; rw [e]; rfl
  · rename_i c r e
    rw [e] at nd ⊢
    rw [List.map_map]
    conv => rhs; rw [<- List.map_id (c :: r)]
    apply List.map_congr_left
    intro x hx
    have := nd x hx
    have hb : ∀ y : Fin 58, (Char.ofNat y.val).toNat = y.val := by decide
    exact hb ⟨x, by omega⟩
theorem zns {cs : List Nat} (h : za4 dgL cs = true) : digitsVal cs = 0 ↔ cs.dropWhile (· == 48) = [] := by
  induction cs with
  | nil => exact ⟨fun _ => rfl, fun _ => rfl⟩
  | cons c cs ih =>
    have h2 : za4 dgL cs = true := by unfold za4 at h ⊢; rw [List.all_cons, Bool.and_eq_true] at h; exact h.2
    by_cases e : c = 48
    · subst e
      rw [digitsVal_zero, List.dropWhile_cons, if_pos (beq_self_eq_true _)]
      exact ih h2
    · have hc : 48 <= c /\ c <= 57 := by
        unfold za4 at h; rw [List.all_cons, Bool.and_eq_true] at h
        exact (ze2 c).mp (of_decide_eq_true h.1)
      have := digitsVal_pos (c := c) (cs := cs) (by omega)
      rw [List.dropWhile_cons, if_neg (by simpa using e)]
      constructor
      · intro h0; omega
      · intro h0; cases h0
noncomputable abbrev asc (w : List Nat) : Prop := w.all (· < 128) = true
theorem zug {w : List Nat} (h : asc w) : (tx w).cps.all (· < 128) = true := by
  show w.toArray.all _ = true
  simpa using h
theorem zjt (x : Nat) (sg : List Nat) : inS ⟨#[x]⟩ (tx sg) = decide (x ∈ sg) := StrLaws.found_one (tx sg) x
theorem zew (w : List Nat) (h : w.length <= 1000) : zbf [.str (tx w)] = some (.int (w.length : Int)) := by
  show (if (tx w).length <= 16777216 then some (D.int ((tx w).length : Int)) else none) = _
  rw [zb7, if_pos (by omega)]
theorem znx {f : List Sl -> Option D} {ρ : List Sl} {w : List Nat} (h : f ρ = some (.str (tx w))) (ha : asc w) : zd8 f ρ = some (w.map fun x => D.str ⟨#[x]⟩) := by
  unfold zd8
  rw [h, Option.bind_some]
  show (if (tx w).cps.all (· < 128) = true then some ((tx w).cps.toList.map fun ch => D.str ⟨#[ch]⟩) else none) = _
  rw [if_pos (zug ha)]
theorem zpq (bs : List Bool) : ze4 [.lst (bs.map D.bl)] = some (.bl (bs.all id)) := by
  have : ∀ l : List Bool, zby (l.map D.bl) = some l := by
    intro l
    induction l with
    | nil => rfl
    | cons a l ih => rw [List.map_cons]; unfold zby; rw [ih]; rfl
  show ((zby (bs.map D.bl)).map fun bs => D.bl (bs.all id)) = _
  rw [this]
  rfl
theorem zgz (w sg : List Nat) (most : Nat) (hw : w.length <= 1000) (ha : asc w) : m_4 [.str (tx w), .str (tx sg), .int (most : Int)] = some (.bl (made w sg most)) := by
  apply zdq
  unfold b_4
  show wp _ [.im (.str (tx w)), .im (.str (tx sg)), .im (.int (most : Int))] _
  refine zcq ?_ (zcx rfl)
  unfold made
  refine zdc ?_ ?_
  · have := zli (m := dLe) (m' := dLe) (f := fun _ => some (.int 1)) (g := zah zbf (zad (zaa 0) (fun _ => some []))) (h := zaa 2) (ρ := [.im (.str (tx w)), .im (.str (tx sg)), .im (.int (most : Int))]) rfl (zap rfl (zew w hw)) zgc rfl zgc
    rw [this]
    congr 3 <;> exact decide_eq_decide.mpr (by omega)
  · have hc : zcs 1 [1] (zd8 (zaa 0)) (zc7 0) (fun _ => some true) (m2 zdj (zaa 0) (zaa 1)) [.im (.str (tx w)), .im (.str (tx sg)), .im (.int (most : Int))] = some ((w.map fun x => decide (x ∈ sg)).map D.bl) := by
      rw [List.map_map]
      exact zp7 w (fun x => D.str ⟨#[x]⟩) (fun x => D.bl (decide (x ∈ sg))) (znx rfl ha) (by omega) fun x _ => zq4 rfl rfl (zan rfl rfl (show some (D.bl (inS ⟨#[x]⟩ (tx sg))) = _ by rw [zjt]))
    refine zap (zat (zfq hc) rfl) ?_
    rw [zpq, List.all_map]
    rfl
theorem zj3 (w sg : List Nat) (hw : w.length <= 1000) (ha : asc w) : m_6 [.str (tx w), .str (tx sg)] = some (.bl (za4 sg w)) := by
  apply zdq
  unfold b_6
  show wp _ [.im (.str (tx w)), .im (.str (tx sg))] _
  refine zcq ?_ (zcx rfl)
  have hc : zcs 1 [1] (zd8 (zaa 0)) (zc7 0) (mB (m2 zdj (zaa 0) (zaa 1))) (zaa 0) [.im (.str (tx w)), .im (.str (tx sg))] = some ((w.filter fun x => decide (x ∈ sg)).map fun x => D.str ⟨#[x]⟩) :=
    zu8 w (fun x => D.str ⟨#[x]⟩) (fun x => decide (x ∈ sg)) (fun x => D.str ⟨#[x]⟩) (znx rfl ha) (by omega) fun x _ => zkx (b := decide (x ∈ sg)) rfl (zb0 (zan rfl rfl (show some (D.bl (inS ⟨#[x]⟩ (tx sg))) = _ by rw [zjt]))) fun _ => rfl
  refine zan (zap (zat (zfq hc) rfl) (zjb _ _)) (zap rfl (zew w hw)) ((zck _ _).trans ?_)
  congr 2
  unfold za4
  have hl : (w.filter fun x => decide (x ∈ sg)).length = w.length ↔ ∀ x ∈ w, decide (x ∈ sg) = true := List.length_filter_eq_length_iff
  cases e : w.all fun x => decide (x ∈ sg) with
  | true => exact beq_iff_eq.mpr (congrArg Int.ofNat (hl.mpr (List.all_eq_true.mp e)))
  | false =>
    apply beq_eq_false_iff_ne.mpr
    intro h
    have := List.all_eq_true.mpr (hl.mp (Int.ofNat.inj h))
    rw [e] at this
    cases this
theorem zh2 (a b : Bool) : m_5 [.bl a, .bl b] = some (.bl (a == b)) := by
  apply zdq
  unfold b_5
  show wp _ [.im (.bl a), .im (.bl b)] _
  exact zcq (zdc (a := true) rfl (zan rfl rfl (zm4 _ _))) (zcx rfl)
theorem zfd : m_2 [] = some (.str (tx smL)) := by
  unfold smL
  rw [zcn]
  rfl
theorem zjf : m_7 [] = some (.str (tx grL)) := by
  unfold grL
  rw [zcn]
  rfl
noncomputable def kpS : List Str := ["kind", "rule", "may", "choose", "never", "if", "and", "not", "unlike", "least", "most", "of", "to", "over", "in", "for"]
theorem zje : m_8 [] = some (.lst (kpS.map D.str)) := rfl
noncomputable def kept (z : Str) : Bool := kpS.any fun k => k == z
theorem zte (z : Str) : zev (.str z) (.kt (kpS.map D.str)) = some (.bl (!kept z)) := by
  show some (D.bl (!((kpS.map D.str).any fun d => eqX d (.str z)))) = _
  rw [List.any_map]
  rfl
theorem zrd (z : Str) : zev (.str z) (.lst (kpS.map D.str)) = some (.bl (!kept z)) := by
  show some (D.bl (!((kpS.map D.str).any fun d => eqX d (.str z)))) = _
  rw [List.any_map]
  rfl
theorem smT : ("abcdefghijklmnopqrstuvwxyz" : Str) = tx smL := (zcn _).symm
theorem grT : ("ABCDEFGHIJKLMNOPQRSTUVWXYZ" : Str) = tx grL := (zcn _).symm
theorem dgT : ("0123456789" : Str) = tx dgL := (zcn _).symm
theorem znb (w : List Nat) (hw : w.length <= 1000) (ha : asc w) : zhp [.str (tx w)] = some (.bl (made w smL 8 && !kept (tx w))) := by
  apply zdq
  unfold b_10
  show wp _ [.im (.str (tx w))] _
  refine zcq (zdc ?_ (zan rfl rfl (zte (tx w)))) (zcx rfl)
  refine zap (zat rfl (zat rfl (zat rfl rfl))) ?_
  rw [smT]
  exact zgz w smL 8 hw ha
theorem zn3 (w : List Nat) (i : Int) (h : 0 <= i /\ i <= w.length) : Txt.slice (tx w) (some i) none = tx (w.drop i.toNat) := by
  have := StrLaws.sliceText_from (x := tx w) (i := i) ⟨h.1, h.2⟩
  show StrLaws.sliceText (tx w) (some i) none = _
  rw [this]
  congr 2
  show (w.drop i.toNat).take _ = _
  rw [List.take_of_length_le (by rw [List.length_drop]; show _ <= ((w.length : Int) - i).toNat; omega)]
theorem zqv (w : List Nat) (i : Int) (h : (w.length : Int) <= i) : Txt.slice (tx w) (some i) none = tx (w.drop i.toNat) := by
  have e : PySem.Builtin.Str.strSliceIndices (some i) none 1 (tx w).length = PySem.Builtin.Str.strSliceIndices (some ((tx w).length : Int)) none 1 (tx w).length := by
    have hl := zb7 w
    have e1 : ¬ i < 0 := by omega
    have e2 : ¬ (((tx w).length : Nat) : Int) < 0 := by omega
    have e3 : min i (((tx w).length : Nat) : Int) = ((tx w).length : Nat) := by omega
    simp [PySem.Builtin.Str.strSliceIndices, e1, e2, e3]
  have e0 : Txt.slice (tx w) (some i) none = Txt.slice (tx w) (some (w.length : Int)) none := by
    unfold Txt.slice
    rw [e, zb7]
  rw [e0, zn3 w _ ⟨by omega, by omega⟩, List.drop_of_length_le (by omega), List.drop_of_length_le (by omega)]
theorem zga (w : List Nat) (i : Int) (h : 0 <= i) : Txt.slice (tx w) (some i) none = tx (w.drop i.toNat) := by
  by_cases hi : i <= w.length
  · exact zn3 w i ⟨h, hi⟩
  · exact zqv w i (by omega)
theorem zka (w : List Nat) (j : Int) (h : 0 <= j /\ j <= w.length) : Txt.slice (tx w) none (some j) = tx (w.take j.toNat) := by
  have := StrLaws.sliceText_to (x := tx w) (j := j) ⟨h.1, h.2⟩
  show StrLaws.sliceText (tx w) none (some j) = _
  rw [this]
  simp
theorem zlp (w : List Nat) : Txt.slice (tx w) none (some 1) = tx (w.take 1) := by
  cases w with
  | nil => rfl
  | cons a w => exact zka (a :: w) 1 ⟨by decide, by rw [List.length_cons]; omega⟩
theorem zkt (w : List Nat) (lo hi : Option Int) (h : w.length <= 1000) : zes (.str (tx w)) lo hi = some (.str (Txt.slice (tx w) lo hi)) := by
  show (if (tx w).length <= 16777216 then some (D.str (Txt.slice (tx w) lo hi)) else none) = _
  rw [zb7, if_pos (by omega)]
theorem zec {f : List Sl -> Option D} {l h : List Sl -> Option (Option Int)} {ρ : List Sl} {w : List Nat} {lo hi : Option Int} {r : Str} (e1 : f ρ = some (.str (tx w))) (e2 : l ρ = some lo) (e3 : h ρ = some hi) (hw : w.length <= 1000) (e4 : Txt.slice (tx w) lo hi = r) : zbt f l h ρ = some (.str r) := by
  unfold zbt
  rw [e1, Option.bind_some, e2, Option.bind_some, e3, Option.bind_some, zkt w lo hi hw, e4]
theorem zcy {a b : List Nat} (h : asc b) (hs : a ⊆ b) : asc a := List.all_eq_true.mpr fun x hx => List.all_eq_true.mp h x (hs hx)
theorem ztd (w : List Nat) (hw : w.length <= 1000) (ha : asc w) : zjr [.str (tx w)] = some (.bl (made (w.take 1) grL 1 && (decide (w.length = 1) || made (w.drop 1) smL 7))) := by
  apply zdq
  unfold b_16
  show wp _ [.im (.str (tx w))] _
  refine zcq (zdc ?_ (zjy ?_ ?_)) (zcx rfl)
  · refine zap (zat (zec (w := w) rfl rfl rfl hw (zlp w)) (zat rfl (zat rfl rfl))) ?_
    rw [grT]
    exact zgz (w.take 1) grL 1 (by rw [List.length_take]; omega) (zcy ha (List.take_subset _ _))
  · refine zan (zap rfl (zew w hw)) rfl ((zck _ _).trans ?_)
    congr 2
    by_cases e : w.length = 1
    · rw [e]; rfl
    · rw [decide_eq_false e]; exact beq_eq_false_iff_ne.mpr (by omega)
  · refine zap (zat (zec (w := w) rfl rfl rfl hw (zga w 1 (by decide))) (zat rfl (zat rfl rfl))) ?_
    rw [smT]
    exact zgz (w.drop 1) smL 7 (by rw [List.length_drop]; omega) (zcy ha (List.drop_subset _ _))
theorem zj9 (w : List Nat) (x : Nat) : Txt.startswith (tx w) ⟨#[x]⟩ = decide (w.head? = some x) := by
  unfold Txt.startswith
  cases w with
  | nil => rfl
  | cons a w =>
    rw [StrLaws.subAt_eq]
    show (decide (0 + 1 <= (tx (a :: w)).length) && (((a :: w).drop 0).take 1 == [x])) = _
    rw [zb7, decide_eq_true (by simp)]
    by_cases e : a = x
    · subst e; simp
    · simp [e]
theorem zqf (w : List Nat) (hw : w.length <= 1000) (ha : asc w) : zia [.str (tx w)] = some (.bl (zge w)) := by
  apply zdq
  unfold b_14 zge
  show wp _ [.im (.str (tx w)), .no] _
  have e0 : ((tx w) == ("0" : Str)) = (w == [48]) := by
    by_cases h : w = [48]
    · subst h; rfl
    · rw [beq_eq_false_iff_ne.mpr h]
      exact beq_eq_false_iff_ne.mpr fun e => h (zl4 (e.trans (show ("0" : Str) = tx [48] from rfl)))
  apply zay
  refine zcb (b := (w == [48])) (zb0 (zan rfl rfl ((zgj _ _).trans (by rw [e0])))) (fun h => ?_) (fun h => ?_)
  · rw [h]
    exact zcq rfl (zcx rfl)
  · rw [h]
    refine zbz ?_
    show wp _ [.im (.str (tx w)), .no] _
    apply zay
    have hs : zfg (.str (tx w)) (.str "-") = some (.bl (decide (w.head? = some 45))) := congrArg (fun b => some (D.bl b)) (zj9 w 45)
    refine zfw (d := .str (tx (fgs w))) (zpk (b := decide (w.head? = some 45)) (zel (zan rfl rfl hs) rfl) (fun e => ?_) (fun e => ?_)) ?_
    · have e := of_decide_eq_true e
      unfold fgs
      rw [if_pos e]
      refine zec (w := w) rfl rfl rfl hw ((zga w 1 (by decide)).trans ?_)
      cases w <;> rfl
    · have e := of_decide_eq_false e
      unfold fgs
      rw [if_neg e]
      rfl
    · show wp _ [.im (.str (tx w)), .im (.str (tx (fgs w)))] _
      have fl : (fgs w).length <= w.length /\ fgs w ⊆ w := by
        unfold fgs
        split
        · exact ⟨by rw [List.length_tail]; omega, fun _ h => List.mem_of_mem_tail h⟩
        · exact ⟨Nat.le_refl _, fun _ h => h⟩
      have hs2 : zfg (.str (tx (fgs w))) (.str "0") = some (.bl (decide ((fgs w).head? = some 48))) := congrArg (fun b => some (D.bl b)) (zj9 (fgs w) 48)
      refine zcq (zdc ?_ (zl8 (zan rfl rfl hs2))) (zcx rfl)
      refine zap (zat rfl (zat rfl (zat rfl rfl))) ?_
      rw [dgT]
      exact zgz (fgs w) dgL 30 (by omega) (zcy ha fl.2)
open NumText
theorem zue (w : List Nat) : Txt.lstripChars (tx w) ("-" : Str) = tx (zao w) := by
  unfold Txt.lstripChars
  rw [stripBy_eq]
  rw [<- zcn (PySem.Builtin.Str.strSub _ _ _)]
  congr 1
  rw [StrLaws.strSub_toList]
  have hg : ((("-" : Str).cps.contains) : Nat -> Bool) = fun x => x == 45 := by
    funext x
    show (#[45] : Array Nat).contains x = _
    simp [Array.contains]
  unfold stripLo stripHi
  rw [if_pos rfl, if_neg (by decide), hg, zb7]
  show (w.drop (w.takeWhile fun x => x == 45).length).take _ = _
  rw [List.take_of_length_le (by rw [List.length_drop]; exact Nat.le_refl _)]
  unfold zao
  conv => lhs; arg 2; rw [<- List.takeWhile_append_dropWhile (p := fun x => x == 45) (l := w)]
  rw [List.drop_left]
theorem zn6 {cs : List Nat} (h : za4 dgL cs = true) (hl : cs.length <= 30) : digitsVal cs < 2 ^ 120 := by
  have hb : ∀ (l : List Nat) (a : Nat), (∀ x ∈ l, x <= 57) -> l.foldl (fun acc c => acc * 10 + (c - 48)) a < (a + 1) * 10 ^ l.length := by
    intro l
    induction l with
    | nil => intro a _; simp
    | cons x l ih =>
      intro a hx
      have h1 := ih (a * 10 + (x - 48)) fun y hy => hx y (List.mem_cons_of_mem _ hy)
      have h2 : x <= 57 := hx x List.mem_cons_self
      rw [List.length_cons, List.foldl_cons, Nat.pow_succ]
      refine Nat.lt_of_lt_of_le h1 ?_
      rw [Nat.mul_comm (10 ^ l.length) 10, <- Nat.mul_assoc]
      exact Nat.mul_le_mul_right _ (show _ <= _ by omega)
  have h1 := hb cs 0 fun x hx => ((ze2 x).mp (of_decide_eq_true (List.all_eq_true.mp h x hx))).2
  have h2 : 10 ^ cs.length <= 10 ^ 30 := Nat.pow_le_pow_right (by decide) hl
  unfold digitsVal
  rw [Nat.zero_add, Nat.one_mul] at h1
  exact Nat.lt_of_lt_of_le h1 (Nat.le_trans h2 (by decide))
theorem zkn {n : Nat} (h : n < 2 ^ 120) : n.log2 < 1920 := by
  by_cases h0 : n = 0
  · subst h0; decide
  · have := (Nat.log2_lt h0).mpr h
    omega
theorem zol {cs : List Nat} (h : za4 dgL cs = true) (hl : cs.length <= 30) : zed (.int ((digitsVal cs : Nat) : Int)) = some (.str (tx (nz cs))) := by
  show (if (digitsVal cs).log2 < 1920 then some (D.str (Str.ofString (toString ((digitsVal cs : Nat) : Int)))) else none) = _
  rw [if_pos (zkn (zn6 h hl)), <- zn5 h, <- PySem.W.KIN.signs_num, zcn]
theorem zom {cs : List Nat} (h : za4 dgL cs = true) (hl : cs.length <= 30) : zed (.int (-((digitsVal cs : Nat) : Int))) = some (.str (tx (ngz cs))) := by
  have hlg : (-((digitsVal cs : Nat) : Int)).natAbs.log2 < 1920 := by rw [Int.natAbs_neg]; exact zkn (zn6 h hl)
  show (if (-((digitsVal cs : Nat) : Int)).natAbs.log2 < 1920 then some (D.str (Str.ofString (toString (-((digitsVal cs : Nat) : Int))))) else none) = _
  rw [if_pos hlg]
  unfold ngz
  by_cases hz : cs.dropWhile (· == 48) = []
  · rw [if_pos hz, (zns h).mpr hz]
    rfl
  · rw [if_neg hz, <- zn5 h]
    have hv : digitsVal cs ≠ 0 := fun e => hz ((zns h).mp e)
    generalize digitsVal cs = v at hv
    obtain ⟨m, rfl⟩ := Nat.exists_eq_succ_of_ne_zero hv
    congr 2
    rw [<- zcn (Str.ofString _)]
    congr 1
    have e : toString (-((m + 1 : Nat) : Int)) = "-" ++ Nat.repr (m + 1) := rfl
    show (Str.ofString (toString (-((m + 1 : Nat) : Int)))).cps.toList = _
    rw [e, signs_ofString, String.toList_append, List.map_append, Nat.toList_repr]
    rfl
theorem ztj (w : List Nat) (hw : w.length <= 1000) (ha : asc w) : zi5 [.str (tx w)] = some (.bl (zgm w)) := by
  apply zdq
  unfold b_15
  show wp _ [.im (.str (tx w)), .no] _
  have fw : (zao w).length <= w.length /\ zao w ⊆ w := ⟨zml _ _, (List.dropWhile_sublist _).subset⟩
  apply zay
  refine zfw (d := .str (tx (zao w))) (zan rfl rfl ?_) ?_
  · show (if (tx w).length <= 16777216 then some (D.str (Txt.lstripChars (tx w) "-")) else none) = _
    rw [zb7, if_pos (by omega), zue]
  show wp _ [.im (.str (tx w)), .im (.str (tx (zao w)))] _
  have beqt : ∀ a b : List Nat, (tx a == tx b) = (a == b) := fun a b => by
    by_cases h : a = b
    · subst h; rw [beq_self_eq_true, beq_self_eq_true]
    · rw [beq_eq_false_iff_ne.mpr h]
      exact beq_eq_false_iff_ne.mpr fun e => h (zl4 e)
  apply zay
  unfold zgm
  have h1 : mB (m2 dEq (zaa 1) (fun _ => some (.str ""))) [.im (.str (tx w)), .im (.str (tx (zao w)))] = some (zao w == []) := zb0 (zan rfl rfl ((zgj _ _).trans (by rw [show ("" : Str) = tx [] from rfl, beqt])))
  have h2 : mB (m2 dGt (zah zbf (zad (zaa 1) (fun _ => some []))) (fun _ => some (.int 30))) [.im (.str (tx w)), .im (.str (tx (zao w)))] = some (decide (30 < (zao w).length)) := zb0 (zan (zap rfl (zew _ (by omega))) rfl (zj7.trans (by congr 2; exact decide_eq_decide.mpr (by omega))))
  have h3 : zdb (zc5 (zah m_6 (zad (zaa 1) (zad (fun _ => some (.str "0123456789")) (fun _ => some []))))) [.im (.str (tx w)), .im (.str (tx (zao w)))] = some (!za4 dgL (zao w)) := zfx (zel (zap (zat rfl (zat rfl rfl)) (by rw [dgT]; exact zj3 (zao w) dgL (by omega) (zcy ha fw.2))) rfl)
  refine zcb (zjq h1 (zjq h2 h3)) (fun hb => ?_) (fun hb => ?_)
  · rw [hb, if_pos rfl]
    exact zcq rfl (zcx rfl)
  · rw [hb, if_neg (by decide)]
    refine zbz ?_
    show wp _ [.im (.str (tx w)), .im (.str (tx (zao w)))] _
    simp only [Bool.or_eq_false_iff, decide_eq_false_iff_not, Nat.not_lt, Bool.not_eq_false'] at hb
    obtain ⟨b1, b2, b3⟩ := hb
    have had : AllDigits (zao w) := fun x hx => (ze2 x).mp (of_decide_eq_true (List.all_eq_true.mp b3 x hx))
    have hi : m1 zeb (zaa 1) [.im (.str (tx w)), .im (.str (tx (zao w)))] = some (.int ((digitsVal (zao w) : Nat) : Int)) := by
      show zeb (.str (tx (zao w))) = _
      show (if (tx (zao w)).length <= 640 then (PySem.intText? (tx (zao w))).map D.int else none) = _
      rw [zb7, if_pos (by omega), intText_digits (x := tx (zao w)) had (by simpa using b1) (by rw [zb7]; omega)]
      rfl
    have e1 : m2 dEq (zaa 0) (m1 zed (m1 zeb (zaa 1))) [.im (.str (tx w)), .im (.str (tx (zao w)))] = some (.bl (w == nz (zao w))) := by
      refine zan rfl ?_ ((zgj _ _).trans (by rw [beqt]))
      unfold m1 at hi ⊢
      rw [hi]
      exact zol b3 b2
    have e2 : m2 dEq (zaa 0) (m1 zed (m1 zg1 (m1 zeb (zaa 1)))) [.im (.str (tx w)), .im (.str (tx (zao w)))] = some (.bl (w == ngz (zao w))) := by
      refine zan rfl ?_ ((zgj _ _).trans (by rw [beqt]))
      unfold m1 at hi ⊢
      rw [hi]
      exact zom b3 b2
    exact zcq (zjy e1 e2) (zcx rfl)
theorem zbc {f : List Sl -> Option D} {ρ : List Sl} {d : D} (h : f ρ = some d) : mX f ρ = some (d, ρ) := by
  unfold mX
  rw [h]
  rfl
theorem zcm {m : D -> D -> Option D} {f g : Xe} {ρ ρ1 ρ2 : List Sl} {x y d : D} (h1 : f ρ = some (x, ρ1)) (h2 : g ρ1 = some (y, ρ2)) (h3 : m x y = some d) : mX2 m f g ρ = some (d, ρ2) := by
  unfold mX2
  rw [h1, Option.bind_some, h2, Option.bind_some, h3]
  rfl
theorem zce {f : Xe} {g : Xa} {ρ ρ1 ρ2 : List Sl} {d : D} {ds : List D} (h1 : f ρ = some (d, ρ1)) (h2 : g ρ1 = some (ds, ρ2)) : zaj f g ρ = some (d :: ds, ρ2) := by
  unfold zaj
  rw [h1, Option.bind_some, h2]
  rfl
theorem zdx {i : Nat} {m : Addr -> List D -> List D -> List D -> Option (List D × D)} {f : Xa} {ρ ρ1 : List Sl} {l l0 : Addr} {xs0 xs ys ds : List D} {d : D} (h0 : ρ[i]? = some (.pin l0 xs0)) (h1 : f ρ = some (ds, ρ1)) (h2 : ρ1[i]? = some (.pin l xs)) (h3 : m l [] ds xs = some (ys, d)) : zaq i m f ρ = some (d, ρ1.set i (.pin l ys)) := by
  unfold zaq
  rw [h0]
  show (f ρ).bind _ = _
  rw [h1, Option.bind_some]
  dsimp only
  rw [h2]
  show (m l [] ds xs).map _ = _
  rw [h3]
  rfl
open Classical in
theorem zll {i : Nat} {m : Addr -> List D -> List D -> List D -> Option (List D × D)} {f : Xa} {ρ ρ1 : List Sl} {xs0 xs ys ds : List D} {d : D} (h0 : ρ[i]? = some (.own xs0)) (h1 : f ρ = some (ds, ρ1)) (h2 : ρ1[i]? = some (.own xs)) (h3 : ∀ l, m l [] ds xs = some (ys, d)) : zd0 i m f ρ = some (d, ρ1.set i (.own ys)) := by
  unfold zd0
  rw [h0]
  show (f ρ).bind _ = _
  rw [h1, Option.bind_some]
  dsimp only
  rw [h2]
  show (if h : ∃ q, ∀ l, m l [] ds xs = some q then _ else none) = _
  rw [dif_pos ⟨(ys, d), h3⟩]
  have e : (⟨(ys, d), h3⟩ : ∃ q, ∀ l, m l [] ds xs = some q).choose = (ys, d) := by
    have := (⟨(ys, d), h3⟩ : ∃ q, ∀ l, m l [] ds xs = some q).choose_spec 0
    rw [h3 0] at this
    exact Option.some.inj this.symm
  rw [e]
theorem zc9 {i : Nat} {f : Xe} {ρ ρ1 : List Sl} {d : D} {K : Fl -> Prop} (h : f ρ = some (d, ρ1)) (k : K (.nx (ρ1.set i (.im d)))) : wp (zca i f) ρ K := ⟨_, by unfold zca; rw [h]; rfl, k⟩
theorem zfl {f : Xe} {ρ ρ1 : List Sl} {d : D} {K : Fl -> Prop} (h : f ρ = some (d, ρ1)) (k : K (.rtS d ρ1)) : wp (zdh f) ρ K := ⟨_, by unfold zdh; rw [h]; rfl, k⟩
theorem zo3 {i : Nat} {f : Xe} {ρ ρ1 : List Sl} {x d z : D} {K : Fl -> Prop} (h0 : ρ[i]? = some (.im x)) (h : f ρ = some (d, ρ1)) (h2 : zg5 x d = some z) (k : K (.nx (ρ1.set i (.im z)))) : wp (zf7 i f) ρ K := ⟨_, by
  unfold zf7
  rw [h0]
  show (f ρ).bind _ = _
  rw [h, Option.bind_some, h2]
  rfl, k⟩
theorem zmr {t : Xt} {F F' : List Sl -> Option Fl} {ρ ρ1 : List Sl} {b : Bool} {K : Fl -> Prop} (h : t ρ = some (b, ρ1)) (kT : b = true -> wp F ρ1 K) (kF : b = false -> wp F' ρ1 K) : wp (zfo t F F') ρ K := by
  unfold wp zfo
  rw [h]
  cases b with
  | true => exact kT rfl
  | false => exact kF rfl
noncomputable def nx (s : Int) : Int := (s * 1181783497276652981 + 12345678910987) % (2 ^ 61 - 1)
noncomputable def okS (s : Int) : Prop := 0 <= s /\ s < 2305843009213693951
theorem za3 (s : Int) : okS (nx s) := by
  have h1 := Int.emod_nonneg (s * 1181783497276652981 + 12345678910987) (show (2 ^ 61 - 1 : Int) ≠ 0 by decide)
  have h2 := Int.emod_lt_of_pos (s * 1181783497276652981 + 12345678910987) (show (0 : Int) < 2 ^ 61 - 1 by decide)
  unfold okS nx
  omega
noncomputable def dr (s k : Int) : Int := nx s / 65537 % k
theorem za9 (s : Int) {k : Int} (h : 0 < k) : 0 <= dr s k /\ dr s k < k := ⟨Int.emod_nonneg _ (by omega), Int.emod_lt_of_pos _ h⟩
theorem zep (l : Addr) (s k : Int) (h : okS s) (hk : 0 < k) : m_0 l [] [.int k] [.int s] = some ([.int (nx s)], .int (dr s k)) := by
  obtain ⟨h0, h1⟩ := h
  have w : wp b_0 [.pin l [.int s], .im (.int k)] (fun o => o = .rtS (.int (dr s k)) [.pin l [.int (nx s)], .im (.int k)]) := by
    unfold b_0
    apply zay
    have hg : zea s 1181783497276652981 := .inr ⟨by omega, by decide⟩
    refine zo5 (d := .int (nx s)) (k := 0) (xs := [.int s]) ?_ rfl rfl (by decide) (by show (0 : Int) < 1; decide) ?_
    · exact zan (zan (zan rfl rfl (zmk hg)) rfl zgk) (zan (zan rfl rfl (zig (by decide))) rfl zi1) (zht (by decide))
    · exact zei (zan (zan rfl rfl (zng (by have := za3 s; unfold okS at this; walk_at "evS"))) rfl (zht hk)) rfl
  obtain ⟨o, e, rfl⟩ := w
  exact zfz (ρ := [.pin l [.int (nx s)], .im (.int k)]) e rfl
noncomputable def stp (sg : List Nat) (p : Int × List Nat) : Int × List Nat := (nx p.1, p.2 ++ [sg.getD (dr p.1 (sg.length : Nat)).toNat 0])
noncomputable def its (sg : List Nat) : Nat -> Int × List Nat -> Int × List Nat
  | 0, p => p
  | n + 1, p => stp sg (its sg n p)
theorem zhk {sg : List Nat} (v : Int) (h : 0 <= v /\ v < (sg.length : Nat)) : sg[v.toNat]? = some (sg.getD v.toNat 0) /\ (sg.getD v.toNat 0) ∈ sg := by
  have hl : v.toNat < sg.length := by omega
  rw [List.getD_eq_getElem?_getD, List.getElem?_eq_getElem hl]
  exact ⟨rfl, List.getElem_mem hl⟩
theorem zju (sg : List Nat) (hs : asc sg) (h0 : 0 < sg.length) (p : Int × List Nat) (h : okS p.1) (hp : asc p.2) : ∀ n, okS (its sg n p).1 /\ asc (its sg n p).2 /\ (its sg n p).2.length = p.2.length + n
  | 0 => ⟨h, hp, rfl⟩
  | n + 1 => by
    obtain ⟨a, b, c⟩ := zju sg hs h0 p h hp n
    refine ⟨za3 _, ?_, ?_⟩
    · show ((its sg n p).2 ++ [_]).all _ = true
      rw [List.all_append, b]
      have := List.all_eq_true.mp hs _ (zhk (sg := sg) _ (za9 (its sg n p).1 (k := (sg.length : Nat)) (by omega))).2
      simp only [List.all_cons, List.all_nil, Bool.and_true, Bool.true_and]
      exact this
    · show ((its sg n p).2 ++ [_]).length = _
      rw [List.length_append, c]
      rfl
theorem zof (l : Addr) (s : Int) (sg : List Nat) (n : Nat) (h : okS s) (hs : asc sg) (h0 : 0 < sg.length) (h1 : sg.length <= 1000) (hn : n <= 500) : m_1 l [] [.str (tx sg), .int (n : Int)] [.int s] = some ([.int (its sg n (s, [])).1], .str (tx (its sg n (s, [])).2)) := by
  have rk := zju sg hs h0 (s, []) h rfl
  have w : wp b_1 [.pin l [.int s], .im (.str (tx sg)), .im (.int (n : Int)), .no, .no] (fun o => ∃ a, o = .rtS (.str (tx (its sg n (s, [])).2)) [.pin l [.int (its sg n (s, [])).1], .im (.str (tx sg)), .im (.int (n : Int)), .im (.str (tx (its sg n (s, [])).2)), a]) := by
    unfold b_1
    apply zay
    refine zfw (d := .str (tx [])) rfl ?_
    show wp _ [.pin l [.int s], .im (.str (tx sg)), .im (.int (n : Int)), .im (.str (tx [])), .no] _
    apply zay
    refine zj6 (List.range n) (fun (i : Nat) => D.int i) (fun pre ρ => ∃ a, ρ = [.pin l [.int (its sg pre.length (s, [])).1], .im (.str (tx sg)), .im (.int (n : Int)), .im (.str (tx (its sg pre.length (s, [])).2)), a]) ?_ ⟨_, rfl⟩ ?_ ?_
    · have er : ∀ v : Int, 0 <= v -> v <= 500 -> zh3 [D.int v] = some (rng 0 v.toNat) := fun v a b => by
        show (if -(2 ^ 62) <= v /\ v < 2 ^ 62 then some (rng 0 v.toNat) else none) = _
        rw [if_pos ⟨by omega, by omega⟩]
      have ef : zad (zaa 2) (fun _ => some []) [.pin l [.int s], .im (.str (tx sg)), .im (.int (n : Int)), .im (.str (tx [])), .no] = some [.int (n : Int)] := rfl
      unfold zhw
      rw [ef, Option.bind_some, er _ (by omega) (by omega), Int.toNat_natCast, zrz]
      simp
    · rintro pre x post ρ he ⟨a, rfl⟩
      refine ⟨_, rfl, ?_⟩
      show wp _ [.pin l [.int (its sg pre.length (s, [])).1], .im (.str (tx sg)), .im (.int (n : Int)), .im (.str (tx (its sg pre.length (s, [])).2)), .im (.int x)] _
      obtain ⟨k1, k2, k3⟩ := rk pre.length
      have hpre : pre.length < n := by
        have := congrArg List.length he
        rw [List.length_range, List.length_append, List.length_cons] at this
        omega
      generalize hp : its sg pre.length (s, []) = p at k1 k2 k3
      have dk := za9 p.1 (k := (sg.length : Nat)) (by omega)
      refine zo3 (x := .str (tx p.2)) (d := .str ⟨#[sg.getD (dr p.1 (sg.length : Nat)).toNat 0]⟩) (z := .str (tx (stp sg p).2)) (ρ1 := [.pin l [.int (stp sg p).1], .im (.str (tx sg)), .im (.int (n : Int)), .im (.str (tx p.2)), .im (.int x)]) rfl ?_ ?_ ?_
      · have el : zah zbf (zad (zaa 1) (fun _ => some [])) [.pin l [.int p.1], .im (.str (tx sg)), .im (.int (n : Int)), .im (.str (tx p.2)), .im (.int x)] = some (.int (sg.length : Nat)) := zap rfl (zew sg h1)
        have ec : zaq 0 m_0 (zaj (mX (zah zbf (zad (zaa 1) (fun _ => some [])))) zam) [.pin l [.int p.1], .im (.str (tx sg)), .im (.int (n : Int)), .im (.str (tx p.2)), .im (.int x)] = some (.int (dr p.1 (sg.length : Nat)), [.pin l [.int (nx p.1)], .im (.str (tx sg)), .im (.int (n : Int)), .im (.str (tx p.2)), .im (.int x)]) := zdx (i := 0) (ρ1 := [.pin l [.int p.1], .im (.str (tx sg)), .im (.int (n : Int)), .im (.str (tx p.2)), .im (.int x)]) rfl (zce (zbc el) rfl) rfl (zep l p.1 (sg.length : Nat) k1 (by omega))
        refine zcm (zbc rfl) ec ?_
        show (if 0 <= dr p.1 (sg.length : Nat) /\ dr p.1 (sg.length : Nat) < 2 ^ 63 /\ dr p.1 (sg.length : Nat) < ((tx sg).length : Int) then ((tx sg).cps[(dr p.1 (sg.length : Nat)).toNat]?).map (fun ch => D.str ⟨#[ch]⟩) else none) = _
        rw [if_pos ⟨dk.1, by omega, by rw [zb7]; exact dk.2⟩]
        have := (zhk (sg := sg) _ dk).1
        show ((sg.toArray)[(dr p.1 (sg.length : Nat)).toNat]?).map _ = _
        rw [List.getElem?_toArray, this]
        rfl
      · show (if (tx p.2).length + 1 <= 16777216 then some (D.str (tx p.2 ++ ⟨#[_]⟩)) else none) = _
        rw [if_pos (by rw [zb7, k3]; simp only [List.length_nil]; omega)]
        exact congrArg (fun z => some (D.str z)) (zhx p.2 [_])
      · refine ⟨.im (.int x), ?_⟩
        rw [List.length_append, show ([x] : List Nat).length = 1 from rfl]
        show _ = [Sl.pin l [.int (stp sg (its sg pre.length (s, []))).1], .im (.str (tx sg)), .im (.int (n : Int)), .im (.str (tx (stp sg (its sg pre.length (s, []))).2)), .im (.int x)]
        rw [hp]
        rfl
    · rintro ρ ⟨a, rfl⟩
      rw [List.length_range]
      exact zei rfl ⟨a, rfl⟩
  obtain ⟨o, e, a, rfl⟩ := w
  exact zfz (ρ := [.pin l [.int (its sg n (s, [])).1], .im (.str (tx sg)), .im (.int (n : Int)), .im (.str (tx (its sg n (s, [])).2)), a]) e rfl
noncomputable def smP (sg : List Nat) (n : Int) (s : Int) : Int × List Nat := its sg n.toNat (s, [])
theorem zmw (l : Addr) (s : Int) (sg : List Nat) (n : Int) (h : okS s) (hs : asc sg) (h0 : 0 < sg.length) (h1 : sg.length <= 1000) (hn : 0 <= n /\ n <= 500) : m_1 l [] [.str (tx sg), .int n] [.int s] = some ([.int (smP sg n s).1], .str (tx (smP sg n s).2)) := by
  have := zof l s sg n.toNat h hs h0 h1 (by omega)
  rw [show ((n.toNat : Nat) : Int) = n by omega] at this
  exact this
theorem zdi (sg : List Nat) (n s : Int) (h : okS s) (hs : asc sg) (h0 : 0 < sg.length) (hn : 0 <= n) : okS (smP sg n s).1 /\ asc (smP sg n s).2 /\ ((smP sg n s).2.length : Int) = n := by
  obtain ⟨a, b, c⟩ := zju sg hs h0 (s, []) h rfl n.toNat
  refine ⟨a, b, ?_⟩
  unfold smP
  rw [c]
  simp only [List.length_nil]
  omega
noncomputable def anT : Str := "0123456789 !\"#$&'()*+,-./:;<=>?\x40[\\]^_`{|}~\t\n"
noncomputable def anL : List Nat := smL ++ grL ++ anT.cps.toList
theorem zn0 : m_9 [] = some (.str (tx anL)) := by
  apply zdq
  unfold b_9
  show wp _ [] _
  refine zcq (zan (zan (zap rfl zfd) (zap rfl zjf) (d := .str (tx (smL ++ grL))) ?_) rfl ?_) (zcx rfl)
  · show (if (tx smL).length + (tx grL).length <= 16777216 then some (D.str (tx smL ++ tx grL)) else none) = _
    rw [if_pos (by decide +kernel), zhx]
  · show (if (tx (smL ++ grL)).length + anT.length <= 16777216 then some (D.str (tx (smL ++ grL) ++ anT)) else none) = _
    rw [if_pos (by decide +kernel)]
    conv => lhs; rw [<- zcn anT]
    rw [zhx]
    rfl
theorem zcp : asc anL /\ 0 < anL.length /\ anL.length <= 1000 := by decide +kernel
theorem zbs : asc smL /\ 0 < smL.length /\ smL.length = 26 := by decide +kernel
theorem zey : asc grL /\ 0 < grL.length /\ grL.length <= 1000 := by decide +kernel
theorem zen : asc dgL /\ 0 < dgL.length /\ dgL.length <= 1000 := by decide +kernel
noncomputable def kpL : List (List Nat) := kpS.map fun z => z.cps.toList
theorem zla : ∀ k ∈ kpL, asc k /\ k ≠ [] /\ k.length <= 6 /\ asc (Txt.upper (tx (k.take 1))).cps.toList /\ (Txt.upper (tx (k.take 1))).cps.toList.length = 1 /\ Txt.slice (tx k) none (some (-1)) = tx k.dropLast := by decide +kernel
theorem zmx : kpL.length = 16 := rfl
theorem znd (v : Int) (h : 0 <= v /\ v < 16) : zd5 (.lst (kpS.map D.str)) (.int v) = some (.str (tx (kpL.getD v.toNat []))) /\ kpL.getD v.toNat [] ∈ kpL := by
  have hl : v.toNat < kpL.length := by rw [zmx]; omega
  have e1 : kpS.map D.str = kpL.map fun k => D.str (tx k) := by
    unfold kpL
    rw [List.map_map]
    apply List.map_congr_left
    intro z _
    show D.str z = D.str (tx z.cps.toList)
    rw [zcn]
  rw [List.getD_eq_getElem?_getD, List.getElem?_eq_getElem hl]
  refine ⟨?_, List.getElem_mem hl⟩
  rw [e1]
  show atI (kpL.map fun k => D.str (tx k)) v = _
  unfold atI ixN
  rw [List.length_map, zmx, if_pos h.1, if_pos (by omega), Option.bind_some, List.getElem?_map, List.getElem?_eq_getElem hl]
  rfl
noncomputable def zcr (s : Int) : Int × List Nat :=
  let k := kpL.getD (dr s 16).toNat []
  if dr (nx s) 4 = 0 then (nx (nx s), k.dropLast) else
  if dr (nx s) 4 = 1 then (nx (nx (nx s)), k ++ [smL.getD (dr (nx (nx s)) 26).toNat 0]) else
  if dr (nx s) 4 = 2 then (nx (nx s), (Txt.upper (tx (k.take 1))).cps.toList ++ k.drop 1) else (nx (nx s), k)
theorem zeo {a b : List Nat} (ha : asc a) (hb : asc b) : asc (a ++ b) := by
  show (a ++ b).all _ = true
  rw [List.all_append, ha, hb]
  rfl
theorem zeh (a b : List Nat) (h : a.length + b.length <= 2000) : zbg (.str (tx a)) (.str (tx b)) = some (.str (tx (a ++ b))) := by
  show (if (tx a).length + (tx b).length <= 16777216 then some (D.str (tx a ++ tx b)) else none) = _
  rw [zb7, zb7, if_pos (by omega), zhx]
theorem znk (sg : List Nat) (v : Int) (h : 0 <= v /\ v < (sg.length : Nat)) (h1 : sg.length <= 1000) : zcu (.str (tx sg)) (.int v) = some (.str (tx [sg.getD v.toNat 0])) := by
  show (if 0 <= v /\ v < 2 ^ 63 /\ v < ((tx sg).length : Int) then ((tx sg).cps[v.toNat]?).map (fun ch => D.str ⟨#[ch]⟩) else none) = _
  rw [if_pos ⟨h.1, by omega, by rw [zb7]; exact h.2⟩]
  show ((sg.toArray)[v.toNat]?).map _ = _
  rw [List.getElem?_toArray, (zhk (sg := sg) v h).1]
  rfl
theorem ztx (s : Int) : okS (zcr s).1 /\ asc (zcr s).2 /\ (zcr s).2.length <= 10 := by
  obtain ⟨a1, a2, a3, a4, a5, a6⟩ := zla _ (znd (dr s 16) (za9 s (by decide))).2
  unfold zcr
  dsimp only
  generalize kpL.getD (dr s 16).toNat [] = k at a1 a2 a3 a4 a5 a6
  split
  · exact ⟨za3 _, zcy a1 (List.dropLast_subset _), by rw [List.length_dropLast]; omega⟩
  · split
    · have d := za9 (nx (nx s)) (k := 26) (by decide)
      have hm := (zhk (sg := smL) _ (show 0 <= dr (nx (nx s)) 26 /\ dr (nx (nx s)) 26 < (smL.length : Nat) by rw [zbs.2.2]; exact d)).2
      refine ⟨za3 _, zeo a1 (List.all_eq_true.mpr fun x hx => ?_), by rw [List.length_append]; simp only [List.length_cons, List.length_nil]; omega⟩
      rw [List.mem_singleton.mp hx]
      exact List.all_eq_true.mp zbs.1 _ hm
    · split
      · exact ⟨za3 _, zeo a4 (zcy a1 (List.drop_subset _ _)), by rw [List.length_append, a5, List.length_drop]; omega⟩
      · exact ⟨za3 _, a1, by show k.length <= 10; omega⟩
theorem zq5 (l : Addr) (s : Int) (h : okS s) : zil l [] [] [.int s] = some ([.int (zcr s).1], .str (tx (zcr s).2)) := by
  have d16 := za9 s (k := 16) (by decide)
  have hk := znd (dr s 16) d16
  obtain ⟨a1, a2, a3, a4, a5, a6⟩ := zla _ hk.2
  have d4 := za9 (nx s) (k := 4) (by decide)
  have w : wp b_13 [.pin l [.int s], .no, .no] (fun o => ∃ a b, o = .rtS (.str (tx (zcr s).2)) [.pin l [.int (zcr s).1], a, b]) := by
    unfold b_13
    apply zay
    have e1 : zaq 0 m_0 (zaj (mX (fun _ => some (.int 16))) zam) [.pin l [.int s], .no, .no] = some (.int (dr s 16), [.pin l [.int (nx s)], .no, .no]) := zdx (i := 0) (ρ1 := [.pin l [.int s], .no, .no]) rfl (zce (zbc rfl) rfl) rfl (zep l s 16 h (by decide))
    refine zc9 (zcm (zbc (zap rfl zje)) e1 hk.1) ?_
    unfold zcr
    dsimp only
    generalize kpL.getD (dr s 16).toNat [] = k at a1 a2 a3 a4 a5 a6
    show wp _ [.pin l [.int (nx s)], .im (.str (tx k)), .no] _
    apply zay
    have e2 : zaq 0 m_0 (zaj (mX (fun _ => some (.int 4))) zam) [.pin l [.int (nx s)], .im (.str (tx k)), .no] = some (.int (dr (nx s) 4), [.pin l [.int (nx (nx s))], .im (.str (tx k)), .no]) := zdx (i := 0) (ρ1 := [.pin l [.int (nx s)], .im (.str (tx k)), .no]) rfl (zce (zbc rfl) rfl) rfl (zep l (nx s) 4 (za3 _) (by decide))
    refine zc9 e2 ?_
    have hs2 := za3 (nx s)
    generalize dr (nx s) 4 = g at d4
    generalize nx (nx s) = s2 at hs2
    show wp _ [.pin l [.int s2], .im (.str (tx k)), .im (.int g)] _
    apply zay
    refine zcb (b := (g == 0)) (zb0 (zan rfl rfl (zck _ _))) (fun hb => ?_) (fun hb => ?_)
    · rw [if_pos (eq_of_beq hb)]
      exact zei (zec (w := k) rfl rfl rfl (by omega) a6) ⟨_, _, rfl⟩
    rw [if_neg (by simpa using hb)]
    refine zbz ?_
    show wp _ [.pin l [.int s2], .im (.str (tx k)), .im (.int g)] _
    apply zay
    refine zcb (b := (g == 1)) (zb0 (zan rfl rfl (zck _ _))) (fun hb => ?_) (fun hb => ?_)
    · rw [if_pos (eq_of_beq hb)]
      have d26 := za9 s2 (k := 26) (by decide)
      have e3 : zaq 0 m_0 (zaj (mX (fun _ => some (.int 26))) zam) [.pin l [.int s2], .im (.str (tx k)), .im (.int g)] = some (.int (dr s2 26), [.pin l [.int (nx s2)], .im (.str (tx k)), .im (.int g)]) := zdx (i := 0) (ρ1 := [.pin l [.int s2], .im (.str (tx k)), .im (.int g)]) rfl (zce (zbc rfl) rfl) rfl (zep l s2 26 hs2 (by decide))
      exact zfl (zcm (zbc rfl) (zcm (zbc (zap rfl zfd)) e3 (znk smL _ (by rw [zbs.2.2]; exact d26) (by rw [zbs.2.2]; decide))) (zeh _ _ (by simp only [List.length_cons, List.length_nil]; omega))) ⟨_, _, rfl⟩
    rw [if_neg (by simpa using hb)]
    refine zbz ?_
    show wp _ [.pin l [.int s2], .im (.str (tx k)), .im (.int g)] _
    apply zay
    refine zcb (b := (g == 2)) (zb0 (zan rfl rfl (zck _ _))) (fun hb => ?_) (fun hb => ?_)
    · rw [if_pos (eq_of_beq hb)]
      have ht : k.take 1 = [k.getD 0 0] := by
        cases k with
        | nil => exact absurd rfl a2
        | cons a r => rfl
      have hlk : 0 < k.length := List.length_pos_iff.mpr a2
      have hu : m1 zho (m2 zcu (zaa 1) (fun _ => some (.int 0))) [.pin l [.int s2], .im (.str (tx k)), .im (.int g)] = some (.str (tx (Txt.upper (tx (k.take 1))).cps.toList)) := by
        have ei : m2 zcu (zaa 1) (fun _ => some (.int 0)) [.pin l [.int s2], .im (.str (tx k)), .im (.int g)] = some (.str (tx (k.take 1))) := by
          rw [ht]
          exact zan rfl rfl (znk k 0 ⟨by decide, by omega⟩ (by omega))
        unfold m1
        rw [ei, zcn]
        show (if PySem.Builtin.Str.tooLong (Txt.upper (tx (k.take 1))).length = false then some (D.str (Txt.upper (tx (k.take 1)))) else none) = _
        have e5 : (Txt.upper (tx (k.take 1))).length = 1 := by
          exact Array.length_toList.symm.trans a5
        rw [e5, if_pos (by decide)]
      exact zei (zan hu (zec (w := k) rfl rfl rfl (by omega) (zga k 1 (by decide))) (zeh _ _ (by rw [a5, List.length_drop]; omega))) ⟨_, _, rfl⟩
    rw [if_neg (by simpa using hb)]
    refine zbz ?_
    exact zei rfl ⟨_, _, rfl⟩
  obtain ⟨o, e, a, b, rfl⟩ := w
  exact zfz (ρ := [.pin l [.int (zcr s).1], a, b]) e rfl
noncomputable def zj4 (s : Int) : Int × List Nat :=
  let sign := [[], [], [45]].getD (dr s 3).toNat []
  let a := dr (nx s) 4
  let b := 29 + dr (nx (nx s)) 4
  let n := if dr (nx (nx (nx s))) 2 = 0 then a else b
  let p := smP dgL n (nx (nx (nx (nx s))))
  (p.1, sign ++ p.2)
noncomputable def zcz (s : Int) : Int × List Nat :=
  if dr s 5 = 0 then smP smL (dr (nx s) 11) (nx (nx s)) else
  if dr s 5 = 1 then (let p := smP grL 1 (nx s); let q := smP smL (dr p.1 10) (nx p.1); (q.1, p.2 ++ q.2)) else
  if dr s 5 = 2 then zj4 (nx s) else
  if dr s 5 = 3 then zcr (nx s) else smP anL (dr (nx s) 5) (nx (nx s))
theorem zux (s : Int) : okS (zcz s).1 /\ asc (zcz s).2 /\ (zcz s).2.length <= 40 := by
  unfold zcz
  split
  · have d := za9 (nx s) (k := 11) (by decide)
    obtain ⟨a, b, c⟩ := zdi smL (dr (nx s) 11) (nx (nx s)) (za3 _) zbs.1 zbs.2.1 d.1
    exact ⟨a, b, by omega⟩
  · split
    · obtain ⟨a, b, c⟩ := zdi grL 1 (nx s) (za3 _) zey.1 zey.2.1 (by decide)
      dsimp only
      generalize smP grL 1 (nx s) = p at a b c
      have d := za9 p.1 (k := 10) (by decide)
      obtain ⟨a2, b2, c2⟩ := zdi smL (dr p.1 10) (nx p.1) (za3 _) zbs.1 zbs.2.1 d.1
      exact ⟨a2, zeo b b2, by rw [List.length_append]; omega⟩
    · split
      · unfold zj4
        dsimp only
        generalize nx s = s1
        have d1 := za9 s1 (k := 3) (by decide)
        have d2 := za9 (nx s1) (k := 4) (by decide)
        have d3 := za9 (nx (nx s1)) (k := 4) (by decide)
        have hn : 0 <= (if dr (nx (nx (nx s1))) 2 = 0 then dr (nx s1) 4 else 29 + dr (nx (nx s1)) 4) /\ (if dr (nx (nx (nx s1))) 2 = 0 then dr (nx s1) 4 else 29 + dr (nx (nx s1)) 4) <= 33 := by split <;> omega
        generalize (if dr (nx (nx (nx s1))) 2 = 0 then dr (nx s1) 4 else 29 + dr (nx (nx s1)) 4) = n at hn
        obtain ⟨a, b, c⟩ := zdi dgL n (nx (nx (nx (nx s1)))) (za3 _) zen.1 zen.2.1 hn.1
        have hsg : asc ([[], [], [45]].getD (dr s1 3).toNat []) /\ ([[], [], [45]].getD (dr s1 3).toNat ([] : List Nat)).length <= 1 := by
          have : dr s1 3 = 0 \/ dr s1 3 = 1 \/ dr s1 3 = 2 := by omega
          rcases this with e | e | e <;> (rw [e]; decide)
        exact ⟨a, zeo hsg.1 b, by rw [List.length_append]; omega⟩
      · split
        · obtain ⟨a, b, c⟩ := ztx (nx s)
          exact ⟨a, b, by omega⟩
        · have d := za9 (nx s) (k := 5) (by decide)
          obtain ⟨a, b, c⟩ := zdi anL (dr (nx s) 5) (nx (nx s)) (za3 _) zcp.1 zcp.2.1 d.1
          exact ⟨a, b, by omega⟩
theorem zd6 (l : Addr) (s k : Int) (r : List Sl) (h : okS s) (hk : 0 < k) : zaq 0 m_0 (zaj (mX (fun _ => some (.int k))) zam) (.pin l [.int s] :: r) = some (.int (dr s k), .pin l [.int (nx s)] :: r) := zdx (i := 0) (ρ1 := .pin l [.int s] :: r) rfl (zce (zbc rfl) rfl) rfl (zep l s k h hk)
theorem zf2 (l : Addr) (s s' n : Int) (sg : List Nat) (r : List Sl) {f : List Sl -> Option D} {g : Xe} (hf : f (.pin l [.int s] :: r) = some (.str (tx sg))) (hg : g (.pin l [.int s] :: r) = some (.int n, .pin l [.int s'] :: r)) (h : okS s') (hs : asc sg) (h0 : 0 < sg.length) (h1 : sg.length <= 1000) (hn : 0 <= n /\ n <= 500) :
    zaq 0 m_1 (zaj (mX f) (zaj g zam)) (.pin l [.int s] :: r) = some (.str (tx (smP sg n s').2), .pin l [.int (smP sg n s').1] :: r) := zdx (i := 0) (ρ1 := .pin l [.int s'] :: r) rfl (zce (zbc hf) (zce hg rfl)) rfl (zmw l s' sg n h hs h0 h1 hn)
theorem zrw (l : Addr) (s : Int) (h : okS s) : zjl l [] [] [.int s] = some ([.int (zcz s).1], .str (tx (zcz s).2)) := by
  have d5 := za9 s (k := 5) (by decide)
  have hs1 := za3 s
  have w : wp b_11 [.pin l [.int s], .no, .no, .no] (fun o => ∃ r, o = .rtS (.str (tx (zcz s).2)) (.pin l [.int (zcz s).1] :: r)) := by
    unfold b_11
    apply zay
    refine zc9 (zd6 l s 5 _ h (by decide)) ?_
    unfold zcz
    generalize dr s 5 = g at d5
    generalize nx s = s1 at hs1
    have hs2 := za3 s1
    show wp _ (.pin l [.int s1] :: [.im (.int g), .no, .no]) _
    apply zay
    refine zcb (b := (g == 0)) (zb0 (zan rfl rfl (zck _ _))) (fun hb => ?_) (fun hb => ?_)
    · rw [if_pos (eq_of_beq hb)]
      have d := za9 s1 (k := 11) (by decide)
      exact zfl (zf2 l s1 (nx s1) (dr s1 11) smL _ (zap rfl zfd) (zd6 l s1 11 _ hs1 (by decide)) hs2 zbs.1 zbs.2.1 (by rw [zbs.2.2]; decide) ⟨d.1, by omega⟩) ⟨_, rfl⟩
    rw [if_neg (by simpa using hb)]
    refine zbz ?_
    show wp _ (.pin l [.int s1] :: [.im (.int g), .no, .no]) _
    apply zay
    refine zcb (b := (g == 1)) (zb0 (zan rfl rfl (zck _ _))) (fun hb => ?_) (fun hb => ?_)
    · rw [if_pos (eq_of_beq hb)]
      dsimp only
      obtain ⟨a, b, c⟩ := zdi grL 1 s1 hs1 zey.1 zey.2.1 (by decide)
      have e1 := zf2 l s1 s1 1 grL [.im (.int g), .no, .no] (f := zah m_7 (fun _ => some [])) (g := mX (fun _ => some (.int 1))) (zap rfl zjf) (zbc rfl) hs1 zey.1 zey.2.1 zey.2.2 ⟨by decide, by decide⟩
      generalize smP grL 1 s1 = p at a b c e1
      have d := za9 p.1 (k := 10) (by decide)
      obtain ⟨a2, b2, c2⟩ := zdi smL (dr p.1 10) (nx p.1) (za3 _) zbs.1 zbs.2.1 d.1
      exact zfl (zcm e1 (zf2 l p.1 (nx p.1) (dr p.1 10) smL _ (zap rfl zfd) (zd6 l p.1 10 _ a (by decide)) (za3 _) zbs.1 zbs.2.1 (by rw [zbs.2.2]; decide) ⟨d.1, by omega⟩) (zeh _ _ (by omega))) ⟨_, rfl⟩
    rw [if_neg (by simpa using hb)]
    refine zbz ?_
    show wp _ (.pin l [.int s1] :: [.im (.int g), .no, .no]) _
    apply zay
    refine zcb (b := (g == 2)) (zb0 (zan rfl rfl (zck _ _))) (fun hb => ?_) (fun hb => ?_)
    · rw [if_pos (eq_of_beq hb)]
      unfold zj4
      dsimp only
      have d1 := za9 s1 (k := 3) (by decide)
      have d2 := za9 (nx s1) (k := 4) (by decide)
      have d3 := za9 (nx (nx s1)) (k := 4) (by decide)
      have d4 := za9 (nx (nx (nx s1))) (k := 2) (by decide)
      apply zay
      have es : zd5 (.lst [.str "", .str "", .str "-"]) (.int (dr s1 3)) = some (.str (tx ([[], [], [45]].getD (dr s1 3).toNat []))) := by
        have : dr s1 3 = 0 \/ dr s1 3 = 1 \/ dr s1 3 = 2 := by omega
        rcases this with e | e | e <;> (rw [e]; rfl)
      refine zc9 (zcm (zbc (zfq (zat rfl (zat rfl (zat rfl rfl))))) (zd6 l s1 3 _ hs1 (by decide)) es) ?_
      have hsg : ([[], [], [45]].getD (dr s1 3).toNat ([] : List Nat)).length <= 1 := by
        have : dr s1 3 = 0 \/ dr s1 3 = 1 \/ dr s1 3 = 2 := by omega
        rcases this with e | e | e <;> (rw [e]; decide)
      generalize [[], [], [45]].getD (dr s1 3).toNat ([] : List Nat) = sign at hsg
      show wp _ (.pin l [.int (nx s1)] :: [.im (.int g), .im (.str (tx sign)), .no]) _
      apply zay
      have en : zd5 (.lst [.int (dr (nx s1) 4), .int (29 + dr (nx (nx s1)) 4)]) (.int (dr (nx (nx (nx s1))) 2)) = some (.int (if dr (nx (nx (nx s1))) 2 = 0 then dr (nx s1) 4 else 29 + dr (nx (nx s1)) 4)) := by
        have : dr (nx (nx (nx s1))) 2 = 0 \/ dr (nx (nx (nx s1))) 2 = 1 := by omega
        rcases this with e | e <;> (rw [e]; rfl)
      have ell : zgd (zaj (zaq 0 m_0 (zaj (mX (fun _ => some (.int 4))) zam)) (zaj (mX2 zbg (mX (fun _ => some (.int 29))) (zaq 0 m_0 (zaj (mX (fun _ => some (.int 4))) zam))) zam)) (.pin l [.int (nx s1)] :: [.im (.int g), .im (.str (tx sign)), .no]) = some (.lst [.int (dr (nx s1) 4), .int (29 + dr (nx (nx s1)) 4)], .pin l [.int (nx (nx (nx s1)))] :: [.im (.int g), .im (.str (tx sign)), .no]) := by
        have := zce (zd6 l (nx s1) 4 [.im (.int g), .im (.str (tx sign)), .no] (za3 _) (by decide)) (zce (g := zam) (ds := []) (zcm (zbc (f := fun _ => some (.int 29)) rfl) (zd6 l (nx (nx s1)) 4 [.im (.int g), .im (.str (tx sign)), .no] (za3 _) (by decide)) zgk) rfl)
        unfold zgd
        rw [this]
        rfl
      refine zc9 (zcm ell (zd6 l (nx (nx (nx s1))) 2 _ (za3 _) (by decide)) en) ?_
      have hn : 0 <= (if dr (nx (nx (nx s1))) 2 = 0 then dr (nx s1) 4 else 29 + dr (nx (nx s1)) 4) /\ (if dr (nx (nx (nx s1))) 2 = 0 then dr (nx s1) 4 else 29 + dr (nx (nx s1)) 4) <= 33 := by split <;> omega
      generalize (if dr (nx (nx (nx s1))) 2 = 0 then dr (nx s1) 4 else 29 + dr (nx (nx s1)) 4) = n at hn
      show wp _ (.pin l [.int (nx (nx (nx (nx s1))))] :: [.im (.int g), .im (.str (tx sign)), .im (.int n)]) _
      obtain ⟨a, b, c⟩ := zdi dgL n (nx (nx (nx (nx s1)))) (za3 _) zen.1 zen.2.1 hn.1
      exact zfl (zcm (zbc rfl) (zf2 l (nx (nx (nx (nx s1)))) (nx (nx (nx (nx s1)))) n dgL _ (by rw [dgT]) (zbc rfl) (za3 _) zen.1 zen.2.1 zen.2.2 ⟨hn.1, by omega⟩) (zeh _ _ (by omega))) ⟨_, rfl⟩
    rw [if_neg (by simpa using hb)]
    refine zbz ?_
    show wp _ (.pin l [.int s1] :: [.im (.int g), .no, .no]) _
    apply zay
    refine zcb (b := (g == 3)) (zb0 (zan rfl rfl (zck _ _))) (fun hb => ?_) (fun hb => ?_)
    · rw [if_pos (eq_of_beq hb)]
      exact zfl (zdx (i := 0) (ρ1 := .pin l [.int s1] :: [.im (.int g), .no, .no]) rfl rfl rfl (zq5 l s1 hs1)) ⟨_, rfl⟩
    rw [if_neg (by simpa using hb)]
    refine zbz ?_
    show wp _ (.pin l [.int s1] :: [.im (.int g), .no, .no]) _
    have d := za9 s1 (k := 5) (by decide)
    exact zfl (zf2 l s1 (nx s1) (dr s1 5) anL _ (zap rfl zn0) (zd6 l s1 5 _ hs1 (by decide)) hs2 zcp.1 zcp.2.1 zcp.2.2 ⟨d.1, by omega⟩) ⟨_, rfl⟩
  obtain ⟨o, e, r, rfl⟩ := w
  exact zfz (ρ := .pin l [.int (zcz s).1] :: r) e rfl
noncomputable def spP (w : List Nat) (s : Int) : Int × List Nat :=
  let at' := dr s (w.length + 1 : Int)
  let p := smP anL 1 (nx s)
  let zav := w.drop (at' + dr p.1 2).toNat
  (nx (nx p.1), if dr (nx p.1) 3 = 0 then w.take at'.toNat ++ zav else w.take at'.toNat ++ p.2 ++ zav)
theorem zid (l : Addr) (s k : Int) (a : Sl) (r : List Sl) {f : List Sl -> Option D} (hf : f (a :: .pin l [.int s] :: r) = some (.int k)) (h : okS s) (hk : 0 < k) : zaq 1 m_0 (zaj (mX f) zam) (a :: .pin l [.int s] :: r) = some (.int (dr s k), a :: .pin l [.int (nx s)] :: r) := zdx (i := 1) (ρ1 := a :: .pin l [.int s] :: r) rfl (zce (zbc hf) rfl) rfl (zep l s k h hk)
theorem zs5 (w : List Nat) (s : Int) (ha : asc w) : okS (spP w s).1 /\ asc (spP w s).2 /\ (spP w s).2.length <= 2 * w.length + 1 := by
  obtain ⟨a, b, c⟩ := zdi anL 1 (nx s) (za3 _) zcp.1 zcp.2.1 (by decide)
  unfold spP
  dsimp only
  refine ⟨za3 _, ?_, ?_⟩
  · split
    · exact zeo (zcy ha (List.take_subset _ _)) (zcy ha (List.drop_subset _ _))
    · exact zeo (zeo (zcy ha (List.take_subset _ _)) b) (zcy ha (List.drop_subset _ _))
  · split
    · rw [List.length_append, List.length_take, List.length_drop]; omega
    · rw [List.length_append, List.length_append, List.length_take, List.length_drop]; omega
theorem zqm (l : Addr) (w : List Nat) (s : Int) (h : okS s) (hw : w.length <= 100) : zit l [.str (tx w)] [] [.int s] = some ([.int (spP w s).1], .str (tx (spP w s).2)) := by
  have da := za9 s (k := (w.length + 1 : Int)) (by omega)
  have hs1 := za3 s
  have ww : wp b_12 [.im (.str (tx w)), .pin l [.int s], .no, .no, .no] (fun o => ∃ r, o = .rtS (.str (tx (spP w s).2)) (.im (.str (tx w)) :: .pin l [.int (spP w s).1] :: r)) := by
    unfold b_12
    apply zay
    refine zc9 (zid l s (w.length + 1 : Int) _ _ (zan (zap rfl (zew w (by omega))) rfl zgk) h (by omega)) ?_
    unfold spP
    dsimp only
    generalize dr s (w.length + 1 : Int) = at' at da
    generalize nx s = s1 at hs1
    show wp _ (.im (.str (tx w)) :: .pin l [.int s1] :: [.im (.int at'), .no, .no]) _
    apply zay
    obtain ⟨a, b, c⟩ := zdi anL 1 s1 hs1 zcp.1 zcp.2.1 (by decide)
    have e1 : zaq 1 m_1 (zaj (mX (zah m_9 (fun _ => some []))) (zaj (mX (fun _ => some (.int 1))) zam)) (.im (.str (tx w)) :: .pin l [.int s1] :: [.im (.int at'), .no, .no]) = some (.str (tx (smP anL 1 s1).2), .im (.str (tx w)) :: .pin l [.int (smP anL 1 s1).1] :: [.im (.int at'), .no, .no]) := zdx (i := 1) (ρ1 := .im (.str (tx w)) :: .pin l [.int s1] :: [.im (.int at'), .no, .no]) rfl (zce (zbc (zap rfl zn0)) (zce (zbc rfl) rfl)) rfl (zmw l s1 anL 1 hs1 zcp.1 zcp.2.1 zcp.2.2 ⟨by decide, by decide⟩)
    refine zc9 e1 ?_
    generalize smP anL 1 s1 = p at a b c
    show wp _ (.im (.str (tx w)) :: .pin l [.int p.1] :: [.im (.int at'), .im (.str (tx p.2)), .no]) _
    apply zay
    have d2 := za9 p.1 (k := 2) (by decide)
    have e2 : mX2 zbg (mX (zaa 2)) (zaq 1 m_0 (zaj (mX (fun _ => some (.int 2))) zam)) (.im (.str (tx w)) :: .pin l [.int p.1] :: [.im (.int at'), .im (.str (tx p.2)), .no]) = some (.int (at' + dr p.1 2), .im (.str (tx w)) :: .pin l [.int (nx p.1)] :: [.im (.int at'), .im (.str (tx p.2)), .no]) := zcm (zbc rfl) (zid l p.1 2 _ _ rfl a (by decide)) zgk
    have e3 : zgl (mX (zaa 0)) (mX2 zbg (mX (zaa 2)) (zaq 1 m_0 (zaj (mX (fun _ => some (.int 2))) zam))) (.im (.str (tx w)) :: .pin l [.int p.1] :: [.im (.int at'), .im (.str (tx p.2)), .no]) = some (.str (tx (w.drop (at' + dr p.1 2).toNat)), .im (.str (tx w)) :: .pin l [.int (nx p.1)] :: [.im (.int at'), .im (.str (tx p.2)), .no]) := by
      unfold zgl
      rw [show mX (zaa 0) (.im (.str (tx w)) :: .pin l [.int p.1] :: [.im (.int at'), .im (.str (tx p.2)), .no]) = some (.str (tx w), .im (.str (tx w)) :: .pin l [.int p.1] :: [.im (.int at'), .im (.str (tx p.2)), .no]) from rfl, Option.bind_some]
      dsimp only
      rw [e2, Option.bind_some]
      dsimp only
      rw [zkt w _ _ (by omega), zga w _ (by omega)]
      rfl
    refine zc9 e3 ?_
    generalize hrest : w.drop (at' + dr p.1 2).toNat = zav
    have hrl : zav.length <= w.length := by rw [<- hrest, List.length_drop]; omega
    show wp _ (.im (.str (tx w)) :: .pin l [.int (nx p.1)] :: [.im (.int at'), .im (.str (tx p.2)), .im (.str (tx zav))]) _
    have e4 : mBX (mX2 dEq (zaq 1 m_0 (zaj (mX (fun _ => some (.int 3))) zam)) (mX (fun _ => some (.int 0)))) (.im (.str (tx w)) :: .pin l [.int (nx p.1)] :: [.im (.int at'), .im (.str (tx p.2)), .im (.str (tx zav))]) = some ((dr (nx p.1) 3 == 0), .im (.str (tx w)) :: .pin l [.int (nx (nx p.1))] :: [.im (.int at'), .im (.str (tx p.2)), .im (.str (tx zav))]) := by
      unfold mBX
      rw [zcm (zid l (nx p.1) 3 _ _ rfl (za3 _) (by decide)) (zbc rfl) (zck _ _)]
      rfl
    have et : ∀ r, zbt (zaa 0) (fun _ => some none) (mPt (zaa 2)) (.im (.str (tx w)) :: .pin l r :: [.im (.int at'), .im (.str (tx p.2)), .im (.str (tx zav))]) = some (.str (tx (w.take at'.toNat))) := fun r => zec (w := w) rfl rfl rfl (by omega) (zka w at' ⟨da.1, by omega⟩)
    have htl : (w.take at'.toNat).length <= w.length := by rw [List.length_take]; omega
    apply zay
    refine zmr e4 (fun hb => ?_) (fun hb => ?_)
    · rw [if_pos (eq_of_beq hb)]
      exact zei (zan (et _) rfl (zeh _ _ (by omega))) ⟨_, rfl⟩
    · rw [if_neg (by simpa using hb)]
      refine zbz ?_
      show wp _ (.im (.str (tx w)) :: .pin l [.int (nx (nx p.1))] :: [.im (.int at'), .im (.str (tx p.2)), .im (.str (tx zav))]) _
      exact zei (zan (zan (et _) rfl (zeh _ _ (by omega))) rfl (zeh _ _ (by rw [List.length_append]; omega))) ⟨_, rfl⟩
  obtain ⟨o, e, r, rfl⟩ := ww
  exact zfz (ρ := .im (.str (tx w)) :: .pin l [.int (spP w s).1] :: r) e rfl
theorem zvf (ns : List Int) (h : ns.length <= 63) : m_3 [.kl (ns.map D.int)] = some (.bl true) := by
  apply zdq
  unfold b_3
  show wp _ [.im (.kl (ns.map D.int)), .no, .no, .no, .no, .no] _
  apply zay
  obtain ⟨cs, hcs⟩ : ∃ cs : List Int, zet (zcf (mSl (zaa 0) (fun _ => some none) (mPt (fun _ => some (.int 63))))) [.im (.kl (ns.map D.int)), .no, .no, .no, .no, .no] = some (cs.map D.int) := ⟨_, zjo (zfq (zmd rfl rfl rfl)) rfl⟩
  refine zj6 cs D.int (fun _ ρ => ∃ a1 a2 a3 a4 a5, ρ = [.im (.kl (ns.map D.int)), a1, a2, a3, a4, a5]) hcs ⟨_, _, _, _, _, rfl⟩ ?_ ?_
  · rintro pre c post ρ he ⟨a1, a2, a3, a4, a5, rfl⟩
    refine ⟨_, rfl, ?_⟩
    show wp _ [.im (.kl (ns.map D.int)), .im (.int c), a2, a3, a4, a5] _
    have hs : okS (c % (2 ^ 61 - 1)) := by
      have h1 := Int.emod_nonneg c (show (2 ^ 61 - 1 : Int) ≠ 0 by decide)
      have h2 := Int.emod_lt_of_pos c (show (0 : Int) < 2 ^ 61 - 1 by decide)
      unfold okS
      omega
    generalize hs0 : c % (2 ^ 61 - 1) = s0 at hs
    apply zay
    refine zma (d := [.int s0]) (by rw [<- hs0]; exact zat (zan rfl (zan (zan rfl rfl (zig (by decide))) rfl zi1) (zht (by decide))) rfl) ?_
    show wp _ [.im (.kl (ns.map D.int)), .im (.int c), .own [.int s0], a3, a4, a5] _
    apply zay
    refine zc9 (zll (i := 2) (ρ1 := [.im (.kl (ns.map D.int)), .im (.int c), .own [.int s0], a3, a4, a5]) rfl rfl rfl fun l => zrw l s0 hs) ?_
    obtain ⟨k1, k2, k3⟩ := zux s0
    generalize zcz s0 = p at k1 k2 k3
    show wp _ [.im (.kl (ns.map D.int)), .im (.int c), .own [.int p.1], .im (.str (tx p.2)), a4, a5] _
    refine zrm (fun ρ => ∃ s w, ρ = [.im (.kl (ns.map D.int)), .im (.int c), .own [.int s], .im (.str (tx w)), a4, a5] /\ asc w /\ w.length <= 100) ?_ ?_
    · have eb : mBX (mX2 dEq (zd0 2 m_0 (zaj (mX (fun _ => some (.int 4))) zam)) (mX (fun _ => some (.int 0)))) [.im (.kl (ns.map D.int)), .im (.int c), .own [.int p.1], .im (.str (tx p.2)), a4, a5] = some ((dr p.1 4 == 0), [.im (.kl (ns.map D.int)), .im (.int c), .own [.int (nx p.1)], .im (.str (tx p.2)), a4, a5]) := by
        have en : zd0 2 m_0 (zaj (mX (fun _ => some (.int 4))) zam) [.im (.kl (ns.map D.int)), .im (.int c), .own [.int p.1], .im (.str (tx p.2)), a4, a5] = some (.int (dr p.1 4), [.im (.kl (ns.map D.int)), .im (.int c), .own [.int (nx p.1)], .im (.str (tx p.2)), a4, a5]) := zll (i := 2) (ρ1 := [.im (.kl (ns.map D.int)), .im (.int c), .own [.int p.1], .im (.str (tx p.2)), a4, a5]) rfl (zce (zbc rfl) rfl) rfl fun l => zep l p.1 4 k1 (by decide)
        unfold mBX
        rw [zcm en (zbc rfl) (zck _ _)]
        rfl
      refine zmr eb (fun _ => ?_) (fun _ => zbz ⟨_, rfl, _, _, rfl, k2, by omega⟩)
      obtain ⟨j1, j2, j3⟩ := zs5 p.2 (nx p.1) k2
      refine zc9 (zt8 (i := 2) (ds0 := [.str (tx p.2)]) (ds1 := []) rfl (zut rfl (zuf rfl)) fun l => zqm l p.2 (nx p.1) (za3 _) (by omega)) ?_
      exact ⟨_, rfl, _, _, rfl, j2, by omega⟩
    · rintro ρ ⟨s, w, rfl, ha, hw⟩
      have hl : zbf [.str (tx w)] = some (.int (w.length : Int)) := zew w (by omega)
      apply zay
      have sh := zli (m := dLe) (m' := dLe) (f := fun _ => some (.int 1)) (g := zah zbf (zad (zaa 3) (fun _ => some []))) (h := fun _ => some (.int 8)) (ρ := [.im (.kl (ns.map D.int)), .im (.int c), .own [.int s], .im (.str (tx w)), a4, a5]) rfl (zap rfl hl) zgc rfl zgc
      refine zfw sh ?_
      have e8 : (decide ((1 : Int) <= (w.length : Int)) && decide ((w.length : Int) <= 8)) = (decide (1 <= w.length) && decide (w.length <= 8)) := by
        congr 1 <;> exact decide_eq_decide.mpr (by omega)
      rw [e8]
      show wp _ [.im (.kl (ns.map D.int)), .im (.int c), .own [.int s], .im (.str (tx w)), .im (.bl (decide (1 <= w.length) && decide (w.length <= 8))), a5] _
      apply zay
      have eo : ∀ a5, zah m_6 (zad (zaa 3) (zad (zah m_2 (fun _ => some [])) (fun _ => some []))) [.im (.kl (ns.map D.int)), .im (.int c), .own [.int s], .im (.str (tx w)), .im (.bl (decide (1 <= w.length) && decide (w.length <= 8))), a5] = some (.bl (za4 smL w)) := fun _ => zap (zat rfl (zat (zap rfl zfd) rfl)) (zj3 w smL (by omega) ha)
      refine zcb (b := false) (zfx (b := true) (zel (d := .bl true) (zap (zat (zap (zat rfl rfl) (znb w (by omega) ha)) (zat (zdc rfl (zdc (eo _) (zan rfl (zap rfl zje) (zrd (tx w))))) rfl)) ((zh2 _ _).trans ?_)) rfl)) (fun e => by cases e) fun _ => zbz ?_
      · congr 2
        unfold made
        rw [Bool.and_assoc]
        exact beq_self_eq_true _
      show wp _ [.im (.kl (ns.map D.int)), .im (.int c), .own [.int s], .im (.str (tx w)), .im (.bl (decide (1 <= w.length) && decide (w.length <= 8))), a5] _
      apply zay
      have ei : m2 zdj (zbt (zaa 3) (fun _ => some none) (mPt (fun _ => some (.int 1)))) (zah m_7 (fun _ => some [])) [.im (.kl (ns.map D.int)), .im (.int c), .own [.int s], .im (.str (tx w)), .im (.bl (decide (1 <= w.length) && decide (w.length <= 8))), a5] = some (.bl (inS (tx (w.take 1)) (tx grL))) := zan (zec (w := w) rfl rfl rfl (by omega) (zlp w)) (zap rfl zjf) rfl
      have e1 : zah m_6 (zad (zbt (zaa 3) (mPt (fun _ => some (.int 1))) (fun _ => some none)) (zad (zah m_2 (fun _ => some [])) (fun _ => some []))) [.im (.kl (ns.map D.int)), .im (.int c), .own [.int s], .im (.str (tx w)), .im (.bl (decide (1 <= w.length) && decide (w.length <= 8))), a5] = some (.bl (za4 smL (w.drop 1))) := zap (zat (zec (w := w) rfl rfl rfl (by omega) (zga w 1 (by decide))) (zat (zap rfl zfd) rfl)) (zj3 (w.drop 1) smL (by rw [List.length_drop]; omega) (zcy ha (List.drop_subset _ _)))
      refine zfw (zdc rfl (zdc ei e1)) ?_
      show wp _ [.im (.kl (ns.map D.int)), .im (.int c), .own [.int s], .im (.str (tx w)), .im (.bl (decide (1 <= w.length) && decide (w.length <= 8))), .im (.bl ((decide (1 <= w.length) && decide (w.length <= 8)) && (inS (tx (w.take 1)) (tx grL) && za4 smL (w.drop 1))))] _
      apply zay
      have ev : (made (w.take 1) grL 1 && (decide (w.length = 1) || made (w.drop 1) smL 7)) = ((decide (1 <= w.length) && decide (w.length <= 8)) && (inS (tx (w.take 1)) (tx grL) && za4 smL (w.drop 1))) := by
        cases w with
        | nil => rfl
        | cons x r =>
          have t1 : (x :: r).take 1 = [x] := rfl
          have t2 : (x :: r).drop 1 = r := rfl
          have t3 : inS (tx [x]) (tx grL) = decide (x ∈ grL) := zjt x grL
          rw [t1, t2, t3]
          unfold made
          rw [List.length_singleton, List.length_cons]
          cases r with
          | nil => simp [za4]
          | cons y q =>
            have n1 : decide ((y :: q).length + 1 = 1) = false := decide_eq_false (by simp)
            have n2 : decide ((y :: q).length + 1 <= 8) = decide ((y :: q).length <= 7) := decide_eq_decide.mpr (by omega)
            have n3 : decide (1 <= (y :: q).length) = true := decide_eq_true (by simp)
            have n4 : decide (1 <= (y :: q).length + 1) = true := decide_eq_true (by omega)
            rw [n1, n2, n3, n4]
            show ((decide (1 <= 1) && decide (1 <= 1)) && za4 grL [x] && _) = _
            have n5 : za4 grL [x] = decide (x ∈ grL) := by unfold za4; simp
            rw [n5]
            cases decide (x ∈ grL) <;> cases decide ((y :: q).length <= 7) <;> cases za4 smL (y :: q) <;> rfl
      refine zcb (b := false) (zfx (b := true) (zel (d := .bl true) (zap (zat (zap (zat rfl rfl) (ztd w (by omega) ha)) (zat rfl rfl)) ((zh2 _ _).trans ?_)) rfl)) (fun e => by cases e) fun _ => zbz ?_
      · rw [ev, beq_self_eq_true]
      show wp _ [.im (.kl (ns.map D.int)), .im (.int c), .own [.int s], .im (.str (tx w)), .im (.bl (decide (1 <= w.length) && decide (w.length <= 8))), .im (.bl ((decide (1 <= w.length) && decide (w.length <= 8)) && (inS (tx (w.take 1)) (tx grL) && za4 smL (w.drop 1))))] _
      refine zcb (b := false) (zfx (b := true) (zel (d := .bl true) (zap (zat (zap (zat rfl rfl) (zqf w (by omega) ha)) (zat (zap (zat rfl rfl) (ztj w (by omega) ha)) rfl)) ((zh2 _ _).trans ?_)) rfl)) (fun e => by cases e) fun _ => zbz ?_
      · rw [zs0, beq_self_eq_true]
      · exact ⟨_, _, _, _, _, rfl⟩
  · rintro ρ ⟨a1, a2, a3, a4, a5, rfl⟩
    apply zay
    refine zj6 (kpS ++ [("" : Str)]) D.str (fun _ ρ => ∃ a1 a2 a3 a4 a5, ρ = [.im (.kl (ns.map D.int)), a1, a2, a3, a4, a5]) ?_ ⟨_, _, _, _, _, rfl⟩ ?_ ?_
    · refine zjo (d := .lst ((kpS ++ [("" : Str)]).map D.str)) (zfq ?_) rfl
      unfold zff
      rw [zap (f := fun _ => some []) rfl zje]
      rfl
    · rintro pre z post ρ he ⟨a1, a2, a3, a4, a5, rfl⟩
      refine ⟨_, rfl, ?_⟩
      have hz : z ∈ kpS ++ [("" : Str)] := by rw [he]; simp
      have hall : ∀ y ∈ kpS ++ [("" : Str)], asc y.cps.toList /\ y.cps.toList.length <= 1000 /\ (made y.cps.toList smL 8 && !kept y) = false := by decide +kernel
      obtain ⟨q1, q2, q3⟩ := hall z hz
      have en := znb z.cps.toList q2 q1
      rw [zcn, q3] at en
      refine zcb (b := false) (zfx (b := true) (zel (d := .bl true) (zap (zat (zap (zat rfl rfl) en) (zat rfl rfl)) (zh2 false false)) rfl)) (fun e => by cases e) fun _ => zbz ?_
      exact ⟨_, _, _, _, _, rfl⟩
    · rintro ρ ⟨a1, a2, a3, a4, a5, rfl⟩
      exact zcq rfl (zcx rfl)
section
variable {P : Program} {w : World} {K : PySem.W.Frag} {mg : Str -> Option Value} {base : Heap}
noncomputable def sp_law (K : PySem.W.Frag) : Sp := fun vs H Q _ => ∃ (a : Addr) (ns : List Int), vs = [.ref a] /\ SqL K H a (ns.map V.int) /\ ns.length <= 63 /\ ∀ H', Q (.bl true) H'
theorem sp_law_of {K : PySem.W.Frag} {H : Hp} {a : Addr} {ns : List Int} {E : XK} (hl : ns.length <= 63) (hS : SqL K H a (ns.map V.int)) : sp_law K [.ref a] H (fun v _ => v = .bl true) E := ⟨a, ns, rfl, hS, hl, fun _ => rfl⟩
theorem law_ok {a : Wa} (W : Wd K mg a) : zar P w K mg base CX0 4 a.f_3 a.fd_3 ["_law_script"] (sp_law K) := (zrt W).imp fun vs H Q E ⟨a, ns, ev, hS, hl, k⟩ =>
  ⟨H, [.kl (ns.map D.int)], .bl true, zae.refl _, ⟨.ref a, [], ev, ⟨a, _, rfl, hS, zab.ints ns⟩, rfl⟩, rfl, zvf ns hl, fun v Hf' H' x r => by rw [show v = V.bl true from r]; exact k H'⟩
end
section
variable {K : PySem.W.Frag} {mg : Str -> Option Value}
theorem zhn {P : List Value -> Prop} (h : P []) : ∀ us : List Value, us.length = 0 -> P us := fun us e => by
  rw [List.eq_nil_of_length_eq_zero e]
  exact h
theorem zfn {n : Nat} {P : List Value -> Prop} (h : ∀ a (us : List Value), us.length = n -> P (a :: us)) : ∀ us : List Value, us.length = n + 1 -> P us := fun us e => by
  cases us with
  | nil => cases e
  | cons a us => exact h a us (Nat.succ.inj e)
theorem zha {P : List Value -> Prop} (h : P []) : ∀ us : List Value, us.length = 0 -> P us := zhn (h)
theorem zem {P : List Value -> Prop} (h : ∀ a0 : Value, P [a0]) : ∀ us : List Value, us.length = 1 -> P us := zfn (P := fun us => P (us)) fun a0 => zhn (h a0)
theorem zgx {P : List Value -> Prop} (h : ∀ a0 a1 : Value, P [a0, a1]) : ∀ us : List Value, us.length = 2 -> P us := zfn (P := fun us => P (us)) fun a0 => zfn (P := fun us => P (a0 :: us)) fun a1 => zhn (h a0 a1)
theorem zm2 {P : List Value -> Prop} (h : ∀ a0 a1 a2 : Value, P [a0, a1, a2]) : ∀ us : List Value, us.length = 3 -> P us := zfn (P := fun us => P (us)) fun a0 => zfn (P := fun us => P (a0 :: us)) fun a1 => zfn (P := fun us => P (a0 :: a1 :: us)) fun a2 => zhn (h a0 a1 a2)
theorem all_mk {l : PySem.W.OpenLaw} {w : World} {h : Heap} {f_4 : Addr} {od_4 an_4 : Option Addr} {sl_4 : Array (Option Value)} {oc_4 kV_4 dc_4 pm_4 cd_4 ct_4 : Value} {f_10 : Addr} {od_10 an_10 : Option Addr} {sl_10 : Array (Option Value)} {oc_10 kV_10 dc_10 pm_10 cd_10 ct_10 : Value} {f_16 : Addr} {od_16 an_16 : Option Addr} {sl_16 : Array (Option Value)} {oc_16 kV_16 dc_16 pm_16 cd_16 ct_16 : Value} {f_14 : Addr} {od_14 an_14 : Option Addr} {sl_14 : Array (Option Value)} {oc_14 kV_14 dc_14 pm_14 cd_14 ct_14 : Value} {f_0 : Addr} {od_0 an_0 : Option Addr} {sl_0 : Array (Option Value)} {oc_0 kV_0 dc_0 pm_0 cd_0 ct_0 : Value} {f_2 : Addr} {od_2 an_2 : Option Addr} {sl_2 : Array (Option Value)} {oc_2 kV_2 dc_2 pm_2 cd_2 ct_2 : Value} {f_7 : Addr} {od_7 an_7 : Option Addr} {sl_7 : Array (Option Value)} {oc_7 kV_7 dc_7 pm_7 cd_7 ct_7 : Value} {f_8 : Addr} {od_8 an_8 : Option Addr} {sl_8 : Array (Option Value)} {oc_8 kV_8 dc_8 pm_8 cd_8 ct_8 : Value} {f_1 : Addr} {od_1 an_1 : Option Addr} {sl_1 : Array (Option Value)} {oc_1 kV_1 dc_1 pm_1 cd_1 ct_1 : Value} {f_13 : Addr} {od_13 an_13 : Option Addr} {sl_13 : Array (Option Value)} {oc_13 kV_13 dc_13 pm_13 cd_13 ct_13 : Value} {f_9 : Addr} {od_9 an_9 : Option Addr} {sl_9 : Array (Option Value)} {oc_9 kV_9 dc_9 pm_9 cd_9 ct_9 : Value} {f_11 : Addr} {od_11 an_11 : Option Addr} {sl_11 : Array (Option Value)} {oc_11 kV_11 dc_11 pm_11 cd_11 ct_11 : Value} {f_12 : Addr} {od_12 an_12 : Option Addr} {sl_12 : Array (Option Value)} {oc_12 kV_12 dc_12 pm_12 cd_12 ct_12 : Value} {f_6 : Addr} {od_6 an_6 : Option Addr} {sl_6 : Array (Option Value)} {oc_6 kV_6 dc_6 pm_6 cd_6 ct_6 : Value} {f_15 : Addr} {od_15 an_15 : Option Addr} {sl_15 : Array (Option Value)} {oc_15 kV_15 dc_15 pm_15 cd_15 ct_15 : Value} {f_5 : Addr} {od_5 an_5 : Option Addr} {sl_5 : Array (Option Value)} {oc_5 kV_5 dc_5 pm_5 cd_5 ct_5 : Value} {f_3 : Addr} {od_3 an_3 : Option Addr} {sl_3 : Array (Option Value)} {oc_3 kV_3 dc_3 pm_3 cd_3 ct_3 : Value} {f_KEPT n_KEPT : Nat} {od_KEPT : Option Addr} {sl_KEPT : Array (Option Value)} {t_KEPT0 t_KEPT1 t_KEPT2 t_KEPT3 t_KEPT4 t_KEPT5 t_KEPT6 t_KEPT7 t_KEPT8 t_KEPT9 t_KEPT10 t_KEPT11 t_KEPT12 t_KEPT13 t_KEPT14 t_KEPT15 : Tok} {t_SMALL : Tok} {t_GREAT : Tok} {t_FIGURES : Tok} {fa : Addr} (X : K.In h) (G : h.Ns mainGlobals mg) (hfa : mg "law" = some (.ref fa))
    (a_4 : PySem.W.nsIn K mainGlobals "is_made_of" = some (some (.ref f_4)))
    (l_4 : K.lookup f_4 = some ⟨oc_4, od_4, .func (PySem.W.fnOf "is_made_of" "is_made_of" (zbd s_4) (za5 s_4) (zal s_4) .none kV_4 dc_4 pm_4 an_4 cd_4 ct_4), sl_4⟩)
    (c_4 : PySem.W.codeIn K cd_4 "is_made_of" = true)
    (k_4 : PySem.W.keepIn K (.ref f_4) = true)
    (a_10 : PySem.W.nsIn K mainGlobals "is_name" = some (some (.ref f_10)))
    (l_10 : K.lookup f_10 = some ⟨oc_10, od_10, .func (PySem.W.fnOf "is_name" "is_name" (zbd zfj) (za5 zfj) (zal zfj) .none kV_10 dc_10 pm_10 an_10 cd_10 ct_10), sl_10⟩)
    (c_10 : PySem.W.codeIn K cd_10 "is_name" = true)
    (k_10 : PySem.W.keepIn K (.ref f_10) = true)
    (a_16 : PySem.W.nsIn K mainGlobals "is_variable" = some (some (.ref f_16)))
    (l_16 : K.lookup f_16 = some ⟨oc_16, od_16, .func (PySem.W.fnOf "is_variable" "is_variable" (zbd zfb) (za5 zfb) (zal zfb) .none kV_16 dc_16 pm_16 an_16 cd_16 ct_16), sl_16⟩)
    (c_16 : PySem.W.codeIn K cd_16 "is_variable" = true)
    (k_16 : PySem.W.keepIn K (.ref f_16) = true)
    (a_14 : PySem.W.nsIn K mainGlobals "is_number" = some (some (.ref f_14)))
    (l_14 : K.lookup f_14 = some ⟨oc_14, od_14, .func (PySem.W.fnOf "is_number" "is_number" (zbd zfc) (za5 zfc) (zal zfc) .none kV_14 dc_14 pm_14 an_14 cd_14 ct_14), sl_14⟩)
    (c_14 : PySem.W.codeIn K cd_14 "is_number" = true)
    (k_14 : PySem.W.keepIn K (.ref f_14) = true)
    (a_0 : PySem.W.nsIn K mainGlobals "_law_next" = some (some (.ref f_0)))
    (l_0 : K.lookup f_0 = some ⟨oc_0, od_0, .func (PySem.W.fnOf "_law_next" "_law_next" (zbd s_0) (za5 s_0) (zal s_0) .none kV_0 dc_0 pm_0 an_0 cd_0 ct_0), sl_0⟩)
    (c_0 : PySem.W.codeIn K cd_0 "_law_next" = true)
    (k_0 : PySem.W.keepIn K (.ref f_0) = true)
    (a_2 : PySem.W.nsIn K mainGlobals "_law_small" = some (some (.ref f_2)))
    (l_2 : K.lookup f_2 = some ⟨oc_2, od_2, .func (PySem.W.fnOf "_law_small" "_law_small" (zbd s_2) (za5 s_2) (zal s_2) .none kV_2 dc_2 pm_2 an_2 cd_2 ct_2), sl_2⟩)
    (c_2 : PySem.W.codeIn K cd_2 "_law_small" = true)
    (k_2 : PySem.W.keepIn K (.ref f_2) = true)
    (a_7 : PySem.W.nsIn K mainGlobals "_law_great" = some (some (.ref f_7)))
    (l_7 : K.lookup f_7 = some ⟨oc_7, od_7, .func (PySem.W.fnOf "_law_great" "_law_great" (zbd s_7) (za5 s_7) (zal s_7) .none kV_7 dc_7 pm_7 an_7 cd_7 ct_7), sl_7⟩)
    (c_7 : PySem.W.codeIn K cd_7 "_law_great" = true)
    (k_7 : PySem.W.keepIn K (.ref f_7) = true)
    (a_8 : PySem.W.nsIn K mainGlobals "_law_kept" = some (some (.ref f_8)))
    (l_8 : K.lookup f_8 = some ⟨oc_8, od_8, .func (PySem.W.fnOf "_law_kept" "_law_kept" (zbd s_8) (za5 s_8) (zal s_8) .none kV_8 dc_8 pm_8 an_8 cd_8 ct_8), sl_8⟩)
    (c_8 : PySem.W.codeIn K cd_8 "_law_kept" = true)
    (k_8 : PySem.W.keepIn K (.ref f_8) = true)
    (a_1 : PySem.W.nsIn K mainGlobals "_law_some" = some (some (.ref f_1)))
    (l_1 : K.lookup f_1 = some ⟨oc_1, od_1, .func (PySem.W.fnOf "_law_some" "_law_some" (zbd s_1) (za5 s_1) (zal s_1) .none kV_1 dc_1 pm_1 an_1 cd_1 ct_1), sl_1⟩)
    (c_1 : PySem.W.codeIn K cd_1 "_law_some" = true)
    (k_1 : PySem.W.keepIn K (.ref f_1) = true)
    (a_13 : PySem.W.nsIn K mainGlobals "_law_near" = some (some (.ref f_13)))
    (l_13 : K.lookup f_13 = some ⟨oc_13, od_13, .func (PySem.W.fnOf "_law_near" "_law_near" (zbd zfu) (za5 zfu) (zal zfu) .none kV_13 dc_13 pm_13 an_13 cd_13 ct_13), sl_13⟩)
    (c_13 : PySem.W.codeIn K cd_13 "_law_near" = true)
    (k_13 : PySem.W.keepIn K (.ref f_13) = true)
    (a_9 : PySem.W.nsIn K mainGlobals "_law_any" = some (some (.ref f_9)))
    (l_9 : K.lookup f_9 = some ⟨oc_9, od_9, .func (PySem.W.fnOf "_law_any" "_law_any" (zbd s_9) (za5 s_9) (zal s_9) .none kV_9 dc_9 pm_9 an_9 cd_9 ct_9), sl_9⟩)
    (c_9 : PySem.W.codeIn K cd_9 "_law_any" = true)
    (k_9 : PySem.W.keepIn K (.ref f_9) = true)
    (a_11 : PySem.W.nsIn K mainGlobals "_law_word" = some (some (.ref f_11)))
    (l_11 : K.lookup f_11 = some ⟨oc_11, od_11, .func (PySem.W.fnOf "_law_word" "_law_word" (zbd ze7) (za5 ze7) (zal ze7) .none kV_11 dc_11 pm_11 an_11 cd_11 ct_11), sl_11⟩)
    (c_11 : PySem.W.codeIn K cd_11 "_law_word" = true)
    (k_11 : PySem.W.keepIn K (.ref f_11) = true)
    (a_12 : PySem.W.nsIn K mainGlobals "_law_spoiled" = some (some (.ref f_12)))
    (l_12 : K.lookup f_12 = some ⟨oc_12, od_12, .func (PySem.W.fnOf "_law_spoiled" "_law_spoiled" (zbd zfv) (za5 zfv) (zal zfv) .none kV_12 dc_12 pm_12 an_12 cd_12 ct_12), sl_12⟩)
    (c_12 : PySem.W.codeIn K cd_12 "_law_spoiled" = true)
    (k_12 : PySem.W.keepIn K (.ref f_12) = true)
    (a_6 : PySem.W.nsIn K mainGlobals "_law_only" = some (some (.ref f_6)))
    (l_6 : K.lookup f_6 = some ⟨oc_6, od_6, .func (PySem.W.fnOf "_law_only" "_law_only" (zbd s_6) (za5 s_6) (zal s_6) .none kV_6 dc_6 pm_6 an_6 cd_6 ct_6), sl_6⟩)
    (c_6 : PySem.W.codeIn K cd_6 "_law_only" = true)
    (k_6 : PySem.W.keepIn K (.ref f_6) = true)
    (a_15 : PySem.W.nsIn K mainGlobals "_law_numeral" = some (some (.ref f_15)))
    (l_15 : K.lookup f_15 = some ⟨oc_15, od_15, .func (PySem.W.fnOf "_law_numeral" "_law_numeral" (zbd ze5) (za5 ze5) (zal ze5) .none kV_15 dc_15 pm_15 an_15 cd_15 ct_15), sl_15⟩)
    (c_15 : PySem.W.codeIn K cd_15 "_law_numeral" = true)
    (k_15 : PySem.W.keepIn K (.ref f_15) = true)
    (a_5 : PySem.W.nsIn K mainGlobals "_law_told" = some (some (.ref f_5)))
    (l_5 : K.lookup f_5 = some ⟨oc_5, od_5, .func (PySem.W.fnOf "_law_told" "_law_told" (zbd s_5) (za5 s_5) (zal s_5) .none kV_5 dc_5 pm_5 an_5 cd_5 ct_5), sl_5⟩)
    (c_5 : PySem.W.codeIn K cd_5 "_law_told" = true)
    (k_5 : PySem.W.keepIn K (.ref f_5) = true)
    (a_3 : PySem.W.nsIn K mainGlobals "law" = some (some (.ref f_3)))
    (l_3 : K.lookup f_3 = some ⟨oc_3, od_3, .func (PySem.W.fnOf "law" "law" (zbd s_3) (za5 s_3) (zal s_3) .none kV_3 dc_3 pm_3 an_3 cd_3 ct_3), sl_3⟩)
    (c_3 : PySem.W.codeIn K cd_3 "law" = true)
    (k_3 : PySem.W.keepIn K (.ref f_3) = true)
    (kt_NoneType_bool : PySem.W.kitOne K (.type "NoneType") (.type "bool") = some false)
    (kt_bool_bool : PySem.W.kitOne K (.type "bool") (.type "bool") = some true)
    (kt_int_bool : PySem.W.kitOne K (.type "int") (.type "bool") = some false)
    (kt_str_bool : PySem.W.kitOne K (.type "str") (.type "bool") = some false)
    (kt_list_bool : PySem.W.kitOne K (.type "list") (.type "bool") = some false)
    (kt_tuple_bool : PySem.W.kitOne K (.type "tuple") (.type "bool") = some false)
    (kt_dict_bool : PySem.W.kitOne K (.type "dict") (.type "bool") = some false)
    (a_KEPT : PySem.W.nsIn K mainGlobals "KEPT" = some (some (.ref f_KEPT)))
    (l_KEPT : K.lookup f_KEPT = some ⟨.type "tuple", od_KEPT, .seq #[.str "kind" t_KEPT0, .str "rule" t_KEPT1, .str "may" t_KEPT2, .str "choose" t_KEPT3, .str "never" t_KEPT4, .str "if" t_KEPT5, .str "and" t_KEPT6, .str "not" t_KEPT7, .str "unlike" t_KEPT8, .str "least" t_KEPT9, .str "most" t_KEPT10, .str "of" t_KEPT11, .str "to" t_KEPT12, .str "over" t_KEPT13, .str "in" t_KEPT14, .str "for" t_KEPT15] n_KEPT, sl_KEPT⟩)
    (a_SMALL : PySem.W.nsIn K mainGlobals "SMALL" = some (some (.str "abcdefghijklmnopqrstuvwxyz" t_SMALL)))
    (a_GREAT : PySem.W.nsIn K mainGlobals "GREAT" = some (some (.str "ABCDEFGHIJKLMNOPQRSTUVWXYZ" t_GREAT)))
    (a_FIGURES : PySem.W.nsIn K mainGlobals "FIGURES" = some (some (.str "0123456789" t_FIGURES)))
    (z_all : PySem.W.nsIn K mainGlobals "all" = some none)
    (z_bool : PySem.W.nsIn K mainGlobals "bool" = some none)
    (z_int : PySem.W.nsIn K mainGlobals "int" = some none)
    (z_isinstance : PySem.W.nsIn K mainGlobals "isinstance" = some none)
    (z_len : PySem.W.nsIn K mainGlobals "len" = some none)
    (z_range : PySem.W.nsIn K mainGlobals "range" = some none)
    (z_str : PySem.W.nsIn K mainGlobals "str" = some none)
    : ∃ fd : FuncData, (∀ (s : Shared) (v : Value), BindsTo s fd ⟨[v], []⟩ [("_law_script", v)]) /\ ∃ a : Wa, ∃ W : Wd K mg a, a.f_3 = fa /\ a.fd_3 = fd := by
  have e := hfa.symm.trans (PySem.W.mg_of X G a_3)
  cases e
  have F_4 := zbk (st := s_4) l_4 c_4 k_4
  have F_10 := zbk (st := zfj) l_10 c_10 k_10
  have F_16 := zbk (st := zfb) l_16 c_16 k_16
  have F_14 := zbk (st := zfc) l_14 c_14 k_14
  have F_0 := zbk (st := s_0) l_0 c_0 k_0
  have F_2 := zbk (st := s_2) l_2 c_2 k_2
  have F_7 := zbk (st := s_7) l_7 c_7 k_7
  have F_8 := zbk (st := s_8) l_8 c_8 k_8
  have F_1 := zbk (st := s_1) l_1 c_1 k_1
  have F_13 := zbk (st := zfu) l_13 c_13 k_13
  have F_9 := zbk (st := s_9) l_9 c_9 k_9
  have F_11 := zbk (st := ze7) l_11 c_11 k_11
  have F_12 := zbk (st := zfv) l_12 c_12 k_12
  have F_6 := zbk (st := s_6) l_6 c_6 k_6
  have F_15 := zbk (st := ze5) l_15 c_15 k_15
  have F_5 := zbk (st := s_5) l_5 c_5 k_5
  have F_3 := zbk (st := s_3) l_3 c_3 k_3
  exact ⟨PySem.W.fnOf "law" "law" (zbd s_3) (za5 s_3) (zal s_3) .none kV_3 dc_3 pm_3 an_3 cd_3 ct_3, fun s v => .of_eq rfl, {
    f_4 := f_4,
    fd_4 := _,
    f_10 := f_10,
    fd_10 := _,
    f_16 := f_16,
    fd_16 := _,
    f_14 := f_14,
    fd_14 := _,
    f_0 := f_0,
    fd_0 := _,
    f_2 := f_2,
    fd_2 := _,
    f_7 := f_7,
    fd_7 := _,
    f_8 := f_8,
    fd_8 := _,
    f_1 := f_1,
    fd_1 := _,
    f_13 := f_13,
    fd_13 := _,
    f_9 := f_9,
    fd_9 := _,
    f_11 := f_11,
    fd_11 := _,
    f_12 := f_12,
    fd_12 := _,
    f_6 := f_6,
    fd_6 := _,
    f_15 := f_15,
    fd_15 := _,
    f_5 := f_5,
    fd_5 := _,
    f_3 := f_3,
    fd_3 := _ }, {
    F_4 := F_4,
    b_4 := F_4.binds fun _ _ _ _ _ _ us hl => by
      revert us hl
      exact zm2 fun _ _ _ => rfl,
    g_4 := PySem.W.mg_of X G a_4,
    F_10 := F_10,
    b_10 := F_10.binds fun _ _ _ _ _ _ us hl => by
      revert us hl
      exact zem fun _ => rfl,
    g_10 := PySem.W.mg_of X G a_10,
    F_16 := F_16,
    b_16 := F_16.binds fun _ _ _ _ _ _ us hl => by
      revert us hl
      exact zem fun _ => rfl,
    g_16 := PySem.W.mg_of X G a_16,
    F_14 := F_14,
    b_14 := F_14.binds fun _ _ _ _ _ _ us hl => by
      revert us hl
      exact zem fun _ => rfl,
    g_14 := PySem.W.mg_of X G a_14,
    F_0 := F_0,
    b_0 := F_0.binds fun _ _ _ _ _ _ us hl => by
      revert us hl
      exact zgx fun _ _ => rfl,
    g_0 := PySem.W.mg_of X G a_0,
    F_2 := F_2,
    b_2 := F_2.binds fun _ _ _ _ _ _ us hl => by
      revert us hl
      exact zha rfl,
    g_2 := PySem.W.mg_of X G a_2,
    F_7 := F_7,
    b_7 := F_7.binds fun _ _ _ _ _ _ us hl => by
      revert us hl
      exact zha rfl,
    g_7 := PySem.W.mg_of X G a_7,
    F_8 := F_8,
    b_8 := F_8.binds fun _ _ _ _ _ _ us hl => by
      revert us hl
      exact zha rfl,
    g_8 := PySem.W.mg_of X G a_8,
    F_1 := F_1,
    b_1 := F_1.binds fun _ _ _ _ _ _ us hl => by
      revert us hl
      exact zm2 fun _ _ _ => rfl,
    g_1 := PySem.W.mg_of X G a_1,
    F_13 := F_13,
    b_13 := F_13.binds fun _ _ _ _ _ _ us hl => by
      revert us hl
      exact zem fun _ => rfl,
    g_13 := PySem.W.mg_of X G a_13,
    F_9 := F_9,
    b_9 := F_9.binds fun _ _ _ _ _ _ us hl => by
      revert us hl
      exact zha rfl,
    g_9 := PySem.W.mg_of X G a_9,
    F_11 := F_11,
    b_11 := F_11.binds fun _ _ _ _ _ _ us hl => by
      revert us hl
      exact zem fun _ => rfl,
    g_11 := PySem.W.mg_of X G a_11,
    F_12 := F_12,
    b_12 := F_12.binds fun _ _ _ _ _ _ us hl => by
      revert us hl
      exact zgx fun _ _ => rfl,
    g_12 := PySem.W.mg_of X G a_12,
    F_6 := F_6,
    b_6 := F_6.binds fun _ _ _ _ _ _ us hl => by
      revert us hl
      exact zgx fun _ _ => rfl,
    g_6 := PySem.W.mg_of X G a_6,
    F_15 := F_15,
    b_15 := F_15.binds fun _ _ _ _ _ _ us hl => by
      revert us hl
      exact zem fun _ => rfl,
    g_15 := PySem.W.mg_of X G a_15,
    F_5 := F_5,
    b_5 := F_5.binds fun _ _ _ _ _ _ us hl => by
      revert us hl
      exact zgx fun _ _ => rfl,
    g_5 := PySem.W.mg_of X G a_5,
    F_3 := F_3,
    b_3 := F_3.binds fun _ _ _ _ _ _ us hl => by
      revert us hl
      exact zem fun _ => rfl,
    g_3 := PySem.W.mg_of X G a_3,
    kt_NoneType_bool := kt_NoneType_bool,
    kt_bool_bool := kt_bool_bool,
    kt_int_bool := kt_int_bool,
    kt_str_bool := kt_str_bool,
    kt_list_bool := kt_list_bool,
    kt_tuple_bool := kt_tuple_bool,
    kt_dict_bool := kt_dict_bool,
    g_KEPT := ⟨_, _, _, _, PySem.W.mg_of X G a_KEPT, l_KEPT, rfl, rfl, (show 16 <= sizeLine by decide), .cons ⟨_, rfl⟩ (.cons ⟨_, rfl⟩ (.cons ⟨_, rfl⟩ (.cons ⟨_, rfl⟩ (.cons ⟨_, rfl⟩ (.cons ⟨_, rfl⟩ (.cons ⟨_, rfl⟩ (.cons ⟨_, rfl⟩ (.cons ⟨_, rfl⟩ (.cons ⟨_, rfl⟩ (.cons ⟨_, rfl⟩ (.cons ⟨_, rfl⟩ (.cons ⟨_, rfl⟩ (.cons ⟨_, rfl⟩ (.cons ⟨_, rfl⟩ (.cons ⟨_, rfl⟩ (.nil))))))))))))))))⟩,
    g_SMALL := ⟨_, PySem.W.mg_of X G a_SMALL⟩,
    g_GREAT := ⟨_, PySem.W.mg_of X G a_GREAT⟩,
    g_FIGURES := ⟨_, PySem.W.mg_of X G a_FIGURES⟩,
    z_all := PySem.W.mg_none_of X G z_all,
    z_bool := PySem.W.mg_none_of X G z_bool,
    z_int := PySem.W.mg_none_of X G z_int,
    z_isinstance := PySem.W.mg_none_of X G z_isinstance,
    z_len := PySem.W.mg_none_of X G z_len,
    z_range := PySem.W.mg_none_of X G z_range,
    z_str := PySem.W.mg_none_of X G z_str }, rfl, rfl⟩
end
end N_k72
theorem PySem.W.Fast.te4881997981067152332 : True := trivial
theorem PySem.W.Fast.te4383090969746953493 : True := trivial
theorem PySem.W.Fast.te8352159730805275175 : True := trivial
open PySem PySem.W PyProof.Rows
set_option maxRecDepth 100000 in
set_option maxHeartbeats 0 in
theorem PySem.Challenge.cw_standstill_k72_names_and_numbers_holds : PySem.Challenge.rw_standstill_k72_names_and_numbers.Holds := by
  w_on; o_law; k_head; (case hw => w_witness2)
  k_fill
  refine L2.walk_ofK (l := PySem.Challenge.rw_standstill_k72_names_and_numbers) (n := 63) (k := 4) (x := "_law_script") (CX := L2.CX0) (sp := N_k72.sp_law) rfl (by decide) rfl ⟨rfl, by decide, by decide⟩ (fun w h Y => PySem.W.kIn_of Y) ?F (fun _ _ a ns hl _ hS => N_k72.sp_law_of hl hS) (fun _ _ _ _ z => z)
  case F =>
    intro w mg fa h KX G hmg
    have TT : ∃ fd : FuncData, (∀ (s : Shared) (v : Value), BindsTo s fd ⟨[v], []⟩ [("_law_script", v)]) /\ ∃ a : N_k72.Wa, ∃ W : N_k72.Wd (L2.KOf KX) mg a, a.f_3 = fa /\ a.fd_3 = fd := by
      dsimp only [L2.KOf]
      refine' N_k72.all_mk (l := PySem.Challenge.rw_standstill_k72_names_and_numbers) (w := w) KX G hmg ..
      all_goals first | k_is | kit_is | skip
    obtain ⟨fd, hb, a, W, e1, e2⟩ := TT
    subst e1 e2
    exact ⟨_, hb, fun base kb nb => N_k72.law_ok W⟩
