import PyProof.Rows.All
import Wide.All
import OpenK.AllK
import Wide.FinOn
import Lean
import PyProof.EqAt
import PyProof.EqKinds
import PyProof.TupleCall
import PyProof.NeKinds
import PySem.Challenge.RW_standstill_k43_whole_papers_bar_the_rest
set_option Elab.async false
set_option genSizeOf false
set_option linter.all false
set_option maxRecDepth 100000
namespace L2
open PySem PySem.Spec PyProof.Rows
noncomputable abbrev Key:=Sum Int Str
noncomputable def zj9 : Key -> Value -> Bool
 | .inl k,v=>Value.isInt k v
 | .inr x,v=>Value.isStrOf x v
noncomputable def z0f (w:World) : Key -> Int
 | .inl k=>hashInt k
 | .inr x=>hashStr w x
theorem zgm : ∀ {k:Key} {v:Value},zj9 k v=true -> (∃ i t,k=Sum.inl i /\ v=Value.int i t) \/ (∃ x t,k=Sum.inr x /\ v=Value.str x t)
 | .inl i,v,h=>by
  obtain ⟨t,e⟩:=Value.isInt_shape (k:=i) (v:=v) h
  exact .inl ⟨i,t,rfl,e⟩
 | .inr x,v,h=>by
  obtain ⟨t,e⟩:=Value.isStrOf_shape (x:=x) (v:=v) h
  exact .inr ⟨x,t,rfl,e⟩
theorem zx3 (i:Int) (t:Tok) : zj9 (.inl i) (.int i t)=true:=by simp [zj9,Value.isInt]
theorem z06 (x:Str) (t:Tok) : zj9 (.inr x) (.str x t)=true:=by simp [zj9,Value.isStrOf]
theorem zw9 (a b:Int) : decide ((Sum.inl a : Key)=Sum.inl b)=(a == b):=by
 by_cases e : a=b
 ·subst e; simp
 ·have h : ¬ (Sum.inl a : Key)=Sum.inl b:=fun q=>e (Sum.inl.inj q)
  rw [decide_eq_false h]
  exact (beq_eq_false_iff_ne.mpr e).symm
theorem zx4 (a b:Str) : decide ((Sum.inr a : Key)=Sum.inr b)=decide (a=b):=by
 by_cases e : a=b
 ·subst e; simp
 ·have h : ¬ (Sum.inr a : Key)=Sum.inr b:=fun q=>e (Sum.inr.inj q)
  rw [decide_eq_false h,decide_eq_false e]
theorem z0m (a:Int) (b:Str) : decide ((Sum.inl a : Key)=Sum.inr b)=false:=decide_eq_false (fun q=>nomatch q)
theorem zyg (a:Str) (b:Int) : decide ((Sum.inr a : Key)=Sum.inl b)=false:=decide_eq_false (fun q=>nomatch q)
noncomputable def zeb (prog:Program) (w:World) : PySem.KeyKind prog w Key where
 is:=zj9
 hash:=z0f w
 inj:=fun v a b ha hb=>by
  rcases zgm ha with ⟨i,t,rfl,rfl⟩ | ⟨x,t,rfl,rfl⟩
  ·rcases zgm hb with ⟨j,u,rfl,e⟩ | ⟨y,u,rfl,e⟩
   ·injection e with e1 _; rw [e1]
   ·exact nomatch e
  ·rcases zgm hb with ⟨j,u,rfl,e⟩ | ⟨y,u,rfl,e⟩
   ·exact nomatch e
   ·injection e with e1 _; rw [e1]
 byValue:=fun k v h=>by
  rcases zgm h with ⟨i,t,rfl,rfl⟩ | ⟨x,t,rfl,rfl⟩ <;> rfl
 pyHash:=fun hv h=>by
  rcases zgm hv with ⟨i,t,rfl,rfl⟩ | ⟨x,t,rfl,rfl⟩
  ·exact wpAny_pyHash_int h
  ·exact wpAny_pyHash_str h
 eqBool:=fun hu hv h=>by
  rcases zgm hu with ⟨i,t,rfl,rfl⟩ | ⟨x,t,rfl,rfl⟩
  ·rcases zgm hv with ⟨j,u,rfl,rfl⟩ | ⟨y,u,rfl,rfl⟩
   ·rw [zw9] at h; exact wpAny_eqBool_int h
   ·rw [z0m] at h; exact SeqAt.EqAt.int_str i t y u _ _ _ _ h
  ·rcases zgm hv with ⟨j,u,rfl,rfl⟩ | ⟨y,u,rfl,rfl⟩
   ·rw [zyg] at h; exact SeqAt.EqAt.str_int x t j u _ _ _ _ h
   ·rw [zx4] at h; exact wpAny_eqBool_str h
 «strs»:=fun k x t v h=>by
  rcases zgm h with ⟨i,u,rfl,e⟩ | ⟨y,u,rfl,e⟩
  ·exact nomatch e
  ·injection e with e1 _
   subst e1
   cases v <;> rfl
theorem z4h (prog:Program) (w:World) (i:Int) (t:Tok) : (zeb prog w).is (.inl i) (.int i t)=true:=zx3 i t
theorem zx5 (prog:Program) (w:World) (x:Str) (t:Tok) : (zeb prog w).is (.inr x) (.str x t)=true:=z06 x t
inductive V where
 | non | bl (b:Bool) | int (i:Int) | str (x:Str) | byt (b:Array UInt8) | flt (b:UInt64) | ref (a:Addr) | ty (n:String)
 deriving DecidableEq
noncomputable def za0 : V -> Value -> Prop
 | .non,u=>u=Value.none
 | .bl b,u=>u=Value.bool b
 | .int i,u=>∃ t,u=Value.int i t
 | .str x,u=>∃ t,u=Value.str x t
 | .byt b,u=>∃ t,u=Value.bytes b t
 | .flt b,u=>∃ t,u=Value.float b t
 | .ref a,u=>u=Value.ref a
 | .ty n,u=>u=Value.type n
noncomputable abbrev za1 : List V -> List Value -> Prop:=Paired za0
theorem za1.length {xs:List V} {us:List Value} (r:za1 xs us) : xs.length=us.length:=Paired.length r
theorem za1.get : ∀ {xs:List V} {us:List Value} {i:Nat} {x:V},za1 xs us -> xs[i]?=some x -> ∃ u,us[i]?=some u /\ za0 x u
 | _,_,_,_,.nil,e=>by simp at e
 | _,_,0,_,.cons r _,e=>by simp at e; subst e; exact ⟨_,rfl,r⟩
 | _,_,i + 1,x,.cons _ t,e=>by
  obtain ⟨u,h1,h2⟩:=za1.get (i:=i) (x:=x) t (by simpa using e)
  exact ⟨u,by simpa using h1,h2⟩
theorem za1.set {x:V} {u:Value} (r:za0 x u) : ∀ {xs:List V} {us:List Value} (i:Nat),za1 xs us -> za1 (xs.set i x) (us.set i u)
 | _,_,_,.nil=>.nil
 | _,_,0,.cons _ t=>.cons r t
 | _,_,i + 1,.cons q t=>.cons q (za1.set r i t)
theorem za1.append : ∀ {xs ys:List V} {us ws:List Value},za1 xs us -> za1 ys ws -> za1 (xs ++ ys) (us ++ ws)
 | _,_,_,_,.nil,s=>s
 | _,_,_,_,.cons r t,s=>.cons r (za1.append t s)
theorem za1.take : ∀ {xs:List V} {us:List Value} (n:Nat),za1 xs us -> za1 (xs.take n) (us.take n)
 | _,_,0,_=>.nil
 | _,_,_ + 1,.nil=>.nil
 | _,_,n + 1,.cons r t=>.cons r (za1.take n t)
theorem za1.drop : ∀ {xs:List V} {us:List Value} (n:Nat),za1 xs us -> za1 (xs.drop n) (us.drop n)
 | _,_,0,r=>r
 | _,_,_ + 1,.nil=>.nil
 | _,_,n + 1,.cons _ t=>za1.drop n t
noncomputable def zdx : Option V -> Option Value -> Prop
 | some v,some u=>za0 v u
 | none,none=>True
 | _,_=>False
noncomputable def KV {κ : Type} : List (κ × V) -> List (κ × Value) -> Prop:=Paired fun (p:κ × V) (q:κ × Value)=>p.1=q.1 /\ za0 p.2 q.2
noncomputable def kV : Key -> V
 | .inl i=>.int i
 | .inr x=>.str x
inductive HO where
 | lst (xs:List V)
 | tup (xs:List V)
 | dK (kvs:List (Key × V)) | dT (kvs:List (List Key × V))
 | set (S:Int -> Bool) (n:Nat)
 | ins (C dx:Addr) (fs:List (Str × V))
 | own (x:Addr)
 | xd (fs:List (Str × V))
 | met (f x:Addr)
 | rng (lo hi:Int)
 | frz (o:Obj) (u:HO)
 | tbl (ps:Array Value)
 | ext (φ : Heap -> Prop)
noncomputable abbrev Hp:=Addr -> Option HO
noncomputable def upd (H:Hp) (a:Addr) (o:HO) : Hp:=fun b=>if b=a then some o else H b
theorem zcd {H:Hp} {a:Addr} {o:HO} : upd H a o a=some o:=by unfold upd; rw [if_pos rfl]
theorem zby {H:Hp} {a b:Addr} {o:HO} (h:b ≠ a) : upd H a o b=H b:=by unfold upd; rw [if_neg h]
theorem z7y {H:Hp} {a b:Addr} {o u:HO} (h:H a=some o) (h':H b=some u) (d:o ≠ u) : a ≠ b:=by
 intro e; subst e; rw [h] at h'; exact d (Option.some.inj h')
theorem zdo {H:Hp} {a b:Addr} {o:HO} (h:H a=some o) (h':H b=none) : a ≠ b:=by
 intro e; subst e; rw [h] at h'; cases h'
section
variable (P:Program) (w:World)
noncomputable def zcv (H:Hp) (h:Heap) (a:Addr) : HO -> Prop
 | .lst xs=>xs.length <= sizeLine /\ ∃ (its:List Value) (n:Nat),za1 xs its /\ h.get? a=some { cls:=.type "list",data:=.seq its.toArray n }
 | .tup xs=>xs.length <= sizeLine /\ ∃ its : List Value,za1 xs its /\ IsTup h a its.toArray
 | .dK kvs=>kvs.length <= sizeLine /\ (a == sysModules)=false /\ ∃ vs,KV kvs vs /\ h.DictOf (zeb P w) a vs
 | .dT kvs=>kvs.length <= sizeLine /\ (a == sysModules)=false /\ ∃ xs : List (List Key × Addr × Value),
   Paired (fun (p:List Key × V) (q:List Key × Addr × Value)=>p.1=q.1 /\ H q.2.1=some (.tup (p.1.map kV)) /\ za0 p.2 q.2.2) kvs xs /\
   ∃ o es ep,h.get? a=some o /\ o.ExactDict /\ o.data=.dict es ep /\ es.toList=xs.map (entryOfKey (tupleKind (zeb P w))) /\ (xs.map (·.1)).Nodup
 | .set S n=>h.SetOf (intKind P w) a S n
 | .ins C dx fs=>H dx=some (.own a) /\ fs.length <= 1000 /\ dx ≠ a /\ h.get? a=some (PySem.W.instObj C dx) /\
   ∃ mA,h.Ns1 dx mA /\ (∀ f,zdx (fs.lookup f) (mA f)) /\ PySem.Within mA (fs.map (·.1))
 | .own _=>∃ o,h.get? a=some o
 | .xd fs=>∃ mA,h.Ns1 a mA /\ ∀ f,zdx (fs.lookup f) (mA f)
 | .rng lo hi=>∃ t u v,h.get? a=some { cls:=.type "range",data:=.fields #[.int lo t,.int hi u,.int 1 v] }
 | .frz o u=>h.get? a=some o /\ zcv H h a u
 | .tbl ps=>h.get? a=some { cls:=.none,data:=.fields ps }
 | .met f x=>h.get? a=some (PySem.W.methodObj (.ref f) (.ref x))
 | .ext φ=>φ h /\ (∃ o,h.get? a=some o) /\ ∀ h1 h2 : Heap,φ h1 -> (∀ o,h1.get? a=some o -> h2.get? a=some o) -> φ h2
noncomputable def HOk (H:Hp) (h:Heap) : Prop:=∀ a o,H a=some o -> zcv P w H h a o
end
section
variable {P:Program} {w:World} {H H':Hp} {h h':Heap} {a:Addr} {o:HO}
theorem zcv.lt (x:zcv P w H h a o) : a < h.objs.size:=by
 cases o with
 | lst xs=>obtain ⟨_,_,_,_,e⟩:=x; exact Heap.lt_size e
 | tup xs=>obtain ⟨_,_,_,p⟩:=x; exact p.lt
 | dK kvs=>obtain ⟨_,_,_,_,o,_,_,e,_⟩:=x; exact Heap.lt_size e
 | dT kvs=>obtain ⟨_,_,_,_,o,_,_,e,_⟩:=x; exact Heap.lt_size e
 | set S n=>obtain ⟨o,_,_,_,e,_⟩:=x; exact Heap.lt_size e
 | ins C dx fs=>obtain ⟨_,_,_,e,_⟩:=x; exact Heap.lt_size e
 | own y=>obtain ⟨_,e⟩:=x; exact Heap.lt_size e
 | xd fs=>obtain ⟨_,⟨_,_,_,e,_⟩,_⟩:=x; exact Heap.lt_size e
 | rng lo hi=>obtain ⟨_,_,_,e⟩:=x; exact Heap.lt_size e
 | frz ob u=>obtain ⟨e,_⟩:=x; exact Heap.lt_size e
 | tbl ps=>exact Heap.lt_size (show h.get? a=some _ from x)
 | met f y=>exact Heap.lt_size (show h.get? a=some _ from x)
 | ext φ=>obtain ⟨_,⟨_,e⟩,_⟩:=x; exact Heap.lt_size e
theorem Paired.mapP {α β : Type} {F G:α -> β -> Prop} : ∀ {l₁:List α} {l₂:List β},Paired F l₁ l₂ -> (∀ a b,F a b -> G a b) -> Paired G l₁ l₂
 | _,_,.nil,_=>.nil
 | _,_,.cons r t,f=>.cons (f _ _ r) (Paired.mapP t f)
theorem zcv.stay (x:zcv P w H h a o) (k:∀ b u,(b=a \/ H b=some (.own a)) -> h.get? b=some u -> h'.get? b=some u)
  (ho:∀ b,H b=some (.own a) -> H' b=some (.own a)) (ht:∀ b xs,H b=some (.tup xs) -> H' b=some (.tup xs)) : zcv P w H' h' a o:=by
 induction o with
 | lst xs=>obtain ⟨z,its,n,r,e⟩:=x; exact ⟨z,its,n,r,k _ _ (.inl rfl) e⟩
 | tup xs=>obtain ⟨z,its,r,ob,e,c⟩:=x; exact ⟨z,its,r,ob,k _ _ (.inl rfl) e,c⟩
 | dK kvs=>obtain ⟨z,y,vs,r,ob,es,ep,e,c⟩:=x; exact ⟨z,y,vs,r,ob,es,ep,k _ _ (.inl rfl) e,c⟩
 | dT kvs =>
  obtain ⟨z,y,xs,r,ob,es,ep,e,c⟩:=x
  exact ⟨z,y,xs,Paired.mapP r fun p q z=>⟨z.1,ht _ _ z.2.1,z.2.2⟩,ob,es,ep,k _ _ (.inl rfl) e,c⟩
 | set S n=>obtain ⟨ob,es,ep,t,e,c⟩:=x; exact ⟨ob,es,ep,t,k _ _ (.inl rfl) e,c⟩
 | ins C dx fs =>
  obtain ⟨d,z,ne,e,mA,⟨od,es,ep,e2,c⟩,r⟩:=x
  exact ⟨ho _ d,z,ne,k _ _ (.inl rfl) e,mA,⟨od,es,ep,k _ _ (.inr d) e2,c⟩,r⟩
 | own y=>obtain ⟨ob,e⟩:=x; exact ⟨ob,k _ _ (.inl rfl) e⟩
 | xd fs=>obtain ⟨mA,⟨od,es,ep,e,c⟩,r⟩:=x; exact ⟨mA,⟨od,es,ep,k _ _ (.inl rfl) e,c⟩,r⟩
 | rng lo hi=>obtain ⟨t,u,v,e⟩:=x; exact ⟨t,u,v,k _ _ (.inl rfl) e⟩
 | frz ob u ih=>obtain ⟨e,q⟩:=x; exact ⟨k _ _ (.inl rfl) e,ih q⟩
 | tbl ps =>
  have e : h.get? a=some { cls:=.none,data:=.fields ps }:=x
  show h'.get? a=some { cls:=.none,data:=.fields ps }
  exact k a _ (.inl rfl) e
 | met f y =>
  have e : h.get? a=some (PySem.W.methodObj (.ref f) (.ref y)):=x
  show h'.get? a=some (PySem.W.methodObj (.ref f) (.ref y))
  exact k a _ (.inl rfl) e
 | ext φ=>obtain ⟨p,⟨o,e⟩,st⟩:=x; exact ⟨st _ _ p fun o q=>k _ _ (.inl rfl) q,⟨o,k _ _ (.inl rfl) e⟩,st⟩
theorem HOk.lt (x:HOk P w H h) (e:H a=some o) : a < h.objs.size:=(x a o e).lt
theorem HOk.fresh (x:HOk P w H h) (e:h.objs.size <= a) : H a=none:=by
 cases q : H a with
 | none=>rfl
 | some u=>exact absurd (Nat.lt_of_lt_of_le (x.lt q) e) (Nat.lt_irrefl _)
theorem HOk.kept (x:HOk P w H h) (k:∀ b u,h.get? b=some u -> h'.get? b=some u) : HOk P w H h':=fun a o e =>
 (x a o e).stay (fun b u _ q=>k b u q) (fun _ q=>q) fun _ _ q=>q
theorem HOk.laid (x:HOk P w H h) (k:∀ b u,h.get? b=some u -> h'.get? b=some u) (hp:h.objs.size <= a) (new:zcv P w (upd H a o) h' a o) : HOk P w (upd H a o) h':=fun b u e=>by
 have hn:=x.fresh hp
 by_cases hb : b=a
 ·subst hb; rw [zcd] at e; cases e; exact new
 ·rw [zby hb] at e
  exact (x b u e).stay (fun c v _ q=>k c v q) (fun c q=>by rw [zby (zdo q hn)]; exact q) fun c xs q=>by rw [zby (zdo q hn)]; exact q
end
noncomputable def Rd (H:Hp) (a:Addr) (u:HO) : Prop:=H a=some u \/ ∃ o,H a=some (.frz o u)
theorem Rd.of {H:Hp} {a:Addr} {u:HO} (h:H a=some u) : Rd H a u:=.inl h
theorem Rd.ok {P:Program} {w:World} {H:Hp} {h:Heap} {a:Addr} {u:HO} (r:Rd H a u) (x:HOk P w H h) : zcv P w H h a u:=by
 rcases r with r | ⟨o,r⟩
 ·exact x a u r
 ·obtain ⟨_,q⟩:=x a _ r
  exact q
noncomputable def Mut : Option HO -> Prop
 | some (.lst _)=>True
 | some (.dK _)=>True
 | some (.dT _)=>True
 | some (.set _ _)=>True
 | some (.ins _ _ _)=>True
 | some (.ext _)=>True
 | _=>False
section
variable {P:Program} {w:World} {H:Hp} {h h':Heap} {x e:Addr} {o':HO}
theorem HOk.write (ok:HOk P w H h) (mu:Mut (H x)) (he:e=x \/ H e=some (.own x)) (k:∀ b u,b ≠ e -> h.get? b=some u -> h'.get? b=some u) (heo:∃ u,h'.get? e=some u)
  (new:zcv P w (upd H x o') h' x o') : HOk P w (upd H x o') h':=fun b u q=>by
 have nown : ∀ c y,H c=some (.own y) -> c ≠ x:=fun c y r z=>by subst z; rw [r] at mu; exact mu
 have ntup : ∀ c xs,H c=some (.tup xs) -> c ≠ x:=fun c xs r z=>by subst z; rw [r] at mu; exact mu
 by_cases hb : b=x
 ·subst hb; rw [zcd] at q; cases q; exact new
 ·rw [zby hb] at q
  by_cases hbe : b=e
  ·have q' : H b=some (.own x):=by
    rcases he with z | z
    ·exact absurd (hbe.trans z) hb
    ·rw [hbe]; exact z
   rw [q] at q'; cases q'
   obtain ⟨v,hv⟩:=heo
   exact ⟨v,by rw [hbe]; exact hv⟩
  ·refine (ok b u q).stay (fun c v hc r=>k c v ?_ r) (fun c r=>by rw [zby (nown c b r)]; exact r) fun c xs r=>by rw [zby (ntup c xs r)]; exact r
   rcases hc with rfl | hc
   ·exact hbe
   ·rintro rfl
    rcases he with z | z
    ·exact nown c b hc z
    ·rw [hc] at z; cases z; exact hb rfl
end
structure Un (fs ex:List Addr) (H H':Hp) (h h':Heap) : Prop where
 keep : ∀ b o,h.get? b=some o -> H b=none -> b ∉ fs -> b ∉ ex -> h'.get? b=some o
 slot : ∀ b o,h.get? b=some o -> H b=none -> b ∈ fs -> b ∉ ex -> ∃ sl,h'.get? b=some { o with slots:=sl }
 free : ∀ b o,h.get? b=some o -> H b=none -> b ∉ ex -> H' b=none
 there : ∀ b o,h.get? b=some o -> b ∉ ex -> ∃ o',h'.get? b=some o'
 tups : ∀ b xs,H b=some (.tup xs) -> H' b=some (.tup xs)
 frzs : ∀ b o u,H b=some (.frz o u) -> H' b=some (.frz o u)
 tbls : ∀ b ps,H b=some (.tbl ps) -> ∃ more,H' b=some (.tbl (ps ++ more))
section
variable {fs fs' ex ex':List Addr} {H H1 H2:Hp} {h h1 h2 h':Heap} {a x e:Addr} {o:HO}
theorem Un.any (u:Un fs ex H H1 h h1) {b:Addr} {ob:Obj} (q:h.get? b=some ob) (n:H b=none) (hx:b ∉ ex) : ∃ sl,h1.get? b=some { ob with slots:=sl }:=by
 by_cases hb : b ∈ fs
 ·exact u.slot b ob q n hb hx
 ·exact ⟨ob.slots,u.keep b ob q n hb hx⟩
theorem Un.trans (a:Un fs ex H H1 h h1) (b:Un fs ex H1 H2 h1 h2) : Un fs ex H H2 h h2 where
 keep:=fun c ob q n hc hx=>b.keep c ob (a.keep c ob q n hc hx) (a.free c ob q n hx) hc hx
 slot:=fun c ob q n hc hx=>by
  obtain ⟨sl,e1⟩:=a.slot c ob q n hc hx
  obtain ⟨sl',e2⟩:=b.slot c _ e1 (a.free c ob q n hx) hc hx
  exact ⟨sl',e2⟩
 free:=fun c ob q n hx=>by
  obtain ⟨o',e1⟩:=a.there c ob q hx
  exact b.free c o' e1 (a.free c ob q n hx) hx
 there:=fun c ob q hx=>by
  obtain ⟨o',e1⟩:=a.there c ob q hx
  exact b.there c o' e1 hx
 tups:=fun c xs q=>b.tups c xs (a.tups c xs q)
 frzs:=fun c ob xs q=>b.frzs c ob xs (a.frzs c ob xs q)
 tbls:=fun c ps q=>by
  obtain ⟨m1,e1⟩:=a.tbls c ps q
  obtain ⟨m2,e2⟩:=b.tbls c _ e1
  exact ⟨m1 ++ m2,by rw [e2,Array.append_assoc]⟩
theorem Un.kept (k:∀ b u,h.get? b=some u -> h'.get? b=some u) : Un fs ex H H h h' :=
 ⟨fun b ob q _ _ _=>k b ob q,fun b ob q _ _ _=>⟨ob.slots,k b ob q⟩,fun _ _ _ n _=>n,fun b ob q _=>⟨ob,k b ob q⟩,fun _ _ q=>q,fun _ _ _ q=>q,fun _ ps q=>⟨#[],by rw [q]; simp⟩⟩
theorem Un.refl : Un fs ex H H h h:=Un.kept fun _ _ q=>q
theorem Un.laid (k:∀ b u,h.get? b=some u -> h'.get? b=some u) (hp:h.objs.size <= a) (hn:H a=none) : Un fs ex H (upd H a o) h h' where
 keep:=fun b u q _ _ _=>k b u q
 slot:=fun b u q _ _ _=>⟨u.slots,k b u q⟩
 free:=fun b u q n _=>by rw [zby (Nat.ne_of_lt (Nat.lt_of_lt_of_le (Heap.lt_size q) hp))]; exact n
 there:=fun b u q _=>⟨u,k b u q⟩
 tups:=fun b xs q=>by rw [zby (zdo q hn)]; exact q
 frzs:=fun b u xs q=>by rw [zby (zdo q hn)]; exact q
 tbls:=fun b ps q=>⟨#[],by rw [zby (zdo q hn),q]; simp⟩
theorem Un.write (mu:Mut (H x)) (he:e=x \/ H e=some (.own x)) (k:∀ b u,b ≠ e -> h.get? b=some u -> h'.get? b=some u) (heo:∃ u,h'.get? e=some u) : Un fs ex H (upd H x o) h h':=by
 have hx : ∀ b,H b=none -> b ≠ x:=fun b n z=>by subst z; rw [n] at mu; exact mu
 have hb : ∀ b,H b=none -> b ≠ e:=fun b n z=>by
  subst z
  rcases he with r | r
  ·exact hx b n r
  ·rw [n] at r; cases r
 have hm : ∀ b u,H b=some u -> ¬ Mut (some u) -> b ≠ x:=fun b u q nm z=>by subst z; rw [q] at mu; exact nm mu
 refine ⟨fun b u q n _ _=>k b u (hb b n) q,fun b u q n _ _=>⟨u.slots,k b u (hb b n) q⟩,fun b u q n _=>by rw [zby (hx b n)]; exact n,fun b u q _=>?_,
  fun b xs q=>by rw [zby (hm b _ q fun z=>z)]; exact q,fun b u xs q=>by rw [zby (hm b _ q fun z=>z)]; exact q,fun b ps q=>⟨#[],by rw [zby (hm b _ q fun z=>z),q]; simp⟩⟩
 by_cases hbe : b=e
 ·subst hbe; exact heo
 ·exact ⟨u,k b u hbe q⟩
theorem Un.mono (u:Un fs ex H H1 h h1) (hs:∀ b ∈ fs,b ∈ fs') (hx:∀ b ∈ ex,b ∈ ex') : Un fs' ex' H H1 h h1 :=
 ⟨fun b ob q n hb he=>u.keep b ob q n (fun z=>hb (hs b z)) fun z=>he (hx b z),fun _ _ q n _ he=>u.any q n fun z=>he (hx _ z),fun b ob q n he=>u.free b ob q n fun z=>he (hx b z),fun b ob q he=>u.there b ob q fun z=>he (hx b z),u.tups,u.frzs,u.tbls⟩
end
noncomputable def trk (h:Heap) (H:Hp) : List Addr:=(List.range h.objs.size).filter fun a=>(H a).isSome
noncomputable def zg5 (h:Heap) (H:Hp) : Heap:=PySem.W.hideAll h (trk h H)
theorem z5i (h:Heap) (H:Hp) : (zg5 h H).objs.size=h.objs.size:=PySem.W.hideAll_size _ _
theorem zyp {h:Heap} {H:Hp} {b:Addr} {o:Obj} (e:h.get? b=some o) (n:H b=none) : (zg5 h H).get? b=some o :=
 PySem.W.hideAll_get _ e fun hm=>by
  have q : (H b).isSome=true:=(List.mem_filter.mp hm).2
  rw [n] at q; simp at q
theorem z6e {h:Heap} {H:Hp} {b:Addr} {o:Obj} (e:(zg5 h H).get? b=some o) : h.get? b=some o /\ H b=none:=by
 have e' : h.get? b=some o:=PySem.W.of_hideAll (trk h H) e
 refine ⟨e',?_⟩
 cases q : H b with
 | none=>rfl
 | some x =>
  have hm : b ∈ trk h H:=List.mem_filter.mpr ⟨List.mem_range.mpr (Heap.lt_size e'),by simp [q]⟩
  have z : (zg5 h H).get? b=none:=PySem.W.hideAll_none (trk h H) hm
  rw [z] at e; cases e
noncomputable def z6f (g h:Heap) (L:Addr) : List (Addr × Obj):=(List.range h.objs.size).filterMap fun a=>if a=L \/ (g.get? a).isSome=true then none else (h.get? a).map fun o=>(a,o)
noncomputable def zcm (g h:Heap) (L d:Addr) : List (Addr × Obj):=(z6f g h L).filter fun p=>decide (p.1 ≠ d)
structure Mod (K:PySem.W.Frag) (mg:Str -> Option Value) (base:Heap) : Prop where
 kin : K.In base
 glob : base.Ns mainGlobals mg
 blt : ∃ mb,base.Ns builtinsNs mb /\ ∀ x : Str,x ≠ "__name__" -> mb x=bootBuiltins x
 nolimit : base.NoLimit
set_option genInjectivity false in
structure Cx where
 prog : Program
 w : World
 K : PySem.W.Frag
 mg : Str -> Option Value
 base : Heap
 A : Around
 N : List Str
 s₀ : Shared
 H₀ : Hp
 env : Env
 outer : List Env
 stack : List Env
 ex : List Addr
 fn : Str -> Bool
 calm : Bool
 pn : List (Addr × Obj)
 xe : Value -> Shared -> Prop
noncomputable def frs (l:List Env) : List Addr:=l.filterMap (·.frame)
noncomputable abbrev Cx.fs (X:Cx) : List Addr:=frs X.outer
noncomputable def Vis (sc:Scope) (x:Str) : Prop:=sc.names.lookup x=some .local \/ sc.names.lookup x=some .cell \/ sc.names.lookup x=some .free
noncomputable def Loc (sc:Scope) (x:Str) : Prop:=sc.names.lookup x=some .local \/ sc.names.lookup x=some .cell
noncomputable def zx0 (env:Env) (h:Heap) (m:Str -> Option Value) (x:Str) (u:Value) : Prop :=
 (env.kindOf x=some .local /\ m x=some u) \/ ((env.kindOf x=some .cell \/ env.kindOf x=some .free) /\ ∃ c,env.cells.lookup x=some c /\ h.IsCell c (some u))
structure Cx.Ok (X:Cx) : Prop where
 mod : Mod X.K X.mg X.base
 kind : X.env.scope.kind=.function
 glob : X.env.globals=mainGlobals
 blt : X.env.builtins=builtinsNs
 above : X.s₀.heap.objs.size <= X.env.locals
 inj : ∀ x y c,X.env.cells.lookup x=some c -> X.env.cells.lookup y=some c -> x=y
 has : ∀ x,(X.env.kindOf x=some .cell \/ X.env.kindOf x=some .free) -> ∃ c,X.env.cells.lookup x=some c
 cab : ∀ x c,X.fn x=true -> X.env.cells.lookup x=some c -> X.s₀.heap.objs.size <= c
 hd : X.calm=true -> X.A.handled=none
 frames : X.A.frames=some X.stack
 stk : X.stack=X.outer \/ (X.stack=X.env :: X.outer /\ X.env.frame=some X.env.locals)
 exf : ∀ b ∈ X.ex,b ≠ X.env.locals /\ ∀ x c,X.env.cells.lookup x=some c -> c ≠ b
 bs : ∀ b o,X.base.get? b=some o -> X.s₀.heap.get? b=some o /\ X.H₀ b=none
 bsz : X.base.objs.size <= X.s₀.heap.objs.size
 noex : ∀ b o,X.base.get? b=some o -> b ∉ X.ex
 exfs : ∀ b ∈ X.ex,b ∉ X.fs
 funs : X.s₀.heap.FunFrames X.base X.outer
 frf : ∀ b ∈ X.fs,X.H₀ b=none
structure Inv (X:Cx) (pins:List (Addr × Obj)) (σ:List (Option V)) (H:Hp) (s:Shared) : Prop where
 ok : X.Ok
 os : s.os=X.s₀.os
 bare : AllBare s.gens
 base : Un X.fs X.ex X.H₀ H X.s₀.heap s.heap
 loc : ∃ m,s.heap.Ns X.env.locals m /\ ∀ (i:Nat) (x:Str) (v:V),X.N[i]?=some x -> σ[i]?=some (some v) -> Vis X.env.scope x -> ∃ u,za0 v u /\ zx0 X.env s.heap m x u
 cell : ∀ x c,X.env.cells.lookup x=some c -> ∃ v,s.heap.IsCell c v
 free : H X.env.locals=none
 freeC : ∀ x c,X.env.cells.lookup x=some c -> H c=none
 pin : ∀ p ∈ X.pn ++ pins,s.heap.get? p.1=some p.2 /\ H p.1=none /\ p.1 ≠ X.env.locals /\ p.1 ∉ X.fs /\ ∀ v,p.2.data ≠ .cell v
 hok : HOk X.prog X.w H s.heap
 len : σ.length=X.N.length
section
variable {X:Cx} {pins:List (Addr × Obj)} {σ:List (Option V)} {H H':Hp} {s:Shared} {h':Heap}
theorem Cx.Ok.nofr (ok:X.Ok) {b:Addr} {o:Obj} (e:X.base.get? b=some o) : b ∉ X.fs:=fun hb=>by
 have:=(ok.funs.mem hb).1
 rw [e] at this; cases this
theorem Inv.bs (I:Inv X pins σ H s) : ∀ b o,X.base.get? b=some o -> s.heap.get? b=some o /\ H b=none:=fun b o e =>
 ⟨I.base.keep b o (I.ok.bs b o e).1 (I.ok.bs b o e).2 (I.ok.nofr e) (I.ok.noex b o e),I.base.free b o (I.ok.bs b o e).1 (I.ok.bs b o e).2 (I.ok.noex b o e)⟩
theorem Inv.bk (I:Inv X pins σ H s) : ∀ b o,X.base.get? b=some o -> s.heap.get? b=some o:=fun b o e=>(I.bs b o e).1
theorem Inv.mod (I:Inv X pins σ H s) : Mod X.K X.mg X.base:=I.ok.mod
theorem Inv.kIn (I:Inv X pins σ H s) : X.K.In s.heap:=I.ok.mod.kin.keeps I.bk
theorem Inv.lt (I:Inv X pins σ H s) : X.env.locals < s.heap.objs.size:=let ⟨_,hn,_⟩:=I.loc; hn.lt
theorem Inv.sz (I:Inv X pins σ H s) : X.s₀.heap.objs.size <= s.heap.objs.size:=Nat.le_trans I.ok.above (Nat.le_of_lt I.lt)
theorem Inv.nofs (I:Inv X pins σ H s) {a:Addr} (h:s.heap.objs.size <= a) : a ∉ X.fs:=fun hb=>by
 obtain ⟨_,o,ho,_⟩:=I.ok.funs.mem hb
 exact absurd (Nat.lt_of_lt_of_le (Heap.lt_size ho) (Nat.le_trans I.sz h)) (Nat.lt_irrefl _)
theorem Inv.cne (I:Inv X pins σ H s) : ∀ x c,X.env.cells.lookup x=some c -> c ≠ X.env.locals:=fun x c e z=>by
 obtain ⟨v,o,ho,hd⟩:=I.cell x c e
 obtain ⟨m,⟨o',es,ep,ho',hd',_⟩,_⟩:=I.loc
 rw [z,ho'] at ho; cases ho; rw [hd'] at hd; cases hd
theorem Inv.funs (I:Inv X pins σ H s) : s.heap.FunFrames X.base X.outer:=by
 have all : ∀ (l:List Env),(∀ b ∈ frs l,b ∈ X.fs) -> X.s₀.heap.FunFrames X.base l -> s.heap.FunFrames X.base l:=by
  intro l
  induction l with
  | nil=>intro _ _; trivial
  | cons env r ih =>
   intro hs hl
   obtain ⟨hk,⟨L,o,hf,hn,ho,hd⟩,hr⟩:=hl
   have hL : L ∈ X.fs:=hs L (by unfold frs; rw [List.filterMap_cons,hf]; exact List.mem_cons_self)
   obtain ⟨sl,e⟩:=I.base.slot L o ho (I.ok.frf L hL) hL fun z=>I.ok.exfs L z hL
   exact ⟨hk,⟨L,_,hf,hn,e,hd⟩,ih (fun b hb=>hs b (by unfold frs; rw [List.filterMap_cons,hf]; exact List.mem_cons_of_mem _ hb)) hr⟩
 exact all X.outer (fun _ hb=>hb) I.ok.funs
theorem Inv.stack (I:Inv X pins σ H s) : s.heap.FunFrames X.base X.stack:=by
 rcases I.ok.stk with e | ⟨e,hf⟩
 ·rw [e]; exact I.funs
 ·rw [e]
  obtain ⟨m,hn,_⟩:=I.loc
  refine .cons (by rw [I.ok.kind]; decide) hf hn ?_ I.funs
  exact Heap.get?_none_of_le (Nat.le_trans I.ok.bsz I.ok.above)
theorem Inv.stkSub (I:Inv X pins σ H s) : ∀ b ∈ frs X.stack,b ∈ X.env.locals :: X.fs:=fun b hb=>by
 rcases I.ok.stk with e | ⟨e,hf⟩
 ·rw [e] at hb; exact List.mem_cons_of_mem _ hb
 ·rw [e] at hb
  unfold frs at hb
  rw [List.filterMap_cons,hf] at hb
  exact hb
theorem Inv.stkFree (I:Inv X pins σ H s) : ∀ b ∈ frs X.stack,H b=none:=fun b hb=>by
 rcases List.mem_cons.mp (I.stkSub b hb) with e | hb
 ·rw [e]; exact I.free
 ·obtain ⟨_,o,ho,_⟩:=I.ok.funs.mem hb
  exact I.base.free b o ho (I.ok.frf b hb) fun z=>I.ok.exfs b z hb
theorem Inv.step {g':Array GenState} {t':Nat} {d':Drawn} {ch:List Addr} (I:Inv X pins σ H s)
  (hch:∀ b ∈ ch,(b ∈ X.ex \/ X.s₀.heap.objs.size <= b) /\ b ≠ X.env.locals /\ (∀ x c,X.env.cells.lookup x=some c -> c ≠ b) /\ ∀ p ∈ X.pn ++ pins,p.1 ≠ b)
  (keep:∀ b o,b ≠ X.env.locals -> b ∉ X.fs -> b ∉ ch -> s.heap.get? b=some o -> H b=none -> h'.get? b=some o)
  (slot:∀ b o,b ≠ X.env.locals -> b ∈ X.fs -> b ∉ ch -> s.heap.get? b=some o -> H b=none -> ∃ sl,h'.get? b=some { o with slots:=sl }) (free:∀ b o,b ∉ ch -> s.heap.get? b=some o -> H b=none -> H' b=none)
  (there:∀ b o,b ∉ ch -> s.heap.get? b=some o -> ∃ o',h'.get? b=some o')
  (tups:∀ b xs,H b=some (.tup xs) -> H' b=some (.tup xs)) (frzs:∀ b o u,H b=some (.frz o u) -> H' b=some (.frz o u)) (tbls:∀ b ps,H b=some (.tbl ps) -> ∃ more,H' b=some (.tbl (ps ++ more)))
  (ns:∀ m,s.heap.Ns X.env.locals m -> h'.Ns X.env.locals m) (hok:HOk X.prog X.w H' h') (hg:AllBare g') :
  Inv X pins σ H' { s with heap:=h',gens:=g',drawn:=d',toks:=t' }:=by
 have neL : ∀ b o,X.s₀.heap.get? b=some o -> b ≠ X.env.locals:=fun b o e=>Nat.ne_of_lt (Nat.lt_of_lt_of_le (Heap.lt_size e) I.ok.above)
 have neC : ∀ b o,X.s₀.heap.get? b=some o -> b ∉ X.ex -> b ∉ ch:=fun b o e hx hb=>by
  rcases (hch b hb).1 with z | z
  ·exact hx z
  ·exact absurd (Nat.lt_of_lt_of_le (Heap.lt_size e) z) (Nat.lt_irrefl _)
 have cellK : ∀ x c,X.env.cells.lookup x=some c -> ∀ v,s.heap.IsCell c v -> h'.IsCell c v:=fun x c e v ⟨o,ho,hd⟩=>by
  have nch : c ∉ ch:=fun z=>(hch c z).2.2.1 x c e rfl
  by_cases hc : c ∈ X.fs
  ·obtain ⟨sl,q⟩:=slot c o (I.cne x c e) hc nch ho (I.freeC x c e)
   exact ⟨_,q,hd⟩
  ·exact ⟨o,keep c o (I.cne x c e) hc nch ho (I.freeC x c e),hd⟩
 refine ⟨I.ok,I.os,hg,⟨fun b o e n hb hx=>?_,fun b o e n hb hx=>?_,fun b o e n hx=>?_,fun b o e hx=>?_,fun b xs e=>tups b xs (I.base.tups b xs e),fun b o xs e=>frzs b o xs (I.base.frzs b o xs e),fun b ps e=>?_⟩,?_,fun x c e=>?_,?_,fun x c e=>?_,fun p hp=>?_,hok,I.len⟩
 ·exact keep b o (neL b o e) hb (neC b o e hx) (I.base.keep b o e n hb hx) (I.base.free b o e n hx)
 ·obtain ⟨sl,e1⟩:=I.base.slot b o e n hb hx
  obtain ⟨sl',e2⟩:=slot b _ (neL b o e) hb (neC b o e hx) e1 (I.base.free b o e n hx)
  exact ⟨sl',e2⟩
 ·obtain ⟨o',e1⟩:=I.base.there b o e hx
  exact free b o' (neC b o e hx) e1 (I.base.free b o e n hx)
 ·obtain ⟨o',e1⟩:=I.base.there b o e hx
  exact there b o' (neC b o e hx) e1
 ·obtain ⟨m1,e1⟩:=I.base.tbls b ps e
  obtain ⟨m2,e2⟩:=tbls b _ e1
  exact ⟨m1 ++ m2,by rw [e2,Array.append_assoc]⟩
 ·obtain ⟨m,hn,hl⟩:=I.loc
  refine ⟨m,ns m hn,fun i x v e1 e2 e3=>?_⟩
  obtain ⟨u,r,l⟩:=hl i x v e1 e2 e3
  refine ⟨u,r,?_⟩
  rcases l with l | ⟨k,c,e,z⟩
  ·exact .inl l
  ·exact .inr ⟨k,c,e,cellK x c e _ z⟩
 ·obtain ⟨v,z⟩:=I.cell x c e
  exact ⟨v,cellK x c e v z⟩
 ·obtain ⟨m,⟨o,_,_,ho,_⟩,_⟩:=I.loc
  exact free _ o (fun z=>(hch _ z).2.1 rfl) ho I.free
 ·obtain ⟨v,o,ho,hd⟩:=I.cell x c e
  exact free c o (fun z=>(hch c z).2.2.1 x c e rfl) ho (I.freeC x c e)
 ·obtain ⟨e,n,ne,nf,d⟩:=I.pin p hp
  have nch : p.1 ∉ ch:=fun z=>(hch p.1 z).2.2.2 p hp rfl
  exact ⟨keep p.1 p.2 ne nf nch e n,free p.1 p.2 nch e n,ne,nf,d⟩
theorem Inv.un {t':Nat} (I:Inv X pins σ H s) (u:Un X.fs [] H H' s.heap h') (hok:HOk X.prog X.w H' h') : Inv X pins σ H' { s with heap:=h',toks:=t' }:=by
 obtain ⟨m,⟨o,es,ep,ho,r⟩,_⟩:=id I.loc
 obtain ⟨sl,hL⟩:=u.any ho I.free (by simp)
 exact I.step (g':=s.gens) (d':=s.drawn) (ch:=[]) (fun _ z=>nomatch z) (fun b o _ hb _ e n=>u.keep b o e n hb (by simp)) (fun b o _ hb _ e n=>u.slot b o e n hb (by simp)) (fun b o _ e n=>u.free b o e n (by simp)) (fun b o _ e=>u.there b o e (by simp)) u.tups u.frzs u.tbls (fun m' hm=>by
  obtain ⟨o',es',ep',ho',r'⟩:=hm
  rw [ho] at ho'; cases ho'
  exact ⟨_,es',ep',hL,r'⟩) hok I.bare
theorem Inv.call {g':Array GenState} {t':Nat} {d':Drawn} {ch:List Addr} (I:Inv X pins σ H s) (u:Un (frs X.stack) ch H H' s.heap h') (hok:HOk X.prog X.w H' h') (hg:AllBare g')
  (hch:∀ b ∈ ch,(b ∈ X.ex \/ X.s₀.heap.objs.size <= b) /\ b ≠ X.env.locals /\ (∀ x c,X.env.cells.lookup x=some c -> c ≠ b) /\ ∀ p ∈ X.pn ++ pins,p.1 ≠ b) :
  Inv X pins σ H' { s with heap:=h',gens:=g',drawn:=d',toks:=t' }:=by
 obtain ⟨m,⟨o,es,ep,ho,r⟩,_⟩:=id I.loc
 obtain ⟨sl,hL⟩:=u.any ho I.free fun z=>(hch _ z).2.1 rfl
 exact I.step (ch:=ch) hch (fun b o hL hb hc e n=>u.keep b o e n (fun z=>(List.mem_cons.mp (I.stkSub b z)).elim hL hb) hc) (fun b o _ _ hc e n=>u.any e n hc) (fun b o hc e n=>u.free b o e n hc) (fun b o hc e=>u.there b o e hc) u.tups u.frzs u.tbls (fun m' hm=>by
  obtain ⟨o',es',ep',ho',r'⟩:=hm
  rw [ho] at ho'; cases ho'
  exact ⟨_,es',ep',hL,r'⟩) hok hg
theorem Inv.turned {t':Nat} {it:Addr} (I:Inv X pins σ H s) (k:∀ b o,b ≠ it -> s.heap.get? b=some o -> h'.get? b=some o) (hn:H it=none) (hL:it ≠ X.env.locals)
  (h1:it ∈ X.ex \/ X.s₀.heap.objs.size <= it) (h2:∀ x c,X.env.cells.lookup x=some c -> c ≠ it) (h3:∀ p ∈ X.pn ++ pins,p.1 ≠ it) : Inv X pins σ H { s with heap:=h',toks:=t' }:=by
 have nit : ∀ b u,H b=some u -> b ≠ it:=fun b u e z=>by rw [z,hn] at e; cases e
 refine I.step (g':=s.gens) (d':=s.drawn) (ch:=[it]) (fun b hb=>?_) (fun b o _ _ hc e _=>k b o (fun z=>hc (by simp [z])) e) (fun b o _ _ hc e _=>⟨o.slots,k b o (fun z=>hc (by simp [z])) e⟩) (fun _ _ _ _ n=>n)
  (fun b o hc e=>⟨o,k b o (fun z=>hc (by simp [z])) e⟩) (fun _ _ e=>e) (fun _ _ _ e=>e) (fun b ps e=>⟨#[],by rw [e]; simp⟩) (fun m hm=>?_) (fun b u e=>?_) I.bare
 ·have e : b=it:=by simpa using hb
  subst e
  exact ⟨h1,hL,h2,h3⟩
 ·obtain ⟨o,es,ep,ho,r⟩:=hm
  exact ⟨o,es,ep,k _ o (Ne.symm hL) ho,r⟩
 ·refine (I.hok b u e).stay (fun c v hc q=>k c v ?_ q) (fun _ q=>q) fun _ _ q=>q
  rcases hc with z | z
  ·rw [z]; exact nit b u e
  ·exact nit c _ z
theorem Inv.tok (I:Inv X pins σ H s) (t:Nat) : Inv X pins σ H { s with toks:=t }:=I.un (h':=s.heap) (t':=t) Un.refl I.hok
theorem Inv.kept {t':Nat} (I:Inv X pins σ H s) (k:∀ b u,s.heap.get? b=some u -> h'.get? b=some u) : Inv X pins σ H { s with heap:=h',toks:=t' }:=I.un (Un.kept k) (I.hok.kept k)
theorem Inv.laid {a:Addr} {o:HO} {t':Nat} (I:Inv X pins σ H s) (k:∀ b u,s.heap.get? b=some u -> h'.get? b=some u) (hp:s.heap.objs.size <= a) (new:zcv X.prog X.w (upd H a o) h' a o) :
  Inv X pins σ (upd H a o) { s with heap:=h',toks:=t' }:=I.un (Un.laid k hp (I.hok.fresh hp)) (I.hok.laid k hp new)
theorem Inv.write {x e:Addr} {o:HO} {t':Nat} (I:Inv X pins σ H s) (mu:Mut (H x)) (he:e=x \/ H e=some (.own x)) (k:∀ b u,b ≠ e -> s.heap.get? b=some u -> h'.get? b=some u) (heo:∃ u,h'.get? e=some u)
  (new:zcv X.prog X.w (upd H x o) h' x o) : Inv X pins σ (upd H x o) { s with heap:=h',toks:=t' }:=I.un (Un.write mu he k heo) (I.hok.write mu he k heo new)
theorem Inv.pins_of {pins':List (Addr × Obj)} (I:Inv X pins σ H s) (h:∀ p ∈ pins',s.heap.get? p.1=some p.2 /\ H p.1=none /\ p.1 ≠ X.env.locals /\ p.1 ∉ X.fs /\ ∀ v,p.2.data ≠ .cell v) : Inv X pins' σ H s :=
 ⟨I.ok,I.os,I.bare,I.base,I.loc,I.cell,I.free,I.freeC,fun p hp=>(List.mem_append.mp hp).elim (fun z=>I.pin p (List.mem_append_left _ z)) (h p),I.hok,I.len⟩
theorem zvw {N:List Str} (hN:N.Nodup) {i j:Nat} {x:Str} (a:N[i]?=some x) (b:N[j]?=some x) : i=j:=by
 obtain ⟨h1,e1⟩:=List.getElem?_eq_some_iff.mp a
 obtain ⟨h2,e2⟩:=List.getElem?_eq_some_iff.mp b
 exact (List.getElem_inj hN).mp (e1.trans e2.symm)
theorem zuc {M:Model} {A:Around} {E:Value -> Shared -> Prop} {i:Nat} {x:Str} {v:V} {u:Value} {Q:Unit -> Shared -> Prop} (I:Inv X pins σ H s) (hN:X.N.Nodup) (hi:X.N[i]?=some x) (hx:Loc X.env.scope x) (r:za0 v u)
  (h:∀ s',Inv X pins (σ.set i (some v)) H s' -> (∃ a,Heap.SameBut a s.heap s'.heap /\ (a=X.env.locals \/ X.env.cells.lookup x=some a)) -> Q () s') (hf:X.fn x=true \/ X.env.scope.names.lookup x=some .local:=by first | exact .inl rfl | exact .inr rfl | assumption) : wpAny M A (storeName X.env x u) Q E s:=by
 obtain ⟨m,hn,hl⟩:=id I.loc
 have hcls : (X.env.scope.kind == .class || (X.env.scope.kind == .module && X.env.locals != X.env.globals))=false:=by rw [I.ok.kind]; rfl
 have hiσ : i < σ.length:=by rw [I.len]; exact (List.getElem?_eq_some_iff.mp hi).1
 have cne:=I.cne
 have tracked : ∀ {a:Addr} {h':Heap},(∃ o,s.heap.get? a=some o /\ H a=none) -> Heap.SameBut a s.heap h' -> HOk X.prog X.w H h':=fun {a h'} ha hs b ob e=>by
  obtain ⟨_,_,hfree⟩:=ha
  refine (I.hok b ob e).stay (fun c w' hc q=>(hs.2 c ?_).trans q) (fun _ q=>q) fun _ _ q=>q
  rintro rfl
  rcases hc with rfl | hc
  ·rw [hfree] at e; cases e
  ·rw [hfree] at hc; cases hc
 rcases hx with hk | hk
 ·refine wpAny_storeName_local hk hn (fun h' hn' hs=>?_) hcls
  obtain ⟨oL,_,_,hoL,_⟩:=id hn
  refine h _ ⟨I.ok,I.os,I.bare,⟨fun b o e n hb hx=>?_,fun b o e n hb hx=>?_,I.base.free,fun b o e hx=>?_,I.base.tups,I.base.frzs,I.base.tbls⟩,⟨_,hn',fun j y v' e1 e2 e3=>?_⟩,fun y c e=>?_,I.free,I.freeC,fun p hp=>?_,tracked ⟨oL,hoL,I.free⟩ hs,by simpa using I.len⟩ ⟨_,hs,.inl rfl⟩
  ·exact (hs.2 b (Nat.ne_of_lt (Nat.lt_of_lt_of_le (Heap.lt_size e) I.ok.above))).trans (I.base.keep b o e n hb hx)
  ·obtain ⟨sl,e1⟩:=I.base.slot b o e n hb hx
   exact ⟨sl,(hs.2 b (Nat.ne_of_lt (Nat.lt_of_lt_of_le (Heap.lt_size e) I.ok.above))).trans e1⟩
  ·obtain ⟨o',e1⟩:=I.base.there b o e hx
   exact ⟨o',(hs.2 b (Nat.ne_of_lt (Nat.lt_of_lt_of_le (Heap.lt_size e) I.ok.above))).trans e1⟩
  ·by_cases hj : j=i
   ·subst hj
    rw [hi] at e1; cases e1
    rw [List.getElem?_set_self hiσ] at e2
    cases e2
    exact ⟨u,r,.inl ⟨hk,by simp⟩⟩
   ·rw [List.getElem?_set_ne (Ne.symm hj)] at e2
    obtain ⟨u',r',q⟩:=hl j y v' e1 e2 e3
    refine ⟨u',r',?_⟩
    rcases q with ⟨k,e⟩ | ⟨k,c,e,z⟩
    ·refine .inl ⟨k,?_⟩
     have : y ≠ x:=fun e=>hj (zvw hN e1 (e ▸ hi))
     simp [this,e]
    ·exact .inr ⟨k,c,e,z.sameBut hs (cne y c e)⟩
  ·obtain ⟨w',z⟩:=I.cell y c e
   exact ⟨w',z.sameBut hs (cne y c e)⟩
  ·obtain ⟨e,n,ne,nf,d⟩:=I.pin p hp
   exact ⟨(hs.2 p.1 ne).trans e,n,ne,nf,d⟩
 ·have hfn : X.fn x=true:=by
   rcases hf with z | z
   ·exact z
   ·rw [z] at hk; cases hk
  obtain ⟨c,hc⟩:=I.ok.has x (.inl hk)
  obtain ⟨w',z⟩:=I.cell x c hc
  refine wpAny_storeName_cell I.ok.kind hk hc z (fun h' hc' hs=>?_)
  obtain ⟨oc,hoc,hocd⟩:=id z
  refine h { s with heap:=h' } ⟨I.ok,I.os,I.bare,⟨fun b o e n hb hx=>?_,fun b o e n hb hx=>?_,I.base.free,fun b o e hx=>?_,I.base.tups,I.base.frzs,I.base.tbls⟩,⟨m,hn.sameBut hs (Ne.symm (cne x c hc)),fun j y v' e1 e2 e3=>?_⟩,fun y c' e=>?_,I.free,I.freeC,fun p hp=>?_,tracked ⟨oc,hoc,I.freeC x c hc⟩ hs,by simpa using I.len⟩ ⟨c,hs,.inr hc⟩
  ·exact (hs.2 b (Nat.ne_of_lt (Nat.lt_of_lt_of_le (Heap.lt_size e) (I.ok.cab x c hfn hc)))).trans (I.base.keep b o e n hb hx)
  ·obtain ⟨sl,e1⟩:=I.base.slot b o e n hb hx
   exact ⟨sl,(hs.2 b (Nat.ne_of_lt (Nat.lt_of_lt_of_le (Heap.lt_size e) (I.ok.cab x c hfn hc)))).trans e1⟩
  ·obtain ⟨o',e1⟩:=I.base.there b o e hx
   exact ⟨o',(hs.2 b (Nat.ne_of_lt (Nat.lt_of_lt_of_le (Heap.lt_size e) (I.ok.cab x c hfn hc)))).trans e1⟩
  ·by_cases hj : j=i
   ·subst hj
    rw [hi] at e1; cases e1
    rw [List.getElem?_set_self hiσ] at e2
    cases e2
    exact ⟨u,r,.inr ⟨.inl hk,c,hc,hc'⟩⟩
   ·rw [List.getElem?_set_ne (Ne.symm hj)] at e2
    obtain ⟨u',r',q⟩:=hl j y v' e1 e2 e3
    refine ⟨u',r',?_⟩
    rcases q with q | ⟨k,c',e,z'⟩
    ·exact .inl q
    ·refine .inr ⟨k,c',e,z'.sameBut hs ?_⟩
     rintro rfl
     exact hj (zvw hN e1 (I.ok.inj _ _ _ e hc ▸ hi))
  ·by_cases hcc : c'=c
   ·subst hcc; exact ⟨_,hc'⟩
   ·obtain ⟨w2,z2⟩:=I.cell y c' e
    exact ⟨w2,z2.sameBut hs hcc⟩
  ·obtain ⟨e,n,ne,nf,d⟩:=I.pin p hp
   refine ⟨(hs.2 p.1 ?_).trans e,n,ne,nf,d⟩
   intro q
   rw [q,hoc] at e
   have q' : oc=p.2:=Option.some.inj e
   exact d w' (by rw [<- q']; exact hocd)
theorem zvb {M:Model} {A:Around} {E:Value -> Shared -> Prop} {i:Nat} {x:Str} {v:V} {u:Value} {Q:Unit -> Shared -> Prop} (I:Inv X pins σ H s) (hN:X.N.Nodup) (hi:X.N[i]?=some x) (hx:Loc X.env.scope x) (r:za0 v u)
  (h:∀ s',Inv X pins (σ.set i (some v)) H s' -> Q () s') (hf:X.fn x=true \/ X.env.scope.names.lookup x=some .local:=by first | exact .inl rfl | exact .inr rfl | assumption) : wpAny M A (storeName X.env x u) Q E s :=
 zuc I hN hi hx r (fun s' I' _=>h s' I') hf
theorem Inv.call' {s':Shared} {ch:List Addr} (I:Inv X pins σ H s) (ho:s'.os=s.os) (u:Un (frs X.stack) ch H H' s.heap s'.heap) (hok:HOk X.prog X.w H' s'.heap) (hg:AllBare s'.gens)
  (hch:∀ b ∈ ch,(b ∈ X.ex \/ X.s₀.heap.objs.size <= b) /\ b ≠ X.env.locals /\ (∀ x c,X.env.cells.lookup x=some c -> c ≠ b) /\ ∀ p ∈ X.pn ++ pins,p.1 ≠ b) : Inv X pins σ H' s':=by
 obtain ⟨h',g',d',t',o'⟩:=s'
 have e : o'=s.os:=ho
 subst e
 exact I.call (g':=g') (t':=t') (d':=d') u hok hg hch
end
noncomputable abbrev XK:=Value -> Option Addr -> Hp -> Prop
noncomputable abbrev St:=List (Option V)
noncomputable abbrev VK:=V -> Hp -> Prop
noncomputable abbrev TE:=St -> Hp -> VK -> Prop
noncomputable abbrev TT:=St -> Hp -> (Bool -> Hp -> Prop) -> Prop
noncomputable abbrev TA:=St -> Hp -> (List V -> Hp -> Prop) -> Prop
structure zhc where
 nx : St -> Hp -> Prop
 rt : VK
 bk : St -> Hp -> Prop:=fun _ _=>False
 ct : St -> Hp -> Prop:=fun _ _=>False
noncomputable abbrev TS:=zhc -> St -> Hp -> Prop
noncomputable def EP (X:Cx) (pins:List (Addr × Obj)) (σ:St) (Q:VK) (u:Value) (s':Shared) : Prop:=∃ v H',Inv X pins σ H' s' /\ za0 v u /\ Q v H'
noncomputable def TP (X:Cx) (pins:List (Addr × Obj)) (σ:St) (Q:Bool -> Hp -> Prop) (b:Bool) (s':Shared) : Prop:=∃ H',Inv X pins σ H' s' /\ Q b H'
noncomputable def AP (X:Cx) (pins:List (Addr × Obj)) (σ:St) (Q:List V -> Hp -> Prop) (us:List Value) (s':Shared) : Prop:=∃ vs H',Inv X pins σ H' s' /\ za1 vs us /\ Q vs H'
noncomputable def SP (X:Cx) (pins:List (Addr × Obj)) (D:zhc) (f:Flow) (s':Shared) : Prop :=
 match f with
 | .next=>∃ σ' H',Inv X pins σ' H' s' /\ D.nx σ' H'
 | .brk=>∃ σ' H',Inv X pins σ' H' s' /\ D.bk σ' H'
 | .cont=>∃ σ' H',Inv X pins σ' H' s' /\ D.ct σ' H'
 | .ret u=>∃ v σ' H',Inv X pins σ' H' s' /\ za0 v u /\ D.rt v H'
noncomputable def PE (X:Cx) (e:Expr) (t:TE) : Prop :=
 ∀ (pins:List (Addr × Obj)) (s:Shared) (σ:St) (H:Hp) (Q:VK),Inv X pins σ H s -> t σ H Q -> wpAny (model X.prog X.w) X.A (eval e X.env) (EP X pins σ Q) X.xe s
noncomputable def PT (X:Cx) (e:Expr) (t:TT) : Prop :=
 ∀ (pins:List (Addr × Obj)) (s:Shared) (σ:St) (H:Hp) (Q:Bool -> Hp -> Prop),Inv X pins σ H s -> t σ H Q -> wpAny (model X.prog X.w) X.A (isTrue e X.env (eval e X.env)) (TP X pins σ Q) X.xe s
noncomputable def PW (X:Cx) (e:Expr) (t:TT) : Prop :=
 ∀ (whole:Sem Value) (pins:List (Addr × Obj)) (s:Shared) (σ:St) (H:Hp) (Q:Bool -> Hp -> Prop),Inv X pins σ H s -> t σ H Q -> wpAny (model X.prog X.w) X.A (isTrue e X.env whole) (TP X pins σ Q) X.xe s
theorem PW.pt {X:Cx} {e:Expr} {t:TT} (h:PW X e t) : PT X e t:=h _
noncomputable def PA (X:Cx) (es:List Expr) (t:TA) : Prop :=
 ∀ (pos:Pos) (pins:List (Addr × Obj)) (s:Shared) (σ:St) (H:Hp) (Q:List V -> Hp -> Prop),Inv X pins σ H s -> t σ H Q -> wpAny (model X.prog X.w) X.A (spliced (backTo pos (starEach es X.env))) (AP X pins σ Q) X.xe s
noncomputable def PS (X:Cx) (st:Stmt) (t:TS) : Prop :=
 ∀ (pins:List (Addr × Obj)) (s:Shared) (σ:St) (H:Hp) (D:zhc),Inv X pins σ H s -> t D σ H -> wpAny (model X.prog X.w) X.A (exec st X.env) (SP X pins D) X.xe s
noncomputable def PSs (X:Cx) (st:List Stmt) (t:TS) : Prop :=
 ∀ (pins:List (Addr × Obj)) (s:Shared) (σ:St) (H:Hp) (D:zhc),Inv X pins σ H s -> t D σ H -> wpAny (model X.prog X.w) X.A (execs st X.env) (SP X pins D) X.xe s
theorem thn {α : Type} {t:Sem α} {Q Q':α -> Shared -> Prop} {M:Model} {A:Around} {E:Value -> Shared -> Prop} {s:Shared} (h:wpAny M A t Q E s) (hQ:∀ a s,Q a s -> Q' a s) : wpAny M A t Q' E s:=wpAny_mono h hQ fun _ _ x=>x
section
variable {X:Cx}
noncomputable def zd9 (i:Nat) : TE:=fun σ H Q=>∃ v,σ[i]?=some (some v) /\ Q v H
noncomputable def tC (v:V) : TE:=fun _ H Q=>Q v H
theorem zgo {i:Nat} {x:Str} {pos:Pos} (hN:X.N[i]?=some x) (hv:Vis X.env.scope x) (hd:(x == ("__debug__" : Str))=false:=by decide) (hcd:(x == ("__classdict__" : Str))=false:=by decide) : PE X (.Name x pos) (zd9 i):=by
 intro pins s σ H Q I h
 obtain ⟨v,e,h⟩:=h
 obtain ⟨m,hn,hl⟩:=I.loc
 obtain ⟨u,r,l⟩:=hl i x v hN e hv
 have fin : EP X pins σ Q u s:=⟨v,H,I,r,h⟩
 rcases l with ⟨hk,hm⟩ | ⟨hk,c,hc,hcell⟩
 ·exact wpAny_Name (wpAny_loadName_local I.ok.kind hk hn hm fin) hd
 ·rcases hk with hk | hk
  ·exact wpAny_Name (wpAny_loadName_cell I.ok.kind hk hc hcell fin) hd
  ·exact wpAny_Name (wpAny_loadName_free I.ok.kind hk hc hcell fin hcd) hd
theorem zzo {i j pos} : PE X (.Constant (.int i) j pos) (tC (.int i)):=fun _ _ _ H _ I h=>wpAny_Constant_int ⟨.int i,H,I.tok _,⟨_,rfl⟩,h⟩
theorem zw3 {b j pos} : PE X (.Constant (.bool b) j pos) (tC (.bl b)):=fun _ _ _ H _ I h=>Constant_bool ⟨.bl b,H,I,rfl,h⟩
theorem z7l {j pos} : PE X (.Constant .none j pos) (tC .non):=fun _ _ _ H _ I h=>Constant_none ⟨.non,H,I,rfl,h⟩
theorem znr {x j pos} : PE X (.Constant (.str x) j pos) (tC (.str x)):=fun _ _ _ H _ I h=>Calls.Constant_str ⟨.str x,H,I.tok _,⟨_,rfl⟩,h⟩
noncomputable def Gl (X:Cx) (x:Str) : Prop:=X.env.kindOf x=some .globalImplicit
theorem zsq {E:Value -> Shared -> Prop} {pins:List (Addr × Obj)} {s:Shared} {σ:St} {H:Hp} {x:Str} {u:Value} {pos:Pos} {Q:Value -> Shared -> Prop} (I:Inv X pins σ H s) (hg:Gl X x) (hm:X.mg x=some u) (h:Q u s)
  (hd:(x == ("__debug__" : Str))=false:=by decide) : wpAny (model X.prog X.w) X.A (eval (.Name x pos) X.env) Q E s :=
 Calls.Name_function_global I.ok.kind hg (Calls.loadGlobal_global (by rw [I.ok.glob]; exact I.mod.glob.keeps I.bk) hm h) hd
theorem zg4 {E:Value -> Shared -> Prop} {pins:List (Addr × Obj)} {s:Shared} {σ:St} {H:Hp} {x:Str} {u:Value} {pos:Pos} {Q:Value -> Shared -> Prop} (I:Inv X pins σ H s) (hg:Gl X x) (hm:X.mg x=none) (hv:bootBuiltins x=some u) (h:Q u s)
  (hn:x ≠ "__name__":=by decide) (hd:(x == ("__debug__" : Str))=false:=by decide) : wpAny (model X.prog X.w) X.A (eval (.Name x pos) X.env) Q E s:=by
 obtain ⟨mb,h1,h2⟩:=I.mod.blt
 exact Calls.Name_function_global I.ok.kind hg (Calls.loadGlobal_builtin (by rw [I.ok.glob]; exact I.mod.glob.keeps I.bk) hm (by rw [I.ok.blt]; exact h1.keeps I.bk) ((h2 x hn).trans hv) h) hd
theorem z1a {x:Str} {v:V} {u:Value} {pos:Pos} (hg:Gl X x) (hm:X.mg x=none) (hv:bootBuiltins x=some u) (r:za0 v u) (hn:x ≠ "__name__":=by decide) (hd:(x == ("__debug__" : Str))=false:=by decide) : PE X (.Name x pos) (tC v) :=
 fun _ _ _ H _ I h=>zg4 I hg hm hv ⟨v,H,I,r,h⟩ hn hd
variable {a b:Expr} {ta tb:TE} {pos:Pos}
noncomputable def PC (X:Cx) (op:CmpOp) (a b:Expr) (t:TE) : Prop :=
 ∀ (pins:List (Addr × Obj)) (s:Shared) (σ:St) (H:Hp) (Q:VK),Inv X pins σ H s -> t σ H Q ->
  wpAny (model X.prog X.w) X.A (eval a X.env) (fun v s₁=>wpAny (model X.prog X.w) X.A (eval b X.env) (fun u s₂=>wpAny (model X.prog X.w) X.A (compareOp op v u) (EP X pins σ Q) X.xe s₂) X.xe s₁) X.xe s
theorem z0w {op:CmpOp} {t:TE} (h:PC X op a b t) (h1:behindInMarks op b=false:=by first | exact nobehind _ (by decide) (by decide) | rfl) : PE X (.Compare a [op] [b] pos) t:=fun pins s σ H Q I hw=>wpAny_Compare1 (h pins s σ H Q I hw) h1
variable {tA tB':TT} {zcm:List Expr}
noncomputable def z86 (t u:TT) : TT:=fun σ H Q=>t σ H fun c H1=>if c=true then u σ H1 Q else Q false H1
noncomputable def tOr (t u:TT) : TT:=fun σ H Q=>t σ H fun c H1=>if c=true then Q true H1 else u σ H1 Q
noncomputable def z2n (t:TT) : TT:=fun σ H Q=>t σ H fun c H1=>Q (!c) H1
theorem zyk (ha:PT X a tA) : PW X (.BoolOp .And [a] pos) tA:=by
 intro wh pins s σ H Q I h
 refine isTrue_and (thn (ha pins s σ H Q I h) fun c s1 e=>?_)
 cases c with
 | true=>exact isTrue_and_nil e
 | false=>exact e
theorem z02 (ha:PT X a tA) : PW X (.BoolOp .Or [a] pos) tA:=by
 intro wh pins s σ H Q I h
 refine isTrue_or (thn (ha pins s σ H Q I h) fun c s1 e=>?_)
 cases c with
 | false=>exact isTrue_or_nil e
 | true=>exact e
theorem z5z (ha:PT X a tA) (hb:PW X (.BoolOp .And (b :: zcm) pos) tB') : PW X (.BoolOp .And (a :: b :: zcm) pos) (z86 tA tB'):=by
 intro wh pins s σ H Q I h
 refine isTrue_and (thn (ha pins s σ H _ I h) fun c s1 ⟨H1,I1,q1⟩=>?_)
 cases c with
 | true=>exact hb wh pins s1 σ H1 Q I1 q1
 | false=>exact ⟨H1,I1,q1⟩
theorem zyj (ha:PT X a tA) (hb:PW X (.BoolOp .Or (b :: zcm) pos) tB') : PW X (.BoolOp .Or (a :: b :: zcm) pos) (tOr tA tB'):=by
 intro wh pins s σ H Q I h
 refine isTrue_or (thn (ha pins s σ H _ I h) fun c s1 ⟨H1,I1,q1⟩=>?_)
 cases c with
 | true=>exact ⟨H1,I1,q1⟩
 | false=>exact hb wh pins s1 σ H1 Q I1 q1
theorem z7i (ha:PT X a tA) : PT X (.UnaryOp .Not a pos) (z2n tA):=by
 intro pins s σ H Q I h
 exact isTrue_not (ha pins s σ H (fun c H1=>Q (!c) H1) I h)
noncomputable def z0u (ta tb:TE) : TE:=fun σ H Q=>ta σ H fun x H1=>∃ c,x=.bl c /\ if c=true then tb σ H1 Q else Q (.bl false) H1
noncomputable def z3f (ta tb:TE) : TE:=fun σ H Q=>ta σ H fun x H1=>∃ c,x=.bl c /\ if c=true then Q (.bl true) H1 else tb σ H1 Q
noncomputable def zxz (ta:TE) : TE:=fun σ H Q=>ta σ H fun x H1=>∃ c,x=.bl c /\ Q (.bl (!c)) H1
theorem zyn {op} {t:TE} (h:PE X a t) : PE X (.BoolOp op [a] pos) t:=fun pins s σ H Q I hw=>BoolOp_one (h pins s σ H Q I hw)
theorem z05 (ha:PE X a ta) (hb:PE X (.BoolOp .And (b :: zcm) pos) tb) : PE X (.BoolOp .And (a :: b :: zcm) pos) (z0u ta tb):=by
 intro pins s σ H Q I h
 refine BoolOp_and (thn (ha pins s σ H _ I h) fun v s1 ⟨x,H1,I1,r1,q1⟩=>?_)
 obtain ⟨c,rfl,q1⟩:=q1
 cases r1
 refine wpAny_truthy_bool ?_
 cases c with
 | true=>exact hb pins s1 σ H1 Q I1 q1
 | false=>exact ⟨.bl false,H1,I1,rfl,q1⟩
theorem z7d (ha:PE X a ta) (hb:PE X (.BoolOp .Or (b :: zcm) pos) tb) : PE X (.BoolOp .Or (a :: b :: zcm) pos) (z3f ta tb):=by
 intro pins s σ H Q I h
 refine BoolOp_or (thn (ha pins s σ H _ I h) fun v s1 ⟨x,H1,I1,r1,q1⟩=>?_)
 obtain ⟨c,rfl,q1⟩:=q1
 cases r1
 refine wpAny_truthy_bool ?_
 cases c with
 | false=>exact hb pins s1 σ H1 Q I1 q1
 | true=>exact ⟨.bl true,H1,I1,rfl,q1⟩
theorem z7z (ha:PE X a ta) : PE X (.UnaryOp .Not a pos) (zxz ta):=by
 intro pins s σ H Q I h
 refine UnaryOp_ (thn (ha pins s σ H _ I h) fun v s1 ⟨x,H1,I1,r1,q1⟩=>?_)
 obtain ⟨c,rfl,q1⟩:=q1
 cases r1
 exact not_of (wpAny_truthy_bool ⟨.bl (!c),H1,I1,rfl,q1⟩)
end
noncomputable def SqL (K:PySem.W.Frag) (H:Hp) (a:Addr) (xs:List V) : Prop :=
 Rd H a (.lst xs) \/
  ∃ (o:Obj) (its:Array Value) (n:Nat),K.lookup a=some o /\ o.cls=.type "list" /\ o.dict=none /\ o.data=.seq its n /\ its.size <= sizeLine /\ za1 xs its.toList
noncomputable def SqT (K:PySem.W.Frag) (H:Hp) (a:Addr) (xs:List V) : Prop :=
 Rd H a (.tup xs) \/
  ∃ (o:Obj) (its:Array Value) (n:Nat),K.lookup a=some o /\ o.cls=.type "tuple" /\ o.data=.seq its n /\ its.size <= sizeLine /\ za1 xs its.toList
noncomputable def z8n : Value -> Option V
 | .none=>some .non
 | .bool b=>some (.bl b)
 | .int i _=>some (.int i)
 | .str x _=>some (.str x)
 | .bytes b _=>some (.byt b)
 | .float b _=>some (.flt b)
 | .ref a=>some (.ref a)
 | .type n=>some (.ty n)
 | _=>none
theorem za0.abs {x:V} {u:Value} (r:za0 x u) : z8n u=some x:=by
 cases x with
 | non=>cases r; rfl
 | bl _=>cases r; rfl
 | int _=>obtain ⟨t,rfl⟩:=r; rfl
 | str _=>obtain ⟨t,rfl⟩:=r; rfl
 | byt _=>obtain ⟨t,rfl⟩:=r; rfl
 | flt _=>obtain ⟨t,rfl⟩:=r; rfl
 | ref _=>cases r; rfl
 | ty _=>cases r; rfl
theorem za0.inj {x y:V} {u:Value} (r:za0 x u) (q:za0 y u) : x=y:=Option.some.inj (r.abs.symm.trans q.abs)
theorem za1.inj : ∀ {xs ys:List V} {us:List Value},za1 xs us -> za1 ys us -> xs=ys
 | _,_,_,.nil,.nil=>rfl
 | _,_,_,.cons r t,.cons r' t'=>by rw [r.inj r',za1.inj t t']
section
variable {X:Cx} {pins:List (Addr × Obj)} {σ:St} {H:Hp} {s:Shared} {a:Addr} {xs ys:List V}
theorem SqL.of {K:PySem.W.Frag} (h:H a=some (.lst xs)) : SqL K H a xs:=.inl (.inl h)
theorem SqT.of {K:PySem.W.Frag} (h:H a=some (.tup xs)) : SqT K H a xs:=.inl (.inl h)
theorem Inv.list (I:Inv X pins σ H s) (h:SqL X.K H a xs) : ∃ its : List Value,za1 xs its /\ PlainL s.heap a its.toArray /\ xs.length <= sizeLine:=by
 rcases h with h | ⟨o,its,n,hk,hc,hd,hs,hz,r⟩
 ·obtain ⟨z,its,n,r,e⟩:=h.ok I.hok
  exact ⟨its,r,⟨_,n,e,rfl,rfl,rfl⟩,z⟩
 ·refine ⟨its.toList,r,⟨o,n,I.kIn a o hk,hc,hd,by simpa using hs⟩,?_⟩
  have e:=r.length
  simp only [Array.length_toList] at e
  omega
theorem Inv.tuple (I:Inv X pins σ H s) (h:SqT X.K H a xs) : ∃ its : List Value,za1 xs its /\ IsTup s.heap a its.toArray /\ xs.length <= sizeLine:=by
 rcases h with h | ⟨o,its,n,hk,hc,hs,hz,r⟩
 ·obtain ⟨z,its,r,p⟩:=h.ok I.hok
  exact ⟨its,r,p,z⟩
 ·refine ⟨its.toList,r,⟨o,I.kIn a o hk,hc,n,by simpa using hs⟩,?_⟩
  have e:=r.length
  simp only [Array.length_toList] at e
  omega
theorem Inv.list_inj (I:Inv X pins σ H s) (h:SqL X.K H a xs) (h':SqL X.K H a ys) : xs=ys:=by
 obtain ⟨its,r,⟨o,n,e,_,_,d⟩,_⟩:=I.list h
 obtain ⟨its',r',⟨o',n',e',_,_,d'⟩,_⟩:=I.list h'
 rw [e] at e'; cases e'
 rw [d] at d'
 injection d' with d1 _
 have : its=its':=by simpa using congrArg Array.toList d1
 subst this
 exact r.inj r'
theorem Inv.tuple_inj (I:Inv X pins σ H s) (h:SqT X.K H a xs) (h':SqT X.K H a ys) : xs=ys:=by
 obtain ⟨its,r,⟨o,e,_,n,d⟩,_⟩:=I.tuple h
 obtain ⟨its',r',⟨o',e',_,n',d'⟩,_⟩:=I.tuple h'
 rw [e] at e'; cases e'
 rw [d] at d'
 injection d' with d1 _
 have : its=its':=by simpa using congrArg Array.toList d1
 subst this
 exact r.inj r'
end
noncomputable abbrev Cx.wish (X:Cx) (E:Value -> Shared -> Prop) : Cx:={ X with xe:=E }
noncomputable abbrev Cx.nox (X:Cx) : Cx:=X.wish fun _ _=>False
theorem Cx.Ok.wish {X:Cx} (ok:X.Ok) (E:Value -> Shared -> Prop) : (X.wish E).Ok :=
 ⟨ok.mod,ok.kind,ok.glob,ok.blt,ok.above,ok.inj,ok.has,ok.cab,ok.hd,ok.frames,ok.stk,ok.exf,ok.bs,ok.bsz,ok.noex,ok.exfs,ok.funs,ok.frf⟩
theorem Cx.Ok.unwish {X:Cx} {E:Value -> Shared -> Prop} (ok:(X.wish E).Ok) : X.Ok :=
 ⟨ok.mod,ok.kind,ok.glob,ok.blt,ok.above,ok.inj,ok.has,ok.cab,ok.hd,ok.frames,ok.stk,ok.exf,ok.bs,ok.bsz,ok.noex,ok.exfs,ok.funs,ok.frf⟩
section
variable {X:Cx} {pins:List (Addr × Obj)} {σ:St} {H:Hp} {s:Shared} {E:Value -> Shared -> Prop}
theorem Inv.wish (I:Inv X pins σ H s) (E:Value -> Shared -> Prop) : Inv (X.wish E) pins σ H s:=⟨I.ok.wish E,I.os,I.bare,I.base,I.loc,I.cell,I.free,I.freeC,I.pin,I.hok,I.len⟩
theorem Inv.unwish (I:Inv (X.wish E) pins σ H s) : Inv X pins σ H s:=⟨I.ok.unwish,I.os,I.bare,I.base,I.loc,I.cell,I.free,I.freeC,I.pin,I.hok,I.len⟩
theorem SP.unwish {D:zhc} {f:Flow} {s':Shared} (h:SP (X.wish E) pins D f s') : SP X pins D f s':=by
 cases f with
 | next=>obtain ⟨σ',H',I,q⟩:=h; exact ⟨σ',H',I.unwish,q⟩
 | brk=>obtain ⟨σ',H',I,q⟩:=h; exact ⟨σ',H',I.unwish,q⟩
 | cont=>obtain ⟨σ',H',I,q⟩:=h; exact ⟨σ',H',I.unwish,q⟩
 | ret u=>obtain ⟨v,σ',H',I,r,q⟩:=h; exact ⟨v,σ',H',I.unwish,r,q⟩
theorem PSs.nox {st:List Stmt} {t:TS} (h:PSs X.nox st t) : PSs X st t:=fun pins s σ H D I hw =>
 wpAny_mono (h pins s σ H D (I.wish _) hw) (fun _ _ q=>q.unwish) fun _ _ z=>False.elim z
end
section
variable {X:Cx} {st:Stmt} {zcm:List Stmt} {t u:TS} {e:Expr} {te:TE} {pos:Pos}
noncomputable def z13 : TS:=fun D σ H=>D.nx σ H
noncomputable def z8b (t u:TS) : TS:=fun D σ H=>t { D with nx:=u D } σ H
theorem zsz : PSs X [] z13:=fun _ _ σ H _ I h=>wpAny_execs_nil ⟨σ,H,I,h⟩
theorem zts (h1:PS X st t) (h2:PSs X zcm u) : PSs X (st :: zcm) (z8b t u):=by
 intro pins s σ H D I h
 refine wpAny_execs_cons (thn (h1 pins s σ H { D with nx:=u D } I h) fun f s1 q=>?_)
 cases f with
 | next =>
  obtain ⟨σ',H',I',q⟩:=q
  exact h2 pins s1 σ' H' D I' q
 | ret v=>exact q
 | brk=>exact q
 | cont=>exact q
theorem z31 (h1:PS X st t) : PSs X [st] t:=by
 intro pins s σ H D I h
 refine wpAny_execs_cons (thn (h1 pins s σ H D I h) fun f s1 q=>?_)
 cases f with
 | next=>exact wpAny_execs_nil q
 | ret v=>exact q
 | brk=>exact q
 | cont=>exact q
theorem Inv.quiet {pins:List (Addr × Obj)} {σ:St} {H:Hp} {s:Shared} (I:Inv X pins σ H s) : interactive X.env=false:=by simp [interactive,I.ok.kind]
noncomputable def zlj (te:TE) : TS:=fun D σ H=>te σ H fun _ H1=>D.nx σ H1
theorem zek (he:PE X e te) (hs:swapsWith e none pos.line X.env=pure false:=by rfl) : PS X (.Expr e pos) (zlj te):=by
 intro pins s σ H D I h
 exact wpAny_Expr_any (thn (he pins s σ H _ I h) fun v s1 ⟨x,H1,I1,r1,q1⟩=>⟨σ,H1,I1,q1⟩) I.quiet hs
noncomputable def z6t (te:TE) : TS:=fun D σ H=>te σ H D.rt
theorem znn (he:PE X e te) : PS X (.Return (some e) pos) (z6t te):=by
 intro pins s σ H D I h
 exact wpAny_Return_some (thn (he pins s σ H _ I h) fun v s1 ⟨x,H1,I1,r1,q1⟩=>⟨x,σ,H1,I1,r1,q1⟩)
noncomputable def z2d (c:TT) (t u:TS) : TS:=fun D σ H=>c σ H fun b H1=>if b=true then t D σ H1 else u D σ H1
theorem z8v {c:Expr} {a b:List Stmt} {tc:TT} (hc:PT X c tc) (ha:PSs X a t) (hb:PSs X b u) : PS X (.If c a b pos) (z2d tc t u):=by
 intro pins s σ H D I h
 refine wpAny_If (thn (hc pins s σ H _ I h) fun d s1 ⟨H1,I1,q1⟩=>?_)
 cases d with
 | true=>exact ha pins s1 σ H1 D I1 q1
 | false=>exact hb pins s1 σ H1 D I1 q1
end
noncomputable abbrev TG:=V -> St -> Hp -> (St -> Hp -> Prop) -> Prop
noncomputable abbrev TGs:=List V -> St -> Hp -> (St -> Hp -> Prop) -> Prop
noncomputable def PG (X:Cx) (target:Expr) (t:TG) : Prop :=
 ∀ (pins:List (Addr × Obj)) (s:Shared) (σ:St) (H:Hp) (v:V) (u:Value) (Q:St -> Hp -> Prop),Inv X pins σ H s -> za0 v u -> t v σ H Q ->
  wpAny (model X.prog X.w) X.A (assign target X.env u) (fun _ s'=>∃ σ' H',Inv X pins σ' H' s' /\ Q σ' H') X.xe s
noncomputable def PGs (X:Cx) (ts:List Expr) (t:TGs) : Prop :=
 ∀ (pins:List (Addr × Obj)) (s:Shared) (σ:St) (H:Hp) (vs:List V) (us:List Value) (Q:St -> Hp -> Prop),Inv X pins σ H s -> za1 vs us -> t vs σ H Q ->
  wpAny (model X.prog X.w) X.A (assignInOrder ((assignEach ts X.env).map (·.2)) us) (fun _ s'=>∃ σ' H',Inv X pins σ' H' s' /\ Q σ' H') X.xe s
noncomputable abbrev zon:=V -> V -> V -> Hp -> (Hp -> Prop) -> Prop
noncomputable def zsg (X:Cx) (t:zon) : Prop :=
 ∀ (pins:List (Addr × Obj)) (s:Shared) (σ:St) (H:Hp) (o i v:V) (ov iv u:Value) (Q:Hp -> Prop),Inv X pins σ H s -> za0 o ov -> za0 i iv -> za0 v u -> t o i v H Q ->
  wpAny (model X.prog X.w) X.A (setItem ov iv u) (fun _ s'=>∃ H',Inv X pins σ H' s' /\ Q H') X.xe s
section
variable {X:Cx} {pos:Pos}
noncomputable def zhi (i:Nat) : TG:=fun v σ H Q=>Q (σ.set i (some v)) H
theorem zue {i:Nat} {x:Str} (hN:X.N.Nodup) (hi:X.N[i]?=some x) (hx:Loc X.env.scope x) (hf:X.fn x=true \/ X.env.scope.names.lookup x=some .local:=by first | exact .inl rfl | exact .inr rfl | assumption) : PG X (.Name x pos) (zhi i):=by
 intro pins s σ H v u Q I r h
 exact wpAny_assign_Name (zvb I hN hi hx r (fun s' I'=>⟨_,H,I',h⟩) hf)
noncomputable def zz9 : TGs:=fun vs σ H Q=>vs=[] /\ Q σ H
noncomputable def zwz (t:TG) (u:TGs) : TGs:=fun vs σ H Q=>∃ v r,vs=v :: r /\ t v σ H fun σ' H'=>u r σ' H' Q
theorem z73 : PGs X [] zz9:=by
 intro pins s σ H vs us Q I r h
 obtain ⟨e,h⟩:=h
 subst e
 cases r
 exact assignInOrder_nil ⟨σ,H,I,h⟩
theorem zxn {e:Expr} {es:List Expr} {t:TG} {u:TGs} (h1:PG X e t) (h2:PGs X es u)
  (hs:(assignEach (e :: es) X.env).map (·.2)=assign e X.env :: (assignEach es X.env).map (·.2):=by rfl) : PGs X (e :: es) (zwz t u):=by
 intro pins s σ H vs us Q I r h
 obtain ⟨v,vr,e1,h⟩:=h
 subst e1
 cases r with
 | cons r rr =>
  rw [hs]
  refine assignInOrder_cons (thn (h1 pins s σ H _ _ _ I r h) fun _ s1 ⟨σ1,H1,I1,q1⟩=>?_)
  exact h2 pins s1 σ1 H1 _ _ Q I1 rr q1
noncomputable def z7p (K:PySem.W.Frag) (n:Nat) (t:TGs) : TG:=fun v σ H Q=>∃ a xs,v=.ref a /\ SqT K H a xs /\ xs.length=n /\ t xs σ H Q
theorem z22 {es:List Expr} {k:Nat} {t:TGs} {n:Nat} (hc:X.calm=true) (h:PGs X es t)
  (hn:(assignEach es X.env).length=n:=by rfl) (hst:(assignEach es X.env).findIdx? (·.1)=none:=by rfl) : PG X (.Tuple es k pos) (z7p X.K n t):=by
 intro pins s σ H v u Q I r hw
 obtain ⟨a,xs,e1,hq,hl,hw⟩:=hw
 subst e1
 cases r
 obtain ⟨its,rv,ht,hz⟩:=I.tuple hq
 refine assign_Tuple_tuple (I.ok.hd hc) ht (by simp [hn,<- hl,rv.length]) hst fun h' hx=>?_
 have I1 : Inv X pins σ H { s with heap:=h' }:=I.kept (t':=s.toks) fun b o e=>hx b o (Nat.ne_of_lt (Heap.lt_size e)) e
 exact h pins _ σ H xs _ Q I1 (by simpa using rv) hw
noncomputable def zuw (to ti:TE) (t:zon) : TG:=fun v σ H Q=>to σ H fun o H1=>ti σ H1 fun i H2=>t o i v H2 fun H3=>Q σ H3
theorem zyc {o i:Expr} {to ti:TE} {t:zon} (ho:PE X o to) (hi:PE X i ti) (hs:zsg X t)
  (ha:∀ v,assign (.Subscript o i pos) X.env v=(do
   let ov <- holding [v] (eval o X.env)
   let iv <- holding [v,ov] (eval i X.env)
   standAt pos
   holding [v,ov,iv] (setItem ov iv v)
   release [v,ov,iv] []):=by intro _; rfl) : PG X (.Subscript o i pos) (zuw to ti t):=by
 intro pins s σ H v u Q I r h
 rw [ha]
 refine wpAny_bind (wpAny_holding (thn (ho pins s σ H _ I h) fun ov s1 ⟨x,H1,I1,r1,q1⟩=>?_))
 refine wpAny_bind (wpAny_holding (thn (hi pins s1 σ H1 _ I1 q1) fun iv s2 ⟨y,H2,I2,r2,q2⟩=>?_))
 refine wpAny_bind (wpAny_standAt (wpAny_bind (wpAny_holding (thn (hs pins s2 σ H2 x y v ov iv u _ I2 r1 r2 r q2) fun _ s3 ⟨H3,I3,q3⟩=>?_))))
 exact wpAny_release ⟨σ,H3,I3,q3⟩
noncomputable def zic (te:TE) (g:TG) : TS:=fun D σ H=>te σ H fun x H1=>g x σ H1 D.nx
theorem zvp {tg e:Expr} {te:TE} {g:TG} (he:PE X e te) (hg:PG X tg g) (hs:swapsWithSole [tg] e pos.line X.env=pure false:=by rfl) (hw:swappedStores [tg] e X.env=pure none:=by rfl)
  (h1:(assignEach [tg] X.env).map (·.2)=[assign tg X.env]:=by rfl) : PS X (.Assign [tg] e pos) (zic te g):=by
 intro pins s σ H D I h
 refine wpAny_Assign_stores (thn (he pins s σ H _ I h) fun v s1 ⟨x,H1,I1,r1,q1⟩=>?_) hs hw
 rw [h1]
 exact thn (hg pins s1 σ H1 x v _ I1 r1 q1) fun _ s2 q=>q
theorem znu {i:Nat} {x:Str} {e:Expr} {te:TE} {pos':Pos} (hN:X.N.Nodup) (hi:X.N[i]?=some x) (hx:Loc X.env.scope x) (he:PE X e te) (hs:swapsWith e (some (.Name x pos')) pos.line X.env=pure false:=by rfl) (hf:X.fn x=true \/ X.env.scope.names.lookup x=some .local:=by first | exact .inl rfl | exact .inr rfl | assumption) :
  PS X (.Assign [.Name x pos'] e pos) (zic te (zhi i)):=by
 intro pins s σ H D I h
 refine wpAny_Assign_Name (thn (he pins s σ H _ I h) fun v s1 ⟨y,H1,I1,r1,q1⟩=>?_) hs
 exact zvb I1 hN hi hx r1 (fun s2 I2=>⟨_,H1,I2,q1⟩) hf
end
section
variable {X:Cx} {pos:Pos}
noncomputable def zyt (c:TT) (tb:TS) : TS:=fun D σ H=>∃ W : Nat -> St -> Hp -> Prop,(∃ m,W m σ H) /\ ∀ m σ H,W m σ H ->
 c σ H fun b H1=>if b=true then ∃ N : St -> Hp -> Prop,(∀ σ' H',N σ' H' -> ∃ m',m' < m /\ W m' σ' H') /\ tb { D with nx:=N,ct:=N,bk:=D.nx } σ H1 else D.nx σ H1
theorem z5w {c:Expr} {body:List Stmt} {tc:TT} {tb:TS} (hp:PassesOwn (model X.prog X.w) X.A X.env X.xe) (hc:PT X c tc) (hb:PSs X body tb) : PS X (.While c body [] pos) (zyt tc tb):=by
 intro pins s σ H D I h
 obtain ⟨W,⟨m0,w0⟩,turn⟩:=h
 refine wpAny_While (codeAny_whileLoop (fun n s'=>∃ σ' H',Inv X pins σ' H' s' /\ W n σ' H') ?_ m0 ⟨σ,H,I,w0⟩)
 rintro n s1 ⟨σ1,H1,I1,w1⟩
 refine wpAny_passesOwn hp (thn (hc pins s1 σ1 H1 _ I1 (turn n σ1 H1 w1)) fun b s2 ⟨H2,I2,q2⟩=>?_)
 cases b with
 | true =>
  obtain ⟨N,hN,q2⟩:=q2
  rw [if_pos rfl]
  refine wpAny_passesOwn hp (thn (hb pins s2 σ1 H2 _ I2 q2) fun f s3 q3=>?_)
  cases f with
  | next =>
   obtain ⟨σ3,H3,I3,n3⟩:=q3
   obtain ⟨m',hm,w3⟩:=hN σ3 H3 n3
   exact ⟨m',hm,σ3,H3,I3,w3⟩
  | cont =>
   obtain ⟨σ3,H3,I3,n3⟩:=q3
   obtain ⟨m',hm,w3⟩:=hN σ3 H3 n3
   exact ⟨m',hm,σ3,H3,I3,w3⟩
  | brk=>exact q3
  | ret v=>exact q3
 | false =>
  rw [if_neg Bool.false_ne_true]
  exact wpAny_execs_nil ⟨σ1,H2,I2,q2⟩
end
structure It where
 go : Nat -> Hp -> Prop
 yld : Nat -> Hp -> V -> Hp -> Prop
 stop : Nat -> Hp -> Prop
noncomputable def zft (X:Cx) (pins:List (Addr × Obj)) (H:Hp) (b:Addr) : Prop :=
 H b=none /\ b ≠ X.env.locals /\ b ∉ X.fs /\ (b ∈ X.ex \/ X.s₀.heap.objs.size <= b) /\ (∀ x c,X.env.cells.lookup x=some c -> c ≠ b) /\ ∀ p ∈ X.pn ++ pins,p.1 ≠ b
theorem Inv.fpOk {X:Cx} {pins:List (Addr × Obj)} {σ:St} {H H':Hp} {s:Shared} {b:Addr} (I:Inv X pins σ H s) (hb:s.heap.objs.size <= b) (hn:H' b=none) : zft X pins H' b:=by
 refine ⟨hn,Nat.ne_of_gt (Nat.lt_of_lt_of_le I.lt hb),I.nofs hb,.inr (Nat.le_trans I.sz hb),fun x c e z=>?_,fun p hp z=>?_⟩
 ·obtain ⟨v,q⟩:=I.cell x c e
  exact absurd (Nat.lt_of_lt_of_le q.lt (by rw [z]; exact hb)) (Nat.lt_irrefl _)
 ·exact absurd (Nat.lt_of_lt_of_le (Heap.lt_size (I.pin p hp).1) (by rw [z]; exact hb)) (Nat.lt_irrefl _)
structure zim (P:Program) (w:World) (K:PySem.W.Frag) (tg:Expr) (J:It) (fp:List Addr) (it:Addr) (tn:Nat -> Heap -> Prop) : Prop where
 mem : it ∈ fp
 obj : ∀ i h,tn i h -> ∀ b ∈ fp,∃ o,h.get? b=some o /\ ∀ v,o.data ≠ .cell v
 keep : ∀ i h h',tn i h -> (∀ b ∈ fp,∀ o,h.get? b=some o -> h'.get? b=some o) -> tn i h'
 item : ∀ (X:Cx),X.prog=P -> X.w=w -> X.K=K -> X.calm=true -> ∀ (i:Nat) (pins:List (Addr × Obj)) (s:Shared) (σ:St) (H:Hp) (E:Value -> Shared -> Prop),Inv X pins σ H s -> (∀ b ∈ fp,zft X pins H b) -> tn i s.heap -> J.go i H ->
  wpAny (model P w) X.A (pyNext (.ref it)) (fun r s1=>∃ u,r=some u /\
   wpAny (model P w) X.A (letOwnedTupleGo tg (.ref it) u) (fun _ s2=>∃ x H',Inv X pins σ H' s2 /\ za0 x u /\ J.yld i H x H' /\ tn (i + 1) s2.heap /\ ∀ b ∈ fp,H' b=none) E s1) E s
 done : ∀ (X:Cx),X.prog=P -> X.w=w -> X.K=K -> X.calm=true -> ∀ (i:Nat) (pins:List (Addr × Obj)) (s:Shared) (σ:St) (H:Hp) (E:Value -> Shared -> Prop),Inv X pins σ H s -> (∀ b ∈ fp,zft X pins H b) -> tn i s.heap -> J.stop i H ->
  wpAny (model P w) X.A (pyNext (.ref it)) (fun r s1=>r=none /\ Inv X pins σ H s1) E s
 self : ∀ (A:Around) (i:Nat) (s:Shared) (Q:Value -> Shared -> Prop) (E:Value -> Shared -> Prop),tn i s.heap -> Q (.ref it) s -> wpAny (model P w) A (pyIter (.ref it)) Q E s
noncomputable abbrev TI:=St -> Hp -> (It -> Hp -> Prop) -> Prop
noncomputable def PIE (X:Cx) (pins:List (Addr × Obj)) (σ:St) (tg:Expr) (R:It -> Hp -> Prop) (itv:Value) (s2:Shared) : Prop :=
 ∃ (it:Addr) (fp:List Addr) (tn:Nat -> Heap -> Prop) (J:It) (H':Hp),itv=.ref it /\ Inv X pins σ H' s2 /\ zim X.prog X.w X.K tg J fp it tn /\ tn 0 s2.heap /\ (∀ b ∈ fp,zft X pins H' b) /\ R J H'
noncomputable def PI (X:Cx) (tg iter:Expr) (wi:TI) : Prop :=
 ∀ (pins:List (Addr × Obj)) (s:Shared) (σ:St) (H:Hp) (R:It -> Hp -> Prop),Inv X pins σ H s -> wi σ H R ->
  wpAny (model X.prog X.w) X.A (eval iter X.env) (fun v s1=>wpAny (model X.prog X.w) X.A (pyIter v) (PIE X pins σ tg R) X.xe s1) X.xe s
theorem zok {M : Model} {A : Around} {E : Value -> Shared -> Prop} {s : Shared} {tg : Expr} {it : Addr} {u : Value} {o : Obj} {n : String} {vs : Array Value} {Q : Unit -> Shared -> Prop} (ho : s.heap.get? it = some o) (hc : o.cls = .type n) (hd : o.data = .fields vs)
    (hn : ["enumerate", "zip", "dict_itemiterator", "dict_reverseitemiterator", "odict_iterator", "itertools.zip_longest", "itertools.pairwise"].contains n = false) (hQ : Q () s) : wpAny M A (letOwnedTupleGo tg (.ref it) u) Q E s := by
  unfold letOwnedTupleGo
  cases tg <;> first
    | exact wpAny_pure hQ
    | (cases u <;> first
        | exact wpAny_pure hQ
        | (refine wpAny_bind (wpAny_load ho ?_)
           rw [hc, hd]
           show wpAny M A (if (["enumerate", "zip", "dict_itemiterator", "dict_reverseitemiterator", "odict_iterator", "itertools.zip_longest", "itertools.pairwise"].contains n && vs[0]? == some (rawInt _)) = true then _ else _) Q E s
           rw [if_neg (by intro h; rw [hn, Bool.false_and] at h; cases h)]
           exact wpAny_pure hQ))
noncomputable def Itl (K:PySem.W.Frag) (a:Addr) : It :=
 ⟨fun i H=>∃ xs x,SqL K H a xs /\ xs[i]?=some x,fun i H x H'=>H'=H /\ ∀ xs,SqL K H a xs -> xs[i]?=some x,fun i H=>∃ xs,SqL K H a xs /\ xs.length <= i⟩
noncomputable def Itt (K:PySem.W.Frag) (a:Addr) : It :=
 ⟨fun i H=>∃ xs x,SqT K H a xs /\ xs[i]?=some x,fun i H x H'=>H'=H /\ ∀ xs,SqT K H a xs -> xs[i]?=some x,fun i H=>∃ xs,SqT K H a xs /\ xs.length <= i⟩
noncomputable def Itr (lo:Int) (n:Nat) : It:=⟨fun i _=>i < n,fun i H x H'=>H'=H /\ x=.int (lo + i),fun i _=>n <= i⟩
theorem z41 {P:Program} {w:World} {K:PySem.W.Frag} {tg:Expr} (a it:Addr) : zim P w K tg (Itl K a) [it] it (fun i h=>h.IsListIter it a i) where
 mem:=by simp
 obj:=fun i h st b hb=>by
  have e : b=it:=by simpa using hb
  subst e
  obtain ⟨o,e,c,d⟩:=st
  exact ⟨o,e,fun v z=>by rw [d] at z; cases z⟩
 keep:=fun i h h' st k=>st.at fun o e=>k it (by simp) o e
 item:=by
  intro X hP hw hK hc i pins s σ H E I hf st hg
  subst hP hw hK
  obtain ⟨xs,x,hq,hx⟩:=hg
  obtain ⟨its,rv,p,hz⟩:=I.list hq
  obtain ⟨u,hu,ru⟩:=rv.get hx
  obtain ⟨f0,f1,f2,f3,f4,f5⟩:=hf it (by simp)
  refine wpAny_pyNext_list_item st p.isList (x:=u) (by simpa using hu) fun h' st' sb=>?_
  have I1 : Inv X pins σ H { s with heap:=h' }:=I.turned (t':=s.toks) (fun b o hb e=>(sb.2 b hb).trans e) f0 f1 f3 f4 f5
  obtain ⟨o,e,c,d⟩:=id st'
  exact ⟨u,rfl,zok (s:={ s with heap:=h' }) e c d (by decide) ⟨x,H,I1,ru,⟨rfl,fun ys hy=>by rw [I.list_inj hy hq]; exact hx⟩,st',fun b hb=>(hf b hb).1⟩⟩
 done:=by
  intro X hP hw hK hc i pins s σ H E I hf st hg
  subst hP hw hK
  obtain ⟨xs,hq,hx⟩:=hg
  obtain ⟨its,rv,p,hz⟩:=I.list hq
  obtain ⟨f0,f1,f2,f3,f4,f5⟩:=hf it (by simp)
  have hl:=rv.length
  exact wpAny_pyNext_list_end (I.ok.hd hc) st p.isList (by simp; omega) fun h' eb=>⟨rfl,I.turned (t':=s.toks) (fun b o hb e=>eb b o hb e) f0 f1 f3 f4 f5⟩
 self:=fun _ _ _ _ _ st h=>wpAny_pyIter_listiter st h
theorem z3w {P:Program} {w:World} {K:PySem.W.Frag} {tg:Expr} (a it:Addr) : zim P w K tg (Itt K a) [it] it (fun i h=>h.IsTupleIter it a i) where
 mem:=by simp
 obj:=fun i h st b hb=>by
  have e : b=it:=by simpa using hb
  subst e
  obtain ⟨o,e,c,d⟩:=st
  exact ⟨o,e,fun v z=>by rw [d] at z; cases z⟩
 keep:=fun i h h' st k=>st.at fun o e=>k it (by simp) o e
 item:=by
  intro X hP hw hK hc i pins s σ H E I hf st hg
  subst hP hw hK
  obtain ⟨xs,x,hq,hx⟩:=hg
  obtain ⟨its,rv,p,hz⟩:=I.tuple hq
  obtain ⟨u,hu,ru⟩:=rv.get hx
  obtain ⟨f0,f1,f2,f3,f4,f5⟩:=hf it (by simp)
  refine wpAny_pyNext_tuple_item st (show s.heap.IsTuple a its.toArray from p) (x:=u) (by simpa using hu) fun h' st' sb=>?_
  have I1 : Inv X pins σ H { s with heap:=h' }:=I.turned (t':=s.toks) (fun b o hb e=>(sb.2 b hb).trans e) f0 f1 f3 f4 f5
  obtain ⟨o,e,c,d⟩:=id st'
  exact ⟨u,rfl,zok (s:={ s with heap:=h' }) e c d (by decide) ⟨x,H,I1,ru,⟨rfl,fun ys hy=>by rw [I.tuple_inj hy hq]; exact hx⟩,st',fun b hb=>(hf b hb).1⟩⟩
 done:=by
  intro X hP hw hK hc i pins s σ H E I hf st hg
  subst hP hw hK
  obtain ⟨xs,hq,hx⟩:=hg
  obtain ⟨its,rv,p,hz⟩:=I.tuple hq
  obtain ⟨f0,f1,f2,f3,f4,f5⟩:=hf it (by simp)
  have hl:=rv.length
  exact wpAny_pyNext_tuple_end (I.ok.hd hc) st (show s.heap.IsTuple a its.toArray from p) (by simp; omega) fun h' eb=>⟨rfl,I.turned (t':=s.toks) (fun b o hb e=>eb b o hb e) f0 f1 f3 f4 f5⟩
 self:=fun _ _ _ _ _ st h=>wpAny_pyIter_tupleiter st h
theorem z0t {P:Program} {w:World} {K:PySem.W.Frag} {tg:Expr} (it:Addr) (lo:Int) (n:Nat) : zim P w K tg (Itr lo n) [it] it (fun i h=>IsRangeIter h it (lo + (i:Nat) * 1) ((n:Int) - (i:Nat)) 1) where
 mem:=by simp
 obj:=fun i h st b hb=>by
  have e : b=it:=by simpa using hb
  subst e
  exact ⟨_,st,fun v z=>by
   have z' : Data.fields _=Data.cell v:=z
   cases z'⟩
 keep:=fun i h h' st k=>k it (by simp) _ st
 item:=by
  intro X hP hw hK hc i pins s σ H E I hf st hg
  subst hP hw hK
  obtain ⟨f0,f1,f2,f3,f4,f5⟩:=hf it (by simp)
  have W:=Walks.range (prog:=X.prog) (w:=X.w) (I.ok.hd hc) it lo 1 n
  refine W.item i s _ _ hg st fun v h' tk hv st' kk=>?_
  obtain ⟨t,rfl⟩:=hv
  have I1 : Inv X pins σ H { s with heap:=h',toks:=tk }:=I.turned (fun b o hb e=>kk b o (by simpa using hb) e) f0 f1 f3 f4 f5
  refine ⟨_,rfl,zok (s:={ s with heap:=h',toks:=tk }) (n:="range_iterator") st' rfl rfl (by decide) ⟨.int (lo + i),H,I1,⟨t,?_⟩,⟨rfl,rfl⟩,st',fun b hb=>(hf b hb).1⟩⟩
  rw [Int.mul_one]
 done:=by
  intro X hP hw hK hc i pins s σ H E I hf st hg
  subst hP hw hK
  obtain ⟨f0,f1,f2,f3,f4,f5⟩:=hf it (by simp)
  exact wpAny_pyNext_range_end (I.ok.hd hc) st (by have:n <= i:=hg; omega) fun h' eb=>⟨rfl,I.turned (t':=s.toks) (fun b o hb e=>eb b o hb e) f0 f1 f3 f4 f5⟩
 self:=fun _ _ _ _ _ st h=>wpAny_pyIter_rangeiter st h
section
variable {X:Cx} {tg:Expr}
noncomputable def z30 (K:PySem.W.Frag) (tl:TE) : TI:=fun σ H R=>tl σ H fun x H1=>∃ a,x=.ref a /\ (∃ xs,SqL K H1 a xs) /\ R (Itl K a) H1
noncomputable def zzr (K:PySem.W.Frag) (tl:TE) : TI:=fun σ H R=>tl σ H fun x H1=>∃ a,x=.ref a /\ (∃ xs,SqT K H1 a xs) /\ R (Itt K a) H1
theorem zs6 {l:Expr} {tl:TE} (hl:PE X l tl) : PI X tg l (z30 X.K tl):=by
 intro pins s σ H R I h
 refine thn (hl pins s σ H _ I h) fun v s1 ⟨x,H1,I1,r1,q1⟩=>?_
 obtain ⟨a,e,⟨xs,hq⟩,q⟩:=q1
 subst e
 cases r1
 obtain ⟨its,rv,p,hz⟩:=I1.list hq
 refine wpAny_pyIter_list p.isList ?_
 refine ⟨s1.heap.objs.size,[s1.heap.objs.size],_,_,H1,rfl,I1.kept (t':=s1.toks) fun b o e=>Heap.get?_push_of_some _ e,z41 a _,⟨_,Heap.get?_push_size _ rfl,rfl,rfl⟩,fun b hb=>?_,q⟩
 have e : b=s1.heap.objs.size:=by simpa using hb
 subst e
 exact I1.fpOk (Nat.le_refl _) (I1.hok.fresh (Nat.le_refl _))
theorem zy9 {l:Expr} {tl:TE} (hl:PE X l tl) : PI X tg l (zzr X.K tl):=by
 intro pins s σ H R I h
 refine thn (hl pins s σ H _ I h) fun v s1 ⟨x,H1,I1,r1,q1⟩=>?_
 obtain ⟨a,e,⟨xs,hq⟩,q⟩:=q1
 subst e
 cases r1
 obtain ⟨its,rv,p,hz⟩:=I1.tuple hq
 refine wpAny_pyIter_tuple (show s1.heap.IsTuple a its.toArray from p) ?_
 refine ⟨s1.heap.objs.size,[s1.heap.objs.size],_,_,H1,rfl,I1.kept (t':=s1.toks) fun b o e=>Heap.get?_push_of_some _ e,z3w a _,⟨_,Heap.get?_push_size _ rfl,rfl,rfl⟩,fun b hb=>?_,q⟩
 have e : b=s1.heap.objs.size:=by simpa using hb
 subst e
 exact I1.fpOk (Nat.le_refl _) (I1.hok.fresh (Nat.le_refl _))
theorem z1f {pins:List (Addr × Obj)} {σ:St} {H:Hp} {s:Shared} {R:It -> Hp -> Prop} {E:Value -> Shared -> Prop} {lo hi:Int} {t u v:Tok} {tk:Nat} (I:Inv X pins σ H s) (h1:-(2 ^ 62) <= lo) (h2:lo < 2 ^ 62) (h3:-(2 ^ 62) <= hi) (h4:hi < 2 ^ 62)
  (q:R (Itr lo (hi - lo).toNat) H) : wpAny (model X.prog X.w) X.A (pyIter (.ref s.heap.objs.size)) (PIE X pins σ tg R) E { s with heap:=s.heap.push { cls:=.type "range",data:=.fields #[.int lo t,.int hi u,.int 1 v] },toks:=tk }:=by
 refine wpAny_pyIter_range (IsRange.new ..) (small_one h1 h2 h3 h4) ?_
 have I1 : Inv X pins σ H { s with heap:=s.heap.push { cls:=.type "range",data:=.fields #[.int lo t,.int hi u,.int 1 v] },toks:=tk }:=I.kept fun b o e=>Heap.get?_push_of_some _ e
 refine ⟨(s.heap.push { cls:=.type "range",data:=.fields #[.int lo t,.int hi u,.int 1 v] }).objs.size,[(s.heap.push { cls:=.type "range",data:=.fields #[.int lo t,.int hi u,.int 1 v] }).objs.size],_,_,H,rfl,
  I1.kept (t':=tk) fun b o e=>Heap.get?_push_of_some _ e,z0t _ lo (hi - lo).toNat,?_,fun b hb=>?_,q⟩
 ·have e1 : lo + ((0 : Nat) : Int) * 1=lo:=by simp
  have e2 : (((hi - lo).toNat : Nat) : Int) - ((0 : Nat) : Int)=Builtin.Range.rangeSize lo hi 1:=by rw [rangeSize_one]; split <;> omega
  show IsRangeIter _ _ (lo + ((0 : Nat) : Int) * 1) ((((hi - lo).toNat : Nat) : Int) - ((0 : Nat) : Int)) 1
  rw [e1,e2]
  exact Heap.get?_push_size _ rfl
 ·have e : b=(s.heap.push { cls:=.type "range",data:=.fields #[.int lo t,.int hi u,.int 1 v] }).objs.size:=by simpa using hb
  subst e
  exact I1.fpOk (Nat.le_refl _) (I1.hok.fresh (Nat.le_refl _))
noncomputable def zyu (ta:TA) : TI:=fun σ H R=>ta σ H fun vs H1=>∃ j : Int,vs=[.int j] /\ -(2 ^ 62) <= j /\ j < 2 ^ 62 /\ R (Itr 0 j.toNat) H1
theorem z7t {a:Expr} {ta:TA} {p pos:Pos} (hg:Gl X "range") (hm:X.mg "range"=none) (ha:PA X [a] ta) (hs:starEach [a] X.env=[(false,eval a X.env)]:=by rfl) : PI X tg (.Call (.Name "range" p) [a] [] pos) (zyu ta):=by
 intro pins s σ H R I h
 refine Call_ (zg4 I hg hm boot_range (PyProof.Rows.callWith_type1 (thn (ha pos pins s σ H _ I h) fun us s1 ⟨vs,H1,I1,r1,q1⟩=>?_) hs rfl))
 obtain ⟨j,e,q1,q2,q⟩:=q1
 subst e
 cases r1 with
 | cons r rr =>
  cases rr
  obtain ⟨t,rfl⟩:=r
  exact call_range_1 (z1f I1 (by omega) (by omega) q1 q2 (by simpa using q))
noncomputable def z1d (wi:TI) (g:TG) (tb:TS) : TS:=fun D σ H=>wi σ H fun J H1=>∃ W : Nat -> Nat -> St -> Hp -> Prop,(∃ m,W 0 m σ H1) /\ ∀ i m σ H,W i m σ H ->
 (J.stop i H /\ D.nx σ H) \/ (J.go i H /\ ∃ N : St -> Hp -> Prop,(∀ σ' H',N σ' H' -> ∃ m',m' < m /\ W (i + 1) m' σ' H') /\ ∀ x H',J.yld i H x H' -> g x σ H' fun σ2 H2=>tb { D with nx:=N,ct:=N,bk:=D.nx } σ2 H2)
noncomputable def zln (fp:List Addr) (h:Heap) : List (Addr × Obj):=fp.filterMap fun b=>(h.get? b).map fun o=>(b,o)
theorem zob {fp:List Addr} {h:Heap} {b:Addr} {o:Obj} (hb:b ∈ fp) (e:h.get? b=some o) : (b,o) ∈ zln fp h:=List.mem_filterMap.mpr ⟨b,hb,by rw [e]; rfl⟩
theorem z2t {fp:List Addr} {h:Heap} {p:Addr × Obj} (hp:p ∈ zln fp h) : p.1 ∈ fp /\ h.get? p.1=some p.2:=by
 obtain ⟨b,hb,e⟩:=List.mem_filterMap.mp hp
 cases q : h.get? b with
 | none=>rw [q] at e; cases e
 | some o =>
  rw [q] at e
  have e' : (b,o)=p:=Option.some.inj e
  subst e'
  exact ⟨hb,q⟩
theorem Inv.pinned {pins:List (Addr × Obj)} {σ:St} {H:Hp} {s:Shared} {fp:List Addr} (I:Inv X pins σ H s) (hf:∀ b ∈ fp,zft X pins H b) (ho:∀ b ∈ fp,∃ o,s.heap.get? b=some o /\ ∀ v,o.data ≠ .cell v) : Inv X (pins ++ zln fp s.heap) σ H s :=
 I.pins_of fun p hp=>(List.mem_append.mp hp).elim (fun z=>I.pin p (List.mem_append_right _ z)) fun z=>by
  obtain ⟨hb,e⟩:=z2t z
  obtain ⟨f0,f1,f2,_⟩:=hf p.1 hb
  obtain ⟨o,e',d⟩:=ho p.1 hb
  rw [e] at e'; cases e'
  exact ⟨e,f0,f1,f2,d⟩
theorem Inv.unpinned {pins pl:List (Addr × Obj)} {σ:St} {H:Hp} {s:Shared} (I:Inv X (pins ++ pl) σ H s) : Inv X pins σ H s:=I.pins_of fun p hp=>I.pin p (List.mem_append_right _ (List.mem_append_left _ hp))
theorem zx6 {iter:Expr} {body:List Stmt} {wi:TI} {g:TG} {tb:TS} {pos:Pos} (hp:PassesOwn (model X.prog X.w) X.A X.env X.xe) (hc:X.calm=true) (hi:PI X tg iter wi) (hg:PG X tg g) (hb:PSs X body tb)
  (hs:∀ x,foldedSetIterable iter X.env x=pure x:=by intro _; rfl) : PS X (.For tg iter body [] pos) (z1d wi g tb):=by
 intro pins s σ H D I h
 refine wpAny_For (thn (hi pins s σ H _ I h) fun v s1 h1=>thn h1 fun itv s2 h2=>?_) hs
 obtain ⟨it,fp,tn,J,H2,e,I2,T,st2,f2,W,⟨m0,w0⟩,turn⟩:=h2
 subst e
 have stat : ∀ {H':Hp},(∀ b ∈ fp,H' b=none) -> ∀ b ∈ fp,zft X pins H' b:=fun hn b hb=>⟨hn b hb,(f2 b hb).2⟩
 refine codeAny_forLoop_any (fun n s'=>∃ i σ' H',Inv X pins σ' H' s' /\ tn i s'.heap /\ (∀ b ∈ fp,H' b=none) /\ W i n σ' H') ?_ m0 ⟨0,σ,H2,I2,st2,fun b hb=>(f2 b hb).1,w0⟩
 rintro n s3 ⟨i,σ3,H3,I3,st3,fr3,w3⟩
 rcases turn i n σ3 H3 w3 with ⟨stop,qn⟩ | ⟨go,N,hN,step⟩
 ·refine wpAny_passesOwn hp (thn (T.done X rfl rfl rfl hc i pins s3 σ3 H3 X.xe I3 (stat fr3) st3 stop) fun r s4 ⟨hr,I4⟩=>?_)
  subst hr
  exact wpAny_execs_nil ⟨σ3,H3,I4,qn⟩
 ·refine wpAny_passesOwn hp (thn (T.item X rfl rfl rfl hc i pins s3 σ3 H3 X.xe I3 (stat fr3) st3 go) fun r s4 ⟨u,hr,h4⟩=>?_)
  subst hr
  refine wpAny_passesOwn hp (thn h4 fun _ s5 ⟨x,H5,I5,r5,y5,st5,fr5⟩=>?_)
  have I5':=I5.pinned (stat fr5) (T.obj _ _ st5)
  refine wpAny_passesOwn hp (thn (hg _ s5 σ3 H5 x u _ I5' r5 (step x H5 y5)) fun _ s6 ⟨σ6,H6,I6,q6⟩=>?_)
  refine wpAny_passesOwn hp (thn (hb _ s6 σ6 H6 _ I6 q6) fun f s7 q7=>?_)
  have again : ∀ {σ7:St} {H7:Hp},Inv X (pins ++ zln fp s5.heap) σ7 H7 s7 -> N σ7 H7 -> ∃ m,m < n /\ ∃ i σ' H',Inv X pins σ' H' s7 /\ tn i s7.heap /\ (∀ b ∈ fp,H' b=none) /\ W i m σ' H':=fun {σ7 H7} I7 n7=>by
   obtain ⟨m',hm,w7⟩:=hN σ7 H7 n7
   refine ⟨m',hm,i + 1,σ7,H7,I7.unpinned,T.keep _ _ _ st5 fun b hb o e=>(I7.pin (b,o) (List.mem_append_right _ (List.mem_append_right _ (zob hb e)))).1,fun b hb=>?_,w7⟩
   obtain ⟨o,e,d⟩:=T.obj _ _ st5 b hb
   exact (I7.pin (b,o) (List.mem_append_right _ (List.mem_append_right _ (zob hb e)))).2.1
  cases f with
  | next=>obtain ⟨σ7,H7,I7,n7⟩:=q7; exact again I7 n7
  | cont=>obtain ⟨σ7,H7,I7,n7⟩:=q7; exact again I7 n7
  | brk=>obtain ⟨σ7,H7,I7,q7⟩:=q7; exact ⟨σ7,H7,I7.unpinned,q7⟩
  | ret v=>obtain ⟨x7,σ7,H7,I7,r7,q7⟩:=q7; exact ⟨x7,σ7,H7,I7.unpinned,r7,q7⟩
end
noncomputable abbrev R2:=V -> V -> Hp -> VK -> Prop
noncomputable def OpR (X:Cx) (f:Value -> Value -> Sem Value) (r:R2) : Prop :=
 ∀ (pins:List (Addr × Obj)) (s:Shared) (σ:St) (H:Hp) (x y:V) (v u:Value) (Q:VK),Inv X pins σ H s -> za0 x v -> za0 y u -> r x y H Q ->
  wpAny (model X.prog X.w) X.A (f v u) (EP X pins σ Q) X.xe s
noncomputable def UnR (X:Cx) (f:Value -> Sem Value) (r:V -> Hp -> VK -> Prop) : Prop :=
 ∀ (pins:List (Addr × Obj)) (s:Shared) (σ:St) (H:Hp) (x:V) (v:Value) (Q:VK),Inv X pins σ H s -> za0 x v -> r x H Q ->
  wpAny (model X.prog X.w) X.A (f v) (EP X pins σ Q) X.xe s
noncomputable def zfb (X:Cx) (f:Value) (r:List V -> Hp -> VK -> Prop) : Prop :=
 ∀ (pins:List (Addr × Obj)) (s:Shared) (σ:St) (H:Hp) (xs:List V) (us:List Value) (Q:VK),Inv X pins σ H s -> za1 xs us -> r xs H Q ->
  wpAny (model X.prog X.w) X.A (call f us) (EP X pins σ Q) X.xe s
noncomputable def z3b (X:Cx) (r:V -> Hp -> (Bool -> Hp -> Prop) -> Prop) : Prop :=
 ∀ (pins:List (Addr × Obj)) (s:Shared) (σ:St) (H:Hp) (x:V) (v:Value) (Q:Bool -> Hp -> Prop),Inv X pins σ H s -> za0 x v -> r x H Q ->
  wpAny (model X.prog X.w) X.A (truthy v) (TP X pins σ Q) X.xe s
noncomputable def tOp (r:R2) (ta tb:TE) : TE:=fun σ H Q=>ta σ H fun x H1=>tb σ H1 fun y H2=>r x y H2 Q
noncomputable def tUn (r:V -> Hp -> VK -> Prop) (ta:TE) : TE:=fun σ H Q=>ta σ H fun x H1=>r x H1 Q
noncomputable def rI (C:Int -> Int -> Prop) (g:Int -> Int -> V) : R2:=fun x y H Q=>∃ i j,x=.int i /\ y=.int j /\ C i j /\ Q (g i j) H
noncomputable def rI0 (g:Int -> Int -> V) : R2:=fun x y H Q=>∃ i j,x=.int i /\ y=.int j /\ Q (g i j) H
noncomputable def rU (g:Int -> V) : V -> Hp -> VK -> Prop:=fun x H Q=>∃ i,x=.int i /\ Q (g i) H
section
variable {X:Cx} {a b c:Expr} {ta tb tc:TE} {pos:Pos}
theorem zq1 (ha:PE X a ta) (hb:PE X b tb) {pins:List (Addr × Obj)} {s:Shared} {σ:St} {H:Hp} {R:V -> V -> Hp -> Prop} (I:Inv X pins σ H s)
  (h:ta σ H fun x H1=>tb σ H1 fun y H2=>R x y H2) {Q:Value -> Shared -> Prop} {f:Value -> Value -> Sem Value}
  (hf:∀ v u s2 x y H2,Inv X pins σ H2 s2 -> za0 x v -> za0 y u -> R x y H2 -> wpAny (model X.prog X.w) X.A (f v u) Q X.xe s2) :
  wpAny (model X.prog X.w) X.A (eval a X.env) (fun v s₁=>wpAny (model X.prog X.w) X.A (eval b X.env) (fun u s₂=>wpAny (model X.prog X.w) X.A (f v u) Q X.xe s₂) X.xe s₁) X.xe s:=by
 refine thn (ha pins s σ H _ I h) fun v s1 ⟨x,H1,I1,r1,q1⟩=>?_
 refine thn (hb pins s1 σ H1 _ I1 q1) fun u s2 ⟨y,H2,I2,r2,q2⟩=>?_
 exact hf v u s2 x y H2 I2 r1 r2 q2
theorem zuj {op:Operator} {r:R2} (ho:OpR X (binaryOp op) r) (ha:PE X a ta) (hb:PE X b tb) : PE X (.BinOp a op b pos) (tOp r ta tb):=by
 intro pins s σ H Q I h
 exact wpAny_BinOp (zq1 ha hb I h fun v u s2 x y H2 I2 rx ry q=>ho pins s2 σ H2 x y v u Q I2 rx ry q)
theorem zxu {op:UnaryOp} {r:V -> Hp -> VK -> Prop} (ho:UnR X (unaryOp op) r) (ha:PE X a ta) : PE X (.UnaryOp op a pos) (tUn r ta):=by
 intro pins s σ H Q I h
 exact UnaryOp_ (thn (ha pins s σ H _ I h) fun v s1 ⟨x,H1,I1,r1,q1⟩=>ho pins s1 σ H1 x v Q I1 r1 q1)
theorem opI {f:Value -> Value -> Sem Value} {C:Int -> Int -> Prop} {g:Int -> Int -> Int}
  (rule:∀ (i j:Int) (t u:Tok) (s:Shared) (Q:Value -> Shared -> Prop) (E:Value -> Shared -> Prop),C i j -> Q (.int (g i j) s.toks) { s with toks:=s.toks + 1 } -> wpAny (model X.prog X.w) X.A (f (.int i t) (.int j u)) Q E s) :
  OpR X f (rI C fun i j=>.int (g i j)):=by
 intro pins s σ H x y v u Q I rx ry h
 obtain ⟨i,j,rfl,rfl,hc,q⟩:=h
 obtain ⟨t,rfl⟩:=rx
 obtain ⟨t',rfl⟩:=ry
 exact rule i j t t' s _ _ hc ⟨.int (g i j),H,I.tok _,⟨_,rfl⟩,q⟩
theorem zt3 {f:Value -> Value -> Sem Value} {g:Int -> Int -> Int}
  (rule:∀ (i j:Int) (t u:Tok) (s:Shared) (Q:Value -> Shared -> Prop) (E:Value -> Shared -> Prop),Q (.int (g i j) s.toks) { s with toks:=s.toks + 1 } -> wpAny (model X.prog X.w) X.A (f (.int i t) (.int j u)) Q E s) :
  OpR X f (rI0 fun i j=>.int (g i j)):=by
 intro pins s σ H x y v u Q I rx ry h
 obtain ⟨i,j,rfl,rfl,q⟩:=h
 obtain ⟨t,rfl⟩:=rx
 obtain ⟨t',rfl⟩:=ry
 exact rule i j t t' s _ _ ⟨.int (g i j),H,I.tok _,⟨_,rfl⟩,q⟩
theorem zog {f:Value -> Value -> Sem Value} {g:Int -> Int -> Bool}
  (rule:∀ (i j:Int) (t u:Tok) (s:Shared) (Q:Value -> Shared -> Prop) (E:Value -> Shared -> Prop),Q (.bool (g i j)) s -> wpAny (model X.prog X.w) X.A (f (.int i t) (.int j u)) Q E s) :
  OpR X f (rI0 fun i j=>.bl (g i j)):=by
 intro pins s σ H x y v u Q I rx ry h
 obtain ⟨i,j,rfl,rfl,q⟩:=h
 obtain ⟨t,rfl⟩:=rx
 obtain ⟨t',rfl⟩:=ry
 exact rule i j t t' s _ _ ⟨.bl (g i j),H,I,rfl,q⟩
noncomputable def zmp (i j:Int) : Prop:=0 < j /\ j < 1073741824
noncomputable def zi8 (i j:Int) : Prop:=0 <= j /\ j <= 1000000 /\ i.natAbs < 2 ^ 64
noncomputable def zl9 (i j:Int) : Prop:=(-(2 ^ 64) < i /\ i < 2 ^ 64) \/ (-(2 ^ 64) < j /\ j < 2 ^ 64)
theorem zl9.ok {i j:Int} (h:zl9 i j) : IntMulOk i j:=by
 rcases h with ⟨h1,h2⟩ | ⟨h1,h2⟩
 ·exact .of_left (intBits_le_64 h1 h2)
 ·exact .of_right (intBits_le_64 h1 h2)
theorem zw6 : OpR X (binaryOp .Add) (rI0 fun i j=>.int (i + j)):=zt3 fun _ _ _ _ _ _ _ q=>add_int q
theorem z2m : OpR X (binaryOp .Sub) (rI0 fun i j=>.int (i - j)):=zt3 fun _ _ _ _ _ _ _ q=>sub_int q
theorem z51 : OpR X (binaryOp .FloorDiv) (rI zmp fun i j=>.int (i / j)):=opI fun i j _ _ _ _ _ hc q=>by
 have h1 : (0 : Int) < j:=hc.1
 have h2 : j < 1073741824:=hc.2
 exact floordiv_int (by omega) (by rw [Int.fdiv_eq_ediv_of_nonneg i (by omega)]; exact q) (.inl (PyProof.noPylong_small (by omega)))
theorem zy5 : OpR X (binaryOp .Mod) (rI (fun _ j=>0 < j) fun i j=>.int (i % j)):=opI fun i j _ _ _ _ _ hc q=>by
 have h1 : (0 : Int) < j:=hc
 exact mod_int' (by omega) (by rw [Int.fmod_eq_emod_of_nonneg i (by omega)]; exact q)
theorem z1n : OpR X (binaryOp .Pow) (rI zi8 fun i j=>.int (i ^ j.toNat)):=opI fun _ _ _ _ _ _ _ hc q=>pow_int_small hc.1 hc.2.1 hc.2.2 q
theorem unI {f:Value -> Sem Value} {g:Int -> Int}
  (rule:∀ (i:Int) (t:Tok) (s:Shared) (Q:Value -> Shared -> Prop) (E:Value -> Shared -> Prop),Q (.int (g i) s.toks) { s with toks:=s.toks + 1 } -> wpAny (model X.prog X.w) X.A (f (.int i t)) Q E s) :
  UnR X f (rU fun i=>.int (g i)):=by
 intro pins s σ H x v Q I rx h
 obtain ⟨i,rfl,q⟩:=h
 obtain ⟨t,rfl⟩:=rx
 exact rule i t s _ _ ⟨.int (g i),H,I.tok _,⟨_,rfl⟩,q⟩
theorem z6x : UnR X (unaryOp .USub) (rU fun i=>.int (-i)):=unI fun _ _ _ _ _ q=>neg_int q
end
noncomputable def zpf : V -> V -> Bool
 | .non,.non=>true | .non,.int _=>true | .int _,.non=>true | .non,.bl _=>true | .bl _,.non=>true | .non,.str _=>true | .str _,.non=>true
 | .int _,.int _=>true | .bl _,.bl _=>true | .str _,.str _=>true | .byt _,.byt _=>true
 | .int _,.str _=>true | .str _,.int _=>true | .bl _,.str _=>true | .str _,.bl _=>true
 | _,_=>false
noncomputable def rEq : R2:=fun x y H Q=>zpf x y=true /\ Q (.bl (decide (x=y))) H
noncomputable def rNe : R2:=fun x y H Q=>zpf x y=true /\ Q (.bl (!decide (x=y))) H
theorem zqa {i j:Int} : decide (V.int i=V.int j)=(i == j):=by
 rw [Bool.eq_iff_iff]
 simp
theorem zlm {i j:Bool} : decide (V.bl i=V.bl j)=(i == j):=by
 rw [Bool.eq_iff_iff]
 simp
theorem zp9 {i j:Str} : decide (V.str i=V.str j)=(i == j):=by
 rw [Bool.eq_iff_iff]
 simp
theorem zvd {i j:Array UInt8} : decide (V.byt i=V.byt j)=(i.toList == j.toList):=by
 rw [Bool.eq_iff_iff]
 cases i
 cases j
 simp
section
variable {X:Cx} {a b c:Expr} {ta tb tc:TE} {pos:Pos}
theorem zce {pins:List (Addr × Obj)} {σ:St} {H:Hp} {s:Shared} {Q:VK} {k k':Bool} (I:Inv X pins σ H s) (q:Q (.bl k) H) (e:k=k') : EP X pins σ Q (.bool k') s:=by
 subst e
 exact ⟨.bl k,H,I,rfl,q⟩
theorem z8a : OpR X (compareOp .Eq) rEq:=by
 intro pins s σ H x y v u Q I rx ry h
 obtain ⟨hs,q⟩:=h
 cases x with
 | non =>
  cases rx
  cases y with
  | non=>cases ry; exact PySem.EqNone.eq_none_none (zce I q (by simp))
  | bl j=>cases ry; exact PySem.EqNone.eq_none_bool (zce I q (by simp))
  | int j=>obtain ⟨t',rfl⟩:=ry; exact PySem.EqNone.eq_none_int (zce I q (by simp))
  | str j=>obtain ⟨t',rfl⟩:=ry; exact PySem.EqNone.eq_none_str (zce I q (by simp))
  | _=>exact absurd (show false=true from hs) Bool.false_ne_true
 | bl i =>
  cases rx
  cases y with
  | non=>cases ry; exact PySem.EqNone.eq_bool_none (zce I q (by simp))
  | bl j=>cases ry; exact eq_bool (zce I q zlm)
  | str j=>obtain ⟨t',rfl⟩:=ry; exact PySem.EqMixed.eq_bool_str (zce I q (by simp))
  | _=>exact absurd (show false=true from hs) Bool.false_ne_true
 | int i =>
  obtain ⟨t,rfl⟩:=rx
  cases y with
  | non=>cases ry; exact PySem.EqNone.eq_int_none (zce I q (by simp))
  | int j=>obtain ⟨t',rfl⟩:=ry; exact eq_int (zce I q zqa)
  | str j=>obtain ⟨t',rfl⟩:=ry; exact PySem.EqMixed.eq_int_str (zce I q (by simp))
  | _=>exact absurd (show false=true from hs) Bool.false_ne_true
 | str i =>
  obtain ⟨t,rfl⟩:=rx
  cases y with
  | non=>cases ry; exact PySem.EqNone.eq_str_none (zce I q (by simp))
  | bl j=>cases ry; exact PySem.EqMixed.eq_str_bool (zce I q (by simp))
  | int j=>obtain ⟨t',rfl⟩:=ry; exact PySem.EqMixed.eq_str_int (zce I q (by simp))
  | str j=>obtain ⟨t',rfl⟩:=ry; exact eq_str (zce I q zp9)
  | _=>exact absurd (show false=true from hs) Bool.false_ne_true
 | byt i =>
  obtain ⟨t,rfl⟩:=rx
  cases y with
  | byt j=>obtain ⟨t',rfl⟩:=ry; exact PySem.W.eq_bytes (zce I q zvd)
  | _=>exact absurd (show false=true from hs) Bool.false_ne_true
 | _=>cases y <;> exact absurd (show false=true from hs) Bool.false_ne_true
theorem z2u : OpR X (compareOp .NotEq) rNe:=by
 intro pins s σ H x y v u Q I rx ry h
 obtain ⟨hs,q⟩:=h
 cases x with
 | non =>
  cases rx
  cases y with
  | non=>cases ry; exact PySem.EqNone.ne_none_none (zce I q (by simp))
  | bl j=>cases ry; exact PySem.EqNone.ne_none_bool (zce I q (by simp))
  | int j=>obtain ⟨t',rfl⟩:=ry; exact PySem.EqNone.ne_none_int (zce I q (by simp))
  | str j=>obtain ⟨t',rfl⟩:=ry; exact PySem.EqNone.ne_none_str (zce I q (by simp))
  | _=>exact absurd (show false=true from hs) Bool.false_ne_true
 | bl i =>
  cases rx
  cases y with
  | non=>cases ry; exact PySem.EqNone.ne_bool_none (zce I q (by simp))
  | bl j=>cases ry; exact ne_bool (zce I q (congrArg not zlm))
  | str j=>obtain ⟨t',rfl⟩:=ry; exact PySem.EqMixed.ne_bool_str (zce I q (by simp))
  | _=>exact absurd (show false=true from hs) Bool.false_ne_true
 | int i =>
  obtain ⟨t,rfl⟩:=rx
  cases y with
  | non=>cases ry; exact PySem.EqNone.ne_int_none (zce I q (by simp))
  | int j=>obtain ⟨t',rfl⟩:=ry; exact ne_int (zce I q (congrArg not zqa))
  | str j=>obtain ⟨t',rfl⟩:=ry; exact PySem.EqMixed.ne_int_str (zce I q (by simp))
  | _=>exact absurd (show false=true from hs) Bool.false_ne_true
 | str i =>
  obtain ⟨t,rfl⟩:=rx
  cases y with
  | non=>cases ry; exact PySem.EqNone.ne_str_none (zce I q (by simp))
  | bl j=>cases ry; exact PySem.EqMixed.ne_str_bool (zce I q (by simp))
  | int j=>obtain ⟨t',rfl⟩:=ry; exact PySem.EqMixed.ne_str_int (zce I q (by simp))
  | str j=>obtain ⟨t',rfl⟩:=ry; exact ne_str (zce I q (congrArg not zp9))
  | _=>exact absurd (show false=true from hs) Bool.false_ne_true
 | byt i =>
  obtain ⟨t,rfl⟩:=rx
  cases y with
  | byt j=>obtain ⟨t',rfl⟩:=ry; exact PySem.W.ne_bytes (zce I q (congrArg not zvd))
  | _=>exact absurd (show false=true from hs) Bool.false_ne_true
 | _=>cases y <;> exact absurd (show false=true from hs) Bool.false_ne_true
theorem z2q : OpR X (compareOp .Lt) (rI0 fun i j=>.bl (decide (i < j))):=zog fun _ _ _ _ _ _ _ q=>lt_int q
theorem zz6 : OpR X (compareOp .LtE) (rI0 fun i j=>.bl (decide (i <= j))):=zog fun _ _ _ _ _ _ _ q=>le_int q
theorem z2l : OpR X (compareOp .Gt) (rI0 fun i j=>.bl (decide (j < i))):=zog fun _ _ _ _ _ _ _ q=>gt_int q
theorem zyx : OpR X (compareOp .GtE) (rI0 fun i j=>.bl (decide (j <= i))):=zog fun _ _ _ _ _ _ _ q=>ge_int q
theorem z2p : OpR X (compareOp .Is) (fun x y H Q=>y=.non /\ Q (.bl (decide (x=.non))) H):=by
 intro pins s σ H x y v u Q I rx ry h
 obtain ⟨rfl,q⟩:=h
 cases ry
 refine is_none_gen (zce I q ?_)
 cases x <;> first
  | (cases rx; rfl)
  | (obtain ⟨t,rfl⟩:=rx; rfl)
theorem z8r : OpR X (compareOp .IsNot) (fun x y H Q=>y=.non /\ Q (.bl (!decide (x=.non))) H):=by
 intro pins s σ H x y v u Q I rx ry h
 obtain ⟨rfl,q⟩:=h
 cases ry
 refine isnot_none_gen (zce I q ?_)
 cases x <;> first
  | (cases rx; rfl)
  | (obtain ⟨t,rfl⟩:=rx; rfl)
theorem zr7 (b:Expr) {op:CmpOp} (h:op ≠ .In:=by decide) (h2:op ≠ .NotIn:=by decide) : behindInMarks op b=false:=by
 have e1 : (op == CmpOp.In)=false:=by cases op <;> first | rfl | exact absurd rfl h
 have e2 : (op == CmpOp.NotIn)=false:=by cases op <;> first | rfl | exact absurd rfl h2
 cases b <;> simp [behindInMarks,e1,e2]
theorem zzk {op:CmpOp} {r:R2} (ho:OpR X (compareOp op) r) (ha:PE X a ta) (hb:PE X b tb) (hm:behindInMarks op b=false) : PE X (.Compare a [op] [b] pos) (tOp r ta tb):=by
 intro pins s σ H Q I h
 exact wpAny_Compare1 (zq1 ha hb I h fun v u s2 x y H2 I2 rx ry q=>ho pins s2 σ H2 x y v u Q I2 rx ry q) hm
noncomputable def z4a (t:TE) : TT:=fun σ H Q=>t σ H fun x H'=>∃ k,x=.bl k /\ Q k H'
theorem z0x {op:CmpOp} {r:R2} (ho:OpR X (compareOp op) r) (ha:PE X a ta) (hb:PE X b tb) (hm:behindInMarks op b=false) : PT X (.Compare a [op] [b] pos) (z4a (tOp r ta tb)):=by
 intro pins s σ H Q I h
 refine wpAny_isTrue_Compare1 (thn (ha pins s σ H _ I h) fun v s1 ⟨x,H1,I1,r1,q1⟩=>thn (hb pins s1 σ H1 _ I1 q1) fun u s2 ⟨y,H2,I2,r2,q2⟩ =>
  thn (ho pins s2 σ H2 x y v u _ I2 r1 r2 q2) fun c s3 ⟨z,H3,I3,r3,k,e,q3⟩=>?_) hm
 subst e
 cases r3
 exact wpAny_truthy_bool ⟨H3,I3,q3⟩
noncomputable def z10 (r r':R2) (ta tb tc:TE) : TE:=fun σ H Q=>ta σ H fun x H1=>tb σ H1 fun y H2=>r x y H2 fun z H3=>∃ k,z=.bl k /\
 (if k=true then tc σ H3 fun w' H4=>r' y w' H4 Q else Q (.bl false) H3)
theorem z1o {op op':CmpOp} {r r':R2} (ho:OpR X (compareOp op) r) (ho':OpR X (compareOp op') r') (ha:PE X a ta) (hb:PE X b tb) (hc:PE X c tc)
  (hm:lastMarks [op,op'] [b,c]=false:=by with_unfolding_all rfl) : PE X (.Compare a [op,op'] [b,c] pos) (z10 r r' ta tb tc):=by
 intro pins s σ H Q I h
 refine Compare_chain (thn (ha pins s σ H _ I h) fun v s1 ⟨x,H1,I1,r1,q1⟩=>chain_link (thn (hb pins s1 σ H1 _ I1 q1) fun u s2 ⟨y,H2,I2,r2,q2⟩ =>
  thn (ho pins s2 σ H2 x y v u _ I2 r1 r2 q2) fun d s3 ⟨z,H3,I3,r3,k,e,q3⟩=>?_)) hm
 subst e
 cases r3
 refine wpAny_truthy_bool ?_
 cases k with
 | false=>exact ite_ff ⟨.bl false,H3,I3,rfl,q3⟩
 | true=>exact ite_tt (chain_last (thn (hc pins s3 σ H3 _ I3 q3) fun w' s4 ⟨z',H4,I4,r4,q4⟩=>ho' pins s4 σ H4 y z' u w' Q I4 r2 r4 q4))
noncomputable def zp0 (K:PySem.W.Frag) (x:V) (H:Hp) (k:Bool) : Prop :=
 match x with
 | .non=>k=false
 | .bl b=>k=b
 | .int i=>k=(i != 0)
 | .str y=>y.length <= sizeLine /\ k=((y.length : Int) != 0)
 | .byt y=>y.size <= sizeLine /\ k=((y.size : Int) != 0)
 | .ref p=>(∃ xs,SqL K H p xs /\ k=!xs.isEmpty) \/ (∃ xs,SqT K H p xs /\ k=!xs.isEmpty) \/ ∃ kvs,H p=some (.dK kvs) /\ k=!kvs.isEmpty
 | _=>False
theorem zzl {κ : Type} {kvs:List (κ × V)} {vs:List (κ × Value)} (r:KV kvs vs) : (!vs.isEmpty)=!kvs.isEmpty:=by
 cases r <;> rfl
theorem ztb {xs:List V} {its:List Value} (r:za1 xs its) : (!its.toArray.isEmpty)=!xs.isEmpty:=by
 cases r <;> simp
theorem zj3 : (sizeLine:Nat) < 2 ^ 63:=by rw [sizeLine_eq]; decide
theorem z0d : z3b X (fun x H Q=>∃ k,zp0 X.K x H k /\ Q k H):=by
 intro pins s σ H x v Q I rx h
 obtain ⟨k,e,q⟩:=h
 have hl:=zj3
 have hs : sizeLine=16777216:=sizeLine_eq
 cases x with
 | non =>
  cases rx
  have e' : k=false:=e
  subst e'
  exact truthy_none ⟨H,I,q⟩
 | bl b =>
  cases rx
  have e' : k=b:=e
  subst e'
  exact wpAny_truthy_bool ⟨H,I,q⟩
 | int i =>
  obtain ⟨t,rfl⟩:=rx
  have e' : k=(i != 0):=e
  subst e'
  exact PySem.P.truthy_int ⟨H,I,q⟩
 | str y =>
  obtain ⟨t,rfl⟩:=rx
  obtain ⟨hy,e'⟩ : y.length <= sizeLine /\ k=((y.length : Int) != 0):=e
  subst e'
  exact PySem.P.truthy_str (by omega) ⟨H,I.tok _,q⟩
 | byt y =>
  obtain ⟨t,rfl⟩:=rx
  obtain ⟨hy,e'⟩ : y.size <= sizeLine /\ k=((y.size : Int) != 0):=e
  subst e'
  exact PySem.W.truthy_bytes (by omega) ⟨H,I.tok _,q⟩
 | ref p =>
  cases rx
  have e' : (∃ xs,SqL X.K H p xs /\ k=!xs.isEmpty) \/ (∃ xs,SqT X.K H p xs /\ k=!xs.isEmpty) \/ ∃ kvs,H p=some (.dK kvs) /\ k=!kvs.isEmpty:=e
  rcases e' with ⟨xs,hx,e'⟩ | ⟨xs,hx,e'⟩ | ⟨kvs,hx,e'⟩
  ·subst e'
   obtain ⟨its,r,pl,hz⟩:=I.list hx
   have hlen:=r.length
   exact wpAny_truthy_list pl.isList (by simp only [List.size_toArray]; omega) ⟨H,I.tok _,by rw [ztb r]; exact q⟩
  ·subst e'
   obtain ⟨its,r,pl,hz⟩:=I.tuple hx
   have hlen:=r.length
   exact truthy_tuple pl (by simp only [List.size_toArray]; omega) ⟨H,I.tok _,by rw [ztb r]; exact q⟩
  ·subst e'
   obtain ⟨hz,hS,vs,r,m⟩ : kvs.length <= sizeLine /\ (p == sysModules)=false /\ ∃ vs,KV kvs vs /\ s.heap.DictOf (zeb X.prog X.w) p vs:=I.hok p _ hx
   have hlen : kvs.length=vs.length:=Paired.length r
   exact wpAny_truthy_dict hS m (by omega) ⟨H,I.tok _,by rw [zzl r]; exact q⟩
 | _=>exact (show False from e).elim
theorem z20 (ha:PE X a ta) (he:∀ whole,isTrue a X.env whole=(do let v <- whole; standAt a.pos; holding [v] (truthy v))) :
  PT X a (fun σ H Q=>ta σ H fun x H'=>∃ k,zp0 X.K x H' k /\ Q k H'):=by
 intro pins s σ H Q I h
 exact isTrue_plain (thn (ha pins s σ H _ I h) fun v s1 ⟨x,H1,I1,r1,q1⟩=>z0d pins s1 σ H1 x v Q I1 r1 q1) (he _)
theorem z6k : OpR X (binaryOp .Add) (fun x y H Q=>∃ i j,x=.str i /\ y=.str j /\ i.length + j.length <= sizeLine /\ Q (.str (i ++ j)) H):=by
 intro pins s σ H x y v u Q I rx ry h
 obtain ⟨i,j,rfl,rfl,hz,q⟩:=h
 obtain ⟨t,rfl⟩:=rx
 obtain ⟨t',rfl⟩:=ry
 exact add_str (fun t' tk=>⟨.str (i ++ j),H,I.tok _,⟨_,rfl⟩,q⟩) hz
theorem zin {x:V} {us:List Value} (r:za1 [x] us) : ∃ u,us=[u] /\ za0 x u:=by
 cases r with
 | cons r1 r2=>cases r2; exact ⟨_,rfl,r1⟩
theorem zw1 {x y:V} {us:List Value} (r:za1 [x,y] us) : ∃ u w',us=[u,w'] /\ za0 x u /\ za0 y w':=by
 cases r with
 | cons r1 r2 =>
  cases r2 with
  | cons r3 r4=>cases r4; exact ⟨_,_,rfl,r1,r3⟩
end
structure zhz (h:Heap) (x dx C:Addr) (mA:Str -> Option Value) : Prop where
 obj : h.get? x=some (PySem.W.instObj C dx)
 ns : h.Ns1 dx mA
 ne : dx ≠ x
theorem z34 {h:Heap} {dx:Addr} {mA:Str -> Option Value} (n:h.Ns1 dx mA) : ∃ od,h.get? dx=some od /\ ∀ name,PySem.W.lookIn name od=some (mA name):=by
 obtain ⟨o,es,ep,ho,hd,hk,_,hm⟩:=n
 refine ⟨o,ho,fun name=>?_⟩
 have e:=hm name
 unfold nsFind findBy at e
 rw [<- Array.find?_toList] at e
 unfold PySem.W.lookIn
 rw [hd]
 dsimp only
 split
 ·rename_i y q
  rw [q] at e
  exact congrArg some e
 ·rename_i q
  rw [q] at e
  have a : es.toList.any (·.refKey)=false:=by
   rw [List.any_eq_false]
   intro y hy
   obtain ⟨z,t,hkey⟩:=hk y (Array.mem_toList_iff.mp hy)
   simp [DictEntry.refKey,hkey]
  have a' : ¬ es.toList.any (·.refKey)=true:=by rw [a]; exact Bool.false_ne_true
  rw [if_neg a']
  exact congrArg some e
theorem zhz.look {h:Heap} {x dx C:Addr} {mA:Str -> Option Value} (I:zhz h x dx C mA) : ∃ od,PySem.W.InstAt h x (PySem.W.instObj C dx) C (some od) /\ ∀ name,PySem.W.lookIn name od=some (mA name) :=
 let ⟨od,ho,hl⟩:=z34 I.ns
 ⟨od,⟨I.obj,rfl,rfl,ho⟩,hl⟩
section
variable {prog:Program} {w:World} {A:Around} {E:Value -> Shared -> Prop} {s:Shared} {K:PySem.W.Frag} {x dx C f:Addr} {mA:Str -> Option Value} {name:Str} {v:Value}
theorem z3d {expr:Bool} {Q:Value -> Shared -> Prop} (X:K.In s.heap) (I:zhz s.heap x dx C mA) (hg:PySem.W.plainGet K C name=true) (hh:PySem.W.hasDictIn K C=true)
  (ha:PySem.W.findIn K (.ref C) name=some none) (hv:mA name=some v) (hv':PySem.W.handedIn v=true) (h:Q v { s with toks:=s.toks + 1 }) :
  wpAny (model prog w) A (getAttr (.ref x) name expr) Q E s:=by
 obtain ⟨od,J,hl⟩:=I.look
 exact PySem.W.get_value X J (PySem.W.plainGet_of hg).1 (PySem.W.findObj_own hh ha rfl (by rw [hl,hv])) hv' h
theorem zzz {pl:Sem Bool} {Q:Value × List Value -> Shared -> Prop} (X:K.In s.heap) (I:zhz s.heap x dx C mA) (hg:PySem.W.plainGet K C name=true)
  (hf:PySem.W.findIn K (.ref C) name=some (some (.ref f))) (ht:PySem.W.isFn K (.ref f)=true) (hv:mA name=none) (h:Q (.ref f,[.ref x]) s) :
  wpAny (model prog w) A (getMethod (.ref x) name pl) Q E s:=by
 obtain ⟨od,J,hl⟩:=I.look
 exact PySem.W.method_fn X J (PySem.W.plainGet_of hg).1 (PySem.W.plainGet_of hg).2 hf (beq_iff_eq.mp ht) (by show (PySem.W.lookIn name od).map (·.isSome)=some false; rw [hl,hv]; rfl) h
theorem z9f {ns:List Str} {Q:Unit -> Shared -> Prop} (X:K.In s.heap) (I:zhz s.heap x dx C mA)
  (hs:PySem.W.findIn K (.ref C) "__setattr__"=some (some (.builtin "object.__setattr__"))) (hp:PySem.W.plainOver K C=true) (ht:PySem.W.takerIn K C name=some none) (hh:PySem.W.hasDictIn K C=true)
  (hw:PySem.Within mA ns) (hsz:ns.length <= sizeLine)
  (h:∀ h',zhz h' x dx C (fun y=>if y=name then some v else mA y) -> Heap.SameBut dx s.heap h' -> Q () { s with heap:=h',toks:=s.toks + 2 }) :
  wpAny (model prog w) A (setAttr (.ref x) name v) Q E s:=by
 obtain ⟨od,J,hl⟩:=I.look
 refine PySem.W.set_plain X J hs (PySem.W.osa_open (s:={ s with toks:=s.toks + 1 }) (r:=none) X J hp ht fun b=>?_)
 obtain ⟨cd,hc,hd'⟩:=PySem.W.any_some hh
 have hx : s.heap.get? x=some ⟨.ref C,some dx,.plain,#[]⟩:=I.obj
 refine wpAny_bind (wpAny_pure (wpAny_bind (wpAny_bind (wpAny_loadPart hx (wpAny_bind (PySem.W.Looks.here (s:={ s with toks:=s.toks + 1 }) (PySem.W.looks_clsIn X hc) ?_))))))
 rw [hd']
 refine wpAny_pure (a:=some dx) (wpAny_bind (wpAny_pure (wpAny_bind ?_)))
 refine wpAny_nsSet1 (s:={ s with toks:=s.toks + 1 }) I.ns fun h' hn2 hs2=>?_
 obtain ⟨oD,esD,epD,hoD,hdD,hcD⟩:=hn2.count (PySem.Within.cons name v hw)
 refine wpAny_bind (wpAny_lookBehind hoD (by rw [hdD]; exact pastItsLine_dict (Nat.le_trans hcD (by rw [List.length_cons]; omega))) ?_)
 exact wpAny_pure (h _ ⟨(hs2.2 _ (Ne.symm I.ne)).trans I.obj,hn2,I.ne⟩ hs2)
theorem zxp {R:Result -> Shared -> Prop} {vs:List Value} {kw:List (Str × Value)} (X:K.In s.heap) (hm:PySem.W.makesIn K C=true)
  (hi:PySem.W.findIn K (.ref C) "__init__"=some (some (.ref f))) (hf:PySem.W.typeIn K (.ref f)=some (.type "function"))
  (h:codeAny (model prog w) (A.under (.builtin "type.__call__" ⟨.ref C :: vs,kw⟩)) (.call (.ref f) ⟨.ref (s.heap.objs.size + 1) :: vs,kw⟩) (PySem.W.InitBack (s.heap.objs.size + 1) R)
   { s with heap:=(s.heap.push PySem.W.emptyDict).push (PySem.W.instObj C s.heap.objs.size) }) :
  codeAny (model prog w) A (.call (.ref C) ⟨vs,kw⟩) R s:=by
 obtain ⟨hh,g,d,t,os⟩:=s
 exact PySem.W.make_core (PySem.W.makes_of X hm) (PySem.W.looks_findIn X hi) (fun self=>PySem.W.bind_fn X self hf) (.inl rfl) h
end
noncomputable def zdq (f:Str) (v:V) : List (Str × V) -> List (Str × V)
 | []=>[(f,v)]
 | (g,x) :: r=>if g=f then (g,v) :: r else (g,x) :: zdq f v r
theorem zr1 (f g:Str) (v:V) : ∀ fs : List (Str × V),(zdq f v fs).lookup g=if g=f then some v else fs.lookup g
 | []=>by
  show List.lookup g [(f,v)]=_
  by_cases h : g=f
  ·have hb : (g == f)=true:=beq_iff_eq.mpr h
   simp only [List.lookup,hb,if_pos h]
  ·have hb : (g == f)=false:=beq_eq_false_iff_ne.mpr h
   simp only [List.lookup,hb,if_neg h]
 | (k,x) :: r=>by
  have ih:=zr1 f g v r
  rw [show zdq f v ((k,x) :: r)=(if k=f then (k,v) :: r else (k,x) :: zdq f v r) from rfl]
  by_cases hk : k=f
  ·rw [if_pos hk]
   by_cases h : g=k
   ·have hb : (g == k)=true:=beq_iff_eq.mpr h
    simp only [List.lookup,hb,if_pos (h.trans hk)]
   ·have hb : (g == k)=false:=beq_eq_false_iff_ne.mpr h
    simp only [List.lookup,hb,if_neg (fun e:g=f=>h (e.trans hk.symm))]
  ·rw [if_neg hk]
   by_cases h : g=k
   ·have hb : (g == k)=true:=beq_iff_eq.mpr h
    simp only [List.lookup,hb,if_neg (fun e:g=f=>hk (h.symm.trans e))]
   ·have hb : (g == k)=false:=beq_eq_false_iff_ne.mpr h
    simp only [List.lookup,hb]
    exact ih
theorem zrc (f:Str) (v:V) : ∀ fs : List (Str × V),f ∈ (zdq f v fs).map (·.1) /\ ∀ g,g ∈ fs.map (·.1) -> g ∈ (zdq f v fs).map (·.1)
 | []=>⟨by simp [zdq],fun g h=>by simp at h⟩
 | (k,x) :: r=>by
  obtain ⟨i1,i2⟩:=zrc f v r
  rw [show zdq f v ((k,x) :: r)=(if k=f then (k,v) :: r else (k,x) :: zdq f v r) from rfl]
  by_cases hk : k=f
  ·rw [if_pos hk]
   subst hk
   exact ⟨by simp,fun g h=>by simpa using h⟩
  ·rw [if_neg hk]
   refine ⟨?_,fun g h=>?_⟩
   ·rw [List.map_cons]
    exact List.mem_cons_of_mem _ i1
   ·rw [List.map_cons] at h ⊢
    rcases List.mem_cons.mp h with e | e
    ·exact List.mem_cons.mpr (.inl e)
    ·exact List.mem_cons_of_mem _ (i2 g e)
theorem zv9 (f:Str) (v:V) : ∀ fs : List (Str × V),(zdq f v fs).length <= fs.length + 1
 | []=>by simp [zdq]
 | (k,x) :: r=>by
  have ih:=zv9 f v r
  rw [show zdq f v ((k,x) :: r)=(if k=f then (k,v) :: r else (k,x) :: zdq f v r) from rfl]
  by_cases hk : k=f
  ·rw [if_pos hk,List.length_cons,List.length_cons]; omega
  ·rw [if_neg hk,List.length_cons,List.length_cons]; omega
theorem zdx.some_of {v:V} {o:Option Value} (r:zdx (some v) o) : ∃ u,o=some u /\ za0 v u:=by
 cases o with
 | none=>exact (show False from r).elim
 | some u=>exact ⟨u,rfl,r⟩
theorem zdx.none_of {o:Option Value} (r:zdx none o) : o=none:=by
 cases o with
 | none=>rfl
 | some u=>exact (show False from r).elim
theorem zz3 {v:V} {u:Value} (r:za0 v u) : PySem.W.handedIn u=true:=by
 cases v with
 | non=>cases (show u=Value.none from r); rfl
 | bl b=>cases (show u=Value.bool b from r); rfl
 | int i=>obtain ⟨t,e⟩:=(show ∃ t,u=Value.int i t from r); cases e; rfl
 | str x=>obtain ⟨t,e⟩:=(show ∃ t,u=Value.str x t from r); cases e; rfl
 | byt b=>obtain ⟨t,e⟩:=(show ∃ t,u=Value.bytes b t from r); cases e; rfl
 | flt b=>obtain ⟨t,e⟩:=(show ∃ t,u=Value.float b t from r); cases e; rfl
 | ref a=>cases (show u=Value.ref a from r); rfl
 | ty n=>cases (show u=Value.type n from r); rfl
section
variable {P:Program} {w:World} {H H':Hp} {h h':Heap} {a C dx:Addr} {fs fs':List (Str × V)}
theorem zod (hok:HOk P w H h) (e:H a=some (.ins C dx fs)) : ∃ mA,zhz h a dx C mA /\ (∀ f,zdx (fs.lookup f) (mA f)) /\ PySem.Within mA (fs.map (·.1)) /\ fs.length <= 1000 /\ H dx=some (.own a):=by
 obtain ⟨d,z,ne,ob,mA,n,r,q⟩:=(show zcv P w H h a (.ins C dx fs) from hok a _ e)
 exact ⟨mA,⟨ob,n,ne⟩,r,q,z,d⟩
end
structure Cls (K:PySem.W.Frag) (C:Addr) : Prop where
 pg : PySem.W.plainGet K C Str.empty=true
 hd : PySem.W.hasDictIn K C=true
 po : PySem.W.plainOver K C=true
 sa : PySem.W.findIn K (.ref C) "__setattr__"=some (some (.builtin "object.__setattr__"))
theorem Cls.get {K:PySem.W.Frag} {C:Addr} (c:Cls K C) (f:Str) : PySem.W.plainGet K C f=true:=c.pg
noncomputable def zdn (K:PySem.W.Frag) (C:Addr) (f:Str) : Prop:=PySem.W.findIn K (.ref C) f=some none
theorem zdn.taker {K:PySem.W.Frag} {C:Addr} {f:Str} (n:zdn K C f) : PySem.W.takerIn K C f=some none:=by
 unfold PySem.W.takerIn
 rw [show PySem.W.findIn K (.ref C) f=some none from n]
 rfl
structure zdu (K:PySem.W.Frag) (C:Addr) (m:Str) (f:Addr) : Prop where
 at_ : PySem.W.findIn K (.ref C) m=some (some (.ref f))
 fn : PySem.W.isFn K (.ref f)=true
 kp : PySem.W.keepIn K (.ref f)=true
section
variable {X:Cx} {pins:List (Addr × Obj)} {σ:St} {H:Hp} {s:Shared} {a C dx:Addr} {fs:List (Str × V)} {f:Str} {v:V} {A:Around} {E:Value -> Shared -> Prop}
theorem z88 {b:Bool} {Q:Value -> Shared -> Prop} (I:Inv X pins σ H s) (e:H a=some (.ins C dx fs)) (c:Cls X.K C) (n:zdn X.K C f) (l:fs.lookup f=some v)
  (h:∀ u s',Inv X pins σ H s' -> za0 v u -> Q u s') : wpAny (model X.prog X.w) A (getAttr (.ref a) f b) Q E s:=by
 obtain ⟨mA,O,r,_,_,_⟩:=zod I.hok e
 obtain ⟨u,hu,ru⟩:=zdx.some_of (v:=v) (o:=mA f) (by rw [<- l]; exact r f)
 exact z3d I.kIn O (c.get f) c.hd n hu (zz3 ru) (h u _ (I.tok _) ru)
theorem z6h {m:Str} {g:Addr} {pl:Sem Bool} {Q:Value × List Value -> Shared -> Prop} (I:Inv X pins σ H s) (e:H a=some (.ins C dx fs)) (c:Cls X.K C) (k:zdu X.K C m g) (l:fs.lookup m=none)
  (h:Q (.ref g,[.ref a]) s) : wpAny (model X.prog X.w) A (getMethod (.ref a) m pl) Q E s:=by
 obtain ⟨mA,O,r,_,_,_⟩:=zod I.hok e
 have hn : mA m=none:=zdx.none_of (by rw [<- l]; exact r m)
 exact zzz I.kIn O (c.get m) k.at_ k.fn hn h
theorem z59 {y:V} {u:Value} {Q:Unit -> Shared -> Prop} (I:Inv X pins σ H s) (e:H a=some (.ins C dx fs)) (c:Cls X.K C) (n:zdn X.K C f) (hl:fs.length < 1000) (ry:za0 y u)
  (h:∀ s',Inv X pins σ (upd H a (.ins C dx (zdq f y fs))) s' -> Q () s') : wpAny (model X.prog X.w) A (setAttr (.ref a) f u) Q E s:=by
 obtain ⟨mA,O,r,wi,_,ho⟩:=zod I.hok e
 have hz : (fs.map (·.1)).length <= sizeLine:=by rw [List.length_map,sizeLine_eq]; omega
 refine z9f I.kIn O c.sa c.po n.taker c.hd wi hz fun h' O' sb=>h _ ?_
 have hd : ∃ o,h'.get? dx=some o:=let ⟨o,_,_,e',_⟩:=O'.ns; ⟨o,e'⟩
 refine I.write (x:=a) (e:=dx) (by rw [e]; exact True.intro) (.inr ho) (fun b q hb z=>(sb.2 b hb).trans z) hd ?_
 refine ⟨by rw [zby O.ne]; exact ho,?_,O.ne,O'.obj,_,O'.ns,fun g=>?_,fun g hg=>?_⟩
 ·have:=zv9 f y fs; omega
 ·show zdx ((zdq f y fs).lookup g) (if g=f then some u else mA g)
  rw [zr1]
  by_cases q : g=f
  ·rw [if_pos q,if_pos q]; exact ry
  ·rw [if_neg q,if_neg q]; exact r g
 ·by_cases q : g=f
  ·rw [q]; exact (zrc f y fs).1
  ·refine (zrc f y fs).2 g (wi g fun z=>hg ?_)
   show (if g=f then some u else mA g)=none
   rw [if_neg q]; exact z
theorem Inv.made (I:Inv X pins σ H s) : Inv X pins σ (upd (upd H s.heap.objs.size (.own (s.heap.objs.size + 1))) (s.heap.objs.size + 1) (.ins C s.heap.objs.size []))
  { s with heap:=(s.heap.push PySem.W.emptyDict).push (PySem.W.instObj C s.heap.objs.size) }:=by
 have e1 : (s.heap.push PySem.W.emptyDict).get? s.heap.objs.size=some PySem.W.emptyDict:=Heap.get?_push_size s.heap rfl
 have e2 : ((s.heap.push PySem.W.emptyDict).push (PySem.W.instObj C s.heap.objs.size)).get? (s.heap.objs.size + 1)=some (PySem.W.instObj C s.heap.objs.size):=by
  have:=Heap.get?_push_size (s.heap.push PySem.W.emptyDict) (o:=PySem.W.instObj C s.heap.objs.size) rfl
  rwa [Heap.size_push] at this
 have e3 : (s.heap.push PySem.W.emptyDict).Ns s.heap.objs.size (fun _=>none):=⟨PySem.W.emptyDict,#[],_,e1,rfl,(fun e he=>absurd he (by simp)),fun _=>rfl⟩
 have I1:=I.laid (a:=s.heap.objs.size) (o:=.own (s.heap.objs.size + 1)) (h':=s.heap.push PySem.W.emptyDict) (t':=s.toks) (fun b u q=>Heap.get?_push_of_some _ q) (Nat.le_refl _) ⟨_,e1⟩
 refine I1.laid (a:=s.heap.objs.size + 1) (o:=.ins C s.heap.objs.size []) (t':=s.toks) (fun b u q=>Heap.get?_push_of_some _ q) (Nat.le_of_eq (Heap.size_push _ _)) ?_
 have ne : s.heap.objs.size ≠ s.heap.objs.size + 1:=Nat.ne_of_lt (Nat.lt_succ_self _)
 refine ⟨by rw [zby ne,zcd],Nat.zero_le _,ne,e2,fun _=>none,(Heap.Ns1.of_empty e3).at fun o q=>Heap.get?_push_of_some _ q,fun _=>True.intro,fun y hy=>absurd rfl hy⟩
theorem z82 {prog:Program} {w:World} {env:Env} {e:Expr} {f:Str} {pos:Pos} {s:Shared} {Q:Value -> Shared -> Prop} (hb:attributeBase e f env (eval e env)=eval e env)
  (h:wpAny (model prog w) A (eval e env) (fun o s₁=>wpAny (model prog w) A (getAttr o f true) Q E s₁) E s) : wpAny (model prog w) A (eval (.Attribute e f pos) env) Q E s :=
 Attribute_any_ h (by rw [arm_eval_Attribute,hb])
end
noncomputable def z0l (K:PySem.W.Frag) (ta:TE) (f:Str) : TE:=fun σ H Q=>ta σ H fun x H1=>∃ a C dx fs v,x=.ref a /\ H1 a=some (.ins C dx fs) /\ Cls K C /\ zdn K C f /\ fs.lookup f=some v /\ Q v H1
noncomputable def z75 (K:PySem.W.Frag) (ta tv:TE) (f:Str) : TS:=fun D σ H=>tv σ H fun y H1=>ta σ H1 fun x H2=>∃ a C dx fs,x=.ref a /\ H2 a=some (.ins C dx fs) /\ Cls K C /\ zdn K C f /\ fs.length < 1000 /\
 D.nx σ (upd H2 a (.ins C dx (zdq f y fs)))
section
variable {X:Cx} {o e value:Expr} {f:Str} {pos pos' tpos:Pos} {ta tv:TE}
theorem z4w (he:PE X e ta) (hb:attributeBase e f X.env (eval e X.env)=eval e X.env) : PE X (.Attribute e f pos) (z0l X.K ta f):=by
 intro pins s σ H Q I h
 refine z82 hb (thn (he pins s σ H _ I h) fun u s1 ⟨x,H1,I1,rx,a,C,dx,fs,v,ex,ea,c,n,l,q⟩=>?_)
 subst ex
 obtain rfl : u=Value.ref a:=rx
 exact z88 I1 ea c n l fun u' s2 I2 ru=>⟨v,H1,I2,ru,q⟩
theorem z48 (ha:PE X o ta) (hv:PE X value tv) (hs:swapsWith value (some (.Attribute o f pos')) pos.line X.env=pure false) : PS X (.Assign [.Attribute o f pos'] value pos) (z75 X.K ta tv f):=by
 intro pins s σ H D I h
 refine plainObj_wpAny_Assign_Attribute (thn (hv pins s σ H _ I h) fun u s1 ⟨y,H1,I1,ry,q⟩=>thn (ha pins s1 σ H1 _ I1 q) fun ov s2 ⟨x,H2,I2,rx,a,C,dx,fs,ex,ea,c,n,l,q2⟩=>?_) hs
 subst ex
 obtain rfl : ov=Value.ref a:=rx
 exact z59 I2 ea c n l ry fun s3 I3=>⟨σ,_,I3,q2⟩
end
section
variable {X:Cx} {pins:List (Addr × Obj)} {σ:St} {H:Hp} {s:Shared} {A:Around} {E:Value -> Shared -> Prop} {Q:Value -> Shared -> Prop} {c:Value} {b:Bool}
inductive zew (K:PySem.W.Frag) (H:Hp) : V -> Value -> Prop where
 | non : zew K H .non (.type "NoneType")
 | bl (x:Bool) : zew K H (.bl x) (.type "bool")
 | int (i:Int) : zew K H (.int i) (.type "int")
 | str (x:Str) : zew K H (.str x) (.type "str")
 | flt (x:UInt64) : zew K H (.flt x) (.type "float")
 | lst {a:Addr} {xs:List V} (e:H a=some (.lst xs)) : zew K H (.ref a) (.type "list")
 | frz {a:Addr} {o:Obj} {xs:List V} (e:H a=some (.frz o (.lst xs))) : zew K H (.ref a) (.type "list")
 | tup {a:Addr} {xs:List V} (e:H a=some (.tup xs)) : zew K H (.ref a) (.type "tuple")
 | dK {a:Addr} {kvs:List (Key × V)} (e:H a=some (.dK kvs)) : zew K H (.ref a) (.type "dict")
 | dT {a:Addr} {kvs:List (List Key × V)} (e:H a=some (.dT kvs)) : zew K H (.ref a) (.type "dict")
 | ins {a C dx:Addr} {fs:List (Str × V)} (e:H a=some (.ins C dx fs)) (cl:Cls K C) (ha:PySem.W.findIn K (.ref C) "__class__"=some (some (.builtin "object.__class__")))
   (hn:PySem.W.specialIn K (.builtin "object.__class__") "__get__"=some (some (.builtin "getset_descriptor.__get__"))) (htk:PySem.W.takesIn K (.builtin "object.__class__")=some true)
   (hm:PySem.W.mroIn K C (.type "object")=some true) : zew K H (.ref a) (.ref C)
theorem zw7 {x:V} {u t:Value} (I:Inv X pins σ H s) (rx:za0 x u) (ty:zew X.K H x t) (e:PySem.W.kitOne X.K t c=some b) (h:∀ tk,Q (.bool b) { s with toks:=tk }) :
  wpAny (model X.prog X.w) A (call (.builtin "isinstance") [u,c]) Q E s:=by
 cases ty with
 | non=>cases (show u=Value.none from rx); exact PySem.W.kia_one PySem.W.kitx_none I.kIn True.intro e (fun z=>nomatch z) h
 | bl y=>cases (show u=Value.bool y from rx); exact PySem.W.kia_one PySem.W.kitx_bool I.kIn True.intro e (fun z=>nomatch z) h
 | int i=>obtain ⟨t,q⟩:=(show ∃ t,u=Value.int i t from rx); cases q; exact PySem.W.kia_one PySem.W.kitx_int I.kIn True.intro e (fun z=>nomatch z) h
 | str y=>obtain ⟨t,q⟩:=(show ∃ t,u=Value.str y t from rx); cases q; exact PySem.W.kia_one PySem.W.kitx_str I.kIn True.intro e (fun z=>nomatch z) h
 | flt y=>obtain ⟨t,q⟩:=(show ∃ t,u=Value.float y t from rx); cases q; exact PySem.W.kia_one PySem.W.kitx_float I.kIn True.intro e (fun z=>nomatch z) h
 | @lst a xs ea =>
  cases (show u=Value.ref a from rx)
  obtain ⟨_,_,n,_,h1⟩:=(show zcv X.prog X.w H s.heap a (.lst xs) from I.hok a _ ea)
  exact PySem.W.kia_one PySem.W.kitx_list I.kIn ⟨_,h1,rfl⟩ e (fun z=>nomatch z) h
 | @frz a ob xs ea =>
  cases (show u=Value.ref a from rx)
  obtain ⟨_,_,_,n,_,h1⟩:=(show zcv X.prog X.w H s.heap a (.frz ob (.lst xs)) from I.hok a _ ea)
  exact PySem.W.kia_one PySem.W.kitx_list I.kIn ⟨_,h1,rfl⟩ e (fun z=>nomatch z) h
 | @tup a xs ea =>
  cases (show u=Value.ref a from rx)
  obtain ⟨_,_,_,p⟩:=(show zcv X.prog X.w H s.heap a (.tup xs) from I.hok a _ ea)
  obtain ⟨o,h1,h2,_⟩:=p
  exact PySem.W.kia_one PySem.W.kitx_tuple I.kIn ⟨o,h1,h2⟩ e (fun z=>nomatch z) h
 | @dK a kvs ea =>
  cases (show u=Value.ref a from rx)
  obtain ⟨_,_,vs,_,p⟩:=(show zcv X.prog X.w H s.heap a (.dK kvs) from I.hok a _ ea)
  obtain ⟨o,es,ep,h1,h2,_⟩:=p
  exact PySem.W.kia_one PySem.W.kitx_dict I.kIn ⟨o,h1,h2.1⟩ e (fun z=>nomatch z) h
 | @dT a kvs ea =>
  cases (show u=Value.ref a from rx)
  obtain ⟨_,_,xs,_,o,es,ep,h1,h2,_⟩:=(show zcv X.prog X.w H s.heap a (.dT kvs) from I.hok a _ ea)
  exact PySem.W.kia_one PySem.W.kitx_dict I.kIn ⟨o,h1,h2.1⟩ e (fun z=>nomatch z) h
 | @ins a C dx fs ea cl ha hn htk hm =>
  cases (show u=Value.ref a from rx)
  obtain ⟨mA,O,_⟩:=zod I.hok ea
  obtain ⟨od,J,_⟩:=O.look
  exact PySem.W.kia_one (PySem.W.kitx_own (cl.get _) cl.hd ha hn htk hm) I.kIn J e (fun z=>nomatch z) h
end
structure zb9 (k:Nat) (A:Around) : Prop where
 hd : A.handled=none
 dp : A.depth + 3 * k + 5 < recursionLimit
 un : A.units + 16 * k + 200 < cLine
theorem zb9.mono {j k:Nat} {A:Around} (r:zb9 k A) (h:j <= k) : zb9 j A:=⟨r.hd,by have:=r.dp; omega,by have:=r.un; omega⟩
theorem zb9.deeper {k:Nat} {A:Around} (r:zb9 (k + 1) A) (env:Env) : zb9 k (A.deeper env) :=
 ⟨r.hd,by have:=r.dp; show A.depth + 1 + 3 * k + 5 < _; omega,by have:=r.un; show A.units + 3 + 16 * k + 200 < _; omega⟩
theorem zb9.in1 {k:Nat} {A:Around} (r:zb9 (k + 1) A) : zb9 k A.in1 :=
 ⟨r.hd,by have:=r.dp; show A.depth + 3 * k + 5 < _; omega,by have:=r.un; show A.units + 1 + 16 * k + 200 < _; omega⟩
theorem z7o {A:Around} {C:Addr} {us:List Value} {kw:List (Str × Value)} : (A.under (.builtin "type.__call__" ⟨.ref C :: us,kw⟩)).depth=A.depth + 1:=by
 first | rfl | simp [Around.under,Code.weight,Code.isCreation,Code.isGuard,Code.isCaller,Code.frames,Code.isFrame,guardIds]
theorem z1i {A:Around} {C:Addr} {us:List Value} {kw:List (Str × Value)} : (A.under (.builtin "type.__call__" ⟨.ref C :: us,kw⟩)).units=A.units + 1:=by
 first | rfl | simp [Around.under,Code.cUnits,Code.frames,Code.isFrame]
theorem zb9.make {k:Nat} {A:Around} (r:zb9 (k + 1) A) (C:Addr) (us:List Value) (kw:List (Str × Value)) : zb9 k (A.under (.builtin "type.__call__" ⟨.ref C :: us,kw⟩)) :=
 ⟨r.hd,by have:=r.dp; rw [z7o]; omega,by have:=r.un; rw [z1i]; omega⟩
theorem zb9.depth {k:Nat} {A:Around} (r:zb9 k A) : A.depth < recursionLimit:=by have:=r.dp; omega
theorem zb9.units {k:Nat} {A:Around} (r:zb9 k A) : A.units + 64 < cLine:=by have:=r.un; omega
noncomputable def zlw : TA:=fun _ H Q=>Q [] H
noncomputable def zmq (ta:TE) (tr:TA) : TA:=fun σ H Q=>ta σ H fun x H1=>tr σ H1 fun xs H2=>Q (x :: xs) H2
section
variable {X:Cx} {e:Expr} {es:List Expr} {te:TE} {t:TA} {pos:Pos}
theorem zdp : PA X [] zlw:=fun _ _ _ _ H Q I h=>Calls.spliced_nil ⟨[],H,I,.nil,h⟩
theorem zdb (ha:PE X e te) (hr:PA X es t) (hs:starEach (e :: es) X.env=(false,eval e X.env) :: starEach es X.env:=by rfl) : PA X (e :: es) (zmq te t):=by
 intro pos pins s σ H Q I h
 rw [hs]
 show wpAny _ _ (spliced ((false,eval e X.env) :: backTo pos (starEach es X.env))) _ _ s
 refine Calls.spliced_cons (thn (ha pins s σ H _ I h) fun u s1 ⟨x,H1,I1,r1,q1⟩=>?_)
 exact thn (hr pos pins s1 σ H1 _ I1 q1) fun us s2 ⟨xs,H2,I2,r2,q2⟩=>⟨x :: xs,H2,I2,.cons r1 r2,q2⟩
noncomputable def zzc (t:TA) : TE:=fun σ H Q=>t σ H fun xs H1=>xs.length <= sizeLine /\ ∀ p,H1 p=none -> Q (.ref p) (upd H1 p (.tup xs))
noncomputable def z04 (t:TA) : TE:=fun σ H Q=>t σ H fun xs H1=>xs.length <= sizeLine /\ ∀ p,H1 p=none -> Q (.ref p) (upd H1 p (.lst xs))
theorem z69 {x1} (h:PA X es t) : PE X (.Tuple es x1 pos) (zzc t):=by
 intro pins s σ H Q I hq
 refine wpAny_Tuple_spliced (thn (h pos pins s σ H _ I hq) fun us s1 ⟨xs,H1,I1,r,z,q⟩=>⟨by rw [<- r.length]; exact z,?_⟩)
 have hf : H1 s1.heap.objs.size=none:=I1.hok.fresh (Nat.le_refl _)
 refine ⟨.ref s1.heap.objs.size,upd H1 s1.heap.objs.size (.tup xs),I1.laid (t':=s1.toks) (fun b u e=>Heap.get?_push_of_some _ e) (Nat.le_refl _) ?_,rfl,q _ hf⟩
 exact ⟨z,us,r,⟨_,Heap.get?_push_size _ rfl,rfl,_,rfl⟩⟩
theorem ztc (h:PA X es t) : PE X (.List es pos) (z04 t):=by
 intro pins s σ H Q I hq
 refine wpAny_List_spliced (thn (h pos pins s σ H _ I hq) fun us s1 ⟨xs,H1,I1,r,z,q⟩=>⟨by rw [<- r.length]; exact z,?_⟩)
 have hf : H1 s1.heap.objs.size=none:=I1.hok.fresh (Nat.le_refl _)
 refine ⟨.ref s1.heap.objs.size,upd H1 s1.heap.objs.size (.lst xs),I1.laid (t':=s1.toks) (fun b u e=>Heap.get?_push_of_some _ e) (Nat.le_refl _) ?_,rfl,q _ hf⟩
 exact ⟨z,us,0,r,Heap.get?_push_size _ rfl⟩
end
noncomputable abbrev Sp:=List V -> Hp -> VK -> XK -> Prop
noncomputable abbrev CXT:=List Env -> Hp -> Shared -> XK -> Value -> Shared -> Prop
structure zgh (P:Program) (w:World) (K:PySem.W.Frag) (mg:Str -> Option Value) (base:Heap) (A:Around) (outer:List Env) (s:Shared) (H:Hp) : Prop where
 frames : A.frames=some outer
 mod : Mod K mg base
 bs : ∀ b o,base.get? b=some o -> s.heap.get? b=some o /\ H b=none
 bsz : base.objs.size <= s.heap.objs.size
 funs : s.heap.FunFrames base outer
 frf : ∀ b ∈ frs outer,H b=none
 hok : HOk P w H s.heap
 bare : AllBare s.gens
noncomputable def CE (outer:List Env) (P:Program) (w:World) (H:Hp) (s:Shared) (Q:VK) (u:Value) (s':Shared) : Prop :=
 ∃ v H',s'.os=s.os /\ AllBare s'.gens /\ Un (frs outer) [] H H' s.heap s'.heap /\ HOk P w H' s'.heap /\ za0 v u /\ Q v H'
noncomputable def CR (CX:CXT) (outer:List Env) (P:Program) (w:World) (H:Hp) (s:Shared) (Q:VK) (E:XK) (r:Result) (s':Shared) : Prop :=
 match r with
 | .ok (.ret u)=>CE outer P w H s Q u s'
 | .ok _=>False
 | .error e=>CX outer H s E e s'
structure zaw (P:Program) (w:World) (K:PySem.W.Frag) (mg:Str -> Option Value) (base:Heap) (CX:CXT) (k:Nat) (f:Addr) (fd:FuncData) (ps:List Str) (sp:Sp) : Prop where
 len : ∀ vs H Q E,sp vs H Q E -> vs.length=ps.length
 run : ∀ (A:Around) (outer:List Env) (s:Shared) (H:Hp) (args:Args) (us:List Value) (vs:List V) (Q:VK) (E:XK),zb9 k A -> zgh P w K mg base A outer s H -> BindsTo s fd args (ps.zip us) -> za1 vs us -> sp vs H Q E ->
  codeAny (model P w) A (.call (.ref f) args) (CR CX outer P w H s Q E) s
theorem zaw.mono {P:Program} {w:World} {K:PySem.W.Frag} {mg:Str -> Option Value} {base:Heap} {CX:CXT} {j k:Nat} {f:Addr} {fd:FuncData} {ps:List Str} {sp:Sp} (F:zaw P w K mg base CX j f fd ps sp) (h:j <= k) :
  zaw P w K mg base CX k f fd ps sp:=⟨F.len,fun A outer s H args us vs Q E hr=>F.run A outer s H args us vs Q E (hr.mono h)⟩
theorem zaw.imp {P:Program} {w:World} {K:PySem.W.Frag} {mg:Str -> Option Value} {base:Heap} {CX:CXT} {k:Nat} {f:Addr} {fd:FuncData} {ps:List Str} {sp sp':Sp} (F:zaw P w K mg base CX k f fd ps sp)
  (h:∀ vs H Q E,sp' vs H Q E -> sp vs H Q E) : zaw P w K mg base CX k f fd ps sp' :=
 ⟨fun vs H Q E q=>F.len vs H Q E (h _ _ _ _ q),fun A outer s H args us vs Q E hr he hb hv hs=>F.run A outer s H args us vs Q E hr he hb hv (h _ _ _ _ hs)⟩
theorem zgh.make {P:Program} {w:World} {K:PySem.W.Frag} {mg:Str -> Option Value} {base:Heap} {A:Around} {outer:List Env} {s:Shared} {H:Hp} (e:zgh P w K mg base A outer s H) (C:Addr) (us:List Value) (kw:List (Str × Value)) :
  zgh P w K mg base (A.under (.builtin "type.__call__" ⟨.ref C :: us,kw⟩)) outer s H:=⟨by first | exact e.frames | (simpa [Around.under,Code.envs,Code.isFrame,pushEnvs] using e.frames),e.mod,e.bs,e.bsz,e.funs,e.frf,e.hok,e.bare⟩
theorem zgh.in1 {P:Program} {w:World} {K:PySem.W.Frag} {mg:Str -> Option Value} {base:Heap} {A:Around} {outer:List Env} {s:Shared} {H:Hp} (e:zgh P w K mg base A outer s H) :
  zgh P w K mg base A.in1 outer s H:=⟨e.frames,e.mod,e.bs,e.bsz,e.funs,e.frf,e.hok,e.bare⟩
section
variable {X:Cx} {pins:List (Addr × Obj)} {σ:St} {H:Hp} {s s':Shared}
theorem Inv.env0 (I:Inv X pins σ H s) : zgh X.prog X.w X.K X.mg X.base X.A X.stack s H :=
 ⟨I.ok.frames,I.ok.mod,I.bs,Nat.le_trans I.ok.bsz I.sz,I.stack,I.stkFree,I.hok,I.bare⟩
theorem Inv.after {Q:VK} {u:Value} (I:Inv X pins σ H s) (h:CE X.stack X.prog X.w H s Q u s') : EP X pins σ Q u s':=by
 obtain ⟨v,H',os,bare,un,hok,r,q⟩:=h
 obtain ⟨hh,g,d,t,os'⟩:=s'
 obtain rfl : os'=s.os:=os
 exact ⟨v,H',I.call (h':=hh) (g':=g) (d':=d) (t':=t) (ch:=[]) un hok bare (fun b z=>absurd z (by simp)),r,q⟩
end
noncomputable def zzy (sp:Sp) (dvs:List V) (E:XK) (t:TA) : TE:=fun σ H Q=>t σ H fun vs H1=>sp (vs ++ dvs) H1 Q E
noncomputable def zze (C:Addr) (m:Str) (sp:Sp) (dvs:List V) (E:XK) (ta:TE) (t:TA) : TE:=fun σ H Q=>ta σ H fun x H1=>∃ a dx fs,x=.ref a /\ H1 a=some (.ins C dx fs) /\ fs.lookup m=none /\
 t σ H1 fun vs H2=>sp (x :: (vs ++ dvs)) H2 Q E
noncomputable def zxv (C:Addr) (sp:Sp) (dvs:List V) (E:XK) (t:TA) : TE:=fun σ H Q=>t σ H fun vs H1=>∀ x dx,H1 x=none -> H1 dx=none -> dx ≠ x ->
 sp (.ref x :: (vs ++ dvs)) (upd (upd H1 dx (.own x)) x (.ins C dx [])) (fun v H2=>v=.non /\ Q (.ref x) H2) E
noncomputable def za5 (K:PySem.W.Frag) (fd:FuncData) (ps:List Str) (ds:List Value) : Prop :=
 ∀ (s:Shared) (us:List Value),K.In s.heap -> (us ++ ds).length=ps.length -> BindsTo s fd ⟨us,[]⟩ (ps.zip (us ++ ds))
theorem za5.all {K:PySem.W.Frag} {fd:FuncData} {ps:List Str} (h:∀ us : List Value,us.length=ps.length -> bindArgs fd ⟨us,[]⟩=pure (ps.zip us)) : za5 K fd ps []:=fun s us _ hl=>by
 rw [List.append_nil] at hl ⊢
 exact .of_eq (h us hl)
noncomputable def zkt (CX:CXT) (X:Cx) (E:XK) : Prop:=∀ (pins:List (Addr × Obj)) (σ:St) (H:Hp) (s:Shared) (e:Value) (s':Shared),Inv X pins σ H s -> CX X.stack H s E e s' -> X.xe e s'
section
variable {X:Cx} {CX:CXT} {k:Nat} {f C:Addr} {fd:FuncData} {ps:List Str} {sp:Sp} {dvs:List V} {ds:List Value} {E:XK} {x m:Str} {p pos apos:Pos} {e o:Expr} {es:List Expr} {ta:TE} {t:TA}
theorem zs8 {pins:List (Addr × Obj)} {σ:St} {H:Hp} {s:Shared} {Q:VK} {us:List Value} {vs:List V} (F:zaw X.prog X.w X.K X.mg X.base CX k f fd ps sp) (hr:zb9 k X.A) (hb:za5 X.K fd ps ds) (hd:za1 dvs ds) (hx:zkt CX X E)
  (I:Inv X pins σ H s) (r:za1 vs us) (h:sp (vs ++ dvs) H Q E) : wpAny (model X.prog X.w) X.A (call (.ref f) us) (EP X pins σ Q) X.xe s:=by
 have r2 : za1 (vs ++ dvs) (us ++ ds):=r.append hd
 have hl : (us ++ ds).length=ps.length:=by rw [<- r2.length]; exact F.len _ _ _ _ h
 refine wpAny_call (codeAny_mono (F.run X.A X.stack s H ⟨us,[]⟩ (us ++ ds) (vs ++ dvs) Q E hr I.env0 (hb s us I.kIn hl) r2 h) fun r s' hq=>?_)
 cases r with
 | error e=>exact hx pins σ H s e s' I hq
 | ok fl =>
  cases fl with
  | ret u=>exact I.after hq
  | next=>exact False.elim hq
  | brk=>exact False.elim hq
  | cont=>exact False.elim hq
theorem zk4 (F:zaw X.prog X.w X.K X.mg X.base CX k f fd ps sp) (hr:zb9 k X.A) (hg:Gl X x) (hm:X.mg x=some (.ref f)) (hk:PySem.W.keepIn X.K (.ref f)=true) (hb:za5 X.K fd ps ds) (hd:za1 dvs ds) (hx:zkt CX X E)
  (ha:PA X (e :: es) t) (hdb:(x == ("__debug__" : Str))=false:=by decide) (he:starEach (e :: es) X.env=(false,eval e X.env) :: starEach es X.env:=by rfl) (hpl:(backTo pos (starEach es X.env)).any (·.1)=false:=by rfl) :
  PE X (.Call (.Name x p) (e :: es) [] pos) (zzy sp dvs E t):=by
 intro pins s σ H Q I h
 refine wpAny_Call_Name_kw (zsq I hg hm ?_ hdb)
 refine PySem.W.callWith_K (h₀:=X.base) I.ok.mod.kin hk (thn (ha pos pins s σ H _ I h) fun us s1 ⟨vs,H1,I1,r,q⟩=>⟨I1.kIn,?_⟩) he hpl
 exact zs8 F hr hb hd hx I1 r q
theorem z9k {pl:Sem Bool} (he:PE X o ta) (c:Cls X.K C) (hm:zdu X.K C m f) (F:zaw X.prog X.w X.K X.mg X.base CX k f fd ps sp) (hr:zb9 k X.A) (hb:za5 X.K fd ps ds) (hd:za1 dvs ds) (hx:zkt CX X E) (ha:PA X (e :: es) t)
  (hst:starEach (e :: es) X.env=(false,eval e X.env) :: starEach es X.env:=by rfl) (hpl:(backTo pos (starEach es X.env)).any (·.1)=false:=by rfl)
  (ht:eval (.Call (.Attribute o m apos) (e :: es) [] pos) X.env=(do
   let ov <- eval o X.env
   standAt apos.atName
   let (f,first) <- holding [ov] (getMethod ov m pl)
   callWith pos f first (backTo pos (starEach (e :: es) X.env)) (backToKw pos (keywordEach [] X.env))):=by rfl) :
  PE X (.Call (.Attribute o m apos) (e :: es) [] pos) (zze C m sp dvs E ta t):=by
 intro pins s σ H Q I h
 refine PySem.W.methodCall_KW (pl:=pl) (thn (he pins s σ H _ I h) fun u s1 ⟨x,H1,I1,rx,a,dx,fs,ex,ea,l,q⟩=>?_) ht
 subst ex
 obtain rfl : u=Value.ref a:=rx
 refine z6h I1 ea c hm l ?_
 refine PySem.W.callWith_K (first:=[.ref a]) (h₀:=X.base) I.ok.mod.kin hm.kp (thn (ha pos pins s1 σ H1 _ I1 q) fun us s2 ⟨vs,H2,I2,r,q2⟩=>⟨I2.kIn,?_⟩) hst hpl
 exact zs8 (us:=.ref a :: us) (vs:=.ref a :: vs) F hr hb hd hx I2 (.cons rfl r) q2
structure Mk (K:PySem.W.Frag) (C f:Addr) : Prop where
 makes : PySem.W.makesIn K C=true
 init : PySem.W.findIn K (.ref C) "__init__"=some (some (.ref f))
 fn : PySem.W.isFn K (.ref f)=true
 kp : PySem.W.keepIn K (.ref C)=true
theorem z4p {pins:List (Addr × Obj)} {σ:St} {H:Hp} {s:Shared} {Q:VK} {us:List Value} {vs:List V} (M:Mk X.K C f) (F:zaw X.prog X.w X.K X.mg X.base CX k f fd ps sp) (hr:zb9 (k + 1) X.A) (hb:za5 X.K fd ps ds) (hd:za1 dvs ds)
  (hx:zkt CX X E) (I:Inv X pins σ H s) (r:za1 vs us)
  (h:∀ x dx,H x=none -> H dx=none -> dx ≠ x -> sp (.ref x :: (vs ++ dvs)) (upd (upd H dx (.own x)) x (.ins C dx [])) (fun v H2=>v=.non /\ Q (.ref x) H2) E) :
  wpAny (model X.prog X.w) X.A (call (.ref C) us) (EP X pins σ Q) X.xe s:=by
 have hq:=h (s.heap.objs.size + 1) s.heap.objs.size (I.hok.fresh (Nat.le_succ _)) (I.hok.fresh (Nat.le_refl _)) (Nat.ne_of_lt (Nat.lt_succ_self _))
 have I2:=Inv.made (C:=C) I
 have r2 : za1 (V.ref (s.heap.objs.size + 1) :: (vs ++ dvs)) (Value.ref (s.heap.objs.size + 1) :: (us ++ ds)):=.cons rfl (r.append hd)
 have hl : (Value.ref (s.heap.objs.size + 1) :: us ++ ds).length=ps.length:=by
  have e:=r2.length
  rw [F.len _ _ _ _ hq] at e
  exact e.symm
 refine wpAny_call (zxp (f:=f) I.kIn M.makes M.init (beq_iff_eq.mp M.fn) (codeAny_mono (F.run _ X.stack _ _ ⟨Value.ref (s.heap.objs.size + 1) :: us,[]⟩ (Value.ref (s.heap.objs.size + 1) :: (us ++ ds)) _ _ E (hr.make C us [])
  (I2.env0.make C us []) (hb _ (Value.ref (s.heap.objs.size + 1) :: us) I2.kIn hl) r2 hq) fun r s' hq'=>?_))
 cases r with
 | error e=>exact hx pins σ _ _ e s' I2 hq'
 | ok fl =>
  cases fl with
  | ret u =>
   obtain ⟨v,H',I3,rv,ev,q3⟩:=I2.after hq'
   subst ev
   exact ⟨rv,⟨V.ref (s.heap.objs.size + 1),H',I3,rfl,q3⟩⟩
  | next=>exact False.elim hq'
  | brk=>exact False.elim hq'
  | cont=>exact False.elim hq'
theorem z07 (M:Mk X.K C f) (F:zaw X.prog X.w X.K X.mg X.base CX k f fd ps sp) (hr:zb9 (k + 1) X.A) (hg:Gl X x) (hm:X.mg x=some (.ref C)) (hb:za5 X.K fd ps ds) (hd:za1 dvs ds) (hx:zkt CX X E)
  (ha:PA X (e :: es) t) (hdb:(x == ("__debug__" : Str))=false:=by decide) (he:starEach (e :: es) X.env=(false,eval e X.env) :: starEach es X.env:=by rfl) (hpl:(backTo pos (starEach es X.env)).any (·.1)=false:=by rfl) :
  PE X (.Call (.Name x p) (e :: es) [] pos) (zxv C sp dvs E t):=by
 intro pins s σ H Q I h
 refine wpAny_Call_Name_kw (zsq I hg hm ?_ hdb)
 refine PySem.W.callWith_K (h₀:=X.base) I.ok.mod.kin M.kp (thn (ha pos pins s σ H _ I h) fun us s1 ⟨vs,H1,I1,r,q⟩=>⟨I1.kIn,?_⟩) he hpl
 exact z4p M F hr hb hd hx I1 r q
end
section
variable {X:Cx} {CX:CXT} {k:Nat} {f C:Addr} {fd:FuncData} {ps ks:List Str} {sp:Sp} {E:XK} {x m:Str} {p pos apos kpos:Pos} {e o:Expr} {es:List Expr} {kws:List Keyword} {te ta:TE} {t tk:TA} {nm:Option Str}
variable {g:List Value -> List Value -> List Value} {gV:List V -> List V -> List V}
end
structure za9 (N P:List Str) (sc:Scope) : Prop where
 kind : sc.kind=.function
 co : sc.isCoroutine=false
 gen : sc.isGenerator=false
 nd : N.Nodup
 pre : N.take P.length=P
 par : ∀ x ∈ P,sc.names.lookup x=some .local \/ sc.names.lookup x=some .cell
 nofree : ∀ y ∈ sc.names,y.2 ≠ .free
theorem zsi {kindOf:Str -> Option NameKind} {x:Str} : ∀ {binds:List (Str × Value)} {m:Str -> Option Value},(∀ v,(x,v) ∉ binds) -> bindL kindOf binds m x=m x
 | [],_,_=>rfl
 | (n,v) :: r,m,h=>by
  unfold bindL
  rw [zsi fun w hw=>h w (List.mem_cons_of_mem _ hw)]
  split
  ·have : x ≠ n:=by rintro rfl; exact h v List.mem_cons_self
   simp [this]
  ·rfl
theorem ztv {kindOf:Str -> Option NameKind} {x:Str} : ∀ {binds:List (Str × Value)} {m:Str -> Option Value},(∀ v,(x,v) ∉ binds) -> bindC kindOf binds m x=m x
 | [],_,_=>rfl
 | (n,v) :: r,m,h=>by
  unfold bindC
  rw [ztv fun w hw=>h w (List.mem_cons_of_mem _ hw)]
  split
  ·rfl
  ·have : x ≠ n:=by rintro rfl; exact h v List.mem_cons_self
   simp [this]
theorem zvg {kindOf:Str -> Option NameKind} {x:Str} {v:Value} : ∀ {P:List Str} {vs:List Value} {i:Nat} {m:Str -> Option Value},P.Nodup -> P[i]?=some x -> vs[i]?=some v -> kindOf x=some .local ->
  bindL kindOf (P.zip vs) m x=some v
 | [],_,_,_,_,h,_,_=>by simp at h
 | _ :: _,[],_,_,_,_,h,_=>by simp at h
 | p :: P,w :: vs,0,m,nd,h1,h2,hk=>by
  simp at h1 h2; subst h1; subst h2
  show bindL kindOf ((p,w) :: P.zip vs) m p=_
  unfold bindL
  rw [zsi fun v hv=>(List.nodup_cons.mp nd).1 (List.of_mem_zip hv).1,if_pos hk]
  simp
 | p :: P,w :: vs,i + 1,m,nd,h1,h2,hk=>by
  show bindL kindOf ((p,w) :: P.zip vs) m x=_
  unfold bindL
  exact zvg (i:=i) (List.nodup_cons.mp nd).2 (by simpa using h1) (by simpa using h2) hk
theorem zu9 {kindOf:Str -> Option NameKind} {x:Str} {v:Value} : ∀ {P:List Str} {vs:List Value} {i:Nat} {m:Str -> Option Value},P.Nodup -> P[i]?=some x -> vs[i]?=some v -> kindOf x ≠ some .local ->
  bindC kindOf (P.zip vs) m x=some v
 | [],_,_,_,_,h,_,_=>by simp at h
 | _ :: _,[],_,_,_,_,h,_=>by simp at h
 | p :: P,w :: vs,0,m,nd,h1,h2,hk=>by
  simp at h1 h2; subst h1; subst h2
  show bindC kindOf ((p,w) :: P.zip vs) m p=_
  unfold bindC
  rw [ztv fun v hv=>(List.nodup_cons.mp nd).1 (List.of_mem_zip hv).1,if_neg hk]
  simp
 | p :: P,w :: vs,i + 1,m,nd,h1,h2,hk=>by
  show bindC kindOf ((p,w) :: P.zip vs) m x=_
  unfold bindC
  exact zu9 (i:=i) (List.nodup_cons.mp nd).2 (by simpa using h1) (by simpa using h2) hk
noncomputable def start (N:List Str) (vs:List V) : St:=vs.map some ++ List.replicate (N.length - vs.length) none
noncomputable def zge (CX:CXT) (P:Program) (w:World) (K:PySem.W.Frag) (mg:Str -> Option Value) (base:Heap) (N:List Str) (qual:Str) (scope:Scope) (f:Addr) (cd:Value) (A:Around) (outer:List Env) (s:Shared) (H:Hp) (E:XK) : Cx where
 prog:=P
 w:=w
 K:=K
 mg:=mg
 base:=base
 A:=A.deeper (envOfC qual scope s.heap.objs.size f cd)
 N:=N
 s₀:=s
 H₀:=H
 env:=envOfC qual scope s.heap.objs.size f cd
 outer:=outer
 stack:=envOfC qual scope s.heap.objs.size f cd :: outer
 ex:=[]
 calm:=true
 fn:=fun _=>true
 pn:=[]
 xe:=fun e s'=>wpAny (model P w) (A.deeper (envOfC qual scope s.heap.objs.size f cd)) (leaving (envOfC qual scope s.heap.objs.size f cd) e) (fun _ s''=>CX outer H s E e s'') (fun e' s''=>CX outer H s E e' s'') s'
theorem zv2 {sc:Scope} {n:Nat} {x:Str} (h:sc.names.lookup x=some .cell) : ∃ c,(cellsFrom n sc.names []).lookup x=some c:=by
 have q:=PySem.W.cellsFrom_some sc.names n [] (.inl h)
 exact Option.isSome_iff_exists.mp q
theorem z4y {CX:CXT} {P:Program} {w:World} {K:PySem.W.Frag} {mg:Str -> Option Value} {base:Heap} {N ps:List Str} {qual:Str} {scope:Scope} {f:Addr} {cd:Value} {A:Around} {outer:List Env} {s s1:Shared} {H:Hp} {E:XK} {us:List Value} {vs:List V}
  (S:za9 N ps scope) (hd:A.handled=none) (e0:zgh P w K mg base A outer s H) (hl:vs.length=ps.length) (r:za1 vs us)
  (x:InCallC s s.heap.objs.size (bindL (envOfC qual scope s.heap.objs.size f cd).kindOf (ps.zip us) fun _=>none) (cellsFrom (s.heap.objs.size + 1) scope.names []) (bindC (envOfC qual scope s.heap.objs.size f cd).kindOf (ps.zip us) fun _=>none) s1) :
  Inv (zge CX P w K mg base N qual scope f cd A outer s H E) [] (start N vs) H s1:=by
 have hpl : ps.length <= N.length:=by have:=congrArg List.length S.pre; rw [List.length_take] at this; omega
 obtain ⟨h1,tk,rfl,hk⟩:=x.done
 have noA : ∀ b : Addr,b ∉ (zge CX P w K mg base N qual scope f cd A outer s H E).ex:=fun b z=>absurd (show b ∈ ([] : List Addr) from z) (by simp)
 refine ⟨⟨e0.mod,S.kind,rfl,rfl,Nat.le_refl _,fun y z c h1 h2=>?_,fun y hy=>?_,fun y c _ h=>?_,fun _=>hd,Around.frames_deeper e0.frames,.inr ⟨rfl,rfl⟩,fun b z=>absurd z (noA b),e0.bs,e0.bsz,fun b _ _=>noA b,fun b z=>absurd z (noA b),e0.funs,e0.frf⟩,
  rfl,e0.bare,Un.kept hk,⟨_,x.toInCall.ns,fun i y v h1 h2 h3=>?_⟩,fun y c h=>⟨_,x.cell y c h⟩,e0.hok.fresh (Nat.le_refl _),fun y c h=>?_,fun p hp=>absurd (show p ∈ ([] : List (Addr × Obj)) from hp) (by simp),e0.hok.kept hk,?_⟩
 ·exact name_of_addr x.apart (PySem.mem_of_lookup h1) (PySem.mem_of_lookup h2)
 ·have hy : scope.names.lookup y=some .cell \/ scope.names.lookup y=some .free:=hy
  rcases hy with hy | hy
  ·exact zv2 hy
  ·exact absurd rfl (S.nofree _ (PySem.mem_of_lookup hy))
 ·exact Nat.le_of_lt (x.above y c (PySem.mem_of_lookup h))
 ·have hi : i < vs.length:=by
   unfold start at h2
   by_cases hi : i < vs.length
   ·exact hi
   ·rw [List.getElem?_append_right (by simpa using hi)] at h2
    rw [List.getElem?_replicate] at h2
    split at h2 <;> cases h2
  have ha : vs[i]?=some v:=by
   unfold start at h2
   rw [List.getElem?_append_left (by simpa using hi),List.getElem?_map] at h2
   cases e : vs[i]? with
   | none=>rw [e] at h2; cases h2
   | some a=>rw [e] at h2; cases h2; rfl
  obtain ⟨u,hu,rv⟩:=r.get ha
  have hp : ps[i]?=some y:=by
   rw [<- S.pre,List.getElem?_take_of_lt (by omega)]; exact h1
  have ndP : ps.Nodup:=by rw [<- S.pre]; exact S.nd.sublist (List.take_sublist _ _)
  refine ⟨u,rv,?_⟩
  rcases S.par y (List.mem_of_getElem? hp) with k | k
  ·exact .inl ⟨k,zvg ndP hp hu k⟩
  ·obtain ⟨c,e⟩:=zv2 (n:=s.heap.objs.size + 1) k
   refine .inr ⟨.inl k,c,e,?_⟩
   have q:=x.cell y c e
   rw [zu9 ndP hp hu (by show scope.names.lookup y ≠ _; rw [k]; decide)] at q
   exact q
 ·exact e0.hok.fresh (Nat.le_of_lt (x.above y c (PySem.mem_of_lookup h)))
 ·unfold start
  show _=N.length
  rw [List.length_append,List.length_map,List.length_replicate]
  omega
theorem zwy {CX:CXT} {P:Program} {w:World} {K:PySem.W.Frag} {mg:Str -> Option Value} {base:Heap} {k:Nat} {f:Addr} {name qual:Str} {params:Arguments} {body:List Stmt} {scope:Scope} {dV kV doc pm cdv ct oc:Value} {an od:Option Addr}
  {osl:Array (Option Value)} {N ps:List Str} {sp:Sp} (lk:K.lookup f=some ⟨oc,od,.func (PySem.W.fnOf name qual params body scope dV kV doc pm an cdv ct),osl⟩) (hcd:PySem.W.codeIn K cdv qual=true) (S:za9 N ps scope)
  (len:∀ vs H Q E,sp vs H Q E -> vs.length=ps.length)
  (hbody:∀ (A:Around) (outer:List Env) (s:Shared) (H:Hp) (vs:List V) (Q:VK) (E:XK),zb9 k (A.deeper (envOfC qual scope s.heap.objs.size f cdv)) -> sp vs H Q E ->
   ∃ t,PSs (zge CX P w K mg base N qual scope f cdv A outer s H E) body t /\ t { nx:=fun _ H'=>Q .non H',rt:=Q } (start N vs) H) :
  zaw P w K mg base CX (k + 1) f (PySem.W.fnOf name qual params body scope dV kV doc pm an cdv ct) ps sp:=by
 refine ⟨len,fun A outer s H args us vs Q E hr e0 hb r hsp=>?_⟩
 have hl:=len _ _ _ _ hsp
 have KX : K.In s.heap:=e0.mod.kin.keeps fun b o e=>(e0.bs b o e).1
 have lim : s.heap.NoLimit:=e0.mod.nolimit.keeps fun b o e=>(e0.bs b o e).1
 have hkind : ∀ y ∈ ps.zip us,scope.names.lookup y.1=some .local \/ (scope.names.lookup y.1=some .cell /\ ((cellsFrom (s.heap.objs.size + 1) scope.names []).lookup y.1).isSome=true):=fun ⟨n,v⟩ hy=>by
  rcases S.par n (List.of_mem_zip hy).1 with q | q
  ·exact .inl q
  ·exact .inr ⟨q,PySem.W.cellsFrom_some _ _ _ (.inl q)⟩
 refine codeAny_call_function hr.depth (KX _ _ lk) rfl S.co S.gen rfl (PySem.W.codeRec_of KX hcd) (hb _ _ _ _ ?_)
 refine wpAny_newFunctionEnv_cells S.kind hkind fun env he s1 x=>?_
 subst he
 refine ⟨lim.keeps x.toInCall.keep,codeAny_func ?_⟩
 obtain ⟨t,ht,hq⟩:=hbody A outer s H vs Q E (hr.deeper _) hsp
 have I : Inv (zge CX P w K mg base N qual scope f cdv A outer s H E) [] (start N vs) H s1:=z4y S hr.hd e0 hl r x
 refine wpAny_mono (ht [] s1 (start N vs) H _ I hq) (fun fl s' hs=>?_) fun e s' hs=>hs
 have fin : ∀ {σ':St} {H':Hp} {v:V} {u:Value},Inv (zge CX P w K mg base N qual scope f cdv A outer s H E) [] σ' H' s' -> za0 v u -> Q v H' -> CE outer P w H s Q u s' :=
  fun {σ' H' v u} J rv q=>⟨v,H',J.os,J.bare,J.base,J.hok,rv,q⟩
 cases fl with
 | ret u =>
  obtain ⟨v,σ',H',J,rv,q⟩:=hs
  exact fin J rv q
 | next =>
  obtain ⟨σ',H',J,q⟩:=hs
  exact fin (v:=V.non) (u:=Value.none) J rfl q
 | brk =>
  obtain ⟨_,_,_,q⟩:=hs
  exact False.elim q
 | cont =>
  obtain ⟨_,_,_,q⟩:=hs
  exact False.elim q
section
variable {X:Cx} {x:Str} {p pos:Pos} {e:Expr} {es:List Expr} {t:TA} {id T:String} {r:List V -> Hp -> VK -> Prop}
noncomputable def tCB (r:List V -> Hp -> VK -> Prop) (t:TA) : TE:=fun σ H Q=>t σ H fun vs H1=>r vs H1 Q
theorem ztd (hc:zfb X (.builtin id) r) (hg:Gl X x) (hm:X.mg x=none) (hv:bootBuiltins x=some (.builtin id)) (ha:PA X (e :: es) t) (hn:x ≠ "__name__":=by decide) (hdb:(x == ("__debug__" : Str))=false:=by decide)
  (he:starEach (e :: es) X.env=(false,eval e X.env) :: starEach es X.env:=by rfl) (hpl:(backTo pos (starEach es X.env)).any (·.1)=false:=by rfl) : PE X (.Call (.Name x p) (e :: es) [] pos) (tCB r t):=by
 intro pins s σ H Q I h
 refine wpAny_Call_Name_kw (zg4 I hg hm hv ?_ hn hdb)
 exact PyProof.Rows.callWith_builtin1 (thn (ha pos pins s σ H _ I h) fun us s1 ⟨vs,H1,I1,r1,q1⟩=>hc pins s1 σ H1 vs us Q I1 r1 q1) he hpl
theorem zzp (hc:zfb X (.type T) r) (hg:Gl X x) (hm:X.mg x=none) (hv:bootBuiltins x=some (.type T)) (ha:PA X (e :: es) t) (hn:x ≠ "__name__":=by decide) (hdb:(x == ("__debug__" : Str))=false:=by decide)
  (he:starEach (e :: es) X.env=(false,eval e X.env) :: starEach es X.env:=by rfl) (hpl:(backTo pos (starEach es X.env)).any (·.1)=false:=by rfl) : PE X (.Call (.Name x p) (e :: es) [] pos) (tCB r t):=by
 intro pins s σ H Q I h
 refine wpAny_Call_Name_kw (zg4 I hg hm hv ?_ hn hdb)
 exact PyProof.Rows.callWith_type1 (thn (ha pos pins s σ H _ I h) fun us s1 ⟨vs,H1,I1,r1,q1⟩=>hc pins s1 σ H1 vs us Q I1 r1 q1) he hpl
end
end L2
namespace HT
open PySem PyProof.Rows
section
open PySem.SeqAt
open PySem.AutoSeq1 (wpAny_loadPart')
open PySem.MeetsSeq PySem.MeetsSeq2 PySem.MeetsSeq3
end
section
variable {prog:Program} {w:World} {A:Around} {E:Value -> Shared -> Prop} {s:Shared}
noncomputable def sIx (n d:Nat) : Option Int -> Nat
 | none=>d
 | some v=>if v < 0 then (v + (n:Int)).toNat else min v.toNat n
theorem sIx_nat (n d k:Nat) : sIx n d (some (k:Int))=min k n:=by
 show (if (k:Int) < 0 then ((k:Int) + (n:Int)).toNat else min (k:Int).toNat n)=min k n
 rw [if_neg (by omega),Int.toNat_natCast]
end
end HT
namespace L2
open PySem PySem.Spec PyProof.Rows
noncomputable abbrev TO:=St -> Hp -> (Option Int -> Hp -> Prop) -> Prop
noncomputable def PO (X:Cx) (e:Option Expr) (t:TO) : Prop :=
 ∀ (pins:List (Addr × Obj)) (s:Shared) (σ:St) (H:Hp) (Q:Option Int -> Hp -> Prop),Inv X pins σ H s -> t σ H Q ->
  wpAny (model X.prog X.w) X.A (evalPart e X.env) (fun u s'=>∃ o H',Inv X pins σ H' s' /\ IsPart u o /\ Q o H') X.xe s
noncomputable def zxa : TO:=fun _ H Q=>Q none H
noncomputable def z58 (t:TE) : TO:=fun σ H Q=>t σ H fun x H1=>∃ i,x=.int i /\ Q (some i) H1
theorem zzg {ns:List Int} : ∀ {us:List Value},za1 (ns.map V.int) us -> IntsAre us ns:=by
 induction ns with
 | nil=>intro us r; rw [List.map_nil] at r; cases r; exact .nil
 | cons n ns ih =>
  intro us r
  rw [List.map_cons] at r
  cases r with
  | cons r1 r2 =>
   obtain ⟨t,e⟩:=r1
   subst e
   exact .cons n t (ih r2)
section
variable {X:Cx} {e:Expr} {te:TE} {lo hi:Option Expr} {tl th:TO} {pos p2:Pos}
theorem z5e : PO X none zxa:=by
 intro pins s σ H Q I h
 rw [evalPart_none]
 exact wpAny_pure ⟨none,H,I,.none,h⟩
theorem z4r (h:PE X e te) : PO X (some e) (z58 te):=by
 intro pins s σ H Q I hw
 rw [evalPart_some]
 refine thn (h pins s σ H _ I hw) fun u s1 ⟨x,H1,I1,r1,q1⟩=>?_
 obtain ⟨i,rfl,q⟩:=q1
 obtain ⟨t,rfl⟩:=r1
 exact ⟨some i,H1,I1,.int i t,q⟩
noncomputable def SlR (X:Cx) (r:V -> Option Int -> Option Int -> Hp -> VK -> Prop) : Prop :=
 ∀ (pins:List (Addr × Obj)) (s:Shared) (σ:St) (H:Hp) (x:V) (v vl vu:Value) (lo hi:Option Int) (sl:Addr) (Q:VK),Inv X pins σ H s -> za0 x v -> s.heap.IsSliceOf sl vl vu .none -> IsPart vl lo -> IsPart vu hi -> r x lo hi H Q ->
  ∃ T id,typeLookup (.type T) "__getitem__"=pure (some (.builtin id)) /\ s.TypeIs v T /\ wpAny (model X.prog X.w) X.A (getItem v (.ref sl)) (EP X pins σ Q) X.xe s
noncomputable def tSl (r:V -> Option Int -> Option Int -> Hp -> VK -> Prop) (te:TE) (tl th:TO) : TE:=fun σ H Q=>te σ H fun x H1=>tl σ H1 fun l H2=>th σ H2 fun u H3=>r x l u H3 Q
theorem z0b {r:V -> Option Int -> Option Int -> Hp -> VK -> Prop} (hr:SlR X r) (he:PE X e te) (hl:PO X lo tl) (hu:PO X hi th) : PE X (.Subscript e (.Slice lo hi none p2) pos) (tSl r te tl th):=by
 intro pins s σ H Q I h
 refine Subscript_ (thn (he pins s σ H _ I h) fun v s1 ⟨x,H1,I1,r1,q1⟩=>?_)
 refine wpAny_Slice (thn (hl pins s1 σ H1 _ I1 q1) fun vl s2 ⟨l,H2,I2,pl,q2⟩=>thn (hu pins s2 σ H2 _ I2 q2) fun vu s3 ⟨u,H3,I3,pu,q3⟩=>?_)
 rw [evalPart_none]
 refine wpAny_pure ?_
 have I4 : Inv X pins σ H3 { s3 with heap:=s3.heap.push { cls:=.type "slice",data:=.fields #[vl,vu,.none] } }:=I3.kept (t':=s3.toks) fun b ob q=>Heap.get?_push_of_some _ q
 obtain ⟨T,id,hT,ht,hg⟩:=hr pins { s3 with heap:=s3.heap.push { cls:=.type "slice",data:=.fields #[vl,vu,.none] } } σ H3 x v vl vu l u s3.heap.objs.size Q I4 r1 (Heap.IsSliceOf.new ..) pl pu q3
 show wpAny (model X.prog X.w) X.A (subscriptTail e (.Slice lo hi none p2) v (.ref s3.heap.objs.size)) (EP X pins σ Q) X.xe { s3 with heap:=s3.heap.push { cls:=.type "slice",data:=.fields #[vl,vu,.none] } }
 exact tail_any (ops:=[.ref s3.heap.objs.size,v]) ht hT hg (by with_unfolding_all rfl)
noncomputable def zhe (xs:List V) (lo hi:Option Int) : List V:=(xs.drop (HT.sIx xs.length 0 lo)).take (HT.sIx xs.length xs.length hi - HT.sIx xs.length 0 lo)
theorem z2j (xs:List V) (lo hi:Option Int) : (zhe xs lo hi).length <= xs.length:=by
 unfold zhe
 rw [List.length_take,List.length_drop]
 omega
end
noncomputable def ixN (n:Nat) (i:Int) : Option Nat:=if 0 <= i then (if i < n then some i.toNat else none) else if -(n:Int) <= i then some (i + n).toNat else none
noncomputable def atI {α : Type} (xs:List α) (i:Int) : Option α:=(ixN xs.length i).bind fun j=>xs[j]?
theorem zvk {n:Nat} {i:Int} {j:Nat} (h:ixN n i=some j) : seqIndex? i n=some j /\ j < n /\ -(n:Int) <= i /\ i < n:=by
 unfold ixN at h
 by_cases h0 : 0 <= i
 ·rw [if_pos h0] at h
  by_cases h1 : i < n
  ·rw [if_pos h1] at h
   have e : i.toNat=j:=Option.some.inj h
   exact ⟨by rw [seqIndex_of h0 h1,e],by omega,by omega,h1⟩
  ·rw [if_neg h1] at h; cases h
 ·rw [if_neg h0] at h
  by_cases h1 : -(n:Int) <= i
  ·rw [if_pos h1] at h
   have e : (i + n).toNat=j:=Option.some.inj h
   exact ⟨by rw [seqIndex_neg (by omega) h1,e],by omega,h1,by omega⟩
  ·rw [if_neg h1] at h; cases h
theorem ztk {α : Type} {xs:List α} {i:Int} {v:α} (h:atI xs i=some v) : ∃ j,seqIndex? i xs.length=some j /\ xs[j]?=some v /\ j < xs.length /\ -(xs.length : Int) <= i /\ i < xs.length:=by
 unfold atI at h
 cases e : ixN xs.length i with
 | none=>rw [e] at h; cases h
 | some j =>
  rw [e] at h
  obtain ⟨h1,h2,h3,h4⟩:=zvk e
  exact ⟨j,h1,h,h2,h3,h4⟩
theorem z3i {α : Type} {xs:List α} {j:Nat} {v:α} (h:xs[j]?=some v) : atI xs (j:Int)=some v:=by
 have hj : j < xs.length:=(List.getElem?_eq_some_iff.mp h).1
 have e : ixN xs.length (j:Int)=some j:=by
  unfold ixN
  rw [if_pos (by omega),if_pos (by omega)]; simp
 unfold atI; rw [e]; exact h
noncomputable def zse (b:Expr) : Prop:=∀ o i,subscripted b false o i=operate [o,i] (getItem o i)
noncomputable def IxR (X:Cx) (r:R2) : Prop :=
 ∀ (value slice:Expr) (pins:List (Addr × Obj)) (s:Shared) (σ:St) (H:Hp) (x y:V) (v u:Value) (Q:VK),Inv X pins σ H s -> za0 x v -> za0 y u -> r x y H Q ->
  subscripted slice false v u=operate [v,u] (getItem v u) -> wpAny (model X.prog X.w) X.A (subscriptTail value slice v u) (EP X pins σ Q) X.xe s
noncomputable def MtR (X:Cx) (id:String) (r:V -> List V -> Hp -> VK -> Prop) : Prop :=
 ∀ (pins:List (Addr × Obj)) (s:Shared) (σ:St) (H:Hp) (x:V) (xs:List V) (v:Value) (us:List Value) (Q:VK),Inv X pins σ H s -> za0 x v -> za1 xs us -> r x xs H Q ->
  wpAny (model X.prog X.w) X.A (call (.builtin id) (v :: us)) (EP X pins σ Q) X.xe s
section
variable {X:Cx} {a b:Expr} {ta tb:TE} {pos:Pos}
theorem IxR.or {r r':R2} (h:IxR X r) (h':IxR X r') : IxR X (fun x y H Q=>r x y H Q \/ r' x y H Q):=by
 intro value slice pins s σ H x y v u Q I rx ry q hs
 rcases q with q | q
 ·exact h value slice pins s σ H x y v u Q I rx ry q hs
 ·exact h' value slice pins s σ H x y v u Q I rx ry q hs
theorem z9r {r:R2} (hr:IxR X r) (ha:PE X a ta) (hb:PE X b tb) (hs:zse b) : PE X (.Subscript a b pos) (tOp r ta tb):=by
 intro pins s σ H Q I h
 exact Subscript_ (zq1 ha hb I h fun v u s2 x y H2 I2 rx ry q=>hr a b pins s2 σ H2 x y v u Q I2 rx ry q (hs _ _))
noncomputable def z7g (K:PySem.W.Frag) : R2:=fun x y H Q=>∃ p xs i v,x=.ref p /\ y=.int i /\ SqL K H p xs /\ atI xs i=some v /\ Q v H
noncomputable def zwv (K:PySem.W.Frag) : R2:=fun x y H Q=>∃ p xs i v,x=.ref p /\ y=.int i /\ SqT K H p xs /\ atI xs i=some v /\ Q v H
theorem zxc : IxR X (z7g X.K):=by
 intro value slice pins s σ H x y v u Q I rx ry h hs
 obtain ⟨p,xs,i,z,rfl,rfl,hq,he,q⟩:=h
 cases rx
 obtain ⟨t,rfl⟩:=ry
 obtain ⟨its,r,pl,hz⟩:=I.list hq
 obtain ⟨j,h1,h2,h3,h4,h5⟩:=ztk he
 obtain ⟨w,ew,rw'⟩:=r.get h2
 have hl:=r.length
 have hn:=zj3
 have fin : EP X pins σ Q w s:=⟨z,H,I,rw',q⟩
 by_cases h0 : 0 <= i
 ·have hj : i.toNat=j:=by
   rw [seqIndex_of h0 h5] at h1
   exact Option.some.inj h1
  exact item_listR pl.isList h0 (by omega) (by rw [hj]; simpa using ew) fin hs
 ·have hj : (i + (its.toArray.size : Int)).toNat=j:=by
   rw [seqIndex_neg (by omega) h4] at h1
   rw [List.size_toArray,<- hl]
   exact Option.some.inj h1
  exact subscriptTail_builtinR (x:=w) pl.isList.typeIs slot_list_getitem.lookup
   (wpAny_getItem_list_neg (Q:=fun r s'=>r=w /\ EP X pins σ Q r s') pl.isList (by omega) (by rw [List.size_toArray] <;> omega) (by omega) (by rw [hj]; simpa using ew) ⟨rfl,fin⟩) hs
theorem zyi : IxR X (zwv X.K):=by
 intro value slice pins s σ H x y v u Q I rx ry h hs
 obtain ⟨p,xs,i,z,rfl,rfl,hq,he,q⟩:=h
 cases rx
 obtain ⟨t,rfl⟩:=ry
 obtain ⟨its,r,pl,hz⟩:=I.tuple hq
 obtain ⟨j,h1,h2,h3,h4,h5⟩:=ztk he
 obtain ⟨w,ew,rw'⟩:=r.get h2
 have hl:=r.length
 have hn:=zj3
 have fin : EP X pins σ Q w s:=⟨z,H,I,rw',q⟩
 exact subscriptTail_builtinR (x:=w) pl.typeIs slot_tuple_getitem.lookup
  (getItem_tuple (j:=j) (Q:=fun r s'=>r=w /\ EP X pins σ Q r s') pl (by omega) (by omega) (by rw [List.size_toArray,<- hl]; exact h1) (by simpa using ew) ⟨rfl,fin⟩) hs
theorem z6m (its:List Value) (n j:Nat) (u:Value) : Obj.mapSeq (·.setIfInBounds j u) { cls:=.type "list",data:=.seq its.toArray n }={ cls:=.type "list",data:=.seq (its.set j u).toArray n }:=by
 simp [Obj.mapSeq]
theorem Inv.lst {pins:List (Addr × Obj)} {σ:St} {H:Hp} {s:Shared} {p:Addr} {xs:List V} (I:Inv X pins σ H s) (h:H p=some (.lst xs)) :
  ∃ (its:List Value) (n:Nat),za1 xs its /\ s.heap.get? p=some { cls:=.type "list",data:=.seq its.toArray n } /\ xs.length <= sizeLine:=by
 obtain ⟨z,its,n,r,e⟩:=I.hok p _ h
 exact ⟨its,n,r,e,z⟩
theorem Inv.lstUpd {pins:List (Addr × Obj)} {σ:St} {H:Hp} {s:Shared} {p:Addr} {xs ys:List V} {its its':List Value} {n n':Nat} {f:Obj -> Obj} (I:Inv X pins σ H s) (h:H p=some (.lst xs))
  (ho:s.heap.get? p=some { cls:=.type "list",data:=.seq its.toArray n }) (hf:f { cls:=.type "list",data:=.seq its.toArray n }={ cls:=.type "list",data:=.seq its'.toArray n' }) (r:za1 ys its') (hz:ys.length <= sizeLine) (t:Nat) :
  Inv X pins σ (upd H p (.lst ys)) { s with heap:=s.heap.update p f,toks:=t }:=by
 have e : (s.heap.update p f).get? p=some { cls:=.type "list",data:=.seq its'.toArray n' }:=by
  rw [Heap.get?_update_self f ho (by rw [hf] <;> rfl),hf]
 refine I.write (x:=p) (e:=p) (by rw [h]; trivial) (.inl rfl) (fun b u hb q=>(Heap.get?_update_other _ _ (Ne.symm hb)).trans q) ⟨_,e⟩ ?_
 exact ⟨hz,its',n',r,e⟩
noncomputable def zuo : V -> V -> V -> Hp -> (Hp -> Prop) -> Prop:=fun o i v H Q=>∃ p xs k j,o=.ref p /\ i=.int k /\ H p=some (.lst xs) /\ ixN xs.length k=some j /\ Q (upd H p (.lst (xs.set j v)))
theorem z26 : zsg X zuo:=by
 intro pins s σ H o i v ov iv u Q I ro ri rv h
 obtain ⟨p,xs,k,j,rfl,rfl,hp,hj,q⟩:=h
 cases ro
 obtain ⟨t,rfl⟩:=ri
 obtain ⟨its,n,r,ho,hz⟩:=I.lst hp
 obtain ⟨h1,h2,h3,h4⟩:=zvk hj
 have hl:=r.length
 have hn:=zj3
 have I' : Inv X pins σ (upd H p (.lst (xs.set j v))) { s with heap:=s.heap.update p (Obj.mapSeq (·.setIfInBounds j u)) } :=
  I.lstUpd hp ho (z6m its n j u) (r.set rv j) (by rw [List.length_set]; exact hz) s.toks
 by_cases h0 : 0 <= k
 ·have hk : k.toNat=j:=by
   rw [seqIndex_of h0 h4] at h1
   exact Option.some.inj h1
  exact PySem.W.ki_setAt ho h0 (by omega) (by rw [List.size_toArray,<- hl]; exact h4) (by rw [hk]; exact ⟨_,I',q⟩)
 ·have hk : (k + (its.toArray.size : Int)).toNat=j:=by
   rw [seqIndex_neg (by omega) h3] at h1
   rw [List.size_toArray,<- hl]
   exact Option.some.inj h1
  exact PySem.W.ki_setBack ho (by omega) (by rw [List.size_toArray,<- hl]; exact h3) (by omega) (by rw [hk]; exact ⟨_,I',q⟩)
theorem z2v (lo hi:Option Int) (n:Nat) : (sliceBounds lo hi none n).1=((HT.sIx n 0 lo : Nat) : Int) /\ (sliceBounds lo hi none n).2.1=((HT.sIx n n hi : Nat) : Int) /\ (sliceBounds lo hi none n).2.2=1:=by
 refine ⟨?_,?_,rfl⟩
 ·cases lo with
  | none=>simp [sliceBounds,HT.sIx]
  | some i =>
   simp only [sliceBounds,HT.sIx,Option.getD_none,show (1 : Int) > 0 by decide,if_true]
   by_cases h : i < 0
   ·simp only [h,if_true] <;> omega
   ·simp only [h,if_false] <;> omega
 ·cases hi with
  | none=>simp [sliceBounds,HT.sIx]
  | some i =>
   simp only [sliceBounds,HT.sIx,Option.getD_none,show (1 : Int) > 0 by decide,if_true]
   by_cases h : i < 0
   ·simp only [h,if_true] <;> omega
   ·simp only [h,if_false] <;> omega
theorem z6r (its:List Value) (lo hi:Option Int) : slicePick its.toArray lo hi none=((its.drop (HT.sIx its.length 0 lo)).take (HT.sIx its.length its.length hi - HT.sIx its.length 0 lo)).toArray:=by
 obtain ⟨h1,h2,h3⟩:=z2v lo hi its.toArray.size
 unfold slicePick
 rw [h1,h2,h3]
 simp only [sliceRange_one,pick_run,List.size_toArray] <;> rfl
noncomputable def z4t (K:PySem.W.Frag) : V -> Option Int -> Option Int -> Hp -> VK -> Prop:=fun x lo hi H Q=>∃ a xs,x=.ref a /\ SqL K H a xs /\ ∀ p,H p=none -> Q (.ref p) (upd H p (.lst (zhe xs lo hi)))
theorem z64 : SlR X (z4t X.K):=by
 intro pins s σ H x v vl vu lo hi sl Q I rx hs pl pu h
 obtain ⟨a,xs,rfl,hx,q⟩:=h
 cases rx
 obtain ⟨its,r,ht,hz⟩:=I.list hx
 have hlen:=r.length
 refine ⟨"list",_,slot_list_getitem.lookup,ht.isList.typeIs,?_⟩
 refine wpAny_getItem_list_slice ht.isList hs pl pu .none (by simp) ?_ (by rw [List.size_toArray] <;> omega)
 rw [z6r,<- hlen]
 refine ⟨.ref s.heap.objs.size,_,I.laid (t':=s.toks) (o:=.lst (zhe xs lo hi)) (fun b ob q=>Heap.get?_push_of_some _ q) (Nat.le_refl _) ?_,rfl,q _ (I.hok.fresh (Nat.le_refl _))⟩
 exact ⟨Nat.le_trans (z2j xs lo hi) hz,_,0,(r.drop (HT.sIx xs.length 0 lo)).take (HT.sIx xs.length xs.length hi - HT.sIx xs.length 0 lo),Heap.get?_push_size _ rfl⟩
noncomputable def zed : V -> Bool
 | .non=>true
 | .bl _=>true
 | .int _=>true
 | .str _=>true
 | _=>false
noncomputable def eqV : V -> V -> Bool
 | .non,.non=>true
 | .bl a,.bl b=>a == b
 | .bl a,.int b=>(if a then 1 else 0) == b
 | .int a,.bl b=>a == (if b then 1 else 0)
 | .int a,.int b=>a == b
 | .str a,.str b=>a == b
 | _,_=>false
theorem zvi {A:Around} {s:Shared} {y x:V} {u v:Value} (ry:za0 y u) (rx:za0 x v) (fy:zed y=true) (fx:zed x=true) : SeqAt.EqAt A s u v (eqV y x):=by
 cases y with
 | non =>
  cases ry
  cases x with
  | non=>cases rx; exact SeqAt.EqAt.same _
  | bl b=>cases rx; exact SeqAt.EqAt.none_bool b
  | int b=>obtain ⟨t,rfl⟩:=rx; exact SeqAt.EqAt.none_int b t
  | str b=>obtain ⟨t,rfl⟩:=rx; exact SeqAt.EqAt.none_str b t
  | _=>exact absurd (show false=true from fx) Bool.false_ne_true
 | bl a =>
  cases ry
  cases x with
  | non=>cases rx; exact SeqAt.EqAt.bool_none a
  | bl b=>cases rx; exact SeqAt.EqAt.bool_bool a b
  | int b=>obtain ⟨t,rfl⟩:=rx; exact SeqAt.EqAt.bool_int a b t
  | str b=>obtain ⟨t,rfl⟩:=rx; exact SeqAt.EqAt.bool_str a b t
  | _=>exact absurd (show false=true from fx) Bool.false_ne_true
 | int a =>
  obtain ⟨t',rfl⟩:=ry
  cases x with
  | non=>cases rx; exact SeqAt.EqAt.int_none a t'
  | bl b=>cases rx; exact SeqAt.EqAt.int_bool a t' b
  | int b=>obtain ⟨t,rfl⟩:=rx; exact SeqAt.EqAt.int_int a t' b t
  | str b=>obtain ⟨t,rfl⟩:=rx; exact SeqAt.EqAt.int_str a t' b t
  | _=>exact absurd (show false=true from fx) Bool.false_ne_true
 | str a =>
  obtain ⟨t',rfl⟩:=ry
  cases x with
  | non=>cases rx; exact SeqAt.EqAt.str_none a t'
  | bl b=>cases rx; exact SeqAt.EqAt.str_bool a t' b
  | int b=>obtain ⟨t,rfl⟩:=rx; exact SeqAt.EqAt.str_int a t' b t
  | str b=>obtain ⟨t,rfl⟩:=rx; exact SeqAt.EqAt.str_str a t' b t
  | _=>exact absurd (show false=true from fx) Bool.false_ne_true
 | _=>exact absurd (show false=true from fy) Bool.false_ne_true
noncomputable def eqU (x:V) (u:Value) : Bool:=match u with
 | .none=>eqV .non x
 | .bool b=>eqV (.bl b) x
 | .int i _=>eqV (.int i) x
 | .str z _=>eqV (.str z) x
 | _=>false
theorem zvv {x y:V} {u:Value} (r:za0 y u) (f:zed y=true) : eqU x u=eqV y x:=by
 cases y with
 | non=>cases r; rfl
 | bl b=>cases r; rfl
 | int i=>obtain ⟨t,rfl⟩:=r; rfl
 | str z=>obtain ⟨t,rfl⟩:=r; rfl
 | _=>exact absurd (show false=true from f) Bool.false_ne_true
theorem zoj {x:V} : ∀ {xs:List V} {us:List Value},za1 xs us -> xs.all zed=true -> us.any (eqU x)=xs.any fun y=>eqV y x
 | _,_,.nil,_=>rfl
 | y :: xs,u :: us,.cons r t,f=>by
  rw [List.all_cons,Bool.and_eq_true] at f
  rw [List.any_cons,List.any_cons,zvv r f.1,zoj t f.2]
theorem zpy {A:Around} {s:Shared} {x:V} {v:Value} (rx:za0 x v) (fx:zed x=true) : ∀ {xs:List V} {us:List Value},za1 xs us -> xs.all zed=true -> ∀ u ∈ us,SeqAt.EqAt A s u v (eqU x u)
 | _,_,.nil,_=>fun u hu=>by cases hu
 | y :: xs,u :: us,.cons r t,f=>fun u' hu=>by
  rw [List.all_cons,Bool.and_eq_true] at f
  rcases List.mem_cons.mp hu with rfl | hu
  ·rw [zvv r f.1]; exact zvi r rx f.1 fx
  ·exact zpy rx fx t f.2 u' hu
noncomputable def inV (x:V) (xs:List V) : Bool:=xs.any fun y=>eqV y x
noncomputable def rIn (K:PySem.W.Frag) (neg:Bool) : R2:=fun x y H Q=>∃ p xs,y=.ref p /\ (SqL K H p xs \/ SqT K H p xs) /\ zed x=true /\ xs.all zed=true /\ Q (.bl (if neg then !inV x xs else inV x xs)) H
theorem z5x : OpR X (compareOp .In) (rIn X.K false):=by
 intro pins s σ H x y v u Q I rx ry h
 obtain ⟨p,xs,rfl,hq,fx,fs,q⟩:=h
 cases ry
 rcases hq with hq | hq
 ·obtain ⟨its,r,pl,hz⟩:=I.list hq
  refine SeqAt.in_listAt (eqU x) pl.isList (fun w hw=>zpy rx fx r fs w (by simpa using hw)) ⟨.bl _,H,I,rfl,?_⟩
  rw [show its.toArray.any (eqU x)=its.any (eqU x) by simp,zoj r fs]
  exact q
 ·obtain ⟨its,r,pl,hz⟩:=I.tuple hq
  refine SeqAt.in_tupleAt (eqU x) pl (fun w hw=>zpy rx fx r fs w (by simpa using hw)) ⟨.bl _,H,I,rfl,?_⟩
  rw [show its.toArray.any (eqU x)=its.any (eqU x) by simp,zoj r fs]
  exact q
theorem zyy : zfb X (.builtin "len") (fun xs H Q=>∃ p ys,xs=[.ref p] /\ (SqL X.K H p ys \/ SqT X.K H p ys) /\ Q (.int ys.length) H):=by
 intro pins s σ H xs us Q I r h
 obtain ⟨p,ys,rfl,hq,q⟩:=h
 obtain ⟨u,rfl,rx⟩:=zin r
 cases rx
 have hn:=zj3
 rcases hq with hq | hq
 ·obtain ⟨its,r',pl,hz⟩:=I.list hq
  have hlen:=r'.length
  exact Calls.call_len_list pl.isList (by simp only [List.size_toArray] <;> omega) ⟨.int ys.length,H,I.tok _,⟨s.toks + 1,by rw [List.size_toArray,hlen]⟩,q⟩
 ·obtain ⟨its,r',pl,hz⟩:=I.tuple hq
  have hlen:=r'.length
  exact len_tuple pl (by simp only [List.size_toArray] <;> omega) ⟨.int ys.length,H,I.tok _,⟨s.toks + 1,by rw [List.size_toArray,hlen]⟩,q⟩
theorem z3y : zfb X (.builtin "len") (fun xs H Q=>∃ z,xs=[.str z] /\ z.length <= sizeLine /\ Q (.int z.length) H):=by
 intro pins s σ H xs us Q I r h
 obtain ⟨z,rfl,hz,q⟩:=h
 obtain ⟨u,rfl,t,rfl⟩:=zin r
 have hn:=zj3
 exact len_str (by omega) ⟨.int z.length,H,I.tok _,⟨_,rfl⟩,q⟩
theorem z5q : zfb X (.type "list") (fun xs H Q=>∃ p ys,xs=[.ref p] /\ (SqL X.K H p ys \/ SqT X.K H p ys) /\ ∀ l,H l=none -> Q (.ref l) (upd H l (.lst ys))):=by
 intro pins s σ H xs us Q I r h
 obtain ⟨p,ys,rfl,hq,q⟩:=h
 obtain ⟨u,rfl,rx⟩:=zin r
 cases rx
 have fin : ∀ (its:List Value),za1 ys its -> ys.length <= sizeLine -> ∀ (h':Heap) (c':Nat),(∀ b o',s.heap.get? b=some o' -> h'.get? b=some o') ->
   h'.get? s.heap.objs.size=some { cls:=.type "list",dict:=none,data:=.seq its.toArray c',slots:=#[] } -> EP X pins σ Q (.ref s.heap.objs.size) { s with heap:=h' }:=fun its r' hz h' c' kp e =>
  ⟨.ref s.heap.objs.size,_,I.laid (t':=s.toks) kp (Nat.le_refl _) (show zcv X.prog X.w _ h' _ (.lst ys) from ⟨hz,its,c',r',e⟩),rfl,q _ (I.hok.fresh (Nat.le_refl _))⟩
 rcases hq with hq | hq
 ·obtain ⟨its,r',pl,hz⟩:=I.list hq
  have hlen:=r'.length
  obtain ⟨o,ho,hc,n,hd⟩:=pl.isList
  exact call_list_seq p (.inl rfl) ho hc hd (fun h' c' kp e=>fin its r' hz h' c' kp e) (by simp only [List.size_toArray] <;> omega)
 ·obtain ⟨its,r',pl,hz⟩:=I.tuple hq
  have hlen:=r'.length
  obtain ⟨o,ho,hc,n,hd⟩:=pl
  exact call_list_seq p (.inr rfl) ho hc hd (fun h' c' kp e=>fin its r' hz h' c' kp e) (by simp only [List.size_toArray] <;> omega)
noncomputable def tyV (K:PySem.W.Frag) (T:String) (x:V) (H:Hp) : Prop:=match x with
 | .str _=>T="str"
 | .int _=>T="int"
 | .ref p=>(T="list" /\ ∃ xs,SqL K H p xs) \/ (T="tuple" /\ ∃ o,K.lookup p=some o /\ o.cls=.type "tuple" /\ o.dict=none) \/
   (T="dict" /\ ((∃ kvs,H p=some (.dK kvs)) \/ ∃ kvs,H p=some (.dT kvs))) \/ (T="set" /\ ∃ S n,H p=some (.set S n))
 | _=>False
theorem z4j {pins:List (Addr × Obj)} {σ:St} {H:Hp} {s:Shared} {T:String} {x:V} {v:Value} (I:Inv X pins σ H s) (r:za0 x v) (ty:tyV X.K T x H) :
  s.TypeIs v T /\ ∀ a,v=.ref a -> ∃ ob,s.heap.get? a=some ob /\ ob.dict=none:=by
 cases x with
 | str z =>
  obtain ⟨t,rfl⟩:=r
  cases (show T="str" from ty)
  exact ⟨typeIs_str s z t,fun _ e=>nomatch e⟩
 | int i =>
  obtain ⟨t,rfl⟩:=r
  cases (show T="int" from ty)
  exact ⟨typeIs_int s i t,fun _ e=>nomatch e⟩
 | ref p =>
  cases r
  rcases ty with ⟨rfl,xs,hq⟩ | ⟨rfl,o,hk,hc,hd⟩ | ⟨rfl,hk⟩ | ⟨rfl,S,n,hk⟩
  ·obtain ⟨its,_,pl,_⟩:=I.list hq
   refine ⟨pl.isList.typeIs,fun a e=>?_⟩
   cases e
   obtain ⟨o,n,e,c,hd,_⟩:=pl
   exact ⟨o,e,hd⟩
  ·refine ⟨⟨o,I.kIn p o hk,hc⟩,fun a e=>?_⟩
   cases e
   exact ⟨o,I.kIn _ o hk,hd⟩
  ·have z : ∃ o,s.heap.get? p=some o /\ o.ExactDict:=by
    rcases hk with ⟨kvs,hk⟩ | ⟨kvs,hk⟩
    ·obtain ⟨_,_,_,_,o,_,_,e,ex,_⟩:=I.hok p _ hk
     exact ⟨o,e,ex⟩
    ·obtain ⟨_,_,_,_,o,_,_,e,ex,_⟩:=I.hok p _ hk
     exact ⟨o,e,ex⟩
   obtain ⟨o,e,ex⟩:=z
   refine ⟨⟨o,e,ex.1⟩,fun a e2=>?_⟩
   cases e2
   exact ⟨o,e,ex.2.1⟩
  ·obtain ⟨o,_,_,_,e,ex,_⟩:=I.hok p _ hk
   refine ⟨⟨o,e,ex.1⟩,fun a e2=>?_⟩
   cases e2
   exact ⟨o,e,ex.2.1⟩
 | _=>exact False.elim ty
noncomputable def tBM (K:PySem.W.Frag) (T:String) (r:V -> List V -> Hp -> VK -> Prop) (to:TE) (t:TA) : TE:=fun σ H Q=>to σ H fun x H1=>tyV K T x H1 /\ t σ H1 fun xs H2=>r x xs H2 Q
variable {o e:Expr} {es:List Expr} {to:TE} {t:TA} {name:Str} {apos cpos:Pos} {T id:String} {r:V -> List V -> Hp -> VK -> Prop}
theorem ze2 (pa:PlainAttrs T) (slot:Slot T name id) (hty:typeOf (.builtin id)=pure (.type "method_descriptor")) (hm:MtR X id r) (ho:PE X o to) (ha:PA X (e :: es) t)
  (hbase:attributeBase o name X.env (eval o X.env)=eval o X.env:=by rfl)
  (hfew:((backTo cpos (starEach (e :: es) X.env)).all (fun x=>!x.1) && (backToKw cpos (keywordEach [] X.env)).all (fun x=>x.1.isSome)
   && decide ((e :: es).length + ([] : List Keyword).length + (if ([] : List Keyword).isEmpty then 0 else 1) < 30))=true:=by rfl)
  (hline:(apos.endLine == cpos.line)=true:=by rfl) (hs:starEach (e :: es) X.env=(false,eval e X.env) :: starEach es X.env:=by rfl) (hplain:(backTo cpos (starEach es X.env)).any (·.1)=false:=by rfl) :
  PE X (.Call (.Attribute o name apos) (e :: es) [] cpos) (tBM X.K T r to t):=by
 intro pins s σ H Q I h
 refine wpAny_Call_method_late hbase hfew hline rfl (thn (ho pins s σ H _ I h) fun v s1 ⟨x,H1,I1,r1,ty,q1⟩=>?_)
 obtain ⟨h1,h2⟩:=z4j I1 r1 ty
 refine ⟨T,id,pa,slot,hty,h1,h2,?_⟩
 have hA:=ha cpos pins s1 σ H1 _ I1 q1
 rw [hs] at hA ⊢
 refine Calls.callWith_builtin (by show (false || (backTo cpos (starEach es X.env)).any (·.1))=false; rw [hplain] <;> rfl) (Calls.evalArgs_plain ?_)
 exact thn hA fun us s2 ⟨vs,H2,I2,r2,q2⟩=>hm pins s2 σ H2 x vs v us Q I2 r1 r2 q2
end
noncomputable def MtM (X:Cx) (id:String) (r:V -> List V -> Hp -> VK -> Prop) : Prop :=
 ∀ (pins:List (Addr × Obj)) (s:Shared) (σ:St) (H:Hp) (x:V) (xs:List V) (v:Value) (us:List Value) (Q:VK),Inv X pins σ H s -> za0 x v -> za1 xs us -> r x xs H Q ->
  wpAny (model X.prog X.w) X.A (call (.builtin id) (v :: us)) (EP X pins σ Q) X.xe s
theorem za1.one : ∀ {x:V} {us:List Value},za1 [x] us -> ∃ u,us=[u] /\ za0 x u
 | _,_,.cons r .nil=>⟨_,rfl,r⟩
theorem za1.eraseIdx : ∀ {xs:List V} {us:List Value} (i:Nat),za1 xs us -> za1 (xs.eraseIdx i) (us.eraseIdx i)
 | _,_,_,.nil=>.nil
 | _,_,0,.cons _ t=>t
 | _,_,i + 1,.cons r t=>.cons r (za1.eraseIdx i t)
theorem zuk {α : Type} : ∀ (l:List α) (i:Nat),(l.eraseIdx i).length <= l.length
 | [],_=>Nat.le_refl _
 | _ :: _,0=>Nat.le_succ _
 | _ :: r,i + 1=>Nat.succ_le_succ (zuk r i)
section
variable {X:Cx} {pins:List (Addr × Obj)} {σ:St} {H:Hp} {s:Shared} {l b:Addr} {xs ys zs:List V}
theorem Inv.lset {its its':List Value} {n:Nat} {f:Array Value -> Array Value} {t':Nat} (I:Inv X pins σ H s) (hH:H l=some (.lst xs))
  (e:s.heap.get? l=some { cls:=.type "list",data:=.seq its.toArray n }) (hf:f its.toArray=its'.toArray) (hv:za1 ys its') (hz:ys.length <= sizeLine) :
  Inv X pins σ (upd H l (.lst ys)) { s with heap:=s.heap.update l (Obj.mapSeq f),toks:=t' }:=by
 have q:=PySem.IsL.update e f
 rw [hf] at q
 refine I.write (x:=l) (e:=l) (by rw [hH]; exact trivial) (.inl rfl) (fun b' u hb hu=>(Heap.get?_update_other s.heap (Obj.mapSeq f) (Ne.symm hb)).trans hu) ⟨_,q⟩ ?_
 exact ⟨hz,its',_,hv,q⟩
theorem Inv.lnew {its:List Value} {t':Nat} (I:Inv X pins σ H s) (hv:za1 ys its) (hz:ys.length <= sizeLine) :
  Inv X pins σ (upd H s.heap.objs.size (.lst ys)) { s with heap:=s.heap.push { cls:=.type "list",data:=.seq its.toArray },toks:=t' } :=
 I.laid (fun _ _ q=>Heap.get?_push_of_some _ q) (Nat.le_refl _) ⟨hz,its,0,hv,Heap.get?_push_size _ rfl⟩
theorem Inv.fresh (I:Inv X pins σ H s) : H s.heap.objs.size=none:=I.hok.fresh (Nat.le_refl _)
theorem Inv.lstM (I:Inv X pins σ H s) (hH:H l=some (.lst xs)) : xs.length <= sizeLine /\ ∃ (its:List Value) (n:Nat),za1 xs its /\ xs.length=its.length /\ s.heap.get? l=some { cls:=.type "list",data:=.seq its.toArray n }:=by
 obtain ⟨z,its,n,r,e⟩:=I.hok l _ hH
 exact ⟨z,its,n,r,r.length,e⟩
theorem z9g {n:Nat} (h:n <= sizeLine) : Builtin.List.listTooLong n=false:=by
 unfold Builtin.List.listTooLong
 exact decide_eq_false (by omega)
end
section
variable {X:Cx}
noncomputable def zox : V -> List V -> Hp -> VK -> Prop:=fun x vs H Q=>∃ l xs y,x=.ref l /\ vs=[y] /\ H l=some (.lst xs) /\ xs.length < sizeLine /\ Q .non (upd H l (.lst (xs ++ [y])))
theorem zf5 : MtM X "list.append" zox:=by
 intro pins s σ H x vs v us Q I rx rv h
 obtain ⟨l,xs,y,rfl,rfl,hH,hz,q⟩:=h
 cases rx
 obtain ⟨u,rfl,ru⟩:=rv.one
 obtain ⟨z,its,n,r,hl,e⟩:=I.lstM hH
 refine call_meets F.slot_list_append ⟨_,e,rfl⟩ F.entry_list_append (F.args_list_append_2 _ _) (PySem.list_append l its.toArray n u (by rw [List.size_toArray]; omega)) ⟨e,?_⟩
 refine ⟨.non,_,I.lset (its':=its ++ [u]) hH e (by simp) (r.append (.cons ru .nil)) ?_,rfl,q⟩
 rw [List.length_append,List.length_singleton]
 omega
noncomputable def zus : V -> List V -> Hp -> VK -> Prop:=fun x vs H Q=>∃ l b xs zs,x=.ref l /\ vs=[.ref b] /\ H l=some (.lst xs) /\ H b=some (.lst zs) /\ xs.length + zs.length <= sizeLine /\ Q .non (upd H l (.lst (xs ++ zs)))
theorem zth : MtM X "list.extend" zus:=by
 intro pins s σ H x vs v us Q I rx rv h
 obtain ⟨l,b,xs,zs,rfl,rfl,hH,hB,hz,q⟩:=h
 cases rx
 obtain ⟨u,rfl,ru⟩:=rv.one
 cases ru
 obtain ⟨z,its,n,r,hl,e⟩:=I.lstM hH
 obtain ⟨z2,its2,n2,r2,hl2,e2⟩:=I.lstM hB
 have hsz : its.toArray.size + its2.toArray.size <= sizeLine:=by rw [List.size_toArray,List.size_toArray]; omega
 have hlong : ¬ (!its.toArray.isEmpty && Builtin.List.listTooLong (its.toArray.size + its2.toArray.size))=true:=by
  rw [z9g hsz,Bool.and_false]
  exact Bool.false_ne_true
 refine call_meets F.slot_list_extend ⟨_,e,rfl⟩ F.entry_list_extend (F.args_list_extend_2 _ _)
  (AutoSeq1.list_extend_list_list_0 l its.toArray n b its2.toArray n2 hlong (by rw [List.size_toArray]; omega) (by omega)) ⟨e,e2,?_⟩
 refine ⟨.non,_,I.lset (its':=its ++ its2) hH e (by simp) (r.append r2) ?_,rfl,q⟩
 rw [List.length_append]
 omega
noncomputable def zsh : V -> List V -> Hp -> VK -> Prop:=fun x vs H Q=>∃ l xs i k y,x=.ref l /\ vs=[.int i] /\ H l=some (.lst xs) /\ -(2 ^ 63) <= i /\ i < 2 ^ 63 /\ seqIndex? i xs.length=some k /\ xs[k]?=some y /\ Q y (upd H l (.lst (xs.eraseIdx k)))
theorem zzw : MtM X "list.pop" zsh:=by
 intro pins s σ H x vs v us Q I rx rv h
 obtain ⟨l,xs,i,k,y,rfl,rfl,hH,h1,h2,hk,hy,q⟩:=h
 cases rx
 obtain ⟨u,rfl,ru⟩:=rv.one
 obtain ⟨t,rfl⟩:=ru
 obtain ⟨z,its,n,r,hl,e⟩:=I.lstM hH
 obtain ⟨w,hw,rw'⟩:=r.get hy
 refine call_meets F.slot_list_pop ⟨_,e,rfl⟩ F.entry_list_pop (F.args_list_pop_2 _ _)
  (MeetsSeq.list_pop_at l its.toArray n i t k w (fitsIndex_both h1 h2) (by rw [List.size_toArray,<- hl]; exact hk) (by rw [<- Array.getElem?_toList]; exact hw) (by rw [List.size_toArray]; omega)) ⟨e,?_⟩
 refine ⟨y,_,I.lset (its':=its.eraseIdx k) hH e ?_ (r.eraseIdx k) ?_,rw',q⟩
 ·show its.toArray.eraseIdxIfInBounds k=(its.eraseIdx k).toArray
  rw [List.eraseIdxIfInBounds_toArray]
 ·have:=zuk xs k
  omega
noncomputable def z66 : R2:=fun x y H Q=>∃ l b xs zs,x=.ref l /\ y=.ref b /\ H l=some (.lst xs) /\ H b=some (.lst zs) /\ xs.length + zs.length <= sizeLine /\ ∀ p,H p=none -> Q (.ref p) (upd H p (.lst (xs ++ zs)))
theorem zwd : OpR X (binaryOp .Add) z66:=by
 intro pins s σ H x y v u Q I rx ry h
 obtain ⟨l,b,xs,zs,rfl,rfl,hH,hB,hz,q⟩:=h
 cases rx
 cases ry
 obtain ⟨z,its,n,r,hl,e⟩:=I.lstM hH
 obtain ⟨z2,its2,n2,r2,hl2,e2⟩:=I.lstM hB
 refine PySem.P.add_list e e2 ?_ (by rw [List.size_toArray,List.size_toArray]; omega)
 have ea : its.toArray ++ its2.toArray=(its ++ its2).toArray:=by simp
 rw [ea]
 exact ⟨.ref _,_,I.lnew (t':=s.toks) (r.append r2) (by rw [List.length_append]; omega),rfl,q _ I.fresh⟩
end
section
variable {prog:Program} {w:World} {A:Around} {E:Value -> Shared -> Prop} {s:Shared}
set_option maxRecDepth 100000 in
end
section
variable {X:Cx}
end
end L2
namespace Att
open PySem PySem.W PySem.Calls PyProof.Rows
theorem z3m {P:Params} {h:Heap} : ∀ (ns:List Int) (vs:List Value),WellAll P h vs (ns.map WData.int) -> IntsAre vs ns:=by
 intro ns
 induction ns with
 | nil =>
  intro vs w
  rw [List.map_nil] at w
  cases w
  exact .nil
 | cons n ns ih =>
  intro vs w
  rw [List.map_cons] at w
  cases w with
  | cons a b =>
   cases a
   exact .cons _ _ (ih _ b)
theorem z6b {l:OpenLaw} {n:Nat} (hn:l.most=some n) {P:Params} {h:Heap} {args:List WData} {vals:List Value}
  (hpre:l.row.toRowW.claim.pre args=true) (hwl:WellAll P h vals args) :
  ∃ a vs ns,vals=[Value.ref a] /\ args=[WData.list (ns.map WData.int)] /\ h.get? a=some { cls:=.type "list",data:=.seq vs.toArray } /\ IntsAre vs ns /\ ns.length <= n:=by
 have hsh : WShape.hasAll [] args [.list .int]=true:=(pre_splitW hpre).1
 have hc : l.pre.holds [] { args:=args }=true:=(pre_splitW hpre).2
 obtain ⟨d,r,rfl,h1,h2⟩:=hasAllW_cons hsh
 obtain rfl:=hasAllW_nil h2
 obtain ⟨xs,rfl,h3⟩:=hasW_list h1
 obtain ⟨ns,rfl⟩:=items_int h3
 have hlen : ns.length <= n:=by
  unfold OpenLaw.pre at hc
  have h4 : (WTm.not (.lt (.lit (.int (n:Int))) (.len (.arg 0)))).holds [] { args:=[.list (ns.map .int)] }=true:=by
   have h4:=(holds_andW hc).1
   rw [hn] at h4
   exact h4
  have h5:=condW_of h4 (w_not (w_lt w_lit (w_len_list (w_arg rfl))))
  rw [List.length_map] at h5
  refine Nat.le_of_not_lt fun q=>?_
  have q' : (n:Int) < ((ns.length : Nat) : Int):=by omega
  first
   | (rw [decide_eq_true q'] at h5; exact absurd h5 (by decide))
   | (simp at h5; omega)
 cases hwl with
 | cons w1 w2 =>
  cases w2
  cases w1 with
  | list ho hall=>exact ⟨_,_,ns,rfl,rfl,ho,z3m ns _ hall,hlen⟩
theorem zy3 (l:OpenLaw) (args:List WData) : l.row.toRowW.claim.post args (.bool true) args=true :=
 postW_of (r:=l.row.toRowW) (X:=(true == true))
  (show WShape.has [] (.bool true) .bool=true by first | rfl | decide | simp [WShape.has,WShape.arms,WShape.armsAll])
  (show (WTm.eq .res (.lit (.bool true))).value [] { args:=args,res:=some (.bool true),after:=args }=some (.bool (true == true)) from w_eq_bool (w_res rfl) w_lit) rfl
theorem attach_call {l:OpenLaw} {n:Nat} {q:Program} {loose:List Str} {XP:(Str -> Option Value) -> Heap -> Prop} {YP:World -> Heap -> Prop} {d:DefRec}
  (hn:l.most=some n) (hdf:d.params.defaults=[])
  (call:∀ (w:World) (s₀ s₁:Shared) (mg mb:Str -> Option Value) (fa:Addr) (o:Obj) (pm cd doc:Value) (a:Addr) (vs:List Value) (ns:List Int),
   Ground q loose [] XP w s₀ mg mb s₁.heap -> YP w s₁.heap ->
   s₁.heap.get? fa=some o -> o.data=.func (docDef d.name d.params d.body d.scope pm cd doc) -> s₁.heap.CodeRec cd d.name -> mg d.name=some (.ref fa) ->
   s₁.heap.get? a=some { cls:=.type "list",data:=.seq vs.toArray } -> IntsAre vs ns -> ns.length <= n -> s₁.gens=#[] ->
   codeAny (model l.prog w) callerA (.call (.ref fa) ⟨[.ref a],[]⟩) (fun r s'=>r=.ok (.ret (.bool true)) /\ OldK s₁.heap s'.heap /\ s'.os=s₁.os /\ AllBare s'.gens) s₁) :
  WalkO q loose XP YP l.row.toRowW d [] (fun f vs=>PySem.call f vs):=by
 intro w s₀ s₁ mg mb G Y fa o pm cd doc dV kV ho hd hcd hD hmg hg args vals as hpre hlay hrd hwl hlo
 obtain rfl : dV=.none:=Dflts.none hD hdf
 obtain rfl : kV=.none:=Dflts.noKw hD
 obtain ⟨a,vs,ns,rfl,rfl,hobj,hints,hlen⟩:=z6b hn hpre hwl
 refine enter_call (codeAny_mono (call w s₀ s₁ mg mb fa o pm cd doc a vs ns G Y ho (fd_plain hd) hcd hmg hobj hints hlen hg) fun r s' hq=>?_)
 obtain ⟨rfl,h2,h3,h4⟩:=hq
 exact ⟨.inl ⟨.bool true,.bool true,[],rfl,fun _=>rfl,.bool true,zy3 l _,fun _=>⟨List.Pairwise.nil,fun _ hm=>(nomatch hm)⟩⟩,h2,h3,h4⟩
section
variable {prog:Program} {w:World} {A:Around} {E:Value -> Shared -> Prop} {s:Shared} {K:Frag}
end
end Att
namespace L2
open PySem PySem.Spec PyProof.Rows
theorem zwn : ∀ {vs:List Value} {ns:List Int},IntsAre vs ns -> za1 (ns.map V.int) vs
 | _,_,.nil=>.nil
 | _,_,.cons n t h=>.cons ⟨t,rfl⟩ (zwn h)
noncomputable def zn7 (H:Hp) : Prop:=∀ b,H b=none \/ ∃ o xs,H b=some (.frz o (.lst xs))
theorem zwx {P:Program} {w:World} {K:PySem.W.Frag} {mg mb:Str -> Option Value} {CX:CXT} {k:Nat} {fa a:Addr} {fd:FuncData} {x:Str} {sp:Sp} {s₁:Shared} {vs:List Value} {ns:List Int}
  (KX:K.In s₁.heap) (hns:s₁.heap.Ns mainGlobals mg) (hb:s₁.heap.Ns builtinsNs mb) (hbb:∀ x : Str,x ≠ "__name__" -> mb x=bootBuiltins x) (hlim:s₁.heap.NoLimit) (hg:s₁.gens=#[])
  (ha:s₁.heap.get? a=some { cls:=.type "list",data:=.seq vs.toArray }) (hi:IntsAre vs ns) (hl:ns.length <= sizeLine) (hr:zb9 k callerA)
  (F:∀ base : Heap,K.In base -> base.Ns mainGlobals mg -> zaw P w K mg base CX k fa fd [x] sp) (hbind:∀ (s:Shared) (u:Value),BindsTo s fd ⟨[u],[]⟩ [(x,u)])
  (hsp:∀ H : Hp,zn7 H -> SqL K H a (ns.map V.int) -> sp [.ref a] H (fun v _=>v=.bl true) fun _ _ _=>False)
  (hCX:∀ H e s',CX [] H s₁ (fun _ _ _=>False) e s' -> False) :
  codeAny (model P w) callerA (.call (.ref fa) ⟨[.ref a],[]⟩) (fun r s'=>r=.ok (.ret (.bool true)) /\ OldK s₁.heap s'.heap /\ s'.os=s₁.os /\ AllBare s'.gens) s₁:=by
 have rv:=zwn hi
 have lenV:=hi.length
 have core : ∀ H : Hp,zn7 H -> SqL K H a (ns.map V.int) -> HOk P w H s₁.heap -> (∀ b,H b ≠ none -> b=a) -> (H a ≠ none -> K.lookup a=none) ->
   codeAny (model P w) callerA (.call (.ref fa) ⟨[.ref a],[]⟩) (fun r s'=>r=.ok (.ret (.bool true)) /\ OldK s₁.heap s'.heap /\ s'.os=s₁.os /\ AllBare s'.gens) s₁:=by
  intro H hO hS hok hA hK
  have base_of : ∀ {b:Addr} {o:Obj},s₁.heap.get? b=some o -> H b=none -> (zg5 s₁.heap H).get? b=some o:=fun e n=>zyp e n
  have noA : ∀ {b:Addr} {o:Obj} {es:Array DictEntry} {ep:Nat},s₁.heap.get? b=some o -> o.data=.dict es ep -> H b=none:=fun {b o es ep} e d=>by
   cases q : H b with
   | none=>rfl
   | some u =>
    have e' : b=a:=hA b (by rw [q]; simp)
    subst e'
    rw [ha] at e; cases e
    have d' : Data.seq vs.toArray _=Data.dict es ep:=d
    cases d'
  have nsK : ∀ {b:Addr} {m:Str -> Option Value},s₁.heap.Ns b m -> (zg5 s₁.heap H).Ns b m:=fun {b m} ⟨o,es,ep,e,d,r⟩=>⟨o,es,ep,base_of e (noA e d),d,r⟩
  have hKb : K.In (zg5 s₁.heap H):=fun b o e=>base_of (KX b o e) (by
   cases q : H b with
   | none=>rfl
   | some u =>
    have e' : b=a:=hA b (by rw [q]; simp)
    subst e'
    rw [hK (by rw [q]; simp)] at e; cases e)
  have hM : Mod K mg (zg5 s₁.heap H):=⟨hKb,nsK hns,⟨mb,nsK hb,hbb⟩,let ⟨mc,h1,h2⟩:=hlim; ⟨mc,nsK h1,h2⟩⟩
  have e0 : zgh P w K mg (zg5 s₁.heap H) callerA [] s₁ H:=⟨rfl,hM,fun b o e=>z6e e,Nat.le_of_eq (z5i _ _),trivial,fun b hb=>absurd (show b ∈ ([] : List Addr) from hb) (by simp),hok,.of_eq hg⟩
  refine codeAny_mono ((F _ hKb (nsK hns)).run callerA [] s₁ H ⟨[.ref a],[]⟩ [.ref a] [.ref a] _ _ hr e0 (hbind s₁ (.ref a)) (.cons rfl .nil) (hsp H hO hS)) fun r s' h=>?_
  cases r with
  | error e=>exact (hCX H e s' h).elim
  | ok fl =>
   cases fl with
   | next=>exact False.elim h
   | brk=>exact False.elim h
   | cont=>exact False.elim h
   | ret u =>
    obtain ⟨v,H',os,bare,un,hok',r',q⟩:=h
    have q' : v=.bl true:=q
    subst q'
    obtain rfl : u=Value.bool true:=r'
    refine ⟨rfl,OldK.of_keep fun b o e=>?_,os,bare⟩
    cases q : H b with
    | none=>exact un.keep b o e q (by intro z; exact absurd (show b ∈ ([] : List Addr) from z) (by simp)) (by simp)
    | some u =>
     rcases hO b with z | ⟨ob,xs,z⟩
     ·rw [q] at z; cases z
     ·have z2:=un.frzs b ob _ z
      obtain ⟨e1,_⟩:=hok b _ z
      obtain ⟨e2,_⟩:=hok' b _ z2
      rw [e] at e1; cases e1
      exact e2
 cases hk : K.lookup a with
 | some o =>
  have e:=KX a o hk
  rw [ha] at e
  cases e
  refine core (fun _=>none) (fun _=>.inl rfl) (.inr ⟨_,vs.toArray,_,hk,rfl,rfl,rfl,by rw [List.size_toArray,lenV]; exact hl,by simpa using rv⟩) (fun b u z=>by have z' : (none:Option HO)=some u:=z; cases z') (fun b z=>absurd rfl z) fun z=>absurd rfl z
 | none =>
  refine core (fun b=>if b=a then some (.frz { cls:=.type "list",data:=.seq vs.toArray } (.lst (ns.map V.int))) else none) (fun b=>?_) (.inl (.inr ⟨{ cls:=.type "list",data:=.seq vs.toArray },if_pos rfl⟩)) (fun b u z=>?_) (fun b z=>?_) fun _=>hk
  ·by_cases hb : b=a
   ·exact .inr ⟨_,_,if_pos hb⟩
   ·exact .inl (if_neg hb)
  ·by_cases hb : b=a
   ·have z':=(if_pos hb).symm.trans z
    cases z'
    subst hb
    exact ⟨ha,by rw [List.length_map]; exact hl,vs,_,rv,ha⟩
   ·have z':=(if_neg hb).symm.trans z
    cases z'
  ·by_cases hb : b=a
   ·exact hb
   ·exact absurd (if_neg hb) z
noncomputable abbrev KOf {K:PySem.W.Frag} {h:Heap} (_:K.In h) : PySem.W.Frag:=K
theorem z3a {l:PySem.W.OpenLaw} {n k:Nat} {q:Program} {loose:List Str} {XP:(Str -> Option Value) -> Heap -> Prop} {YP:World -> Heap -> Prop} {d:DefRec} {K:Params -> PySem.W.Frag} {CX:World -> CXT} {sp:World -> Sp} {x:Str}
  (hn:l.most=some n) (hn2:n <= sizeLine) (hdf:d.params.defaults=[]) (hr:zb9 k callerA)
  (hY:∀ (w:World) (h:Heap),YP w h -> (K w.params).In h)
  (F:∀ (w:World) (mg:Str -> Option Value) (fa:Addr) (h:Heap),(K w.params).In h -> h.Ns mainGlobals mg -> mg d.name=some (.ref fa) ->
   ∃ fd : FuncData,(∀ (s:Shared) (u:Value),BindsTo s fd ⟨[u],[]⟩ [(x,u)]) /\
    ∀ base : Heap,(K w.params).In base -> base.Ns mainGlobals mg -> zaw l.prog w (K w.params) mg base (CX w) k fa fd [x] (sp w))
  (hsp:∀ (w:World) (H:Hp) (a:Addr) (ns:List Int),ns.length <= n -> zn7 H -> SqL (K w.params) H a (ns.map V.int) -> sp w [.ref a] H (fun v _=>v=.bl true) fun _ _ _=>False)
  (hCX:∀ (w:World) (H:Hp) (s:Shared) (e:Value) (s':Shared),CX w [] H s (fun _ _ _=>False) e s' -> False) :
  PySem.W.WalkO q loose XP YP l.row.toRowW d [] (fun f vs=>PySem.call f vs):=by
 refine Att.attach_call hn hdf fun w s₀ s₁ mg mb fa o pm cd doc a vs ns G Y ho hd hcd hmg hobj hints hlen hg=>?_
 have KX:=hY w _ Y
 obtain ⟨fd,hb,hF⟩:=F w mg fa _ KX G.T.g hmg
 exact zwx KX G.T.g G.T.b G.T.builtins G.T.nolimit hg hobj hints (Nat.le_trans hlen hn2) hr hF hb (fun H hO hS=>hsp w H a ns hlen hO hS) fun H e s'=>hCX w H s₁ e s'
theorem walk_ofK {l:PySem.W.OpenLaw} {n k:Nat} {q:Program} {loose:List Str} {XP:(Str -> Option Value) -> Heap -> Prop} {YP:World -> Heap -> Prop} {d:DefRec} {K:Params -> PySem.W.Frag} {CX:CXT} {sp:PySem.W.Frag -> Sp} {x:Str}
  (hn:l.most=some n) (hn2:n <= sizeLine) (hdf:d.params.defaults=[]) (hr:zb9 k callerA)
  (hY:∀ (w:World) (h:Heap),YP w h -> (K w.params).In h)
  (F:∀ (w:World) (mg:Str -> Option Value) (fa:Addr) (h:Heap),(K w.params).In h -> h.Ns mainGlobals mg -> mg d.name=some (.ref fa) ->
   ∃ fd : FuncData,(∀ (s:Shared) (u:Value),BindsTo s fd ⟨[u],[]⟩ [(x,u)]) /\
    ∀ base : Heap,(K w.params).In base -> base.Ns mainGlobals mg -> zaw l.prog w (K w.params) mg base CX k fa fd [x] (sp (K w.params)))
  (hsp:∀ (K:PySem.W.Frag) (H:Hp) (a:Addr) (ns:List Int),ns.length <= n -> zn7 H -> SqL K H a (ns.map V.int) -> sp K [.ref a] H (fun v _=>v=.bl true) fun _ _ _=>False)
  (hCX:∀ (H:Hp) (s:Shared) (e:Value) (s':Shared),CX [] H s (fun _ _ _=>False) e s' -> False) :
  PySem.W.WalkO q loose XP YP l.row.toRowW d [] (fun f vs=>PySem.call f vs) :=
 z3a (K:=K) (CX:=fun _=>CX) (sp:=fun w=>sp (K w.params)) hn hn2 hdf hr hY F (fun w H a ns h1 h2 h3=>hsp (K w.params) H a ns h1 h2 h3) fun _ H s e s'=>hCX H s e s'
noncomputable def zfs (s:Stmt) (j:Nat) : Stmt:=match s with
 | .ClassDef _ _ _ body _ _ _ _ _ _ _=>body.getD j (.Pass ⟨0,0,0,0⟩)
 | _=>.Pass ⟨0,0,0,0⟩
noncomputable def zbb (s:Stmt) : Arguments:=match s with
 | .FunctionDef _ a _ _ _ _ _ _ _ _=>a
 | _=>{ posonlyargs:=[],args:=[],vararg:=none,kwonlyargs:=[],kw_defaults:=[],kwarg:=none,defaults:=[] }
noncomputable def za8 (s:Stmt) : List Stmt:=match s with
 | .FunctionDef _ _ b _ _ _ _ _ _ _=>b
 | _=>[]
noncomputable def zam (s:Stmt) : Scope:=match s with
 | .FunctionDef _ _ _ _ _ _ sc _ _ _=>sc
 | _=>{ kind:=.function,names:=[],isGenerator:=false,isCoroutine:=false }
noncomputable abbrev CX0 : CXT:=fun _ _ _ _ _ _=>False
noncomputable abbrev E0 : XK:=fun _ _ _=>False
theorem zhn {X:Cx} : zkt CX0 X E0:=fun _ _ _ _ _ _ _ h=>h.elim
structure Fun (K:PySem.W.Frag) (x qual:Str) (st:Stmt) (f:Addr) (fd:FuncData) : Prop where
 ex : ∃ (oc:Value) (od:Option Addr) (kV doc pm:Value) (an:Option Addr) (cdv ct:Value) (osl:Array (Option Value)),
  fd=PySem.W.fnOf x qual (zbb st) (za8 st) (zam st) .none kV doc pm an cdv ct /\ K.lookup f=some ⟨oc,od,.func fd,osl⟩ /\ PySem.W.codeIn K cdv qual=true
 kp : PySem.W.keepIn K (.ref f)=true
section
variable {P:Program} {w:World} {K:PySem.W.Frag} {mg:Str -> Option Value} {base:Heap}
theorem Fun.ok {x qual:Str} {st:Stmt} {f:Addr} {fd:FuncData} {N ps:List Str} {k:Nat} {sp:Sp} (F:Fun K x qual st f fd) (S:za9 N ps (zam st)) (len:∀ vs H Q E,sp vs H Q E -> vs.length=ps.length)
  (hbody:∀ (cdv:Value) (A:Around) (outer:List Env) (s:Shared) (H:Hp) (vs:List V) (Q:VK) (E:XK),zb9 k (A.deeper (envOfC qual (zam st) s.heap.objs.size f cdv)) -> sp vs H Q E ->
   ∃ t,PSs (zge CX0 P w K mg base N qual (zam st) f cdv A outer s H E).nox (za8 st) t /\ t { nx:=fun _ H'=>Q .non H',rt:=Q } (start N vs) H) : zaw P w K mg base CX0 (k + 1) f fd ps sp:=by
 obtain ⟨oc,od,kV,doc,pm,an,cdv,ct,osl,rfl,lk,hcd⟩:=F.ex
 refine zwy lk hcd S len fun A outer s H vs Q E hr hsp=>?_
 obtain ⟨t,h,q⟩:=hbody cdv A outer s H vs Q E hr hsp
 exact ⟨t,h.nox,q⟩
theorem Fun.binds {x qual:Str} {st:Stmt} {f:Addr} {fd:FuncData} {ps:List Str} (F:Fun K x qual st f fd)
  (h:∀ (kV doc pm:Value) (an:Option Addr) (cdv ct:Value) (us:List Value),us.length=ps.length -> bindArgs (PySem.W.fnOf x qual (zbb st) (za8 st) (zam st) .none kV doc pm an cdv ct) ⟨us,[]⟩=pure (ps.zip us)) : za5 K fd ps []:=by
 obtain ⟨oc,od,kV,doc,pm,an,cdv,ct,osl,rfl,lk,hcd⟩:=F.ex
 exact .all (h kV doc pm an cdv ct)
theorem zbo {x qual:Str} {st:Stmt} {f:Addr} {oc:Value} {od an:Option Addr} {osl:Array (Option Value)} {kV doc pm cdv ct:Value} (l:K.lookup f=some ⟨oc,od,.func (PySem.W.fnOf x qual (zbb st) (za8 st) (zam st) .none kV doc pm an cdv ct),osl⟩)
  (c:PySem.W.codeIn K cdv qual=true) (k:PySem.W.keepIn K (.ref f)=true) : Fun K x qual st f (PySem.W.fnOf x qual (zbb st) (za8 st) (zam st) .none kV doc pm an cdv ct):=⟨⟨oc,od,kV,doc,pm,an,cdv,ct,osl,rfl,l,c⟩,k⟩
end
theorem ztm {n:Nat} (h:n <= 1000) : n < sizeLine:=Nat.lt_of_le_of_lt h (by decide)
section
variable {X:Cx}
theorem pv (i:Nat) {x:Str} {pos:Pos} (hN:X.N[i]?=some x:=by rfl) (hv:Vis X.env.scope x:=by first | exact Or.inl rfl | exact Or.inr (Or.inl rfl) | exact Or.inr (Or.inr rfl)) (hd:(x == ("__debug__" : Str))=false:=by decide)
  (hcd:(x == ("__classdict__" : Str))=false:=by decide) : PE X (.Name x pos) (zd9 i):=zgo hN hv hd hcd
end
theorem zr4 {A B:Prop} (h:B) : if false=true then A else B:=by
 rw [if_neg Bool.false_ne_true]
 exact h
theorem zt7 {A B:Prop} (h:A) : if true=true then A else B:=by
 rw [if_pos rfl]
 exact h
noncomputable def za4 (H H':Hp) : Prop:=∀ b o,H b=some o -> H' b=some o
theorem za4.refl (H:Hp) : za4 H H:=fun _ _ h=>h
theorem za4.trans {H H1 H2:Hp} (a:za4 H H1) (b:za4 H1 H2) : za4 H H2:=fun c o h=>b c o (a c o h)
theorem za4.free {H H':Hp} (e:za4 H H') {l:Addr} (h:H' l=Option.none) : H l=Option.none:=by
 cases q : H l with
 | none=>rfl
 | some o =>
  rw [e l o q] at h
  cases h
theorem za4.seq {K:PySem.W.Frag} {H H':Hp} {a:Addr} {xs:List V} (e:za4 H H') (h:SqL K H a xs) : SqL K H' a xs:=by
 rcases h with (h | ⟨o,h⟩) | h
 ·exact .inl (.inl (e _ _ h))
 ·exact .inl (.inr ⟨o,e _ _ h⟩)
 ·exact .inr h
section
variable {κ : Type} [DecidableEq κ]
noncomputable def zeg (kvs:List (κ × V)) (k:κ) : Option V:=(kvs.find? fun kv=>decide (kv.1=k)).map (·.2)
noncomputable def zdy (kvs:List (κ × V)) (k:κ) (v:V) : List (κ × V) :=
 if (kvs.any fun kv=>decide (kv.1=k))=true then kvs.map (fun kv=>if kv.1=k then (kv.1,v) else kv) else kvs ++ [(k,v)]
noncomputable def zwu (kvs:List (κ × V)) (k:κ) : List (κ × V):=kvs.filter fun kv=>decide (kv.1 ≠ k)
theorem zr0 {p:κ × V} {r:List (κ × V)} {k:κ} (e:p.1=k) : zeg (p :: r) k=some p.2:=by simp [zeg,List.find?_cons,e]
theorem zrs {p:κ × V} {r:List (κ × V)} {k:κ} (e:¬ p.1=k) : zeg (p :: r) k=zeg r k:=by simp [zeg,List.find?_cons,e]
theorem zrd (k:κ) : ∀ kvs : List (κ × V),(kvs.any fun kv=>decide (kv.1=k))=(zeg kvs k).isSome
 | []=>rfl
 | p :: r=>by
  rw [List.any_cons]
  by_cases e : p.1=k
  ·simp only [zr0 e,decide_eq_true e,Bool.true_or,Option.isSome_some]
  ·rw [zrs e,decide_eq_false e,Bool.false_or]; exact zrd k r
theorem zrv (kvs:List (κ × V)) (k:κ) (v:V) : (zdy kvs k v).length <= kvs.length + 1:=by
 unfold zdy
 split
 ·rw [List.length_map]; omega
 ·rw [List.length_append,List.length_cons,List.length_nil]; omega
theorem zdx.isSome_eq {o:Option V} {u:Option Value} (r:zdx o u) : o.isSome=u.isSome:=by
 cases o with
 | none=>cases u with
  | none=>rfl
  | some _=>exact (show False from r).elim
 | some _=>cases u with
  | none=>exact (show False from r).elim
  | some _=>rfl
theorem zdx.getD {o:Option V} {u:Option Value} {d:V} {d':Value} (r:zdx o u) (rd:za0 d d') : za0 (o.getD d) (u.getD d'):=by
 cases o with
 | none=>cases u with
  | none=>exact rd
  | some _=>exact (show False from r).elim
 | some _=>cases u with
  | none=>exact (show False from r).elim
  | some _=>exact r
theorem KV.val {kvs:List (κ × V)} {vs:List (κ × Value)} (r:KV kvs vs) (k:κ) : zdx (zeg kvs k) (valueAt vs k):=by
 unfold KV at r
 induction r with
 | nil=>exact True.intro
 | @cons p q ps qs h t ih =>
  obtain ⟨h1,h2⟩:=h
  by_cases e : p.1=k
  ·have e' : q.1=k:=h1.symm.trans e
   have b : valueAt (q :: qs) k=some q.2:=by simp [valueAt,List.find?_cons,e']
   rw [zr0 e,b]; exact h2
  ·have e' : ¬ q.1=k:=fun z=>e (h1.trans z)
   have b : valueAt (q :: qs) k=valueAt qs k:=by simp [valueAt,List.find?_cons,e']
   rw [zrs e,b]; exact ih
theorem KV.any {kvs:List (κ × V)} {vs:List (κ × Value)} (r:KV kvs vs) (k:κ) : (kvs.any fun kv=>decide (kv.1=k))=vs.any fun kv=>decide (kv.1=k):=by
 unfold KV at r
 induction r with
 | nil=>rfl
 | cons h t ih=>rw [List.any_cons,List.any_cons,ih,h.1]
theorem KV.repl {kvs:List (κ × V)} {vs:List (κ × Value)} (r:KV kvs vs) (k:κ) {y:V} {u:Value} (ry:za0 y u) :
  KV (kvs.map fun kv=>if kv.1=k then (kv.1,y) else kv) (vs.map fun kv=>if kv.1=k then (kv.1,u) else kv):=by
 unfold KV at r ⊢
 induction r with
 | nil=>exact .nil
 | @cons p q ps qs h t ih =>
  rw [List.map_cons,List.map_cons]
  refine .cons ?_ ih
  obtain ⟨h1,h2⟩:=h
  by_cases e : p.1=k
  ·rw [if_pos e,if_pos (h1.symm.trans e)]; exact ⟨h1,ry⟩
  ·rw [if_neg e,if_neg (fun z=>e (h1.trans z))]; exact ⟨h1,h2⟩
theorem KV.put {kvs:List (κ × V)} {vs:List (κ × Value)} (r:KV kvs vs) (k:κ) {y:V} {u:Value} (ry:za0 y u) : KV (zdy kvs k y) (stored vs k u):=by
 unfold zdy stored
 rw [r.any k]
 by_cases e : (vs.any fun kv=>decide (kv.1=k))=true
 ·rw [if_pos e,if_pos e]; exact r.repl k ry
 ·rw [if_neg e,if_neg e]; exact Paired.snoc r ⟨rfl,ry⟩
theorem KV.drop {kvs:List (κ × V)} {vs:List (κ × Value)} (r:KV kvs vs) (k:κ) : KV (zwu kvs k) (without vs k):=by
 unfold KV at r ⊢
 unfold zwu without
 induction r with
 | nil=>exact .nil
 | @cons p q ps qs h t ih =>
  obtain ⟨h1,h2⟩:=h
  rw [List.filter_cons,List.filter_cons]
  by_cases e : p.1=k
  ·have a : ¬ decide (p.1 ≠ k)=true:=by simp [e]
   have b : ¬ decide (q.1 ≠ k)=true:=by simp [h1.symm.trans e]
   rw [if_neg a,if_neg b]; exact ih
  ·have e' : ¬ q.1=k:=fun z=>e (h1.trans z)
   have a : decide (p.1 ≠ k)=true:=by simp [e]
   have b : decide (q.1 ≠ k)=true:=by simp [e']
   rw [if_pos a,if_pos b]; exact .cons ⟨h1,h2⟩ ih
theorem KV.length {kvs:List (κ × V)} {vs:List (κ × Value)} (r:KV kvs vs) : kvs.length=vs.length:=Paired.length r
end
theorem zl6 {P:Program} {w:World} {k:Key} {u:Value} (r:za0 (kV k) u) : (zeb P w).is k u=true:=by
 cases k with
 | inl i=>obtain ⟨t,e⟩:=(show ∃ t,u=Value.int i t from r); subst e; exact z4h P w i t
 | inr x=>obtain ⟨t,e⟩:=(show ∃ t,u=Value.str x t from r); subst e; exact zx5 P w x t
theorem zsx {P:Program} {w:World} : ∀ {ks:List Key} {us:List Value},za1 (ks.map kV) us -> ItemsAre (zeb P w) ks us
 | [],_,r=>by rw [List.map_nil] at r; cases r; exact .nil
 | k :: ks,_,r=>by
  rw [List.map_cons] at r
  cases r with
  | cons h t=>exact .cons (zl6 h) (zsx t)
noncomputable abbrev KT (H:Hp) : List (List Key × V) -> List (List Key × Addr × Value) -> Prop:=Paired fun p q=>p.1=q.1 /\ H q.2.1=some (.tup (p.1.map kV)) /\ za0 p.2 q.2.2
theorem KT.val {H:Hp} {kvs:List (List Key × V)} {xs:List (List Key × Addr × Value)} (r:KT H kvs xs) (k:List Key) : zdx (zeg kvs k) ((atKey xs k).map (·.2)):=by
 induction r with
 | nil=>exact True.intro
 | @cons p q ps qs h t ih =>
  obtain ⟨h1,_,h2⟩:=h
  by_cases e : p.1=k
  ·have e' : q.1=k:=h1.symm.trans e
   have b : atKey (q :: qs) k=some q.2:=by simp [atKey,List.find?_cons,e']
   rw [zr0 e,b]; exact h2
  ·have e' : ¬ q.1=k:=fun z=>e (h1.trans z)
   have b : atKey (q :: qs) k=atKey qs k:=by simp [atKey,List.find?_cons,e']
   rw [zrs e,b]; exact ih
theorem KT.repl {H:Hp} {kvs:List (List Key × V)} {xs:List (List Key × Addr × Value)} (r:KT H kvs xs) (k:List Key) {y:V} {u:Value} (ry:za0 y u) :
  KT H (kvs.map fun kv=>if kv.1=k then (kv.1,y) else kv) (xs.map (putAt k u)):=by
 induction r with
 | nil=>exact .nil
 | @cons p q ps qs h t ih =>
  rw [List.map_cons,List.map_cons]
  refine .cons ?_ ih
  obtain ⟨h1,h2,h3⟩:=h
  unfold putAt
  by_cases e : p.1=k
  ·rw [if_pos e,if_pos (h1.symm.trans e)]; exact ⟨h1,h2,ry⟩
  ·rw [if_neg e,if_neg (fun z=>e (h1.trans z))]; exact ⟨h1,h2,h3⟩
theorem KT.put {H:Hp} {kvs:List (List Key × V)} {xs:List (List Key × Addr × Value)} (r:KT H kvs xs) (k:List Key) {b:Addr} {y:V} {u:Value} (hb:H b=some (.tup (k.map kV))) (ry:za0 y u) :
  KT H (zdy kvs k y) (storedH xs k b u):=by
 have e : (kvs.any fun kv=>decide (kv.1=k))=(atKey xs k).isSome:=by
  rw [zrd,(r.val k).isSome_eq,Option.isSome_map]
 unfold zdy storedH
 rw [e]
 by_cases q : (atKey xs k).isSome=true
 ·rw [if_pos q,if_pos q]; exact r.repl k ry
 ·rw [if_neg q,if_neg q]; exact Paired.snoc r ⟨rfl,hb,ry⟩
theorem KT.keeps {H H':Hp} {kvs:List (List Key × V)} {xs:List (List Key × Addr × Value)} (r:KT H kvs xs) (ht:∀ b ys,H b=some (.tup ys) -> H' b=some (.tup ys)) : KT H' kvs xs :=
 Paired.mapP r fun _ _ z=>⟨z.1,ht _ _ z.2.1,z.2.2⟩
section
variable {P:Program} {w:World} {H:Hp} {h:Heap} {a:Addr}
theorem zvn {u:HO} (ok:HOk P w H h) (e:Rd H a u) : zcv P w H h a u:=e.ok ok
theorem zm3 {kvs:List (Key × V)} (ok:HOk P w H h) (e:Rd H a (.dK kvs)) : kvs.length <= sizeLine /\ (a == sysModules)=false /\ ∃ vs,KV kvs vs /\ h.DictOf (zeb P w) a vs :=
 show zcv P w H h a (.dK kvs) from zvn ok e
theorem zwm {kvs:List (Key × V)} (ok:HOk P w H h) (e:H a=some (.dK kvs)) : kvs.length <= sizeLine /\ (a == sysModules)=false /\ ∃ vs,KV kvs vs /\ h.DictOf (zeb P w) a vs:=zm3 ok (.inl e)
theorem znm {ks:List Key} (ok:HOk P w H h) (e:H a=some (.tup (ks.map kV))) : (tupleKind (zeb P w)).is h ks a:=by
 obtain ⟨_,its,r,o,h1,h2,n,h3⟩:=(show zcv P w H h a (.tup (ks.map kV)) from ok a _ e)
 exact ⟨o,its.toArray,n,h1,h2,h3,by simpa using zsx r⟩
theorem znx {kvs:List (List Key × V)} (ok:HOk P w H h) (e:Rd H a (.dT kvs)) : kvs.length <= sizeLine /\ (a == sysModules)=false /\
  ∃ xs,KT H kvs xs /\ h.DictOfH (tupleKind (zeb P w)) a xs:=by
 obtain ⟨z,y,xs,r,o,es,ep,h1,h2,h3,h4,h5⟩:=(show zcv P w H h a (.dT kvs) from zvn ok e)
 refine ⟨z,y,xs,r,o,es,ep,h1,h2,h3,h4,fun x hx=>?_,h5⟩
 have all : ∀ {l:List (List Key × V)} {m:List (List Key × Addr × Value)},KT H l m -> ∀ x ∈ m,(tupleKind (zeb P w)).is h x.1 x.2.1:=by
  intro l m q
  induction q with
  | nil=>intro x hx; exact nomatch hx
  | @cons p q ps qs hq t ih =>
   intro x hx
   rcases List.mem_cons.mp hx with e | hx
   ·subst e
    exact znm ok (by rw [<- hq.1]; exact hq.2.1)
   ·exact ih x hx
 exact all r x hx
theorem z44 {kvs:List (List Key × V)} (ok:HOk P w H h) (e:H a=some (.dT kvs)) : kvs.length <= sizeLine /\ (a == sysModules)=false /\
  ∃ xs,KT H kvs xs /\ h.DictOfH (tupleKind (zeb P w)) a xs:=znx ok (.inl e)
end
noncomputable def ze8 (H:Hp) (a:Addr) (y:V) (r:Option V) : Prop :=
 (∃ kvs k,Rd H a (.dK kvs) /\ y=kV k /\ r=zeg kvs k) \/ ∃ kvs k b,Rd H a (.dT kvs) /\ y=.ref b /\ H b=some (.tup (k.map kV)) /\ r=zeg kvs k
noncomputable def zih (H:Hp) (a:Addr) (y v:V) (H':Hp) : Prop :=
 (∃ kvs k,H a=some (.dK kvs) /\ y=kV k /\ kvs.length < sizeLine /\ H'=upd H a (.dK (zdy kvs k v))) \/
 ∃ kvs k b,H a=some (.dT kvs) /\ y=.ref b /\ H b=some (.tup (k.map kV)) /\ kvs.length < sizeLine /\ H'=upd H a (.dT (zdy kvs k v))
theorem ze8.k {H:Hp} {a:Addr} {kvs:List (Key × V)} {k:Key} (e:H a=some (.dK kvs)) : ze8 H a (kV k) (zeg kvs k):=.inl ⟨kvs,k,.inl e,rfl,rfl⟩
theorem ze8.t {H:Hp} {a b:Addr} {kvs:List (List Key × V)} {k:List Key} (e:H a=some (.dT kvs)) (eb:H b=some (.tup (k.map kV))) : ze8 H a (.ref b) (zeg kvs k):=.inr ⟨kvs,k,b,.inl e,rfl,eb,rfl⟩
theorem zih.k {H:Hp} {a:Addr} {kvs:List (Key × V)} {k:Key} {v:V} (e:H a=some (.dK kvs)) (hl:kvs.length < sizeLine) : zih H a (kV k) v (upd H a (.dK (zdy kvs k v))):=.inl ⟨kvs,k,e,rfl,hl,rfl⟩
theorem zih.t {H:Hp} {a b:Addr} {kvs:List (List Key × V)} {k:List Key} {v:V} (e:H a=some (.dT kvs)) (eb:H b=some (.tup (k.map kV))) (hl:kvs.length < sizeLine) :
  zih H a (.ref b) v (upd H a (.dT (zdy kvs k v))):=.inr ⟨kvs,k,b,e,rfl,eb,hl,rfl⟩
section
variable {X:Cx} {pins:List (Addr × Obj)} {σ:St} {H:Hp} {s:Shared} {a:Addr} {y v:V} {u r:Value} {o:Option V} {A:Around} {E:Value -> Shared -> Prop}
theorem Inv.big (I:Inv X pins σ H s) : sysModules < s.heap.objs.size:=by
 have h : mainGlobals < s.heap.objs.size:=(I.mod.glob.keeps I.bk).lt
 exact Nat.lt_trans (by decide) h
theorem zxd {Q:Value -> Shared -> Prop} (hu:A.units + 1 < cLine) (I:Inv X pins σ H s) (g:ze8 H a y (some v)) (ry:za0 y u) (h:∀ w' s',Inv X pins σ H s' -> za0 v w' -> Q w' s') :
  wpAny (model X.prog X.w) A (getItem (.ref a) u) Q E s:=by
 rcases g with ⟨kvs,k,e,ey,l⟩ | ⟨kvs,k,b,e,ey,eb,l⟩
 ·subst ey
  obtain ⟨z,hd,vs,rel,dd⟩:=zm3 I.hok e
  obtain ⟨w',hw,rw'⟩:=zdx.some_of (v:=v) (o:=valueAt vs k) (by rw [l]; exact rel.val k)
  exact wpAny_getItem_of (zl6 ry) dd.mapOf hw (h w' _ (I.tok _) rw')
 ·subst ey
  cases (show u=Value.ref b from ry)
  obtain ⟨z,hd,xs,rel,dd⟩:=znx I.hok e
  obtain ⟨w',hw,rw'⟩:=zdx.some_of (v:=v) (o:=(atKey xs k).map (·.2)) (by rw [l]; exact rel.val k)
  obtain ⟨p,hp,hp2⟩:=Option.map_eq_some_iff.mp hw
  refine wpAny_getItem_heap (tupleKind_room_in1 hu) (znm I.hok eb) dd hp ?_
  rw [hp2]
  exact h w' _ (I.tok _) rw'
theorem z1v {Q:Value -> Shared -> Prop} (hu:A.units + 1 < cLine) (I:Inv X pins σ H s) (g:ze8 H a y o) (ry:za0 y u) (h:∀ s',Inv X pins σ H s' -> Q (.bool o.isSome) s') :
  wpAny (model X.prog X.w) A (compareOp .In u (.ref a)) Q E s:=by
 rcases g with ⟨kvs,k,e,ey,l⟩ | ⟨kvs,k,b,e,ey,eb,l⟩
 ·subst ey
  obtain ⟨z,hd,vs,rel,dd⟩:=zm3 I.hok e
  refine wpAny_in_of (zl6 ry) hd dd.mapOf ?_
  rw [<- (rel.val k).isSome_eq,<- l]
  exact h _ (I.tok _)
 ·subst ey
  cases (show u=Value.ref b from ry)
  obtain ⟨z,hd,xs,rel,dd⟩:=znx I.hok e
  refine wpAny_in_heap (tupleKind_room_in1 hu) (znm I.hok eb) hd dd ?_
  have q:=(rel.val k).isSome_eq
  rw [Option.isSome_map] at q
  rw [<- q,<- l]
  exact h _ (I.tok _)
theorem zpw {h':Heap} {t':Nat} {ob:HO} (I:Inv X pins σ H s) (mu:Mut (H a)) (hs:Heap.SameBut a s.heap h') (he:∃ q,h'.get? a=some q) (new:zcv X.prog X.w (upd H a ob) h' a ob) :
  Inv X pins σ (upd H a ob) { s with heap:=h',toks:=t' } :=
 I.write (x:=a) (e:=a) mu (.inl rfl) (fun b q hb z=>(hs.2 b hb).trans z) he new
theorem zst {P:Program} {w:World} {H':Hp} {h':Heap} {kvs:List (Key × V)} {vs:List (Key × Value)} (z:kvs.length <= sizeLine) (hd:(a == sysModules)=false) (rel:KV kvs vs) (dd:h'.DictOf (zeb P w) a vs) :
  zcv P w H' h' a (.dK kvs):=⟨z,hd,vs,rel,dd⟩
theorem zxw {H':Hp} {Q:Unit -> Shared -> Prop} (hu:A.units + 1 < cLine) (I:Inv X pins σ H s) (g:zih H a y v H') (ry:za0 y u) (rv:za0 v r) (h:∀ s',Inv X pins σ H' s' -> Q () s') :
  wpAny (model X.prog X.w) A (setItem (.ref a) u r) Q E s:=by
 rcases g with ⟨kvs,k,e,ey,l,eH⟩ | ⟨kvs,k,b,e,ey,eb,l,eH⟩
 ·subst ey eH
  obtain ⟨z,hd,vs,rel,dd⟩:=zwm I.hok e
  have hz : vs.length <= sizeLine:=by rw [<- rel.length]; exact z
  have hl : (zdy kvs k v).length <= sizeLine:=by have:=zrv kvs k v; omega
  refine wpAny_setItem_pairs (hsz:=hz) (zl6 ry) dd fun h' dd' hs=>h _ ?_
  have he : ∃ q,h'.get? a=some q:=let ⟨q,_,_,hq,_⟩:=dd'; ⟨q,hq⟩
  exact zpw I (by rw [e]; exact True.intro) hs he (zst hl hd (rel.put k rv) dd')
 ·subst ey eH
  cases (show u=Value.ref b from ry)
  obtain ⟨z,hd,xs,rel,dd⟩:=z44 I.hok e
  have hz : xs.length <= sizeLine:=by rw [<- Paired.length rel]; exact z
  have hl : (zdy kvs k v).length <= sizeLine:=by have:=zrv kvs k v; omega
  refine wpAny_setItem_heap (hsz:=hz) (tupleKind_room_in1 hu) (znm I.hok eb) dd fun h' dd' hs=>h _ ?_
  obtain ⟨q,es,ep,hq,h2,h3,h4,_,h5⟩:=dd'
  refine zpw I (by rw [e]; exact True.intro) hs ⟨q,hq⟩ ⟨hl,hd,_,(rel.put k eb rv).keeps fun c ys ec=>?_,q,es,ep,hq,h2,h3,h4,h5⟩
  rw [zby (z7y ec e (fun z=>nomatch z))]
  exact ec
end
section
variable {X:Cx} {pins:List (Addr × Obj)} {σ:St} {H:Hp} {s:Shared} {a:Addr} {kvs:List (Key × V)} {k:Key} {u:Value} {A:Around} {E:Value -> Shared -> Prop}
end
noncomputable def zrk (i:Expr) : Prop:=∀ ov iv,subscripted i false ov iv=operate [ov,iv] (getItem ov iv)
theorem z71 {prog:Program} {w:World} {A:Around} {E:Value -> Shared -> Prop} {s:Shared} {env:Env} {value slice:Expr} {pos:Pos} {T id:String} {Q:Value -> Shared -> Prop}
  (hl:typeLookup (.type T) "__getitem__"=pure (some (.builtin id))) (hs:zrk slice)
  (h:wpAny (model prog w) A (eval value env) (fun o s₁=>wpAny (model prog w) A (eval slice env) (fun i s₂=>s₂.TypeIs o T /\ wpAny (model prog w) A (getItem o i) Q E s₂) E s₁) E s) :
  wpAny (model prog w) A (eval (.Subscript value slice pos) env) Q E s:=by
 refine Subscript_ (wpAny_mono h (fun o s₁ h₁=>wpAny_mono h₁ (fun i s₂ h₂=>?_) fun _ _ x=>x) fun _ _ x=>x)
 obtain ⟨hT,h₂⟩:=h₂
 unfold subscriptTail
 refine wpAny_bind ?_
 rw [getitemInPython_of_ne hT.not_modules]
 refine wpAny_bind (wpAny_specialOf hT hl ?_)
 have fin : wpAny (model prog w) A (subscripted slice false o i) (fun r s₃=>wpAny (model prog w) A (letTemporaryGo value o r >>= fun _=>pure r) Q E s₃) E s₂:=by
  rw [hs o i]
  exact wpAny_operating (wpAny_mono h₂ (fun r s₃ h₃=>wpAny_bind (wpAny_letTemporaryGo (wpAny_pure h₃))) fun _ _ x=>x)
 first
  | exact wpAny_pure (wpAny_bind fin)
  | exact wpAny_bind (wpAny_pure (wpAny_bind fin))
  | exact wpAny_bind fin
theorem z0s {X:Cx} {pins:List (Addr × Obj)} {σ:St} {H:Hp} {s:Shared} {a:Addr} {y:V} {o:Option V} (I:Inv X pins σ H s) (g:ze8 H a y o) : s.TypeIs (.ref a) "dict":=by
 rcases g with ⟨kvs,k,e,_,_⟩ | ⟨kvs,k,b,e,_,_,_⟩
 ·obtain ⟨_,_,vs,_,dd⟩:=zm3 I.hok e
  exact dd.typeIs
 ·obtain ⟨_,_,xs,_,dd⟩:=znx I.hok e
  exact dd.typeIs
noncomputable def z4u (td ty:TE) : TE:=fun σ H Q=>td σ H fun x H1=>ty σ H1 fun y H2=>∃ a v,x=.ref a /\ ze8 H2 a y (some v) /\ Q v H2
noncomputable def z83 (ty td:TE) : TE:=fun σ H Q=>ty σ H fun y H1=>td σ H1 fun x H2=>∃ a o,x=.ref a /\ ze8 H2 a y o /\ Q (.bl o.isSome) H2
noncomputable def zua (td ty tv:TE) : TS:=fun D σ H=>tv σ H fun v H1=>td σ H1 fun x H2=>ty σ H2 fun y H3=>∃ a H4,x=.ref a /\ zih H3 a y v H4 /\ D.nx σ H4
section
variable {X:Cx} {o i e value:Expr} {pos pos' tpos:Pos} {td ty tv:TE}
theorem z18 (hu:X.A.units + 1 < cLine) (ho:PE X o td) (hi:PE X i ty) (hs:zrk i) : PE X (.Subscript o i pos) (z4u td ty):=by
 intro pins s σ H Q I h
 refine z71 PySem.F.slot_dict_getitem.lookup hs (thn (ho pins s σ H _ I h) fun u s1 ⟨x,H1,I1,rx,q1⟩=>thn (hi pins s1 σ H1 _ I1 q1) fun iv s2 ⟨y,H2,I2,ry,a,v,ex,g,q2⟩=>?_)
 subst ex
 obtain rfl : u=Value.ref a:=rx
 exact ⟨z0s I2 g,zxd hu I2 g ry fun w' s3 I3 rw'=>⟨v,H2,I3,rw',q2⟩⟩
theorem zzb (hu:X.A.units + 1 < cLine) (hi:PE X i ty) (ho:PE X o td) : PC X .In i o (z83 ty td):=by
 intro pins s σ H Q I h
 refine thn (hi pins s σ H _ I h) fun iv s1 ⟨y,H1,I1,ry,q1⟩=>thn (ho pins s1 σ H1 _ I1 q1) fun u s2 ⟨x,H2,I2,rx,a,ov,ex,g,q2⟩=>?_
 subst ex
 obtain rfl : u=Value.ref a:=rx
 exact z1v hu I2 g ry fun s3 I3=>⟨.bl ov.isSome,H2,I3,rfl,q2⟩
theorem z1l (hu:X.A.units + 1 < cLine) (ho:PE X o td) (hi:PE X i ty) (hv:PE X value tv) (hs:swapsWith value (some (.Subscript o i pos')) pos.line X.env=pure false) :
  PS X (.Assign [.Subscript o i pos'] value pos) (zua td ty tv):=by
 intro pins s σ H D I h
 refine wpAny_Assign_Subscript (thn (hv pins s σ H _ I h) fun r s1 ⟨v,H1,I1,rv,q1⟩=>thn (ho pins s1 σ H1 _ I1 q1) fun u s2 ⟨x,H2,I2,rx,q2⟩=>thn (hi pins s2 σ H2 _ I2 q2) fun iv s3 ⟨y,H3,I3,ry,a,H4,ex,g,q3⟩=>?_) hs
 subst ex
 obtain rfl : u=Value.ref a:=rx
 exact zxw hu I3 g ry rv fun s4 I4=>⟨σ,H4,I4,q3⟩
end
theorem zvj {P:Program} {w:World} {H:Hp} (h:Heap) (hb:sysModules < h.objs.size) : zcv P w H (h.push { cls:=.type "dict",data:=.dict #[] }) h.objs.size (.dK []) :=
 ⟨Nat.zero_le _,beq_eq_false_iff_ne.mpr (Ne.symm (Nat.ne_of_lt hb)),[],.nil,Heap.DictOf.new h⟩
noncomputable def zr2 : TE:=fun _ H Q=>∀ p,H p=none -> Q (.ref p) (upd H p (.dK []))
section
variable {X:Cx} {pos:Pos}
theorem z9n : PE X (.Dict [] [] pos) zr2:=fun pins s σ H Q I h =>
 wpAny_Dict_empty ⟨.ref s.heap.objs.size,_,I.laid (a:=s.heap.objs.size) (o:=.dK []) (t':=s.toks) (fun _ _ q=>Heap.get?_push_of_some _ q) (Nat.le_refl _) (zvj s.heap I.big),rfl,h _ (I.hok.fresh (Nat.le_refl _))⟩
end
noncomputable def zqx : List (TE × TE) -> St -> Hp -> (List (V × V) -> Hp -> Prop) -> Prop
 | [],_,H,Q=>Q [] H
 | (tk,tv) :: r,σ,H,Q=>tk σ H fun x H1=>tv σ H1 fun y H2=>zqx r σ H2 fun ps H3=>Q ((x,y) :: ps) H3
noncomputable abbrev VV : List (V × V) -> List (Value × Value) -> Prop:=Paired fun p q=>za0 p.1 q.1 /\ za0 p.2 q.2
noncomputable def PPs (X:Cx) (pos:Pos) (keys:List (Option Expr)) (values:List Expr) (trs:List (TE × TE)) : Prop :=
 ∀ (pins:List (Addr × Obj)) (s:Shared) (σ:St) (H:Hp) (Q:List (V × V) -> Hp -> Prop),Inv X pins σ H s -> zqx trs σ H Q ->
  wpAny (model X.prog X.w) X.A (evalPairs (pairTrees keys values X.env pos)) (fun vs s'=>∃ ps H',Inv X pins σ H' s' /\ VV ps vs /\ Q ps H') X.xe s
theorem zzs {X:Cx} {pos:Pos} : PPs X pos [] [] []:=fun pins s σ H Q I h=>pairTrees_nil_walk ⟨[],H,I,.nil,h⟩
theorem zp2 {X:Cx} {pos:Pos} {k v:Expr} {ks:List (Option Expr)} {vs:List Expr} {tk tv:TE} {trs:List (TE × TE)} (hk:PE X k tk) (hv:PE X v tv) (hr:PPs X pos ks vs trs) :
  PPs X pos (some k :: ks) (v :: vs) ((tk,tv) :: trs):=fun pins s σ H Q I h =>
 pairTrees_cons_walk (thn (hk pins s σ H _ I h) fun u s1 ⟨x,H1,I1,rx,q1⟩=>thn (hv pins s1 σ H1 _ I1 q1) fun w2 s2 ⟨y,H2,I2,ry,q2⟩ =>
  thn (hr pins s2 σ H2 _ I2 q2) fun ws s3 ⟨ps,H3,I3,rel,q3⟩=>⟨(x,y) :: ps,H3,I3,.cons ⟨rx,ry⟩ rel,q3⟩)
noncomputable def zga (kvs more:List (Key × V)) : List (Key × V):=more.foldl (fun acc kv=>zdy acc kv.1 kv.2) kvs
theorem KV.merge : ∀ {more:List (Key × V)} {rs:List (Key × Value)} {kvs:List (Key × V)} {vs:List (Key × Value)},KV more rs -> KV kvs vs -> KV (zga kvs more) (merged vs rs):=by
 intro more rs kvs vs r
 unfold KV at r
 induction r generalizing kvs vs with
 | nil=>intro q; exact q
 | @cons p q ps qs h t ih =>
  intro r0
  have e : KV (zdy kvs p.1 p.2) (stored vs q.1 q.2):=by
   have:=r0.put p.1 h.2
   rw [<- h.1]; exact this
  exact ih e
theorem ztt : ∀ (more kvs:List (Key × V)),(zga kvs more).length <= kvs.length + more.length
 | [],kvs=>by show kvs.length <= kvs.length + 0; omega
 | p :: r,kvs=>by
  have h1:=ztt r (zdy kvs p.1 p.2)
  have h2:=zrv kvs p.1 p.2
  show (zga (zdy kvs p.1 p.2) r).length <= _
  rw [List.length_cons]; omega
theorem zwf {P:Program} {w:World} : ∀ {kvs:List (Key × V)} {ws:List (Value × Value)},VV (kvs.map fun kv=>(kV kv.1,kv.2)) ws -> ∃ rs,Carries (zeb P w) ws rs /\ KV kvs rs
 | [],_,r=>by rw [List.map_nil] at r; cases r; exact ⟨[],True.intro,.nil⟩
 | p :: kvs,_,r=>by
  rw [List.map_cons] at r
  cases r with
  | @cons a b as bs h t =>
   obtain ⟨rs,c,q⟩:=zwf (P:=P) (w:=w) t
   obtain ⟨b1,b2⟩:=b
   exact ⟨(p.1,b2) :: rs,⟨zl6 h.1,rfl,c⟩,.cons ⟨rfl,h.2⟩ q⟩
noncomputable def z0y (trs:List (TE × TE)) : TE:=fun σ H Q=>∀ p,H p=none -> zqx trs σ (upd H p (.dK [])) fun ps H2=>H2 p=some (.dK []) /\ ∃ kvs : List (Key × V),ps=kvs.map (fun kv=>(kV kv.1,kv.2)) /\ kvs.length <= 15 /\ Q (.ref p) (upd H2 p (.dK (zga [] kvs)))
theorem z2o {X:Cx} {pos:Pos} {keys:List (Option Expr)} {values:List Expr} {trs:List (TE × TE)} (h:PPs X pos keys values trs) (hall:keys.all (·.isSome)=true) (hl:keys.length=values.length) (h0:keys ≠ [])
  (h15:keys.length <= 15) : PE X (.Dict keys values pos) (z0y trs):=by
 intro pins s σ H Q I q
 have hn:=I.hok.fresh (Nat.le_refl s.heap.objs.size)
 have I1:=I.laid (a:=s.heap.objs.size) (o:=.dK []) (h':=s.heap.push { cls:=.type "dict",data:=.dict #[] }) (t':=s.toks) (fun _ _ q=>Heap.get?_push_of_some _ q) (Nat.le_refl _) (zvj s.heap I.big)
 refine wpAny_Dict_walk (knd:=zeb X.prog X.w) hall hl h0 h15 (thn (h pins _ σ _ _ I1 (q _ hn)) fun ws s2 ⟨ps,H2,I2,rel,e,kvs,ep,lk,q2⟩=>?_)
 subst ep
 obtain ⟨rs,c,rk⟩:=zwf (P:=X.prog) (w:=X.w) rel
 obtain ⟨z,hd,vs0,r0,dd⟩:=zwm I2.hok e
 cases r0
 refine ⟨rs,c,dd,fun h' dd' hs=>⟨.ref s.heap.objs.size,_,?_,rfl,q2⟩⟩
 have hz : (zga [] kvs).length <= sizeLine:=by
  have h1:=ztt kvs []
  rw [List.length_nil] at h1
  rw [sizeLine_eq]; omega
 have he : ∃ q,h'.get? s.heap.objs.size=some q:=let ⟨q,_,_,hq,_⟩:=dd'; ⟨q,hq⟩
 exact zpw I2 (by rw [e]; exact True.intro) hs he (zst hz hd (rk.merge .nil) dd')
section
variable {X:Cx} {pins:List (Addr × Obj)} {σ:St} {H:Hp} {s:Shared} {a:Addr} {y d:V} {u r:Value} {o:Option V} {A:Around} {E:Value -> Shared -> Prop}
end
section
variable {X:Cx} {o e f:Expr} {apos cpos:Pos} {td ty tx:TE}
end
section
variable {X:Cx} {pins:List (Addr × Obj)} {σ:St} {H:Hp} {s:Shared} {a:Addr} {kvs:List (Key × V)} {A:Around} {E:Value -> Shared -> Prop}
end
section
variable {X:Cx} {pins:List (Addr × Obj)} {σ:St} {H:Hp} {s:Shared} {a:Addr} {y:V} {u:Value} {A:Around} {E:Value -> Shared -> Prop}
end
section
variable {κ : Type} [DecidableEq κ]
end
end L2
set_option maxHeartbeats 4000000
namespace L2
open PySem
theorem zoo {env:Env} (f:(Str × NameKind) -> List (Str × Addr) -> Sem (ForInStep (List (Str × Addr))))
  (h1:∀ n k r,k ≠ NameKind.free -> f (n,k) r=pure (.yield r))
  (h2:∀ n r c,env.cells.lookup n=some c -> f (n,.free) r=pure (.yield ((n,c) :: r))) :
  ∀ (l:List (Str × NameKind)) (acc:List (Str × Addr)),(∀ x ∈ l,x.2=.free -> ∃ c,env.cells.lookup x.1=some c) ->
   (∀ x c,acc.lookup x=some c -> env.cells.lookup x=some c) ->
   ∃ cl,forIn l acc f=(pure cl:Sem _) /\ (∀ x c,cl.lookup x=some c -> env.cells.lookup x=some c) /\
    (∀ x,((∃ c,acc.lookup x=some c) \/ (x,NameKind.free) ∈ l) -> ∃ c,cl.lookup x=some c)
 | [],acc,_,ha=>⟨acc,rfl,ha,fun x hx=>hx.elim id (fun z=>nomatch z)⟩
 | (n,k) :: l,acc,hl,ha=>by
  have hl' : ∀ x ∈ l,x.2=.free -> ∃ c,env.cells.lookup x.1=some c:=fun x hx=>hl x (List.mem_cons_of_mem _ hx)
  by_cases hk : k=.free
  ·subst hk
   obtain ⟨c,hc⟩:=hl (n,.free) List.mem_cons_self rfl
   have hc' : env.cells.lookup n=some c:=hc
   have ha' : ∀ x c',((n,c) :: acc).lookup x=some c' -> env.cells.lookup x=some c':=fun x c' hx=>by
    rw [List.lookup_cons] at hx
    cases e : x == n with
    | true =>
     rw [e] at hx
     cases hx
     rw [eq_of_beq e]; exact hc'
    | false =>
     rw [e] at hx
     exact ha x c' hx
   obtain ⟨cl,e,a1,a2⟩:=zoo f h1 h2 l ((n,c) :: acc) hl' ha'
   refine ⟨cl,?_,a1,fun x hx=>a2 x ?_⟩
   ·rw [List.forIn_cons,h2 n acc c hc',pure_bind]
    exact e
   ·have here : ∀ c',acc.lookup x=some c' -> ∃ c'',((n,c) :: acc).lookup x=some c'':=fun c' z=>by
     rw [List.lookup_cons]
     cases e : x == n with
     | true=>exact ⟨c,rfl⟩
     | false=>exact ⟨c',z⟩
    rcases hx with ⟨c',z⟩ | hx
    ·exact .inl (here c' z)
    ·rcases List.mem_cons.mp hx with z | z
     ·cases z
      refine .inl ⟨c,?_⟩
      rw [List.lookup_cons,beq_self_eq_true]
     ·exact .inr z
  ·obtain ⟨cl,e,a1,a2⟩:=zoo f h1 h2 l acc hl' ha
   refine ⟨cl,?_,a1,fun x hx=>a2 x ?_⟩
   ·rw [List.forIn_cons,h1 n k acc hk,pure_bind]
    exact e
   ·rcases hx with hx | hx
    ·exact .inl hx
    ·rcases List.mem_cons.mp hx with z | z
     ·cases z; exact absurd rfl hk
     ·exact .inr z
theorem zws {scope:Scope} {env:Env} (h:∀ x ∈ scope.names,x.2=.free -> ∃ c,env.cells.lookup x.1=some c) :
  ∃ cl,closureFor scope env=pure cl /\ (∀ x c,cl.lookup x=some c -> env.cells.lookup x=some c) /\ (∀ x,(x,NameKind.free) ∈ scope.names -> ∃ c,cl.lookup x=some c):=by
 unfold closureFor
 obtain ⟨cl,e,a1,a2⟩:=zoo (env:=env) (fun (x:Str × NameKind) (r:List (Str × Addr))=>(match x with
   | (name,kind)=>if (kind == NameKind.free)=true then (do let a <- cellOf env name; pure (ForInStep.yield ((name,a) :: r))) else (pure (ForInStep.yield r) : Sem _)))
  (fun n k r hk=>by
   have : (k == NameKind.free)=false:=by simpa using hk
   simp only [this,Bool.false_eq_true,if_false])
  (fun n r c hc=>by
   simp only [beq_self_eq_true,if_true,cellOf,hc,pure_bind])
  scope.names [] h (fun x c z=>by cases z)
 refine ⟨cl,?_,a1,fun x hx=>a2 x (.inr hx)⟩
 refine (congrArg (fun (t:Sem (List (Str × Addr)))=>t >>= pure) ?_).trans ((congrArg (fun (t:Sem (List (Str × Addr)))=>t >>= pure) e).trans (pure_bind _ _))
 rfl
section
variable {prog:Program} {w:World} {A:Around} {R:Result -> Shared -> Prop} {s:Shared}
noncomputable abbrev E00 : Value -> Shared -> Prop:=fun _ _=>False
theorem z7e {elt target iter:Expr} {ifs:List Expr} {scope:Scope} {pos:Pos} {it acc:Value} {env:Env} (I:Nat -> Shared -> Prop)
  (turn:∀ n s,I n s -> wpAny (model prog w) A (pyNext it) (fun r s₁=>match r with
   | none=>R (.ok .next) s₁
   | some v=>wpAny (model prog w) A (letOwnedTupleGo target it v) (fun _ s₁'=>wpAny (model prog w) A (assign target env v) (fun _ s₂ =>
     wpAny (model prog w) A (forIn ifs true fun c r=>if r=true then do let ok <- isTrue c env (eval c env); pure (ForInStep.yield ok) else pure (ForInStep.yield r)) (fun ok s₃ =>
      if ok=true then wpAny (model prog w) A (eval elt env) (fun x s₄ =>
       wpAny (model prog w) A (call (.builtin "list.append") [acc,x]) (fun _ s₅=>∃ m,m < n /\ I m s₅) E00 s₄) E00 s₃
      else ∃ m,m < n /\ I m s₃) E00 s₂) E00 s₁') E00 s₁) E00 s)
  (n:Nat) (h:I n s) :
  codeAny (model prog w) A (.compLoop (.ListComp elt [⟨target,iter,ifs,0⟩] scope pos) 0 it acc env) R s:=by
 refine codeAny_loop rfl I (fun n s hI=>?_) n h
 show wpAny _ A ((compTurn (.ListComp elt [⟨target,iter,ifs,0⟩] scope pos) 0 it acc env).onRaise (fun x=>do noteFrame x env; theTreesLotGoes x)) _ _ s
 refine wpAny_noted ?_
 rw [compTurn_list]
 refine wpAny_mono (E:=E00) ?_ (fun _ _ z=>z) (fun _ _ z=>z.elim)
 refine wpAny_bind (wpAny_standAt (wpAny_bind (wpAny_mono (turn n s hI) (fun r s₁ h₁=>?_) fun _ _ h'=>h')))
 cases r with
 | none=>exact wpAny_pure h₁
 | some v =>
  refine wpAny_bind (wpAny_mono h₁ (fun _ s₁' h₁'=>?_) fun _ _ h'=>h')
  refine wpAny_bind (wpAny_mono h₁' (fun _ s₂ h₂=>wpAny_bind (wpAny_mono h₂ (fun ok s₃ h₃=>?_) fun _ _ h'=>h')) fun _ _ h'=>h')
  cases ok with
  | false=>exact wpAny_pure ⟨rfl,h₃⟩
  | true =>
   exact wpAny_bind (wpAny_bind (wpAny_mono h₃ (fun x s₄ h₄=>wpAny_bind (wpAny_mono h₄ (fun _ s₅ h₅=>wpAny_pure (wpAny_pure ⟨rfl,h₅⟩)) fun _ _ h'=>h')) fun _ _ h'=>h'))
end
open PySem.Spec PyProof.Rows
noncomputable abbrev Cx.comp (X:Cx) (scope:Scope) (Nc:List Str) (cl:List (Str × Addr)) (C:Addr) (ex:List Addr) (s₂:Shared) (H₂:Hp) : Cx :=
 { X with N:=Nc,s₀:=s₂,H₀:=H₂,env:=compEnvC scope cl C X.env,outer:=X.stack,ex:=ex,fn:=fun _=>false,pn:=[],xe:=E00 }
theorem zov {env:Env} : ∀ {names:List (Str × NameKind)} {x:Str},names.lookup x=some .free ->
  (names.map fun (n,k)=>if (k == NameKind.free && env.scope.kind == .function && env.kindOf n == some .cell) then (n,NameKind.cell) else (n,k)).lookup x=some .cell \/
  (names.map fun (n,k)=>if (k == NameKind.free && env.scope.kind == .function && env.kindOf n == some .cell) then (n,NameKind.cell) else (n,k)).lookup x=some .free
 | [],_,h=>by simp at h
 | (n,k) :: r,x,h=>by
  have ih:=@zov env r x
  rw [List.map_cons]
  show List.lookup x ((if (k == NameKind.free && env.scope.kind == .function && env.kindOf n == some .cell)=true then (n,NameKind.cell) else (n,k)) :: _)=_ \/ List.lookup x ((if (k == NameKind.free && env.scope.kind == .function && env.kindOf n == some .cell)=true then (n,NameKind.cell) else (n,k)) :: _)=_
  rw [List.lookup_cons] at h
  cases hx : x == n with
  | true =>
   rw [hx] at h
   cases h
   split
   ·left; rw [List.lookup_cons,hx]
   ·right; rw [List.lookup_cons,hx]
  | false =>
   rw [hx] at h
   split
   ·rw [List.lookup_cons,hx]; exact ih h
   ·rw [List.lookup_cons,hx]; exact ih h
theorem zqd {env:Env} {k':NameKind} (hk':k'=.cell \/ k'=.free) : ∀ {names:List (Str × NameKind)} {x:Str},
  (names.map fun (n,k)=>if (k == NameKind.free && env.scope.kind == .function && env.kindOf n == some .cell) then (n,NameKind.cell) else (n,k)).lookup x=some k' ->
  (x,NameKind.free) ∈ names \/ (x,NameKind.cell) ∈ names
 | [],_,h=>by simp at h
 | (n,k) :: r,x,h=>by
  have ih:=@zqd env k' hk' r x
  rw [List.map_cons] at h
  have h' : List.lookup x ((if (k == NameKind.free && env.scope.kind == .function && env.kindOf n == some .cell)=true then (n,NameKind.cell) else (n,k)) :: (r.map fun (n,k)=>if (k == NameKind.free && env.scope.kind == .function && env.kindOf n == some .cell) then (n,NameKind.cell) else (n,k)))=some k':=h
  cases hx : x == n with
  | true =>
   have e:=eq_of_beq hx
   subst e
   split at h'
   ·rename_i hc
    have hk : k=.free:=by
     rw [Bool.and_eq_true,Bool.and_eq_true] at hc
     exact eq_of_beq hc.1.1
    subst hk
    exact .inl List.mem_cons_self
   ·rw [List.lookup_cons,hx] at h'
    have e : k=k':=Option.some.inj h'
    subst e
    rcases hk' with z | z
    ·subst z; exact .inr List.mem_cons_self
    ·subst z; exact .inl List.mem_cons_self
  | false =>
   have h2 : (r.map fun (n,k)=>if (k == NameKind.free && env.scope.kind == .function && env.kindOf n == some .cell) then (n,NameKind.cell) else (n,k)).lookup x=some k':=by
    split at h' <;> (rw [List.lookup_cons,hx] at h'; exact h')
   rcases ih h2 with z | z
   ·exact .inl (List.mem_cons_of_mem _ z)
   ·exact .inr (List.mem_cons_of_mem _ z)
noncomputable def ziu (scope:Scope) (outer:List (Str × NameKind)) (N Nc:List Str) (k:Nat) (js:List Nat) : Bool :=
 scope.names.all (fun x=>(x.2 != .free || outer.lookup x.1 == some .cell || outer.lookup x.1 == some .free) && x.2 != .cell && (x.2 != .local || scope.names.lookup x.1 == some .local)) &&
 scope.kind == .function && Nc.length == k + js.length &&
 (List.range js.length).all (fun i=>match Nc[k + i]?,js[i]? with
  | some x,some j=>N[j]? == some x && scope.names.lookup x == some .free
  | _,_=>false)
structure zmd (scope:Scope) (outer:List (Str × NameKind)) (N Nc:List Str) (k:Nat) (js:List Nat) : Prop where
 free : ∀ x ∈ scope.names,x.2=.free -> outer.lookup x.1=some .cell \/ outer.lookup x.1=some .free
 nocell : ∀ x ∈ scope.names,x.2 ≠ .cell
 loc : ∀ x ∈ scope.names,x.2=.local -> scope.names.lookup x.1=some .local
 kind : scope.kind=.function
 len : Nc.length=k + js.length
 at' : ∀ i j,js[i]?=some j -> ∃ x,Nc[k + i]?=some x /\ N[j]?=some x /\ scope.names.lookup x=some .free
theorem zmd.of {scope:Scope} {outer:List (Str × NameKind)} {N Nc:List Str} {k:Nat} {js:List Nat} (h:ziu scope outer N Nc k js=true) : zmd scope outer N Nc k js:=by
 unfold ziu at h
 rw [Bool.and_eq_true,Bool.and_eq_true,Bool.and_eq_true] at h
 obtain ⟨⟨⟨h1,h2⟩,h3⟩,h4⟩:=h
 rw [List.all_eq_true] at h1 h4
 refine ⟨fun x hx e=>?_,fun x hx e=>?_,fun x hx e=>?_,eq_of_beq h2,eq_of_beq h3,fun i j e=>?_⟩
 ·have:=h1 x hx
  simp only [Bool.and_eq_true,Bool.or_eq_true,bne_iff_ne,beq_iff_eq] at this
  rcases this.1.1 with (z | z) | z
  ·exact absurd e z
  ·exact .inl z
  ·exact .inr z
 ·have:=h1 x hx
  simp only [Bool.and_eq_true,Bool.or_eq_true,bne_iff_ne,beq_iff_eq] at this
  exact this.1.2 e
 ·have:=h1 x hx
  simp only [Bool.and_eq_true,Bool.or_eq_true,bne_iff_ne,beq_iff_eq] at this
  rcases this.2 with z | z
  ·exact absurd e z
  ·exact z
 ·have hi : i < js.length:=(List.getElem?_eq_some_iff.mp e).1
  have:=h4 i (List.mem_range.mpr hi)
  rw [e] at this
  cases q : Nc[k + i]? with
  | none=>rw [q] at this; cases this
  | some x =>
   rw [q] at this
   simp only [Bool.and_eq_true,beq_iff_eq] at this
   exact ⟨x,rfl,this.1,this.2⟩
noncomputable def zf9 (k:Nat) (js:List Nat) (σ:St) : St:=List.replicate k none ++ js.map fun j=>(σ[j]?).getD none
noncomputable def PTs (X:Cx) (ifs:List Expr) (t:TT) : Prop :=
 ∀ (pins:List (Addr × Obj)) (s:Shared) (σ:St) (H:Hp) (Q:Bool -> Hp -> Prop),Inv X pins σ H s -> t σ H Q ->
  wpAny (model X.prog X.w) X.A (forIn ifs true fun c r=>if r=true then do let ok <- isTrue c X.env (eval c X.env); pure (ForInStep.yield ok) else pure (ForInStep.yield r)) (TP X pins σ Q) X.xe s
noncomputable def zz8 : TT:=fun _ H Q=>Q true H
theorem z8t {X:Cx} : PTs X [] zz8:=fun _ _ _ H _ I h=>wpAny_tests_nil ⟨H,I,h⟩
theorem z6p {X:Cx} {c:Expr} {t:TT} (h:PT X c t) : PTs X [c] t:=fun pins s σ H Q I q=>wpAny_tests_one (h pins s σ H Q I q)
noncomputable def zuv (J:It) (g:TG) (tt:TT) (te:TE) (σ0:St) (H1:Hp) (Q:VK) : Prop :=
 ∃ W : Nat -> Nat -> List V -> St -> Hp -> Prop,(∃ m,W 0 m [] σ0 H1) /\ ∀ i m ys σ' H',W i m ys σ' H' ->
  (J.stop i H' /\ ys.length <= sizeLine /\ ∀ D,H1 D=none -> H' D=none -> Q (.ref D) (upd H' D (.lst ys))) \/
  (J.go i H' /\ ys.length <= sizeLine /\ ∃ N : List V -> St -> Hp -> Prop,(∀ ys' σ2 H2,N ys' σ2 H2 -> ∃ m',m' < m /\ W (i + 1) m' ys' σ2 H2) /\
   ∀ x H2,J.yld i H' x H2 -> g x σ' H2 fun σ3 H3=>tt σ3 H3 fun b H4=>if b=true then te σ3 H4 fun y H5=>N (ys ++ [y]) σ3 H5 else N ys σ3 H4)
noncomputable def zq8 (k:Nat) (js:List Nat) (wi:TI) (g:TG) (tt:TT) (te:TE) : TE:=fun σ H Q=>wi σ H fun J H1=>zuv J g tt te (zf9 k js σ) H1 Q
section
variable {X:Cx} {elt tg iter:Expr} {ifs:List Expr} {scope:Scope} {pos:Pos} {Nc:List Str} {k:Nat} {js:List Nat} {wi:TI} {g:TG} {tt:TT} {te:TE}
noncomputable abbrev zfv (us:List Value) (n:Nat) : Obj:={ cls:=.type "list",data:=.seq us.toArray n }
theorem zup {pins:List (Addr × Obj)} {σ:St} {H2:Hp} {s2:Shared} {it:Addr} {fp:List Addr} {tn:Nat -> Heap -> Prop} {J:It} {cl:List (Str × Addr)} {Q:VK} {RR:Value -> Addr -> Result -> Shared -> Prop} {E:Value -> Shared -> Prop}
  (hc:X.calm=true) (ck:zmd scope X.env.scope.names X.N Nc k js)
  (hg:∀ cl C ex s₂ H₂,PG (X.comp scope Nc cl C ex s₂ H₂) tg g) (ht:∀ cl C ex s₂ H₂,PTs (X.comp scope Nc cl C ex s₂ H₂) ifs tt) (he:∀ cl C ex s₂ H₂,PE (X.comp scope Nc cl C ex s₂ H₂) elt te)
  (a1:∀ x c,cl.lookup x=some c -> X.env.cells.lookup x=some c) (a2:∀ x,(x,NameKind.free) ∈ scope.names -> ∃ c,cl.lookup x=some c)
  (I2:Inv X pins σ H2 s2) (T:zim X.prog X.w X.K tg J fp it tn) (st2:tn 0 s2.heap) (f2:∀ b ∈ fp,zft X pins H2 b) (hW:zuv J g tt te (zf9 k js σ) H2 Q)
  (hRR:∀ (D C:Addr) (s':Shared) (H':Hp),Inv X pins σ H' s' -> (∃ m,s'.heap.Ns C m) -> zft X pins H' C -> Q (.ref D) H' -> RR (.ref D) C (.ok .next) s') :
  wpAny (model X.prog X.w) X.A (newList []) (fun acc s₃=>wpAny (model X.prog X.w) X.A (newFunctionEnv scope X.env.globals cl [] X.env.qual none .none (some X.env)) (fun cenv s₄ =>
   codeAny (model X.prog X.w) X.A (.compStart (.ListComp elt [⟨tg,iter,ifs,0⟩] scope pos) 0 (.ref it) acc { cenv with scope:=relabel scope X.env }) (RR acc cenv.locals) s₄) E s₃) E s2:=by
 obtain ⟨W,⟨m0,w0⟩,turn⟩:=hW
 refine wpAny_newObj_type (wpAny_newFunctionEnv ck.nocell (by intro y hy; simp at hy) (fun h₁ hns₁ hsb₁=>?_) ck.kind)
 dsimp only at hns₁ hsb₁ ⊢
 generalize hP : s2.heap.push { cls:=.type "list",dict:=none,data:=.seq ([] : List Value).toArray }=P at hns₁ hsb₁ ⊢
 generalize hD : s2.heap.objs.size=D at hP hns₁ hsb₁ ⊢
 have hCs : P.objs.size=D + 1:=by rw [<- hP,Heap.size_push,hD]
 generalize hC : P.objs.size=C at hCs hns₁ hsb₁ ⊢
 have hDC' : D < C:=by rw [hCs]; exact Nat.lt_succ_self _
 have hDC : D ≠ C:=Nat.ne_of_lt hDC'
 have below : ∀ b o,s2.heap.get? b=some o -> b < D:=fun b o e=>hD ▸ Heap.lt_size e
 have old : ∀ b o,s2.heap.get? b=some o -> h₁.get? b=some o:=fun b o e=>by
  have hb:=below b o e
  exact hsb₁.extBut b o (Nat.ne_of_lt (Nat.lt_trans hb hDC')) (Heap.get?_push_of_some _ (hP ▸ Heap.get?_push_of_some _ e))
 have hDo : h₁.get? D=some (zfv [] 0):=hsb₁.extBut _ _ hDC (Heap.get?_push_of_some _ (by rw [<- hP,<- hD]; exact Heap.get?_push_size _ rfl))
 have Hn : ∀ b,D <= b -> H2 b=none:=fun b hb=>I2.hok.fresh (by omega)
 have fpo : ∀ b ∈ fp,b < D:=fun b hb=>by obtain ⟨o,e,_⟩:=T.obj 0 _ st2 b hb; exact below b o e
 have clo : ∀ x c,cl.lookup x=some c -> c < D:=fun x c e=>by
  obtain ⟨v,o,ho,_⟩:=I2.cell x c (a1 x c e)
  exact below c o ho
 have stko : ∀ b ∈ frs X.stack,b < D:=fun b hb=>by
  obtain ⟨_,o,ho,_⟩:=I2.stack.mem hb
  exact below b o ho
 let Y : Cx:=X.comp scope Nc cl C fp s2 H2
 have yk : Y.Ok:=by
  refine ⟨I2.ok.mod,ck.kind,I2.ok.glob,I2.ok.blt,?_,?_,?_,?_,I2.ok.hd,I2.ok.frames,.inl rfl,?_,I2.bs,?_,?_,?_,I2.stack,I2.stkFree⟩
  ·show s2.heap.objs.size <= C
   omega
  ·exact fun x y c h1 h2=>I2.ok.inj x y c (a1 x c h1) (a1 y c h2)
  ·intro x hx
   have : (x,NameKind.free) ∈ scope.names \/ (x,NameKind.cell) ∈ scope.names:=by
    rcases hx with hx | hx
    ·exact zqd (.inl rfl) hx
    ·exact zqd (.inr rfl) hx
   rcases this with z | z
   ·exact a2 x z
   ·exact absurd rfl (ck.nocell _ z)
  ·exact fun x c z=>nomatch z
  ·intro b hb
   refine ⟨?_,fun x c e=>?_⟩
   ·exact Nat.ne_of_lt (Nat.lt_trans (fpo b hb) hDC')
   ·exact (f2 b hb).2.2.2.2.1 x c (a1 x c e)
  ·exact Nat.le_trans I2.ok.bsz I2.sz
  ·intro b o e hb
   rcases (f2 b hb).2.2.2.1 with z | z
   ·exact I2.ok.noex b o e z
   ·exact absurd (Nat.lt_of_lt_of_le (Heap.lt_size e) (Nat.le_trans I2.ok.bsz z)) (Nat.lt_irrefl _)
  ·intro b hb z
   rcases List.mem_cons.mp (I2.stkSub b z) with e | e
   ·exact (f2 b hb).2.1 e
   ·exact (f2 b hb).2.2.1 e
 have I4 : Inv Y [(D,zfv [] 0)] (zf9 k js σ) H2 { s2 with heap:=h₁,toks:=s2.toks + ([] : List (Str × Value)).length }:=by
  refine ⟨yk,rfl,I2.bare,Un.kept old,⟨_,hns₁,fun i x v e1 e2 e3=>?_⟩,fun x c e=>?_,Hn C (by omega),fun x c e=>I2.freeC x c (a1 x c e),fun p hp=>?_,I2.hok.kept old,?_⟩
  ·have e1 : Nc[i]?=some x:=e1
   unfold zf9 at e2
   have hik : k <= i:=by
    rcases Nat.lt_or_ge i k with z | z
    ·rw [List.getElem?_append_left (by simpa using z),List.getElem?_replicate] at e2
     simp [z] at e2
    ·exact z
   rw [List.getElem?_append_right (by simpa using hik),List.getElem?_map] at e2
   simp only [List.length_replicate] at e2
   cases q : js[i - k]? with
   | none=>rw [q] at e2; cases e2
   | some j =>
    rw [q] at e2
    obtain ⟨x',q1,q2,q3⟩:=ck.at' _ _ q
    rw [show k + (i - k)=i by omega,e1] at q1
    cases q1
    have e2 : (σ[j]?).getD none=some v:=Option.some.inj e2
    have e2' : σ[j]?=some (some v):=by
     cases z : σ[j]? with
     | none=>rw [z] at e2; cases e2
     | some y=>rw [z] at e2; rw [show y=some v from e2]
    have hmem : (x,NameKind.free) ∈ scope.names:=by
     have : ∀ l : List (Str × NameKind),l.lookup x=some .free -> (x,NameKind.free) ∈ l:=by
      intro l
      induction l with
      | nil=>intro z; cases z
      | cons a l ih =>
       intro z
       obtain ⟨n,kk⟩:=a
       rw [List.lookup_cons] at z
       cases hb : x == n with
       | true =>
        rw [hb] at z
        cases z
        rw [eq_of_beq hb]; exact List.mem_cons_self
       | false=>rw [hb] at z; exact List.mem_cons_of_mem _ (ih z)
     exact this _ q3
    have hout : X.env.kindOf x=some .cell \/ X.env.kindOf x=some .free:=ck.free _ hmem rfl
    obtain ⟨m,hn,hl⟩:=I2.loc
    have vis : Vis X.env.scope x:=by
     rcases hout with z | z
     ·exact .inr (.inl z)
     ·exact .inr (.inr z)
    obtain ⟨u,r,l⟩:=hl j x v q2 e2' vis
    refine ⟨u,r,.inr ⟨zov q3,?_⟩⟩
    rcases l with ⟨z,_⟩ | ⟨_,c,hcl,hcell⟩
    ·rcases hout with y | y <;> (rw [y] at z; cases z)
    ·obtain ⟨c',hc'⟩:=a2 x hmem
     have:=a1 x c' hc'
     rw [hcl] at this
     cases this
     exact ⟨c,hc',hcell.keeps old⟩
  ·obtain ⟨v,z⟩:=I2.cell x c (a1 x c e)
   exact ⟨v,z.keeps old⟩
  ·have hp : p ∈ [(D,zfv [] 0)]:=(List.mem_append.mp hp).elim (fun z=>nomatch (show p ∈ ([] : List (Addr × Obj)) from z)) id
   have hp : p=(D,zfv [] 0):=List.mem_singleton.mp hp
   subst hp
   refine ⟨hDo,Hn D (Nat.le_refl _),hDC,fun z=>?_,fun v z=>by cases z⟩
   exact absurd (stko D z) (Nat.lt_irrefl _)
  ·show (zf9 k js σ).length=Nc.length
   rw [ck.len]
   simp [zf9]
 have st1 : tn 0 h₁:=T.keep 0 _ _ st2 fun b _ o e=>old b o e
 have fpY : ∀ {H':Hp} {p:List (Addr × Obj)},(∀ q ∈ p,q.1=D) -> (∀ b ∈ fp,H' b=none) -> ∀ b ∈ fp,zft Y p H' b:=fun {H' p} hp hn b hb=>by
  refine ⟨hn b hb,(yk.exf b hb).1,yk.exfs b hb,.inl hb,fun x c e=>(yk.exf b hb).2 x c e,fun q hq=>?_⟩
  have hq : q ∈ p:=(List.mem_append.mp hq).elim (fun z=>nomatch (show q ∈ ([] : List (Addr × Obj)) from z)) id
  rw [hp q hq]
  exact Nat.ne_of_gt (fpo b hb)
 have loop : codeAny (model X.prog X.w) X.A (.compLoop (.ListComp elt [⟨tg,iter,ifs,0⟩] scope pos) 0 (.ref it) (.ref D) (compEnvC scope cl C X.env)) (RR (.ref D) C) { s2 with heap:=h₁,toks:=s2.toks + ([] : List (Str × Value)).length }:=by
  refine z7e (fun n s'=>∃ i ys us nn σ' H',Inv Y [(D,zfv us nn)] σ' H' s' /\ tn i s'.heap /\ (∀ b ∈ fp,H' b=none) /\ za1 ys us /\ W i n ys σ' H') ?_ m0
   ⟨0,[],[],0,zf9 k js σ,H2,I4,st1,fun b hb=>(f2 b hb).1,.nil,w0⟩
  rintro n s3 ⟨i,ys,us,nn,σ3,H3,I3,st3,fr3,rv,w3⟩
  have one : ∀ q ∈ [(D,zfv us nn)],q.1=D:=fun q hq=>by
   have : q=(D,zfv us nn):=by simpa using hq
   rw [this]
  rcases turn i n ys σ3 H3 w3 with ⟨stop,hz,qn⟩ | ⟨go,hz,N,hN,step⟩
  ·refine thn (T.done Y rfl rfl rfl hc i _ s3 σ3 H3 E00 I3 (fpY one fr3) st3 stop) fun r s4 ⟨hr,I5⟩=>?_
   subst hr
   show RR (.ref D) C (.ok .next) s4
   obtain ⟨pD,nD,_,_,_⟩:=I5.pin (D,zfv us nn) (by simp)
   have bs : Un (frs X.stack) fp H2 H3 s2.heap s4.heap:=I5.base
   have h2D : ∀ b o,H2 b=some o -> b ≠ D:=fun b o e z=>by rw [z,Hn D (Nat.le_refl _)] at e; cases e
   have I6 : Inv X pins σ (upd H3 D (.lst ys)) s4:=by
    refine I2.call' (ch:=fp) I5.os ⟨bs.keep,bs.slot,fun b o e n hx=>?_,bs.there,fun b xs e=>?_,fun b o u e=>?_,fun b ps e=>?_⟩ (fun b u e=>?_) I5.bare fun b hb=>?_
    ·rw [zby (Nat.ne_of_lt (below b o e))]
     exact bs.free b o e n hx
    ·rw [zby (h2D b _ e)]; exact bs.tups b xs e
    ·rw [zby (h2D b _ e)]; exact bs.frzs b o u e
    ·rw [zby (h2D b _ e)]; exact bs.tbls b ps e
    ·by_cases hb : b=D
     ·subst hb
      rw [zcd] at e
      cases e
      exact ⟨hz,us,nn,rv,pD⟩
     ·rw [zby hb] at e
      exact (I5.hok b u e).stay (fun c v _ q=>q) (fun c q=>by rw [zby (zdo q nD)]; exact q) fun c xs q=>by rw [zby (zdo q nD)]; exact q
    ·obtain ⟨_,f1,_,f3,f4,f5⟩:=f2 b hb
     exact ⟨f3,f1,f4,f5⟩
   obtain ⟨m,hn,_⟩:=I5.loc
   refine hRR D C s4 _ I6 ⟨m,hn⟩ (I2.fpOk (by omega) ?_) (qn D (Hn D (Nat.le_refl _)) nD)
   rw [zby hDC.symm]
   exact I5.free
  ·refine thn (T.item Y rfl rfl rfl hc i _ s3 σ3 H3 E00 I3 (fpY one fr3) st3 go) fun r s4 ⟨u,hr,h4⟩=>?_
   subst hr
   refine thn h4 fun _ s5 ⟨x,H5,I5,r5,y5,st5,fr5⟩=>?_
   have I5':=I5.pinned (fpY one fr5) (T.obj _ _ st5)
   refine thn (hg cl C fp s2 H2 _ s5 σ3 H5 x u _ I5' r5 (step x H5 y5)) fun _ s6 ⟨σ6,H6,I6,q6⟩=>?_
   refine thn (ht cl C fp s2 H2 _ s6 σ6 H6 _ I6 q6) fun b s7 ⟨H7,I7,q7⟩=>?_
   have kp : ∀ {H8:Hp} {s8:Shared},Inv Y ([(D,zfv us nn)] ++ zln fp s5.heap) σ6 H8 s8 -> tn (i + 1) s8.heap /\ (∀ b ∈ fp,H8 b=none):=fun {H8 s8} I8=>by
    refine ⟨T.keep _ _ _ st5 fun b hb o e=>(I8.pin (b,o) (List.mem_append_right _ (List.mem_append_right _ (zob hb e)))).1,fun b hb=>?_⟩
    obtain ⟨o,e,d⟩:=T.obj _ _ st5 b hb
    exact (I8.pin (b,o) (List.mem_append_right _ (List.mem_append_right _ (zob hb e)))).2.1
   cases b with
   | false =>
    rw [if_neg Bool.false_ne_true] at q7 ⊢
    obtain ⟨m',hm,w7⟩:=hN _ _ _ q7
    obtain ⟨st7,fr7⟩:=kp I7
    exact ⟨m',hm,i + 1,ys,us,nn,σ6,H7,I7.unpinned,st7,fr7,rv,w7⟩
   | true =>
    rw [if_pos rfl] at q7 ⊢
    refine thn (he cl C fp s2 H2 _ s7 σ6 H7 _ I7 q7) fun uy s8 ⟨y,H8,I8,r8,q8⟩=>?_
    obtain ⟨m',hm,w8⟩:=hN _ _ _ q8
    obtain ⟨st8,fr8⟩:=kp I8
    obtain ⟨pD,nD,pC,pF,_⟩:=I8.pin (D,zfv us nn) (by simp)
    have hl:=rv.length
    refine wpAny_list_append_plain (items:=us.toArray) ⟨nn,pD⟩ (fun h' hl' sb=>?_) (by simp only [List.size_toArray] <;> omega)
    obtain ⟨n',e'⟩:=hl'
    have I8n : Inv Y [] σ6 H8 s8:=I8.pins_of (fun _ z=>nomatch z)
    have I9 : Inv Y [] σ6 H8 { s8 with heap:=h' }:=I8n.turned (t':=s8.toks) (it:=D) (fun b o hb e=>(sb.2 b hb).trans e) nD pC (.inr (by show s2.heap.objs.size <= D; omega)) (fun x c e=>Nat.ne_of_lt (clo x c e)) (fun p hp=>nomatch hp)
    refine ⟨m',hm,i + 1,ys ++ [y],us ++ [uy],n',σ6,H8,I9.pins_of (fun p hp=>?_),?_,fr8,rv.append (.cons r8 .nil),w8⟩
    ·have hp : p=(D,zfv (us ++ [uy]) n'):=by simpa using hp
     subst hp
     refine ⟨?_,nD,pC,pF,fun v z=>by cases z⟩
     have e2 : h'.get? D=some { cls:=.type "list",data:=.seq (us.toArray.push uy) n' }:=e'
     show h'.get? D=some { cls:=.type "list",data:=.seq (us ++ [uy]).toArray n' }
     rw [e2]
     simp
    ·exact T.keep _ _ _ st8 fun b hb o e=>(sb.2 b (Nat.ne_of_lt (fpo b hb))).trans e
 exact codeAny_compStart_list loop (T.self X.A 0 _ _ _ st1 loop)
theorem z84 (k:Nat) (js:List Nat) (Nc:List Str) (hc:X.calm=true) (hi:PI X tg iter wi)
  (hg:∀ cl C ex s₂ H₂,PG (X.comp scope Nc cl C ex s₂ H₂) tg g) (ht:∀ cl C ex s₂ H₂,PTs (X.comp scope Nc cl C ex s₂ H₂) ifs tt) (he:∀ cl C ex s₂ H₂,PE (X.comp scope Nc cl C ex s₂ H₂) elt te)
  (ck:ziu scope X.env.scope.names X.N Nc k js=true:=by rfl) (hs:∀ x,foldedSetIterable iter X.env x=pure x:=by intro _; rfl) :
  PE X (.ListComp elt [⟨tg,iter,ifs,0⟩] scope pos) (zq8 k js wi g tt te):=by
 intro pins s σ H Q I h
 have ck:=zmd.of ck
 rw [eval_ListComp]
 obtain ⟨cl,hcl,a1,a2⟩:=zws (scope:=scope) (env:=X.env) fun x hx e=>I.ok.has x.1 (ck.free x hx e)
 refine wpAny_comprehension_free (use:=none) rfl hs hcl ck.kind ck.loc (thn (hi pins s σ H _ I h) fun v s1 h1=>thn h1 fun itv s2 h2=>?_)
 obtain ⟨it,fp,tn,J,H2,e,I2,T,st2,f2,hW⟩:=h2
 subst e
 refine zup (RR:=fun acc C=>compPost (model X.prog X.w) X.A X.xe none (EP X pins σ Q) acc C) hc ck hg ht he a1 a2 I2 T st2 f2 hW fun D C s' H' I' ⟨m,hn⟩ fC q=>?_
 obtain ⟨f0,f1,_,f3,f4,f5⟩:=fC
 exact ⟨m,hn,fun h' hs'=>⟨.ref D,H',I'.turned (t':=s'.toks) (fun b o hb e=>(hs'.2 b hb).trans e) f0 f1 f3 f4 f5,rfl,q⟩⟩
theorem zwp {i:Nat} {x:Str} {pos' spos:Pos} (k:Nat) (js:List Nat) (Nc:List Str) (hN:X.N.Nodup) (hi':X.N[i]?=some x) (hx:Loc X.env.scope x) (hc:X.calm=true) (hi:PI X tg iter wi)
  (hg:∀ cl C ex s₂ H₂,PG (X.comp scope Nc cl C ex s₂ H₂) tg g) (ht:∀ cl C ex s₂ H₂,PTs (X.comp scope Nc cl C ex s₂ H₂) ifs tt) (he:∀ cl C ex s₂ H₂,PE (X.comp scope Nc cl C ex s₂ H₂) elt te)
  (hsw:swapsWith (.ListComp elt [⟨tg,iter,ifs,0⟩] scope pos) (some (.Name x pos')) spos.line X.env=pure true:=by rfl)
  (ck:ziu scope X.env.scope.names X.N Nc k js=true:=by rfl) (hs:∀ x,foldedSetIterable iter X.env x=pure x:=by intro _; rfl)
  (hf:X.fn x=true \/ X.env.scope.names.lookup x=some .local:=by first | exact .inl rfl | exact .inr rfl | assumption) :
  PS X (.Assign [.Name x pos'] (.ListComp elt [⟨tg,iter,ifs,0⟩] scope pos) spos) (zic (zq8 k js wi g tt te) (zhi i)):=by
 intro pins s σ H D I h
 have ck:=zmd.of ck
 rw [exec_Assign_Name_used _ _ _ _ hsw]
 refine wpAny_bind (wpAny_standAt (wpAny_bind ?_))
 show wpAny _ X.A (do let _ <- comprehension (.ListComp elt [⟨tg,iter,ifs,0⟩] scope pos) scope X.env _ (newList []) false (eval iter X.env) (some (assign (.Name x pos') X.env))) _ _ s
 obtain ⟨cl,hcl,a1,a2⟩:=zws (scope:=scope) (env:=X.env) fun x hx e=>I.ok.has x.1 (ck.free x hx e)
 refine wpAny_bind (wpAny_mono (wpAny_comprehension_free (use:=some (assign (.Name x pos') X.env)) (Q:=fun _ s'=>SP X pins D .next s') rfl hs hcl ck.kind ck.loc
  (thn (hi pins s σ H _ I h) fun v s1 h1=>thn h1 fun itv s2 h2=>?_)) (fun _ s' hq=>wpAny_pure (wpAny_pure hq)) fun _ _ e=>e)
 obtain ⟨it,fp,tn,J,H2,e,I2,T,st2,f2,hW⟩:=h2
 subst e
 refine zup (RR:=fun acc C=>compPost (model X.prog X.w) X.A X.xe (some (assign (.Name x pos') X.env)) (fun _ s'=>SP X pins D .next s') acc C) hc ck hg ht he a1 a2 I2 T st2 f2 hW fun D' C s' H' I' ⟨m,hn⟩ fC q=>?_
 obtain ⟨f0,f1,f2',f3,f4,f5⟩:=fC
 show wpAny _ X.A (assign (.Name x pos') X.env (.ref D')) _ _ _
 refine wpAny_assign_Name (zuc (v:=.ref D') I' hN hi' hx rfl (fun s'' I'' ⟨a,sb,ha⟩=>?_) hf)
 have hCa : C ≠ a:=by
  rcases ha with z | z
  ·rw [z]; exact f1
  ·exact (f4 x a z).symm
 exact ⟨m,hn.sameBut sb hCa,fun h' hs'=>⟨_,H',I''.turned (t':=s''.toks) (fun b o hb e=>(hs'.2 b hb).trans e) f0 f1 f3 f4 f5,q⟩⟩
end
section
variable {K:PySem.W.Frag} {g:TG} {tt:TT} {te:TE} {σ0:St} {H1:Hp} {Q:VK}
end
section
variable {X:Cx}
theorem zub : OpR X (compareOp .Is) (fun x y H Q=>∃ b,y=.bl b /\ (x=.non \/ ∃ c,x=.bl c) /\ Q (.bl (decide (x=.bl b))) H):=by
 intro pins s σ H x y v u Q I rx ry h
 obtain ⟨b,rfl,hx,q⟩:=h
 cases ry
 rcases hx with rfl | ⟨c,rfl⟩
 ·cases rx
  exact wpAny_is_plain rfl (zce I q (by cases b <;> rfl))
 ·cases rx
  exact wpAny_is_plain rfl (zce I q (by cases b <;> cases c <;> rfl))
theorem ztq : OpR X (compareOp .IsNot) (fun x y H Q=>∃ b,y=.bl b /\ (x=.non \/ ∃ c,x=.bl c) /\ Q (.bl (!decide (x=.bl b))) H):=by
 intro pins s σ H x y v u Q I rx ry h
 obtain ⟨b,rfl,hx,q⟩:=h
 cases ry
 rcases hx with rfl | ⟨c,rfl⟩
 ·cases rx
  exact wpAny_isNot_plain rfl (zce I q (by cases b <;> rfl))
 ·cases rx
  exact wpAny_isNot_plain rfl (zce I q (by cases b <;> cases c <;> rfl))
theorem zx1 (hc:X.calm=true) : zfb X (.builtin "sum") (fun xs H Q=>∃ (p:Addr) (ns:List Int),xs=[.ref p] /\ SqL X.K H p (ns.map V.int) /\ Q (.int ns.sum) H):=by
 intro pins s σ H xs us Q I r h
 obtain ⟨p,ns,rfl,hq,q⟩:=h
 obtain ⟨u,rfl,rx⟩:=zin r
 cases rx
 obtain ⟨its,r',pl,hz⟩:=I.list hq
 have hi : IntsAre its ns:=zzg r'
 obtain ⟨xs,e⟩:=hi.allInts.items
 refine sum_intListG (I.ok.hd hc) (xs:=xs) (by rw [<- e]; exact pl.isList) fun h' tk t' hk=>?_
 have es : preSum (numAt xs) xs.size=ns.sum:=by
  rw [preSum_eq,List.take_of_length_le (by simp),<- nums_intItems,<- e]
  show (numsOf its).sum=ns.sum
  rw [hi.numsOf]
 rw [es]
 exact ⟨.int ns.sum,H,I.kept hk,⟨_,rfl⟩,q⟩
theorem z0a : zfb X (.builtin "isinstance") (fun xs H Q=>∃ x T t b,xs=[x,.ty T] /\ zew X.K H x t /\ PySem.W.kitOne X.K t (.type T)=some b /\ Q (.bl b) H):=by
 intro pins s σ H xs us Q I r h
 obtain ⟨x,T,t,b,rfl,ty,e,q⟩:=h
 obtain ⟨u,w',rfl,rx,rc⟩:=zw1 r
 cases (show w'=Value.type T from rc)
 exact zw7 I rx ty e fun tk=>⟨.bl b,H,I.tok tk,rfl,q⟩
end
theorem Paired.at' {α β : Type} {F:α -> β -> Prop} : ∀ {l₁:List α} {l₂:List β} {i:Nat} {a:α} {b:β},Paired F l₁ l₂ -> l₁[i]?=some a -> l₂[i]?=some b -> F a b
 | _,_,_,_,_,.nil,e,_=>by simp at e
 | _,_,0,_,_,.cons r _,e,e'=>by simp at e e'; subst e e'; exact r
 | _,_,i + 1,a,b,.cons _ t,e,e'=>Paired.at' (i:=i) t (by simpa using e) (by simpa using e')
theorem za1.at' {xs:List V} {us:List Value} {i:Nat} {u:Value} (r:za1 xs us) (e:us[i]?=some u) : ∃ x,xs[i]?=some x /\ za0 x u:=by
 have hl:=r.length
 have hi : i < xs.length:=by have:=(List.getElem?_eq_some_iff.mp e).1; omega
 refine ⟨xs[i],by simp [hi],?_⟩
 obtain ⟨u',e',r'⟩:=r.get (i:=i) (x:=xs[i]) (by simp [hi])
 rw [e] at e'; cases e'; exact r'
section
variable {X:Cx} {pins:List (Addr × Obj)} {σ:St} {H:Hp} {s:Shared}
end
theorem zkg {env:Env} {k':NameKind} (hk:k' ≠ .free) : ∀ {names:List (Str × NameKind)} {x:Str},names.lookup x=some k' ->
  (names.map fun (n,k)=>if (k == NameKind.free && env.scope.kind == .function && env.kindOf n == some .cell) then (n,NameKind.cell) else (n,k)).lookup x=some k'
 | [],_,h=>by simp at h
 | (n,k) :: r,x,h=>by
  have ih:=@zkg env k' hk r x
  rw [List.map_cons]
  show List.lookup x ((if (k == NameKind.free && env.scope.kind == .function && env.kindOf n == some .cell)=true then (n,NameKind.cell) else (n,k)) :: _)=_
  rw [List.lookup_cons] at h
  cases hx : x == n with
  | true =>
   rw [hx] at h
   have e : k=k':=Option.some.inj h
   subst e
   have hf : (k == NameKind.free)=false:=by simpa using hk
   rw [hf,Bool.false_and,Bool.false_and,if_neg Bool.false_ne_true,List.lookup_cons,hx]
  | false =>
   rw [hx] at h
   split
   ·rw [List.lookup_cons,hx]; exact ih h
   ·rw [List.lookup_cons,hx]; exact ih h
theorem z52 {env:Env} {scope:Scope} {x:Str} (h:Vis scope x) : Vis (relabel scope env) x:=by
 rcases h with h | h | h
 ·exact .inl (zkg (by decide) h)
 ·exact .inr (.inl (zkg (by decide) h))
 ·rcases zov (env:=env) h with z | z
  ·exact .inr (.inl z)
  ·exact .inr (.inr z)
section
variable {X:Cx} {scope:Scope} {Nc:List Str} {cl:List (Str × Addr)} {C:Addr} {ex:List Addr} {s₂:Shared} {H₂:Hp}
theorem pvc (i:Nat) {x:Str} {pos:Pos} (hN:Nc[i]?=some x:=by rfl) (hv:Vis scope x:=by first | exact Or.inl rfl | exact Or.inr (Or.inl rfl) | exact Or.inr (Or.inr rfl)) (hd:(x == ("__debug__" : Str))=false:=by decide)
  (hcd:(x == ("__classdict__" : Str))=false:=by decide) : PE (X.comp scope Nc cl C ex s₂ H₂) (.Name x pos) (zd9 i):=zgo hN (z52 hv) hd hcd
theorem pgc (i:Nat) {x:Str} {pos:Pos} (hN:Nc.Nodup:=by decide +kernel) (hi:Nc[i]?=some x:=by rfl) (hl:scope.names.lookup x=some .local:=by rfl) : PG (X.comp scope Nc cl C ex s₂ H₂) (.Name x pos) (zhi i) :=
 zue (X:=X.comp scope Nc cl C ex s₂ H₂) hN hi (.inl (zkg (by decide) hl)) (.inr (zkg (by decide) hl))
theorem glc {x:Str} (h:scope.names.lookup x=some .globalImplicit) : Gl (X.comp scope Nc cl C ex s₂ H₂) x:=zkg (env:=X.env) (by decide) h
end
theorem zc3 {H:Hp} {p:Addr} {o:HO} (h:H p=none) : za4 H (upd H p o):=fun b u e=>by rw [zby (zdo e h)]; exact e
theorem za4.tup {K:PySem.W.Frag} {H H':Hp} {a:Addr} {xs:List V} (e:za4 H H') (h:SqT K H a xs) : SqT K H' a xs:=by
 rcases h with (h | ⟨o,h⟩) | h
 ·exact .inl (.inl (e _ _ h))
 ·exact .inl (.inr ⟨o,e _ _ h⟩)
 ·exact .inr h
noncomputable def zhg (p:Addr) (H H':Hp) : Prop:=∀ b o,H b=some o -> b ≠ p -> H' b=some o
theorem zhg.refl (p:Addr) (H:Hp) : zhg p H H:=fun _ _ h _=>h
theorem zhg.trans {p:Addr} {H H1 H2:Hp} (a:zhg p H H1) (b:zhg p H1 H2) : zhg p H H2:=fun c o h n=>b c o (a c o h n) n
theorem zhg.seq {K:PySem.W.Frag} {p:Addr} {H H':Hp} {a:Addr} {xs:List V} (e:zhg p H H') (n:a ≠ p) (h:SqL K H a xs) : SqL K H' a xs:=by
 rcases h with (h | ⟨o,h⟩) | h
 ·exact .inl (.inl (e _ _ h n))
 ·exact .inl (.inr ⟨o,e _ _ h n⟩)
 ·exact .inr h
noncomputable def zl8 (K:PySem.W.Frag) (H:Hp) (L:Addr) (its:List (Int × Int)) : Prop :=
 ∃ zs : List (Addr × Int × Int),SqL K H L (zs.map fun z=>V.ref z.1) /\ (∀ z ∈ zs,SqT K H z.1 [.int z.2.1,.int z.2.2]) /\ its=zs.map (·.2) /\ zs.length <= 1000
theorem za4.items {K:PySem.W.Frag} {H H':Hp} {L:Addr} {its:List (Int × Int)} (e:za4 H H') (h:zl8 K H L its) : zl8 K H' L its:=by
 obtain ⟨zs,h1,h2,h3,h4⟩:=h
 exact ⟨zs,e.seq h1,fun z hz=>e.tup (h2 z hz),h3,h4⟩
noncomputable def zff (p:Option Bool -> Bool) (es:List (Option Bool)) (its:List (Int × Int)) : Int:=((its.filter fun z=>p (es.getD z.1.toNat none)).map (·.2)).sum
inductive Prt where
 | inn (t:Int) | out (t:Int) | least (k:Int) (its:List (Int × Int)) | most (k:Int) (its:List (Int × Int))
noncomputable def z8p (K:PySem.W.Frag) (H:Hp) (p:Addr) : Prt -> Prop
 | .inn t=>SqT K H p [.str "in",.int t]
 | .out t=>SqT K H p [.str "out",.int t]
 | .least k its=>∃ L,SqT K H p [.str "least",.int k,.ref L] /\ zl8 K H L its
 | .most k its=>∃ L,SqT K H p [.str "most",.int k,.ref L] /\ zl8 K H L its
noncomputable def bs (l:List Bool) : List (Option Bool):=l.map some
theorem zmr (l:List Bool) : (bs l).length=l.length:=by simp [bs]
noncomputable def Prt.holds (rs ws:List Bool) : Prt -> Bool
 | .inn t=>(rs.getD t.toNat false)
 | .out t=>!(ws.getD t.toNat false)
 | .least k its=>decide (k <= zff (· == some true) (bs rs) its)
 | .most k its=>decide (zff (· == some true) (bs ws) its <= k)
section
variable {X:Cx} {pins:List (Addr × Obj)} {σ:St} {H:Hp} {s:Shared} {h':Heap}
theorem Inv.turnedMany {t':Nat} {ch:List Addr} (I:Inv X pins σ H s) (k:∀ b o,b ∉ ch -> s.heap.get? b=some o -> h'.get? b=some o) (hf:∀ b ∈ ch,zft X pins H b) : Inv X pins σ H { s with heap:=h',toks:=t' }:=by
 refine I.step (g':=s.gens) (d':=s.drawn) (ch:=ch) (fun b hb=>?_) (fun b o _ _ hc e _=>k b o hc e) (fun b o _ _ hc e _=>⟨o.slots,k b o hc e⟩) (fun _ _ _ _ n=>n)
  (fun b o hc e=>⟨o,k b o hc e⟩) (fun _ _ e=>e) (fun _ _ _ e=>e) (fun b ps e=>⟨#[],by rw [e]; simp⟩) (fun m hm=>?_) (fun b u e=>?_) I.bare
 ·obtain ⟨_,f1,_,f3,f4,f5⟩:=hf b hb
  exact ⟨f3,f1,f4,f5⟩
 ·obtain ⟨o,es,ep,ho,r⟩:=hm
  exact ⟨o,es,ep,k _ o (fun z=>(hf _ z).2.1 rfl) ho,r⟩
 ·refine (I.hok b u e).stay (fun c v hc q=>k c v (fun z=>?_) q) (fun _ q=>q) fun _ _ q=>q
  have hn:=(hf c z).1
  rcases hc with y | y
  ·rw [y,e] at hn; cases hn
  ·rw [hn] at y; cases y
theorem Inv.track {p:Addr} {o:HO} (I:Inv X pins σ H s) (f:zft X pins H p) (ob:zcv X.prog X.w (upd H p o) s.heap p o) : Inv X pins σ (upd H p o) s:=by
 obtain ⟨f0,f1,f2,f3,f4,f5⟩:=f
 have ne : ∀ b u,H b=some u -> b ≠ p:=fun b u e=>zdo e f0
 have one : ∀ b : Addr,b ∉ [p] -> b ≠ p:=fun b hb z=>hb (by rw [z]; simp)
 refine I.step (g':=s.gens) (d':=s.drawn) (t':=s.toks) (h':=s.heap) (ch:=[p]) (fun b hb=>?_) (fun b o _ _ hc e _=>e) (fun b o _ _ hc e _=>⟨o.slots,e⟩) (fun b o hc e n=>?_)
  (fun b o hc e=>⟨o,e⟩) (fun b xs e=>?_) (fun b o u e=>?_) (fun b ps e=>⟨#[],?_⟩) (fun m hm=>hm) (fun b u e=>?_) I.bare
 ·have e : b=p:=by simpa using hb
  subst e
  exact ⟨f3,f1,f4,f5⟩
 ·rw [zby (one b hc)]; exact n
 ·rw [zby (ne b _ e)]; exact e
 ·rw [zby (ne b _ e)]; exact e
 ·rw [zby (ne b _ e),e]; simp
 ·by_cases hb : b=p
  ·subst hb
   rw [zcd] at e
   cases e
   exact ob
  ·rw [zby hb] at e
   exact (I.hok b u e).stay (fun c v _ q=>q) (fun c q=>by rw [zby (ne c _ q)]; exact q) fun c xs q=>by rw [zby (ne c _ q)]; exact q
end
section
variable {X:Cx} {elts:List Expr} {kx:Nat} {tpos:Pos}
end
noncomputable def zen (p:Int -> Bool) (its:List (Int × Int)) : Int:=((its.filter fun z=>p z.1).map (·.2)).sum
theorem zgw (p:Option Bool -> Bool) (es:List (Option Bool)) (its:List (Int × Int)) : zff p es its=zen (fun t=>p (es.getD t.toNat none)) its:=rfl
theorem zx9 (p q:Int -> Bool) (its:List (Int × Int)) : zen p (its.filter fun z=>q z.1)=zen (fun t=>p t && q t) its:=by
 unfold zen
 rw [List.filter_filter]
noncomputable def Prt.sure (es:List (Option Bool)) : Prt -> Bool
 | .inn t=>es.getD t.toNat none == some true
 | .out t=>es.getD t.toNat none == some false
 | .least k its=>decide (k <= zff (· == some true) es its)
 | .most k its=>decide (zff (fun e=>!(e == some false)) es its <= k)
noncomputable def Prt.lost (es:List (Option Bool)) (ws:List Bool) : Prt -> Bool
 | .inn t=>(es.getD t.toNat none == some false) || ws.getD t.toNat false
 | .out t=>es.getD t.toNat none == some true
 | .least k its=>decide (zen (fun t=>!(es.getD t.toNat none == some false) && !(ws.getD t.toNat false)) its < k)
 | .most k its=>decide (k < zff (· == some true) es its)
noncomputable def zvm (L:Addr) (its:List (Int × Int)) (vs:List V) : Prt -> Prop
 | .inn t=>vs=[.str "in",.int t]
 | .out t=>vs=[.str "out",.int t]
 | .least k i=>vs=[.str "least",.int k,.ref L] /\ i=its
 | .most k i=>vs=[.str "most",.int k,.ref L] /\ i=its
theorem zvm.at {K:PySem.W.Frag} {H:Hp} {L p:Addr} {its:List (Int × Int)} {vs:List V} {r:Prt} (t:zvm L its vs r) (hp:H p=some (.tup vs)) (hL:zl8 K H L its) : z8p K H p r:=by
 cases r with
 | inn t'=>cases t; exact SqT.of hp
 | out t'=>cases t; exact SqT.of hp
 | least k i=>obtain ⟨rfl,rfl⟩:=t; exact ⟨L,SqT.of hp,hL⟩
 | most k i=>obtain ⟨rfl,rfl⟩:=t; exact ⟨L,SqT.of hp,hL⟩
inductive D where
 | non
 | bl (b:Bool)
 | int (i:Int)
 | str (x:Str)
 | lst (xs:List D)
 | tup (xs:List D)
 | kl (xs:List D)
 | kt (xs:List D)
 | dic (ks:List Key) (xs:List D)
 | ins (c:Str) (ns:List Str) (xs:List D)
 deriving Inhabited
set_option genInjectivity false in
structure Gc where
 K : PySem.W.Frag
 cl : Str -> Addr
mutual
noncomputable def Rep (G:Gc) (H:Hp) : D -> V -> Prop
 | .non,v=>v=.non
 | .bl b,v=>v=.bl b
 | .int i,v=>v=.int i
 | .str x,v=>v=.str x
 | .lst ds,v=>∃ a vs,v=.ref a /\ H a=some (.lst vs) /\ zaq G H ds vs
 | .tup ds,v=>∃ a vs,v=.ref a /\ H a=some (.tup vs) /\ zaq G H ds vs
 | .kl ds,v=>∃ a vs,v=.ref a /\ SqL G.K H a vs /\ zaq G H ds vs
 | .kt ds,v=>∃ a vs,v=.ref a /\ SqT G.K H a vs /\ zaq G H ds vs
 | .dic ks ds,v=>∃ a vs,v=.ref a /\ H a=some (.dK (ks.zip vs)) /\ ks.length=vs.length /\ zaq G H ds vs
 | .ins c ns ds,v=>∃ a dx vs,v=.ref a /\ H a=some (.ins (G.cl c) dx (ns.zip vs)) /\ ns.length=vs.length /\ zaq G H ds vs
noncomputable def zaq (G:Gc) (H:Hp) : List D -> List V -> Prop
 | [],vs=>vs=[]
 | d :: ds,vs=>∃ v r,vs=v :: r /\ Rep G H d v /\ zaq G H ds r
end
section
variable {G:Gc} {H H' Hf Hf':Hp}
mutual
theorem Rep.upM (s:za4 H H') : ∀ (d:D) (v:V),Rep G H d v -> Rep G H' d v
 | .non,_,h=>h
 | .bl _,_,h=>h
 | .int _,_,h=>h
 | .str _,_,h=>h
 | .lst ds,_,⟨a,vs,e,q,r⟩=>⟨a,vs,e,s _ _ q,zaq.upM s ds vs r⟩
 | .tup ds,_,⟨a,vs,e,q,r⟩=>⟨a,vs,e,s _ _ q,zaq.upM s ds vs r⟩
 | .kl ds,_,⟨a,vs,e,q,r⟩=>⟨a,vs,e,s.seq q,zaq.upM s ds vs r⟩
 | .kt ds,_,⟨a,vs,e,q,r⟩=>⟨a,vs,e,s.tup q,zaq.upM s ds vs r⟩
 | .dic _ ds,_,⟨a,vs,e,q,l,r⟩=>⟨a,vs,e,s _ _ q,l,zaq.upM s ds vs r⟩
 | .ins _ _ ds,_,⟨a,dx,vs,e,q,l,r⟩=>⟨a,dx,vs,e,s _ _ q,l,zaq.upM s ds vs r⟩
theorem zaq.upM (s:za4 H H') : ∀ (ds:List D) (vs:List V),zaq G H ds vs -> zaq G H' ds vs
 | [],_,h=>h
 | d :: ds,_,⟨v,r,e,h1,h2⟩=>⟨v,r,e,Rep.upM s d v h1,zaq.upM s ds r h2⟩
end
theorem Rep.up {d:D} {v:V} (r:Rep G H d v) (s:za4 H H') : Rep G H' d v:=Rep.upM s d v r
theorem zaq.up {ds:List D} {vs:List V} (r:zaq G H ds vs) (s:za4 H H') : zaq G H' ds vs:=zaq.upM s ds vs r
theorem zaq.nil : zaq G H [] []:=rfl
theorem zaq.cons {d:D} {ds:List D} {v:V} {vs:List V} (h:Rep G H d v) (t:zaq G H ds vs) : zaq G H (d :: ds) (v :: vs):=⟨v,vs,rfl,h,t⟩
theorem zaq.length : ∀ {ds:List D} {vs:List V},zaq G H ds vs -> ds.length=vs.length
 | [],_,h=>by cases (show _=[] from h); rfl
 | d :: ds,_,⟨v,r,e,_,h⟩=>by subst e; simp [zaq.length h]
theorem zaq.append : ∀ {ds es:List D} {vs us:List V},zaq G H ds vs -> zaq G H es us -> zaq G H (ds ++ es) (vs ++ us)
 | [],_,_,_,h,t=>by cases (show _=[] from h); exact t
 | d :: ds,_,_,_,⟨v,r,e,h1,h2⟩,t=>by subst e; exact ⟨v,r ++ _,rfl,h1,zaq.append h2 t⟩
theorem zaq.get : ∀ {ds:List D} {vs:List V} {i:Nat} {d:D},zaq G H ds vs -> ds[i]?=some d -> ∃ v,vs[i]?=some v /\ Rep G H d v
 | [],_,_,_,_,e=>by simp at e
 | d :: ds,_,0,_,⟨v,r,e,h1,_⟩,e'=>by subst e; simp at e'; subst e'; exact ⟨v,rfl,h1⟩
 | d :: ds,_,i + 1,d',⟨v,r,e,_,h2⟩,e'=>by
  subst e
  obtain ⟨u,a,b⟩:=zaq.get (i:=i) (d:=d') h2 (by simpa using e')
  exact ⟨u,by simpa using a,b⟩
theorem zaq.get' : ∀ {ds:List D} {vs:List V} {i:Nat} {v:V},zaq G H ds vs -> vs[i]?=some v -> ∃ d,ds[i]?=some d /\ Rep G H d v:=fun {ds vs i v} h e=>by
 have hl:=h.length
 have hi : i < ds.length:=by have:=(List.getElem?_eq_some_iff.mp e).1; omega
 obtain ⟨u,a,b⟩:=h.get (i:=i) (d:=ds[i]) (by simp [hi])
 rw [e] at a; cases a
 exact ⟨ds[i],by simp [hi],b⟩
theorem zaq.ints : ∀ (ns:List Int),zaq G H (ns.map D.int) (ns.map V.int)
 | []=>rfl
 | n :: ns=>⟨_,_,rfl,rfl,zaq.ints ns⟩
theorem zaq.take : ∀ {ds:List D} {vs:List V} (n:Nat),zaq G H ds vs -> zaq G H (ds.take n) (vs.take n)
 | _,_,0,_=>rfl
 | [],_,n + 1,h=>by cases (show _=[] from h); rfl
 | d :: ds,_,n + 1,⟨v,r,e,h1,h2⟩=>by subst e; exact ⟨v,r.take n,rfl,h1,zaq.take n h2⟩
theorem zaq.drop : ∀ {ds:List D} {vs:List V} (n:Nat),zaq G H ds vs -> zaq G H (ds.drop n) (vs.drop n)
 | _,_,0,h=>h
 | [],_,n + 1,h=>by cases (show _=[] from h); rfl
 | d :: ds,_,n + 1,⟨v,r,e,h1,h2⟩=>by subst e; exact zaq.drop n h2
theorem zaq.set : ∀ {ds:List D} {vs:List V} (i:Nat) {d:D} {v:V},zaq G H ds vs -> Rep G H d v -> zaq G H (ds.set i d) (vs.set i v)
 | [],_,_,_,_,h,_=>by cases (show _=[] from h); exact .nil
 | e :: ds,_,0,_,_,⟨v,r,e',_,h2⟩,q=>by subst e'; exact ⟨_,r,rfl,q,h2⟩
 | e :: ds,_,i + 1,_,_,⟨v,r,e',h1,h2⟩,q=>by subst e'; exact ⟨v,r.set i _,rfl,h1,zaq.set i h2 q⟩
end
noncomputable def zqm : HO -> Bool
 | .tup _=>true
 | _=>false
structure Ext (Hf H Hf' H':Hp) : Prop where
 f : za4 Hf Hf'
 h : za4 H H'
 s : za4 Hf' H'
 n : ∀ l o,H l=some o -> zqm o=false -> Hf' l=Hf l
section
variable {Hf H Hf1 H1 Hf2 H2:Hp} {p:Addr} {o:HO}
theorem Ext.refl (s:za4 Hf H) : Ext Hf H Hf H:=⟨za4.refl _,za4.refl _,s,fun _ _ _ _=>rfl⟩
theorem Ext.trans (a:Ext Hf H Hf1 H1) (b:Ext Hf1 H1 Hf2 H2) : Ext Hf H Hf2 H2:=⟨a.f.trans b.f,a.h.trans b.h,b.s,fun l o e t=>(b.n l o (a.h l o e) t).trans (a.n l o e t)⟩
theorem Ext.new (s:za4 Hf H) (h:H p=none) : Ext Hf H (upd Hf p o) (upd H p o) :=
 ⟨zc3 (s.free h),zc3 h,fun b u e=>by
  by_cases hb : b=p
  ·subst hb; rw [zcd] at e ⊢; exact e
  ·rw [zby hb] at e ⊢; exact s b u e,fun l u e _=>by rw [zby (zdo e h)]⟩
theorem Ext.tmp (s:za4 Hf H) (h:H p=none) : Ext Hf H Hf (upd H p o):=⟨za4.refl _,zc3 h,s.trans (zc3 h),fun _ _ _ _=>rfl⟩
theorem Ext.grow (s:za4 Hf H) (g:za4 H H1) : Ext Hf H Hf H1:=⟨za4.refl _,g,s.trans g,fun _ _ _ _=>rfl⟩
theorem Ext.fix (a:Ext Hf H Hf1 H1) (hn:H p=none) (hf:Hf1 p=none) (hp:H1 p=some o) : Ext Hf H (upd Hf1 p o) H1 :=
 ⟨a.f.trans (zc3 hf),a.h,fun b u e=>by
  by_cases hb : b=p
  ·subst hb; rw [zcd] at e; rw [hp]; exact e
  ·rw [zby hb] at e; exact a.s b u e,fun l u e t=>by rw [zby (zdo e hn)]; exact a.n l u e t⟩
end
inductive Sl where
 | no
 | im (d:D)
 | own (xs:List D)
 | ownd (ks:List Key) (xs:List D)
 | obj (c:Str) (ns:List Str) (xs:List D)
 | pin (l:Addr) (xs:List D)
noncomputable def Sl.isOwn : Sl -> Bool
 | .own _=>true
 | .ownd _ _=>true
 | .obj _ _ _=>true
 | .pin _ _=>true
 | _=>false
noncomputable def zev (G:Gc) (Hf H:Hp) (l:Addr) : Sl -> Prop
 | .own ds=>∃ vs,H l=some (.lst vs) /\ zaq G Hf ds vs
 | .ownd ks ds=>∃ vs,H l=some (.dK (ks.zip vs)) /\ ks.length=vs.length /\ zaq G Hf ds vs
 | .obj c ns ds=>∃ dx vs,H l=some (.ins (G.cl c) dx (ns.zip vs)) /\ ns.length=vs.length /\ zaq G Hf ds vs
 | .pin l0 ds=>l=l0 /\ ∃ vs,H l=some (.lst vs) /\ zaq G Hf ds vs
 | _=>False
theorem zev.there {G:Gc} {Hf H:Hp} {l:Addr} {s:Sl} (h:zev G Hf H l s) : ∃ o,H l=some o:=by
 cases s with
 | own ds=>obtain ⟨vs,h,_⟩:=h; exact ⟨_,h⟩
 | ownd ks ds=>obtain ⟨vs,h,_⟩:=h; exact ⟨_,h⟩
 | obj c ns ds=>obtain ⟨dx,vs,h,_⟩:=h; exact ⟨_,h⟩
 | pin l0 ds=>obtain ⟨_,vs,h,_⟩:=h; exact ⟨_,h⟩
 | _=>exact h.elim
theorem zev.there2 {G:Gc} {Hf H:Hp} {l:Addr} {s:Sl} (h:zev G Hf H l s) : ∃ o,H l=some o /\ zqm o=false:=by
 cases s with
 | own ds=>obtain ⟨vs,h,_⟩:=h; exact ⟨_,h,rfl⟩
 | ownd ks ds=>obtain ⟨vs,h,_⟩:=h; exact ⟨_,h,rfl⟩
 | obj c ns ds=>obtain ⟨dx,vs,h,_⟩:=h; exact ⟨_,h,rfl⟩
 | pin l0 ds=>obtain ⟨_,vs,h,_⟩:=h; exact ⟨_,h,rfl⟩
 | _=>exact h.elim
theorem zev.up {G:Gc} {Hf H Hf' H':Hp} {l:Addr} {s:Sl} (h:zev G Hf H l s) (f:za4 Hf Hf') (e:∀ o,H l=some o -> H' l=some o) : zev G Hf' H' l s:=by
 cases s with
 | own ds=>obtain ⟨vs,h,r⟩:=h; exact ⟨vs,e _ h,r.up f⟩
 | ownd ks ds=>obtain ⟨vs,h,z,r⟩:=h; exact ⟨vs,e _ h,z,r.up f⟩
 | obj c ns ds=>obtain ⟨dx,vs,h,z,r⟩:=h; exact ⟨dx,vs,e _ h,z,r.up f⟩
 | pin l0 ds=>obtain ⟨q,vs,h,r⟩:=h; exact ⟨q,vs,e _ h,r.up f⟩
 | _=>exact h.elim
noncomputable def zj4 (G:Gc) (H0 Hf H:Hp) (v:Option V) : Sl -> Prop
 | .no=>True
 | .im d=>∃ u,v=some u /\ Rep G Hf d u
 | s=>∃ l,v=some (.ref l) /\ H0 l=none /\ Hf l=none /\ zev G Hf H l s
theorem zj4.own {G:Gc} {H0 Hf H:Hp} {v:Option V} {s:Sl} (hs:s.isOwn=true) (h:zj4 G H0 Hf H v s) : ∃ l,v=some (.ref l) /\ H0 l=none /\ Hf l=none /\ zev G Hf H l s:=by
 cases s <;> first | exact h | cases hs
theorem zj4.ofOwn {G:Gc} {H0 Hf H:Hp} {v:Option V} {s:Sl} (hs:s.isOwn=true) (h:∃ l,v=some (.ref l) /\ H0 l=none /\ Hf l=none /\ zev G Hf H l s) : zj4 G H0 Hf H v s:=by
 cases s <;> first | exact h | cases hs
structure zaz (G:Gc) (Hf0 H0 Hf H:Hp) (σ:St) (ρ:List Sl) : Prop where
 ext : Ext Hf0 H0 Hf H
 len : σ.length=ρ.length
 at' : ∀ (i:Nat) (v:Option V) (s:Sl),σ[i]?=some v -> ρ[i]?=some s -> zj4 G H0 Hf H v s
 inj : ∀ (i j:Nat) (s t:Sl) (l:Addr),ρ[i]?=some s -> ρ[j]?=some t -> s.isOwn=true -> t.isOwn=true -> σ[i]?=some (some (.ref l)) -> σ[j]?=some (some (.ref l)) -> i=j
section
variable {G:Gc} {Hf0 H0 Hf H Hf' H':Hp} {σ:St} {ρ:List Sl}
theorem zaz.sub (h:zaz G Hf0 H0 Hf H σ ρ) : za4 Hf H:=h.ext.s
theorem zaz.step (h:zaz G Hf0 H0 Hf H σ ρ) (e:Ext Hf H Hf' H') : zaz G Hf0 H0 Hf' H' σ ρ:=by
 refine ⟨h.ext.trans e,h.len,fun i v s a b=>?_,h.inj⟩
 have q:=h.at' i v s a b
 cases hs : s.isOwn with
 | true =>
  obtain ⟨l,e1,e2,e3,e4⟩:=q.own hs
  obtain ⟨o,ho,ht⟩:=e4.there2
  exact .ofOwn hs ⟨l,e1,e2,by rw [e.n l o ho ht]; exact e3,e4.up e.f fun o ho=>e.h _ _ ho⟩
 | false =>
  cases s with
  | no=>trivial
  | im d=>obtain ⟨u,e1,r⟩:=q; exact ⟨u,e1,r.up e.f⟩
  | _=>cases hs
theorem zaz.slot {i:Nat} {s:Sl} (h:zaz G Hf0 H0 Hf H σ ρ) (e:ρ[i]?=some s) : ∃ v,σ[i]?=some v /\ zj4 G H0 Hf H v s:=by
 have hi : i < σ.length:=by rw [h.len]; exact (List.getElem?_eq_some_iff.mp e).1
 exact ⟨σ[i],by simp [hi],h.at' i _ s (by simp [hi]) e⟩
theorem zaz.imm {i:Nat} {d:D} (h:zaz G Hf0 H0 Hf H σ ρ) (e:ρ[i]?=some (.im d)) : ∃ v,σ[i]?=some (some v) /\ Rep G Hf d v:=by
 obtain ⟨v,e1,u,e2,r⟩:=h.slot e
 subst e2
 exact ⟨u,e1,r⟩
theorem zaz.ownAt {i:Nat} {s:Sl} (hs:s.isOwn=true) (h:zaz G Hf0 H0 Hf H σ ρ) (e:ρ[i]?=some s) : ∃ l,σ[i]?=some (some (.ref l)) /\ H0 l=none /\ Hf l=none /\ zev G Hf H l s:=by
 obtain ⟨v,e1,q⟩:=h.slot e
 obtain ⟨l,e2,q2⟩:=q.own hs
 rw [e2] at e1
 exact ⟨l,e1,q2⟩
theorem zc6 {α : Type} {l:List α} {i j:Nat} {x y:α} (h:(l.set i x)[j]?=some y) : (j=i /\ y=x /\ i < l.length) \/ (j ≠ i /\ l[j]?=some y):=by
 by_cases hj : j=i
 ·subst hj
  left
  have hi : j < l.length:=by have:=(List.getElem?_eq_some_iff.mp h).1; simpa using this
  rw [List.getElem?_set_self hi] at h
  exact ⟨rfl,(Option.some.inj h).symm,hi⟩
 ·right
  rw [List.getElem?_set_ne (Ne.symm hj)] at h
  exact ⟨hj,h⟩
theorem zaz.setIm {i:Nat} {d:D} {v:V} (h:zaz G Hf0 H0 Hf H σ ρ) (r:Rep G Hf d v) : zaz G Hf0 H0 Hf H (σ.set i (some v)) (ρ.set i (.im d)):=by
 refine ⟨h.ext,by simpa using h.len,fun j u s a b=>?_,fun j k s t l a b hs ht c d'=>?_⟩
 ·rcases zc6 b with ⟨e,e',_⟩ | ⟨e,b⟩
  ·subst e e'
   rcases zc6 a with ⟨_,e',_⟩ | ⟨e,_⟩
   ·subst e'; exact ⟨v,rfl,r⟩
   ·exact absurd rfl e
  ·rcases zc6 a with ⟨e',_⟩ | ⟨_,a⟩
   ·exact absurd e' e
   ·exact h.at' j u s a b
 ·rcases zc6 a with ⟨e,e',_⟩ | ⟨e,a⟩
  ·subst e'; cases hs
  ·rcases zc6 b with ⟨e2,e',_⟩ | ⟨e2,b⟩
   ·subst e'; cases ht
   ·rcases zc6 c with ⟨e',_⟩ | ⟨_,c⟩
    ·exact absurd e' e
    ·rcases zc6 d' with ⟨e',_⟩ | ⟨_,d'⟩
     ·exact absurd e' e2
     ·exact h.inj j k s t l a b hs ht c d'
theorem zaz.setOwn {i:Nat} {l:Addr} {s:Sl} (hs:s.isOwn=true) (h:zaz G Hf0 H0 Hf H σ ρ) (e:Ext Hf H Hf' H') (hn:H l=none) (hf:Hf' l=none) (ho:zev G Hf' H' l s) :
  zaz G Hf0 H0 Hf' H' (σ.set i (some (.ref l))) (ρ.set i s):=by
 have h':=h.step e
 have no : ∀ (j:Nat) (t:Sl),ρ[j]?=some t -> t.isOwn=true -> σ[j]?=some (some (.ref l)) -> False:=fun j t b ht c=>by
  obtain ⟨l',e1,_,_,q⟩:=h.ownAt ht b
  rw [c] at e1; cases e1
  obtain ⟨o,ho⟩:=q.there
  rw [hn] at ho; cases ho
 refine ⟨h'.ext,by simpa using h.len,fun j u t a b=>?_,fun j k t t' l' a b ht ht' c d'=>?_⟩
 ·rcases zc6 b with ⟨e,e',_⟩ | ⟨e,b⟩
  ·subst e e'
   rcases zc6 a with ⟨_,e',_⟩ | ⟨e,_⟩
   ·subst e'; exact .ofOwn hs ⟨l,rfl,h.ext.h.free hn,hf,ho⟩
   ·exact absurd rfl e
  ·rcases zc6 a with ⟨e',_⟩ | ⟨_,a⟩
   ·exact absurd e' e
   ·exact h'.at' j u t a b
 ·rcases zc6 a with ⟨e1,e1',_⟩ | ⟨e1,a⟩
  ·rcases zc6 b with ⟨e2,e2',_⟩ | ⟨e2,b⟩
   ·rw [e1,e2]
   ·rcases zc6 c with ⟨_,e',_⟩ | ⟨e',_⟩
    ·cases e'
     rcases zc6 d' with ⟨e',_⟩ | ⟨_,d'⟩
     ·exact absurd e' e2
     ·exact (no k t' b ht' d').elim
    ·exact absurd e1 e'
  ·rcases zc6 c with ⟨e',_⟩ | ⟨_,c⟩
   ·exact absurd e' e1
   ·rcases zc6 b with ⟨e2,e2',_⟩ | ⟨e2,b⟩
    ·rcases zc6 d' with ⟨_,e',_⟩ | ⟨e',_⟩
     ·cases e'
      exact (no j t a ht c).elim
     ·exact absurd e2 e'
    ·rcases zc6 d' with ⟨e',_⟩ | ⟨_,d'⟩
     ·exact absurd e' e2
     ·exact h.inj j k t t' l' a b ht ht' c d'
theorem zaz.mutd {i:Nat} {l:Addr} {s s':Sl} {o:HO} (hs:s.isOwn=true) (hs':s'.isOwn=true) (h:zaz G Hf0 H0 Hf H σ ρ) (e:ρ[i]?=some s) (el:σ[i]?=some (some (.ref l))) (ho:zev G Hf (upd H l o) l s') :
  zaz G Hf0 H0 Hf (upd H l o) σ (ρ.set i s'):=by
 obtain ⟨l',e1,h0,hf,q⟩:=h.ownAt hs e
 rw [el] at e1; cases e1
 obtain ⟨oo,hoo⟩:=q.there
 have oth : ∀ b u,b ≠ l -> H b=some u -> upd H l o b=some u:=fun b u n e=>by rw [zby n]; exact e
 refine ⟨⟨h.ext.f,fun b u e=>?_,fun b u e=>?_,h.ext.n⟩,by simpa using h.len,fun j u t a b=>?_,fun j k t t' l' a b ht ht' c d'=>?_⟩
 ·exact oth b u (zdo e h0) (h.ext.h b u e)
 ·exact oth b u (zdo e hf) (h.ext.s b u e)
 ·rcases zc6 b with ⟨e,e',_⟩ | ⟨en,b⟩
  ·subst e e'
   rw [el] at a; cases a
   exact .ofOwn hs' ⟨l,rfl,h0,hf,ho⟩
  ·have q:=h.at' j u t a b
   cases ht : t.isOwn with
   | false =>
    cases t with
    | no=>trivial
    | im d=>exact q
    | _=>cases ht
   | true =>
    obtain ⟨l2,e2,e3,e4,q2⟩:=q.own ht
    subst e2
    refine .ofOwn ht ⟨l2,rfl,e3,e4,q2.up (za4.refl _) fun o' ho'=>oth _ _ (fun z=>?_) ho'⟩
    subst z
    exact en (h.inj j i t s l2 b e ht hs a el)
 ·have old : ∀ (j:Nat) (t:Sl),(ρ.set i s')[j]?=some t -> t.isOwn=true -> ∃ t0,ρ[j]?=some t0 /\ t0.isOwn=true:=fun j t a ht=>by
   rcases zc6 a with ⟨e',_,_⟩ | ⟨_,a⟩
   ·subst e'; exact ⟨s,e,hs⟩
   ·exact ⟨t,a,ht⟩
  obtain ⟨t0,a0,ht0⟩:=old j t a ht
  obtain ⟨t1,b0,ht1⟩:=old k t' b ht'
  exact h.inj j k t0 t1 l' a0 b0 ht0 ht1 c d'
theorem zaz.fixd {i:Nat} {l:Addr} {s:Sl} {d:D} {o:HO} (hs:s.isOwn=true) (h:zaz G Hf0 H0 Hf H σ ρ) (e:ρ[i]?=some s) (el:σ[i]?=some (some (.ref l))) (ho:H l=some o) (hr:Rep G (upd Hf l o) d (.ref l)) :
  zaz G Hf0 H0 (upd Hf l o) H σ (ρ.set i (.im d)):=by
 obtain ⟨l',e1,h0,hf,q⟩:=h.ownAt hs e
 rw [el] at e1; cases e1
 refine ⟨h.ext.fix h0 hf ho,by simpa using h.len,fun j u t a b=>?_,fun j k t t' l' a b ht ht' c d'=>?_⟩
 ·rcases zc6 b with ⟨e,e',_⟩ | ⟨en,b⟩
  ·subst e e'
   rw [el] at a; cases a
   exact ⟨_,rfl,hr⟩
  ·have q:=h.at' j u t a b
   cases ht : t.isOwn with
   | false =>
    cases t with
    | no=>trivial
    | im d=>obtain ⟨u',e1,r⟩:=q; exact ⟨u',e1,r.up (zc3 hf)⟩
    | _=>cases ht
   | true =>
    obtain ⟨l2,e2,e3,e4,q2⟩:=q.own ht
    subst e2
    refine .ofOwn ht ⟨l2,rfl,e3,?_,q2.up (zc3 hf) fun o' ho'=>ho'⟩
    rw [zby (fun z=>?_)]
    ·exact e4
    ·subst z
     exact en (h.inj j i t s l2 b e ht hs a el)
 ·have old : ∀ (j:Nat) (t:Sl),(ρ.set i (.im d))[j]?=some t -> t.isOwn=true -> ρ[j]?=some t:=fun j t a ht=>by
   rcases zc6 a with ⟨_,e',_⟩ | ⟨_,a⟩
   ·subst e'; cases ht
   ·exact a
  exact h.inj j k t t' l' (old j t a ht) (old k t' b ht') ht ht' c d'
end
section
variable {X:Cx} {e:Expr}
theorem PE.imp {t t':TE} (h:PE X e t) (i:∀ σ H Q,t' σ H Q -> t σ H Q) : PE X e t':=fun pins s σ H Q I q=>h pins s σ H Q I (i σ H Q q)
theorem PT.imp {t t':TT} (h:PT X e t) (i:∀ σ H Q,t' σ H Q -> t σ H Q) : PT X e t':=fun pins s σ H Q I q=>h pins s σ H Q I (i σ H Q q)
theorem PW.imp {t t':TT} (h:PW X e t) (i:∀ σ H Q,t' σ H Q -> t σ H Q) : PW X e t':=fun wh pins s σ H Q I q=>h wh pins s σ H Q I (i σ H Q q)
theorem PA.imp {es:List Expr} {t t':TA} (h:PA X es t) (i:∀ σ H Q,t' σ H Q -> t σ H Q) : PA X es t':=fun pos pins s σ H Q I q=>h pos pins s σ H Q I (i σ H Q q)
theorem PS.imp {st:Stmt} {t t':TS} (h:PS X st t) (i:∀ E σ H,t' E σ H -> t E σ H) : PS X st t':=fun pins s σ H E I q=>h pins s σ H E I (i E σ H q)
theorem PSs.imp {st:List Stmt} {t t':TS} (h:PSs X st t) (i:∀ E σ H,t' E σ H -> t E σ H) : PSs X st t':=fun pins s σ H E I q=>h pins s σ H E I (i E σ H q)
theorem PG.imp {t t':TG} (h:PG X e t) (i:∀ v σ H Q,t' v σ H Q -> t v σ H Q) : PG X e t':=fun pins s σ H v u Q I r q=>h pins s σ H v u Q I r (i v σ H Q q)
theorem PGs.imp {es:List Expr} {t t':TGs} (h:PGs X es t) (i:∀ v σ H Q,t' v σ H Q -> t v σ H Q) : PGs X es t':=fun pins s σ H v u Q I r q=>h pins s σ H v u Q I r (i v σ H Q q)
theorem PI.imp {tg:Expr} {t t':TI} (h:PI X tg e t) (i:∀ σ H R,t' σ H R -> t σ H R) : PI X tg e t':=fun pins s σ H R I q=>h pins s σ H R I (i σ H R q)
theorem PTs.imp {ifs:List Expr} {t t':TT} (h:PTs X ifs t) (i:∀ σ H Q,t' σ H Q -> t σ H Q) : PTs X ifs t':=fun pins s σ H Q I q=>h pins s σ H Q I (i σ H Q q)
theorem OpR.imp {f:Value -> Value -> Sem Value} {r r':R2} (h:OpR X f r) (i:∀ x y H Q,r' x y H Q -> r x y H Q) : OpR X f r':=fun pins s σ H x y v u Q I rx ry q=>h pins s σ H x y v u Q I rx ry (i x y H Q q)
theorem zfb.imp {f:Value} {r r':List V -> Hp -> VK -> Prop} (h:zfb X f r) (i:∀ xs H Q,r' xs H Q -> r xs H Q) : zfb X f r':=fun pins s σ H xs us Q I rx q=>h pins s σ H xs us Q I rx (i xs H Q q)
end
noncomputable abbrev Gx (c:Str -> Addr) (X:Cx) : Gc:=⟨X.K,c⟩
noncomputable def tD (G:Gc) (f:List Sl -> Option D) : TE:=fun σ H Q=>∃ Hf0 H0 Hf ρ d,zaz G Hf0 H0 Hf H σ ρ /\ f ρ=some d /\ ∀ v Hf' H',Ext Hf H Hf' H' -> Rep G Hf' d v -> Q v H'
noncomputable def tDB (G:Gc) (f:List Sl -> Option D) : TE:=fun σ H Q=>∃ Hf0 H0 Hf ρ d,zaz G Hf0 H0 Hf H σ ρ /\ f ρ=some d /\ ∀ v Hf' H',Ext Hf H Hf' H' -> Rep G H' d v -> Q v H'
noncomputable def tDC (G:Gc) (f:List Sl -> Option (List D)) : TE:=fun σ H Q=>∃ Hf0 H0 Hf ρ ds,zaz G Hf0 H0 Hf H σ ρ /\ f ρ=some ds /\ ∀ a vs Hf' H',Ext Hf H Hf' H' -> (SqL G.K H' a vs \/ SqT G.K H' a vs) -> zaq G Hf' ds vs -> Q (.ref a) H'
noncomputable def tDO (G:Gc) (f:List Sl -> Option (List D)) : TE:=fun σ H Q=>∃ Hf0 H0 Hf ρ ds,zaz G Hf0 H0 Hf H σ ρ /\ f ρ=some ds /\
 ∀ l vs Hf' H',Ext Hf H Hf' H' -> H l=none -> Hf' l=none -> H' l=some (.lst vs) -> zaq G Hf' ds vs -> Q (.ref l) H'
noncomputable def tDA (G:Gc) (f:List Sl -> Option (List D)) : TA:=fun σ H Q=>∃ Hf0 H0 Hf ρ ds,zaz G Hf0 H0 Hf H σ ρ /\ f ρ=some ds /\ ∀ vs Hf' H',Ext Hf H Hf' H' -> zaq G Hf' ds vs -> Q vs H'
noncomputable def zy2 (G:Gc) (f:List Sl -> Option (List D)) : TA:=fun σ H Q=>∃ Hf0 H0 Hf ρ ds,zaz G Hf0 H0 Hf H σ ρ /\ f ρ=some ds /\ ∀ vs Hf' H',Ext Hf H Hf' H' -> zaq G H' ds vs -> Q vs H'
noncomputable def tDT (G:Gc) (f:List Sl -> Option Bool) : TT:=fun σ H Q=>∃ Hf0 H0 Hf ρ b,zaz G Hf0 H0 Hf H σ ρ /\ f ρ=some b /\ ∀ Hf' H',Ext Hf H Hf' H' -> Q b H'
noncomputable def DE (c:Str -> Addr) (X:Cx) (e:Expr) (f:List Sl -> Option D) : Prop:=PE X e (tD (Gx c X) f)
noncomputable def DB (c:Str -> Addr) (X:Cx) (e:Expr) (f:List Sl -> Option D) : Prop:=PE X e (tDB (Gx c X) f)
noncomputable def DC (c:Str -> Addr) (X:Cx) (e:Expr) (f:List Sl -> Option (List D)) : Prop:=PE X e (tDC (Gx c X) f)
noncomputable def DO (c:Str -> Addr) (X:Cx) (e:Expr) (f:List Sl -> Option (List D)) : Prop:=PE X e (tDO (Gx c X) f)
structure DA (c:Str -> Addr) (X:Cx) (es:List Expr) (f:List Sl -> Option (List D)) : Prop where
 pa : PA X es (tDA (Gx c X) f)
 len : ∀ ρ ds,f ρ=some ds -> ds.length=es.length
structure DAB (c:Str -> Addr) (X:Cx) (es:List Expr) (f:List Sl -> Option (List D)) : Prop where
 pa : PA X es (zy2 (Gx c X) f)
 len : ∀ ρ ds,f ρ=some ds -> ds.length=es.length
noncomputable def DT (c:Str -> Addr) (X:Cx) (e:Expr) (f:List Sl -> Option Bool) : Prop:=PT X e (tDT (Gx c X) f)
noncomputable def DW (c:Str -> Addr) (X:Cx) (e:Expr) (f:List Sl -> Option Bool) : Prop:=PW X e (tDT (Gx c X) f)
noncomputable def D.scalar : D -> Bool
 | .non=>true
 | .bl _=>true
 | .int _=>true
 | .str _=>true
 | _=>false
theorem Rep.sc {G:Gc} {H H':Hp} {d:D} {v:V} (hs:d.scalar=true) (r:Rep G H d v) : Rep G H' d v:=by
 cases d <;> first | exact r | cases hs
noncomputable def zf4 : D -> Option (List D)
 | .lst xs=>some xs
 | .tup xs=>some xs
 | .kl xs=>some xs
 | .kt xs=>some xs
 | _=>none
theorem zmc {G:Gc} {H:Hp} {d:D} {v:V} {ds:List D} (e:zf4 d=some ds) (r:Rep G H d v) : ∃ a vs,v=.ref a /\ (SqL G.K H a vs \/ SqT G.K H a vs) /\ zaq G H ds vs:=by
 cases d with
 | lst xs=>cases e; obtain ⟨a,vs,e1,q,r⟩:=r; exact ⟨a,vs,e1,.inl (SqL.of q),r⟩
 | tup xs=>cases e; obtain ⟨a,vs,e1,q,r⟩:=r; exact ⟨a,vs,e1,.inr (SqT.of q),r⟩
 | kl xs=>cases e; obtain ⟨a,vs,e1,q,r⟩:=r; exact ⟨a,vs,e1,.inl q,r⟩
 | kt xs=>cases e; obtain ⟨a,vs,e1,q,r⟩:=r; exact ⟨a,vs,e1,.inr q,r⟩
 | _=>cases e
theorem zo6 {K:PySem.W.Frag} {H H':Hp} (s:za4 H H') {a:Addr} {vs:List V} (h:SqL K H a vs \/ SqT K H a vs) : SqL K H' a vs \/ SqT K H' a vs:=h.imp s.seq s.tup
noncomputable def zak (f:List Sl -> Option (List D)) (ρ:List Sl) : Option D:=(f ρ).map .lst
noncomputable def zbg (f:List Sl -> Option (List D)) (ρ:List Sl) : Option D:=(f ρ).map .tup
noncomputable def zbh (f:List Sl -> Option D) (ρ:List Sl) : Option (List D):=(f ρ).bind zf4
noncomputable def zd0 (f g:List Sl -> Option D) (ρ:List Sl) : Option D:=(f ρ).or (g ρ)
section
variable {c:Str -> Addr} {X:Cx} {e a b:Expr} {es:List Expr} {pos:Pos}
theorem DE.db {f:List Sl -> Option D} (h:DE c X e f) : DB c X e f:=PE.imp h fun σ H Q q_=>by
 obtain ⟨Hf0,H0,Hf,ρ,d,st,ef,k⟩:=q_
 exact (⟨Hf0,H0,Hf,ρ,d,st,ef,fun v Hf' H' x r=>k v Hf' H' x (r.up x.s)⟩)
theorem DE.dc {f:List Sl -> Option D} (h:DE c X e f) : DC c X e (zbh f):=PE.imp h fun σ H Q q_=>by
 obtain ⟨Hf0,H0,Hf,ρ,ds,st,ef,k⟩:=q_
 unfold zbh at ef
 cases ed : f ρ with
 | none=>rw [ed] at ef; cases ef
 | some d =>
  rw [ed] at ef
  refine ⟨Hf0,H0,Hf,ρ,d,st,ed,fun v Hf' H' x r=>?_⟩
  obtain ⟨a,vs,e1,q,rs⟩:=zmc ef r
  subst e1
  exact k a vs Hf' H' x (zo6 x.s q) rs
theorem DO.de {f:List Sl -> Option (List D)} (h:DO c X e f) : DE c X e (zak f):=PE.imp h fun σ H Q q_=>by
 obtain ⟨Hf0,H0,Hf,ρ,d,st,ef,k⟩:=q_
 unfold zak at ef
 cases ed : f ρ with
 | none=>rw [ed] at ef; cases ef
 | some ds =>
  rw [ed] at ef
  have ef : D.lst ds=d:=Option.some.inj ef
  subst ef
  exact ⟨Hf0,H0,Hf,ρ,ds,st,ed,fun l vs Hf' H' x hn hf hl r=>k _ (upd Hf' l (.lst vs)) H' (x.fix hn hf hl) ⟨l,vs,rfl,zcd,r.up (zc3 hf)⟩⟩
theorem DO.dc {f:List Sl -> Option (List D)} (h:DO c X e f) : DC c X e f:=PE.imp h fun σ H Q q_=>by
 obtain ⟨Hf0,H0,Hf,ρ,ds,st,ef,k⟩:=q_
 exact (
 ⟨Hf0,H0,Hf,ρ,ds,st,ef,fun l vs Hf' H' x hn hf hl r=>k l vs Hf' H' x (.inl (SqL.of hl)) r⟩)
theorem DE.orE {f g:List Sl -> Option D} (h:DE c X e f) (h':DE c X e g) : DE c X e (zd0 f g):=fun pins s σ H Q I q_=>by
 obtain ⟨Hf0,H0,Hf,ρ,d,st,ef,k⟩:=q_
 unfold zd0 at ef
 cases ed : f ρ with
 | some d' =>
  rw [ed] at ef
  cases ef
  exact h pins s σ H Q I ⟨Hf0,H0,Hf,ρ,_,st,ed,k⟩
 | none =>
  rw [ed] at ef
  exact h' pins s σ H Q I ⟨Hf0,H0,Hf,ρ,d,st,ef,k⟩
noncomputable def zaa (i:Nat) (ρ:List Sl) : Option D:=match ρ[i]? with
 | some (.im d)=>some d
 | _=>none
noncomputable def zgg (i:Nat) (ρ:List Sl) : Option D:=match ρ[i]? with
 | some (.im d)=>some d
 | some (.own xs)=>some (.lst xs)
 | some (.ownd ks xs)=>some (.dic ks xs)
 | _=>none
noncomputable def zaf (i:Nat) (ρ:List Sl) : Option (List D):=match ρ[i]? with
 | some (.im d)=>zf4 d
 | some (.own xs)=>some xs
 | _=>none
theorem z74 {i:Nat} {ρ:List Sl} {d:D} (h:zaa i ρ=some d) : ρ[i]?=some (.im d):=by
 unfold zaa at h
 cases e : ρ[i]? with
 | none=>rw [e] at h; cases h
 | some s=>rw [e] at h; cases s <;> cases h; rfl
theorem zve {i:Nat} (h:PE X e (zd9 i)) : DE c X e (zaa i):=PE.imp h fun σ H Q q_=>by
 obtain ⟨Hf0,H0,Hf,ρ,d,st,ef,k⟩:=q_
 obtain ⟨v,e1,r⟩:=st.imm (z74 ef)
 exact ⟨v,e1,k v Hf H (Ext.refl st.sub) r⟩
theorem zut {i:Nat} (h:PE X e (zd9 i)) : DC c X e (zaf i):=PE.imp h fun σ H Q q_=>by
 obtain ⟨Hf0,H0,Hf,ρ,ds,st,ef,k⟩:=q_
 unfold zaf at ef
 cases es : ρ[i]? with
 | none=>rw [es] at ef; cases ef
 | some s =>
  rw [es] at ef
  cases s with
  | im d =>
   obtain ⟨v,e1,r⟩:=st.imm es
   obtain ⟨a,vs,e2,q,rs⟩:=zmc ef r
   subst e2
   exact ⟨_,e1,k a vs Hf H (Ext.refl st.sub) (zo6 st.sub q) rs⟩
  | own xs =>
   cases ef
   obtain ⟨l,e1,_,_,vs,q,r⟩:=st.ownAt rfl es
   exact ⟨_,e1,k l vs Hf H (Ext.refl st.sub) (.inl (SqL.of q)) r⟩
  | _=>cases ef
theorem zt4 {i:Nat} (h:PE X e (zd9 i)) : DB c X e (zgg i):=PE.imp h fun σ H Q q_=>by
 obtain ⟨Hf0,H0,Hf,ρ,d,st,ef,k⟩:=q_
 unfold zgg at ef
 cases es : ρ[i]? with
 | none=>rw [es] at ef; cases ef
 | some s =>
  rw [es] at ef
  cases s with
  | im d =>
   cases ef
   obtain ⟨v,e1,r⟩:=st.imm es
   exact ⟨_,e1,k v Hf H (Ext.refl st.sub) (r.up st.sub)⟩
  | own xs =>
   cases ef
   obtain ⟨l,e1,_,_,vs,q,r⟩:=st.ownAt rfl es
   exact ⟨_,e1,k _ Hf H (Ext.refl st.sub) ⟨l,vs,rfl,q,r.up st.sub⟩⟩
  | ownd ks xs =>
   cases ef
   obtain ⟨l,e1,_,_,vs,q,z,r⟩:=st.ownAt rfl es
   exact ⟨_,e1,k _ Hf H (Ext.refl st.sub) ⟨l,vs,rfl,q,z,r.up st.sub⟩⟩
  | _=>cases ef
theorem zmz {v:V} {d:D} (h:PE X e (tC v)) (r:∀ G H,Rep G H d v) : DE c X e (fun _=>some d):=PE.imp h fun σ H Q q_=>by
 obtain ⟨Hf0,H0,Hf,ρ,d',st,ef,k⟩:=q_
 cases ef
 exact k v Hf H (Ext.refl st.sub) (r _ _)
theorem zad {i:Int} {j} : DE c X (.Constant (.int i) j pos) (fun _=>some (.int i)):=zmz zzo fun _ _=>rfl
theorem zb2 {i:Bool} {j} : DE c X (.Constant (.bool i) j pos) (fun _=>some (.bl i)):=zmz zw3 fun _ _=>rfl
theorem zfe {j} : DE c X (.Constant .none j pos) (fun _=>some .non):=zmz z7l fun _ _=>rfl
theorem zbl {i:Str} {j} : DE c X (.Constant (.str i) j pos) (fun _=>some (.str i)):=zmz znr fun _ _=>rfl
theorem dv (i:Nat) {x:Str} (hN:X.N[i]?=some x:=by rfl) (hv:Vis X.env.scope x:=by first | exact Or.inl rfl | exact Or.inr (Or.inl rfl) | exact Or.inr (Or.inr rfl)) (hd:(x == ("__debug__" : Str))=false:=by decide)
  (hcd:(x == ("__classdict__" : Str))=false:=by decide) : DE c X (.Name x pos) (zaa i):=zve (zgo hN hv hd hcd)
theorem dvC (i:Nat) {x:Str} (hN:X.N[i]?=some x:=by rfl) (hv:Vis X.env.scope x:=by first | exact Or.inl rfl | exact Or.inr (Or.inl rfl) | exact Or.inr (Or.inr rfl)) (hd:(x == ("__debug__" : Str))=false:=by decide)
  (hcd:(x == ("__classdict__" : Str))=false:=by decide) : DC c X (.Name x pos) (zaf i):=zut (zgo hN hv hd hcd)
theorem dvB (i:Nat) {x:Str} (hN:X.N[i]?=some x:=by rfl) (hv:Vis X.env.scope x:=by first | exact Or.inl rfl | exact Or.inr (Or.inl rfl) | exact Or.inr (Or.inr rfl)) (hd:(x == ("__debug__" : Str))=false:=by decide)
  (hcd:(x == ("__classdict__" : Str))=false:=by decide) : DB c X (.Name x pos) (zgg i):=zt4 (zgo hN hv hd hcd)
noncomputable def zab (f:List Sl -> Option D) (g:List Sl -> Option (List D)) (ρ:List Sl) : Option (List D):=(f ρ).bind fun d=>(g ρ).map fun ds=>d :: ds
theorem zms {f:List Sl -> Option D} {g:List Sl -> Option (List D)} {ρ:List Sl} {ds:List D} (h:zab f g ρ=some ds) : ∃ d r,f ρ=some d /\ g ρ=some r /\ ds=d :: r:=by
 unfold zab at h
 cases e1 : f ρ with
 | none=>rw [e1] at h; cases h
 | some d =>
  cases e2 : g ρ with
  | none=>rw [e1,e2] at h; cases h
  | some r=>rw [e1,e2] at h; cases h; exact ⟨d,r,rfl,rfl,rfl⟩
theorem zag : DA c X [] (fun _=>some []):=⟨PA.imp zdp fun σ H Q ⟨Hf0,H0,Hf,ρ,ds,st,ef,k⟩=>by cases ef; exact k [] Hf H (Ext.refl st.sub) rfl,fun ρ ds h=>by cases h; rfl⟩
theorem zac {f:List Sl -> Option D} {g:List Sl -> Option (List D)} (ha:DE c X e f) (hr:DA c X es g) (hs:starEach (e :: es) X.env=(false,eval e X.env) :: starEach es X.env:=by rfl) : DA c X (e :: es) (zab f g):=by
 refine ⟨PA.imp (zdb ha hr.pa hs) fun σ H Q ⟨Hf0,H0,Hf,ρ,ds,st,ef,k⟩=>?_,fun ρ ds h=>?_⟩
 ·obtain ⟨d,r,e1,e2,rfl⟩:=zms ef
  exact ⟨Hf0,H0,Hf,ρ,d,st,e1,fun v Hf1 H1 x1 r1=>⟨Hf0,H0,Hf1,ρ,r,st.step x1,e2,fun vs Hf2 H2 x2 r2=>k _ Hf2 H2 (x1.trans x2) (.cons (r1.up x2.f) r2)⟩⟩
 ·obtain ⟨d,r,e1,e2,rfl⟩:=zms h
  simp [hr.len ρ r e2]
theorem zbt : DAB c X [] (fun _=>some []):=⟨PA.imp zdp fun σ H Q ⟨Hf0,H0,Hf,ρ,ds,st,ef,k⟩=>by cases ef; exact k [] Hf H (Ext.refl st.sub) rfl,fun ρ ds h=>by cases h; rfl⟩
theorem zbd {f:List Sl -> Option D} {g:List Sl -> Option (List D)} (ha:DB c X e f) (hr:DAB c X es g) (hs:starEach (e :: es) X.env=(false,eval e X.env) :: starEach es X.env:=by rfl) : DAB c X (e :: es) (zab f g):=by
 refine ⟨PA.imp (zdb ha hr.pa hs) fun σ H Q ⟨Hf0,H0,Hf,ρ,ds,st,ef,k⟩=>?_,fun ρ ds h=>?_⟩
 ·obtain ⟨d,r,e1,e2,rfl⟩:=zms ef
  exact ⟨Hf0,H0,Hf,ρ,d,st,e1,fun v Hf1 H1 x1 r1=>⟨Hf0,H0,Hf1,ρ,r,st.step x1,e2,fun vs Hf2 H2 x2 r2=>k _ Hf2 H2 (x1.trans x2) (.cons (r1.up x2.h) r2)⟩⟩
 ·obtain ⟨d,r,e1,e2,rfl⟩:=zms h
  simp [hr.len ρ r e2]
theorem zb3 {f:List Sl -> Option (List D)} (h:DA c X es f) (hz:es.length <= 1000:=by exact Nat.le_of_ble_eq_true rfl) : DO c X (.List es pos) f:=PE.imp (ztc h.pa) fun σ H Q ⟨Hf0,H0,Hf,ρ,ds,st,ef,k⟩ =>
 ⟨Hf0,H0,Hf,ρ,ds,st,ef,fun vs Hf' H' x r=>⟨by
  rw [<- r.length,h.len ρ ds ef]
  exact Nat.le_of_lt (ztm hz),fun p hp=>k p vs Hf' (upd H' p (.lst vs)) (x.trans (Ext.tmp x.s hp)) (x.h.free hp) (x.s.free hp) zcd r⟩⟩
theorem zbu {f:List Sl -> Option (List D)} {k':Nat} (h:DA c X es f) (hz:es.length <= 1000:=by exact Nat.le_of_ble_eq_true rfl) : DE c X (.Tuple es k' pos) (zbg f):=PE.imp (z69 h.pa) fun σ H Q q_=>by
 obtain ⟨Hf0,H0,Hf,ρ,d,st,ef,k⟩:=q_
 unfold zbg at ef
 cases ed : f ρ with
 | none=>rw [ed] at ef; cases ef
 | some ds =>
  rw [ed] at ef
  have ef : D.tup ds=d:=Option.some.inj ef
  subst ef
  exact ⟨Hf0,H0,Hf,ρ,ds,st,ed,fun vs Hf' H' x r=>⟨by
   rw [<- r.length,h.len ρ ds ed]
   exact Nat.le_of_lt (ztm hz),fun p hp=>k _ (upd Hf' p (.tup vs)) (upd H' p (.tup vs)) (x.trans (Ext.new x.s hp)) ⟨p,vs,rfl,zcd,r.up (zc3 (x.s.free hp))⟩⟩⟩
noncomputable def rD (G:Gc) (m:D -> D -> Option D) : R2:=fun vx vy H Q=>∃ Hf x y d,za4 Hf H /\ Rep G Hf x vx /\ Rep G Hf y vy /\ m x y=some d /\ ∀ v Hf' H',Ext Hf H Hf' H' -> Rep G Hf' d v -> Q v H'
noncomputable abbrev OpD (c:Str -> Addr) (X:Cx) (f:Value -> Value -> Sem Value) (m:D -> D -> Option D) : Prop:=OpR X f (rD (Gx c X) m)
noncomputable def m2 (m:D -> D -> Option D) (f g:List Sl -> Option D) (ρ:List Sl) : Option D:=(f ρ).bind fun x=>(g ρ).bind fun y=>m x y
theorem zp5 {m:D -> D -> Option D} {f g:List Sl -> Option D} {ρ:List Sl} {d:D} (h:m2 m f g ρ=some d) : ∃ x y,f ρ=some x /\ g ρ=some y /\ m x y=some d:=by
 unfold m2 at h
 cases e1 : f ρ with
 | none=>rw [e1] at h; cases h
 | some x =>
  cases e2 : g ρ with
  | none=>rw [e1,e2] at h; cases h
  | some y=>rw [e1,e2] at h; exact ⟨x,y,rfl,rfl,h⟩
theorem two {m:D -> D -> Option D} {f g:List Sl -> Option D} {r:R2} {σ:St} {H:Hp} {Q:VK} (hr:∀ x y H Q,rD (Gx c X) m x y H Q -> r x y H Q) (h:tD (Gx c X) (m2 m f g) σ H Q) : tOp r (tD (Gx c X) f) (tD (Gx c X) g) σ H Q:=by
 obtain ⟨Hf0,H0,Hf,ρ,d,st,ef,k⟩:=h
 obtain ⟨x,y,e1,e2,e3⟩:=zp5 ef
 exact ⟨Hf0,H0,Hf,ρ,x,st,e1,fun v Hf1 H1 x1 r1=>⟨Hf0,H0,Hf1,ρ,y,st.step x1,e2,fun u Hf2 H2 x2 r2=>hr _ _ _ _ ⟨Hf2,x,y,d,x2.s,r1.up x2.f,r2,e3,fun w Hf3 H3 x3 r3=>k w Hf3 H3 ((x1.trans x2).trans x3) r3⟩⟩⟩
theorem zr9 {m:D -> D -> Option D} {f g:List Sl -> Option D} {r:R2} {σ:St} {H:Hp} {Q:VK} (hr:∀ x y H Q,rD (Gx c X) m x y H Q -> r x y H Q) (hs:∀ x y d,m x y=some d -> d.scalar=true) (h:tD (Gx c X) (m2 m f g) σ H Q) : tOp r (tDB (Gx c X) f) (tDB (Gx c X) g) σ H Q:=by
 obtain ⟨Hf0,H0,Hf,ρ,d,st,ef,k⟩:=h
 obtain ⟨x,y,e1,e2,e3⟩:=zp5 ef
 exact ⟨Hf0,H0,Hf,ρ,x,st,e1,fun v Hf1 H1 x1 r1=>⟨Hf0,H0,Hf1,ρ,y,st.step x1,e2,fun u Hf2 H2 x2 r2=>hr _ _ _ _ ⟨H2,x,y,d,za4.refl _,r1.up x2.h,r2,e3,fun w Hf3 H3 x3 r3 =>
  k w Hf2 H3 ((x1.trans x2).trans (Ext.grow x2.s x3.h)) (r3.sc (hs _ _ _ e3))⟩⟩⟩
theorem zay {op:Operator} {m:D -> D -> Option D} {f g:List Sl -> Option D} (ho:OpD c X (binaryOp op) m) (ha:DE c X a f) (hb:DE c X b g) : DE c X (.BinOp a op b pos) (m2 m f g) :=
 PE.imp (zuj ho ha hb) fun _ _ _ h=>two (fun _ _ _ _ h=>h) h
theorem zb6 {op:CmpOp} {m:D -> D -> Option D} {f g:List Sl -> Option D} (ho:OpD c X (compareOp op) m) (hs:∀ x y d,m x y=some d -> d.scalar=true) (ha:DB c X a f) (hb:DB c X b g) (hm:behindInMarks op b=false:=by first | exact zr7 _ | rfl) :
  DE c X (.Compare a [op] [b] pos) (m2 m f g):=PE.imp (zzk ho ha hb hm) fun _ _ _ h=>zr9 (fun _ _ _ _ h=>h) hs h
noncomputable def mB (f:List Sl -> Option D) (ρ:List Sl) : Option Bool:=(f ρ).bind fun d=>match d with
 | .bl b=>some b
 | _=>none
theorem znl {f:List Sl -> Option D} {ρ:List Sl} {b:Bool} (h:mB f ρ=some b) : f ρ=some (.bl b):=by
 unfold mB at h
 cases e : f ρ with
 | none=>rw [e] at h; cases h
 | some d=>rw [e] at h; cases d <;> cases h; rfl
theorem za2 {op:CmpOp} {m:D -> D -> Option D} {f g:List Sl -> Option D} (ho:OpD c X (compareOp op) m) (hs:∀ x y d,m x y=some d -> d.scalar=true) (ha:DB c X a f) (hb:DB c X b g) (hm:behindInMarks op b=false:=by first | exact zr7 _ | rfl) :
  DT c X (.Compare a [op] [b] pos) (mB (m2 m f g)):=PT.imp (z0x ho ha hb hm) fun σ H Q ⟨Hf0,H0,Hf,ρ,b,st,ef,k⟩ =>
 zr9 (fun _ _ _ _ h=>h) hs ⟨Hf0,H0,Hf,ρ,.bl b,st,znl ef,fun v Hf' H' x r=>⟨b,r,k Hf' H' x⟩⟩
noncomputable def zqn : D -> Option Bool
 | .non=>some false
 | .bl b=>some b
 | .int i=>some (i != 0)
 | .str x=>if x.length <= 16777216 then some ((x.length : Int) != 0) else none
 | .lst xs=>some (!xs.isEmpty)
 | .tup xs=>some (!xs.isEmpty)
 | .kl xs=>some (!xs.isEmpty)
 | .kt xs=>some (!xs.isEmpty)
 | .dic ks _=>some (!ks.isEmpty)
 | _=>none
theorem zaq.empty {G:Gc} {H:Hp} {ds:List D} {vs:List V} (r:zaq G H ds vs) : ds.isEmpty=vs.isEmpty:=by
 cases ds with
 | nil=>cases (show vs=[] from r); rfl
 | cons d ds=>obtain ⟨v,r',e,_⟩:=r; subst e; rfl
theorem z3r {α β : Type} {ks:List α} {vs:List β} (h:ks.length=vs.length) : (ks.zip vs).isEmpty=ks.isEmpty:=by
 cases ks <;> cases vs <;> first | rfl | cases h
theorem zzh {G:Gc} {H:Hp} {d:D} {v:V} {b:Bool} (e:zqn d=some b) (r:Rep G H d v) : zp0 G.K v H b:=by
 cases d with
 | non=>cases e; cases r; rfl
 | bl x=>cases e; cases r; rfl
 | int i=>cases e; cases r; rfl
 | str x =>
  cases r
  replace e : (if x.length <= 16777216 then some ((x.length : Int) != 0) else none)=some b:=e
  split at e
  ·rename_i hl
   cases e
   exact ⟨by rw [sizeLine_eq]; exact hl,rfl⟩
  ·cases e
 | lst xs=>cases e; obtain ⟨a,vs,e1,q,r⟩:=r; subst e1; exact .inl ⟨vs,SqL.of q,by rw [r.empty]⟩
 | tup xs=>cases e; obtain ⟨a,vs,e1,q,r⟩:=r; subst e1; exact .inr (.inl ⟨vs,SqT.of q,by rw [r.empty]⟩)
 | kl xs=>cases e; obtain ⟨a,vs,e1,q,r⟩:=r; subst e1; exact .inl ⟨vs,q,by rw [r.empty]⟩
 | kt xs=>cases e; obtain ⟨a,vs,e1,q,r⟩:=r; subst e1; exact .inr (.inl ⟨vs,q,by rw [r.empty]⟩)
 | dic ks xs=>cases e; obtain ⟨a,vs,e1,q,l,r⟩:=r; subst e1; exact .inr (.inr ⟨_,q,by rw [z3r l]⟩)
 | ins _ _ _=>cases e
noncomputable def zci (f:List Sl -> Option D) (ρ:List Sl) : Option Bool:=(f ρ).bind zqn
theorem zcx {f:List Sl -> Option D} (ha:DB c X a f) (he:∀ whole,isTrue a X.env whole=(do let v <- whole; standAt a.pos; holding [v] (truthy v)):=by intro _; rfl) : DT c X a (zci f) :=
 PT.imp (z20 ha he) fun σ H Q q_=>by
  obtain ⟨Hf0,H0,Hf,ρ,b,st,ef,k⟩:=q_
  unfold zci at ef
  cases ed : f ρ with
  | none=>rw [ed] at ef; cases ef
  | some d =>
   rw [ed] at ef
   exact ⟨Hf0,H0,Hf,ρ,d,st,ed,fun v Hf' H' x r=>⟨b,zzh ef r,k Hf' H' x⟩⟩
noncomputable def zdc (f g:List Sl -> Option Bool) (ρ:List Sl) : Option Bool:=(f ρ).bind fun b=>if b then g ρ else some false
noncomputable def mOr (f g:List Sl -> Option Bool) (ρ:List Sl) : Option Bool:=(f ρ).bind fun b=>if b then some true else g ρ
noncomputable def zeu (f:List Sl -> Option Bool) (ρ:List Sl) : Option Bool:=(f ρ).map not
theorem DW.dt {f:List Sl -> Option Bool} (h:DW c X e f) : DT c X e f:=PW.pt h
theorem zf0 {f:List Sl -> Option Bool} (h:DT c X a f) : DW c X (.BoolOp .And [a] pos) f:=zyk h
theorem zh9 {f:List Sl -> Option Bool} (h:DT c X a f) : DW c X (.BoolOp .Or [a] pos) f:=z02 h
theorem ze1 {f g:List Sl -> Option Bool} {zcm:List Expr} (h:DT c X a f) (h':DW c X (.BoolOp .And (b :: zcm) pos) g) : DW c X (.BoolOp .And (a :: b :: zcm) pos) (zdc f g):=PW.imp (z5z h h') fun σ H Q q_=>by
 obtain ⟨Hf0,H0,Hf,ρ,b,st,ef,k⟩:=q_
 unfold zdc at ef
 cases e1 : f ρ with
 | none=>rw [e1] at ef; cases ef
 | some x =>
  rw [e1] at ef
  refine ⟨Hf0,H0,Hf,ρ,x,st,e1,fun Hf1 H1 x1=>?_⟩
  cases x with
  | true=>rw [if_pos rfl]; exact ⟨Hf0,H0,Hf1,ρ,b,st.step x1,ef,fun Hf2 H2 x2=>k Hf2 H2 (x1.trans x2)⟩
  | false=>cases ef; rw [if_neg Bool.false_ne_true]; exact k Hf1 H1 x1
theorem zib {f g:List Sl -> Option Bool} {zcm:List Expr} (h:DT c X a f) (h':DW c X (.BoolOp .Or (b :: zcm) pos) g) : DW c X (.BoolOp .Or (a :: b :: zcm) pos) (mOr f g):=PW.imp (zyj h h') fun σ H Q q_=>by
 obtain ⟨Hf0,H0,Hf,ρ,b,st,ef,k⟩:=q_
 unfold mOr at ef
 cases e1 : f ρ with
 | none=>rw [e1] at ef; cases ef
 | some x =>
  rw [e1] at ef
  refine ⟨Hf0,H0,Hf,ρ,x,st,e1,fun Hf1 H1 x1=>?_⟩
  cases x with
  | false=>rw [if_neg Bool.false_ne_true]; exact ⟨Hf0,H0,Hf1,ρ,b,st.step x1,ef,fun Hf2 H2 x2=>k Hf2 H2 (x1.trans x2)⟩
  | true=>cases ef; rw [if_pos rfl]; exact k Hf1 H1 x1
theorem zf7 {f:List Sl -> Option Bool} (h:DT c X a f) : DT c X (.UnaryOp .Not a pos) (zeu f):=PT.imp (z7i h) fun σ H Q q_=>by
 obtain ⟨Hf0,H0,Hf,ρ,b,st,ef,k⟩:=q_
 unfold zeu at ef
 cases e1 : f ρ with
 | none=>rw [e1] at ef; cases ef
 | some x =>
  rw [e1] at ef
  cases ef
  exact ⟨Hf0,H0,Hf,ρ,x,st,e1,fun Hf1 H1 x1=>k Hf1 H1 x1⟩
noncomputable def zec (f g:List Sl -> Option D) (ρ:List Sl) : Option D:=(mB f ρ).bind fun b=>if b then g ρ else some (.bl false)
noncomputable def vOr (f g:List Sl -> Option D) (ρ:List Sl) : Option D:=(mB f ρ).bind fun b=>if b then some (.bl true) else g ρ
noncomputable def zfn (f:List Sl -> Option D) (ρ:List Sl) : Option D:=(mB f ρ).map fun b=>.bl (!b)
theorem zgl {f:List Sl -> Option D} {op} (h:DE c X a f) : DE c X (.BoolOp op [a] pos) f:=zyn h
theorem zgr {f g:List Sl -> Option D} {zcm:List Expr} (h:DE c X a f) (h':DE c X (.BoolOp .And (b :: zcm) pos) g) : DE c X (.BoolOp .And (a :: b :: zcm) pos) (zec f g):=PE.imp (z05 h h') fun σ H Q q_=>by
 obtain ⟨Hf0,H0,Hf,ρ,d,st,ef,k⟩:=q_
 unfold zec at ef
 cases e1 : mB f ρ with
 | none=>rw [e1] at ef; cases ef
 | some x =>
  rw [e1] at ef
  refine ⟨Hf0,H0,Hf,ρ,.bl x,st,znl e1,fun v Hf1 H1 x1 r1=>⟨x,r1,?_⟩⟩
  cases x with
  | true=>rw [if_pos rfl]; exact ⟨Hf0,H0,Hf1,ρ,d,st.step x1,ef,fun v Hf2 H2 x2 r2=>k v Hf2 H2 (x1.trans x2) r2⟩
  | false=>cases ef; rw [if_neg Bool.false_ne_true]; exact k _ Hf1 H1 x1 rfl
theorem zur {f g:List Sl -> Option D} {zcm:List Expr} (h:DE c X a f) (h':DE c X (.BoolOp .Or (b :: zcm) pos) g) : DE c X (.BoolOp .Or (a :: b :: zcm) pos) (vOr f g):=PE.imp (z7d h h') fun σ H Q q_=>by
 obtain ⟨Hf0,H0,Hf,ρ,d,st,ef,k⟩:=q_
 unfold vOr at ef
 cases e1 : mB f ρ with
 | none=>rw [e1] at ef; cases ef
 | some x =>
  rw [e1] at ef
  refine ⟨Hf0,H0,Hf,ρ,.bl x,st,znl e1,fun v Hf1 H1 x1 r1=>⟨x,r1,?_⟩⟩
  cases x with
  | false=>rw [if_neg Bool.false_ne_true]; exact ⟨Hf0,H0,Hf1,ρ,d,st.step x1,ef,fun v Hf2 H2 x2 r2=>k v Hf2 H2 (x1.trans x2) r2⟩
  | true=>cases ef; rw [if_pos rfl]; exact k _ Hf1 H1 x1 rfl
theorem zhp {f:List Sl -> Option D} (h:DE c X a f) : DE c X (.UnaryOp .Not a pos) (zfn f):=PE.imp (z7z h) fun σ H Q q_=>by
 obtain ⟨Hf0,H0,Hf,ρ,d,st,ef,k⟩:=q_
 unfold zfn at ef
 cases e1 : mB f ρ with
 | none=>rw [e1] at ef; cases ef
 | some x =>
  rw [e1] at ef
  cases ef
  exact ⟨Hf0,H0,Hf,ρ,.bl x,st,znl e1,fun v Hf1 H1 x1 r1=>⟨x,r1,k _ Hf1 H1 x1 rfl⟩⟩
end
noncomputable instance {i j:Int} : Decidable (zmp i j):=by unfold zmp; infer_instance
noncomputable instance {i j:Int} : Decidable (zi8 i j):=by unfold zi8; infer_instance
noncomputable instance {i j:Int} : Decidable (zl9 i j):=by unfold zl9; infer_instance
noncomputable def dI (C:Int -> Int -> Prop) [∀ i j,Decidable (C i j)] (g:Int -> Int -> D) : D -> D -> Option D
 | .int i,.int j=>if C i j then some (g i j) else none
 | _,_=>none
noncomputable def dI0 (g:Int -> Int -> D) : D -> D -> Option D
 | .int i,.int j=>some (g i j)
 | _,_=>none
noncomputable def zcf : D -> D -> Option D
 | .int i,.int j=>some (.int (i + j))
 | .str a,.str b=>if a.length + b.length <= 16777216 then some (.str (a ++ b)) else none
 | .lst a,.lst b=>if a.length + b.length <= 16777216 then some (.lst (a ++ b)) else none
 | _,_=>none
noncomputable abbrev zh2 : D -> D -> Option D:=dI0 fun i j=>.int (i - j)
noncomputable abbrev zf3 : D -> D -> Option D:=dI zmp fun i j=>.int (i / j)
noncomputable abbrev zbr : D -> D -> Option D:=dI (fun _ j=>0 < j) fun i j=>.int (i % j)
noncomputable abbrev zpr : D -> D -> Option D:=dI zi8 fun i j=>.int (i ^ j.toNat)
noncomputable abbrev dLt : D -> D -> Option D:=dI0 fun i j=>.bl (decide (i < j))
noncomputable abbrev dLe : D -> D -> Option D:=dI0 fun i j=>.bl (decide (i <= j))
noncomputable abbrev dGt : D -> D -> Option D:=dI0 fun i j=>.bl (decide (j < i))
noncomputable abbrev dGe : D -> D -> Option D:=dI0 fun i j=>.bl (decide (j <= i))
section
variable {c:Str -> Addr} {X:Cx}
theorem zm1 {f:Value -> Value -> Sem Value} {C:Int -> Int -> Prop} [∀ i j,Decidable (C i j)] {g:Int -> Int -> V} {gd:Int -> Int -> D} (h:OpR X f (rI C g)) (hg:∀ G H i j,Rep G H (gd i j) (g i j)) : OpD c X f (dI C gd):=by
 rintro pins s σ H vx vy v u Q I rx ry ⟨Hf,x,y,d,s0,r1,r2,e,k⟩
 unfold dI at e
 split at e
 ·split at e
  ·rename_i hc
   cases e
   exact h pins s σ H vx vy v u Q I rx ry ⟨_,_,r1,r2,hc,k _ Hf H (Ext.refl s0) (hg _ _ _ _)⟩
  ·cases e
 ·cases e
theorem zle {f:Value -> Value -> Sem Value} {g:Int -> Int -> V} {gd:Int -> Int -> D} (h:OpR X f (rI0 g)) (hg:∀ G H i j,Rep G H (gd i j) (g i j)) : OpD c X f (dI0 gd):=by
 rintro pins s σ H vx vy v u Q I rx ry ⟨Hf,x,y,d,s0,r1,r2,e,k⟩
 unfold dI0 at e
 split at e
 ·cases e
  exact h pins s σ H vx vy v u Q I rx ry ⟨_,_,r1,r2,k _ Hf H (Ext.refl s0) (hg _ _ _ _)⟩
 ·cases e
theorem zdm : OpD c X (binaryOp .Add) zcf:=by
 rintro pins s σ H vx vy v u Q I rx ry ⟨Hf,x,y,d,s0,r1,r2,e,k⟩
 unfold zcf at e
 split at e
 ·cases e
  exact zw6 pins s σ H vx vy v u Q I rx ry ⟨_,_,r1,r2,k _ Hf H (Ext.refl s0) rfl⟩
 ·split at e
  ·rename_i hl
   cases e
   exact z6k pins s σ H vx vy v u Q I rx ry ⟨_,_,r1,r2,by rw [sizeLine_eq]; exact hl,k _ Hf H (Ext.refl s0) rfl⟩
  ·cases e
 ·split at e
  ·rename_i hl
   cases e
   obtain ⟨a,vs,e1,q1,r1⟩:=r1
   obtain ⟨b,us,e2,q2,r2⟩:=r2
   exact zwd pins s σ H vx vy v u Q I rx ry ⟨a,b,vs,us,e1,e2,s0 _ _ q1,s0 _ _ q2,by rw [sizeLine_eq,<- r1.length,<- r2.length]; exact hl,
    fun p hp=>k _ (upd Hf p (.lst (vs ++ us))) (upd H p (.lst (vs ++ us))) (Ext.new s0 hp) ⟨p,_,rfl,zcd,(r1.append r2).up (zc3 (s0.free hp))⟩⟩
  ·cases e
 ·cases e
theorem zm9 : OpD c X (binaryOp .Sub) zh2:=zle z2m fun _ _ _ _=>rfl
theorem zgn : OpD c X (binaryOp .FloorDiv) zf3:=zm1 z51 fun _ _ _ _=>rfl
theorem zb7 : OpD c X (binaryOp .Mod) zbr:=zm1 zy5 fun _ _ _ _=>rfl
theorem z24 : OpD c X (binaryOp .Pow) zpr:=zm1 z1n fun _ _ _ _=>rfl
theorem zhr : OpD c X (compareOp .Lt) dLt:=zle z2q fun _ _ _ _=>rfl
theorem zm7 : OpD c X (compareOp .LtE) dLe:=zle zz6 fun _ _ _ _=>rfl
theorem zif : OpD c X (compareOp .Gt) dGt:=zle z2l fun _ _ _ _=>rfl
theorem zpg : OpD c X (compareOp .GtE) dGe:=zle zyx fun _ _ _ _=>rfl
theorem znh {g:Int -> Int -> D} (hg:∀ i j,(g i j).scalar=true) : ∀ x y d,dI0 g x y=some d -> d.scalar=true:=by
 intro x y d e
 unfold dI0 at e
 split at e
 ·cases e; exact hg _ _
 ·cases e
theorem zhu : ∀ x y d,dLt x y=some d -> d.scalar=true:=znh fun _ _=>rfl
theorem zn5 : ∀ x y d,dLe x y=some d -> d.scalar=true:=znh fun _ _=>rfl
theorem ziv : ∀ x y d,dGt x y=some d -> d.scalar=true:=znh fun _ _=>rfl
theorem zq0 : ∀ x y d,dGe x y=some d -> d.scalar=true:=znh fun _ _=>rfl
noncomputable def zia : D -> Option D
 | .int i=>some (.int (-i))
 | _=>none
noncomputable def m1 (m:D -> Option D) (f:List Sl -> Option D) (ρ:List Sl) : Option D:=(f ρ).bind m
theorem zja {a:Expr} {f:List Sl -> Option D} {pos:Pos} (ha:DE c X a f) : DE c X (.UnaryOp .USub a pos) (m1 zia f):=PE.imp (zxu z6x ha) fun σ H Q q_=>by
 obtain ⟨Hf0,H0,Hf,ρ,d,st,ef,k⟩:=q_
 unfold m1 at ef
 cases e1 : f ρ with
 | none=>rw [e1] at ef; cases ef
 | some y =>
  rw [e1] at ef
  cases y with
  | int i=>cases ef; exact ⟨Hf0,H0,Hf,ρ,.int i,st,e1,fun v Hf' H' x r=>⟨i,r,k _ Hf' H' x rfl⟩⟩
  | _=>cases ef
noncomputable def zsy : D -> Bool
 | .non=>true
 | _=>false
theorem zu1 {G:Gc} {H:Hp} {x:D} {v:V} (r:Rep G H x v) : decide (v=.non)=zsy x:=by
 cases x with
 | non=>cases r; rfl
 | bl b=>cases r; rfl
 | int i=>cases r; rfl
 | str x=>cases r; rfl
 | lst _=>obtain ⟨a,_,e,_⟩:=r; subst e; rfl
 | tup _=>obtain ⟨a,_,e,_⟩:=r; subst e; rfl
 | kl _=>obtain ⟨a,_,e,_⟩:=r; subst e; rfl
 | kt _=>obtain ⟨a,_,e,_⟩:=r; subst e; rfl
 | dic _ _=>obtain ⟨a,_,e,_⟩:=r; subst e; rfl
 | ins _ _ _=>obtain ⟨a,_,_,e,_⟩:=r; subst e; rfl
noncomputable def isD (x y:D) : Option Bool:=match y with
 | .non=>some (zsy x)
 | .bl b=>match x with
  | .non=>some false
  | .bl a=>some (a == b)
  | _=>none
 | _=>none
noncomputable def dIs (x y:D) : Option D:=(isD x y).map .bl
noncomputable def zd7 (x y:D) : Option D:=(isD x y).map fun b=>.bl (!b)
theorem zd3 : OpD c X (compareOp .Is) dIs:=by
 rintro pins s σ H vx vy v u Q I rx ry ⟨Hf,x,y,d,s0,r1,r2,e,k⟩
 unfold dIs isD at e
 cases y with
 | non =>
  cases e
  exact z2p pins s σ H vx vy v u Q I rx ry ⟨r2,by rw [zu1 r1]; exact k _ Hf H (Ext.refl s0) rfl⟩
 | bl b =>
  cases x with
  | non=>cases e; cases r1; exact zub pins s σ H _ vy v u Q I rx ry ⟨b,r2,.inl rfl,k _ Hf H (Ext.refl s0) rfl⟩
  | bl a=>cases e; cases r1; exact zub pins s σ H _ vy v u Q I rx ry ⟨b,r2,.inr ⟨a,rfl⟩,by rw [zlm]; exact k _ Hf H (Ext.refl s0) rfl⟩
  | _=>cases e
 | _=>cases e
theorem zha : OpD c X (compareOp .IsNot) zd7:=by
 rintro pins s σ H vx vy v u Q I rx ry ⟨Hf,x,y,d,s0,r1,r2,e,k⟩
 unfold zd7 isD at e
 cases y with
 | non =>
  cases e
  exact z8r pins s σ H vx vy v u Q I rx ry ⟨r2,by rw [zu1 r1]; exact k _ Hf H (Ext.refl s0) rfl⟩
 | bl b =>
  cases x with
  | non=>cases e; cases r1; exact ztq pins s σ H _ vy v u Q I rx ry ⟨b,r2,.inl rfl,k _ Hf H (Ext.refl s0) rfl⟩
  | bl a=>cases e; cases r1; exact ztq pins s σ H _ vy v u Q I rx ry ⟨b,r2,.inr ⟨a,rfl⟩,by rw [zlm]; exact k _ Hf H (Ext.refl s0) rfl⟩
  | _=>cases e
 | _=>cases e
theorem zki {x:Option Bool} {g:Bool -> Bool} : ∀ d,x.map (fun b=>D.bl (g b))=some d -> d.scalar=true:=by
 intro d e
 cases x with
 | none=>cases e
 | some b=>cases e; rfl
theorem zd1 : ∀ x y d,dIs x y=some d -> d.scalar=true:=fun _ _ d e=>zki (g:=id) d e
theorem zgv : ∀ x y d,zd7 x y=some d -> d.scalar=true:=fun _ _ d e=>zki (g:=not) d e
noncomputable def eqF : D -> D -> Bool
 | .non,.non=>true
 | .bl a,.bl b=>a == b
 | .int a,.int b=>a == b
 | .str a,.str b=>a == b
 | _,_=>false
noncomputable def zck (f:D -> D -> Option Bool) : List D -> List D -> Option Bool
 | [],[]=>some true
 | x :: xs,y :: ys=>(f x y).bind fun b=>(zck f xs ys).map fun r=>b && r
 | _,_=>some false
noncomputable def zpn : D -> D -> Bool
 | .bl _,.int _=>true
 | .int _,.bl _=>true
 | _,_=>false
noncomputable def zjg (f:D -> D -> Option Bool) : D -> D -> Option Bool
 | .lst xs,.lst ys=>if xs.length=ys.length then zck f xs ys else some false
 | .tup xs,.tup ys=>if xs.length=ys.length then zck f xs ys else none
 | x,y=>if x.scalar && y.scalar && !zpn x y then some (eqF x y) else none
noncomputable def deq : Nat -> D -> D -> Option Bool
 | 0,_,_=>none
 | n + 1,x,y=>zjg (deq n) x y
noncomputable def dEq (x y:D) : Option D:=(deq 20 x y).map .bl
noncomputable def dNe (x y:D) : Option D:=(deq 20 x y).map fun b=>.bl (!b)
theorem zbm : ∀ x y d,dEq x y=some d -> d.scalar=true:=fun _ _ d e=>zki (g:=id) d e
theorem zhb : ∀ x y d,dNe x y=some d -> d.scalar=true:=fun _ _ d e=>zki (g:=not) d e
theorem zmy {f:D -> D -> Option Bool} {x y:D} {xs ys:List D} {b:Bool} (h:zck f (x :: xs) (y :: ys)=some b) : ∃ b1 b2,f x y=some b1 /\ zck f xs ys=some b2 /\ b=(b1 && b2):=by
 unfold zck at h
 cases e1 : f x y with
 | none=>rw [e1] at h; cases h
 | some b1 =>
  cases e2 : zck f xs ys with
  | none=>rw [e1,e2] at h; cases h
  | some b2=>rw [e1,e2] at h; cases h; exact ⟨b1,b2,rfl,rfl,rfl⟩
theorem zh1 {f:D -> D -> Option Bool} : ∀ {xs ys:List D} {b:Bool},xs.length=ys.length -> zck f xs ys=some b -> ∃ e : Nat -> Bool,(∀ j x y,xs[j]?=some x -> ys[j]?=some y -> f x y=some (e j)) /\ (List.range xs.length).all e=b
 | [],[],b,_,h=>by cases h; exact ⟨fun _=>true,fun j x y e=>by simp at e,rfl⟩
 | x :: xs,y :: ys,b,hl,h=>by
  obtain ⟨b1,b2,h1,h2,rfl⟩:=zmy h
  obtain ⟨e,he,ha⟩:=zh1 (by simpa using hl) h2
  refine ⟨fun j=>match j with | 0=>b1 | j + 1=>e j,fun j x' y' ex ey=>?_,?_⟩
  ·cases j with
   | zero=>simp at ex ey; subst ex ey; exact h1
   | succ j=>exact he j x' y' (by simpa using ex) (by simpa using ey)
  ·rw [List.length_cons,List.range_succ_eq_map,List.all_cons,List.all_map,<- ha]
   rfl
 | [],_ :: _,_,hl,_=>by cases hl
 | _ :: _,[],_,hl,_=>by cases hl
theorem zny {G:Gc} {H:Hp} {x y:D} {v u:V} (hs:(x.scalar && y.scalar && !zpn x y)=true) (r1:Rep G H x v) (r2:Rep G H y u) : zed v=true /\ zed u=true /\ eqV v u=eqF x y /\ zpf v u=true /\ decide (v=u)=eqF x y:=by
 cases x <;> first
  | (cases hs; done)
  | (cases y <;> first
   | (cases hs; done)
   | (cases r1; cases r2; refine ⟨rfl,rfl,rfl,rfl,?_⟩; first | exact zlm | exact zqa | exact zp9 | rfl))
theorem zm0 {n:Nat} {x y:D} {b:Bool} (hs:¬ (∃ xs ys,x=.lst xs /\ y=.lst ys) /\ ¬ (∃ xs ys,x=.tup xs /\ y=.tup ys)) (h:deq (n + 1) x y=some b) : (x.scalar && y.scalar && !zpn x y)=true /\ b=eqF x y:=by
 replace h : zjg (deq n) x y=some b:=h
 unfold zjg at h
 split at h
 ·exact absurd ⟨_,_,rfl,rfl⟩ hs.1
 ·exact absurd ⟨_,_,rfl,rfl⟩ hs.2
 ·split at h
  ·rename_i hc
   cases h
   exact ⟨hc,rfl⟩
  ·cases h
theorem zvo {G:Gc} {H:Hp} : ∀ (n:Nat) {x y:D} {b:Bool} {v:V},deq n x y=some b -> Rep G H x v -> Rep G H y v -> b=true:=by
 intro n
 induction n with
 | zero=>intro x y b v h; cases h
 | succ n ih =>
  have all : ∀ (xs ys:List D) (vs:List V) (b:Bool),zaq G H xs vs -> zaq G H ys vs -> zck (deq n) xs ys=some b -> b=true:=by
   intro xs
   induction xs with
   | nil =>
    intro ys vs b r1 r2 h
    cases (show vs=[] from r1)
    have : ys=[]:=List.length_eq_zero_iff.mp r2.length
    subst this
    cases h; rfl
   | cons x xs ihx =>
    intro ys vs b r1 r2 h
    obtain ⟨v,r,e,h1,h2⟩:=r1
    subst e
    cases ys with
    | nil=>cases (show v :: r=[] from r2)
    | cons y ys =>
     obtain ⟨v',r',e,h1',h2'⟩:=r2
     cases e
     obtain ⟨b1,b2,e1,e2,rfl⟩:=zmy h
     rw [ih e1 h1 h1',ihx ys _ b2 h2 h2' e2]
     rfl
  intro x y b v h r1 r2
  by_cases hl : ∃ xs ys,x=.lst xs /\ y=.lst ys
  ·obtain ⟨xs,ys,rfl,rfl⟩:=hl
   obtain ⟨a,vs,e,q,r1⟩:=r1
   obtain ⟨a',vs',e',q',r2⟩:=r2
   subst e; cases e'
   rw [q] at q'; cases q'
   have hlen : xs.length=ys.length:=r1.length.trans r2.length.symm
   replace h : (if xs.length=ys.length then zck (deq n) xs ys else some false)=some b:=h
   rw [if_pos hlen] at h
   exact all xs ys vs b r1 r2 h
  ·by_cases ht : ∃ xs ys,x=.tup xs /\ y=.tup ys
   ·obtain ⟨xs,ys,rfl,rfl⟩:=ht
    obtain ⟨a,vs,e,q,r1⟩:=r1
    obtain ⟨a',vs',e',q',r2⟩:=r2
    subst e; cases e'
    rw [q] at q'; cases q'
    have hlen : xs.length=ys.length:=r1.length.trans r2.length.symm
    replace h : (if xs.length=ys.length then zck (deq n) xs ys else none)=some b:=h
    rw [if_pos hlen] at h
    exact all xs ys vs b r1 r2 h
   ·obtain ⟨hs,rfl⟩:=zm0 ⟨hl,ht⟩ h
    obtain ⟨_,_,_,_,e⟩:=zny hs r1 r2
    rw [<- e]
    exact decide_eq_true rfl
section
variable {pins:List (Addr × Obj)} {σ:St} {H:Hp} {s:Shared}
theorem zjw {G:Gc} {xs ys:List D} {vs us:List V} {its its2:List Value} {n:Nat} {A:Around} {e:Nat -> Bool} (r1:zaq G H xs vs) (r2:zaq G H ys us) (r:za1 vs its) (r':za1 us its2)
  (he:∀ j x y,xs[j]?=some x -> ys[j]?=some y -> deq n x y=some (e j))
  (ih:∀ {x y:D} {b:Bool} {v u:V} {w w':Value},deq n x y=some b -> Rep G H x v -> Rep G H y u -> za0 v w -> za0 u w' -> SeqAt.EqAt A s w w' b) :
  ∀ j (h1:j < its.toArray.size) (h2:j < its2.toArray.size),SeqAt.EqAt A s its.toArray[j] its2.toArray[j] (e j):=fun j h1 h2=>by
 have h1' : j < its.length:=by simpa using h1
 have h2' : j < its2.length:=by simpa using h2
 obtain ⟨v,ev,rv⟩:=r.at' (i:=j) (u:=its[j]) (by simp [h1'])
 obtain ⟨u,eu,ru⟩:=r'.at' (i:=j) (u:=its2[j]) (by simp [h2'])
 obtain ⟨x,ex,rx⟩:=r1.get' ev
 obtain ⟨y,ey,ry⟩:=r2.get' eu
 exact ih (he j x y ex ey) rx ry rv ru
theorem zqp (I:Inv X pins σ H s) : ∀ (n:Nat) {A:Around} {x y:D} {b:Bool} {v u:V} {w w':Value},A.units + n < cLine -> deq n x y=some b -> Rep (Gx c X) H x v -> Rep (Gx c X) H y u -> za0 v w -> za0 u w' -> SeqAt.EqAt A s w w' b:=by
 intro n
 induction n with
 | zero=>intro A x y b v u w w' _ h; cases h
 | succ n ih =>
  intro A x y b v u w w' hu h r1 r2 rv ru
  have hin : ∀ {x y:D} {b:Bool} {v u:V} {w w':Value},deq n x y=some b -> Rep (Gx c X) H x v -> Rep (Gx c X) H y u -> za0 v w -> za0 u w' -> SeqAt.EqAt A.in1 s w w' b:=fun h a b c d=>ih (by rw [Around.in1_units]; omega) h a b c d
  by_cases hl : ∃ xs ys,x=.lst xs /\ y=.lst ys
  ·obtain ⟨xs,ys,rfl,rfl⟩:=hl
   obtain ⟨a,vs,e,q,rs1⟩:=id r1
   obtain ⟨a',vs',e',q',rs2⟩:=id r2
   subst e e'
   cases rv; cases ru
   by_cases hab : a=a'
   ·subst hab
    have:=zvo (n + 1) h (show Rep (Gx c X) H (.lst xs) (.ref a) from ⟨a,vs,rfl,q,rs1⟩) ⟨a,vs',rfl,q',rs2⟩
    subst this
    exact SeqAt.EqAt.same _
   ·refine SeqAt.EqAt.of_refs hab ?_
    obtain ⟨its,rr,pl,hz⟩:=I.list (SqL.of (K:=X.K) q)
    obtain ⟨its2,rr2,pl2,hz2⟩:=I.list (SqL.of (K:=X.K) q')
    have l1:=rr.length
    have l2:=rr2.length
    have l3:=rs1.length
    have l4:=rs2.length
    replace h : (if xs.length=ys.length then zck (deq n) xs ys else some false)=some b:=h
    split at h
    ·rename_i hlen
     obtain ⟨ee,he,ha⟩:=zh1 hlen h
     have:=SeqAt.RcAt.lists (A:=A) (s:=s) pl.isList pl2.isList (by simp only [List.size_toArray]; omega) (by omega) (zjw (A:=A.in1) (s:=s) rs1 rs2 rr rr2 he hin)
     rw [List.size_toArray,<- l1,<- l3,ha] at this
     exact this
    ·rename_i hlen
     cases h
     exact SeqAt.RcAt.lists_lengths (A:=A) (s:=s) pl.isList pl2.isList (by simp only [List.size_toArray,bne_iff_ne,ne_eq]; omega) (by omega)
  ·by_cases ht : ∃ xs ys,x=.tup xs /\ y=.tup ys
   ·obtain ⟨xs,ys,rfl,rfl⟩:=ht
    obtain ⟨a,vs,e,q,rs1⟩:=id r1
    obtain ⟨a',vs',e',q',rs2⟩:=id r2
    subst e e'
    cases rv; cases ru
    by_cases hab : a=a'
    ·subst hab
     have:=zvo (n + 1) h (show Rep (Gx c X) H (.tup xs) (.ref a) from ⟨a,vs,rfl,q,rs1⟩) ⟨a,vs',rfl,q',rs2⟩
     subst this
     exact SeqAt.EqAt.same _
    ·refine SeqAt.EqAt.of_refs hab ?_
     obtain ⟨its,rr,pl,hz⟩:=I.tuple (SqT.of (K:=X.K) q)
     obtain ⟨its2,rr2,pl2,hz2⟩:=I.tuple (SqT.of (K:=X.K) q')
     have l1:=rr.length
     have l2:=rr2.length
     have l3:=rs1.length
     have l4:=rs2.length
     replace h : (if xs.length=ys.length then zck (deq n) xs ys else none)=some b:=h
     split at h
     ·rename_i hlen
      obtain ⟨ee,he,ha⟩:=zh1 hlen h
      have:=SeqAt.RcAt.tuples (A:=A) (s:=s) (show s.heap.IsTuple a its.toArray from pl) (show s.heap.IsTuple a' its2.toArray from pl2) (by omega) (zjw (A:=A.in1) (s:=s) rs1 rs2 rr rr2 he hin)
      have hsz : its.toArray.size=its2.toArray.size:=by simp only [List.size_toArray]; omega
      rw [<- hsz,Nat.min_self,beq_self_eq_true,Bool.and_true,List.size_toArray,<- l1,<- l3,ha] at this
      exact this
     ·cases h
   ·obtain ⟨hs,rfl⟩:=zm0 ⟨hl,ht⟩ h
    obtain ⟨f1,f2,e,_,_⟩:=zny hs r1 r2
    rw [<- e]
    exact zvi rv ru f1 f2
end
theorem zbj (hu:X.A.units + 64 < cLine) : OpD c X (compareOp .Eq) dEq:=by
 rintro pins s σ H v u w w' Q I rv ru ⟨Hf,x,y,d,s0,r1,r2,e,k⟩
 unfold dEq at e
 cases h : deq 20 x y with
 | none=>rw [h] at e; cases e
 | some b =>
  rw [h] at e
  cases e
  have q0:=k (.bl b) Hf H (Ext.refl s0) rfl
  have fin : EP X pins σ Q (.bool b) s:=⟨.bl b,H,I,rfl,q0⟩
  have r1:=r1.up s0
  have r2:=r2.up s0
  have hin : ∀ {x y:D} {b:Bool} {v u:V} {w w':Value},deq 19 x y=some b -> Rep (Gx c X) H x v -> Rep (Gx c X) H y u -> za0 v w -> za0 u w' -> SeqAt.EqAt X.A.in1 s w w' b:=fun h a b c d=>zqp I 19 (by rw [Around.in1_units]; omega) h a b c d
  by_cases hl : ∃ xs ys,x=.lst xs /\ y=.lst ys
  ·obtain ⟨xs,ys,rfl,rfl⟩:=hl
   obtain ⟨a,vs,e,q,rs1⟩:=id r1
   obtain ⟨a',vs',e',q',rs2⟩:=id r2
   subst e e'
   cases rv; cases ru
   obtain ⟨its,rr,pl,hz⟩:=I.list (SqL.of (K:=X.K) q)
   obtain ⟨its2,rr2,pl2,hz2⟩:=I.list (SqL.of (K:=X.K) q')
   have l1:=rr.length
   have l2:=rr2.length
   have l3:=rs1.length
   have l4:=rs2.length
   replace h : (if xs.length=ys.length then zck (deq 19) xs ys else some false)=some b:=h
   split at h
   ·rename_i hlen
    obtain ⟨ee,he,ha⟩:=zh1 hlen h
    refine SeqAt.eq_listAt pl.isList pl2.isList (by simp only [List.size_toArray]; omega) (by omega) (zjw rs1 rs2 rr rr2 he hin) ?_
    rw [List.size_toArray,<- l1,<- l3,ha]
    exact fin
   ·rename_i hlen
    cases h
    exact SeqAt.eq_list_lengthsAt pl.isList pl2.isList (by simp only [List.size_toArray,bne_iff_ne,ne_eq]; omega) (by omega) fin
  ·by_cases ht : ∃ xs ys,x=.tup xs /\ y=.tup ys
   ·obtain ⟨xs,ys,rfl,rfl⟩:=ht
    obtain ⟨a,vs,e,q,rs1⟩:=id r1
    obtain ⟨a',vs',e',q',rs2⟩:=id r2
    subst e e'
    cases rv; cases ru
    obtain ⟨its,rr,pl,hz⟩:=I.tuple (SqT.of (K:=X.K) q)
    obtain ⟨its2,rr2,pl2,hz2⟩:=I.tuple (SqT.of (K:=X.K) q')
    have l1:=rr.length
    have l2:=rr2.length
    have l3:=rs1.length
    have l4:=rs2.length
    replace h : (if xs.length=ys.length then zck (deq 19) xs ys else none)=some b:=h
    split at h
    ·rename_i hlen
     obtain ⟨ee,he,ha⟩:=zh1 hlen h
     refine SeqAt.eq_tupleAt (show s.heap.IsTuple a its.toArray from pl) (show s.heap.IsTuple a' its2.toArray from pl2) (by omega) (zjw rs1 rs2 rr rr2 he hin) ?_
     have hsz : its.toArray.size=its2.toArray.size:=by simp only [List.size_toArray]; omega
     rw [<- hsz,Nat.min_self,beq_self_eq_true,Bool.and_true,List.size_toArray,<- l1,<- l3,ha]
     exact fin
    ·cases h
   ·obtain ⟨hs,rfl⟩:=zm0 ⟨hl,ht⟩ h
    obtain ⟨_,_,_,hsc,e⟩:=zny hs r1 r2
    exact z8a pins s σ H v u w w' Q I rv ru ⟨hsc,by rw [e]; exact q0⟩
theorem zhd (hu:X.A.units + 64 < cLine) : OpD c X (compareOp .NotEq) dNe:=by
 rintro pins s σ H v u w w' Q I rv ru ⟨Hf,x,y,d,s0,r1,r2,e,k⟩
 unfold dNe at e
 cases h : deq 20 x y with
 | none=>rw [h] at e; cases e
 | some b =>
  rw [h] at e
  cases e
  have q0:=k (.bl (!b)) Hf H (Ext.refl s0) rfl
  have fin : EP X pins σ Q (.bool (!b)) s:=⟨.bl (!b),H,I,rfl,q0⟩
  have r1:=r1.up s0
  have r2:=r2.up s0
  have hin : ∀ {x y:D} {b:Bool} {v u:V} {w w':Value},deq 19 x y=some b -> Rep (Gx c X) H x v -> Rep (Gx c X) H y u -> za0 v w -> za0 u w' -> SeqAt.EqAt X.A.in1 s w w' b:=fun h a b c d=>zqp I 19 (by rw [Around.in1_units]; omega) h a b c d
  by_cases hl : ∃ xs ys,x=.lst xs /\ y=.lst ys
  ·obtain ⟨xs,ys,rfl,rfl⟩:=hl
   obtain ⟨a,vs,e,q,rs1⟩:=id r1
   obtain ⟨a',vs',e',q',rs2⟩:=id r2
   subst e e'
   cases rv; cases ru
   obtain ⟨its,rr,pl,hz⟩:=I.list (SqL.of (K:=X.K) q)
   obtain ⟨its2,rr2,pl2,hz2⟩:=I.list (SqL.of (K:=X.K) q')
   have l1:=rr.length
   have l2:=rr2.length
   have l3:=rs1.length
   have l4:=rs2.length
   replace h : (if xs.length=ys.length then zck (deq 19) xs ys else some false)=some b:=h
   split at h
   ·rename_i hlen
    obtain ⟨ee,he,ha⟩:=zh1 hlen h
    refine SeqAt.RcNeAt.lists (A:=X.A) (s:=s) pl.isList pl2.isList (by simp only [List.size_toArray]; omega) (by omega) (zjw rs1 rs2 rr rr2 he hin) X.prog X.w X.xe _ ?_
    rw [List.size_toArray,<- l1,<- l3,ha]
    exact fin
   ·rename_i hlen
    cases h
    exact SeqAt.RcNeAt.lists_lengths (A:=X.A) (s:=s) pl.isList pl2.isList (by simp only [List.size_toArray,bne_iff_ne,ne_eq]; omega) (by omega) X.prog X.w X.xe _ fin
  ·by_cases ht : ∃ xs ys,x=.tup xs /\ y=.tup ys
   ·obtain ⟨xs,ys,rfl,rfl⟩:=ht
    obtain ⟨a,vs,e,q,rs1⟩:=id r1
    obtain ⟨a',vs',e',q',rs2⟩:=id r2
    subst e e'
    cases rv; cases ru
    obtain ⟨its,rr,pl,hz⟩:=I.tuple (SqT.of (K:=X.K) q)
    obtain ⟨its2,rr2,pl2,hz2⟩:=I.tuple (SqT.of (K:=X.K) q')
    have l1:=rr.length
    have l2:=rr2.length
    have l3:=rs1.length
    have l4:=rs2.length
    replace h : (if xs.length=ys.length then zck (deq 19) xs ys else none)=some b:=h
    split at h
    ·rename_i hlen
     obtain ⟨ee,he,ha⟩:=zh1 hlen h
     refine SeqAt.RcNeAt.tuples (A:=X.A) (s:=s) (show s.heap.IsTuple a its.toArray from pl) (show s.heap.IsTuple a' its2.toArray from pl2) (by omega) (zjw rs1 rs2 rr rr2 he hin) X.prog X.w X.xe _ ?_
     have hsz : its.toArray.size=its2.toArray.size:=by simp only [List.size_toArray]; omega
     rw [<- hsz,Nat.min_self,beq_self_eq_true,Bool.and_true,List.size_toArray,<- l1,<- l3,ha]
     exact fin
    ·cases h
   ·obtain ⟨hs,rfl⟩:=zm0 ⟨hl,ht⟩ h
    obtain ⟨_,_,_,hsc,e⟩:=zny hs r1 r2
    exact z2u pins s σ H v u w w' Q I rv ru ⟨hsc,by rw [e]; exact q0⟩
noncomputable def eqX : D -> D -> Bool
 | .non,.non=>true
 | .bl a,.bl b=>a == b
 | .bl a,.int b=>(if a then 1 else 0) == b
 | .int a,.bl b=>a == (if b then 1 else 0)
 | .int a,.int b=>a == b
 | .str a,.str b=>a == b
 | _,_=>false
noncomputable def inD (x y:D) : Option Bool:=(zf4 y).bind fun ds=>if x.scalar && ds.all D.scalar then some (ds.any fun d=>eqX d x) else none
noncomputable def dIn (x y:D) : Option D:=(inD x y).map .bl
theorem zsc : ∀ x y d,dIn x y=some d -> d.scalar=true:=fun _ _ d e=>zki (g:=id) d e
theorem z8k {G:Gc} {H:Hp} {x y:D} {v u:V} (hx:x.scalar=true) (hy:y.scalar=true) (r1:Rep G H x v) (r2:Rep G H y u) : zed v=true /\ zed u=true /\ eqV v u=eqX x y:=by
 cases x <;> first
  | (cases hx; done)
  | (cases y <;> first
   | (cases hy; done)
   | (cases r1; cases r2; exact ⟨rfl,rfl,rfl⟩))
theorem zwg {G:Gc} {H:Hp} {x:D} {v:V} (hx:x.scalar=true) (r:Rep G H x v) : ∀ {ds:List D} {vs:List V},ds.all D.scalar=true -> zaq G H ds vs -> vs.all zed=true /\ inV v vs=ds.any fun d=>eqX d x
 | [],_,_,h=>by cases (show _=[] from h); exact ⟨rfl,rfl⟩
 | d :: ds,_,ha,⟨u,r',e,h1,h2⟩=>by
  subst e
  rw [List.all_cons,Bool.and_eq_true] at ha
  obtain ⟨f1,f2,e⟩:=z8k ha.1 hx h1 r
  obtain ⟨g1,g2⟩:=zwg hx r ha.2 h2
  refine ⟨by rw [List.all_cons,f1,g1]; rfl,?_⟩
  unfold inV at g2 ⊢
  rw [List.any_cons,List.any_cons,e,g2]
theorem zzm {G:Gc} {H:Hp} {x y:D} {v u:V} {b:Bool} (e:inD x y=some b) (r1:Rep G H x v) (r2:Rep G H y u) : ∃ p vs,u=.ref p /\ (SqL G.K H p vs \/ SqT G.K H p vs) /\ zed v=true /\ vs.all zed=true /\ inV v vs=b:=by
 unfold inD at e
 cases es : zf4 y with
 | none=>rw [es] at e; cases e
 | some ds =>
  rw [es] at e
  replace e : (if (x.scalar && ds.all D.scalar)=true then some (ds.any fun d=>eqX d x) else none)=some b:=e
  split at e
  ·rename_i hc
   cases e
   rw [Bool.and_eq_true] at hc
   obtain ⟨a,vs,e1,q,r⟩:=zmc es r2
   obtain ⟨g1,g2⟩:=zwg hc.1 r1 hc.2 r
   have f : zed v=true:=by cases x <;> first | (cases r1; rfl) | (cases hc.1)
   exact ⟨a,vs,e1,q,f,g1,g2⟩
  ·cases e
theorem zu5 : OpD c X (compareOp .In) dIn:=by
 rintro pins s σ H v u w w' Q I rv ru ⟨Hf,x,y,d,s0,r1,r2,e,k⟩
 unfold dIn at e
 cases h : inD x y with
 | none=>rw [h] at e; cases e
 | some b =>
  rw [h] at e
  cases e
  obtain ⟨p,vs,e1,q,f1,f2,e2⟩:=zzm h (r1.up s0) (r2.up s0)
  refine z5x pins s σ H v u w w' Q I rv ru ⟨p,vs,e1,q,f1,f2,?_⟩
  rw [if_neg Bool.false_ne_true,e2]
  exact k _ Hf H (Ext.refl s0) rfl
end
section
variable {c:Str -> Addr} {X:Cx} {e a b o:Expr} {es:List Expr} {pos p apos:Pos}
theorem z6d {G:Gc} {H:Hp} {ds:List D} {vs:List V} {i:Int} {d:D} (h:atI ds i=some d) (r:zaq G H ds vs) : ∃ v,atI vs i=some v /\ Rep G H d v:=by
 unfold atI at h ⊢
 rw [<- r.length]
 cases e : ixN ds.length i with
 | none=>rw [e] at h; cases h
 | some j =>
  rw [e] at h
  exact r.get h
noncomputable def ixD (ds:List D) : D -> Option D
 | .int k=>atI ds k
 | _=>none
noncomputable def mIx (f:List Sl -> Option (List D)) (g:List Sl -> Option D) (ρ:List Sl) : Option D:=(f ρ).bind fun ds=>(g ρ).bind fun i=>ixD ds i
theorem zah {f:List Sl -> Option (List D)} {g:List Sl -> Option D} (ha:DC c X a f) (hb:DE c X b g) (hs:zse b:=by exact fun _ _=>rfl) : DE c X (.Subscript a b pos) (mIx f g) :=
 PE.imp (z9r (zxc.or zyi) ha hb hs) fun σ H Q q_=>by
  obtain ⟨Hf0,H0,Hf,ρ,d,st,ef,k⟩:=q_
  unfold mIx at ef
  cases e1 : f ρ with
  | none=>rw [e1] at ef; cases ef
  | some ds =>
   cases e2 : g ρ with
   | none=>rw [e1,e2] at ef; cases ef
   | some i =>
    rw [e1,e2] at ef
    replace ef : ixD ds i=some d:=ef
    cases i with
    | int n =>
     replace ef : atI ds n=some d:=ef
     refine ⟨Hf0,H0,Hf,ρ,ds,st,e1,fun l vs Hf1 H1 x1 q r=>⟨Hf0,H0,Hf1,ρ,.int n,st.step x1,e2,fun u Hf2 H2 x2 r2=>?_⟩⟩
     cases (show u=V.int n from r2)
     obtain ⟨v,ev,rv⟩:=z6d ef r
     have fin:=k v Hf2 H2 (x1.trans x2) (rv.up x2.f)
     rcases q with q | q
     ·exact .inl ⟨l,vs,n,v,rfl,rfl,x2.h.seq q,ev,fin⟩
     ·exact .inr ⟨l,vs,n,v,rfl,rfl,x2.h.tup q,ev,fin⟩
    | _=>cases ef
noncomputable def zh5 (xs:List D) (lo hi:Option Int) : List D:=(xs.drop (HT.sIx xs.length 0 lo)).take (HT.sIx xs.length xs.length hi - HT.sIx xs.length 0 lo)
noncomputable def lsD : D -> Option (List D)
 | .lst xs=>some xs
 | .kl xs=>some xs
 | _=>none
theorem zg7 {G:Gc} {H:Hp} {d:D} {v:V} {ds:List D} (e:lsD d=some ds) (r:Rep G H d v) : ∃ a vs,v=.ref a /\ SqL G.K H a vs /\ zaq G H ds vs:=by
 cases d with
 | lst xs=>cases e; obtain ⟨a,vs,e1,q,r⟩:=r; exact ⟨a,vs,e1,SqL.of q,r⟩
 | kl xs=>cases e; obtain ⟨a,vs,e1,q,r⟩:=r; exact ⟨a,vs,e1,q,r⟩
 | _=>cases e
noncomputable def z2w (G:Gc) (f:List Sl -> Option (Option Int)) : TO:=fun σ H Q=>∃ Hf0 H0 Hf ρ i,zaz G Hf0 H0 Hf H σ ρ /\ f ρ=some i /\ ∀ Hf' H',Ext Hf H Hf' H' -> Q i H'
noncomputable def DPt (c:Str -> Addr) (X:Cx) (e:Option Expr) (f:List Sl -> Option (Option Int)) : Prop:=PO X e (z2w (Gx c X) f)
theorem zdr : DPt c X none (fun _=>some none):=fun pins s σ H Q I q_=>by
 obtain ⟨Hf0,H0,Hf,ρ,i,st,ef,k⟩:=q_
 exact (z5e pins s σ H Q I (by cases ef; exact k Hf H (Ext.refl st.sub)))
noncomputable def mPt (f:List Sl -> Option D) (ρ:List Sl) : Option (Option Int):=(f ρ).bind fun d=>match d with
 | .int i=>some (some i)
 | _=>none
theorem zc2 {f:List Sl -> Option D} (h:DE c X e f) : DPt c X (some e) (mPt f):=fun pins s σ H Q I q_=>by
 obtain ⟨Hf0,H0,Hf,ρ,i,st,ef,k⟩:=q_
 exact (z4r h pins s σ H Q I (by
 unfold mPt at ef
 cases e1 : f ρ with
 | none=>rw [e1] at ef; cases ef
 | some d =>
  rw [e1] at ef
  cases d with
  | int n=>cases ef; exact ⟨Hf0,H0,Hf,ρ,.int n,st,e1,fun v Hf' H' x r=>⟨n,r,k Hf' H' x⟩⟩
  | _=>cases ef))
noncomputable def mSl (f:List Sl -> Option D) (l h:List Sl -> Option (Option Int)) (ρ:List Sl) : Option (List D):=(f ρ).bind fun d=>(lsD d).bind fun ds=>(l ρ).bind fun lo=>(h ρ).map fun hi=>zh5 ds lo hi
theorem z5f {G:Gc} {H:Hp} {ds:List D} {vs:List V} (r:zaq G H ds vs) (lo hi:Option Int) : zaq G H (zh5 ds lo hi) (zhe vs lo hi):=by
 unfold zh5 zhe
 rw [r.length]
 exact (r.drop _).take _
theorem zde {f:List Sl -> Option D} {l h:List Sl -> Option (Option Int)} {lo hi:Option Expr} {p2:Pos} (ha:DE c X e f) (hl:DPt c X lo l) (hh:DPt c X hi h) : DO c X (.Subscript e (.Slice lo hi none p2) pos) (mSl f l h) :=
 PE.imp (z0b z64 ha hl hh) fun σ H Q q_=>by
  obtain ⟨Hf0,H0,Hf,ρ,rs,st,ef,k⟩:=q_
  unfold mSl at ef
  cases e1 : f ρ with
  | none=>rw [e1] at ef; cases ef
  | some d =>
   cases e2 : lsD d with
   | none=>rw [e1] at ef; replace ef : (lsD d).bind _=_:=ef; rw [e2] at ef; cases ef
   | some ds =>
    cases e3 : l ρ with
    | none=>rw [e1] at ef; replace ef : (lsD d).bind _=_:=ef; rw [e2,e3] at ef; cases ef
    | some lo' =>
     cases e4 : h ρ with
     | none=>rw [e1] at ef; replace ef : (lsD d).bind _=_:=ef; rw [e2,e3,e4] at ef; cases ef
     | some hi' =>
      rw [e1] at ef
      replace ef : (lsD d).bind _=_:=ef
      rw [e2,e3,e4] at ef
      cases ef
      refine ⟨Hf0,H0,Hf,ρ,d,st,e1,fun v Hf1 H1 x1 r1=>⟨Hf0,H0,Hf1,ρ,lo',st.step x1,e3,fun Hf2 H2 x2=>⟨Hf0,H0,Hf2,ρ,hi',(st.step x1).step x2,e4,fun Hf3 H3 x3=>?_⟩⟩⟩
      obtain ⟨a,vs,ea,q,r⟩:=zg7 e2 r1
      subst ea
      have x:=(x1.trans x2).trans x3
      have y:=(x2.trans x3)
      refine ⟨a,vs,rfl,(x1.s.trans y.h).seq q,fun p hp=>?_⟩
      exact k p (zhe vs lo' hi') Hf3 (upd H3 p (.lst (zhe vs lo' hi'))) (x.trans (Ext.tmp x.s hp)) (x.h.free hp) (x.s.free hp) zcd (z5f (r.up y.f) _ _)
noncomputable def rCD (G:Gc) (m:List D -> Option D) : List V -> Hp -> VK -> Prop:=fun vs H Q=>∃ Hf ds d,za4 Hf H /\ zaq G Hf ds vs /\ m ds=some d /\ ∀ v Hf' H',Ext Hf H Hf' H' -> Rep G Hf' d v -> Q v H'
noncomputable abbrev zlq (c:Str -> Addr) (X:Cx) (f:Value) (m:List D -> Option D) : Prop:=zfb X f (rCD (Gx c X) m)
noncomputable def zap (m:List D -> Option D) (f:List Sl -> Option (List D)) (ρ:List Sl) : Option D:=(f ρ).bind m
theorem zva {m:List D -> Option D} {f:List Sl -> Option (List D)} {ρ:List Sl} {d:D} (h:zap m f ρ=some d) : ∃ ds,f ρ=some ds /\ m ds=some d:=by
 unfold zap at h
 cases e : f ρ with
 | none=>rw [e] at h; cases h
 | some ds=>rw [e] at h; exact ⟨ds,rfl,h⟩
theorem zbw {m:List D -> Option D} {f:List Sl -> Option (List D)} {x:Str} {id:String} (hc:zlq c X (.builtin id) m) (hs:∀ ds d,m ds=some d -> d.scalar=true) (hg:Gl X x) (hm:X.mg x=none) (hv:bootBuiltins x=some (.builtin id)) (ha:DAB c X (e :: es) f) (hn:x ≠ "__name__":=by decide) (hdb:(x == ("__debug__" : Str))=false:=by decide)
  (he:starEach (e :: es) X.env=(false,eval e X.env) :: starEach es X.env:=by rfl) (hpl:(backTo pos (starEach es X.env)).any (·.1)=false:=by rfl) :
  DE c X (.Call (.Name x p) (e :: es) [] pos) (zap m f):=PE.imp (ztd hc hg hm hv ha.pa hn hdb he hpl) fun σ H Q q_=>by
 obtain ⟨Hf0,H0,Hf,ρ,d,st,ef,k⟩:=q_
 obtain ⟨ds,e1,e2⟩:=zva ef
 exact ⟨Hf0,H0,Hf,ρ,ds,st,e1,fun vs Hf' H' x r=>⟨H',ds,d,za4.refl _,r,e2,fun v Hf2 H2 x2 r2=>k v Hf' H2 (x.trans (Ext.grow x.s x2.h)) (r2.sc (hs _ _ e2))⟩⟩
noncomputable def zcb : List D -> Option D
 | [.lst xs]=>some (.int xs.length)
 | [.tup xs]=>some (.int xs.length)
 | [.kl xs]=>some (.int xs.length)
 | [.kt xs]=>some (.int xs.length)
 | [.str x]=>if x.length <= 16777216 then some (.int x.length) else none
 | _=>none
theorem zaq.one {G:Gc} {H:Hp} {d:D} {vs:List V} (r:zaq G H [d] vs) : ∃ v,vs=[v] /\ Rep G H d v:=by
 obtain ⟨v,r',e,h,q⟩:=r
 cases (show r'=[] from q)
 exact ⟨v,e,h⟩
theorem zc4 : zlq c X (.builtin "len") zcb:=by
 rintro pins s σ H vs us Q I rv ⟨Hf,ds,d,s0,r,e,k⟩
 have sq : ∀ (d0:D) (xs:List D),ds=[d0] -> zf4 d0=some xs -> d=.int xs.length -> wpAny (model X.prog X.w) X.A (call (.builtin "len") us) (EP X pins σ Q) X.xe s:=fun d0 xs ed es e0=>by
  subst ed e0
  obtain ⟨v,e1,r1⟩:=r.one
  subst e1
  obtain ⟨a,ws,e2,q,rs⟩:=zmc es r1
  subst e2
  refine zyy pins s σ H _ us Q I rv ⟨a,ws,rfl,zo6 s0 q,?_⟩
  rw [<- rs.length]
  exact k _ Hf H (Ext.refl s0) rfl
 unfold zcb at e
 split at e
 ·cases e; exact sq _ _ rfl rfl rfl
 ·cases e; exact sq _ _ rfl rfl rfl
 ·cases e; exact sq _ _ rfl rfl rfl
 ·cases e; exact sq _ _ rfl rfl rfl
 ·split at e
  ·rename_i hl
   cases e
   obtain ⟨v,e1,r1⟩:=r.one
   subst e1
   exact z3y pins s σ H _ us Q I rv ⟨_,by rw [show v=V.str _ from r1],by rw [sizeLine_eq]; exact hl,k _ Hf H (Ext.refl s0) rfl⟩
  ·cases e
 ·cases e
theorem zc1 : ∀ ds d,zcb ds=some d -> d.scalar=true:=by
 intro ds d e
 unfold zcb at e
 split at e <;> first | (cases e; done) | (cases e; rfl) | (split at e <;> first | (cases e; done) | (cases e; rfl))
noncomputable def zet : List D -> Option (List Int)
 | []=>some []
 | .int i :: ds=>(zet ds).map fun r=>i :: r
 | _=>none
theorem zwt {G:Gc} {H:Hp} : ∀ {ds:List D} {ns:List Int} {vs:List V},zet ds=some ns -> zaq G H ds vs -> vs=ns.map V.int
 | [],_,_,e,r=>by cases e; exact r
 | .int i :: ds,_,_,e,⟨v,r',e',h1,h2⟩=>by
  subst e'
  cases es : zet ds with
  | none=>rw [zet,es] at e; cases e
  | some ns =>
   rw [zet,es] at e
   cases e
   rw [zwt es h2,show v=V.int i from h1]
   rfl
 | .non :: _,_,_,e,_=>by cases e
 | .bl _ :: _,_,_,e,_=>by cases e
 | .str _ :: _,_,_,e,_=>by cases e
 | .lst _ :: _,_,_,e,_=>by cases e
 | .tup _ :: _,_,_,e,_=>by cases e
 | .kl _ :: _,_,_,e,_=>by cases e
 | .kt _ :: _,_,_,e,_=>by cases e
 | .dic _ _ :: _,_,_,e,_=>by cases e
 | .ins _ _ _ :: _,_,_,e,_=>by cases e
theorem z2a (ns:List Int) : zet (ns.map D.int)=some ns:=by
 induction ns with
 | nil=>rfl
 | cons n ns ih=>rw [List.map_cons,zet,ih]; rfl
noncomputable def zd4 : List D -> Option D
 | [d]=>(lsD d).bind fun ds=>(zet ds).map fun ns=>.int ns.sum
 | _=>none
theorem zgt (hc:X.calm=true) : zlq c X (.builtin "sum") zd4:=by
 rintro pins s σ H vs us Q I rv ⟨Hf,ds,d,s0,r,e,k⟩
 unfold zd4 at e
 split at e
 ·rename_i d0
  cases e1 : lsD d0 with
  | none=>rw [e1] at e; cases e
  | some xs =>
   cases e2 : zet xs with
   | none=>rw [e1] at e; replace e : (zet xs).map _=_:=e; rw [e2] at e; cases e
   | some ns =>
    rw [e1] at e
    replace e : (zet xs).map _=_:=e
    rw [e2] at e
    cases e
    obtain ⟨v,ev,r1⟩:=r.one
    subst ev
    obtain ⟨a,ws,ea,q,rs⟩:=zg7 e1 r1
    subst ea
    refine zx1 hc pins s σ H _ us Q I rv ⟨a,ns,rfl,?_,k _ Hf H (Ext.refl s0) rfl⟩
    rw [<- zwt e2 rs]
    exact s0.seq q
 ·cases e
theorem zgq : ∀ ds d,zd4 ds=some d -> d.scalar=true:=by
 intro ds d e
 unfold zd4 at e
 split at e
 ·rename_i d0
  cases e1 : lsD d0 with
  | none=>rw [e1] at e; cases e
  | some xs =>
   rw [e1] at e
   replace e : (zet xs).map _=_:=e
   cases e2 : zet xs with
   | none=>rw [e2] at e; cases e
   | some ns=>rw [e2] at e; cases e; rfl
 ·cases e
theorem zg9 {f:List Sl -> Option (List D)} {x:Str} (hx:bootBuiltins x=some (.type "list")) (hg:Gl X x) (hm:X.mg x=none) (ha:DC c X e f) (hs:starEach [e] X.env=(false,eval e X.env) :: starEach [] X.env:=by rfl) (hn:x ≠ "__name__":=by decide) (hdb:(x == ("__debug__" : Str))=false:=by decide)
  (hpl:(backTo pos (starEach [] X.env)).any (·.1)=false:=by rfl) : DO c X (.Call (.Name x p) [e] [] pos) f :=
 PE.imp (zzp z5q hg hm hx (zdb ha zdp hs) hn hdb hs hpl) fun σ H Q ⟨Hf0,H0,Hf,ρ,ds,st,ef,k⟩ =>
  ⟨Hf0,H0,Hf,ρ,ds,st,ef,fun a vs Hf' H' x q r=>⟨a,vs,rfl,q,fun l hl=>k l vs Hf' (upd H' l (.lst vs)) (x.trans (Ext.tmp x.s hl)) (x.h.free hl) (x.s.free hl) zcd r⟩⟩
noncomputable def tyN : D -> Option String
 | .non=>some "NoneType"
 | .bl _=>some "bool"
 | .int _=>some "int"
 | .str _=>some "str"
 | .lst _=>some "list"
 | .tup _=>some "tuple"
 | .dic _ _=>some "dict"
 | _=>none
noncomputable def zpu (T:String) (d:D) : Option D:=(tyN d).map fun t=>.bl (t == T || (t == "bool" && T == "int"))
theorem z6o {G:Gc} {H:Hp} {d:D} {v:V} {t:String} (e:tyN d=some t) (r:Rep G H d v) : zew G.K H v (.type t):=by
 cases d with
 | non=>cases e; cases r; exact .non
 | bl b=>cases e; cases r; exact .bl b
 | int i=>cases e; cases r; exact .int i
 | str x=>cases e; cases r; exact .str x
 | lst xs=>cases e; obtain ⟨a,vs,e1,q,r⟩:=r; subst e1; exact .lst q
 | tup xs=>cases e; obtain ⟨a,vs,e1,q,r⟩:=r; subst e1; exact .tup q
 | dic ks xs=>cases e; obtain ⟨a,vs,e1,q,l,r⟩:=r; subst e1; exact .dK q
 | _=>cases e
noncomputable def ztw (K:PySem.W.Frag) (T:String) : Prop:=∀ t ∈ ["NoneType","bool","int","str","list","tuple","dict"],PySem.W.kitOne K (.type t) (.type T)=some (t == T || (t == "bool" && T == "int"))
theorem z3j {d:D} {t:String} (e:tyN d=some t) : t ∈ ["NoneType","bool","int","str","list","tuple","dict"]:=by
 cases d <;> first | (cases e; decide) | cases e
noncomputable def zqs (T:String) (f:List Sl -> Option D) (ρ:List Sl) : Option D:=(f ρ).bind (zpu T)
theorem zy8 {f:List Sl -> Option D} {T:String} {q1:Pos} {y:Str} (hk:ztw X.K T) (hg:Gl X "isinstance") (hm:X.mg "isinstance"=none) (hy:bootBuiltins y=some (.type T)) (hgy:Gl X y) (hmy:X.mg y=none) (ha:DB c X e f)
  (hs:starEach [e,.Name y q1] X.env=(false,eval e X.env) :: starEach [.Name y q1] X.env:=by rfl) (hs2:starEach [.Name y q1] X.env=(false,eval (.Name y q1) X.env) :: starEach [] X.env:=by rfl)
  (hn:y ≠ "__name__":=by decide) (hdb:(y == ("__debug__" : Str))=false:=by decide) (hpl:(backTo pos (starEach [.Name y q1] X.env)).any (·.1)=false:=by rfl) :
  DE c X (.Call (.Name "isinstance" p) [e,.Name y q1] [] pos) (zqs T f) :=
 PE.imp (ztd z0a hg hm boot_isinstance (zdb ha (zdb (z1a (v:=.ty T) hgy hmy hy rfl hn hdb) zdp hs2) hs) (by decide) (by decide) hs hpl) fun σ H Q q_=>by
  obtain ⟨Hf0,H0,Hf,ρ,d,st,ef,k⟩:=q_
  unfold zqs at ef
  cases e1 : f ρ with
  | none=>rw [e1] at ef; cases ef
  | some x =>
   rw [e1] at ef
   replace ef : zpu T x=some d:=ef
   unfold zpu at ef
   cases e2 : tyN x with
   | none=>rw [e2] at ef; cases ef
   | some t =>
    rw [e2] at ef
    cases ef
    exact ⟨Hf0,H0,Hf,ρ,x,st,e1,fun v Hf' H' x1 r=>⟨v,T,.type t,_,rfl,z6o e2 r,hk t (z3j e2),k _ Hf' H' x1 rfl⟩⟩
end
noncomputable def tDG (G:Gc) (g:D -> List Sl -> Option (List Sl)) : TG:=fun v σ H Q=>∃ Hf0 H0 Hf ρ d ρ',zaz G Hf0 H0 Hf H σ ρ /\ Rep G Hf d v /\ g d ρ=some ρ' /\ ∀ σ',zaz G Hf0 H0 Hf H σ' ρ' -> Q σ' H
noncomputable def z85 (G:Gc) (g:List D -> List Sl -> Option (List Sl)) : TGs:=fun vs σ H Q=>∃ Hf0 H0 Hf ρ ds ρ',zaz G Hf0 H0 Hf H σ ρ /\ zaq G Hf ds vs /\ g ds ρ=some ρ' /\ ∀ σ',zaz G Hf0 H0 Hf H σ' ρ' -> Q σ' H
structure DG (c:Str -> Addr) (X:Cx) (tg:Expr) (k:Nat) (g:D -> List Sl -> Option (List Sl)) : Prop where
 pg : PG X tg (tDG (Gx c X) g)
 len : ∀ d ρ ρ',g d ρ=some ρ' -> ρ'.length=ρ.length
 keep : ∀ d ρ ρ' i,g d ρ=some ρ' -> k <= i -> ρ'[i]?=ρ[i]?
structure DGs (c:Str -> Addr) (X:Cx) (tg:List Expr) (k:Nat) (g:List D -> List Sl -> Option (List Sl)) : Prop where
 pg : PGs X tg (z85 (Gx c X) g)
 len : ∀ d ρ ρ',g d ρ=some ρ' -> ρ'.length=ρ.length
 keep : ∀ d ρ ρ' i,g d ρ=some ρ' -> k <= i -> ρ'[i]?=ρ[i]?
 many : ∀ ds ρ ρ',g ds ρ=some ρ' -> ds.length=tg.length
section
variable {c:Str -> Addr} {X:Cx} {e:Expr} {es:List Expr} {pos:Pos}
noncomputable def zar (i:Nat) (d:D) (ρ:List Sl) : Option (List Sl):=some (ρ.set i (.im d))
theorem ztr {i k:Nat} (h:PG X e (zhi i)) (hk:i < k) : DG c X e k (zar i) :=
 ⟨PG.imp h fun v σ H Q ⟨Hf0,H0,Hf,ρ,d,ρ',st,r,eg,q⟩=>by cases eg; exact q _ (st.setIm r),fun d ρ ρ' h=>by cases h; simp,fun d ρ ρ' j h hj=>by
  cases h
  rw [List.getElem?_set_ne (by omega)]⟩
theorem zco (i k:Nat) {x:Str} (hN:X.N.Nodup) (hk:i < k:=by decide) (hi:X.N[i]?=some x:=by rfl) (hx:Loc X.env.scope x:=by first | exact Or.inl rfl | exact Or.inr rfl) (hf:X.fn x=true \/ X.env.scope.names.lookup x=some .local:=by first | exact .inl rfl | exact .inr rfl) : DG c X (.Name x pos) k (zar i) :=
 ztr (zue hN hi hx hf) hk
noncomputable def zcj (ds:List D) (ρ:List Sl) : Option (List Sl):=match ds with
 | []=>some ρ
 | _=>none
noncomputable def zba (g:D -> List Sl -> Option (List Sl)) (h:List D -> List Sl -> Option (List Sl)) (ds:List D) (ρ:List Sl) : Option (List Sl):=match ds with
 | d :: ds=>(g d ρ).bind fun ρ1=>h ds ρ1
 | []=>none
theorem zcu {k:Nat} : DGs c X [] k zcj:=by
 refine ⟨PGs.imp z73 fun vs σ H Q ⟨Hf0,H0,Hf,ρ,ds,ρ',st,r,eg,q⟩=>?_,fun d ρ ρ' h=>?_,fun d ρ ρ' i h _=>?_,fun d ρ ρ' h=>?_⟩
 ·cases ds with
  | nil=>cases eg; exact ⟨r,q _ st⟩
  | cons d ds=>cases eg
 ·cases d with
  | nil=>cases h; rfl
  | cons a b=>cases h
 ·cases d with
  | nil=>cases h; rfl
  | cons a b=>cases h
 ·cases d with
  | nil=>cases h; rfl
  | cons a b=>cases h
theorem znq {g:D -> List Sl -> Option (List Sl)} {h:List D -> List Sl -> Option (List Sl)} {ds:List D} {ρ ρ':List Sl} (e:zba g h ds ρ=some ρ') : ∃ d r ρ1,ds=d :: r /\ g d ρ=some ρ1 /\ h r ρ1=some ρ':=by
 cases ds with
 | nil=>cases e
 | cons d r =>
  replace e : (g d ρ).bind _=_:=e
  cases e1 : g d ρ with
  | none=>rw [e1] at e; cases e
  | some ρ1=>rw [e1] at e; exact ⟨d,r,ρ1,rfl,e1,e⟩
theorem zbn {k:Nat} {g:D -> List Sl -> Option (List Sl)} {h:List D -> List Sl -> Option (List Sl)} (h1:DG c X e k g) (h2:DGs c X es k h) (hs:(assignEach (e :: es) X.env).map (·.2)=assign e X.env :: (assignEach es X.env).map (·.2):=by rfl) : DGs c X (e :: es) k (zba g h):=by
 refine ⟨PGs.imp (zxn h1.pg h2.pg hs) fun vs σ H Q ⟨Hf0,H0,Hf,ρ,ds,ρ',st,r,eg,q⟩=>?_,fun d ρ ρ' h=>?_,fun d ρ ρ' i h hi=>?_,fun d ρ ρ' h=>?_⟩
 ·obtain ⟨d,dr,ρ1,rfl,e1,e2⟩:=znq eg
  obtain ⟨v,vr,ev,rv,rr⟩:=r
  exact ⟨v,vr,ev,Hf0,H0,Hf,ρ,d,ρ1,st,rv,e1,fun σ1 st1=>⟨Hf0,H0,Hf,ρ1,dr,ρ',st1,rr,e2,q⟩⟩
 ·obtain ⟨d,dr,ρ1,rfl,e1,e2⟩:=znq h
  rw [h2.len _ _ _ e2,h1.len _ _ _ e1]
 ·obtain ⟨d,dr,ρ1,rfl,e1,e2⟩:=znq h
  rw [h2.keep _ _ _ _ e2 hi,h1.keep _ _ _ _ e1 hi]
 ·obtain ⟨d,dr,ρ1,rfl,e1,e2⟩:=znq h
  rw [List.length_cons,List.length_cons,h2.many _ _ _ e2]
noncomputable def tpD : D -> Option (List D)
 | .tup xs=>some xs
 | .kt xs=>some xs
 | _=>none
theorem zwi {G:Gc} {H:Hp} {d:D} {v:V} {ds:List D} (e:tpD d=some ds) (r:Rep G H d v) : ∃ a vs,v=.ref a /\ SqT G.K H a vs /\ zaq G H ds vs:=by
 cases d with
 | tup xs=>cases e; obtain ⟨a,vs,e1,q,r⟩:=r; exact ⟨a,vs,e1,SqT.of q,r⟩
 | kt xs=>cases e; obtain ⟨a,vs,e1,q,r⟩:=r; exact ⟨a,vs,e1,q,r⟩
 | _=>cases e
noncomputable def zch (g:List D -> List Sl -> Option (List Sl)) (d:D) (ρ:List Sl) : Option (List Sl):=(tpD d).bind fun ds=>g ds ρ
theorem zpv {g:List D -> List Sl -> Option (List Sl)} {d:D} {ρ ρ':List Sl} (h:zch g d ρ=some ρ') : ∃ ds,tpD d=some ds /\ g ds ρ=some ρ':=by
 unfold zch at h
 cases e : tpD d with
 | none=>rw [e] at h; cases h
 | some ds=>rw [e] at h; exact ⟨ds,rfl,h⟩
theorem zcs {k:Nat} {g:List D -> List Sl -> Option (List Sl)} {kk:Nat} (hc:X.calm=true) (h:DGs c X es k g) (hn:(assignEach es X.env).length=es.length:=by rfl) (hst:(assignEach es X.env).findIdx? (·.1)=none:=by rfl) : DG c X (.Tuple es kk pos) k (zch g):=by
 refine ⟨PG.imp (z22 hc h.pg hn hst) fun v σ H Q ⟨Hf0,H0,Hf,ρ,d,ρ',st,r,eg,q⟩=>?_,fun d ρ ρ' h'=>?_,fun d ρ ρ' i h' hi=>?_⟩
 ·obtain ⟨ds,e1,e2⟩:=zpv eg
  obtain ⟨a,vs,ea,qa,ra⟩:=zwi e1 r
  exact ⟨a,vs,ea,st.sub.tup qa,by rw [<- ra.length]; exact h.many _ _ _ e2,Hf0,H0,Hf,ρ,ds,ρ',st,ra,e2,q⟩
 ·obtain ⟨ds,e1,e2⟩:=zpv h'
  exact h.len _ _ _ e2
 ·obtain ⟨ds,e1,e2⟩:=zpv h'
  exact h.keep _ _ _ _ e2 hi
end
noncomputable def zlt (G:Gc) (Hf:Hp) (J:It) (ds:List D) : Prop:=∀ Hf' H',za4 Hf Hf' -> za4 Hf' H' -> ∀ i : Nat,
 (∀ d,ds[i]?=some d -> J.go i H' /\ ∀ x H2,J.yld i H' x H2 -> ∃ Hf2,Ext Hf' H' Hf2 H2 /\ Rep G Hf2 d x) /\ (i=ds.length -> J.stop i H')
noncomputable def zo2 (G:Gc) (Hf H:Hp) (J:It) (ds:List D) : Prop:=∀ Hf' H',Ext Hf H Hf' H' -> ∀ i : Nat,
 (∀ d,ds[i]?=some d -> J.go i H' /\ ∀ x H2,J.yld i H' x H2 -> ∃ Hf2,Ext Hf' H' Hf2 H2 /\ Rep G Hf2 d x) /\ (i=ds.length -> J.stop i H')
theorem zlt.toE {G:Gc} {Hf H:Hp} {J:It} {ds:List D} (h:zlt G Hf J ds) : zo2 G Hf H J ds:=fun Hf' H' x i=>h Hf' H' x.f x.s i
noncomputable def tDI (G:Gc) (f:List Sl -> Option (List D)) : TI:=fun σ H R=>∃ Hf0 H0 Hf ρ ds,zaz G Hf0 H0 Hf H σ ρ /\ f ρ=some ds /\ ∀ J Hf' H',Ext Hf H Hf' H' -> zlt G Hf' J ds -> R J H'
noncomputable def ztf (G:Gc) (f:List Sl -> Option (List D)) : TI:=fun σ H R=>∃ Hf0 H0 Hf ρ ds,zaz G Hf0 H0 Hf H σ ρ /\ f ρ=some ds /\ ∀ J Hf' H',Ext Hf H Hf' H' -> zo2 G Hf' H' J ds -> R J H'
noncomputable def DI (c:Str -> Addr) (X:Cx) (tg iter:Expr) (f:List Sl -> Option (List D)) : Prop:=PI X tg iter (tDI (Gx c X) f)
noncomputable def DIe (c:Str -> Addr) (X:Cx) (tg iter:Expr) (f:List Sl -> Option (List D)) : Prop:=PI X tg iter (ztf (Gx c X) f)
section
variable {c:Str -> Addr} {X:Cx} {tg e a b:Expr} {es:List Expr} {pos p:Pos}
theorem DI.de {f:List Sl -> Option (List D)} (h:DI c X tg e f) : DIe c X tg e f:=PI.imp h fun σ H R q_=>by
 obtain ⟨Hf0,H0,Hf,ρ,ds,st,ef,k⟩:=q_
 exact (⟨Hf0,H0,Hf,ρ,ds,st,ef,fun J Hf' H' x i=>k J Hf' H' x i.toE⟩)
theorem z00 {G:Gc} {Hf H:Hp} {ds:List D} {l:Addr} {vs:List V} (q:SqL G.K H l vs) (r:zaq G Hf ds vs) : zo2 G Hf H (Itl G.K l) ds:=fun Hf' H' xx i=>by
 have q' : SqL G.K H' l vs:=xx.h.seq q
 refine ⟨fun d ed=>?_,fun ei=>⟨vs,q',by rw [<- r.length,ei]; exact Nat.le_refl _⟩⟩
 obtain ⟨v,ev,rv⟩:=r.get ed
 refine ⟨⟨vs,v,q',ev⟩,fun x H2 ⟨e2,y⟩=>?_⟩
 subst e2
 have:=y vs q'
 rw [ev] at this
 cases this
 exact ⟨Hf',Ext.refl xx.s,rv.up xx.f⟩
theorem zxg {G:Gc} {Hf:Hp} {ds:List D} {l:Addr} {vs:List V} (q:SqT G.K Hf l vs) (r:zaq G Hf ds vs) : zlt G Hf (Itt G.K l) ds:=fun Hf' H' f s i=>by
 have q' : SqT G.K H' l vs:=(f.trans s).tup q
 refine ⟨fun d ed=>?_,fun ei=>⟨vs,q',by rw [<- r.length,ei]; exact Nat.le_refl _⟩⟩
 obtain ⟨v,ev,rv⟩:=r.get ed
 refine ⟨⟨vs,v,q',ev⟩,fun x H2 ⟨e2,y⟩=>?_⟩
 subst e2
 have:=y vs q'
 rw [ev] at this
 cases this
 exact ⟨Hf',Ext.refl s,rv.up f⟩
theorem zb1 {f:List Sl -> Option D} (h:DE c X e f) : DI c X tg e (zbh f):=fun pins s σ H R I q_=>by
 obtain ⟨Hf0,H0,Hf,ρ,ds,st,ef,k⟩:=q_
 unfold zbh at ef
 cases e1 : f ρ with
 | none=>rw [e1] at ef; cases ef
 | some d =>
  rw [e1] at ef
  replace ef : zf4 d=some ds:=ef
  have un : ∀ {l:Addr} {H':Hp} {us vs:List V},SqL X.K H' l us -> SqL X.K H' l vs -> us=vs \/ True:=fun _ _=>.inr trivial
  cases e2 : lsD d with
  | some ds' =>
   have : ds'=ds:=by cases d <;> first | (cases e2; done) | (cases e2; cases ef; rfl)
   subst this
   refine zs6 h pins s σ H R I ⟨Hf0,H0,Hf,ρ,d,st,e1,fun v Hf' H' x r=>?_⟩
   obtain ⟨a,vs,ea,q,rs⟩:=zg7 e2 r
   exact ⟨a,ea,⟨vs,x.s.seq q⟩,k _ Hf' H' x fun Hf2 H2 f2 s2 i=>by
    have q' : SqL X.K H2 a vs:=(f2.trans s2).seq q
    refine ⟨fun d ed=>?_,fun ei=>⟨vs,q',by rw [<- rs.length,ei]; exact Nat.le_refl _⟩⟩
    obtain ⟨v,ev,rv⟩:=rs.get ed
    refine ⟨⟨vs,v,q',ev⟩,fun x H3 ⟨e3,y⟩=>?_⟩
    subst e3
    have:=y vs q'
    rw [ev] at this
    cases this
    exact ⟨Hf2,Ext.refl s2,rv.up f2⟩⟩
  | none =>
   have e3 : tpD d=some ds:=by cases d <;> first | (cases e2; done) | (cases ef; done) | (cases ef; rfl)
   refine zy9 h pins s σ H R I ⟨Hf0,H0,Hf,ρ,d,st,e1,fun v Hf' H' x r=>?_⟩
   obtain ⟨a,vs,ea,q,rs⟩:=zwi e3 r
   exact ⟨a,ea,⟨vs,x.s.tup q⟩,k _ Hf' H' x (zxg q rs)⟩
noncomputable def rng (lo:Int) (n:Nat) : List D:=(List.range n).map fun (i:Nat)=>.int (lo + i)
theorem z2f {G:Gc} {Hf:Hp} {lo:Int} {n:Nat} : zlt G Hf (Itr lo n) (rng lo n):=fun Hf' H' f s i=>by
 refine ⟨fun d ed=>?_,fun ei=>?_⟩
 ·unfold rng at ed
  rw [List.getElem?_map] at ed
  cases e : (List.range n)[i]? with
  | none=>rw [e] at ed; cases ed
  | some j =>
   rw [e] at ed
   obtain ⟨hi,ej⟩:=List.getElem?_eq_some_iff.mp e
   rw [List.length_range] at hi
   rw [List.getElem_range] at ej
   subst ej
   cases ed
   exact ⟨hi,fun x H2 ⟨e2,y⟩=>by subst e2; exact ⟨Hf',Ext.refl s,y⟩⟩
 ·unfold rng at ei
  rw [List.length_map,List.length_range] at ei
  exact Nat.le_of_eq ei.symm
noncomputable def zrr : List D -> Option (List D)
 | [.int j]=>if -(2 ^ 62) <= j /\ j < 2 ^ 62 then some (rng 0 j.toNat) else none
 | [.int i,.int j]=>if -(2 ^ 62) <= i /\ i < 2 ^ 62 /\ -(2 ^ 62) <= j /\ j < 2 ^ 62 then some (rng i (j - i).toNat) else none
 | _=>none
noncomputable def zds (f:List Sl -> Option (List D)) (ρ:List Sl) : Option (List D):=(f ρ).bind zrr
theorem zfh {f:List Sl -> Option (List D)} (hg:Gl X "range") (hm:X.mg "range"=none) (ha:DA c X [a] f) (hs:starEach [a] X.env=[(false,eval a X.env)]:=by rfl) : DI c X tg (.Call (.Name "range" p) [a] [] pos) (zds f) :=
 PI.imp (z7t hg hm ha.pa hs) fun σ H R q_=>by
  obtain ⟨Hf0,H0,Hf,ρ,ds,st,ef,k⟩:=q_
  unfold zds at ef
  cases e1 : f ρ with
  | none=>rw [e1] at ef; cases ef
  | some as =>
   rw [e1] at ef
   replace ef : zrr as=some ds:=ef
   have hl:=ha.len ρ as e1
   refine ⟨Hf0,H0,Hf,ρ,as,st,e1,fun vs Hf' H' x r=>?_⟩
   unfold zrr at ef
   split at ef
   ·split at ef
    ·rename_i j hj
     cases ef
     obtain ⟨v,ev,rv⟩:=r.one
     cases (show v=V.int j from rv)
     exact ⟨j,ev,hj.1,hj.2,k _ Hf' H' x z2f⟩
    ·cases ef
   ·cases hl
   ·cases ef
end
noncomputable def zdk (k:Nat) (js:List Nat) (ρ:List Sl) : List Sl:=List.replicate k .no ++ js.map fun j=>(ρ[j]?).getD .no
section
variable {G:Gc} {Hf0 H0 Hf H:Hp} {σ:St} {ρ:List Sl}
theorem zaz.weak {ρ':List Sl} (h:zaz G Hf0 H0 Hf H σ ρ) (hl:ρ'.length=ρ.length) (hw:∀ (i:Nat) (s:Sl),ρ'[i]?=some s -> s=.no \/ ρ[i]?=some s) : zaz G Hf0 H0 Hf H σ ρ':=by
 refine ⟨h.ext,h.len.trans hl.symm,fun i v s a b=>?_,fun i j s t l a b hs ht c d=>?_⟩
 ·rcases hw i s b with e | e
  ·subst e; trivial
  ·exact h.at' i v s a e
 ·rcases hw i s a with e | e
  ·subst e; cases hs
  ·rcases hw j t b with e' | e'
   ·subst e'; cases ht
   ·exact h.inj i j s t l e e' hs ht c d
theorem zn8 {α : Type} {k:Nat} {x:α} {l:List α} {i:Nat} {y:α} (h:(List.replicate k x ++ l)[i]?=some y) : (i < k /\ y=x) \/ (k <= i /\ l[i - k]?=some y):=by
 by_cases hi : i < k
 ·left
  rw [List.getElem?_append_left (by simpa using hi),List.getElem?_replicate,if_pos hi] at h
  exact ⟨hi,(Option.some.inj h).symm⟩
 ·right
  rw [List.getElem?_append_right (by simpa using Nat.le_of_not_lt hi),List.length_replicate] at h
  exact ⟨Nat.le_of_not_lt hi,h⟩
theorem ziw {α β : Type} {f:α -> β} {l:List α} {i:Nat} {y:β} (h:(l.map f)[i]?=some y) : ∃ x,l[i]?=some x /\ y=f x:=by
 rw [List.getElem?_map] at h
 cases e : l[i]? with
 | none=>rw [e] at h; cases h
 | some x=>rw [e] at h; exact ⟨x,rfl,(Option.some.inj h).symm⟩
theorem z1t {js:List Nat} (h:js.Nodup) {i j x:Nat} (a:js[i]?=some x) (b:js[j]?=some x) : i=j:=by
 obtain ⟨h1,e1⟩:=List.getElem?_eq_some_iff.mp a
 obtain ⟨h2,e2⟩:=List.getElem?_eq_some_iff.mp b
 exact (List.getElem_inj h).mp (e1.trans e2.symm)
theorem zaz.comp (k:Nat) {js:List Nat} (h:zaz G Hf0 H0 Hf H σ ρ) (hj:js.Nodup) : zaz G Hf0 H0 Hf H (zf9 k js σ) (zdk k js ρ):=by
 have own : ∀ (i:Nat) (s:Sl),(zdk k js ρ)[i]?=some s -> s.isOwn=true -> ∃ j,k <= i /\ js[i - k]?=some j /\ ρ[j]?=some s:=fun i s a hs=>by
  rcases zn8 a with ⟨_,e⟩ | ⟨hi,a⟩
  ·subst e; cases hs
  ·obtain ⟨j,ej,es⟩:=ziw a
   cases e : ρ[j]? with
   | none=>rw [e] at es; subst es; cases hs
   | some t=>rw [e] at es; replace es : s=t:=es; subst es; exact ⟨j,hi,ej,e⟩
 have val : ∀ (i:Nat) (v:Option V) (j:Nat),(zf9 k js σ)[i]?=some v -> k <= i -> js[i - k]?=some j -> v=(σ[j]?).getD none:=fun i v j a hi ej=>by
  rcases zn8 a with ⟨hi',_⟩ | ⟨_,a⟩
  ·omega
  ·obtain ⟨j',ej',es⟩:=ziw a
   rw [ej] at ej'; cases ej'
   exact es
 refine ⟨h.ext,by simp [zf9,zdk],fun i v s a b=>?_,fun i j s t l a b hs ht c d=>?_⟩
 ·rcases zn8 b with ⟨_,e⟩ | ⟨hi,b⟩
  ·subst e; trivial
  ·obtain ⟨j,ej,es⟩:=ziw b
   have ev:=val i v j a hi ej
   cases e : ρ[j]? with
   | none=>rw [e] at es; subst es; trivial
   | some t =>
    rw [e] at es
    replace es : s=t:=es
    subst es
    obtain ⟨u,eu,q⟩:=h.slot e
    rw [eu] at ev
    replace ev : v=u:=ev
    subst ev
    exact q
 ·obtain ⟨i',hi,ei,e1⟩:=own i s a hs
  obtain ⟨j',hj',ej,e2⟩:=own j t b ht
  have v1:=val i _ i' c hi ei
  have v2:=val j _ j' d hj' ej
  obtain ⟨u1,eu1,_⟩:=h.slot e1
  obtain ⟨u2,eu2,_⟩:=h.slot e2
  rw [eu1] at v1
  rw [eu2] at v2
  replace v1 : some (V.ref l)=u1:=v1
  replace v2 : some (V.ref l)=u2:=v2
  subst v1 v2
  have:=h.inj i' j' s t l e1 e2 hs ht eu1 eu2
  subst this
  have:=z1t hj ei ej
  omega
end
noncomputable def ze4 (h:D -> Option (Option D)) : List D -> Option (List D)
 | []=>some []
 | d :: ds=>(h d).bind fun o=>(ze4 h ds).map fun r=>match o with
  | some y=>y :: r
  | none=>r
theorem z8l {h:D -> Option (Option D)} {d:D} {ds r:List D} (e:ze4 h (d :: ds)=some r) : ∃ o r',h d=some o /\ ze4 h ds=some r' /\ r=(match o with | some y=>y :: r' | none=>r'):=by
 unfold ze4 at e
 cases e1 : h d with
 | none=>rw [e1] at e; cases e
 | some o =>
  cases e2 : ze4 h ds with
  | none=>rw [e1,e2] at e; cases e
  | some r' =>
   rw [e1,e2] at e
   cases e
   refine ⟨o,r',rfl,rfl,?_⟩
   cases o <;> rfl
noncomputable def ze9 (g:D -> List Sl -> Option (List Sl)) (ft:List Sl -> Option Bool) (fe:List Sl -> Option D) (ρ:List Sl) (d:D) : Option (Option D):=(g d ρ).bind fun ρ1=>(ft ρ1).bind fun b=>if b then (fe ρ1).map some else some none
noncomputable def za6 (k:Nat) (js:List Nat) (fi:List Sl -> Option (List D)) (g:D -> List Sl -> Option (List Sl)) (ft:List Sl -> Option Bool) (fe:List Sl -> Option D) (ρ:List Sl) : Option (List D) :=
 (fi ρ).bind fun ds=>if ds.length <= 16777216 then ze4 (ze9 g ft fe (zdk k js ρ)) ds else none
theorem zuu {α : Type} {l:List α} {i:Nat} (h:i < l.length) : ∃ x,l[i]?=some x /\ l.drop i=x :: l.drop (i + 1):=⟨l[i],by simp [h],(List.drop_eq_getElem_cons h)⟩
noncomputable def DTs (c:Str -> Addr) (X:Cx) (ifs:List Expr) (f:List Sl -> Option Bool) : Prop:=PTs X ifs (tDT (Gx c X) f)
section
variable {c:Str -> Addr} {X:Cx} {elt tg iter e:Expr} {ifs:List Expr} {scope:Scope} {pos:Pos} {Nc:List Str} {k:Nat} {js:List Nat}
 {fi:List Sl -> Option (List D)} {g:D -> List Sl -> Option (List Sl)} {ft:List Sl -> Option Bool} {fe:List Sl -> Option D}
theorem zcl : DTs c X [] (fun _=>some true):=PTs.imp z8t fun σ H Q q_=>by
 obtain ⟨Hf0,H0,Hf,ρ,b,st,ef,k⟩:=q_
 exact (by cases ef; exact k Hf H (Ext.refl st.sub))
theorem zdt {f:List Sl -> Option Bool} (h:DT c X e f) : DTs c X [e] f:=z6p h
theorem zo7 {G:Gc} (hj:js.Nodup) (hk:∀ d ρ ρ' i,g d ρ=some ρ' -> k <= i -> ρ'[i]?=ρ[i]?) (hlen:∀ d ρ ρ',g d ρ=some ρ' -> ρ'.length=ρ.length) {σ:St} {H:Hp} {Q:VK} (h:tDO G (za6 k js fi g ft fe) σ H Q) :
  zq8 k js (ztf G fi) (tDG G g) (tDT G ft) (tD G fe) σ H Q:=by
 obtain ⟨Hf0,H0,Hf,ρ,rs,st,ef,kq⟩:=h
 unfold za6 at ef
 cases e1 : fi ρ with
 | none=>rw [e1] at ef; cases ef
 | some ds =>
  rw [e1] at ef
  replace ef : (if ds.length <= 16777216 then ze4 (ze9 g ft fe (zdk k js ρ)) ds else none)=some rs:=ef
  by_cases hz : ds.length <= 16777216
  ·rw [if_pos hz] at ef
   refine ⟨Hf0,H0,Hf,ρ,ds,st,e1,fun J Hf1 H1 x1 it=>?_⟩
   refine ⟨fun i m ys σ' H'=>m=ds.length - i /\ i <= ds.length /\ ∃ Hf' as zcm,Ext Hf1 H1 Hf' H' /\ zaz G Hf0 H0 Hf' H' σ' (zdk k js ρ) /\ zaq G Hf' as ys /\ ze4 (ze9 g ft fe (zdk k js ρ)) (ds.drop i)=some zcm /\ rs=as ++ zcm /\ as.length <= i,
    ⟨ds.length,rfl,Nat.zero_le _,Hf1,[],rs,Ext.refl x1.s,(st.step x1).comp k hj,rfl,ef,rfl,Nat.le_refl _⟩,?_⟩
   rintro i m ys σ' H' ⟨rfl,hi,Hf',as,zcm,x2,st2,ra,ec,er,hal⟩
   have hys : ys.length <= sizeLine:=by rw [sizeLine_eq,<- ra.length]; omega
   obtain ⟨it1,it2⟩:=it Hf' H' x2 i
   by_cases hlt : i < ds.length
   ·obtain ⟨d,ed,edr⟩:=zuu hlt
    obtain ⟨go,yl⟩:=it1 d ed
    refine .inr ⟨go,hys,fun ys' σ2 H2=>ds.length - (i + 1)=ds.length - (i + 1) /\ i + 1 <= ds.length /\ ∃ Hf' as zcm,Ext Hf1 H1 Hf' H2 /\ zaz G Hf0 H0 Hf' H2 σ2 (zdk k js ρ) /\ zaq G Hf' as ys' /\ ze4 (ze9 g ft fe (zdk k js ρ)) (ds.drop (i + 1))=some zcm /\ rs=as ++ zcm /\ as.length <= i + 1,
     fun ys' σ2 H2 w=>⟨ds.length - (i + 1),by omega,w⟩,fun x H2 y=>?_⟩
    obtain ⟨Hf2,x3,rx⟩:=yl x H2 y
    rw [edr] at ec
    obtain ⟨o,r',eo,ec',erest⟩:=z8l ec
    unfold ze9 at eo
    cases eg : g d (zdk k js ρ) with
    | none=>rw [eg] at eo; cases eo
    | some ρ1 =>
     rw [eg] at eo
     replace eo : (ft ρ1).bind _=_:=eo
     cases et : ft ρ1 with
     | none=>rw [et] at eo; cases eo
     | some b =>
      rw [et] at eo
      replace eo : (if b=true then (fe ρ1).map some else some none)=some o:=eo
      refine ⟨Hf0,H0,Hf2,zdk k js ρ,d,ρ1,st2.step x3,rx,eg,fun σ3 st3=>⟨Hf0,H0,Hf2,ρ1,b,st3,et,fun Hf4 H4 x4=>?_⟩⟩
      have back : ∀ {Hf5 H5:Hp},zaz G Hf0 H0 Hf5 H5 σ3 ρ1 -> zaz G Hf0 H0 Hf5 H5 σ3 (zdk k js ρ):=fun {Hf5 H5} s5=>s5.weak (hlen _ _ _ eg).symm fun j s hs=>by
       rcases zn8 hs with ⟨_,e⟩ | ⟨hj',_⟩
       ·exact .inl e
       ·exact .inr (by rw [hk _ _ _ _ eg hj']; exact hs)
      cases b with
      | true =>
       rw [if_pos rfl] at eo
       refine zt7 ?_
       cases ee : fe ρ1 with
       | none=>rw [ee] at eo; cases eo
       | some y' =>
        rw [ee] at eo
        cases eo
        refine ⟨Hf0,H0,Hf4,ρ1,y',st3.step x4,ee,fun v Hf5 H5 x5 r5=>?_⟩
        have x:=(x3.trans x4).trans x5
        refine ⟨rfl,hlt,Hf5,as ++ [y'],r',x2.trans x,back ((st3.step x4).step x5),(ra.up x.f).append (.cons r5 .nil),ec',?_,by rw [List.length_append,List.length_singleton]; omega⟩
        rw [er,erest,List.append_assoc]
        rfl
      | false =>
       rw [if_neg Bool.false_ne_true] at eo
       refine zr4 ?_
       cases eo
       have x:=x3.trans x4
       exact ⟨rfl,hlt,Hf4,as,r',x2.trans x,back (st3.step x4),ra.up x.f,ec',by rw [er,erest],by omega⟩
   ·have ei : i=ds.length:=by omega
    subst ei
    refine .inl ⟨it2 rfl,hys,fun l h1 h2=>?_⟩
    rw [List.drop_eq_nil_of_le (Nat.le_refl _)] at ec
    cases ec
    rw [List.append_nil] at er
    subst er
    have x:=x1.trans x2
    exact kq l ys Hf' (upd H' l (.lst ys)) (x.trans (Ext.tmp x.s h2)) (x.h.free h2) (x.s.free h2) zcd ra
  ·rw [if_neg hz] at ef
   cases ef
theorem zca (k:Nat) (js:List Nat) (Nc:List Str) (hc:X.calm=true) (hi:DIe c X tg iter fi) (hg:∀ cl C ex s₂ H₂,DG c (X.comp scope Nc cl C ex s₂ H₂) tg k g) (ht:∀ cl C ex s₂ H₂,DTs c (X.comp scope Nc cl C ex s₂ H₂) ifs ft)
  (he:∀ cl C ex s₂ H₂,DE c (X.comp scope Nc cl C ex s₂ H₂) elt fe) (ck:ziu scope X.env.scope.names X.N Nc k js=true:=by rfl) (hs:∀ x,foldedSetIterable iter X.env x=pure x:=by intro _; rfl) (hj:js.Nodup:=by decide) :
  DO c X (.ListComp elt [⟨tg,iter,ifs,0⟩] scope pos) (za6 k js fi g ft fe) :=
 PE.imp (z84 (g:=tDG (Gx c X) g) (tt:=tDT (Gx c X) ft) (te:=tD (Gx c X) fe) k js Nc hc hi (fun cl C ex s₂ H₂=>(hg cl C ex s₂ H₂).pg) ht he ck hs) fun σ H Q h =>
  zo7 hj (hg [] 0 [] X.s₀ X.H₀).keep (hg [] 0 [] X.s₀ X.H₀).len h
end
section
variable {c:Str -> Addr} {X:Cx} {tg:Expr} {scope:Scope} {Nc:List Str} {cl:List (Str × Addr)} {C:Addr} {ex:List Addr} {s₂:Shared} {H₂:Hp}
theorem dvc (i:Nat) {x:Str} {pos:Pos} (hN:Nc[i]?=some x:=by rfl) (hv:Vis scope x:=by first | exact Or.inl rfl | exact Or.inr (Or.inl rfl) | exact Or.inr (Or.inr rfl)) (hd:(x == ("__debug__" : Str))=false:=by decide)
  (hcd:(x == ("__classdict__" : Str))=false:=by decide) : DE c (X.comp scope Nc cl C ex s₂ H₂) (.Name x pos) (zaa i):=zve (pvc i hN hv hd hcd)
theorem z4d (i:Nat) {x:Str} {pos:Pos} (hN:Nc[i]?=some x:=by rfl) (hv:Vis scope x:=by first | exact Or.inl rfl | exact Or.inr (Or.inl rfl) | exact Or.inr (Or.inr rfl)) (hd:(x == ("__debug__" : Str))=false:=by decide)
  (hcd:(x == ("__classdict__" : Str))=false:=by decide) : DB c (X.comp scope Nc cl C ex s₂ H₂) (.Name x pos) (zgg i):=zt4 (pvc i hN hv hd hcd)
theorem zc5 (i:Nat) {x:Str} {pos:Pos} (hN:Nc[i]?=some x:=by rfl) (hv:Vis scope x:=by first | exact Or.inl rfl | exact Or.inr (Or.inl rfl) | exact Or.inr (Or.inr rfl)) (hd:(x == ("__debug__" : Str))=false:=by decide)
  (hcd:(x == ("__classdict__" : Str))=false:=by decide) : DC c (X.comp scope Nc cl C ex s₂ H₂) (.Name x pos) (zaf i):=zut (pvc i hN hv hd hcd)
theorem dgc (i k:Nat) {x:Str} {pos:Pos} (hk:i < k:=by decide) (hN:Nc.Nodup:=by decide +kernel) (hi:Nc[i]?=some x:=by rfl) (hl:scope.names.lookup x=some .local:=by rfl) : DG c (X.comp scope Nc cl C ex s₂ H₂) (.Name x pos) k (zar i) :=
 ztr (pgc i hN hi hl) hk
end
inductive Fl where
 | nx (ρ:List Sl)
 | bk (ρ:List Sl)
 | ct (ρ:List Sl)
 | rt (d:D)
 | rtO (ds:List D)
 | rtS (d:D) (ρ:List Sl)
noncomputable def zoa (G:Gc) (Hf0 H0 Hf:Hp) (E:zhc) : Fl -> Prop
 | .nx ρ'=>∀ σ' Hf' H',za4 Hf Hf' -> zaz G Hf0 H0 Hf' H' σ' ρ' -> E.nx σ' H'
 | .bk ρ'=>∀ σ' Hf' H',za4 Hf Hf' -> zaz G Hf0 H0 Hf' H' σ' ρ' -> E.bk σ' H'
 | .ct ρ'=>∀ σ' Hf' H',za4 Hf Hf' -> zaz G Hf0 H0 Hf' H' σ' ρ' -> E.ct σ' H'
 | .rt d=>∀ v Hf' H',Ext Hf0 H0 Hf' H' -> Rep G Hf' d v -> E.rt v H'
 | .rtO ds=>∀ l vs Hf' H',Ext Hf0 H0 Hf' H' -> H0 l=none -> Hf' l=none -> H' l=some (.lst vs) -> zaq G Hf' ds vs -> E.rt (.ref l) H'
 | .rtS d ρ=>∀ v σ' Hf' H',zaz G Hf0 H0 Hf' H' σ' ρ -> Rep G Hf' d v -> E.rt v H'
noncomputable def tDS (G:Gc) (F:List Sl -> Option Fl) : TS:=fun E σ H=>∃ Hf0 H0 Hf ρ o,zaz G Hf0 H0 Hf H σ ρ /\ F ρ=some o /\ zoa G Hf0 H0 Hf E o
noncomputable def DS (c:Str -> Addr) (X:Cx) (st:Stmt) (F:List Sl -> Option Fl) : Prop:=PS X st (tDS (Gx c X) F)
noncomputable def DSs (c:Str -> Addr) (X:Cx) (st:List Stmt) (F:List Sl -> Option Fl) : Prop:=PSs X st (tDS (Gx c X) F)
noncomputable def zbf (ρ:List Sl) : Option Fl:=some (.nx ρ)
noncomputable def zai (F F':List Sl -> Option Fl) (ρ:List Sl) : Option Fl:=(F ρ).bind fun o=>match o with
 | .nx ρ'=>F' ρ'
 | o=>some o
noncomputable def za7 (t:List Sl -> Option Bool) (F F':List Sl -> Option Fl) (ρ:List Sl) : Option Fl:=(t ρ).bind fun b=>if b then F ρ else F' ρ
noncomputable def zbc (i:Nat) (f:List Sl -> Option D) (ρ:List Sl) : Option Fl:=(f ρ).map fun d=>.nx (ρ.set i (.im d))
noncomputable def zdd (i:Nat) (f:List Sl -> Option (List D)) (ρ:List Sl) : Option Fl:=(f ρ).map fun d=>.nx (ρ.set i (.own d))
noncomputable def zav (f:List Sl -> Option D) (ρ:List Sl) : Option Fl:=(f ρ).map .rt
noncomputable def zgu (f:List Sl -> Option (List D)) (ρ:List Sl) : Option Fl:=(f ρ).map .rtO
noncomputable def ze5 (i:Nat) (ρ:List Sl) : Option Fl:=match ρ[i]? with
 | some (.im d)=>some (.rt d)
 | some (.own xs)=>some (.rtO xs)
 | _=>none
noncomputable def zfq (g:D -> List Sl -> Option (List Sl)) (F:List Sl -> Option Fl) : List D -> List Sl -> Option Fl
 | [],ρ=>some (.nx ρ)
 | d :: ds,ρ=>(g d ρ).bind fun ρ1=>(F ρ1).bind fun o=>match o with
  | .nx ρ2=>zfq g F ds ρ2
  | .ct ρ2=>zfq g F ds ρ2
  | .bk ρ2=>some (.nx ρ2)
  | .rt d=>some (.rt d)
  | .rtO d=>some (.rtO d)
  | .rtS d ρ2=>some (.rtS d ρ2)
noncomputable def zdf (fi:List Sl -> Option (List D)) (g:D -> List Sl -> Option (List Sl)) (F:List Sl -> Option Fl) (ρ:List Sl) : Option Fl:=(fi ρ).bind fun ds=>zfq g F ds ρ
noncomputable def zf8 (t:List Sl -> Option Bool) (F:List Sl -> Option Fl) : Nat -> List Sl -> Option Fl
 | 0,_=>none
 | n + 1,ρ=>(t ρ).bind fun b=>if b then (F ρ).bind fun o=>match o with
   | .nx ρ2=>zf8 t F n ρ2
   | .ct ρ2=>zf8 t F n ρ2
   | .bk ρ2=>some (.nx ρ2)
   | .rt d=>some (.rt d)
   | .rtO d=>some (.rtO d)
   | .rtS d ρ2=>some (.rtS d ρ2)
  else some (.nx ρ)
noncomputable def zm4 (i:Nat) (ρ:List Sl) : List Sl:=match ρ[i]? with
 | some (.own xs)=>ρ.set i (.im (.lst xs))
 | some (.ownd ks xs)=>ρ.set i (.im (.dic ks xs))
 | some (.obj c ns xs)=>ρ.set i (.im (.ins c ns xs))
 | _=>ρ
noncomputable def zex (i:Nat) (F:List Sl -> Option Fl) (ρ:List Sl) : Option Fl:=F (zm4 i ρ)
noncomputable def ze0 (i:Nat) (f:List Sl -> Option D) (ρ:List Sl) : Option Fl:=(f ρ).bind fun d=>match ρ[i]? with
 | some (.own xs)=>if xs.length < 16777216 then some (.nx (ρ.set i (.own (xs ++ [d])))) else none
 | _=>none
noncomputable def zig (f:List Sl -> Option D) (ρ:List Sl) : Option (List D):=(f ρ).bind fun d=>match d with
 | .lst xs=>some xs
 | _=>none
noncomputable def zir (i:Nat) (f:List Sl -> Option (List D)) (ρ:List Sl) : Option Fl:=(f ρ).bind fun ds=>match ρ[i]? with
 | some (.own xs)=>if xs.length + ds.length <= 16777216 then some (.nx (ρ.set i (.own (xs ++ ds)))) else none
 | _=>none
section
variable {c:Str -> Addr} {X:Cx} {st:Stmt} {sts a b:List Stmt} {e cd tg iter:Expr} {pos:Pos} {F F':List Sl -> Option Fl}
theorem zbk : DSs c X [] zbf:=PSs.imp zsz fun E σ H q_=>by
 obtain ⟨Hf0,H0,Hf,ρ,o,so,ef,k⟩:=q_
 exact (by cases ef; exact k σ Hf H (za4.refl _) so)
theorem zoa.up {G:Gc} {Hf0 H0 Hf Hf':Hp} {E:zhc} {o:Fl} (h:zoa G Hf0 H0 Hf E o) (s:za4 Hf Hf') : zoa G Hf0 H0 Hf' E o:=by
 cases o with
 | nx ρ=>exact fun σ' Hf2 H2 s2 q=>h σ' Hf2 H2 (s.trans s2) q
 | bk ρ=>exact fun σ' Hf2 H2 s2 q=>h σ' Hf2 H2 (s.trans s2) q
 | ct ρ=>exact fun σ' Hf2 H2 s2 q=>h σ' Hf2 H2 (s.trans s2) q
 | rt d=>exact h
 | rtO d=>exact h
 | rtS d ρ=>exact h
theorem zaj (h1:DS c X st F) (h2:DSs c X sts F') : DSs c X (st :: sts) (zai F F'):=PSs.imp (zts h1 h2) fun E σ H q_=>by
 obtain ⟨Hf0,H0,Hf,ρ,o,so,ef,k⟩:=q_
 unfold zai at ef
 cases e1 : F ρ with
 | none=>rw [e1] at ef; cases ef
 | some o1 =>
  rw [e1] at ef
  refine ⟨Hf0,H0,Hf,ρ,o1,so,e1,?_⟩
  cases o1 with
  | nx ρ1=>exact fun σ1 Hf1 H1 s1 so1=>⟨Hf0,H0,Hf1,ρ1,o,so1,ef,k.up s1⟩
  | bk ρ1=>cases ef; exact k
  | ct ρ1=>cases ef; exact k
  | rt d=>cases ef; exact k
  | rtO d=>cases ef; exact k
  | rtS d ρ1=>cases ef; exact k
theorem zan (h1:DS c X st F) : DSs c X [st] F:=z31 h1
theorem zbe {t:List Sl -> Option Bool} (hc:DT c X cd t) (ha:DSs c X a F) (hb:DSs c X b F') : DS c X (.If cd a b pos) (za7 t F F'):=PS.imp (z8v hc ha hb) fun E σ H q_=>by
 obtain ⟨Hf0,H0,Hf,ρ,o,so,ef,k⟩:=q_
 unfold za7 at ef
 cases e1 : t ρ with
 | none=>rw [e1] at ef; cases ef
 | some x =>
  rw [e1] at ef
  refine ⟨Hf0,H0,Hf,ρ,x,so,e1,fun Hf1 H1 x1=>?_⟩
  cases x with
  | true=>rw [if_pos rfl]; exact ⟨Hf0,H0,Hf1,ρ,o,so.step x1,ef,k.up x1.f⟩
  | false=>rw [if_neg Bool.false_ne_true]; exact ⟨Hf0,H0,Hf1,ρ,o,so.step x1,ef,k.up x1.f⟩
theorem zuy {te:TE} {i:Nat} {f:List Sl -> Option D} (hp:PS X st (zic te (zhi i))) (hi:∀ σ H Q,tD (Gx c X) f σ H Q -> te σ H Q) : DS c X st (zbc i f):=PS.imp hp fun E σ H q_=>by
 obtain ⟨Hf0,H0,Hf,ρ,o,so,ef,k⟩:=q_
 unfold zbc at ef
 cases e1 : f ρ with
 | none=>rw [e1] at ef; cases ef
 | some d =>
  rw [e1] at ef
  cases ef
  exact hi _ _ _ ⟨Hf0,H0,Hf,ρ,d,so,e1,fun v Hf' H' x r=>k _ Hf' H' x.f ((so.step x).setIm r)⟩
theorem zt8 {te:TE} {i:Nat} {f:List Sl -> Option (List D)} (hp:PS X st (zic te (zhi i))) (hi:∀ σ H Q,tDO (Gx c X) f σ H Q -> te σ H Q) : DS c X st (zdd i f):=PS.imp hp fun E σ H q_=>by
 obtain ⟨Hf0,H0,Hf,ρ,o,so,ef,k⟩:=q_
 unfold zdd at ef
 cases e1 : f ρ with
 | none=>rw [e1] at ef; cases ef
 | some d =>
  rw [e1] at ef
  cases ef
  exact hi _ _ _ ⟨Hf0,H0,Hf,ρ,d,so,e1,fun l vs Hf' H' x hn hf hl r=>k _ Hf' H' x.f (so.setOwn (s:=.own d) rfl x hn hf ⟨vs,hl,r⟩)⟩
theorem zb5 (i:Nat) {x:Str} {f:List Sl -> Option D} {pos':Pos} (hN:X.N.Nodup) (he:DE c X e f) (hi:X.N[i]?=some x:=by rfl) (hx:Loc X.env.scope x:=by first | exact Or.inl rfl | exact Or.inr rfl) (hs:swapsWith e (some (.Name x pos')) pos.line X.env=pure false:=by rfl) (hf:X.fn x=true \/ X.env.scope.names.lookup x=some .local:=by first | exact .inl rfl | exact .inr rfl) :
  DS c X (.Assign [.Name x pos'] e pos) (zbc i f):=zuy (znu hN hi hx he hs hf) fun _ _ _ h=>h
theorem zfr (i:Nat) {x:Str} {f:List Sl -> Option (List D)} {pos':Pos} (hN:X.N.Nodup) (he:DO c X e f) (hi:X.N[i]?=some x:=by rfl) (hx:Loc X.env.scope x:=by first | exact Or.inl rfl | exact Or.inr rfl) (hs:swapsWith e (some (.Name x pos')) pos.line X.env=pure false:=by rfl) (hf:X.fn x=true \/ X.env.scope.names.lookup x=some .local:=by first | exact .inl rfl | exact .inr rfl) :
  DS c X (.Assign [.Name x pos'] e pos) (zdd i f):=zt8 (znu hN hi hx he hs hf) fun _ _ _ h=>h
theorem z4z {G:Gc} {f:List Sl -> Option (List D)} {σ:St} {H:Hp} {Q:VK} (h:tD G (zak f) σ H Q) : tDO G f σ H Q:=by
 obtain ⟨Hf0,H0,Hf,ρ,d,st,ef,k⟩:=h
 unfold zak at ef
 cases ed : f ρ with
 | none=>rw [ed] at ef; cases ef
 | some ds =>
  rw [ed] at ef
  have ef : D.lst ds=d:=Option.some.inj ef
  subst ef
  exact ⟨Hf0,H0,Hf,ρ,ds,st,ed,fun l vs Hf' H' x hn hf hl r=>k _ (upd Hf' l (.lst vs)) H' (x.fix hn hf hl) ⟨l,vs,rfl,zcd,r.up (zc3 hf)⟩⟩
theorem zow (i:Nat) {x:Str} {pos' spos:Pos} {elt:Expr} {ifs:List Expr} {scope:Scope} {fi:List Sl -> Option (List D)} {g:D -> List Sl -> Option (List Sl)} {ft:List Sl -> Option Bool} {fe:List Sl -> Option D} (k:Nat) (js:List Nat) (Nc:List Str) (hN:X.N.Nodup) (hc:X.calm=true) (hi:DIe c X tg iter fi)
  (hg:∀ cl C ex s₂ H₂,DG c (X.comp scope Nc cl C ex s₂ H₂) tg k g) (ht:∀ cl C ex s₂ H₂,DTs c (X.comp scope Nc cl C ex s₂ H₂) ifs ft) (he:∀ cl C ex s₂ H₂,DE c (X.comp scope Nc cl C ex s₂ H₂) elt fe)
  (hi':X.N[i]?=some x:=by rfl) (hx:Loc X.env.scope x:=by first | exact Or.inl rfl | exact Or.inr rfl)
  (hsw:swapsWith (.ListComp elt [⟨tg,iter,ifs,0⟩] scope pos) (some (.Name x pos')) spos.line X.env=pure true:=by rfl)
  (ck:ziu scope X.env.scope.names X.N Nc k js=true:=by rfl) (hs:∀ x,foldedSetIterable iter X.env x=pure x:=by intro _; rfl) (hj:js.Nodup:=by decide)
  (hf:X.fn x=true \/ X.env.scope.names.lookup x=some .local:=by first | exact .inl rfl | exact .inr rfl) :
  DS c X (.Assign [.Name x pos'] (.ListComp elt [⟨tg,iter,ifs,0⟩] scope pos) spos) (zdd i (za6 k js fi g ft fe)) :=
 zt8 (zwp (g:=tDG (Gx c X) g) (tt:=tDT (Gx c X) ft) (te:=tD (Gx c X) fe) k js Nc hN hi' hx hc hi (fun cl C ex s₂ H₂=>(hg cl C ex s₂ H₂).pg) ht he hsw ck hs hf) fun σ H Q h=>zo7 hj (hg [] 0 [] X.s₀ X.H₀).keep (hg [] 0 [] X.s₀ X.H₀).len h
theorem zgi (i:Nat) {x:Str} {pos' spos:Pos} {elt:Expr} {ifs:List Expr} {scope:Scope} {fi:List Sl -> Option (List D)} {g:D -> List Sl -> Option (List Sl)} {ft:List Sl -> Option Bool} {fe:List Sl -> Option D} (k:Nat) (js:List Nat) (Nc:List Str) (hN:X.N.Nodup) (hc:X.calm=true) (hi:DIe c X tg iter fi)
  (hg:∀ cl C ex s₂ H₂,DG c (X.comp scope Nc cl C ex s₂ H₂) tg k g) (ht:∀ cl C ex s₂ H₂,DTs c (X.comp scope Nc cl C ex s₂ H₂) ifs ft) (he:∀ cl C ex s₂ H₂,DE c (X.comp scope Nc cl C ex s₂ H₂) elt fe)
  (hi':X.N[i]?=some x:=by rfl) (hx:Loc X.env.scope x:=by first | exact Or.inl rfl | exact Or.inr rfl)
  (hsw:swapsWith (.ListComp elt [⟨tg,iter,ifs,0⟩] scope pos) (some (.Name x pos')) spos.line X.env=pure true:=by rfl)
  (ck:ziu scope X.env.scope.names X.N Nc k js=true:=by rfl) (hs:∀ x,foldedSetIterable iter X.env x=pure x:=by intro _; rfl) (hj:js.Nodup:=by decide)
  (hf:X.fn x=true \/ X.env.scope.names.lookup x=some .local:=by first | exact .inl rfl | exact .inr rfl) :
  DS c X (.Assign [.Name x pos'] (.ListComp elt [⟨tg,iter,ifs,0⟩] scope pos) spos) (zbc i (zak (za6 k js fi g ft fe))) :=
 zuy (zwp (g:=tDG (Gx c X) g) (tt:=tDT (Gx c X) ft) (te:=tD (Gx c X) fe) k js Nc hN hi' hx hc hi (fun cl C ex s₂ H₂=>(hg cl C ex s₂ H₂).pg) ht he hsw ck hs hf) fun σ H Q h=>zo7 hj (hg [] 0 [] X.s₀ X.H₀).keep (hg [] 0 [] X.s₀ X.H₀).len (z4z h)
theorem zax {f:List Sl -> Option D} (he:DE c X e f) : DS c X (.Return (some e) pos) (zav f):=PS.imp (znn he) fun E σ H q_=>by
 obtain ⟨Hf0,H0,Hf,ρ,o,so,ef,k⟩:=q_
 unfold zav at ef
 cases e1 : f ρ with
 | none=>rw [e1] at ef; cases ef
 | some d =>
  rw [e1] at ef
  cases ef
  exact ⟨Hf0,H0,Hf,ρ,d,so,e1,fun v Hf' H' x r=>k v Hf' H' (so.ext.trans x) r⟩
noncomputable def zk2 (f:List Sl -> Option D) (ρ:List Sl) : Option Fl:=(f ρ).map fun d=>.rtS d ρ
theorem zs1 {f:List Sl -> Option D} (he:DE c X e f) : DS c X (.Return (some e) pos) (zk2 f):=PS.imp (znn he) fun E σ H q_=>by
 obtain ⟨Hf0,H0,Hf,ρ,o,so,ef,k⟩:=q_
 unfold zk2 at ef
 cases e1 : f ρ with
 | none=>rw [e1] at ef; cases ef
 | some d =>
  rw [e1] at ef
  cases ef
  exact ⟨Hf0,H0,Hf,ρ,d,so,e1,fun v Hf' H' x r=>k v σ Hf' H' (so.step x) r⟩
theorem zlh {f:List Sl -> Option (List D)} (he:DO c X e f) : DS c X (.Return (some e) pos) (zgu f):=PS.imp (znn he) fun E σ H q_=>by
 obtain ⟨Hf0,H0,Hf,ρ,o,so,ef,k⟩:=q_
 unfold zgu at ef
 cases e1 : f ρ with
 | none=>rw [e1] at ef; cases ef
 | some d =>
  rw [e1] at ef
  cases ef
  exact ⟨Hf0,H0,Hf,ρ,d,so,e1,fun l vs Hf' H' x hn hf hl r=>k l vs Hf' H' (so.ext.trans x) (so.ext.h.free hn) hf hl r⟩
theorem z1s {i:Nat} (he:PE X e (zd9 i)) : DS c X (.Return (some e) pos) (ze5 i):=PS.imp (znn he) fun E σ H q_=>by
 obtain ⟨Hf0,H0,Hf,ρ,o,so,ef,k⟩:=q_
 unfold ze5 at ef
 cases es : ρ[i]? with
 | none=>rw [es] at ef; cases ef
 | some s =>
  rw [es] at ef
  cases s with
  | im d =>
   cases ef
   obtain ⟨v,e1,r⟩:=so.imm es
   exact ⟨_,e1,k v Hf H so.ext r⟩
  | own xs =>
   cases ef
   obtain ⟨l,e1,h0,hf,vs,q,r⟩:=so.ownAt rfl es
   exact ⟨_,e1,k l vs Hf H so.ext h0 hf q r⟩
  | _=>cases ef
theorem zhm (i:Nat) {x:Str} {p:Pos} (hN:X.N[i]?=some x:=by rfl) (hv:Vis X.env.scope x:=by first | exact Or.inl rfl | exact Or.inr (Or.inl rfl) | exact Or.inr (Or.inr rfl)) (hd:(x == ("__debug__" : Str))=false:=by decide)
  (hcd:(x == ("__classdict__" : Str))=false:=by decide) : DS c X (.Return (some (.Name x p)) pos) (ze5 i):=z1s (zgo hN hv hd hcd)
theorem zeh {fi:List Sl -> Option (List D)} {g:D -> List Sl -> Option (List Sl)} {kk:Nat} (hp:PassesOwn (model X.prog X.w) X.A X.env X.xe) (hc:X.calm=true) (hi:DI c X tg iter fi) (hg:DG c X tg kk g) (hb:DSs c X a F) (hs:∀ x,foldedSetIterable iter X.env x=pure x:=by intro _; rfl) :
  DS c X (.For tg iter a [] pos) (zdf fi g F):=PS.imp (zx6 hp hc hi hg.pg hb hs) fun E σ H q_=>by
 obtain ⟨Hf0,H0,Hf,ρ,o,so,ef,k⟩:=q_
 unfold zdf at ef
 cases e1 : fi ρ with
 | none=>rw [e1] at ef; cases ef
 | some ds =>
  rw [e1] at ef
  replace ef : zfq g F ds ρ=some o:=ef
  refine ⟨Hf0,H0,Hf,ρ,ds,so,e1,fun J Hf1 H1 x1 it=>?_⟩
  refine ⟨fun i m σ' H'=>m=ds.length - i /\ i <= ds.length /\ ∃ Hf' ρ',zaz (Gx c X) Hf0 H0 Hf' H' σ' ρ' /\ za4 Hf1 Hf' /\ zfq g F (ds.drop i) ρ'=some o,⟨ds.length,rfl,Nat.zero_le _,Hf1,ρ,so.step x1,za4.refl _,ef⟩,?_⟩
  rintro i m σ' H' ⟨rfl,hi',Hf',ρ',so',s1,em⟩
  obtain ⟨it1,it2⟩:=it Hf' H' s1 so'.sub i
  by_cases hlt : i < ds.length
  ·obtain ⟨d,ed,edr⟩:=zuu hlt
   obtain ⟨go,yl⟩:=it1 d ed
   rw [edr] at em
   unfold zfq at em
   refine .inr ⟨go,fun σ2 H2=>ds.length - (i + 1)=ds.length - (i + 1) /\ i + 1 <= ds.length /\ ∃ Hf' ρ',zaz (Gx c X) Hf0 H0 Hf' H2 σ2 ρ' /\ za4 Hf1 Hf' /\ zfq g F (ds.drop (i + 1)) ρ'=some o,fun σ2 H2 w=>⟨ds.length - (i + 1),by omega,w⟩,fun x H2 y=>?_⟩
   obtain ⟨Hf2,x2,rx⟩:=yl x H2 y
   cases eg : g d ρ' with
   | none=>rw [eg] at em; cases em
   | some ρ1 =>
    rw [eg] at em
    replace em : (F ρ1).bind _=_:=em
    cases eF : F ρ1 with
    | none=>rw [eF] at em; cases em
    | some o1 =>
     rw [eF] at em
     refine ⟨Hf0,H0,Hf2,ρ',d,ρ1,so'.step x2,rx,eg,fun σ3 so3=>⟨Hf0,H0,Hf2,ρ1,o1,so3,eF,?_⟩⟩
     have sf:=s1.trans x2.f
     cases o1 with
     | nx ρ2=>exact fun σ4 Hf4 H4 s4 so4=>⟨rfl,hlt,Hf4,ρ2,so4,sf.trans s4,em⟩
     | ct ρ2=>exact fun σ4 Hf4 H4 s4 so4=>⟨rfl,hlt,Hf4,ρ2,so4,sf.trans s4,em⟩
     | bk ρ2=>cases em; exact fun σ4 Hf4 H4 s4 so4=>k σ4 Hf4 H4 ((x1.f.trans sf).trans s4) so4
     | rt d=>cases em; exact k
     | rtO d=>cases em; exact k
     | rtS d ρ2=>cases em; exact k
  ·have ei : i=ds.length:=by omega
   subst ei
   rw [List.drop_eq_nil_of_le (Nat.le_refl _)] at em
   cases em
   exact .inl ⟨it2 rfl,k σ' Hf' H' (x1.f.trans s1) so'⟩
theorem z5d (n:Nat) {t:List Sl -> Option Bool} (hp:PassesOwn (model X.prog X.w) X.A X.env X.xe) (hc:DT c X cd t) (hb:DSs c X a F) : DS c X (.While cd a [] pos) (zf8 t F n):=PS.imp (z5w hp hc hb) fun E σ H q_=>by
 obtain ⟨Hf0,H0,Hf,ρ,o,so,ef,k⟩:=q_
 refine ⟨fun m σ' H'=>∃ Hf' ρ',zaz (Gx c X) Hf0 H0 Hf' H' σ' ρ' /\ za4 Hf Hf' /\ zf8 t F m ρ'=some o,⟨n,Hf,ρ,so,za4.refl _,ef⟩,?_⟩
 rintro m σ' H' ⟨Hf',ρ',so',s1,em⟩
 cases m with
 | zero=>cases em
 | succ m =>
  unfold zf8 at em
  cases et : t ρ' with
  | none=>rw [et] at em; cases em
  | some b =>
   rw [et] at em
   replace em : (if b=true then (F ρ').bind _ else some (.nx ρ'))=some o:=em
   refine ⟨Hf0,H0,Hf',ρ',b,so',et,fun Hf2 H2 x2=>?_⟩
   cases b with
   | false =>
    rw [if_neg Bool.false_ne_true] at em
    refine zr4 ?_
    cases em
    exact k σ' Hf2 H2 (s1.trans x2.f) (so'.step x2)
   | true =>
    rw [if_pos rfl] at em
    refine zt7 ?_
    cases eF : F ρ' with
    | none=>rw [eF] at em; cases em
    | some o1 =>
     rw [eF] at em
     refine ⟨fun σ3 H3=>∃ Hf' ρ',zaz (Gx c X) Hf0 H0 Hf' H3 σ3 ρ' /\ za4 Hf Hf' /\ zf8 t F m ρ'=some o,fun σ3 H3 w=>⟨m,Nat.lt_succ_self _,w⟩,Hf0,H0,Hf2,ρ',o1,so'.step x2,eF,?_⟩
     have sf:=s1.trans x2.f
     cases o1 with
     | nx ρ2=>exact fun σ4 Hf4 H4 s4 so4=>⟨Hf4,ρ2,so4,sf.trans s4,em⟩
     | ct ρ2=>exact fun σ4 Hf4 H4 s4 so4=>⟨Hf4,ρ2,so4,sf.trans s4,em⟩
     | bk ρ2=>cases em; exact fun σ4 Hf4 H4 s4 so4=>k σ4 Hf4 H4 (sf.trans s4) so4
     | rt d=>cases em; exact k
     | rtO d=>cases em; exact k
     | rtS d ρ2=>cases em; exact k
theorem z2c {G:Gc} {i:Nat} {E:zhc} {σ:St} {H:Hp} (h:tDS G (zex i F) E σ H) : tDS G F E σ H:=by
 obtain ⟨Hf0,H0,Hf,ρ,o,so,ef,k⟩:=h
 unfold zex zm4 at ef
 split at ef
 ·rename_i xs es
  obtain ⟨l,e1,h0,hf,vs,q,r⟩:=so.ownAt rfl es
  exact ⟨Hf0,H0,_,_,o,so.fixd (d:=.lst xs) rfl es e1 q ⟨l,vs,rfl,zcd,r.up (zc3 hf)⟩,ef,k.up (zc3 hf)⟩
 ·rename_i ks xs es
  obtain ⟨l,e1,h0,hf,vs,q,z,r⟩:=so.ownAt rfl es
  exact ⟨Hf0,H0,_,_,o,so.fixd (d:=.dic ks xs) rfl es e1 q ⟨l,vs,rfl,zcd,z,r.up (zc3 hf)⟩,ef,k.up (zc3 hf)⟩
 ·rename_i c' ns xs es
  obtain ⟨l,e1,h0,hf,dx,vs,q,z,r⟩:=so.ownAt rfl es
  exact ⟨Hf0,H0,_,_,o,so.fixd (d:=.ins c' ns xs) rfl es e1 q ⟨l,dx,vs,rfl,zcd,z,r.up (zc3 hf)⟩,ef,k.up (zc3 hf)⟩
 ·exact ⟨Hf0,H0,Hf,ρ,o,so,ef,k⟩
theorem zf6 (i:Nat) (h:DS c X st F) : DS c X st (zex i F):=PS.imp h fun _ _ _=>z2c
theorem zgj {i:Nat} {f:List Sl -> Option D} (h:PS X st (zlj (tBM X.K "list" zox (zd9 i) (zmq (tD (Gx c X) f) zlw)))) : DS c X st (ze0 i f):=PS.imp h fun E σ H q_=>by
 obtain ⟨Hf0,H0,Hf,ρ,o,so,ef,k⟩:=q_
 unfold ze0 at ef
 cases e1 : f ρ with
 | none=>rw [e1] at ef; cases ef
 | some d =>
  rw [e1] at ef
  replace ef : (match ρ[i]? with | some (.own xs)=>if xs.length < 16777216 then some (Fl.nx (ρ.set i (.own (xs ++ [d])))) else none | _=>none)=some o:=ef
  split at ef
  ·rename_i xs es
   split at ef
   ·rename_i hl
    cases ef
    obtain ⟨l,e2,h0,hf,vs,q,r⟩:=so.ownAt rfl es
    refine ⟨_,e2,.inl ⟨rfl,_,SqL.of q⟩,Hf0,H0,Hf,ρ,d,so,e1,fun v Hf' H' x r'=>?_⟩
    have so':=so.step x
    have q':=x.h _ _ q
    refine ⟨l,vs,v,rfl,rfl,q',by rw [sizeLine_eq,<- r.length]; exact hl,k σ Hf' _ x.f (so'.mutd (s:=.own xs) (s':=.own (xs ++ [d])) rfl rfl es e2 ⟨vs ++ [v],zcd,(r.up x.f).append (.cons r' .nil)⟩)⟩
   ·cases ef
  ·cases ef
theorem ztn {i:Nat} {f:List Sl -> Option D} (h:PS X st (zlj (tBM X.K "list" zus (zd9 i) (zmq (tD (Gx c X) f) zlw)))) : DS c X st (zir i (zig f)):=PS.imp h fun E σ H q_=>by
 obtain ⟨Hf0,H0,Hf,ρ,o,so,ef,k⟩:=q_
 unfold zir zig at ef
 cases e1 : f ρ with
 | none=>rw [e1] at ef; cases ef
 | some d =>
  rw [e1] at ef
  cases d with
  | lst ds =>
   replace ef : (match ρ[i]? with | some (.own xs)=>if xs.length + ds.length <= 16777216 then some (Fl.nx (ρ.set i (.own (xs ++ ds)))) else none | _=>none)=some o:=ef
   split at ef
   ·rename_i xs es
    split at ef
    ·rename_i hl
     cases ef
     obtain ⟨l,e2,h0,hf,vs,q,r⟩:=so.ownAt rfl es
     refine ⟨_,e2,.inl ⟨rfl,_,SqL.of q⟩,Hf0,H0,Hf,ρ,.lst ds,so,e1,fun v Hf' H' x r'=>?_⟩
     obtain ⟨a,us,ea,qa,ra⟩:=r'
     subst ea
     have so':=so.step x
     have q':=x.h _ _ q
     refine ⟨l,a,vs,us,rfl,rfl,q',x.s _ _ qa,by rw [sizeLine_eq,<- r.length,<- ra.length]; exact hl,k σ Hf' _ x.f (so'.mutd (s:=.own xs) (s':=.own (xs ++ ds)) rfl rfl es e2 ⟨vs ++ us,zcd,(r.up x.f).append ra⟩)⟩
    ·cases ef
   ·cases ef
  | _=>cases ef
end
noncomputable def zqz : Fl -> Option D
 | .rt d=>some d
 | .rtO ds=>some (.lst ds)
 | .rtS d _=>some d
 | .nx _=>some .non
 | _=>none
noncomputable def zdw (n:Nat) (ds:List D) : List Sl:=ds.map .im ++ List.replicate (n - ds.length) .no
noncomputable def zbi (n:Nat) (F:List Sl -> Option Fl) (ds:List D) : Option D:=(F (zdw n ds)).bind zqz
noncomputable def zl3 (n:Nat) (F:List Sl -> Option Fl) (ds:List D) : Option (List D):=(F (zdw n ds)).bind fun o=>match o with
 | .rtO ds=>some ds
 | _=>none
noncomputable def spD (G:Gc) (n:Nat) (m:List D -> Option D) : Sp:=fun vs H Q _=>∃ Hf ds d,za4 Hf H /\ zaq G Hf ds vs /\ ds.length=n /\ m ds=some d /\ ∀ v Hf' H',Ext Hf H Hf' H' -> Rep G Hf' d v -> Q v H'
noncomputable def spO (G:Gc) (n:Nat) (m:List D -> Option (List D)) : Sp:=fun vs H Q _=>∃ Hf ds rs,za4 Hf H /\ zaq G Hf ds vs /\ ds.length=n /\ m ds=some rs /\
 ∀ l us Hf' H',Ext Hf H Hf' H' -> H l=none -> Hf' l=none -> H' l=some (.lst us) -> zaq G Hf' rs us -> Q (.ref l) H'
theorem zaz.start {G:Gc} {Hf H:Hp} {N:List Str} {ds:List D} {vs:List V} (s0:za4 Hf H) (r:zaq G Hf ds vs) : zaz G Hf H Hf H (start N vs) (zdw N.length ds):=by
 have hl:=r.length
 have im : ∀ (i:Nat) (s:Sl),(zdw N.length ds)[i]?=some s -> s=.no \/ ∃ d,ds[i]?=some d /\ s=.im d:=fun i s b=>by
  unfold zdw at b
  by_cases hi : i < ds.length
  ·rw [List.getElem?_append_left (by simpa using hi)] at b
   obtain ⟨d,ed,es⟩:=ziw b
   exact .inr ⟨d,ed,es⟩
  ·rw [List.getElem?_append_right (by simpa using Nat.le_of_not_lt hi)] at b
   obtain ⟨_,e⟩:=List.getElem?_eq_some_iff.mp b
   rw [List.getElem_replicate] at e
   exact .inl e.symm
 refine ⟨Ext.refl s0,by simp [L2.start,zdw,hl],fun i v s a b=>?_,fun i j s t l a b hs ht c d=>?_⟩
 ·rcases im i s b with e | ⟨d,ed,es⟩
  ·subst e; trivial
  ·subst es
   obtain ⟨u,eu,ru⟩:=r.get ed
   refine ⟨u,?_,ru⟩
   have hi : i < vs.length:=(List.getElem?_eq_some_iff.mp eu).1
   unfold L2.start at a
   rw [List.getElem?_append_left (by simpa using hi),List.getElem?_map,eu] at a
   exact (Option.some.inj a).symm
 ·rcases im i s a with e | ⟨d,ed,es⟩
  ·subst e; cases hs
  ·subst es; cases hs
section
variable {P:Program} {w:World} {K:PySem.W.Frag} {mg:Str -> Option Value} {base:Heap} {c:Str -> Addr}
theorem zbv {x qual:Str} {st:Stmt} {f:Addr} {fd:FuncData} {N ps:List Str} {k:Nat} {F:List Sl -> Option Fl} (Fn:Fun K x qual st f fd) (S:za9 N ps (zam st))
  (h:∀ (cdv:Value) (A:Around) (outer:List Env) (s:Shared) (H:Hp) (E:XK),zb9 k (A.deeper (envOfC qual (zam st) s.heap.objs.size f cdv)) -> DSs c (zge CX0 P w K mg base N qual (zam st) f cdv A outer s H E).nox (za8 st) F) :
  zaw P w K mg base CX0 (k + 1) f fd ps (spD ⟨K,c⟩ ps.length (zbi N.length F)):=by
 refine Fn.ok S (fun vs H Q E ⟨Hf,ds,d,s0,r,hl,_⟩=>by rw [<- r.length]; exact hl) fun cdv A outer s H vs Q E hr ⟨Hf,ds,d,s0,r,hl,e,kq⟩=>⟨_,h cdv A outer s H E hr,?_⟩
 unfold zbi at e
 cases eF : F (zdw N.length ds) with
 | none=>rw [eF] at e; cases e
 | some o =>
  rw [eF] at e
  replace e : zqz o=some d:=e
  refine ⟨Hf,H,Hf,_,o,zaz.start s0 r,eF,?_⟩
  cases o with
  | nx ρ=>cases e; exact fun σ' Hf' H' _ so=>kq _ Hf' H' so.ext rfl
  | bk ρ=>cases e
  | ct ρ=>cases e
  | rt d=>cases e; exact kq
  | rtO rs=>cases e; exact fun l vs Hf' H' x hn hf hl r=>kq _ (upd Hf' l (.lst vs)) H' (x.fix hn hf hl) ⟨l,vs,rfl,zcd,r.up (zc3 hf)⟩
  | rtS d ρ=>cases e; exact fun v σ' Hf' H' so r=>kq v Hf' H' so.ext r
theorem z9b {x qual:Str} {st:Stmt} {f:Addr} {fd:FuncData} {N ps:List Str} {k:Nat} {F:List Sl -> Option Fl} (Fn:Fun K x qual st f fd) (S:za9 N ps (zam st))
  (h:∀ (cdv:Value) (A:Around) (outer:List Env) (s:Shared) (H:Hp) (E:XK),zb9 k (A.deeper (envOfC qual (zam st) s.heap.objs.size f cdv)) -> DSs c (zge CX0 P w K mg base N qual (zam st) f cdv A outer s H E).nox (za8 st) F) :
  zaw P w K mg base CX0 (k + 1) f fd ps (spO ⟨K,c⟩ ps.length (zl3 N.length F)):=by
 refine Fn.ok S (fun vs H Q E ⟨Hf,ds,d,s0,r,hl,_⟩=>by rw [<- r.length]; exact hl) fun cdv A outer s H vs Q E hr ⟨Hf,ds,rs,s0,r,hl,e,kq⟩=>⟨_,h cdv A outer s H E hr,?_⟩
 unfold zl3 at e
 cases eF : F (zdw N.length ds) with
 | none=>rw [eF] at e; cases e
 | some o =>
  rw [eF] at e
  refine ⟨Hf,H,Hf,_,o,zaz.start s0 r,eF,?_⟩
  cases o with
  | rtO rs'=>cases e; exact kq
  | _=>cases e
end
section
variable {c:Str -> Addr} {X:Cx} {k:Nat} {f C:Addr} {fd:FuncData} {ps:List Str} {x:Str} {p pos apos:Pos} {e o:Expr} {es:List Expr} {fa:List Sl -> Option (List D)}
theorem zbq {m:List D -> Option D} (F:zaw X.prog X.w X.K X.mg X.base CX0 k f fd ps (spD (Gx c X) ps.length m)) (hr:zb9 k X.A) (hg:Gl X x) (hm:X.mg x=some (.ref f)) (hk:PySem.W.keepIn X.K (.ref f)=true) (hb:za5 X.K fd ps []) (ha:DA c X (e :: es) fa)
  (hl:(e :: es).length=ps.length:=by rfl) (hdb:(x == ("__debug__" : Str))=false:=by decide) (he:starEach (e :: es) X.env=(false,eval e X.env) :: starEach es X.env:=by rfl) (hpl:(backTo pos (starEach es X.env)).any (·.1)=false:=by rfl) :
  DE c X (.Call (.Name x p) (e :: es) [] pos) (zap m fa):=PE.imp (zk4 F hr hg hm hk hb .nil zhn ha.pa hdb he hpl) fun σ H Q q_=>by
 obtain ⟨Hf0,H0,Hf,ρ,d,st,ef,kq⟩:=q_
 obtain ⟨ds,e1,e2⟩:=zva ef
 refine ⟨Hf0,H0,Hf,ρ,ds,st,e1,fun vs Hf' H' x r=>?_⟩
 dsimp only
 rw [List.append_nil]
 exact ⟨Hf',ds,d,x.s,r,(ha.len ρ ds e1).trans hl,e2,fun v Hf2 H2 x2 r2=>kq v Hf2 H2 (x.trans x2) r2⟩
noncomputable def zlv (m:List D -> Option (List D)) (f:List Sl -> Option (List D)) (ρ:List Sl) : Option (List D):=(f ρ).bind m
theorem zxy {m:List D -> Option (List D)} (F:zaw X.prog X.w X.K X.mg X.base CX0 k f fd ps (spO (Gx c X) ps.length m)) (hr:zb9 k X.A) (hg:Gl X x) (hm:X.mg x=some (.ref f)) (hk:PySem.W.keepIn X.K (.ref f)=true) (hb:za5 X.K fd ps []) (ha:DA c X (e :: es) fa)
  (hl:(e :: es).length=ps.length:=by rfl) (hdb:(x == ("__debug__" : Str))=false:=by decide) (he:starEach (e :: es) X.env=(false,eval e X.env) :: starEach es X.env:=by rfl) (hpl:(backTo pos (starEach es X.env)).any (·.1)=false:=by rfl) :
  DO c X (.Call (.Name x p) (e :: es) [] pos) (zlv m fa):=PE.imp (zk4 F hr hg hm hk hb .nil zhn ha.pa hdb he hpl) fun σ H Q q_=>by
 obtain ⟨Hf0,H0,Hf,ρ,rs,st,ef,kq⟩:=q_
 unfold zlv at ef
 cases e1 : fa ρ with
 | none=>rw [e1] at ef; cases ef
 | some ds =>
  rw [e1] at ef
  refine ⟨Hf0,H0,Hf,ρ,ds,st,e1,fun vs Hf' H' x r=>?_⟩
  dsimp only
  rw [List.append_nil]
  exact ⟨Hf',ds,rs,x.s,r,(ha.len ρ ds e1).trans hl,ef,fun l us Hf2 H2 x2 hn hf hl' r2=>kq l us Hf2 H2 (x.trans x2) (x.h.free hn) hf hl' r2⟩
noncomputable def zh4 (m:List D -> Option D) (f:List Sl -> Option (List D)) (ρ:List Sl) : Option D:=(f ρ).bind fun ds=>(m ds).bind fun d=>if d.scalar then some d else none
theorem zor {m:List D -> Option D} (F:zaw X.prog X.w X.K X.mg X.base CX0 k f fd ps (spD (Gx c X) ps.length m)) (hr:zb9 k X.A) (hg:Gl X x) (hm:X.mg x=some (.ref f)) (hk:PySem.W.keepIn X.K (.ref f)=true) (hb:za5 X.K fd ps []) (ha:DAB c X (e :: es) fa)
  (hl:(e :: es).length=ps.length:=by rfl) (hdb:(x == ("__debug__" : Str))=false:=by decide) (he:starEach (e :: es) X.env=(false,eval e X.env) :: starEach es X.env:=by rfl) (hpl:(backTo pos (starEach es X.env)).any (·.1)=false:=by rfl) :
  DE c X (.Call (.Name x p) (e :: es) [] pos) (zh4 m fa):=PE.imp (zk4 F hr hg hm hk hb .nil zhn ha.pa hdb he hpl) fun σ H Q q_=>by
 obtain ⟨Hf0,H0,Hf,ρ,d,st,ef,kq⟩:=q_
 unfold zh4 at ef
 cases e1 : fa ρ with
 | none=>rw [e1] at ef; cases ef
 | some ds =>
  rw [e1] at ef
  replace ef : (m ds).bind _=_:=ef
  cases e2 : m ds with
  | none=>rw [e2] at ef; cases ef
  | some d' =>
   rw [e2] at ef
   replace ef : (if d'.scalar=true then some d' else none)=some d:=ef
   split at ef
   ·rename_i hs
    cases ef
    refine ⟨Hf0,H0,Hf,ρ,ds,st,e1,fun vs Hf' H' x r=>?_⟩
    dsimp only
    rw [List.append_nil]
    exact ⟨H',ds,_,za4.refl _,r,(ha.len ρ ds e1).trans hl,e2,fun v Hf2 H2 x2 r2=>kq v Hf' H2 (x.trans (Ext.grow x.s x2.h)) (r2.sc hs)⟩
   ·cases ef
end
theorem zvh {G:Gc} {H:Hp} {f:Str} {d:D} : ∀ {ns:List Str} {ds:List D} {vs:List V},(ns.zip ds).lookup f=some d -> zaq G H ds vs -> ∃ v,(ns.zip vs).lookup f=some v /\ Rep G H d v
 | [],_,_,e,_=>by simp at e
 | n :: ns,[],_,e,_=>by simp at e
 | n :: ns,x :: ds,_,e,⟨v,r,ev,h1,h2⟩=>by
  subst ev
  rw [List.zip_cons_cons,List.lookup_cons] at e
  rw [List.zip_cons_cons,List.lookup_cons]
  cases hf : f == n with
  | true=>rw [hf] at e; cases e; exact ⟨v,rfl,h1⟩
  | false=>rw [hf] at e; exact zvh e h2
theorem zr5 {f:Str} : ∀ {ns:List Str} {vs:List V},ns.contains f=false -> (ns.zip vs).lookup f=none
 | [],_,_=>by simp
 | n :: ns,[],_=>by simp
 | n :: ns,v :: vs,h=>by
  rw [List.contains_cons,Bool.or_eq_false_iff] at h
  rw [List.zip_cons_cons,List.lookup_cons,h.1]
  exact zr5 h.2
noncomputable def zv7 (cn f:Str) : D -> Option D
 | .ins c' ns ds=>if c'=cn then (ns.zip ds).lookup f else none
 | _=>none
noncomputable def zeo (cn f:Str) (m:List Sl -> Option D) (ρ:List Sl) : Option D:=(m ρ).bind (zv7 cn f)
noncomputable def zda (cn f:Str) (m:List D -> Option D) (fo:List Sl -> Option D) (fa:List Sl -> Option (List D)) (ρ:List Sl) : Option D:=(fo ρ).bind fun d=>match d with
 | .ins c' ns ds=>if c'=cn /\ ns.contains f=false then (fa ρ).bind fun as=>m (.ins c' ns ds :: as) else none
 | _=>none
section
variable {c:Str -> Addr} {X:Cx} {k:Nat} {f C:Addr} {fd:FuncData} {ps:List Str} {x fl cn:Str} {p pos apos:Pos} {e o:Expr} {es:List Expr} {fo:List Sl -> Option D} {fa:List Sl -> Option (List D)}
theorem zfj (cn:Str) (hc:Cls X.K (c cn)) (hn:zdn X.K (c cn) fl) (ho:DE c X o fo) (hb:attributeBase o fl X.env (eval o X.env)=eval o X.env:=by rfl) : DE c X (.Attribute o fl pos) (zeo cn fl fo) :=
 PE.imp (z4w ho hb) fun σ H Q q_=>by
  obtain ⟨Hf0,H0,Hf,ρ,d,st,ef,k⟩:=q_
  unfold zeo at ef
  cases e1 : fo ρ with
  | none=>rw [e1] at ef; cases ef
  | some y =>
   rw [e1] at ef
   replace ef : zv7 cn fl y=some d:=ef
   cases y with
   | ins c' ns ds =>
    replace ef : (if c'=cn then (ns.zip ds).lookup fl else none)=some d:=ef
    split at ef
    ·rename_i hcc
     subst hcc
     refine ⟨Hf0,H0,Hf,ρ,_,st,e1,fun v Hf' H' x r=>?_⟩
     obtain ⟨a,dx,vs,ev,q,hl,rs⟩:=r
     obtain ⟨u,eu,ru⟩:=zvh ef rs
     exact ⟨a,c c',dx,ns.zip vs,u,ev,x.s _ _ q,hc,hn,eu,k u Hf' H' x ru⟩
    ·cases ef
   | _=>cases ef
theorem zho {m:List D -> Option D} {pl:Sem Bool} (cn:Str) (ho:DE c X o fo) (hc:Cls X.K (c cn)) (hm:zdu X.K (c cn) fl f) (F:zaw X.prog X.w X.K X.mg X.base CX0 k f fd ps (spD (Gx c X) ps.length m)) (hr:zb9 k X.A) (hb:za5 X.K fd ps []) (ha:DA c X (e :: es) fa)
  (hl:(e :: es).length + 1=ps.length:=by rfl)
  (hst:starEach (e :: es) X.env=(false,eval e X.env) :: starEach es X.env:=by rfl) (hpl:(backTo pos (starEach es X.env)).any (·.1)=false:=by rfl)
  (ht:eval (.Call (.Attribute o fl apos) (e :: es) [] pos) X.env=(do
   let ov <- eval o X.env
   standAt apos.atName
   let (f,first) <- holding [ov] (getMethod ov fl pl)
   callWith pos f first (backTo pos (starEach (e :: es) X.env)) (backToKw pos (keywordEach [] X.env))):=by rfl) :
  DE c X (.Call (.Attribute o fl apos) (e :: es) [] pos) (zda cn fl m fo fa):=PE.imp (z9k ho hc hm F hr hb .nil zhn ha.pa hst hpl ht) fun σ H Q q_=>by
 obtain ⟨Hf0,H0,Hf,ρ,d,st,ef,kq⟩:=q_
 unfold zda at ef
 cases e1 : fo ρ with
 | none=>rw [e1] at ef; cases ef
 | some y =>
  rw [e1] at ef
  cases y with
  | ins c' ns ds =>
   replace ef : (if c'=cn /\ ns.contains fl=false then (fa ρ).bind fun as=>m (.ins c' ns ds :: as) else none)=some d:=ef
   split at ef
   ·rename_i hcc
    obtain ⟨rfl,hno⟩:=hcc
    cases e2 : fa ρ with
    | none=>rw [e2] at ef; cases ef
    | some as =>
     rw [e2] at ef
     replace ef : m (.ins c' ns ds :: as)=some d:=ef
     refine ⟨Hf0,H0,Hf,ρ,_,st,e1,fun v Hf' H' x r=>?_⟩
     obtain ⟨a,dx,vs,ev,q,hlen,rs⟩:=id r
     refine ⟨a,dx,ns.zip vs,ev,x.s _ _ q,zr5 hno,Hf0,H0,Hf',ρ,as,st.step x,e2,fun ws Hf2 H2 x2 r2=>?_⟩
     dsimp only
     rw [List.append_nil]
     exact ⟨Hf2,.ins c' ns ds :: as,d,x2.s,.cons (r.up x2.f) r2,by rw [List.length_cons,ha.len ρ as e2]; exact hl,ef,fun u Hf3 H3 x3 r3=>kq u Hf3 H3 ((x.trans x2).trans x3) r3⟩
   ·cases ef
  | _=>cases ef
end
noncomputable def zlk : List (Str × (List Sl -> Option D)) -> List Sl -> List Str -> List D -> Option (List Str × List D)
 | [],_,ns,ds=>some (ns,ds)
 | (f,m) :: r,ρ,ns,ds=>(m ρ).bind fun d=>if ns.contains f then none else zlk r ρ (ns ++ [f]) (ds ++ [d])
noncomputable def z03 (G:Gc) (cn:Str) (fs:List (Str × (List Sl -> Option D))) : TS:=fun E σ H=>∃ x dx Hf0 H0 Hf ρ ns us ds r,σ[0]?=some (some (.ref x)) /\ (∀ s ∈ ρ,Sl.isOwn s=false) /\ zaz G Hf0 H0 Hf H σ ρ /\ H0 x=none /\ Hf x=none /\
 H x=some (.ins (G.cl cn) dx (ns.zip us)) /\ ns.length=us.length /\ ns.length + fs.length <= 900 /\ zaq G Hf ds us /\ zlk fs ρ ns ds=some r /\
 ∀ us' Hf' H',Ext Hf0 H0 Hf' H' -> Hf' x=none -> H' x=some (.ins (G.cl cn) dx (r.1.zip us')) -> r.1.length=us'.length -> zaq G Hf' r.2 us' -> E.nx σ H'
noncomputable def DSI (c:Str -> Addr) (X:Cx) (cn:Str) (sts:List Stmt) (fs:List (Str × (List Sl -> Option D))) : Prop:=PSs X sts (z03 (Gx c X) cn fs)
theorem zl7 {f:Str} {v:V} : ∀ {ns:List Str} {us:List V},ns.length=us.length -> ns.contains f=false -> zdq f v (ns.zip us)=(ns ++ [f]).zip (us ++ [v])
 | [],[],_,_=>rfl
 | n :: ns,u :: us,hl,h=>by
  rw [List.contains_cons,Bool.or_eq_false_iff] at h
  have h1 : ¬ (n=f):=fun z=>by rw [z,beq_self_eq_true] at h; cases h.1
  rw [List.zip_cons_cons]
  unfold zdq
  first
   | (rw [if_neg h1,zl7 (by simpa using hl) h.2]; rfl)
   | (rw [if_neg (fun z=>h1 (Eq.symm z)),zl7 (by simpa using hl) h.2]; rfl)
   | (rw [if_neg (by simpa using h1),zl7 (by simpa using hl) h.2]; rfl)
   | (rw [if_neg (by simpa using fun z=>h1 (Eq.symm z)),zl7 (by simpa using hl) h.2]; rfl)
 | [],_ :: _,hl,_=>by cases hl
 | _ :: _,[],hl,_=>by cases hl
section
variable {c:Str -> Addr} {X:Cx} {cn fl:Str} {e o:Expr} {sts:List Stmt} {pos pos':Pos} {m:List Sl -> Option D} {fs:List (Str × (List Sl -> Option D))}
theorem zne : DSI c X cn [] []:=PSs.imp zsz fun E σ H q=>by
 obtain ⟨x,dx,Hf0,H0,Hf,ρ,ns,us,ds,r,e0,no,so,h0,hf,hx,hl,hz,rd,em,k⟩:=q
 cases em
 exact k us Hf H so.ext hf hx hl rd
theorem zkl (hc:Cls X.K (c cn)) (hn:zdn X.K (c cn) fl) (ho:PE X o (zd9 0)) (he:DE c X e m) (h:DSI c X cn sts fs) (hs:swapsWith e (some (.Attribute o fl pos')) pos.line X.env=pure false:=by rfl) :
  DSI c X cn (.Assign [.Attribute o fl pos'] e pos :: sts) ((fl,m) :: fs):=PSs.imp (zts (z48 ho he hs) h) fun E σ H q=>by
 obtain ⟨x,dx,Hf0,H0,Hf,ρ,ns,us,ds,r,e0,no,so,h0,hf,hx,hl,hz,rd,em,k⟩:=q
 unfold zlk at em
 cases e1 : m ρ with
 | none=>rw [e1] at em; cases em
 | some d =>
  rw [e1] at em
  replace em : (if ns.contains fl=true then none else zlk fs ρ (ns ++ [fl]) (ds ++ [d]))=some r:=em
  split at em
  ·cases em
  ·rename_i hnc
   have hnc : ns.contains fl=false:=by simpa using hnc
   refine ⟨Hf0,H0,Hf,ρ,d,so,e1,fun v Hf' H' xx rv=>⟨_,e0,x,c cn,dx,ns.zip us,rfl,xx.h _ _ hx,hc,hn,?_,?_⟩⟩
   ·have h1:=List.length_zip (l₁:=ns) (l₂:=us)
    rw [List.length_cons] at hz
    omega
   ·have hf' : Hf' x=none:=by rw [xx.n _ _ hx rfl]; exact hf
    have so':=so.step xx
    have so2 : zaz (Gx c X) Hf0 H0 Hf' (upd H' x (.ins (c cn) dx (zdq fl v (ns.zip us)))) σ ρ:=by
     refine ⟨⟨so'.ext.f,fun b u e=>?_,fun b u e=>?_,so'.ext.n⟩,so'.len,fun i w s a b=>?_,so'.inj⟩
     ·rw [zby (zdo e h0)]; exact so'.ext.h b u e
     ·rw [zby (zdo e hf')]; exact so'.ext.s b u e
     ·have hs:=no s (List.mem_of_getElem? b)
      have q:=so'.at' i w s a b
      cases s with
      | no=>trivial
      | im d=>exact q
      | _=>cases hs
    refine ⟨x,dx,Hf0,H0,Hf',ρ,ns ++ [fl],us ++ [v],ds ++ [d],r,e0,no,so2,h0,hf',?_,by rw [List.length_append,List.length_append,hl]; rfl,by rw [List.length_cons] at hz; rw [List.length_append,List.length_singleton]; omega,(rd.up xx.f).append (.cons rv .nil),em,k⟩
    rw [zcd,zl7 hl hnc]
end
noncomputable def del (H:Hp) (x:Addr) : Hp:=fun b=>if b=x then none else H b
theorem zuf {H:Hp} {x:Addr} : del H x x=none:=if_pos rfl
theorem zs4 {H:Hp} {x b:Addr} (h:b ≠ x) : del H x b=H b:=if_neg h
noncomputable def zl1 (n:Nat) (fs:List (Str × (List Sl -> Option D))) (as:List D) : Option (List Str × List D):=zlk fs (.no :: (as.map .im ++ List.replicate (n - 1 - as.length) .no)) [] []
noncomputable def spI (G:Gc) (cn:Str) (n:Nat) (m:List D -> Option (List Str × List D)) : Sp:=fun vs H Q _=>∃ x dx Hf as vs' r,vs=.ref x :: vs' /\ H x=some (.ins (G.cl cn) dx []) /\ Hf x=none /\ za4 Hf H /\ zaq G Hf as vs' /\ as.length + 1=n /\ m as=some r /\
 ∀ us Hf' H',Ext Hf (del H x) Hf' H' -> Hf' x=none -> H' x=some (.ins (G.cl cn) dx (r.1.zip us)) -> r.1.length=us.length -> zaq G Hf' r.2 us -> Q .non H'
section
variable {P:Program} {w:World} {K:PySem.W.Frag} {mg:Str -> Option Value} {base:Heap} {c:Str -> Addr}
theorem zoe {x qual cn:Str} {st:Stmt} {f:Addr} {fd:FuncData} {N ps:List Str} {k:Nat} {fs:List (Str × (List Sl -> Option D))} (Fn:Fun K x qual st f fd) (S:za9 N ps (zam st))
  (h:∀ (cdv:Value) (A:Around) (outer:List Env) (s:Shared) (H:Hp) (E:XK),zb9 k (A.deeper (envOfC qual (zam st) s.heap.objs.size f cdv)) -> DSI c (zge CX0 P w K mg base N qual (zam st) f cdv A outer s H E).nox cn (za8 st) fs)
  (hz:fs.length <= 900:=by decide) : zaw P w K mg base CX0 (k + 1) f fd ps (spI ⟨K,c⟩ cn ps.length (zl1 N.length fs)):=by
 refine Fn.ok S (fun vs H Q E q=>by obtain ⟨x,dx,Hf,as,vs',r,ev,_,_,_,ra,hl,_⟩:=q; subst ev; rw [List.length_cons,<- ra.length]; exact hl) fun cdv A outer s H vs Q E hr q=>⟨_,h cdv A outer s H E hr,?_⟩
 obtain ⟨x,dx,Hf,as,vs',r,ev,hx,hf,s0,ra,hl,e,kq⟩:=q
 subst ev
 have la:=ra.length
 have im : ∀ (i:Nat) (s:Sl),(Sl.no :: (as.map Sl.im ++ List.replicate (N.length - 1 - as.length) .no))[i]?=some s -> s=.no \/ ∃ d j,i=j + 1 /\ as[j]?=some d /\ s=.im d:=fun i s b=>by
  cases i with
  | zero=>left; simpa using b.symm
  | succ i =>
   rw [List.getElem?_cons_succ] at b
   by_cases hi : i < as.length
   ·rw [List.getElem?_append_left (by simpa using hi)] at b
    obtain ⟨d,ed,es⟩:=ziw b
    exact .inr ⟨d,i,rfl,ed,es⟩
   ·rw [List.getElem?_append_right (by simpa using Nat.le_of_not_lt hi)] at b
    obtain ⟨_,e⟩:=List.getElem?_eq_some_iff.mp b
    rw [List.getElem_replicate] at e
    exact .inl e.symm
 have no : ∀ s ∈ (Sl.no :: (as.map Sl.im ++ List.replicate (N.length - 1 - as.length) .no)),Sl.isOwn s=false:=fun s hs=>by
  obtain ⟨i,hi⟩:=List.getElem?_of_mem hs
  rcases im i s hi with e | ⟨d,_,_,_,e⟩ <;> (subst e; rfl)
 refine ⟨x,dx,Hf,del H x,Hf,_,[],[],[],r,rfl,no,⟨⟨za4.refl _,fun b o e=>?_,s0,fun _ _ _ _=>rfl⟩,?_,fun i v s a b=>?_,fun i j s t l a b hs ht _ _=>?_⟩,zuf,hf,hx,rfl,by simpa using hz,rfl,e,fun us Hf' H' xx h1 h2 h3 h4=>kq us Hf' H' xx h1 h2 h3 h4⟩
 ·by_cases hb : b=x
  ·subst hb; rw [zuf] at e; cases e
  ·rw [zs4 hb] at e; exact e
 ·unfold L2.start
  simp only [List.length_append,List.length_map,List.length_cons,List.length_replicate]
  omega
 ·rcases im i s b with e | ⟨d,j,ei,ed,es⟩
  ·subst e; trivial
  ·subst es ei
   obtain ⟨u,eu,ru⟩:=ra.get ed
   refine ⟨u,?_,ru⟩
   have hi : j < vs'.length:=(List.getElem?_eq_some_iff.mp eu).1
   unfold L2.start at a
   rw [List.map_cons,List.cons_append,List.getElem?_cons_succ,List.getElem?_append_left (by simpa using hi),List.getElem?_map,eu] at a
   exact (Option.some.inj a).symm
 ·have:=no s (List.mem_of_getElem? a)
  rw [this] at hs; cases hs
end
section
variable {c:Str -> Addr} {X:Cx} {k:Nat} {f:Addr} {fd:FuncData} {ps:List Str} {x cn:Str} {p pos:Pos} {e:Expr} {es:List Expr} {fa:List Sl -> Option (List D)}
noncomputable def zjv (cn:Str) (m:List D -> Option (List Str × List D)) (fa:List Sl -> Option (List D)) (ρ:List Sl) : Option D:=(fa ρ).bind fun as=>(m as).map fun r=>.ins cn r.1 r.2
theorem zna {m:List D -> Option (List Str × List D)} (cn:Str) (M:Mk X.K (c cn) f) (F:zaw X.prog X.w X.K X.mg X.base CX0 k f fd ps (spI (Gx c X) cn ps.length m)) (hr:zb9 (k + 1) X.A) (hg:Gl X x) (hm:X.mg x=some (.ref (c cn))) (hb:za5 X.K fd ps []) (ha:DA c X (e :: es) fa)
  (hl:(e :: es).length + 1=ps.length:=by rfl) (hdb:(x == ("__debug__" : Str))=false:=by decide) (he:starEach (e :: es) X.env=(false,eval e X.env) :: starEach es X.env:=by rfl) (hpl:(backTo pos (starEach es X.env)).any (·.1)=false:=by rfl) :
  DE c X (.Call (.Name x p) (e :: es) [] pos) (zjv cn m fa):=PE.imp (z07 M F hr hg hm hb .nil zhn ha.pa hdb he hpl) fun σ H Q q_=>by
 obtain ⟨Hf0,H0,Hf,ρ,d,st,ef,kq⟩:=q_
 unfold zjv at ef
 cases e1 : fa ρ with
 | none=>rw [e1] at ef; cases ef
 | some as =>
  rw [e1] at ef
  replace ef : (m as).map _=_:=ef
  cases e2 : m as with
  | none=>rw [e2] at ef; cases ef
  | some r =>
   rw [e2] at ef
   cases ef
   refine ⟨Hf0,H0,Hf,ρ,as,st,e1,fun vs Hf' H' xx rv y dx ny ndx nex=>?_⟩
   try dsimp only
   rw [List.append_nil]
   have hy : (upd H' dx (.own y)) y=none:=by rw [zby nex.symm]; exact ny
   have s1 : za4 H' (upd H' dx (.own y)):=zc3 ndx
   have s2:=s1.trans (zc3 (o:=.ins (c cn) dx []) hy)
   have s3 : za4 H' (del (upd (upd H' dx (.own y)) y (.ins (c cn) dx [])) y):=fun b u q=>by
    have:=zdo q ny
    rw [zs4 this]
    exact s2 b u q
   refine ⟨y,dx,Hf',as,vs,r,rfl,zcd,xx.s.free ny,xx.s.trans s2,rv,by rw [ha.len ρ as e1]; exact hl,e2,fun us Hf2 H2 x2 hf2 hy2 hlen r2=>⟨rfl,?_⟩⟩
   have x3 : Ext Hf' H' Hf2 H2:=⟨x2.f,s3.trans x2.h,x2.s,fun l u q t=>x2.n l u (s3 l u q) t⟩
   exact kq _ _ H2 ((xx.trans x3).fix (xx.h.free ny) hf2 hy2) ⟨y,dx,us,rfl,zcd,hlen,r2.up (zc3 hf2)⟩
end
theorem zcq {F F':List Sl -> Option Fl} {ρ ρ':List Sl} {r:Option Fl} (h:F ρ=some (.nx ρ')) (h':F' ρ'=r) : zai F F' ρ=r:=by
 unfold zai
 rw [h]
 exact h'
theorem zez {F F':List Sl -> Option Fl} {ρ:List Sl} {d:D} (h:F ρ=some (.rt d)) : zai F F' ρ=some (.rt d):=by
 unfold zai
 rw [h]
 rfl
theorem ze3 {t:List Sl -> Option Bool} {F F':List Sl -> Option Fl} {ρ:List Sl} {r:Option Fl} (h:t ρ=some true) (h':F ρ=r) : za7 t F F' ρ=r:=by
 unfold za7
 rw [h]
 exact h'
theorem zc0 {t:List Sl -> Option Bool} {F F':List Sl -> Option Fl} {ρ:List Sl} {r:Option Fl} (h:t ρ=some false) (h':F' ρ=r) : za7 t F F' ρ=r:=by
 unfold za7
 rw [h]
 exact h'
theorem zwj {i:Nat} {f:List Sl -> Option D} {ρ:List Sl} {d:D} (h:f ρ=some d) : zbc i f ρ=some (.nx (ρ.set i (.im d))):=by
 unfold zbc
 rw [h]
 rfl
theorem zxe {i:Nat} {f:List Sl -> Option (List D)} {ρ:List Sl} {d:List D} (h:f ρ=some d) : zdd i f ρ=some (.nx (ρ.set i (.own d))):=by
 unfold zdd
 rw [h]
 rfl
theorem zcg {f:List Sl -> Option D} {ρ:List Sl} {d:D} (h:f ρ=some d) : zav f ρ=some (.rt d):=by
 unfold zav
 rw [h]
 rfl
theorem zcc {n:Nat} {F:List Sl -> Option Fl} {ds:List D} {d:D} (h:F (zdw n ds)=some (.rt d)) : zbi n F ds=some d:=by
 unfold zbi
 rw [h]
 rfl
theorem zjs {n:Nat} {F:List Sl -> Option Fl} {ds:List D} {d:List D} (h:F (zdw n ds)=some (.rtO d)) : zbi n F ds=some (.lst d):=by
 unfold zbi
 rw [h]
 rfl
theorem zau {m:List D -> Option D} {f:List Sl -> Option (List D)} {ρ:List Sl} {ds:List D} {d:D} (h:f ρ=some ds) (h':m ds=some d) : zap m f ρ=some d:=by
 unfold zap
 rw [h]
 exact h'
theorem zpx {α : Type} {h:D -> Option (Option D)} (f:α -> D) (p:α -> Bool) (q:α -> D) : ∀ (xs:List α),(∀ x ∈ xs,h (f x)=some (if p x then some (q x) else none)) -> ze4 h (xs.map f)=some ((xs.filter p).map q)
 | [],_=>rfl
 | x :: xs,hh=>by
  rw [List.map_cons]
  unfold ze4
  rw [hh x List.mem_cons_self,zpx f p q xs fun y hy=>hh y (List.mem_cons_of_mem _ hy)]
  cases hp : p x with
  | true=>rw [List.filter_cons_of_pos hp]; rfl
  | false=>rw [List.filter_cons_of_neg (by rw [hp]; exact Bool.false_ne_true)]; rfl
theorem z09 {α : Type} {h:D -> Option (Option D)} (f:α -> D) (q:α -> D) (xs:List α) (hh:∀ x ∈ xs,h (f x)=some (some (q x))) : ze4 h (xs.map f)=some (xs.map q):=by
 have:=zpx (h:=h) f (fun _=>true) q xs fun x hx=>(hh x hx).trans rfl
 rw [this,List.filter_eq_self.mpr fun _ _=>rfl]
theorem zd2 {α : Type} {k:Nat} {js:List Nat} {fi:List Sl -> Option (List D)} {g:D -> List Sl -> Option (List Sl)} {ft:List Sl -> Option Bool} {fe:List Sl -> Option D} {ρ:List Sl} (xs:List α) (f:α -> D) (p:α -> Bool) (q:α -> D)
  (hi:fi ρ=some (xs.map f)) (hz:xs.length <= 16777216) (hh:∀ x ∈ xs,ze9 g ft fe (zdk k js ρ) (f x)=some (if p x then some (q x) else none)) : za6 k js fi g ft fe ρ=some ((xs.filter p).map q):=by
 unfold za6
 rw [hi]
 show (if (xs.map f).length <= 16777216 then _ else none)=_
 rw [List.length_map,if_pos hz]
 exact zpx f p q xs hh
theorem zct {α : Type} {k:Nat} {js:List Nat} {fi:List Sl -> Option (List D)} {g:D -> List Sl -> Option (List Sl)} {ft:List Sl -> Option Bool} {fe:List Sl -> Option D} {ρ:List Sl} (xs:List α) (f:α -> D) (q:α -> D)
  (hi:fi ρ=some (xs.map f)) (hz:xs.length <= 16777216) (hh:∀ x ∈ xs,ze9 g ft fe (zdk k js ρ) (f x)=some (some (q x))) : za6 k js fi g ft fe ρ=some (xs.map q):=by
 unfold za6
 rw [hi]
 show (if (xs.map f).length <= 16777216 then _ else none)=_
 rw [List.length_map,if_pos hz]
 exact z09 f q xs hh
theorem zta {α : Type} {g:D -> List Sl -> Option (List Sl)} {F:List Sl -> Option Fl} (f:α -> D) (I:List α -> List Sl -> Prop) : ∀ (post pre:List α) (ρ:List Sl),I pre ρ ->
  (∀ pre' x post' ρ,pre ++ post=pre' ++ x :: post' -> I pre' ρ -> ∃ ρ1 ρ2,g (f x) ρ=some ρ1 /\ (F ρ1=some (.nx ρ2) \/ F ρ1=some (.ct ρ2)) /\ I (pre' ++ [x]) ρ2) -> ∃ ρ',zfq g F (post.map f) ρ=some (.nx ρ') /\ I (pre ++ post) ρ'
 | [],pre,ρ,h,_=>⟨ρ,rfl,by rw [List.append_nil]; exact h⟩
 | x :: post,pre,ρ,h,hs=>by
  obtain ⟨ρ1,ρ2,e1,e2,h2⟩:=hs pre x post ρ rfl h
  obtain ⟨ρ',e3,h3⟩:=zta f I post (pre ++ [x]) ρ2 h2 (by rw [List.append_assoc]; exact hs)
  refine ⟨ρ',?_,by rw [List.append_assoc] at h3; exact h3⟩
  rw [List.map_cons]
  unfold zfq
  rw [e1]
  show (F ρ1).bind _=_
  rcases e2 with e2 | e2
  ·rw [e2]; exact e3
  ·rw [e2]; exact e3
theorem z7b {α : Type} {fi:List Sl -> Option (List D)} {g:D -> List Sl -> Option (List Sl)} {F:List Sl -> Option Fl} {ρ:List Sl} (xs:List α) (f:α -> D) (I:List α -> List Sl -> Prop) (hi:fi ρ=some (xs.map f)) (h0:I [] ρ)
  (hs:∀ pre x post ρ,xs=pre ++ x :: post -> I pre ρ -> ∃ ρ1 ρ2,g (f x) ρ=some ρ1 /\ (F ρ1=some (.nx ρ2) \/ F ρ1=some (.ct ρ2)) /\ I (pre ++ [x]) ρ2) : ∃ ρ',zdf fi g F ρ=some (.nx ρ') /\ I xs ρ':=by
 unfold zdf
 rw [hi]
 exact zta f I xs [] ρ h0 hs
theorem z9l (lo:Int) (n:Nat) : rng lo n=(List.range n).map fun (i:Nat)=>D.int (lo + i):=rfl
theorem zwe {ns:List Int} : zd4 [.lst (ns.map D.int)]=some (.int ns.sum):=by
 unfold zd4 lsD
 show (zet (ns.map D.int)).map _=_
 rw [z2a]
 rfl
theorem zbz {α : Type} {f:α -> D} {xs:List α} {i:Int} (h0:0 <= i) (h1:i < xs.length) : ∃ x,xs[i.toNat]?=some x /\ atI (xs.map f) i=some (f x):=by
 have hl : i.toNat < xs.length:=by omega
 refine ⟨xs[i.toNat],by simp [hl],?_⟩
 have:=z3i (xs:=xs.map f) (j:=i.toNat) (v:=f xs[i.toNat]) (by simp [hl])
 rw [show ((i.toNat : Nat) : Int)=i by omega] at this
 exact this
theorem zsj {α : Type} {f:α -> D} {xs:List α} {i:Int} (d:α) (h0:0 <= i) (h1:i < xs.length) : atI (xs.map f) i=some (f (xs.getD i.toNat d)):=by
 obtain ⟨x,e1,e2⟩:=zbz (f:=f) h0 h1
 rw [e2,List.getD_eq_getElem?_getD,e1]
 rfl
noncomputable def ziq : Nat -> D -> Prop
 | 0,_=>False
 | n + 1,d=>match d with
  | .lst xs=>∀ x ∈ xs,ziq n x
  | .tup xs=>∀ x ∈ xs,ziq n x
  | d=>d.scalar=true
theorem ziq.mono : ∀ (n:Nat) (d:D),ziq n d -> ziq (n + 1) d
 | 0,_,h=>h.elim
 | n + 1,d,h=>by
  cases d with
  | lst xs=>exact fun x hx=>ziq.mono n x (h x hx)
  | tup xs=>exact fun x hx=>ziq.mono n x (h x hx)
  | _=>exact h
theorem zd5 (i j:Int) : dEq (.int i) (.int j)=some (.bl (i == j)):=rfl
theorem zof (i j:Str) : dEq (.str i) (.str j)=some (.bl (i == j)):=rfl
theorem zwr (i j:Int) : dNe (.int i) (.int j)=some (.bl (!(i == j))):=rfl
theorem z79 (i j:Bool) : dNe (.bl i) (.bl j)=some (.bl (!(i == j))):=rfl
theorem zas {m:D -> D -> Option D} {f g:List Sl -> Option D} {ρ:List Sl} {x y d:D} (h1:f ρ=some x) (h2:g ρ=some y) (h3:m x y=some d) : m2 m f g ρ=some d:=by
 unfold m2
 rw [h1,h2]
 exact h3
theorem zb0 {f:List Sl -> Option D} {ρ:List Sl} {b:Bool} (h:f ρ=some (.bl b)) : mB f ρ=some b:=by
 unfold mB
 rw [h]
 rfl
theorem zc9 {f:List Sl -> Option D} {ρ:List Sl} {d:D} {b:Bool} (h:f ρ=some d) (h':zqn d=some b) : zci f ρ=some b:=by
 unfold zci
 rw [h]
 exact h'
theorem zg8 {f:List Sl -> Option Bool} {ρ:List Sl} {b:Bool} (h:f ρ=some b) : zeu f ρ=some (!b):=by
 unfold zeu
 rw [h]
 rfl
theorem zh0 {f g:List Sl -> Option Bool} {ρ:List Sl} {r:Option Bool} (h:f ρ=some true) (h':g ρ=r) : zdc f g ρ=r:=by
 unfold zdc
 rw [h]
 exact h'
theorem zlr {f g:List Sl -> Option Bool} {ρ:List Sl} (h:f ρ=some false) : zdc f g ρ=some false:=by
 unfold zdc
 rw [h]
 rfl
theorem zru {f g:List Sl -> Option Bool} {ρ:List Sl} (h:f ρ=some true) : mOr f g ρ=some true:=by
 unfold mOr
 rw [h]
 rfl
theorem zlu {f g:List Sl -> Option Bool} {ρ:List Sl} {r:Option Bool} (h:f ρ=some false) (h':g ρ=r) : mOr f g ρ=r:=by
 unfold mOr
 rw [h]
 exact h'
theorem zgy {f g:List Sl -> Option Bool} {ρ:List Sl} {a b:Bool} (h:f ρ=some a) (h':g ρ=some b) : zdc f g ρ=some (a && b):=by
 cases a with
 | true=>exact zh0 h h'
 | false=>exact zlr h
theorem zmv {f g:List Sl -> Option Bool} {ρ:List Sl} {a b:Bool} (h:f ρ=some a) (h':g ρ=some b) : mOr f g ρ=some (a || b):=by
 cases a with
 | true=>exact zru h
 | false=>exact zlu h h'
theorem zkp {f g:List Sl -> Option D} {ρ:List Sl} {a b:Bool} (h:f ρ=some (.bl a)) (h':g ρ=some (.bl b)) : zec f g ρ=some (.bl (a && b)):=by
 unfold zec
 rw [zb0 h]
 cases a with
 | true=>exact h'
 | false=>rfl
theorem zrf {f g:List Sl -> Option D} {ρ:List Sl} {a b:Bool} (h:f ρ=some (.bl a)) (h':g ρ=some (.bl b)) : vOr f g ρ=some (.bl (a || b)):=by
 unfold vOr
 rw [zb0 h]
 cases a with
 | true=>rfl
 | false=>exact h'
theorem zgz {f:List Sl -> Option D} {ρ:List Sl} {a:Bool} (h:f ρ=some (.bl a)) : zfn f ρ=some (.bl (!a)):=by
 unfold zfn
 rw [zb0 h]
 rfl
theorem zae {f:List Sl -> Option D} {g:List Sl -> Option (List D)} {ρ:List Sl} {d:D} {ds:List D} (h:f ρ=some d) (h':g ρ=some ds) : zab f g ρ=some (d :: ds):=by
 unfold zab
 rw [h,h']
 rfl
theorem zb8 {f:List Sl -> Option (List D)} {ρ:List Sl} {ds:List D} (h:f ρ=some ds) : zbg f ρ=some (.tup ds):=by
 unfold zbg
 rw [h]
 rfl
theorem zat {f:List Sl -> Option (List D)} {ρ:List Sl} {ds:List D} (h:f ρ=some ds) : zak f ρ=some (.lst ds):=by
 unfold zak
 rw [h]
 rfl
theorem zal {f:List Sl -> Option (List D)} {g:List Sl -> Option D} {ρ:List Sl} {ds:List D} {i:Int} {r:Option D} (h:f ρ=some ds) (h':g ρ=some (.int i)) (h2:atI ds i=r) : mIx f g ρ=r:=by
 unfold mIx
 rw [h,h']
 exact h2
theorem zno {C:Int -> Int -> Prop} [∀ i j,Decidable (C i j)] {g:Int -> Int -> D} {i j:Int} (h:C i j) : dI C g (.int i) (.int j)=some (g i j):=by
 show (if C i j then some (g i j) else none)=_
 rw [if_pos h]
theorem z9h {i:Nat} {f:List Sl -> Option D} {ρ:List Sl} {d:D} {xs:List D} (h:f ρ=some d) (h':ρ[i]?=some (.own xs)) (hl:xs.length < 16777216) : ze0 i f ρ=some (.nx (ρ.set i (.own (xs ++ [d])))):=by
 unfold ze0
 rw [h]
 show (match ρ[i]? with | some (.own xs)=>if xs.length < 16777216 then some (Fl.nx (ρ.set i (.own (xs ++ [d])))) else none | _=>none)=_
 rw [h']
 show (if xs.length < 16777216 then _ else none)=_
 rw [if_pos hl]
theorem zdv {g:D -> List Sl -> Option (List Sl)} {ft:List Sl -> Option Bool} {fe:List Sl -> Option D} {ρ ρ1:List Sl} {d y:D} {b:Bool} (h1:g d ρ=some ρ1) (h2:ft ρ1=some b) (h3:b=true -> fe ρ1=some y) : ze9 g ft fe ρ d=some (if b then some y else none):=by
 unfold ze9
 rw [h1]
 show (ft ρ1).bind _=_
 rw [h2]
 show (if b=true then (fe ρ1).map some else some none)=_
 cases b with
 | true=>rw [h3 rfl]; rfl
 | false=>rfl
theorem zcn {g:D -> List Sl -> Option (List Sl)} {ft:List Sl -> Option Bool} {fe:List Sl -> Option D} {ρ ρ1:List Sl} {d y:D} (h1:g d ρ=some ρ1) (h2:ft ρ1=some true) (h3:fe ρ1=some y) : ze9 g ft fe ρ d=some (some y):=zdv h1 h2 fun _=>h3
theorem zcp {f:List Sl -> Option D} {ρ:List Sl} {d:D} {ds:List D} (h:f ρ=some d) (h':zf4 d=some ds) : zbh f ρ=some ds:=by
 unfold zbh
 rw [h]
 exact h'
theorem zi7 {f g:List Sl -> Option D} {ρ:List Sl} {d:D} (h:f ρ=some d) : zd0 f g ρ=some d:=by
 unfold zd0
 rw [h]
 rfl
theorem zfl {f g:List Sl -> Option D} {ρ:List Sl} {r:Option D} (h:f ρ=none) (h':g ρ=r) : zd0 f g ρ=r:=by
 unfold zd0
 rw [h]
 exact h'
theorem zfa {f:List Sl -> Option (List D)} {ρ:List Sl} {n:Int} (h:f ρ=some [.int n]) (h0:0 <= n) (h1:n < 2 ^ 62) : zds f ρ=some ((List.range n.toNat).map fun (i:Nat)=>D.int i):=by
 unfold zds
 rw [h]
 show (if -(2 ^ 62) <= n /\ n < 2 ^ 62 then some (rng 0 n.toNat) else none)=_
 rw [if_pos ⟨by omega,h1⟩,z9l]
 congr 1
 refine List.map_congr_left fun i _=>?_
 rw [Int.zero_add]
theorem zhk {cn f:Str} {m:List D -> Option D} {fo:List Sl -> Option D} {fa:List Sl -> Option (List D)} {ρ:List Sl} {ns:List Str} {ds as:List D} (h:fo ρ=some (.ins cn ns ds)) (hn:ns.contains f=false) (h':fa ρ=some as) : zda cn f m fo fa ρ=m (.ins cn ns ds :: as):=by
 unfold zda
 rw [h]
 show (if cn=cn /\ ns.contains f=false then (fa ρ).bind fun as=>m (.ins cn ns ds :: as) else none)=_
 rw [if_pos ⟨rfl,hn⟩,h']
 rfl
theorem zfm {cn f c':Str} {m:List D -> Option D} {fo:List Sl -> Option D} {fa:List Sl -> Option (List D)} {ρ:List Sl} {ns:List Str} {ds:List D} (h:fo ρ=some (.ins c' ns ds)) (hn:c' ≠ cn) : zda cn f m fo fa ρ=none:=by
 unfold zda
 rw [h]
 show (if c'=cn /\ ns.contains f=false then (fa ρ).bind fun as=>m (.ins c' ns ds :: as) else none)=_
 rw [if_neg fun z=>hn z.1]
noncomputable def itD (z:Int × Int) : D:=.tup [.int z.1,.int z.2]
noncomputable def shD : Option Bool -> D
 | none=>.non
 | some b=>.bl b
noncomputable def InN (n:Nat) (its:List (Int × Int)) : Prop:=∀ z ∈ its,0 <= z.1 /\ z.1 < (n:Int) /\ 0 <= z.2
theorem zc8 {es:List (Option Bool)} {i:Int} (h0:0 <= i) (h1:i < es.length) : atI (es.map shD) i=some (shD (es.getD i.toNat none)):=zsj none h0 h1
theorem zfy {es:List Bool} {i:Int} (h0:0 <= i) (h1:i < es.length) : atI (es.map D.bl) i=some (.bl (es.getD i.toNat false)):=zsj false h0 h1
theorem zem (e:Option Bool) (b:Bool) : dIs (shD e) (.bl b)=some (.bl (e == some b)):=by
 cases e with
 | none=>rfl
 | some c=>cases b <;> cases c <;> rfl
theorem zjq (e:Option Bool) (b:Bool) : zd7 (shD e) (.bl b)=some (.bl (!(e == some b))):=by
 cases e with
 | none=>rfl
 | some c=>cases b <;> cases c <;> rfl
noncomputable def Prt.toD : Prt -> D
 | .inn t=>.tup [.str "in",.int t]
 | .out t=>.tup [.str "out",.int t]
 | .least k its=>.tup [.str "least",.int k,.lst (its.map itD)]
 | .most k its=>.tup [.str "most",.int k,.lst (its.map itD)]
noncomputable def Prt.obj : Prt -> D
 | .inn t=>.ins "In" ["thing"] [.int t]
 | .out t=>.ins "Out" ["thing"] [.int t]
 | .least k its=>.ins "Least" ["bound","pieces"] [.int k,.lst (its.map itD)]
 | .most k its=>.ins "Most" ["bound","pieces"] [.int k,.lst (its.map itD)]
noncomputable def Prt.Ok (n:Nat) : Prt -> Prop
 | .inn t=>0 <= t /\ t < (n:Int)
 | .out t=>0 <= t /\ t < (n:Int)
 | .least _ its=>InN n its /\ its.length <= 100000
 | .most _ its=>InN n its /\ its.length <= 100000
theorem zyv (p:Int -> Bool) (its:List (Int × Int)) : ((its.filter fun z=>p z.1).map fun z=>D.int z.2)=((its.filter fun z=>p z.1).map (·.2)).map D.int:=by
 rw [List.map_map]
 rfl
theorem zii (p:Int -> Bool) (its:List (Int × Int)) : zd4 [.lst ((its.filter fun z=>p z.1).map fun z=>D.int z.2)]=some (.int (zen p its)):=by
 rw [zyv,zwe]
 rfl
theorem zoh : ∀ {bs:List Bool} {us:List Value},za1 (bs.map V.bl) us -> us=bs.map Value.bool
 | [],_,.nil=>rfl
 | b :: bs,_,.cons r t=>by
  rw [zoh t]
  cases (show _=Value.bool b from r)
  rfl
theorem z87 (bs:List Bool) : ((List.range bs.length).all fun i=>(bs[i]?).getD true)=bs.all id:=by
 rw [Bool.eq_iff_iff,List.all_eq_true,List.all_eq_true]
 constructor
 ·intro h b hb
  obtain ⟨i,hi,e⟩:=List.getElem_of_mem hb
  have:=h i (List.mem_range.mpr hi)
  simp only [List.getElem?_eq_getElem hi,Option.getD_some,e] at this
  exact this
 ·intro h i hi
  have hi':=List.mem_range.mp hi
  simp only [List.getElem?_eq_getElem hi',Option.getD_some]
  exact h _ (List.getElem_mem hi')
theorem z21 (bs:List Bool) : ((List.range bs.length).any fun i=>(bs[i]?).getD false)=bs.any id:=by
 rw [Bool.eq_iff_iff,List.any_eq_true,List.any_eq_true]
 constructor
 ·rintro ⟨i,hi,e⟩
  have hi':=List.mem_range.mp hi
  simp only [List.getElem?_eq_getElem hi',Option.getD_some] at e
  exact ⟨_,List.getElem_mem hi',e⟩
 ·rintro ⟨b,hb,e⟩
  obtain ⟨i,hi,rfl⟩:=List.getElem_of_mem hb
  exact ⟨i,List.mem_range.mpr hi,by simp only [List.getElem?_eq_getElem hi,Option.getD_some]; exact e⟩
section
variable {c:Str -> Addr} {X:Cx}
theorem zux {h h':Heap} {o:Obj} (hk:∀ b x,b ∉ [h.objs.size] -> (h.push o).get? b=some x -> h'.get? b=some x) : ∀ b x,h.get? b=some x -> h'.get? b=some x :=
 fun b x e=>hk b x (fun hm=>by rw [List.mem_singleton.mp hm] at e; exact Nat.lt_irrefl _ (Heap.lt_size e)) (Heap.get?_push_of_some _ e)
theorem z42 (hc:X.calm=true) : zfb X (.builtin "all") (fun xs H Q=>∃ (p:Addr) (bs:List Bool),xs=[.ref p] /\ SqL X.K H p (bs.map V.bl) /\ Q (.bl (bs.all id)) H):=by
 intro pins s σ H xs us Q I r h
 obtain ⟨l,bs,rfl,hq,q⟩:=h
 obtain ⟨u,rfl,rx⟩:=zin r
 cases rx
 obtain ⟨its,r',pl,hz⟩:=I.list hq
 have e:=zoh r'
 subst e
 have hl:=pl.isList
 have hlt : l < s.heap.objs.size:=by obtain ⟨_,e,_⟩:=hl; exact Heap.lt_size e
 refine call_all_walk (wpAny_pyIter_list hl ?_)
 refine ⟨s.heap.objs.size,[s.heap.objs.size,l],[s.heap.objs.size],(bs.map Value.bool).toArray.size,_,_,fun i=>(bs[i]?).getD true,rfl,Walks.list (A:=X.A.in1) (I.ok.hd hc) _ l (Nat.ne_of_lt hlt) (bs.map Value.bool).toArray,
  ⟨⟨_,Heap.get?_push_size _ rfl,rfl,rfl⟩,hl.push _⟩,fun i v s' Q' E' hP hQ=>?_,fun h' tk hk=>?_⟩
 ·have hP' : (bs.map Value.bool)[i]?=some v:=by simpa using hP
  obtain ⟨b,e,rfl⟩:=ziw hP'
  simp only [e,Option.getD_some] at hQ
  exact wpAny_truthy_bool hQ
 ·have e : ((List.range (bs.map Value.bool).toArray.size).all fun i=>(bs[i]?).getD true)=bs.all id:=by
   rw [List.size_toArray,List.length_map]; exact z87 bs
  rw [e]
  exact ⟨.bl (bs.all id),H,I.kept (zux hk),rfl,q⟩
theorem zz4 (hc:X.calm=true) : zfb X (.builtin "any") (fun xs H Q=>∃ (p:Addr) (bs:List Bool),xs=[.ref p] /\ SqL X.K H p (bs.map V.bl) /\ Q (.bl (bs.any id)) H):=by
 intro pins s σ H xs us Q I r h
 obtain ⟨l,bs,rfl,hq,q⟩:=h
 obtain ⟨u,rfl,rx⟩:=zin r
 cases rx
 obtain ⟨its,r',pl,hz⟩:=I.list hq
 have e:=zoh r'
 subst e
 have hl:=pl.isList
 have hlt : l < s.heap.objs.size:=by obtain ⟨_,e,_⟩:=hl; exact Heap.lt_size e
 refine call_any_walk (wpAny_pyIter_list hl ?_)
 refine ⟨s.heap.objs.size,[s.heap.objs.size,l],[s.heap.objs.size],(bs.map Value.bool).toArray.size,_,_,fun i=>(bs[i]?).getD false,rfl,Walks.list (A:=X.A.in1) (I.ok.hd hc) _ l (Nat.ne_of_lt hlt) (bs.map Value.bool).toArray,
  ⟨⟨_,Heap.get?_push_size _ rfl,rfl,rfl⟩,hl.push _⟩,fun i v s' Q' E' hP hQ=>?_,fun h' tk hk=>?_⟩
 ·have hP' : (bs.map Value.bool)[i]?=some v:=by simpa using hP
  obtain ⟨b,e,rfl⟩:=ziw hP'
  simp only [e,Option.getD_some] at hQ
  exact wpAny_truthy_bool hQ
 ·have e : ((List.range (bs.map Value.bool).toArray.size).any fun i=>(bs[i]?).getD false)=bs.any id:=by
   rw [List.size_toArray,List.length_map]; exact z21 bs
  rw [e]
  exact ⟨.bl (bs.any id),H,I.kept (zux hk),rfl,q⟩
noncomputable def zeq : List D -> Option (List Bool)
 | []=>some []
 | .bl b :: ds=>(zeq ds).map fun r=>b :: r
 | _=>none
theorem zv0 : ∀ {ds:List D} {bs:List Bool},zeq ds=some bs -> ds=bs.map D.bl
 | [],_,e=>by cases e; rfl
 | .bl b :: ds,_,e=>by
  unfold zeq at e
  cases es : zeq ds with
  | none=>rw [es] at e; cases e
  | some r=>rw [es] at e; cases e; rw [zv0 es]; rfl
 | .int _ :: _,_,e=>by cases e
 | .non :: _,_,e=>by cases e
 | .str _ :: _,_,e=>by cases e
 | .lst _ :: _,_,e=>by cases e
 | .tup _ :: _,_,e=>by cases e
 | .kl _ :: _,_,e=>by cases e
 | .kt _ :: _,_,e=>by cases e
 | .dic _ _ :: _,_,e=>by cases e
 | .ins _ _ _ :: _,_,e=>by cases e
theorem zn9 (bs:List Bool) : zeq (bs.map D.bl)=some bs:=by
 induction bs with
 | nil=>rfl
 | cons n ns ih=>rw [List.map_cons,zeq,ih]; rfl
theorem zaq.bls {G:Gc} {H:Hp} : ∀ {bs:List Bool} {vs:List V},zaq G H (bs.map D.bl) vs -> vs=bs.map V.bl
 | [],_,h=>h
 | b :: bs,_,⟨v,r,e,h1,h2⟩=>by
  subst e
  rw [zaq.bls h2,show v=V.bl b from h1]
  rfl
noncomputable def zfz : List D -> Option D
 | [d]=>(lsD d).bind fun ds=>(zeq ds).map fun bs=>.bl (bs.all id)
 | _=>none
noncomputable def zep : List D -> Option D
 | [d]=>(lsD d).bind fun ds=>(zeq ds).map fun bs=>.bl (bs.any id)
 | _=>none
theorem znp {f:List Bool -> D} {ds:List D} {d:D} (e:(match ds with | [d]=>(lsD d).bind fun ds=>(zeq ds).map f | _=>none)=some d) : ∃ d0 xs bs,ds=[d0] /\ lsD d0=some xs /\ xs=bs.map D.bl /\ d=f bs:=by
 split at e
 ·rename_i d0
  cases e1 : lsD d0 with
  | none=>rw [e1] at e; cases e
  | some xs =>
   rw [e1] at e
   replace e : (zeq xs).map f=some d:=e
   cases e2 : zeq xs with
   | none=>rw [e2] at e; cases e
   | some bs=>rw [e2] at e; cases e; exact ⟨d0,xs,bs,rfl,e1,zv0 e2,rfl⟩
 ·cases e
theorem zml (hc:X.calm=true) : zlq c X (.builtin "all") zfz:=by
 rintro pins s σ H vs us Q I rv ⟨Hf,ds,d,s0,r,e,k⟩
 obtain ⟨d0,xs,bs,rfl,e1,rfl,rfl⟩:=znp e
 obtain ⟨v,ev,r1⟩:=r.one
 subst ev
 obtain ⟨a,ws,ea,q,rs⟩:=zg7 e1 r1
 subst ea
 refine z42 hc pins s σ H _ us Q I rv ⟨a,bs,rfl,?_,k _ Hf H (Ext.refl s0) rfl⟩
 rw [<- rs.bls]
 exact s0.seq q
theorem zgs (hc:X.calm=true) : zlq c X (.builtin "any") zep:=by
 rintro pins s σ H vs us Q I rv ⟨Hf,ds,d,s0,r,e,k⟩
 obtain ⟨d0,xs,bs,rfl,e1,rfl,rfl⟩:=znp e
 obtain ⟨v,ev,r1⟩:=r.one
 subst ev
 obtain ⟨a,ws,ea,q,rs⟩:=zg7 e1 r1
 subst ea
 refine zz4 hc pins s σ H _ us Q I rv ⟨a,bs,rfl,?_,k _ Hf H (Ext.refl s0) rfl⟩
 rw [<- rs.bls]
 exact s0.seq q
theorem zlo : ∀ ds d,zfz ds=some d -> d.scalar=true:=fun ds d e=>by
 obtain ⟨d0,xs,bs,rfl,e1,rfl,rfl⟩:=znp e
 rfl
theorem zgp : ∀ ds d,zep ds=some d -> d.scalar=true:=fun ds d e=>by
 obtain ⟨d0,xs,bs,rfl,e1,rfl,rfl⟩:=znp e
 rfl
theorem zyb (bs:List Bool) : zfz [.lst (bs.map D.bl)]=some (.bl (bs.all id)):=by
 show (zeq (bs.map D.bl)).map _=_
 rw [zn9]
 rfl
theorem z7v (bs:List Bool) : zep [.lst (bs.map D.bl)]=some (.bl (bs.any id)):=by
 show (zeq (bs.map D.bl)).map _=_
 rw [zn9]
 rfl
end
inductive Wrd where
 | make | may | never
 deriving DecidableEq
noncomputable def Wrd.s : Wrd -> Str
 | .make=>"make"
 | .may=>"may"
 | .never=>"never"
structure Rul where
 w : Wrd
 hd : Int
 ps : List Prt
noncomputable def Rul.hdD (r:Rul) : D:=match r.w with
 | .never=>.non
 | _=>.int r.hd
noncomputable def Rul.toD (r:Rul) : D:=.tup [.str r.w.s,r.hdD,.lst (r.ps.map Prt.toD)]
structure Rul.Ok (n:Nat) (r:Rul) : Prop where
 hd : r.w ≠ .never -> 0 <= r.hd /\ r.hd < (n:Int)
 ps : ∀ p ∈ r.ps,p.Ok n
 len : r.ps.length <= 100000
noncomputable def Rul.bodySure (r:Rul) (es:List (Option Bool)) : Bool:=r.ps.all fun p=>p.sure es
noncomputable def Rul.bodyLost (r:Rul) (es:List (Option Bool)) (ws:List Bool) : Bool:=r.ps.any fun p=>p.lost es ws
noncomputable def Rul.surely (r:Rul) (es:List (Option Bool)) : Bool:=match r.w with
 | .may=>false
 | .make=>(es.getD r.hd.toNat none == some false) && r.bodySure es
 | .never=>r.bodySure es
theorem zvz {α : Type} (f:α -> Bool) (xs:List α) : (xs.map fun x=>D.bl (f x))=(xs.map f).map D.bl:=by
 rw [List.map_map]
 rfl
theorem all_map (f:Prt -> Bool) (xs:List Prt) : zfz [.lst (xs.map fun x=>D.bl (f x))]=some (.bl (xs.all f)):=by
 rw [zvz,zyb,List.all_map]
 rfl
theorem any_map (f:Prt -> Bool) (xs:List Prt) : zep [.lst (xs.map fun x=>D.bl (f x))]=some (.bl (xs.any f)):=by
 rw [zvz,z7v,List.any_map]
 rfl
theorem zjd {l:List Bool} {i:Nat} (h:i < l.length) : (bs l).getD i none=some (l.getD i false):=by
 unfold bs
 rw [List.getD_eq_getElem?_getD,List.getD_eq_getElem?_getD,List.getElem?_map]
 simp [h]
theorem zi5 {p q:Int -> Bool} : ∀ {its:List (Int × Int)},(∀ z ∈ its,0 <= z.2 /\ (p z.1=true -> q z.1=true)) -> zen p its <= zen q its
 | [],_=>Int.le_refl _
 | z :: its,h=>by
  have ih:=zi5 (its:=its) fun y hy=>h y (List.mem_cons_of_mem _ hy)
  obtain ⟨h0,h1⟩:=h z List.mem_cons_self
  unfold zen at ih ⊢
  cases hp : p z.1 with
  | true =>
   have hq:=h1 hp
   rw [List.filter_cons_of_pos (by simpa using hp),List.filter_cons_of_pos (by simpa using hq),List.map_cons,List.map_cons,List.sum_cons,List.sum_cons]
   omega
  | false =>
   rw [List.filter_cons_of_neg (by simp [hp])]
   cases hq : q z.1 with
   | true =>
    rw [List.filter_cons_of_pos (by simpa using hq),List.map_cons,List.sum_cons]
    omega
   | false =>
    rw [List.filter_cons_of_neg (by simp [hq])]
    exact ih
structure zfd (es es':List (Option Bool)) : Prop where
 len : es'.length=es.length
 at' : ∀ i,es.getD i none=none \/ es'.getD i none=es.getD i none
structure znf (ws ws':List Bool) : Prop where
 len : ws'.length=ws.length
 at' : ∀ i,ws.getD i false=true -> ws'.getD i false=true
theorem zfd.refl (es:List (Option Bool)) : zfd es es:=⟨rfl,fun _=>.inr rfl⟩
theorem znf.refl (ws:List Bool) : znf ws ws:=⟨rfl,fun _ h=>h⟩
theorem z8z {es es':List (Option Bool)} {p:Prt} (f:zfd es es') (h:p.Ok es.length) (s:p.sure es=true) : p.sure es'=true:=by
 have key : ∀ {i:Nat} {b:Bool},(es.getD i none == some b)=true -> (es'.getD i none == some b)=true:=fun {i b} e=>by
  rcases f.at' i with z | z
  ·rw [z] at e; cases b <;> cases e
  ·rw [z]; exact e
 have key2 : ∀ {i:Nat},(!(es'.getD i none == some false))=true -> (!(es.getD i none == some false))=true:=fun {i} e=>by
  cases q : (es.getD i none == some false) with
  | false=>rfl
  | true=>rw [key q] at e; exact e
 cases p with
 | inn t=>exact key s
 | out t=>exact key s
 | least k its =>
  have s : k <= zff (· == some true) es its:=of_decide_eq_true s
  refine decide_eq_true (Int.le_trans s ?_)
  rw [zgw,zgw]
  exact zi5 fun z hz=>⟨(h.1 z hz).2.2,fun e=>key e⟩
 | most k its =>
  have s : zff (fun e=>!(e == some false)) es its <= k:=of_decide_eq_true s
  refine decide_eq_true (Int.le_trans ?_ s)
  rw [zgw,zgw]
  exact zi5 fun z hz=>⟨(h.1 z hz).2.2,fun e=>key2 e⟩
theorem zzn {es es':List (Option Bool)} {ws ws':List Bool} {p:Prt} (f:zfd es es') (g:znf ws ws') (h:p.Ok es.length) (s:p.lost es ws=true) : p.lost es' ws'=true:=by
 have key : ∀ {i:Nat} {b:Bool},(es.getD i none == some b)=true -> (es'.getD i none == some b)=true:=fun {i b} e=>by
  rcases f.at' i with z | z
  ·rw [z] at e; cases b <;> cases e
  ·rw [z]; exact e
 cases p with
 | inn t =>
  have s : ((es.getD t.toNat none == some false) || ws.getD t.toNat false)=true:=s
  show ((es'.getD t.toNat none == some false) || ws'.getD t.toNat false)=true
  rw [Bool.or_eq_true] at s ⊢
  exact s.imp key (g.at' _)
 | out t=>exact key s
 | least k its =>
  have s : zen (fun t=>!(es.getD t.toNat none == some false) && !(ws.getD t.toNat false)) its < k:=of_decide_eq_true s
  refine decide_eq_true (Int.lt_of_le_of_lt (zi5 fun z hz=>⟨(h.1 z hz).2.2,fun e=>?_⟩) s)
  rw [Bool.and_eq_true] at e ⊢
  refine ⟨?_,?_⟩
  ·cases q : (es.getD z.1.toNat none == some false) with
   | false=>rfl
   | true=>rw [key q] at e; exact e.1
  ·cases q : ws.getD z.1.toNat false with
   | false=>rfl
   | true=>rw [g.at' _ q] at e; exact e.2
 | most k its =>
  have s : k < zff (· == some true) es its:=of_decide_eq_true s
  refine decide_eq_true (Int.lt_of_lt_of_le s ?_)
  rw [zgw,zgw]
  exact zi5 fun z hz=>⟨(h.1 z hz).2.2,fun e=>key e⟩
theorem zns {l:List Bool} {t:Int} (h0:0 <= t) (h1:t < (l.length : Int)) (b:Bool) : ((bs l).getD t.toNat none == some b)=(l.getD t.toNat false == b):=by
 rw [zjd (by omega)]
 cases l.getD t.toNat false <;> cases b <;> rfl
theorem zsw {α : Type} {p q:α -> Bool} {xs:List α} (h:∀ x ∈ xs,p x=true -> q x=true) (s:xs.all p=true) : xs.all q=true:=by
 rw [List.all_eq_true] at s ⊢
 exact fun x hx=>h x hx (s x hx)
theorem zz0 {α : Type} {p q:α -> Bool} {xs:List α} (h:∀ x ∈ xs,p x=true -> q x=true) (s:xs.any p=true) : xs.any q=true:=by
 rw [List.any_eq_true] at s ⊢
 obtain ⟨x,hx,e⟩:=s
 exact ⟨x,hx,h x hx e⟩
theorem z2h {es es':List (Option Bool)} {r:Rul} (f:zfd es es') (h:r.Ok es.length) (s:r.surely es=true) : r.surely es'=true:=by
 have hb : r.bodySure es=true -> r.bodySure es'=true:=fun s=>zsw (fun p hp s=>z8z f (h.ps p hp) s) s
 obtain ⟨w,hd,ps⟩:=r
 cases w with
 | may=>cases s
 | never=>exact hb s
 | make =>
  have s : ((es.getD hd.toNat none == some false) && Rul.bodySure ⟨.make,hd,ps⟩ es)=true:=s
  show ((es'.getD hd.toNat none == some false) && Rul.bodySure ⟨.make,hd,ps⟩ es')=true
  rw [Bool.and_eq_true] at s ⊢
  refine ⟨?_,hb s.2⟩
  rcases f.at' hd.toNat with z | z
  ·rw [z] at s; cases s.1
  ·rw [z]; exact s.1
noncomputable def Ite (K : PySem.W.Frag) (l : Addr) : It :=
  ⟨fun i H => ∃ xs x, SqL K H l xs /\ xs[i]? = some x,
   fun i H v H' => ∃ p x, v = .ref p /\ H p = none /\ H' = upd H p (.tup [.int i, x]) /\ (∀ xs, SqL K H l xs -> xs[i]? = some x),
   fun i H => ∃ xs, SqL K H l xs /\ xs.length <= i⟩
theorem z6q {P:Program} {w:World} {K:PySem.W.Frag} {elts:List Expr} {kx:Nat} {pos:Pos} (e it l:Addr) (ne:e ≠ it) :
  zim P w K (.Tuple elts kx pos) (Ite K l) [e,it] e (fun i h=>(∃ old,IsEnum h e it (i:Int) old) /\ h.IsListIter it l i) where
 mem:=by simp
 obj:=fun i h st b hb=>by
  obtain ⟨⟨old,he⟩,⟨o1,e1,_,d1⟩⟩:=st
  simp only [List.mem_cons,List.not_mem_nil,or_false] at hb
  rcases hb with rfl | rfl
  ·exact ⟨_,he,fun v q=>by cases q⟩
  ·exact ⟨o1,e1,fun v q=>by rw [d1] at q; cases q⟩
 keep:=fun i h h' st k=>by
  obtain ⟨⟨old,he⟩,h1⟩:=st
  exact ⟨⟨old,k e (by simp) _ he⟩,h1.at fun o q=>k it (by simp) o q⟩
 item:=by
  intro X hP hw hK hc i pins s σ H E I hf st hg
  subst hP hw hK
  obtain ⟨⟨old,he⟩,h1⟩:=st
  obtain ⟨xs,x,q1,hx⟩:=hg
  obtain ⟨its1,r1,p1,z1⟩:=I.list q1
  obtain ⟨u1,e1,ru1⟩:=r1.get hx
  refine wpAny_pyNext_enum_item he h1 p1.isList (x:=u1) (by simpa using e1) ne fun h' a1 a3 a5 a6 a7=>⟨_,rfl,?_⟩
  refine wpAny_letOwnedTupleGo_enum (s:={ s with heap:=h',toks:=s.toks + 1 }) a1 fun h'' b1 b2=>?_
  have lt : ∀ b ∈ [e,it],b < s.heap.objs.size:=fun b hb=>by
   simp only [List.mem_cons,List.not_mem_nil,or_false] at hb
   rcases hb with rfl | rfl
   ·exact Heap.lt_size he
   ·obtain ⟨o,e,_⟩:=h1; exact Heap.lt_size e
  have kk : ∀ b o,b ∉ [e,it] -> s.heap.get? b=some o -> h''.get? b=some o:=fun b o hb e=>by
   simp only [List.mem_cons,List.not_mem_nil,or_false,not_or] at hb
   obtain ⟨n1,n2⟩:=hb
   exact (b2.2 b n1).trans (a7 b o n1 n2 e)
  have fr : H s.heap.objs.size=none:=I.hok.fresh (Nat.le_refl _)
  have I1 : Inv X pins σ H { s with heap:=h'',toks:=s.toks + 1 }:=I.turnedMany (t':=s.toks + 1) kk hf
  have hp : h''.get? s.heap.objs.size=some { cls:=.type "tuple",data:=.seq #[.int i s.toks,u1] }:=(b2.2 _ (Nat.ne_of_gt (lt e (by simp)))).trans a5
  have I2 : Inv X pins σ (upd H s.heap.objs.size (.tup [.int i,x])) { s with heap:=h'',toks:=s.toks + 1 } :=
   I1.track (I.fpOk (Nat.le_refl _) fr) ⟨(by show 2 <= sizeLine; decide),[.int i s.toks,u1],.cons ⟨s.toks,rfl⟩ (.cons ru1 .nil),⟨_,hp,rfl,_,rfl⟩⟩
  refine ⟨.ref s.heap.objs.size,_,I2,rfl,⟨_,x,rfl,fr,rfl,fun xs' h=>by rw [I.list_inj h q1]; exact hx⟩,⟨⟨u1,?_⟩,?_⟩,fun b hb=>?_⟩
  ·have : ((i + 1 : Nat) : Int)=(i:Int) + 1:=by push_cast; rfl
   rw [this]; exact b1
  ·exact a3.at fun o q=>(b2.2 it (Ne.symm ne)).trans q
  ·rw [zby (Nat.ne_of_lt (lt b hb))]
   exact (hf b hb).1
 done:=by
  intro X hP hw hK hc i pins s σ H E I hf st hg
  subst hP hw hK
  obtain ⟨⟨old,he⟩,h1⟩:=st
  obtain ⟨xs,q1,hend⟩:=hg
  obtain ⟨its1,r1,p1,z1⟩:=I.list q1
  have l1':=r1.length
  refine wpAny_pyNext_enum_end (I.ok.hd hc) he h1 p1.isList (by simp; omega) fun h' kk=>⟨rfl,I.turnedMany (t':=s.toks) (ch:=[e,it]) (fun b o hb q=>?_) hf⟩
  simp only [List.mem_cons,List.not_mem_nil,or_false,not_or] at hb
  exact kk b o hb.2 q
 self:=fun _ _ _ _ _ st h=>by obtain ⟨⟨old,he⟩,_⟩:=st; exact wpAny_pyIter_enum he h
section
variable {X:Cx} {elts:List Expr} {kx:Nat} {tpos:Pos}
noncomputable def z4q (K:PySem.W.Frag) (ta:TA) : TI:=fun σ H R=>ta σ H fun vs H1=>∃ l,vs=[.ref l] /\ (∃ xs,SqL K H1 l xs) /\ R (Ite K l) H1
theorem z5n {a:Expr} {ta:TA} {p pos:Pos} (hg:Gl X "enumerate") (hm:X.mg "enumerate"=none) (ha:PA X [a] ta) (hs:starEach [a] X.env=[(false,eval a X.env)]:=by rfl) :
  PI X (.Tuple elts kx tpos) (.Call (.Name "enumerate" p) [a] [] pos) (z4q X.K ta):=by
 intro pins s σ H R I h
 refine Call_ (zg4 I hg hm boot_enumerate (PyProof.Rows.callWith_type1 (thn (ha pos pins s σ H _ I h) fun us s1 ⟨vs,H1,I1,r1,q1⟩=>?_) (by rw [hs]; rfl) (by rfl)))
 obtain ⟨l,e,⟨xs,h1⟩,q⟩:=q1
 subst e
 obtain ⟨u,rfl,ru⟩:=zin r1
 cases ru
 obtain ⟨its1,r1,p1,z1⟩:=I1.list h1
 refine call_enumerate_list p1.isList fun h' a1 a4 a6 a7=>?_
 refine wpAny_pyIter_enum a1 ?_
 have I2 : Inv X pins σ H1 { s1 with heap:=h' }:=I1.kept (t':=s1.toks) a7
 refine ⟨_,[s1.heap.objs.size + 1,s1.heap.objs.size],_,_,H1,rfl,I2,z6q _ _ _ (Nat.succ_ne_self _),⟨⟨_,a1⟩,a4⟩,fun b hb=>?_,q⟩
 simp only [List.mem_cons,List.not_mem_nil,or_false] at hb
 have hle : s1.heap.objs.size <= b:=by
  rcases hb with rfl | rfl
  ·exact Nat.le_add_right _ _
  ·exact Nat.le_refl _
 exact I1.fpOk hle (I1.hok.fresh hle)
end
noncomputable def zgd : Nat -> List D -> List D
 | _,[]=>[]
 | i,x :: xs=>.tup [.int i,x] :: zgd (i + 1) xs
theorem zrp : ∀ (i:Nat) (xs:List D),(zgd i xs).length=xs.length
 | _,[]=>rfl
 | i,x :: xs=>by rw [zgd,List.length_cons,List.length_cons,zrp]
theorem zl2 : ∀ (k:Nat) (xs:List D) (i:Nat),(zgd k xs)[i]?=(xs[i]?).map fun x=>.tup [.int (k + i : Nat),x]
 | _,[],_=>rfl
 | k,x :: xs,0=>rfl
 | k,x :: xs,i + 1=>by rw [zgd,List.getElem?_cons_succ,List.getElem?_cons_succ,zl2 (k + 1) xs i,show k + 1 + i=k + (i + 1) by omega]
noncomputable def zrl : List D -> Option (List D)
 | [x]=>(lsD x).map (zgd 0)
 | _=>none
noncomputable def zf2 (f:List Sl -> Option (List D)) (ρ:List Sl) : Option (List D):=(f ρ).bind zrl
section
variable {c:Str -> Addr} {X:Cx} {a:Expr} {pos p:Pos}
theorem zji {f:List Sl -> Option (List D)} {elts:List Expr} {kx:Nat} {tpos:Pos} (hg:Gl X "enumerate") (hm:X.mg "enumerate"=none) (ha:DA c X [a] f) (hs:starEach [a] X.env=[(false,eval a X.env)]:=by rfl) :
  DI c X (.Tuple elts kx tpos) (.Call (.Name "enumerate" p) [a] [] pos) (zf2 f) :=
 PI.imp (z5n hg hm ha.pa hs) fun σ H R q_=>by
  obtain ⟨Hf0,H0,Hf,ρ,ds,st,ef,k⟩:=q_
  unfold zf2 at ef
  cases e1 : f ρ with
  | none=>rw [e1] at ef; cases ef
  | some as =>
   rw [e1] at ef
   replace ef : zrl as=some ds:=ef
   refine ⟨Hf0,H0,Hf,ρ,as,st,e1,fun vs Hf' H' x r=>?_⟩
   unfold zrl at ef
   split at ef
   ·rename_i dx
    cases ex : lsD dx with
    | none=>rw [ex] at ef; cases ef
    | some xs =>
     rw [ex] at ef
     cases ef
     obtain ⟨v,ev,rv⟩:=r.one
     obtain ⟨l1,w1,el1,q1,r1⟩:=zg7 ex rv
     subst el1
     refine ⟨l1,ev,⟨w1,x.s.seq q1⟩,k _ Hf' H' x fun Hf2 H2 f2 s2 i=>?_⟩
     have g1 : SqL X.K H2 l1 w1:=(f2.trans s2).seq q1
     have h1:=r1.length
     refine ⟨fun d ed=>?_,fun ei=>⟨w1,g1,by rw [zrp] at ei; omega⟩⟩
     rw [zl2] at ed
     cases hx : xs[i]? with
     | none=>rw [hx] at ed; cases ed
     | some x' =>
      rw [hx] at ed
      cases ed
      obtain ⟨u1,eu1,ru1⟩:=r1.get hx
      refine ⟨⟨w1,u1,g1,eu1⟩,fun z H3 ⟨pp,z1,ez,hp,eh,y1⟩=>?_⟩
      subst ez eh
      have a1:=y1 w1 g1
      rw [eu1] at a1; cases a1
      exact ⟨upd Hf2 pp (.tup [.int i,u1]),Ext.new s2 hp,pp,[.int i,u1],rfl,zcd,.cons (by rw [Nat.zero_add]; rfl) (.cons (ru1.up (f2.trans (zc3 (s2.free hp)))) .nil)⟩
   ·cases ef
end
noncomputable def zk3 : D -> Option Key
 | .int i=>some (.inl i)
 | .str x=>some (.inr x)
 | _=>none
theorem zr3 {G:Gc} {H:Hp} {d:D} {v:V} {k:Key} (e:zk3 d=some k) (r:Rep G H d v) : v=kV k:=by
 cases d <;> first | (cases e; done) | (cases e; exact r)
noncomputable def zel (ks:List Key) (k:Key) : Bool:=ks.any fun j=>decide (j=k)
noncomputable def zfp {α : Type} (ks:List Key) (xs:List α) (k:Key) (x:α) : List α:=if zel ks k=true then List.zipWith (fun j y=>if j=k then x else y) ks xs else xs ++ [x]
noncomputable def ze7 (ks:List Key) (k:Key) : List Key:=if zel ks k=true then ks else ks ++ [k]
theorem zsu {ks:List Key} {k:Key} {v:V} : ∀ {ks:List Key} {vs:List V},(ks.zip vs).map (fun kv=>if kv.1=k then (kv.1,v) else kv)=ks.zip (List.zipWith (fun j y=>if j=k then v else y) ks vs)
 | [],_=>rfl
 | _ :: _,[]=>rfl
 | j :: ks,y :: vs=>by
  rw [List.zip_cons_cons,List.map_cons,List.zipWith_cons_cons,List.zip_cons_cons,zsu (ks:=ks)]
  by_cases h : j=k
  ·subst h; simp
  ·simp [h]
theorem zqq {k:Key} : ∀ {ks:List Key} {vs:List V},ks.length=vs.length -> ((ks.zip vs).any fun kv=>decide (kv.1=k))=zel ks k
 | [],[],_=>rfl
 | [],_ :: _,h=>by cases h
 | _ :: _,[],h=>by cases h
 | j :: ks,y :: vs,h=>by
  unfold zel
  rw [List.zip_cons_cons,List.any_cons,List.any_cons,zqq (by simpa using h)]
  rfl
theorem z7n {ks:List Key} {vs:List V} {k:Key} {v:V} (h:ks.length=vs.length) : zdy (ks.zip vs) k v=(ze7 ks k).zip (zfp ks vs k v):=by
 unfold zdy ze7 zfp
 rw [zqq h]
 by_cases e : zel ks k=true
 ·rw [if_pos e,if_pos e,if_pos e,zsu (ks:=ks)]
 ·rw [if_neg e,if_neg e,if_neg e,List.zip_append h]; rfl
theorem z9j {α : Type} {ks:List Key} {vs:List α} {k:Key} {v:α} (h:ks.length=vs.length) : (ze7 ks k).length=(zfp ks vs k v).length:=by
 unfold ze7 zfp
 by_cases e : zel ks k=true
 ·rw [if_pos e,if_pos e,List.length_zipWith]; omega
 ·rw [if_neg e,if_neg e,List.length_append,List.length_append,h]; rfl
theorem zaq.zipW {G:Gc} {H:Hp} {k:Key} {d:D} {v:V} (q:Rep G H d v) : ∀ {ks:List Key} {ds:List D} {vs:List V},zaq G H ds vs -> zaq G H (List.zipWith (fun j y=>if j=k then d else y) ks ds) (List.zipWith (fun j y=>if j=k then v else y) ks vs)
 | [],_,_,_=>.nil
 | _ :: _,[],_,h=>by cases (show _=[] from h); exact .nil
 | j :: ks,x :: ds,_,⟨u,r,e,h1,h2⟩=>by
  subst e
  rw [List.zipWith_cons_cons,List.zipWith_cons_cons]
  refine .cons ?_ (zaq.zipW q h2)
  by_cases e : j=k
  ·rw [if_pos e,if_pos e]; exact q
  ·rw [if_neg e,if_neg e]; exact h1
theorem zaq.put {G:Gc} {H:Hp} {k:Key} {ks:List Key} {d:D} {v:V} {ds:List D} {vs:List V} (r:zaq G H ds vs) (q:Rep G H d v) : zaq G H (zfp ks ds k d) (zfp ks vs k v):=by
 unfold zfp
 by_cases e : zel ks k=true
 ·rw [if_pos e,if_pos e]; exact r.zipW q
 ·rw [if_neg e,if_neg e]; exact r.append (.cons q .nil)
noncomputable def zq7 (i:Nat) (ρ:List Sl) : Option Fl:=some (.nx (ρ.set i (.ownd [] [])))
noncomputable def zie (i:Nat) (fk fv:List Sl -> Option D) (ρ:List Sl) : Option Fl:=(fv ρ).bind fun d=>(fk ρ).bind fun x=>(zk3 x).bind fun k=>match ρ[i]? with
 | some (.ownd ks xs)=>if ks.length < 16777216 then some (.nx (ρ.set i (.ownd (ze7 ks k) (zfp ks xs k d)))) else none
 | _=>none
noncomputable def zol (x y:D) : Option D:=(zk3 x).bind fun k=>match y with
 | .dic ks _=>some (.bl (zel ks k))
 | _=>none
section
variable {c:Str -> Addr} {X:Cx} {st:Stmt} {e a b i' value:Expr} {pos pos' p':Pos}
theorem z6l {i:Nat} (hp:PS X st (zic zr2 (zhi i))) : DS c X st (zq7 i):=PS.imp hp fun E σ H q_=>by
 obtain ⟨Hf0,H0,Hf,ρ,o,so,ef,k⟩:=q_
 cases ef
 intro q hq
 have x : Ext Hf H Hf (upd H q (.dK [])):=Ext.tmp so.sub hq
 exact k _ Hf _ x.f (so.setOwn (s:=.ownd [] []) rfl x hq (so.sub.free hq) ⟨[],zcd,rfl,.nil⟩)
theorem z6w (i:Nat) {x:Str} (hN:X.N.Nodup) (hi:X.N[i]?=some x:=by rfl) (hx:Loc X.env.scope x:=by first | exact Or.inl rfl | exact Or.inr rfl) (hs:swapsWith (.Dict [] [] pos) (some (.Name x pos')) p'.line X.env=pure false:=by rfl) (hf:X.fn x=true \/ X.env.scope.names.lookup x=some .local:=by first | exact .inl rfl | exact .inr rfl) :
  DS c X (.Assign [.Name x pos'] (.Dict [] [] pos) p') (zq7 i):=z6l (znu hN hi hx z9n hs hf)
theorem z28 {i:Nat} {fk fv:List Sl -> Option D} (hp:PS X st (zua (zd9 i) (tD (Gx c X) fk) (tD (Gx c X) fv))) : DS c X st (zie i fk fv):=PS.imp hp fun E σ H q_=>by
 obtain ⟨Hf0,H0,Hf,ρ,o,so,ef,k⟩:=q_
 unfold zie at ef
 cases e1 : fv ρ with
 | none=>rw [e1] at ef; cases ef
 | some d =>
  rw [e1] at ef
  cases e2 : fk ρ with
  | none=>rw [e2] at ef; cases ef
  | some x =>
   rw [e2] at ef
   cases e3 : zk3 x with
   | none=>rw [Option.bind_some,Option.bind_some,e3] at ef; cases ef
   | some ky =>
    rw [Option.bind_some,Option.bind_some,e3] at ef
    replace ef : (match ρ[i]? with | some (.ownd ks xs)=>if ks.length < 16777216 then some (Fl.nx (ρ.set i (.ownd (ze7 ks ky) (zfp ks xs ky d)))) else none | _=>none)=some o:=ef
    split at ef
    ·rename_i ks xs es
     split at ef
     ·rename_i hl
      cases ef
      refine ⟨Hf0,H0,Hf,ρ,d,so,e1,fun v Hf1 H1 x1 r1=>?_⟩
      have so1:=so.step x1
      obtain ⟨l,el,h0,hf,vs,q,z,r⟩:=so1.ownAt rfl es
      refine ⟨_,el,Hf0,H0,Hf1,ρ,x,so1,e2,fun y Hf2 H2 x2 r2=>?_⟩
      have so2:=so1.step x2
      have q2:=x2.h _ _ q
      have ey:=zr3 e3 r2
      subst ey
      refine ⟨l,_,rfl,zih.k q2 (by rw [sizeLine_eq,List.length_zip]; omega),?_⟩
      refine k σ Hf2 _ (x1.f.trans x2.f) (so2.mutd (s:=.ownd ks xs) (s':=.ownd (ze7 ks ky) (zfp ks xs ky d)) rfl rfl es el ⟨zfp ks vs ky v,?_,z9j z,(r.up x2.f).put (r1.up x2.f)⟩)
      rw [zcd,z7n z]
     ·cases ef
    ·cases ef
theorem zww (hu:X.A.units + 64 < cLine) {i:Nat} {fk fv:List Sl -> Option D} (ho:PE X e (zd9 i)) (hk:DE c X i' fk) (hv:DE c X value fv) (hs:swapsWith value (some (.Subscript e i' pos')) pos.line X.env=pure false:=by rfl) :
  DS c X (.Assign [.Subscript e i' pos'] value pos) (zie i fk fv):=z28 (z1l (by omega) ho hk hv hs)
theorem zzq {k:Key} : ∀ {ks:List Key} {vs:List V},ks.length=vs.length -> (zeg (ks.zip vs) k).isSome=zel ks k:=fun {ks vs} h=>by
 rw [<- zrd,zqq h]
theorem z6s (hu:X.A.units + 64 < cLine) {f g:List Sl -> Option D} (ha:DE c X a f) (hb:DE c X b g) (hm:behindInMarks .In b=false:=by first | exact nobehind _ (by decide) (by decide) | rfl) : DE c X (.Compare a [.In] [b] pos) (m2 zol f g) :=
 PE.imp (z0w (zzb (by omega) ha hb) hm) fun σ H Q q_=>by
  obtain ⟨Hf0,H0,Hf,ρ,d,st,ef,k⟩:=q_
  obtain ⟨x,y,e1,e2,e3⟩:=zp5 ef
  refine ⟨Hf0,H0,Hf,ρ,x,st,e1,fun v Hf1 H1 x1 r1=>⟨Hf0,H0,Hf1,ρ,y,st.step x1,e2,fun u Hf2 H2 x2 r2=>?_⟩⟩
  unfold zol at e3
  cases ek : zk3 x with
  | none=>rw [ek] at e3; cases e3
  | some ky =>
   rw [ek] at e3
   cases y with
   | dic ks xs =>
    cases e3
    obtain ⟨l,vs,el,q,z,r⟩:=r2
    have ev:=zr3 ek r1
    subst ev el
    refine ⟨l,_,rfl,ze8.k (x2.s _ _ q),k _ Hf2 H2 (x1.trans x2) ?_⟩
    rw [zzq z]
    rfl
   | _=>cases e3
end
noncomputable def zfw (i:Nat) (fk fv:List Sl -> Option D) (ρ:List Sl) : Option Fl:=(fv ρ).bind fun d=>(fk ρ).bind fun x=>match x with
 | .int k=>(match ρ[i]? with
  | some (.own xs)=>(ixN xs.length k).map fun j=>.nx (ρ.set i (.own (xs.set j d)))
  | _=>none)
 | _=>none
section
variable {c:Str -> Addr} {X:Cx} {st:Stmt} {e a b i' value:Expr} {pos pos':Pos}
theorem z25 {i:Nat} {fk fv:List Sl -> Option D} (hp:PS X st (zic (tD (Gx c X) fv) (zuw (zd9 i) (tD (Gx c X) fk) zuo))) : DS c X st (zfw i fk fv):=PS.imp hp fun E σ H q_=>by
 obtain ⟨Hf0,H0,Hf,ρ,o,so,ef,k⟩:=q_
 unfold zfw at ef
 cases e1 : fv ρ with
 | none=>rw [e1] at ef; cases ef
 | some d =>
  rw [e1] at ef
  cases e2 : fk ρ with
  | none=>rw [e2] at ef; cases ef
  | some x =>
   rw [e2] at ef
   obtain ⟨ky,rfl⟩ : ∃ ky,x=.int ky:=by cases x <;> first | exact ⟨_,rfl⟩ | cases ef
   replace ef : (match ρ[i]? with | some (.own xs)=>(ixN xs.length ky).map fun j=>Fl.nx (ρ.set i (.own (xs.set j d))) | _=>none)=some o:=ef
   split at ef
   ·rename_i xs es
    cases ej : ixN xs.length ky with
    | none=>rw [ej] at ef; cases ef
    | some j =>
     rw [ej] at ef
     cases ef
     refine ⟨Hf0,H0,Hf,ρ,d,so,e1,fun v Hf1 H1 x1 r1=>?_⟩
     have so1:=so.step x1
     obtain ⟨l,el,h0,hf,vs,q,r⟩:=so1.ownAt rfl es
     refine ⟨_,el,Hf0,H0,Hf1,ρ,.int ky,so1,e2,fun y Hf2 H2 x2 r2=>?_⟩
     have so2:=so1.step x2
     have q2:=x2.h _ _ q
     refine ⟨l,vs,ky,j,rfl,r2,q2,by rw [<- r.length]; exact ej,?_⟩
     exact k σ Hf2 _ (x1.f.trans x2.f) (so2.mutd (s:=.own xs) (s':=.own (xs.set j d)) rfl rfl es el ⟨vs.set j v,zcd,(r.up x2.f).set j (r1.up x2.f)⟩)
   ·cases ef
theorem zls {i:Nat} {fk fv:List Sl -> Option D} (ho:PE X e (zd9 i)) (hk:DE c X i' fk) (hv:DE c X value fv) (hs:swapsWithSole [.Subscript e i' pos'] value pos.line X.env=pure false:=by rfl) (hw:swappedStores [.Subscript e i' pos'] value X.env=pure none:=by rfl)
  (h1:(assignEach [.Subscript e i' pos'] X.env).map (·.2)=[assign (.Subscript e i' pos') X.env]:=by rfl)
  (ha:∀ v,assign (.Subscript e i' pos') X.env v=(do
   let ov <- holding [v] (eval e X.env)
   let iv <- holding [v,ov] (eval i' X.env)
   standAt pos'
   holding [v,ov,iv] (setItem ov iv v)
   release [v,ov,iv] []):=by intro _; rfl) :
  DS c X (.Assign [.Subscript e i' pos'] value pos) (zfw i fk fv):=z25 (zvp hv (zyc ho hk z26 ha) hs hw h1)
end
theorem zrn {G:Gc} {H:Hp} {f:D -> D -> Option Bool} (hf:∀ (d1 d2 x:D) (b1 b2:Bool) (v:V),Rep G H d1 v -> Rep G H d2 v -> f d1 x=some b1 -> f d2 x=some b2 -> b1=b2) :
  ∀ {xs1 xs2 ys:List D} {b1 b2:Bool} {vs:List V},zaq G H xs1 vs -> zaq G H xs2 vs -> zck f xs1 ys=some b1 -> zck f xs2 ys=some b2 -> b1=b2
 | [],[],[],_,_,_,_,_,h1,h2=>by cases h1; cases h2; rfl
 | [],[],_ :: _,_,_,_,_,_,h1,h2=>by cases h1; cases h2; rfl
 | [],_ :: _,_,_,_,_,r1,r2,_,_=>by have:=r1.length; have:=r2.length; simp at *; omega
 | _ :: _,[],_,_,_,_,r1,r2,_,_=>by have:=r1.length; have:=r2.length; simp at *; omega
 | _ :: _,_ :: _,[],_,_,_,_,_,h1,h2=>by cases h1; cases h2; rfl
 | d1 :: xs1,d2 :: xs2,y :: ys,b1,b2,vs,r1,r2,h1,h2=>by
  obtain ⟨v,r,e,p1,q1⟩:=r1
  obtain ⟨v',r',e',p2,q2⟩:=r2
  subst e
  cases e'
  obtain ⟨a1,a2,e1,e2,rfl⟩:=zmy h1
  obtain ⟨c1,c2,g1,g2,rfl⟩:=zmy h2
  have z1 : a1=c1:=hf _ _ _ _ _ _ p1 p2 e1 g1
  have z2 : a2=c2:=zrn (f:=f) hf q1 q2 e2 g2
  rw [z1,z2]
noncomputable def vD : V -> D
 | .bl b=>.bl b
 | .int i=>.int i
 | .str x=>.str x
 | _=>.non
theorem zvx {G:Gc} {H:Hp} {d:D} {v:V} (s:d.scalar=true) (r:Rep G H d v) : d=vD v:=by
 cases d <;> first | (cases s; done) | (rw [show v=_ from r]; rfl)
theorem zn4 {G:Gc} {H:Hp} {d:D} {a:Addr} (s:d.scalar=true) (r:Rep G H d (.ref a)) : False:=by
 cases d <;> first | (cases s; done) | (cases (show _=_ from r))
theorem zqw {G:Gc} {H:Hp} : ∀ (n:Nat) {d1 d2 x:D} {b1 b2:Bool} {v:V},Rep G H d1 v -> Rep G H d2 v -> deq n d1 x=some b1 -> deq n d2 x=some b2 -> b1=b2
 | 0,_,_,_,_,_,_,_,_,h,_=>by cases h
 | n + 1,d1,d2,x,b1,b2,v,r1,r2,h1,h2=>by
  replace h1 : zjg (deq n) d1 x=some b1:=h1
  replace h2 : zjg (deq n) d2 x=some b2:=h2
  have L : ∀ {xs ys:List D},d1=.lst xs -> d2=.lst ys -> b1=b2:=fun {xs ys} e1 e2=>by
   subst e1 e2
   obtain ⟨a,vs,e,q,rs⟩:=r1
   obtain ⟨a',vs',e',q',rs'⟩:=r2
   rw [e] at e'; cases e'
   rw [q] at q'; cases q'
   have l1:=rs.length
   have l2:=rs'.length
   cases x with
   | lst zs =>
    replace h1 : (if xs.length=zs.length then zck (deq n) xs zs else some false)=some b1:=h1
    replace h2 : (if ys.length=zs.length then zck (deq n) ys zs else some false)=some b2:=h2
    by_cases hl : xs.length=zs.length
    ·rw [if_pos hl] at h1
     rw [if_pos (by omega)] at h2
     exact zrn (f:=deq n) (fun _ _ _ _ _ _=>zqw n) rs rs' h1 h2
    ·rw [if_neg hl] at h1
     rw [if_neg (by omega)] at h2
     cases h1; cases h2; rfl
   | _=>cases h1
  have T : ∀ {xs ys:List D},d1=.tup xs -> d2=.tup ys -> b1=b2:=fun {xs ys} e1 e2=>by
   subst e1 e2
   obtain ⟨a,vs,e,q,rs⟩:=r1
   obtain ⟨a',vs',e',q',rs'⟩:=r2
   rw [e] at e'; cases e'
   rw [q] at q'; cases q'
   have l1:=rs.length
   have l2:=rs'.length
   cases x with
   | tup zs =>
    replace h1 : (if xs.length=zs.length then zck (deq n) xs zs else none)=some b1:=h1
    replace h2 : (if ys.length=zs.length then zck (deq n) ys zs else none)=some b2:=h2
    by_cases hl : xs.length=zs.length
    ·rw [if_pos hl] at h1
     rw [if_pos (by omega)] at h2
     exact zrn (f:=deq n) (fun _ _ _ _ _ _=>zqw n) rs rs' h1 h2
    ·rw [if_neg hl] at h1
     cases h1
   | _=>cases h1
  have no : ∀ {d:D} {b:Bool},zjg (deq n) d x=some b -> d.scalar=true \/ (∃ xs,d=.lst xs) \/ ∃ xs,d=.tup xs:=fun {d b} h=>by
   cases d with
   | lst xs=>exact .inr (.inl ⟨xs,rfl⟩)
   | tup xs=>exact .inr (.inr ⟨xs,rfl⟩)
   | non=>exact .inl rfl
   | bl b=>exact .inl rfl
   | int i=>exact .inl rfl
   | str i=>exact .inl rfl
   | _=>cases x <;> cases h
  rcases no h1 with s1 | ⟨xs,e1⟩ | ⟨xs,e1⟩
  ·have : d1=d2:=by
    rcases no h2 with s2 | ⟨ys,e2⟩ | ⟨ys,e2⟩
    ·rw [zvx s1 r1,<- zvx s2 r2]
    ·subst e2; obtain ⟨a,_,e,_⟩:=r2; subst e; exact (zn4 s1 r1).elim
    ·subst e2; obtain ⟨a,_,e,_⟩:=r2; subst e; exact (zn4 s1 r1).elim
   subst this
   rw [h1] at h2; cases h2; rfl
  ·rcases no h2 with s2 | ⟨ys,e2⟩ | ⟨ys,e2⟩
   ·subst e1; obtain ⟨a,_,e,_⟩:=r1; subst e; exact (zn4 s2 r2).elim
   ·exact L e1 e2
   ·subst e1 e2
    obtain ⟨a,vs,e,q,rs⟩:=r1
    obtain ⟨a',vs',e',q',rs'⟩:=r2
    rw [e] at e'; cases e'
    rw [q] at q'; cases q'
  ·rcases no h2 with s2 | ⟨ys,e2⟩ | ⟨ys,e2⟩
   ·subst e1; obtain ⟨a,_,e,_⟩:=r1; subst e; exact (zn4 s2 r2).elim
   ·subst e1 e2
    obtain ⟨a,vs,e,q,rs⟩:=r1
    obtain ⟨a',vs',e',q',rs'⟩:=r2
    rw [e] at e'; cases e'
    rw [q] at q'; cases q'
   ·exact T e1 e2
noncomputable def zfu (x:D) : List D -> Option Bool
 | []=>some false
 | d :: ds=>(deq 19 d x).bind fun b=>(zfu x ds).map fun r=>b || r
noncomputable def zh3 (x y:D) : Option D:=((zf4 y).bind (zfu x)).map fun b=>.bl (!b)
theorem z8s : ∀ x y d,zh3 x y=some d -> d.scalar=true:=fun _ _ d e=>zki (g:=not) d e
theorem z4v {x d:D} {ds:List D} {b:Bool} (h:zfu x (d :: ds)=some b) : ∃ b1 b2,deq 19 d x=some b1 /\ zfu x ds=some b2 /\ b=(b1 || b2):=by
 unfold zfu at h
 cases e1 : deq 19 d x with
 | none=>rw [e1] at h; cases h
 | some b1 =>
  cases e2 : zfu x ds with
  | none=>rw [e1,e2] at h; cases h
  | some b2=>rw [e1,e2] at h; cases h; exact ⟨b1,b2,rfl,rfl,rfl⟩
theorem zrt {α : Type} {f g:α -> Bool} : ∀ {l:List α},(∀ x ∈ l,f x=g x) -> l.any f=l.any g
 | [],_=>rfl
 | x :: l,h=>by rw [List.any_cons,List.any_cons,h x List.mem_cons_self,zrt fun y hy=>h y (List.mem_cons_of_mem _ hy)]
section
variable {c:Str -> Addr} {X:Cx}
open Classical in
theorem zqg {pins:List (Addr × Obj)} {σ:St} {H:Hp} {s:Shared} {A:Around} {x:D} {vx:V} {u:Value} (I:Inv X pins σ H s) (hu:A.units + 19 < cLine) (rx:Rep (Gx c X) H x vx) (ru:za0 vx u) :
  ∀ {ds:List D} {vs:List V} {us:List Value} {b:Bool},zaq (Gx c X) H ds vs -> za1 vs us -> zfu x ds=some b ->
   ∃ f : Value -> Bool,(∀ y ∈ us,SeqAt.EqAt A s y u (f y) /\ ∃ d v,Rep (Gx c X) H d v /\ za0 v y /\ deq 19 d x=some (f y)) /\ us.any f=b
 | [],_,_,b,r,rv,h=>by
  cases (show _=[] from r)
  cases rv
  cases h
  exact ⟨fun _=>false,(fun y hy=>by cases hy),rfl⟩
 | d :: ds,_,_,b,⟨v,r',ev,r1,r2⟩,rv,h=>by
  subst ev
  obtain ⟨b1,b2,h1,h2,rfl⟩:=z4v h
  cases rv with
  | @cons _ y _ us rvy rvs =>
   obtain ⟨f,hf,ha⟩:=zqg I hu rx ru r2 rvs h2
   have eqy : SeqAt.EqAt A s y u b1:=zqp I 19 hu h1 r1 rx rvy ru
   refine ⟨fun z=>if z=y then b1 else f z,fun z hz=>?_,?_⟩
   ·by_cases e : z=y
    ·subst e
     simp only [if_true]
     exact ⟨eqy,d,v,r1,rvy,h1⟩
    ·simp only [e,if_false]
     exact hf z ((List.mem_cons.mp hz).resolve_left e)
   ·rw [List.any_cons,if_pos rfl,<- ha]
    congr 1
    by_cases hy : y ∈ us
    ·obtain ⟨_,d',v',r',rv',h'⟩:=hf y hy
     have ev : v'=v:=za0.inj rv' rvy
     subst ev
     have eb : f y=b1:=zqw 19 r' r1 h' h1
     refine zrt fun z hz=>?_
     by_cases e : z=y
     ·subst e; simp [eb]
     ·simp [e]
    ·refine zrt fun z hz=>?_
     have e : z ≠ y:=fun q=>hy (q ▸ hz)
     simp [e]
theorem z36 (hu:X.A.units + 64 < cLine) : OpD c X (compareOp .NotIn) zh3:=by
 rintro pins s σ H v u w w' Q I rv ru ⟨Hf,x,y,d,s0,r1,r2,e,k⟩
 unfold zh3 at e
 cases h : (zf4 y).bind (zfu x) with
 | none=>rw [h] at e; cases e
 | some b =>
  rw [h] at e
  cases e
  cases es : zf4 y with
  | none=>rw [es] at h; cases h
  | some ds =>
   rw [es] at h
   obtain ⟨a,vs,e1,q,r⟩:=zmc es (r2.up s0)
   subst e1
   cases ru
   have fin : ∃ v' H',Inv X pins σ H' s /\ za0 v' (.bool (!b)) /\ Q v' H':=⟨.bl (!b),H,I,rfl,k _ Hf H (Ext.refl s0) rfl⟩
   rcases q with q | q
   ·obtain ⟨its,rr,pl,hz⟩:=I.list q
    obtain ⟨f,hf,ha⟩:=zqg (A:=X.A.in1) I (by rw [Around.in1_units]; omega) (r1.up s0) rv r rr h
    refine SeqAt.notIn_listAt f pl.isList (fun z hz=>(hf z (by simpa using hz)).1) ?_
    rw [show its.toArray.any f=its.any f by simp,ha]
    exact fin
   ·obtain ⟨its,rr,pl,hz⟩:=I.tuple q
    obtain ⟨f,hf,ha⟩:=zqg (A:=X.A.in1) I (by rw [Around.in1_units]; omega) (r1.up s0) rv r rr h
    refine SeqAt.notIn_tupleAt f pl (fun z hz=>(hf z (by simpa using hz)).1) ?_
    rw [show its.toArray.any f=its.any f by simp,ha]
    exact fin
end
noncomputable def Ris (xs:Array Nat) : Prop:=xs.toList.Pairwise (· < ·)
theorem z3e {xs:Array Nat} (h:Ris xs) {a b j:Nat} (hab:a < b) (hb:b < xs.size) : xs.getD a j < xs.getD b j:=by
 have h1:=List.pairwise_iff_getElem.mp h a b (by simpa using Nat.lt_trans hab hb) (by simpa using hb) hab
 rw [Array.getD,Array.getD,dif_pos (Nat.lt_trans hab hb),dif_pos hb]
 simpa using h1
theorem zpe {xs:Array Nat} (h:Ris xs) {a b j:Nat} (hab:a <= b) (hb:b < xs.size) : xs.getD a j <= xs.getD b j:=by
 rcases Nat.eq_or_lt_of_le hab with e | e
 ·subst e; exact Nat.le_refl _
 ·exact Nat.le_of_lt (z3e h e hb)
theorem zqj {xs:Array Nat} {j:Nat} (h:Ris xs) : ∀ (fuel lo hi:Nat),lo <= hi -> hi <= xs.size -> hi - lo <= fuel -> (∀ i,i < lo -> xs.getD i j < j) -> (∀ i,hi <= i -> i < xs.size -> ¬ xs.getD i j < j) ->
  SetTable.below.go xs j fuel lo hi <= xs.size /\ (∀ i,i < SetTable.below.go xs j fuel lo hi -> xs.getD i j < j) /\ ∀ i,SetTable.below.go xs j fuel lo hi <= i -> i < xs.size -> ¬ xs.getD i j < j
 | 0,lo,hi,h1,h2,h3,h4,h5=>by
  have e : lo=hi:=by omega
  subst e
  exact ⟨h2,h4,h5⟩
 | fuel + 1,lo,hi,h1,h2,h3,h4,h5=>by
  unfold SetTable.below.go
  by_cases hl : lo < hi
  ·rw [if_pos hl]
   by_cases hm : xs.getD ((lo + hi) / 2) j < j
   ·simp only [hm,if_true]
    refine zqj h fuel ((lo + hi) / 2 + 1) hi (by omega) h2 (by omega) (fun i hi'=>?_) h5
    exact Nat.lt_of_le_of_lt (zpe h (by omega) (by omega)) hm
   ·simp only [hm,if_false]
    refine zqj h fuel lo ((lo + hi) / 2) (by omega) (by omega) (by omega) h4 fun i hi' hs hc=>?_
    exact hm (Nat.lt_of_le_of_lt (zpe h hi' hs) hc)
  ·rw [if_neg hl]
   have e : lo=hi:=by omega
   subst e
   exact ⟨h2,h4,h5⟩
theorem z56 {xs:Array Nat} (h:Ris xs) (j:Nat) : SetTable.below xs j <= xs.size /\ (∀ i,i < SetTable.below xs j -> xs.getD i j < j) /\ ∀ i,SetTable.below xs j <= i -> i < xs.size -> ¬ xs.getD i j < j :=
 zqj h xs.size 0 xs.size (Nat.zero_le _) (Nat.le_refl _) (by omega) (fun i hi=>by omega) fun i hi hs=>by omega
theorem z4c {xs:Array Nat} (h:Ris xs) {j:Nat} (hn:xs[SetTable.below xs j]? ≠ some j) : Ris (SetTable.insertAt xs (SetTable.below xs j) j):=by
 obtain ⟨h1,h2,h3⟩:=z56 h j
 unfold Ris SetTable.insertAt
 have g : ∀ i,(hi:i < xs.size) -> xs.getD i j=xs[i]:=fun i hi=>by rw [Array.getD,dif_pos hi]; rfl
 rw [Array.toList_append,Array.toList_push,Array.toList_extract,Array.toList_extract]
 simp only [List.extract_eq_drop_take,Nat.sub_zero,List.drop_zero]
 have hlt : ∀ x ∈ xs.toList.take (SetTable.below xs j),x < j:=fun x hx=>by
  obtain ⟨i,hi,e⟩:=List.mem_take_iff_getElem.mp hx
  have hi' : i < SetTable.below xs j:=by omega
  have:=h2 i hi'
  rw [g i (by omega)] at this
  rw [<- e]
  simpa using this
 have hgt : ∀ x ∈ xs.toList.drop (SetTable.below xs j),j < x:=fun x hx=>by
  obtain ⟨i,hi,e⟩:=List.mem_drop_iff_getElem.mp hx
  have hs : SetTable.below xs j + i < xs.size:=by simpa [Nat.add_comm] using hi
  have a:=h3 (SetTable.below xs j + i) (by omega) hs
  rw [g _ hs] at a
  have ex : x=xs[SetTable.below xs j + i]:=by rw [<- e]; simp
  rw [ex]
  rcases Nat.lt_or_ge j xs[SetTable.below xs j + i] with q | q
  ·exact q
  ·exfalso
   have ej : xs[SetTable.below xs j + i]=j:=by omega
   have hb : SetTable.below xs j < xs.size:=by omega
   have b:=zpe h (j:=j) (show SetTable.below xs j <= SetTable.below xs j + i by omega) hs
   rw [g _ hs,g _ hb,ej] at b
   have c:=h3 (SetTable.below xs j) (Nat.le_refl _) hb
   rw [g _ hb] at c
   exact hn (by rw [Array.getElem?_eq_getElem hb]; congr 1; omega)
 have ed : List.take (xs.size - SetTable.below xs j) (List.drop (SetTable.below xs j) xs.toList)=List.drop (SetTable.below xs j) xs.toList:=List.take_of_length_le (by simp)
 rw [ed]
 refine List.pairwise_append.mpr ⟨List.pairwise_append.mpr ⟨List.Pairwise.sublist (List.take_sublist _ _) h,by simp,fun a ha b hb=>?_⟩,List.Pairwise.sublist (List.drop_sublist _ _) h,fun a ha b hb=>?_⟩
 ·have : b=j:=by simpa using hb
  subst this; exact hlt a ha
 ·rcases List.mem_append.mp ha with ha | ha
  ·exact Nat.lt_trans (hlt a ha) (hgt b hb)
  ·have : a=j:=by simpa using ha
   subst this; exact hgt b hb
theorem z6v (n:Nat) : Ris (Array.range n):=by
 unfold Ris
 rw [Array.toList_range]
 exact List.pairwise_lt_range
theorem zu0 {t:SetTable} {j:Nat} (h:t.slot j=.empty \/ t.slot j=.dummy) : t.place[SetTable.below t.place j]? ≠ some j:=fun e=>by
 have : t.slot j=.live (SetTable.below t.place j):=by
  unfold SetTable.slot
  simp only [e,beq_self_eq_true,if_true]
 rw [this] at h
 rcases h with h | h <;> cases h
theorem zpl {t:SetTable} {h:Int} : ∀ (fuel:Nat) (p:SetTable.Probe) {j:Nat} {d:Option Nat},(∀ d',p.dummy=some d' -> t.place[SetTable.below t.place d']? ≠ some d') -> SetTable.probe.go t (fun _=>h + 1) h fuel p=some (.empty j d) ->
  t.place[SetTable.below t.place j]? ≠ some j /\ ∀ d',d=some d' -> t.place[SetTable.below t.place d']? ≠ some d'
 | 0,_,_,_,_,e=>by cases e
 | fuel + 1,p,j,d,hd,e=>by
  unfold SetTable.probe.go at e
  split at e
  ·rename_i hs
   cases e
   exact ⟨zu0 (.inl hs),hd⟩
  ·rename_i hs
   refine zpl fuel _ (fun d' q=>?_) e
   have : d'=p.j:=by
    unfold SetTable.advance at q
    split at q
    ·exact (Option.some.inj q).symm
    ·exact (Option.some.inj q).symm
   subst this
   exact zu0 (.inr hs)
  ·rename_i i hs
   split at e
   ·cases e
   ·refine zpl fuel _ (fun d' q=>hd d' ?_) e
    unfold SetTable.advance at q
    split at q <;> exact q
theorem z61 {t:SetTable} {h:Int} {j:Nat} {w:Bool} (e:t.freeSlot h=some (j,w)) : t.place[SetTable.below t.place j]? ≠ some j:=by
 unfold SetTable.freeSlot at e
 split at e
 ·rename_i j' d hp
  obtain ⟨h1,h2⟩:=zpl _ _ (fun d' q=>by cases q) hp
  cases d with
  | none=>cases e; exact h1
  | some d'=>cases e; exact h2 _ rfl
 ·cases e
theorem znd (t:SetTable) (n:Nat) : Ris (t.standIn n).place /\ (t.standIn n).led=t.led:=⟨z6v n,rfl⟩
theorem z1w {t:SetTable} (n:Nat) (h:Ris t.place) : Ris (t.orStandIn n).place /\ (t.orStandIn n).led=t.led:=by
 unfold SetTable.orStandIn
 split
 ·exact ⟨h,rfl⟩
 ·exact znd t n
theorem z7a {t:SetTable} (es:Array (Int × Value)) (h:Int) (x:Value) (hr:Ris t.place) : Ris (layNew t es h x).2.1.place /\ (layNew t es h x).2.1.led=t.led:=by
 unfold layNew
 split
 ·rename_i slot wd hf
  exact z1w (t:=(t.put slot).1) _ (z4c hr (z61 hf))
 ·exact znd t _
theorem z0n {mask finger moves:Nat} {led plain:Bool} {hashes:Array Int} {t':SetTable} {order:Array Nat} (e:SetTable.laid mask finger moves led plain hashes=some (t',order)) : Ris t'.place /\ t'.led=led:=by
 unfold SetTable.laid at e
 cases ho : SetTable.layClean mask hashes with
 | none=>rw [ho] at e; cases e
 | some owner =>
  rw [ho] at e
  cases e
  refine ⟨?_,rfl⟩
  unfold Ris
  show List.Pairwise _ (List.map _ _)
  rw [List.pairwise_map,List.pairwise_filterMap]
  refine List.Pairwise.imp (fun {a b} hab=>?_) List.pairwise_lt_range
  intro p hp q hq
  cases ha : owner.getD a none with
  | none=>rw [ha] at hp; cases hp
  | some ka =>
   cases hb : owner.getD b none with
   | none=>rw [hb] at hq; cases hq
   | some kb=>rw [ha] at hp; rw [hb] at hq; cases hp; cases hq; exact hab
theorem z3l {t:SetTable} (es:Array (Int × Value)) (wanted:Nat) : Ris (relayAll t es wanted).2.1.place /\ (relayAll t es wanted).2.1.led=t.led:=by
 unfold relayAll
 split
 ·rename_i t' order hl
  have hr : Ris t'.place /\ t'.led=t.led:=z0n hl
  dsimp only
  split
  ·exact hr
  ·exact znd t _
 ·exact znd t _
noncomputable def zd6 (P:Program) (w:World) (h:Heap) (a:Addr) (led:Bool) (S:Int -> Bool) (n:Nat) : Prop :=
 ∃ o ents ep tb,h.get? a=some o /\ o.ExactSet /\ o.data=.set ents ep tb /\ ElemsOf (intKind P w) ents.toList /\ (∀ k,S k=true ↔ ∃ e ∈ ents.toList,(intKind P w).is k e.2=true)
  /\ ents.size < scanBound /\ tb.fits ents.size=true /\ ents.size=n /\ Ris tb.place /\ tb.led=led
section
variable {P:Program} {w:World} {A:Around} {E:Value -> Shared -> Prop} {s:Shared}
theorem zd6.stay {h h':Heap} {a:Addr} {led:Bool} {S:Int -> Bool} {n:Nat} (q:zd6 P w h a led S n) (k:∀ o,h.get? a=some o -> h'.get? a=some o) : zd6 P w h' a led S n:=by
 obtain ⟨o,ents,ep,tb,ho,r⟩:=q
 exact ⟨o,ents,ep,tb,k o ho,r⟩
theorem zd6.congr {h:Heap} {a:Addr} {led:Bool} {S S':Int -> Bool} {n n':Nat} (q:zd6 P w h a led S n) (e:∀ k,S k=S' k) (en:n=n') : zd6 P w h a led S' n':=by
 have : S=S':=funext e
 subst this en
 exact q
theorem zsn {h:Heap} {a:Addr} {o:Obj} {ents ents':Array (Int × Value)} {ep:Nat} {tb tb':SetTable} {led:Bool} {S:Int -> Bool} (ho:h.get? a=some o) (hex:o.ExactSet) (hd:o.data=.set ents ep tb)
  (hel:ElemsOf (intKind P w) ents'.toList) (hm:∀ k,S k=true ↔ ∃ e ∈ ents'.toList,(intKind P w).is k e.2=true) (hb:ents'.size < scanBound) (hf:tb'.fits ents'.size=true) (hr:Ris tb'.place) (hled:tb'.led=led) :
  (h.update a (Obj.putSet ents' tb')).get? a=some { o with data:=.set ents' (ep + 1) tb' } /\ zd6 P w (h.update a (Obj.putSet ents' tb')) a led S ents'.size:=by
 have g1:=(SetOf_store (knd:=intKind P w) ho hex hd hel hm hb hf).1
 exact ⟨g1,_,ents',ep + 1,tb',g1,hex,rfl,hel,hm,hb,hf,rfl,hr,hled⟩
theorem zvr {g:Bool -> Sem Unit} (hg:∀ (b:Bool) (s₁:Shared) (Q':Unit -> Shared -> Prop),Q' () s₁ -> wpAny (model P w) A (g b) Q' E s₁) {a:Addr} {o:Obj} {ents ents1:Array (Int × Value)} {ep:Nat} {tb tb1:SetTable} {led:Bool} {S:Int -> Bool}
  (ho:s.heap.get? a=some o) (hex:o.ExactSet) (hd:o.data=.set ents ep tb) (hel:ElemsOf (intKind P w) ents1.toList) (hm:∀ k,S k=true ↔ ∃ e ∈ ents1.toList,(intKind P w).is k e.2=true)
  (hb:ents1.size < scanBound) (hf:tb1.fits ents1.size=true) (hr:Ris tb1.place) (hled:tb1.led=led) {dm:Bool} {R:Option Bool -> Shared -> Prop}
  (h:∀ h',Heap.SameBut a s.heap h' -> zd6 P w h' a led S ents1.size -> R (some true) { s with heap:=h' }) :
  wpAny (model P w) A (do
    storeSet a ents1 tb1
    if (!dm && tb1.tooFull)=true then do
      g (relayAll tb1 ents1 (SetTable.grown ents1.size)).2.2
      storeSet a (relayAll tb1 ents1 (SetTable.grown ents1.size)).1 (relayAll tb1 ents1 (SetTable.grown ents1.size)).2.1
      pure (some true)
     else pure (some true)) R E s:=by
 refine wpAny_bind (wpAny_storeSet_of ho hd ?_ (fits_of_scanBound hb))
 obtain ⟨ho1,q1⟩:=zsn (P:=P) (w:=w) ho hex hd hel hm hb hf hr hled
 have sb:=Heap.SameBut.update s.heap a (Obj.putSet ents1 tb1)
 split
 ·have pp:=relayAll_perm tb1 ents1 (SetTable.grown ents1.size)
  have ff:=relayAll_fits tb1 ents1 (SetTable.grown ents1.size)
  have rr:=z3l (t:=tb1) ents1 (SetTable.grown ents1.size)
  generalize relayAll tb1 ents1 (SetTable.grown ents1.size)=z at pp ff rr ⊢
  obtain ⟨ents2,tb2,gv⟩:=z
  dsimp only at pp ff rr ⊢
  have zz : ents2.size=ents1.size:=by rw [<- Array.length_toList,pp.length_eq,Array.length_toList]
  refine wpAny_bind (hg _ _ _ (wpAny_bind (wpAny_storeSet_of ho1 rfl ?_ (fits_of_scanBound (by rw [zz]; exact hb)))))
  have q2:=(zsn (P:=P) (w:=w) (led:=led) (S:=S) ho1 hex rfl (hel.perm pp) (fun k=>(hm k).trans ⟨fun ⟨e,he,q⟩=>⟨e,pp.mem_iff.mpr he,q⟩,fun ⟨e,he,q⟩=>⟨e,pp.mem_iff.mp he,q⟩⟩) (by rw [zz]; exact hb) ff rr.1 (rr.2.trans hled)).2
  rw [zz] at q2
  exact wpAny_pure (h _ (sb.trans (Heap.SameBut.update _ a _)) q2)
 ·exact wpAny_pure (h _ sb q1)
theorem zxm {a:Addr} {led:Bool} {S:Int -> Bool} {n:Nat} {k:Int} {x:Value} {Q:Bool -> Shared -> Prop} (hk:(intKind P w).is k x=true) (hx:x.scannable=true) (q:zd6 P w s.heap a led S n) (room:n + 1 < scanBound)
  (h:∀ h',Heap.SameBut a s.heap h' -> zd6 P w h' a led (fun k'=>S k' || decide (k'=k)) (if S k then n else n + 1) -> Q (!S k) { s with heap:=h' }) : wpAny (model P w) A (setAddHashed a x ((intKind P w).hash k)) Q E s:=by
 obtain ⟨o,ents,ep,tb,ho,hex,hd,hel,hm,hb,hf,hn,hr,hled⟩:=q
 unfold setAddHashed setAddHashedIn
 refine wpAny_holding (wpAny_bind (wpAny_setState_of ho hd hf ?_))
 dsimp only
 rw [byScan_of hx hb hel,if_pos rfl]
 unfold setAddByScan
 refine wpAny_bind (wpAny_bind (wpAny_rule (wpAny_bind (wpAny_setScan_of hk ho hd hf hel ?_))))
 cases hi : List.findIdx? (fun e=>(intKind P w).is k e.2) ents.toList with
 | some j =>
  dsimp only
  obtain ⟨hj,pj,_⟩:=List.findIdx?_eq_some_iff_getElem.mp hi
  have sk : S k=true:=(hm k).mpr ⟨ents.toList[j],List.getElem_mem hj,pj⟩
  refine wpAny_pure (wpAny_pure ?_)
  have es : s={ s with heap:=s.heap }:=by cases s; rfl
  have fin:=h s.heap (Heap.SameBut.refl a s.heap) ⟨o,ents,ep,tb,ho,hex,hd,hel,fun k'=>by
   rw [Bool.or_eq_true,decide_eq_true_eq,<- hm k']
   exact ⟨fun z=>z.elim id (fun e=>e ▸ sk),.inl⟩,hb,hf,by rw [sk]; exact hn,hr,hled⟩
  rw [sk] at fin
  rw [es]
  exact fin
 | none =>
  dsimp only
  have sk : S k=false:=by
   cases hs : S k with
   | false=>rfl
   | true =>
    obtain ⟨e,he,pe⟩:=(hm k).mp hs
    have:=List.findIdx?_eq_none_iff.mp hi e he
    rw [pe] at this
    cases this
  have gw : ∀ (b:Bool) (s₁:Shared) (Q':Unit -> Shared -> Prop),Q' () s₁ -> wpAny (model P w) A (match b with | true=>rule "set.scan.the-table-gave-way" | false=>pure ()) Q' E s₁ :=
   fun b s₁ Q' hq=>by cases b <;> first | exact wpAny_pure hq | exact wpAny_rule hq
  have pp:=layNew_perm tb ents ((intKind P w).hash k) x
  have ff:=layNew_fits tb ents ((intKind P w).hash k) x
  have rr:=z7a ents ((intKind P w).hash k) x hr
  generalize layNew tb ents ((intKind P w).hash k) x=z at pp ff rr ⊢
  obtain ⟨ents1,tb1,dm,gv⟩:=z
  dsimp only at pp ff rr ⊢
  rw [Array.toList_push] at pp
  have z1 : ents1.size=n + 1:=by rw [<- Array.length_toList,pp.length_eq,List.length_append,Array.length_toList,hn]; rfl
  have fin : ∀ h',Heap.SameBut a s.heap h' -> zd6 P w h' a led (fun k'=>S k' || decide (k'=k)) ents1.size -> Q true { s with heap:=h' }:=fun h' sb q'=>by
   have:=h h' sb
   rw [sk] at this
   rw [z1] at q'
   exact this q'
  refine wpAny_bind (gw _ _ _ ?_)
  split
  ·refine wpAny_bind ?_
   rw [hashByValue_scannable 8 hx]
   refine wpAny_pure (zvr (led:=led) (S:=fun k'=>S k' || decide (k'=k)) ?_ ho hex hd ((hel.push hk hx).perm pp) (mem_push_iff hk hm pp) (by rw [z1]; exact room) ?_ ?_ ?_ fun h' sb q'=>?_)
   ·exact fun b s₁ Q' hq=>by cases b <;> first | exact wpAny_pure hq | exact wpAny_rule hq
   ·split
    ·exact ff
    ·exact SetTable.fits_plain_off ff
   ·split
    ·exact rr.1
    ·exact rr.1
   ·split
    ·exact rr.2.trans hled
    ·exact rr.2.trans hled
   ·dsimp only
    exact wpAny_pure (fin h' sb q')
  ·refine wpAny_bind (wpAny_pure ?_)
   simp only [↓reduceIte]
   refine zvr (led:=led) (S:=fun k'=>S k' || decide (k'=k)) ?_ ho hex hd ((hel.push hk hx).perm pp) (mem_push_iff hk hm pp) (by rw [z1]; exact room) ff rr.1 (rr.2.trans hled) fun h' sb q'=>?_
   ·exact fun b s₁ Q' hq=>by cases b <;> first | exact wpAny_pure hq | exact wpAny_rule hq
   ·dsimp only
    exact wpAny_pure (fin h' sb q')
end
set_option maxRecDepth 100000
noncomputable def zey (w:World) : Bool:=!(w.params.followText "set-order")
section
variable {P:Program} {w:World} {A:Around} {R:Result -> Shared -> Prop} {I:Addr} {fp wr:List Addr} {G:Array GenState -> Array GenState -> Prop} {n:Nat} {Pv:Nat -> Value -> Prop} {St:Nat -> Shared -> Prop}
theorem z5m (W:WalksS P w A.in1 I fp wr G n Pv St) (S:Addr) (hS:S ∉ fp) {led:Bool} (val:Nat -> Int) (hv:∀ i v,Pv i v -> ∃ t,v=.int (val i) t) (hb:n + 1 < scanBound) :
  ∀ (k i:Nat) (s:Shared),n - i=k -> i <= n -> St i s -> zd6 P w s.heap S led (fun j=>(firstMet val i).any (· == j)) (firstMet val i).length ->
   (∀ s',Moved (S :: wr) G s s' -> zd6 P w s'.heap S led (fun j=>(firstMet val n).any (· == j)) (firstMet val n).length -> R (.ok (.ret .none)) s') ->
   codeAny (model P w) A (.builtin "set.update.loop" ⟨[.ref S,.ref I],[]⟩) R s:=by
 have hw : S ∉ wr:=fun h=>hS (W.sub _ h)
 have sub : ∀ b ∈ wr,b ∈ S :: wr:=fun b h=>List.mem_cons_of_mem _ h
 intro k
 induction k with
 | zero =>
  intro i s hk hi st q fin
  obtain rfl : i=n:=by omega
  refine codeAny_builtin F.entry_set_update_loop ?_
  rw [Around.under_plainId F.plain_set_update_loop _]
  show wpAny _ A.in1 (pyNext (.ref I) >>= _) _ _ s
  refine wpAny_bind (W.done s _ _ st fun s' m=>?_)
  show wpAny _ A.in1 (ret Value.none) _ _ s'
  exact wpAny_pure (fin s' (m.mono sub) (q.stay fun o e=>m.heap S o hw e))
 | succ k ih =>
  intro i s hk hi st q fin
  have lt : i < n:=by omega
  refine codeAny_builtin F.entry_set_update_loop ?_
  rw [Around.under_plainId F.plain_set_update_loop _]
  show wpAny _ A.in1 (pyNext (.ref I) >>= _) _ _ s
  refine wpAny_bind (W.item i s _ _ lt st fun v s' hP st' m=>?_)
  obtain ⟨t,rfl⟩:=hv i v hP
  have q1:=q.stay fun o e=>m.heap S o hw e
  show wpAny _ A.in1 (holding [Value.int (val i) t] (setAdd S (.int (val i) t)) >>= _) _ _ s'
  refine wpAny_bind (wpAny_holding ?_)
  unfold setAdd
  refine wpAny_holding (wpAny_bind ((intKind P w).pyHash (k:=val i) (intKind_is _ _ _ _) ?_))
  have room : (firstMet val i).length + 1 < scanBound:=by have:=firstMet_length_le val i; omega
  refine zxm (s:={ s' with toks:=s'.toks + 1 }) (k:=val i) (intKind_is _ _ _ _) rfl q1 room fun h' sb q2=>?_
  have q3 : zd6 P w h' S led (fun j=>(firstMet val (i + 1)).any (· == j)) (firstMet val (i + 1)).length:=q2.congr (fun j=>by rw [firstMet_succ,step_any]) (by rw [firstMet_succ,step_length])
  refine wpAny_pure ⟨plainId_quiet F.plain_set_update_loop _,ih (i + 1) _ (by omega) lt (W.frame _ s' _ _ st' (Nat.le_succ _) fun b hb' o e=>?_) q3 fun s2 m2 q4=>?_⟩
  ·rw [sb.2 b fun h=>hS (by rw [<- h]; exact hb')]; exact e
  ·refine fin s2 (Moved.trans W.gtrans ((m.mono sub).then_heap (Nat.le_succ _) fun b o hb' e=>?_) m2) q4
   rw [sb.2 b fun h=>hb' (by rw [h]; exact List.mem_cons_self)]; exact e
end
section
variable {P:Program} {w:World} {A:Around} {E:Value -> Shared -> Prop} {s:Shared}
noncomputable abbrev zfx (led:Bool) : Obj:={ cls:=.type "set",dict:=none,data:=.set #[] 0 (.fresh 0 0 led) }
theorem zz2 (a:Value) {Q:Value -> Shared -> Prop} (h:Q (.ref s.heap.objs.size) { s with heap:=s.heap.push (zfx (zey w)) }) :
  codeAny (model P w) A (.call (.builtin "set.__new__") ⟨[.type "set",a],[]⟩) (wants Q E) s:=by
 refine codeAny_of_tree ?_
 show wpAny _ A.in1 (do checkBuiltinCall "set.__new__" ⟨[.type "set",a],[]⟩; again (.builtin "set.__new__" ⟨[.type "set",a],[]⟩)) _ _ s
 refine wpAny_bind (wpAny_of_eq (F.newCall_set_1 a) (wpAny_pure ⟨plainId_quiet F.plain_set_new _,codeAny_builtin F.entry_set_new ?_⟩))
 rw [Around.under_plainId F.plain_set_new _]
 unfold Builtin.«set.__new__» Builtin.Frozenset.newClass
 have hsub:=sub_set_self
 obtain ⟨hp,g,d,tk,os⟩:=s
 dsimp only
 wp_walk
 refine wpAny_askSetting (wpAny_pure ?_)
 dsimp only
 simp only [newObj]
 refine wpAny_bind (wpAny_alloc (wpAny_pure ?_))
 exact wpAny_pure h
theorem z19 (h:Heap) (led:Bool) : zd6 P w (h.push (zfx led)) h.objs.size led (fun _=>false) 0 :=
 ⟨_,#[],0,_,Heap.get?_push_size _ rfl,⟨rfl,rfl,rfl⟩,rfl,fun e he=>by simp at he,fun k=>by simp,by decide,rfl,rfl,by unfold Ris; simp [SetTable.fresh],rfl⟩
end
set_option maxRecDepth 100000
section
variable {P:Program} {w:World} {A:Around} {E:Value -> Shared -> Prop} {s:Shared}
set_option maxHeartbeats 8000000 in
theorem z49 {l:Addr} {items:Array Value} {ns:List Int} {Q:Value -> Shared -> Prop} (hh:A.handled=none) (hl:s.heap.IsList l items) (hi:IntsAre items.toList ns) (hb:items.size + 1 < scanBound)
  (h:∀ (h':Heap) (tk:Nat),zd6 P w h' s.heap.objs.size (zey w) (fun j=>(firstMet (fun i=>ns.getD i 0) items.size).any (· == j)) (firstMet (fun i=>ns.getD i 0) items.size).length ->
   (∀ b o,b < s.heap.objs.size -> s.heap.get? b=some o -> h'.get? b=some o) -> s.toks <= tk -> Q (.ref s.heap.objs.size) { s with heap:=h',toks:=tk }) :
  wpAny (model P w) A (call (.type "set") [.ref l]) Q E s:=by
 obtain ⟨c,tl,hmro⟩:=F.called_set.mro
 have hmade:=F.called_set.made
 have hsub:=F.called_set.sub
 refine wpAny_call (codeAny_of_tree ?_)
 show wpAny _ _ (callAny (.type "set") _) _ _ _
 refine wpAny_pure ⟨Code.quiet_builtin _ (by decide +kernel),codeAny_builtin F.entry_type_call ?_⟩
 rw [Around.under_plain (weight_type_call_type "set" [.ref l] []) rfl]
 have h1:=F.called_set.notType
 have h2:=F.called_set.canCreate
 have hct:=F.typeCall_set_1 (.ref l)
 repeat (any_goals (first | assumption | wp_step))
 refine codeAny_mono (zz2 (.ref l) (E:=E) (Q:=fun ob s₁=>ob=.ref s.heap.objs.size /\ s₁={ s with heap:=s.heap.push (zfx (zey w)) }) ⟨rfl,rfl⟩) fun r s₁ hr=>?_
 cases r with
 | error e=>exact hr
 | ok fl =>
  cases fl with
  | ret ob =>
   obtain ⟨rfl,rfl⟩:=hr
   have g0 : (s.heap.push (zfx (zey w))).get? s.heap.objs.size=some (zfx (zey w)):=Heap.get?_push_size _ rfl
   have hT : Shared.TypeIs { s with heap:=s.heap.push (zfx (zey w)) } (.ref s.heap.objs.size) "set":=⟨_,g0,rfl⟩
   have hli:=F.called_set.init.lookup
   have hbi:=F.called_set.init.bind (.ref s.heap.objs.size)
   repeat (any_goals (first | assumption | wp_step))
   refine codeAny_mono (codeAny_call_builtin (R:=wants (fun r s₂=>r=.none /\ ∃ h' tk,s₂={ s with heap:=h',toks:=tk } /\ s.toks <= tk /\
     zd6 P w h' s.heap.objs.size (zey w) (fun j=>(firstMet (fun i=>ns.getD i 0) items.size).any (· == j)) (firstMet (fun i=>ns.getD i 0) items.size).length /\
     (∀ b o,b < s.heap.objs.size -> s.heap.get? b=some o -> h'.get? b=some o)) E) F.called_set.init.plain F.entry_set_init (check_set_init_1 hT ?_)) fun r₂ s₂ hr₂=>?_
   ·obtain ⟨⟨oc,od,odt,os⟩,hol,hcl,nl,hdl⟩:=hl
    simp only at hcl hdl
    subst hcl hdl
    have hol' : (s.heap.push (zfx (zey w))).get? l=some { cls:=.type "list",dict:=od,data:=.seq items nl,slots:=os }:=Heap.get?_push_of_some _ hol
    have k1:=F.sub_list_set
    have k2:=F.sub_list_frozenset
    have k3 : (Value.type "list" == Value.type "dict")=false:=by decide
    have hl1 : (s.heap.push (zfx (zey w))).IsList l items:=⟨_,hol',rfl,nl,rfl⟩
    unfold Builtin.«set.__init__» noKeywords Builtin.Frozenset.updateFrom
    generalize hPI : pyIter=PI
    wp_walk
    subst hPI
    refine wpAny_pyIter_list hl1 (wpAny_bind (wpAny_runValue ?_))
    have lt : l < s.heap.objs.size:=Heap.lt_size hol
    have hh3 : A.in1.in1.in1.handled=none:=by simp [hh]
    have ne1 : l ≠ (s.heap.push (zfx (zey w))).objs.size:=by rw [Heap.size_push]; exact Nat.ne_of_lt (Nat.lt_succ_of_lt lt)
    have nin : s.heap.objs.size ∉ [(s.heap.push (zfx (zey w))).objs.size,l]:=by
     rw [Heap.size_push]
     simp only [List.mem_cons,List.not_mem_nil,or_false,not_or]
     exact ⟨Nat.ne_of_lt (Nat.lt_succ_self _),Nat.ne_of_gt lt⟩
    have hv : ∀ (i:Nat) (v:Value),items[i]?=some v -> ∃ t,v=.int ((fun i=>ns.getD i 0) i) t:=fun i v hv=>IntsAre.int_at hi i v (by rw [Array.getElem?_toList]; exact hv)
    refine z5m (led:=zey w) ((Walks.list hh3 _ l ne1 items).toS) s.heap.objs.size nin (fun i=>ns.getD i 0) hv hb (items.size - 0) 0 _ (by omega) (Nat.zero_le _) ⟨⟨_,Heap.get?_push_size _ rfl,rfl,rfl⟩,(hl1.push _)⟩ ?hS0 ?hR
    case hS0=>exact ((z19 (P:=P) (w:=w) s.heap (zey w)).stay fun o e=>Heap.get?_push_of_some _ e).congr (fun _=>rfl) rfl
    case hR =>
     intro s' hm hS'
     obtain ⟨h',g',d',tk',os'⟩:=s'
     have eg : g'=s.gens:=hm.gens
     have ed : d'=s.drawn:=hm.drawn
     have eo : os'=s.os:=hm.os
     subst eg ed eo
     show wpAny _ _ _ _ _ _
     refine wpAny_pure ?_
     show wpAny _ _ (ret Value.none) _ _ _
     refine wpAny_pure ⟨rfl,h',tk',rfl,hm.toks,hS',fun b o hb' e=>?_⟩
     have n2 : b ≠ (s.heap.push (zfx (zey w))).objs.size:=by rw [Heap.size_push]; exact Nat.ne_of_lt (Nat.lt_succ_of_lt hb')
     refine hm.heap b o ?_ (Heap.get?_push_of_some _ (Heap.get?_push_of_some _ e))
     simp only [List.mem_cons,List.not_mem_nil,or_false,not_or]
     exact ⟨Nat.ne_of_lt hb',n2⟩
   ·cases r₂ with
    | error e=>exact hr₂
    | ok fl₂ =>
     cases fl₂ with
     | ret r =>
      obtain ⟨rfl,h',tk,rfl,htk,q',kk⟩:=hr₂
      repeat (any_goals (first | assumption | wp_step))
      exact h _ _ q' kk htk
     | _=>exact hr₂.elim
  | _=>exact hr.elim
end
set_option maxRecDepth 100000
section
variable {P:Program} {w:World} {A:Around} {E:Value -> Shared -> Prop}
end
set_option maxRecDepth 100000
section
variable {P:Program} {w:World} {A:Around} {E:Value -> Shared -> Prop} {s:Shared}
end
set_option maxRecDepth 100000
section
variable {P:Program} {w:World} {A:Around} {E:Value -> Shared -> Prop} {s:Shared} {a:Addr} {o:Obj} {ents:Array (Int × Value)} {ep:Nat} {tb:SetTable}
end
section
variable {P:Program} {w:World} {a I T:Addr} {o:Obj} {ents:Array (Int × Value)} {ep n:Nat} {tb:SetTable}
end
set_option maxRecDepth 100000
section
variable {P:Program} {w:World} {A:Around} {E:Value -> Shared -> Prop} {s:Shared} {a:Addr}
end
set_option maxRecDepth 100000
section
variable {P:Program} {w:World} {A:Around} {E:Value -> Shared -> Prop} {s:Shared} {a:Addr}
end
noncomputable def zg1 (x:Int) : List Int -> List Int
 | []=>[x]
 | y :: r=>if x < y then x :: y :: r else if x=y then y :: r else y :: zg1 x r
noncomputable def zcr (ns:List Int) : List Int:=ns.foldr zg1 []
theorem zq3 (x k:Int) : ∀ l : List Int,k ∈ zg1 x l ↔ k=x \/ k ∈ l
 | []=>by simp [zg1]
 | y :: r=>by
  unfold zg1
  split
  ·simp
  ·split
   ·rename_i e; subst e; simp
   ·rw [List.mem_cons,zq3 x k r,List.mem_cons]
    constructor
    ·rintro (h | h | h)
     ·exact .inr (.inl h)
     ·exact .inl h
     ·exact .inr (.inr h)
    ·rintro (h | h | h)
     ·exact .inr (.inl h)
     ·exact .inl h
     ·exact .inr (.inr h)
theorem zu3 (x:Int) : ∀ l : List Int,l.Pairwise (· < ·) -> (zg1 x l).Pairwise (· < ·)
 | [],_=>by simp [zg1]
 | y :: r,h=>by
  obtain ⟨h1,h2⟩:=List.pairwise_cons.mp h
  unfold zg1
  split
  ·rename_i hx
   refine List.pairwise_cons.mpr ⟨fun k hk=>?_,h⟩
   rcases List.mem_cons.mp hk with e | hk
   ·subst e; exact hx
   ·exact Int.lt_trans hx (h1 k hk)
  ·split
   ·exact h
   ·rename_i a b
    refine List.pairwise_cons.mpr ⟨fun k hk=>?_,zu3 x r h2⟩
    rcases (zq3 x k r).mp hk with e | hk
    ·subst e; omega
    ·exact h1 k hk
theorem zmi (k:Int) : ∀ l : List Int,k ∈ zcr l ↔ k ∈ l
 | []=>by simp [zcr]
 | x :: l=>by
  show k ∈ zg1 x (zcr l) ↔ _
  rw [zq3,zmi k l,List.mem_cons]
theorem zn3 : ∀ l : List Int,(zcr l).Pairwise (· < ·)
 | []=>by simp [zcr]
 | x :: l=>zu3 x _ (zn3 l)
theorem zp6 : ∀ (l m:List Int),l.Pairwise (· < ·) -> m.Pairwise (· < ·) -> (∀ k,k ∈ l ↔ k ∈ m) -> l=m
 | [],[],_,_,_=>rfl
 | [],y :: m,_,_,h=>by have:=(h y).mpr List.mem_cons_self; simp at this
 | x :: l,[],_,_,h=>by have:=(h x).mp List.mem_cons_self; simp at this
 | x :: l,y :: m,hl,hm,h=>by
  obtain ⟨l1,l2⟩:=List.pairwise_cons.mp hl
  obtain ⟨m1,m2⟩:=List.pairwise_cons.mp hm
  have e : x=y:=by
   rcases List.mem_cons.mp ((h x).mp List.mem_cons_self) with e | hx
   ·exact e
   ·rcases List.mem_cons.mp ((h y).mpr List.mem_cons_self) with e | hy
    ·exact e.symm
    ·have:=m1 x hx; have:=l1 y hy; omega
  subst e
  rw [zp6 l m l2 m2 fun k=>?_]
  constructor
  ·intro hk
   rcases List.mem_cons.mp ((h k).mp (List.mem_cons_of_mem _ hk)) with e | q
   ·have:=l1 k hk; omega
   ·exact q
  ·intro hk
   rcases List.mem_cons.mp ((h k).mpr (List.mem_cons_of_mem _ hk)) with e | q
   ·have:=m1 k hk; omega
   ·exact q
theorem zmu : ∀ (F L:List Int),F.Nodup -> (∀ x ∈ F,x ∈ L) -> L.length <= F.length -> L.Perm F
 | [],L,_,_,h=>by
  obtain rfl : L=[]:=List.length_eq_zero_iff.mp (by simpa using h)
  exact .refl _
 | x :: F,L,hn,hs,h=>by
  obtain ⟨n1,n2⟩:=List.nodup_cons.mp hn
  have hx:=hs x List.mem_cons_self
  have p:=List.perm_cons_erase hx
  refine p.trans (List.Perm.cons x (zmu F (L.erase x) n2 (fun y hy=>?_) ?_))
  ·have ne : y ≠ x:=fun e=>by subst e; exact n1 hy
   exact (List.mem_erase_of_ne ne).mpr (hs y (List.mem_cons_of_mem _ hy))
  ·rw [List.length_erase_of_mem hx]
   simp at h
   omega
theorem zre (val:Nat -> Int) : ∀ i,(firstMet val i).Nodup
 | 0=>by rw [firstMet_zero]; exact List.nodup_nil
 | i + 1=>by
  rw [firstMet_succ]
  unfold step_dedup
  split
  ·exact zre val i
  ·rename_i h
   refine List.nodup_append.mpr ⟨zre val i,by simp,fun a ha b hb e=>?_⟩
   have : b=val i:=by simpa using hb
   rw [e,this] at ha
   exact h (List.any_eq_true.mpr ⟨_,ha,by simp⟩)
theorem z8i (ns:List Int) (k:Int) : (firstMet (fun i=>ns.getD i 0) ns.length).any (· == k)=true ↔ k ∈ ns:=by
 rw [firstMet_any]
 have e : (List.range ns.length).map (fun i=>ns.getD i 0)=ns:=by
  refine List.ext_getElem? fun i=>?_
  rw [List.getElem?_map]
  by_cases hi : i < ns.length
  ·rw [List.getElem?_range hi]
   simp [List.getD_eq_getElem?_getD,hi]
  ·rw [List.getElem?_eq_none (by rw [List.length_range]; omega),List.getElem?_eq_none (by omega)]
   rfl
 rw [e,List.any_eq_true]
 exact ⟨fun ⟨x,hx,q⟩=>by have:=beq_iff_eq.mp q; exact this ▸ hx,fun h=>⟨k,h,by simp⟩⟩
theorem zr8 (ns:List Int) : (zcr ns).length=(firstMet (fun i=>ns.getD i 0) ns.length).length:=by
 have nd:=zre (fun i=>ns.getD i 0) ns.length
 have nd' : (zcr ns).Nodup:=(zn3 ns).imp fun h=>Int.ne_of_lt h
 have m : ∀ x,x ∈ firstMet (fun i=>ns.getD i 0) ns.length ↔ x ∈ zcr ns:=fun x=>by
  refine Iff.trans ?_ (zmi x ns).symm
  refine Iff.trans ?_ (z8i ns x)
  rw [List.any_eq_true]
  exact ⟨fun h=>⟨x,h,by simp⟩,fun ⟨y,hy,q⟩=>by have:=beq_iff_eq.mp q; exact this ▸ hy⟩
 rcases Nat.le_total (zcr ns).length (firstMet (fun i=>ns.getD i 0) ns.length).length with h | h
 ·exact (zmu _ _ nd (fun x hx=>(m x).mp hx) h).length_eq
 ·exact (zmu _ _ nd' (fun x hx=>(m x).mpr hx) h).length_eq.symm
section
variable {X:Cx} {pins:List (Addr × Obj)} {σ:St} {H:Hp} {s:Shared}
end
theorem zwc : ∀ {vs:List Value} {ns:List Int},IntsAre vs ns -> za1 (ns.map V.int) vs
 | _,_,.nil=>.nil
 | _,_,.cons n t h=>.cons ⟨t,rfl⟩ (zwc h)
theorem zq9 : ∀ {ns:List Int} {vs:List Value},za1 (ns.map V.int) vs -> IntsAre vs ns
 | [],_,.nil=>.nil
 | n :: ns,_,.cons ⟨t,e⟩ h=>by subst e; exact .cons n t (zq9 h)
section
variable {X:Cx} {e:Expr} {te:TE} {p p2 pos pos2:Pos}
end
noncomputable def zsD : List D -> Option (List Int)
 | []=>some []
 | .int i :: r=>(zsD r).map (i :: ·)
 | _ :: _=>none
theorem zqu : ∀ {ds:List D} {ns:List Int},zsD ds=some ns -> ds=ns.map D.int
 | [],_,h=>by cases h; rfl
 | .int i :: r,ns,h=>by
  replace h : (zsD r).map (i :: ·)=some ns:=h
  cases e : zsD r with
  | none=>rw [e] at h; cases h
  | some m=>rw [e] at h; cases h; rw [zqu e]; rfl
 | .non :: _,_,h=>by cases h
 | .bl _ :: _,_,h=>by cases h
 | .str _ :: _,_,h=>by cases h
 | .lst _ :: _,_,h=>by cases h
 | .tup _ :: _,_,h=>by cases h
 | .kl _ :: _,_,h=>by cases h
 | .kt _ :: _,_,h=>by cases h
 | .dic _ _ :: _,_,h=>by cases h
 | .ins _ _ _ :: _,_,h=>by cases h
theorem zrm : ∀ (ns:List Int),zsD (ns.map D.int)=some ns
 | []=>rfl
 | n :: ns=>by show (zsD (ns.map D.int)).map (n :: ·)=_; rw [zrm ns]; rfl
theorem zri {G:Gc} {H:Hp} : ∀ {ns:List Int} {vs:List V},zaq G H (ns.map D.int) vs -> vs=ns.map V.int
 | [],_,h=>h
 | n :: ns,_,⟨v,r,e,h1,h2⟩=>by rw [e,show v=V.int n from h1,zri h2]; rfl
section
variable {c:Str -> Addr} {X:Cx} {e:Expr} {p p2 pos pos2:Pos}
noncomputable def zcz (f g:List Sl -> Option D) (ρ:List Sl) : Option (List D):=(f ρ).bind fun x=>(g ρ).bind fun y=>match x,y with
 | .lst a,.lst b=>if a.length + b.length <= 16777216 then some (a ++ b) else none
 | _,_=>none
theorem zxx {f g:List Sl -> Option D} {ρ:List Sl} {ds:List D} (h:zcz f g ρ=some ds) : ∃ a b,f ρ=some (.lst a) /\ g ρ=some (.lst b) /\ a.length + b.length <= 16777216 /\ ds=a ++ b:=by
 unfold zcz at h
 cases e1 : f ρ with
 | none=>rw [e1] at h; cases h
 | some x =>
  cases e2 : g ρ with
  | none=>rw [e1,e2] at h; cases h
  | some y =>
   rw [e1,e2,Option.bind_some,Option.bind_some] at h
   split at h
   ·split at h
    ·rename_i a b hl
     cases h
     exact ⟨a,b,rfl,rfl,hl,rfl⟩
    ·cases h
   ·cases h
theorem zdz {a b:Expr} {f g:List Sl -> Option D} (ha:DE c X a f) (hb:DE c X b g) : DO c X (.BinOp a .Add b pos) (zcz f g):=PE.imp (zuj zwd ha hb) fun σ H Q q_=>by
 obtain ⟨Hf0,H0,Hf,ρ,ds,st,ef,k⟩:=q_
 obtain ⟨xs,ys,e1,e2,hl,rfl⟩:=zxx ef
 refine ⟨Hf0,H0,Hf,ρ,_,st,e1,fun v Hf1 H1 x1 r1=>⟨Hf0,H0,Hf1,ρ,_,st.step x1,e2,fun u Hf2 H2 x2 r2=>?_⟩⟩
 obtain ⟨l,vs,el,q1,s1⟩:=r1.up x2.f
 obtain ⟨m,us,em,q2,s2⟩:=r2
 subst el em
 have x:=x1.trans x2
 exact ⟨l,m,vs,us,rfl,rfl,x2.s _ _ q1,x2.s _ _ q2,by rw [sizeLine_eq,<- s1.length,<- s2.length]; exact hl,fun p hp=>k p _ Hf2 _ (x.trans (Ext.tmp x.s hp)) (x.h.free hp) (x.s.free hp) zcd (s1.append s2)⟩
end
noncomputable def wp (F:List Sl -> Option Fl) (ρ:List Sl) (K:Fl -> Prop) : Prop:=∃ o,F ρ=some o /\ K o
noncomputable def zu4 (F:List Sl -> Option Fl) (K:Fl -> Prop) : Fl -> Prop
 | .nx ρ=>wp F ρ K
 | o=>K o
noncomputable def zqc (J:List Sl -> Prop) (K:Fl -> Prop) : Fl -> Prop
 | .nx ρ=>J ρ
 | .ct ρ=>J ρ
 | .bk ρ=>K (.nx ρ)
 | o=>K o
noncomputable def zn6 (Q:D -> Prop) (o:Fl) : Prop:=∃ d,zqz o=some d /\ Q d
theorem zao {F F':List Sl -> Option Fl} {ρ:List Sl} {K:Fl -> Prop} (h:wp F ρ (zu4 F' K)) : wp (zai F F') ρ K:=by
 obtain ⟨o,e,k⟩:=h
 unfold wp zai
 rw [e]
 cases o with
 | nx ρ'=>exact k
 | _=>exact ⟨_,rfl,k⟩
theorem zbp {ρ:List Sl} {K:Fl -> Prop} (h:K (.nx ρ)) : wp zbf ρ K:=⟨_,rfl,h⟩
theorem zbs {i:Nat} {f:List Sl -> Option D} {ρ:List Sl} {d:D} {K:Fl -> Prop} (h:f ρ=some d) (k:K (.nx (ρ.set i (.im d)))) : wp (zbc i f) ρ K:=⟨_,zwj h,k⟩
theorem zfc {i:Nat} {f:List Sl -> Option (List D)} {ρ:List Sl} {d:List D} {K:Fl -> Prop} (h:f ρ=some d) (k:K (.nx (ρ.set i (.own d)))) : wp (zdd i f) ρ K:=⟨_,zxe h,k⟩
theorem zb4 {f:List Sl -> Option D} {ρ:List Sl} {d:D} {K:Fl -> Prop} (h:f ρ=some d) (k:K (.rt d)) : wp (zav f) ρ K:=⟨_,zcg h,k⟩
theorem z35 {f:List Sl -> Option (List D)} {ρ:List Sl} {d:List D} {K:Fl -> Prop} (h:f ρ=some d) (k:K (.rtO d)) : wp (zgu f) ρ K:=⟨_,by unfold zgu; rw [h]; rfl,k⟩
theorem za3 {t:List Sl -> Option Bool} {F F':List Sl -> Option Fl} {ρ:List Sl} {b:Bool} {K:Fl -> Prop} (h:t ρ=some b) (kT:b=true -> wp F ρ K) (kF:b=false -> wp F' ρ K) : wp (za7 t F F') ρ K:=by
 unfold wp za7
 rw [h]
 cases b with
 | true=>exact kT rfl
 | false=>exact kF rfl
theorem zg6 {i:Nat} {F:List Sl -> Option Fl} {ρ ρ':List Sl} {K:Fl -> Prop} (e:zm4 i ρ=ρ') (h:wp F ρ' K) : wp (zex i F) ρ K:=by
 subst e
 exact h
theorem zgx {i:Nat} {f:List Sl -> Option D} {ρ:List Sl} {d:D} {xs:List D} {K:Fl -> Prop} (h:f ρ=some d) (h':ρ[i]?=some (.own xs)) (hl:xs.length < 16777216) (k:K (.nx (ρ.set i (.own (xs ++ [d]))))) : wp (ze0 i f) ρ K:=⟨_,z9h h h' hl,k⟩
theorem z15 {i:Nat} {fk fv:List Sl -> Option D} {ρ:List Sl} {d:D} {xs:List D} {k:Int} (hv:fv ρ=some d) (hk:fk ρ=some (.int k)) (h':ρ[i]?=some (.own xs)) (h0:0 <= k) (h1:k < xs.length) : zfw i fk fv ρ=some (.nx (ρ.set i (.own (xs.set k.toNat d)))):=by
 have e : ixN xs.length k=some k.toNat:=by
  unfold ixN
  rw [if_pos h0,if_pos h1]
 unfold zfw
 rw [hv,Option.bind_some,hk,Option.bind_some]
 show (match ρ[i]? with | some (.own xs)=>(ixN xs.length k).map fun j=>Fl.nx (ρ.set i (.own (xs.set j d))) | _=>none)=_
 rw [h']
 show (ixN xs.length k).map _=_
 rw [e]
 rfl
theorem zma {i:Nat} {fk fv:List Sl -> Option D} {ρ:List Sl} {d:D} {xs:List D} {k:Int} {K:Fl -> Prop} (hv:fv ρ=some d) (hk:fk ρ=some (.int k)) (h':ρ[i]?=some (.own xs)) (h0:0 <= k) (h1:k < xs.length) (q:K (.nx (ρ.set i (.own (xs.set k.toNat d))))) : wp (zfw i fk fv) ρ K:=⟨_,z15 hv hk h' h0 h1,q⟩
theorem zvl {α : Type} {g:D -> List Sl -> Option (List Sl)} {F:List Sl -> Option Fl} {K:Fl -> Prop} (f:α -> D) (I:List α -> List Sl -> Prop) : ∀ (post pre:List α) (ρ:List Sl),I pre ρ ->
  (∀ pre' x post' ρ,pre ++ post=pre' ++ x :: post' -> I pre' ρ -> ∃ ρ1,g (f x) ρ=some ρ1 /\ wp F ρ1 (zqc (I (pre' ++ [x])) K)) -> (∀ ρ',I (pre ++ post) ρ' -> K (.nx ρ')) -> wp (zfq g F (post.map f)) ρ K
 | [],pre,ρ,h,_,hk=>⟨_,rfl,hk ρ (by rw [List.append_nil]; exact h)⟩
 | x :: post,pre,ρ,h,hs,hk=>by
  obtain ⟨ρ1,e1,o,e2,k2⟩:=hs pre x post ρ rfl h
  unfold wp
  rw [List.map_cons]
  unfold zfq
  rw [e1,Option.bind_some,e2,Option.bind_some]
  have go : ∀ ρ2,I (pre ++ [x]) ρ2 -> wp (zfq g F (post.map f)) ρ2 K:=fun ρ2 h2 =>
   zvl f I post (pre ++ [x]) ρ2 h2 (by rw [List.append_assoc]; exact hs) (by rw [List.append_assoc]; exact hk)
  cases o with
  | nx ρ2=>exact go ρ2 k2
  | ct ρ2=>exact go ρ2 k2
  | bk ρ2=>exact ⟨_,rfl,k2⟩
  | rt d=>exact ⟨_,rfl,k2⟩
  | rtO d=>exact ⟨_,rfl,k2⟩
  | rtS d ρ2=>exact ⟨_,rfl,k2⟩
theorem zes {α : Type} {fi:List Sl -> Option (List D)} {g:D -> List Sl -> Option (List Sl)} {F:List Sl -> Option Fl} {ρ:List Sl} {K:Fl -> Prop} (xs:List α) (f:α -> D) (I:List α -> List Sl -> Prop) (hi:fi ρ=some (xs.map f)) (h0:I [] ρ)
  (hs:∀ pre x post ρ,xs=pre ++ x :: post -> I pre ρ -> ∃ ρ1,g (f x) ρ=some ρ1 /\ wp F ρ1 (zqc (I (pre ++ [x])) K)) (hk:∀ ρ',I xs ρ' -> K (.nx ρ')) : wp (zdf fi g F) ρ K:=by
 obtain ⟨o,e,k⟩:=zvl f I xs [] ρ h0 hs hk
 refine ⟨o,?_,k⟩
 unfold zdf
 rw [hi]
 exact e
theorem zwq {t:List Sl -> Option Bool} {F:List Sl -> Option Fl} {K:Fl -> Prop} (I:Nat -> List Sl -> Prop) (hs:∀ m ρ,I m ρ -> ∃ b,t ρ=some b /\ (b=true -> wp F ρ (zqc (fun ρ'=>∃ m',m' < m /\ I m' ρ') K)) /\ (b=false -> K (.nx ρ))) :
  ∀ (n m:Nat) (ρ:List Sl),I m ρ -> m < n -> wp (zf8 t F n) ρ K
 | 0,m,ρ,_,h=>absurd h (Nat.not_lt_zero _)
 | n + 1,m,ρ,h,hn=>by
  obtain ⟨b,e,kT,kF⟩:=hs m ρ h
  unfold wp
  unfold zf8
  rw [e,Option.bind_some]
  cases b with
  | false=>exact ⟨_,rfl,kF rfl⟩
  | true =>
   rw [if_pos rfl]
   obtain ⟨o,e2,k2⟩:=kT rfl
   rw [e2,Option.bind_some]
   have go : ∀ ρ2,(∃ m',m' < m /\ I m' ρ2) -> wp (zf8 t F n) ρ2 K:=fun ρ2 q=>by
    obtain ⟨m',hm,h2⟩:=q
    exact zwq I hs n m' ρ2 h2 (by omega)
   cases o with
   | nx ρ2=>exact go ρ2 k2
   | ct ρ2=>exact go ρ2 k2
   | bk ρ2=>exact ⟨_,rfl,k2⟩
   | rt d=>exact ⟨_,rfl,k2⟩
   | rtO d=>exact ⟨_,rfl,k2⟩
   | rtS d ρ2=>exact ⟨_,rfl,k2⟩
theorem zg3 {n:Nat} {F:List Sl -> Option Fl} {ds:List D} {Q:D -> Prop} (h:wp F (zdw n ds) (zn6 Q)) : ∃ d,zbi n F ds=some d /\ Q d:=by
 obtain ⟨o,e,d,e',q⟩:=h
 refine ⟨d,?_,q⟩
 unfold zbi
 rw [e]
 exact e'
theorem zer {n:Nat} {F:List Sl -> Option Fl} {ds:List D} {r:D} (h:wp F (zdw n ds) (zn6 fun d=>d=r)) : zbi n F ds=some r:=by
 obtain ⟨d,e,q⟩:=zg3 h
 rw [e,q]
theorem zbx {Q:D -> Prop} {d:D} (h:Q d) : zn6 Q (.rt d):=⟨d,rfl,h⟩
theorem ziz {Q:D -> Prop} {d:List D} (h:Q (.lst d)) : zn6 Q (.rtO d):=⟨.lst d,rfl,h⟩
theorem znk {m:List D -> Option D} {f:List Sl -> Option (List D)} {ρ:List Sl} {ds:List D} {d:D} (h:f ρ=some ds) (h':m ds=some d) (hs:d.scalar=true) : zh4 m f ρ=some d:=by
 unfold zh4
 rw [h,Option.bind_some,h',Option.bind_some,if_pos hs]
theorem zdj {i j:Int} (h:0 < j) : zbr (.int i) (.int j)=some (.int (i % j)):=zno h
theorem zll {i j:Int} (h:zmp i j) : zf3 (.int i) (.int j)=some (.int (i / j)):=zno h
theorem z2y {i j:Int} (h:zi8 i j) : zpr (.int i) (.int j)=some (.int (i ^ j.toNat)):=zno h
theorem zhj {i j:Int} : zcf (.int i) (.int j)=some (.int (i + j)):=rfl
theorem zom {i j:Int} : zh2 (.int i) (.int j)=some (.int (i - j)):=rfl
theorem zjm {i j:Int} : dLt (.int i) (.int j)=some (.bl (decide (i < j))):=rfl
theorem zs0 {i j:Int} : dLe (.int i) (.int j)=some (.bl (decide (i <= j))):=rfl
theorem zlb {i j:Int} : dGt (.int i) (.int j)=some (.bl (decide (j < i))):=rfl
theorem zcy {α : Type} (xs:List α) (f:α -> D) : zcb [.lst (xs.map f)]=some (.int xs.length):=by
 show some (D.int ((xs.map f).length : Int))=_
 rw [List.length_map]
theorem ztu {α : Type} (f:α -> D) (xs:List α) (lo hi:Option Int) : zh5 (xs.map f) lo hi=((xs.drop (HT.sIx xs.length 0 lo)).take (HT.sIx xs.length xs.length hi - HT.sIx xs.length 0 lo)).map f:=by
 unfold zh5
 rw [List.length_map,List.map_take,List.map_drop]
theorem zdi {α : Type} {f:List Sl -> Option D} {l h:List Sl -> Option (Option Int)} {ρ:List Sl} {g:α -> D} {xs:List α} {lo hi:Option Int} (e:f ρ=some (.lst (xs.map g))) (e1:l ρ=some lo) (e2:h ρ=some hi) : mSl f l h ρ=some (((xs.drop (HT.sIx xs.length 0 lo)).take (HT.sIx xs.length xs.length hi - HT.sIx xs.length 0 lo)).map g):=by
 unfold mSl
 rw [e,Option.bind_some]
 show (l ρ).bind (fun lo=>(h ρ).map fun hi=>zh5 (xs.map g) lo hi)=_
 rw [e1,Option.bind_some,e2,<- ztu]
 rfl
theorem zrz {α : Type} {f:List Sl -> Option D} {l h:List Sl -> Option (Option Int)} {ρ:List Sl} {g:α -> D} {xs:List α} {lo hi:Option Int} (e:f ρ=some (.kl (xs.map g))) (e1:l ρ=some lo) (e2:h ρ=some hi) : mSl f l h ρ=some (((xs.drop (HT.sIx xs.length 0 lo)).take (HT.sIx xs.length xs.length hi - HT.sIx xs.length 0 lo)).map g):=by
 unfold mSl
 rw [e,Option.bind_some]
 show (l ρ).bind (fun lo=>(h ρ).map fun hi=>zh5 (xs.map g) lo hi)=_
 rw [e1,Option.bind_some,e2,<- ztu]
 rfl
theorem zv6 {α : Type} (xs:List α) (f:α -> D) : dEq (.lst (xs.map f)) (.lst [])=some (.bl xs.isEmpty):=by cases xs <;> rfl
theorem zj8 {α : Type} (xs:List α) (f:α -> D) : dNe (.lst (xs.map f)) (.lst [])=some (.bl (!xs.isEmpty)):=by cases xs <;> rfl
theorem z0j {α : Type} (g:α -> D) (d:α) : ∀ (xs:List α),zgd 0 (xs.map g)=(List.range xs.length).map fun i=>D.tup [.int (i:Nat),g (xs.getD i d)]:=fun xs=>by
 refine List.ext_getElem? fun i=>?_
 rw [zl2,List.getElem?_map,List.getElem?_map]
 by_cases h : i < xs.length
 ·rw [List.getElem?_eq_getElem h,List.getElem?_range h,Nat.zero_add]
  simp [h]
 ·rw [List.getElem?_eq_none (by omega),List.getElem?_eq_none (by rw [List.length_range]; omega)]
  rfl
theorem zjb {α : Type} {f:List Sl -> Option (List D)} {ρ:List Sl} {g:α -> D} {xs:List α} (d:α) (e:f ρ=some [.lst (xs.map g)]) : zf2 f ρ=some ((List.range xs.length).map fun i=>D.tup [.int (i:Nat),g (xs.getD i d)]):=by
 unfold zf2
 rw [e,<- z0j]
 rfl
theorem z5g {α : Type} (f:α -> Bool) (xs:List α) : (xs.map fun x=>D.bl (f x))=(xs.map f).map D.bl:=by
 rw [List.map_map]
 rfl
theorem z8w {α : Type} (f:α -> Int) (xs:List α) : (xs.map fun x=>D.int (f x))=(xs.map f).map D.int:=by
 rw [List.map_map]
 rfl
noncomputable def kJ (J:List Sl -> Prop) (o:Fl) : Prop:=∃ ρ',o=.nx ρ' /\ J ρ'
theorem k_J {J:List Sl -> Prop} {ρ:List Sl} (h:J ρ) : kJ J (.nx ρ):=⟨ρ,rfl,h⟩
theorem zij {S F:List Sl -> Option Fl} {ρ:List Sl} {K:Fl -> Prop} (J:List Sl -> Prop) (h:wp S ρ (kJ J)) (k:∀ ρ',J ρ' -> wp F ρ' K) : wp (zai S F) ρ K:=by
 apply zao
 obtain ⟨o,e,ρ',rfl,j⟩:=h
 exact ⟨_,e,k ρ' j⟩
theorem zhl {i:Nat} {ρ:List Sl} {d:List D} {K:Fl -> Prop} (h:ρ[i]?=some (.own d)) (k:K (.rtO d)) : wp (ze5 i) ρ K:=⟨_,by unfold ze5; rw [h],k⟩
noncomputable def D.flat : D -> Bool
 | .tup xs=>xs.all D.scalar
 | d=>d.scalar
noncomputable def zil (Hf H:Hp) : Hp:=fun a=>match H a with
 | some (.tup vs)=>some (.tup vs)
 | _=>Hf a
theorem zo5 {Hf H:Hp} {a:Addr} {vs:List V} (h:H a=some (.tup vs)) : zil Hf H a=some (.tup vs):=by
 unfold zil
 rw [h]
theorem zrj {Hf H:Hp} {a:Addr} (h:∀ vs,H a ≠ some (.tup vs)) : zil Hf H a=Hf a:=by
 unfold zil
 split
 ·rename_i vs e
  exact absurd e (h vs)
 ·rfl
theorem zw0 {Hf H H':Hp} (s:za4 Hf H) (g:za4 H H') : Ext Hf H (zil Hf H') H':=by
 refine ⟨fun b u e=>?_,g,fun b u e=>?_,fun l o e t=>zrj fun vs q=>?_⟩
 ·have e':=g b u (s b u e)
  cases u with
  | tup vs=>exact zo5 e'
  | _ =>
   rw [zrj (fun vs q=>by rw [e'] at q; cases q)]
   exact e
 ·by_cases h : ∃ vs,H' b=some (.tup vs)
  ·obtain ⟨vs,h⟩:=h
   rw [zo5 h] at e
   rw [h]
   exact e
  ·rw [zrj (fun vs q=>h ⟨vs,q⟩)] at e
   exact g b u (s b u e)
 ·rw [g l o e] at q
  cases q
  cases t
theorem zaq.sc {G:Gc} {H H':Hp} : ∀ {ds:List D} {vs:List V},ds.all D.scalar=true -> zaq G H ds vs -> zaq G H' ds vs
 | [],_,_,h=>h
 | d :: ds,_,hs,⟨v,r,e,h1,h2⟩=>by
  rw [List.all_cons,Bool.and_eq_true] at hs
  exact ⟨v,r,e,h1.sc hs.1,zaq.sc hs.2 h2⟩
theorem Rep.flat {G:Gc} {Hf H:Hp} {d:D} {v:V} (hs:d.flat=true) (r:Rep G H d v) : Rep G (zil Hf H) d v:=by
 cases d with
 | tup xs =>
  obtain ⟨a,vs,e,h,q⟩:=r
  exact ⟨a,vs,e,zo5 h,q.sc hs⟩
 | non=>exact r.sc hs
 | bl _=>exact r.sc hs
 | int _=>exact r.sc hs
 | str _=>exact r.sc hs
 | lst _=>cases hs
 | kl _=>cases hs
 | kt _=>cases hs
 | dic _ _=>cases hs
 | ins _ _ _=>cases hs
section
variable {c:Str -> Addr} {X:Cx} {e:Expr} {es:List Expr} {x:Str} {p pos:Pos} {k:Nat} {f:Addr} {fd:FuncData} {ps:List Str} {fa:List Sl -> Option (List D)}
noncomputable def zmj (m:List D -> Option D) (f:List Sl -> Option (List D)) (ρ:List Sl) : Option D:=(f ρ).bind fun ds=>(m ds).bind fun d=>if d.flat then some d else none
theorem z9q {m:List D -> Option D} (F:zaw X.prog X.w X.K X.mg X.base CX0 k f fd ps (spD (Gx c X) ps.length m)) (hr:zb9 k X.A) (hg:Gl X x) (hm:X.mg x=some (.ref f)) (hk:PySem.W.keepIn X.K (.ref f)=true) (hb:za5 X.K fd ps []) (ha:DAB c X (e :: es) fa)
  (hl:(e :: es).length=ps.length:=by rfl) (hdb:(x == ("__debug__" : Str))=false:=by decide) (he:starEach (e :: es) X.env=(false,eval e X.env) :: starEach es X.env:=by rfl) (hpl:(backTo pos (starEach es X.env)).any (·.1)=false:=by rfl) :
  DE c X (.Call (.Name x p) (e :: es) [] pos) (zmj m fa):=PE.imp (zk4 F hr hg hm hk hb .nil zhn ha.pa hdb he hpl) fun σ H Q q_=>by
 obtain ⟨Hf0,H0,Hf,ρ,d,st,ef,kq⟩:=q_
 unfold zmj at ef
 cases e1 : fa ρ with
 | none=>rw [e1] at ef; cases ef
 | some ds =>
  rw [e1] at ef
  replace ef : (m ds).bind _=_:=ef
  cases e2 : m ds with
  | none=>rw [e2] at ef; cases ef
  | some d' =>
   rw [e2] at ef
   replace ef : (if d'.flat=true then some d' else none)=some d:=ef
   split at ef
   ·rename_i hs
    cases ef
    refine ⟨Hf0,H0,Hf,ρ,ds,st,e1,fun vs Hf' H' x r=>?_⟩
    dsimp only
    rw [List.append_nil]
    exact ⟨H',ds,_,za4.refl _,r,(ha.len ρ ds e1).trans hl,e2,fun v Hf2 H2 x2 r2=>kq v (zil Hf' H2) H2 (x.trans (zw0 x.s x2.h)) ((r2.up x2.s).flat hs)⟩
   ·cases ef
noncomputable def zhw (m m':D -> D -> Option D) (f g h:List Sl -> Option D) (ρ:List Sl) : Option D:=(f ρ).bind fun x=>(g ρ).bind fun y=>(m x y).bind fun z=>match z with
 | .bl true=>(h ρ).bind fun w=>m' y w
 | .bl false=>some (.bl false)
 | _=>none
theorem z89 {m m':D -> D -> Option D} {f g h:List Sl -> Option D} {ρ:List Sl} {d:D} (e:zhw m m' f g h ρ=some d) : ∃ x y b,f ρ=some x /\ g ρ=some y /\ m x y=some (.bl b) /\ (b=false -> d=.bl false) /\ (b=true -> ∃ w,h ρ=some w /\ m' y w=some d):=by
 unfold zhw at e
 cases e1 : f ρ with
 | none=>rw [e1] at e; cases e
 | some x =>
  cases e2 : g ρ with
  | none=>rw [e1,e2] at e; cases e
  | some y =>
   rw [e1,e2,Option.bind_some,Option.bind_some] at e
   cases e3 : m x y with
   | none=>rw [e3] at e; cases e
   | some z =>
    rw [e3,Option.bind_some] at e
    cases z with
    | bl b =>
     cases b with
     | false =>
      have e : some (D.bl false)=some d:=e
      exact ⟨x,y,false,rfl,rfl,e3,fun _=>(Option.some.inj e).symm,fun q=>by cases q⟩
     | true =>
      have e : (h ρ).bind (fun w=>m' y w)=some d:=e
      cases e4 : h ρ with
      | none=>rw [e4] at e; cases e
      | some w=>rw [e4] at e; exact ⟨x,y,true,rfl,rfl,e3,fun q=>(by cases q),fun _=>⟨w,rfl,e⟩⟩
    | _=>cases e
theorem z8g {a b c':Expr} {op op':CmpOp} {m m':D -> D -> Option D} {f g h:List Sl -> Option D} (ho:OpD c X (compareOp op) m) (hs:∀ x y d,m x y=some d -> d.scalar=true) (ho':OpD c X (compareOp op') m') (hs':∀ x y d,m' x y=some d -> d.scalar=true) (ha:DB c X a f) (hb:DB c X b g) (hc:DB c X c' h)
  (hm:lastMarks [op,op'] [b,c']=false:=by with_unfolding_all rfl) : DE c X (.Compare a [op,op'] [b,c'] pos) (zhw m m' f g h):=PE.imp (z1o ho ho' ha hb hc hm) fun σ H Q q_=>by
 obtain ⟨Hf0,H0,Hf,ρ,d,st,ef,k⟩:=q_
 obtain ⟨x,y,b',e1,e2,e3,eF,eT⟩:=z89 ef
 refine ⟨Hf0,H0,Hf,ρ,x,st,e1,fun v Hf1 H1 x1 r1=>⟨Hf0,H0,Hf1,ρ,y,st.step x1,e2,fun u Hf2 H2 x2 r2=>⟨H2,x,y,.bl b',za4.refl _,r1.up x2.h,r2,e3,fun z Hf3 H3 x3 r3=>⟨b',r3,?_⟩⟩⟩⟩
 have x23 : Ext Hf2 H2 Hf2 H3:=Ext.grow x2.s x3.h
 have st3 : zaz (Gx c X) Hf0 H0 Hf2 H3 σ ρ:=(st.step (x1.trans x2)).step x23
 cases b' with
 | false =>
  rw [if_neg Bool.false_ne_true]
  exact k _ Hf2 H3 ((x1.trans x2).trans x23) (by rw [eF rfl]; rfl)
 | true =>
  rw [if_pos rfl]
  obtain ⟨w,e4,e5⟩:=eT rfl
  exact ⟨Hf0,H0,Hf2,ρ,w,st3,e4,fun w' Hf4 H4 x4 r4=>⟨H4,y,w,d,za4.refl _,r2.up (x3.h.trans x4.h),r4,e5,fun q Hf5 H5 x5 r5=>k _ Hf4 H5 (((x1.trans x2).trans x23).trans (x4.trans (Ext.grow x4.s x5.h))) (r5.sc (hs' _ _ _ e5))⟩⟩
end
theorem z5s {m:List D -> Option (List D)} {f:List Sl -> Option (List D)} {ρ:List Sl} {ds rs:List D} (h:f ρ=some ds) (h':m ds=some rs) : zlv m f ρ=some rs:=by
 unfold zlv
 rw [h,Option.bind_some,h']
theorem z1q {n:Nat} {F:List Sl -> Option Fl} {ds rs:List D} (h:F (zdw n ds)=some (.rtO rs)) : zl3 n F ds=some rs:=by
 unfold zl3
 rw [h]
 rfl
theorem z43 {m:List D -> Option D} {f:List Sl -> Option (List D)} {ρ:List Sl} {ds:List D} {d:D} (h:f ρ=some ds) (h':m ds=some d) (hs:d.flat=true) : zmj m f ρ=some d:=by
 unfold zmj
 rw [h,Option.bind_some,h',Option.bind_some,if_pos hs]
theorem z16 {m m':D -> D -> Option D} {f g h:List Sl -> Option D} {ρ:List Sl} {x y w:D} {b b':Bool} (e1:f ρ=some x) (e2:g ρ=some y) (e3:m x y=some (.bl b)) (e4:h ρ=some w) (e5:m' y w=some (.bl b')) : zhw m m' f g h ρ=some (.bl (b && b')):=by
 unfold zhw
 rw [e1,Option.bind_some,e2,Option.bind_some,e3,Option.bind_some]
 cases b with
 | false=>rfl
 | true =>
  show (h ρ).bind (fun w=>m' y w)=_
  rw [e4]
  exact e5
noncomputable def tSL (K:PySem.W.Frag) (te:TE) : TE:=fun σ H Q=>te σ H fun x H1=>∃ l ns,x=.ref l /\ SqL K H1 l (ns.map V.int) /\ ns.length < 64 /\ ns.Nodup /\ ∀ p,H1 p=none -> Q (.ref p) (upd H1 p (.lst ((zcr ns).map V.int)))
theorem z5v {ns out:List Int} (nd:ns.Nodup) (p:out.Perm ns) (hs:out.Pairwise (· <= ·)) : out=zcr ns:=by
 have nd' : out.Nodup:=p.nodup_iff.mpr nd
 have lt : out.Pairwise (· < ·):=by
  refine List.Pairwise.imp₂ (fun a b h1 h2=>?_) hs nd'
  exact Int.lt_iff_le_and_ne.mpr ⟨h1,h2⟩
 exact zp6 _ _ lt (zn3 _) fun k=>by rw [zmi]; exact p.mem_iff
section
variable {X:Cx} {e:Expr} {te:TE} {p pos:Pos}
theorem z5c (hgs:Gl X "sorted") (hms:X.mg "sorted"=none) (he:PE X e te) (h1:starEach [e] X.env=(false,eval e X.env) :: starEach [] X.env:=by rfl) (hpl:(backTo pos (starEach [] X.env)).any (·.1)=false:=by rfl) :
  PE X (.Call (.Name "sorted" p) [e] [] pos) (tSL X.K te):=by
 intro pins s σ H Q I h
 refine wpAny_Call_Name_kw (zg4 I hgs hms boot_sorted ?_)
 refine PyProof.Rows.callWith_builtin1 ?_ h1 hpl
 rw [h1]
 show wpAny _ _ (spliced ((false,eval e X.env) :: backTo pos (starEach [] X.env))) _ _ s
 refine Calls.spliced_cons (thn (he pins s σ H _ I h) fun u s1 q_=>?_)
 obtain ⟨x,H1,I1,r1,l,ns,e1,hq,h64,nd,q⟩:=q_
 subst e1
 cases r1
 refine wpAny_pure ?_
 obtain ⟨its,rr,pl,hz⟩:=I1.list hq
 have ii : IntsAre its ns:=zq9 rr
 refine sorted_ints pl.isList ii (by rw [ii.length]; exact h64) fun out ns' o1 o2 o3=>?_
 obtain ⟨ep,ge⟩:=sortedAll_at s1.heap its out
 have en : ns'=zcr ns:=z5v nd o2 o3
 subst en
 have hl:=o2.length_eq
 refine ⟨.ref (s1.heap.objs.size + 1),_,(I1.laid (t':=s1.toks) (a:=s1.heap.objs.size + 1) (o:=.lst ((zcr ns).map V.int)) (fun b u g=>sortedAll_old g) (Nat.le_succ _) ?_),rfl,q _ (I1.hok.fresh (Nat.le_succ _))⟩
 exact ⟨by rw [List.length_map,sizeLine_eq]; omega,out.toList,ep,zwc o1,by simpa using ge⟩
end
noncomputable def zmn (f:List Sl -> Option D) (ρ:List Sl) : Option (List D):=(f ρ).bind fun d=>(lsD d).bind fun ds=>(zsD ds).bind fun ns=>if ns.length < 64 /\ ns.Nodup then some ((zcr ns).map .int) else none
section
variable {c:Str -> Addr} {X:Cx} {e:Expr} {p pos:Pos}
theorem z7u {f:List Sl -> Option D} (_hc:X.calm=true) (hgs:Gl X "sorted") (hms:X.mg "sorted"=none) (ha:DE c X e f)
  (h1:starEach [e] X.env=(false,eval e X.env) :: starEach [] X.env:=by rfl) (hpl:(backTo pos (starEach [] X.env)).any (·.1)=false:=by rfl) : DO c X (.Call (.Name "sorted" p) [e] [] pos) (zmn f) :=
 PE.imp (z5c hgs hms ha h1 hpl) fun σ H Q q_=>by
  obtain ⟨Hf0,H0,Hf,ρ,ds,st,ef,k⟩:=q_
  unfold zmn at ef
  cases e1 : f ρ with
  | none=>rw [e1] at ef; cases ef
  | some d =>
   rw [e1] at ef
   cases e2 : lsD d with
   | none=>rw [Option.bind_some,e2] at ef; cases ef
   | some xs =>
    rw [Option.bind_some,e2] at ef
    cases e3 : zsD xs with
    | none=>rw [Option.bind_some,e3] at ef; cases ef
    | some ns =>
     rw [Option.bind_some,e3,Option.bind_some] at ef
     split at ef
     ·rename_i hl
      cases ef
      refine ⟨Hf0,H0,Hf,ρ,d,st,e1,fun v Hf' H' x r=>?_⟩
      obtain ⟨l,vs,el,q,rs⟩:=zg7 e2 r
      rw [zqu e3] at rs
      have ev:=zri rs
      subst ev el
      exact ⟨l,ns,rfl,x.s.seq q,hl.1,hl.2,fun pp hp=>k pp _ Hf' _ (x.trans (Ext.tmp x.s hp)) (x.h.free hp) (x.s.free hp) zcd (zaq.ints _)⟩
     ·cases ef
end
theorem z0z {f:List Sl -> Option D} {ρ:List Sl} {ns:List Int} (h:f ρ=some (.lst (ns.map D.int))) (h1:ns.length < 64) (h2:ns.Nodup) : zmn f ρ=some ((zcr ns).map D.int):=by
 unfold zmn
 rw [h,Option.bind_some]
 show (zsD (ns.map D.int)).bind _=_
 rw [zrm,Option.bind_some,if_pos ⟨h1,h2⟩]
theorem zu2 {k:Int} {n:Nat} (h:k.natAbs < 2 ^ n) : Builtin.Int.intBits k <= n:=by
 unfold Builtin.Int.intBits
 split
 ·exact Nat.zero_le _
 ·rename_i hk
  have : k.natAbs ≠ 0:=fun z=>hk (by rw [Int.natAbs_eq_zero.mp z]; rfl)
  exact (Nat.log2_lt this).mpr h
noncomputable def zgc (i j:Int) : Prop:=zl9 i j \/ (i.natAbs < 2 ^ 200 /\ j.natAbs < 2 ^ 200)
theorem zgc.ok {i j:Int} (h:zgc i j) : IntMulOk i j:=by
 rcases h with h | ⟨h1,h2⟩
 ·exact h.ok
 ·have a:=zu2 h1
  have b:=zu2 h2
  unfold IntMulOk
  have : Builtin.Int.intTooBig (Builtin.Int.intBits i + Builtin.Int.intBits j)=false:=by
   unfold Builtin.Int.intTooBig
   have c : (400 : Int) <= bitsLine:=by decide
   exact decide_eq_false (by omega)
  rw [this,Bool.and_false]
  exact Bool.false_ne_true
noncomputable instance {i j:Int} : Decidable (zgc i j):=by unfold zgc; infer_instance
noncomputable abbrev zc7 : D -> D -> Option D:=dI zgc fun i j=>.int (i * j)
section
variable {c:Str -> Addr} {X:Cx}
theorem z7h : OpR X (binaryOp .Mult) (rI zgc fun i j=>.int (i * j)):=opI fun _ _ _ _ _ _ _ hc q=>mul_int q hc.ok
theorem zf1 : OpD c X (binaryOp .Mult) zc7:=zm1 z7h fun _ _ _ _=>rfl
end
theorem zxl {i j:Int} (h:zgc i j) : zc7 (.int i) (.int j)=some (.int (i * j)):=zno h
noncomputable def zhs (g:D -> List Sl -> Option (List Sl)) (f:List Sl -> Option D) (ρ:List Sl) : Option Fl:=(f ρ).bind fun d=>(g d ρ).map .nx
section
variable {c:Str -> Addr} {X:Cx} {e tg:Expr} {pos:Pos}
theorem znb {k:Nat} {g:D -> List Sl -> Option (List Sl)} {f:List Sl -> Option D} (he:DE c X e f) (hg:DG c X tg k g) (hs:swapsWithSole [tg] e pos.line X.env=pure false:=by rfl) (hw:swappedStores [tg] e X.env=pure none:=by rfl)
  (h1:(assignEach [tg] X.env).map (·.2)=[assign tg X.env]:=by rfl) : DS c X (.Assign [tg] e pos) (zhs g f):=PS.imp (zvp he hg.pg hs hw h1) fun E σ H q_=>by
 obtain ⟨Hf0,H0,Hf,ρ,o,so,ef,kq⟩:=q_
 unfold zhs at ef
 cases e1 : f ρ with
 | none=>rw [e1] at ef; cases ef
 | some d =>
  rw [e1,Option.bind_some] at ef
  cases e2 : g d ρ with
  | none=>rw [e2] at ef; cases ef
  | some ρ' =>
   rw [e2] at ef
   cases ef
   exact ⟨Hf0,H0,Hf,ρ,d,so,e1,fun v Hf' H' x r=>⟨Hf0,H0,Hf',ρ,d,ρ',so.step x,r,e2,fun σ' so'=>kq σ' Hf' H' x.f so'⟩⟩
end
theorem zik {g:D -> List Sl -> Option (List Sl)} {f:List Sl -> Option D} {ρ ρ':List Sl} {d:D} {K:Fl -> Prop} (h:f ρ=some d) (h':g d ρ=some ρ') (k:K (.nx ρ')) : wp (zhs g f) ρ K:=⟨_,by unfold zhs; rw [h,Option.bind_some,h']; rfl,k⟩
set_option maxRecDepth 100000
noncomputable def zpk (h:Heap) (it l:Addr) (j:Int) : Prop:=∃ o,h.get? it=some o /\ o.cls=.type "list_reverseiterator" /\ o.data=.fields #[.ref l,rawInt j]
section
variable {P:Program} {w:World} {A:Around} {E:Value -> Shared -> Prop} {s:Shared} {it l:Addr}
end
theorem zpk.stay {h h':Heap} {it l:Addr} {j:Int} (q:zpk h it l j) (k:∀ o,h.get? it=some o -> h'.get? it=some o) : zpk h' it l j:=by
 obtain ⟨o,e,c,d⟩:=q
 exact ⟨o,k o e,c,d⟩
section
variable {X:Cx} {tg:Expr}
end
section
variable {c:Str -> Addr} {X:Cx} {a tg:Expr} {pos p:Pos}
end
section
variable {c:Str -> Addr} {X:Cx}
end
noncomputable def zfo (H:Hp) (l:Addr) : Hp:=fun a=>if a=l then none else H a
theorem zpm {H:Hp} {l:Addr} : zfo H l l=none:=by unfold zfo; rw [if_pos rfl]
theorem zq5 {H:Hp} {l a:Addr} (h:a ≠ l) : zfo H l a=H a:=by unfold zfo; rw [if_neg h]
theorem z0c {H:Hp} {l:Addr} : za4 (zfo H l) H:=fun a o e=>by
 by_cases h : a=l
 ·subst h; rw [zpm] at e; cases e
 ·rw [zq5 h] at e; exact e
theorem zjr {F H:Hp} {l:Addr} (s:za4 F H) (h:F l=none) : za4 F (zfo H l):=fun a o e=>by
 rw [zq5 (zdo e h)]; exact s a o e
theorem Ext.cut {Hf H Hf' H':Hp} {l:Addr} (x:Ext Hf H Hf' H') (hn:H l=none) (hf:Hf' l=none) : Ext Hf H Hf' (zfo H' l):=⟨x.f,zjr x.h hn,zjr x.s hf,x.n⟩
section
variable {P:Program} {w:World} {K:PySem.W.Frag} {mg:Str -> Option Value} {base:Heap} {c:Str -> Addr}
end
noncomputable def tDX (G:Gc) (f:List Sl -> Option (D × List Sl)) : TE:=fun σ H Q=>∃ Hf0 H0 Hf ρ d ρ',zaz G Hf0 H0 Hf H σ ρ /\ f ρ=some (d,ρ') /\ ∀ v Hf' H',za4 Hf Hf' -> zaz G Hf0 H0 Hf' H' σ ρ' -> Rep G Hf' d v -> Q v H'
noncomputable def DX (c:Str -> Addr) (X:Cx) (e:Expr) (f:List Sl -> Option (D × List Sl)) : Prop:=PE X e (tDX (Gx c X) f)
section
variable {c:Str -> Addr} {X:Cx} {k:Nat} {f C:Addr} {fd:FuncData} {ps:List Str} {x:Str} {p pos apos:Pos} {e o tg iter:Expr} {es:List Expr} {fa ga:List Sl -> Option (List D)} {i:Nat}
end
theorem Ext.tmp2 {Hf H Hf2 H2:Hp} {p:Addr} {o o':HO} (s:za4 Hf H) (hp:H p=none) (ht:zqm o=false) (x:Ext Hf (upd H p o) Hf2 H2) : Ext Hf H Hf2 (upd H2 p o'):=by
 have hf : Hf2 p=none:=(x.n p o zcd ht).trans (s.free hp)
 refine ⟨x.f,fun b u e=>?_,fun b u e=>?_,fun l u e t=>x.n l u (by rw [zby (zdo e hp)]; exact e) t⟩
 ·have hb:=zdo e hp
  rw [zby hb]
  exact x.h b u (by rw [zby hb]; exact e)
 ·rw [zby (zdo e hf)]
  exact x.s b u e
noncomputable def znv (k1 k2 k3:Str) (a b c y:D) : Option D:=match y with
 | .str w=>if w=k1 then some a else if w=k2 then some b else if w=k3 then some c else none
 | _=>none
noncomputable def zio (k1 k2 k3:Str) (f1 f2 f3 g:List Sl -> Option D) (ρ:List Sl) : Option D:=(f1 ρ).bind fun a=>(f2 ρ).bind fun b=>(f3 ρ).bind fun c=>(g ρ).bind fun y=>znv k1 k2 k3 a b c y
section
variable {c:Str -> Addr} {X:Cx} {v1 v2 v3 ix:Expr} {dpos pos p1 p2 p3:Pos} {f1 f2 f3 g:List Sl -> Option D}
theorem zyq (k1 k2 k3:Str) {j1 j2 j3} (hu:X.A.units + 64 < cLine) (h1:DE c X v1 f1) (h2:DE c X v2 f2) (h3:DE c X v3 f3) (hg:DE c X ix g) (hs:zrk ix)
  (e1:∀ a b c : V,zeg (zga [] [(.inr k1,a),(.inr k2,b),(.inr k3,c)]) (.inr k1)=some a) (e2:∀ a b c : V,zeg (zga [] [(.inr k1,a),(.inr k2,b),(.inr k3,c)]) (.inr k2)=some b) (e3:∀ a b c : V,zeg (zga [] [(.inr k1,a),(.inr k2,b),(.inr k3,c)]) (.inr k3)=some c) :
  DE c X (.Subscript (.Dict [some (.Constant (.str k1) j1 p1),some (.Constant (.str k2) j2 p2),some (.Constant (.str k3) j3 p3)] [v1,v2,v3] dpos) ix pos) (zio k1 k2 k3 f1 f2 f3 g) :=
 PE.imp (z18 (by omega) (z2o (zp2 znr h1 (zp2 znr h2 (zp2 znr h3 zzs))) rfl rfl (by intro z; cases z) (Nat.le_of_ble_eq_true rfl)) hg hs) fun σ H Q q_=>by
  obtain ⟨Hf0,H0,Hf,ρ,d,st,ef,k⟩:=q_
  unfold zio at ef
  cases a1 : f1 ρ with
  | none=>rw [a1] at ef; cases ef
  | some a =>
   cases a2 : f2 ρ with
   | none=>rw [a1,a2] at ef; cases ef
   | some b =>
    cases a3 : f3 ρ with
    | none=>rw [a1,a2,a3] at ef; cases ef
    | some cc =>
     cases a4 : g ρ with
     | none=>rw [a1,a2,a3,a4] at ef; cases ef
     | some y =>
      rw [a1,a2,a3,a4] at ef
      replace ef : znv k1 k2 k3 a b cc y=some d:=ef
      intro p hp
      have st1:=st.step (Ext.tmp (o:=.dK []) st.sub hp)
      refine ⟨Hf0,H0,Hf,ρ,a,st1,a1,fun va Hf1 H1 x1 r1=>⟨Hf0,H0,Hf1,ρ,b,st1.step x1,a2,fun vb Hf2 H2 x2 r2=>⟨Hf0,H0,Hf2,ρ,cc,(st1.step x1).step x2,a3,fun vc Hf3 H3 x3 r3=>?_⟩⟩⟩
      have x:=(x1.trans x2).trans x3
      refine ⟨x.h p _ zcd,[(.inr k1,va),(.inr k2,vb),(.inr k3,vc)],rfl,Nat.le_of_ble_eq_true rfl,?_⟩
      have x':=Ext.tmp2 (o':=.dK (zga [] [(.inr k1,va),(.inr k2,vb),(.inr k3,vc)])) st.sub hp rfl x
      refine ⟨Hf0,H0,Hf3,ρ,y,st.step x',a4,fun vy Hf4 H4 x4 r4=>?_⟩
      have hd : H4 p=some (.dK (zga [] [(.inr k1,va),(.inr k2,vb),(.inr k3,vc)])):=x4.h p _ zcd
      unfold znv at ef
      split at ef
      ·rename_i w
       cases (show vy=V.str w from r4)
       split at ef
       ·rename_i hw
        cases ef
        subst hw
        exact ⟨p,va,rfl,(e1 va vb vc) ▸ ze8.k (k:=.inr w) hd,k va Hf4 H4 (x'.trans x4) ((r1.up (x2.f.trans x3.f)).up x4.f)⟩
       ·split at ef
        ·rename_i hw
         cases ef
         subst hw
         exact ⟨p,vb,rfl,(e2 va vb vc) ▸ ze8.k (k:=.inr w) hd,k vb Hf4 H4 (x'.trans x4) ((r2.up x3.f).up x4.f)⟩
        ·split at ef
         ·rename_i hw
          cases ef
          subst hw
          exact ⟨p,vc,rfl,(e3 va vb vc) ▸ ze8.k (k:=.inr w) hd,k vc Hf4 H4 (x'.trans x4) (r3.up x4.f)⟩
         ·cases ef
      ·cases ef
end
section
variable {P:Program} {w:World} {A:Around} {E:Value -> Shared -> Prop} {s:Shared} {it l:Addr}
end
section
variable {X:Cx} {e:Expr} {te:TE} {p p2 pos pos2:Pos}
end
section
variable {c:Str -> Addr} {X:Cx} {p p2 p3 pos pos2:Pos}
end
noncomputable def tLS (K:PySem.W.Frag) (te:TE) : TE:=fun σ H Q=>te σ H fun x H1=>∃ l ns,x=.ref l /\ SqL K H1 l (ns.map V.int) /\ ns.length < 4000 /\ Q (.int ((zcr ns).length : Nat)) H1
section
variable {X:Cx} {e:Expr} {te:TE} {p p2 pos pos2:Pos}
theorem z17 (hc:X.calm=true) (hgs:Gl X "len") (hms:X.mg "len"=none) (hgt:Gl X "set") (hmt:X.mg "set"=none) (he:PE X e te)
  (h1:starEach [.Call (.Name "set" p2) [e] [] pos2] X.env=(false,eval (.Call (.Name "set" p2) [e] [] pos2) X.env) :: starEach [] X.env:=by rfl) (h2:starEach [e] X.env=(false,eval e X.env) :: starEach [] X.env:=by rfl)
  (hpl:(backTo pos (starEach [] X.env)).any (·.1)=false:=by rfl) (hpl2:(backTo pos2 (starEach [] X.env)).any (·.1)=false:=by rfl) :
  PE X (.Call (.Name "len" p) [.Call (.Name "set" p2) [e] [] pos2] [] pos) (tLS X.K te):=by
 intro pins s σ H Q I h
 refine wpAny_Call_Name_kw (zg4 I hgs hms PySem.boot_len ?_)
 refine PyProof.Rows.callWith_builtin1 ?_ h1 hpl
 rw [h1]
 show wpAny _ _ (spliced ((false,eval (.Call (.Name "set" p2) [e] [] pos2) X.env) :: backTo pos (starEach [] X.env))) _ _ s
 refine Calls.spliced_cons (wpAny_Call_Name_kw (zg4 I hgt hmt boot_set ?_))
 refine PyProof.Rows.callWith_type1 ?_ h2 hpl2
 rw [h2]
 show wpAny _ _ (spliced ((false,eval e X.env) :: backTo pos2 (starEach [] X.env))) _ _ s
 refine Calls.spliced_cons (thn (he pins s σ H _ I h) fun u s1 q_=>?_)
 obtain ⟨x,H1,I1,r1,l,ns,e1,hq,hb,q⟩:=q_
 subst e1
 cases r1
 refine wpAny_pure ?_
 obtain ⟨its,rr,pl,hz⟩:=I1.list hq
 have ii : IntsAre its ns:=zq9 rr
 have zz : its.toArray.size=ns.length:=by rw [List.size_toArray,ii.length]
 refine z49 (items:=its.toArray) (ns:=ns) (I1.ok.hd hc) pl.isList (by simpa using ii) (by rw [zz]; unfold scanBound; omega) fun h' tk qs keep htk=>?_
 rw [zz] at qs
 refine wpAny_pure ?_
 obtain ⟨o,ents,ep,tb,ho,hex,hd,_,_,hsb,hf,hn,_,_⟩:=qs
 refine call_len_set (s:={ s1 with heap:=h',toks:=tk }) ho hex hd hf (by unfold scanBound at hsb; omega) ?_
 refine ⟨.int ((zcr ns).length : Nat),H1,I1.kept fun b u g=>keep b u (Heap.lt_size g) g,?_,q⟩
 rw [hn,<- zr8]
 exact ⟨_,rfl⟩
end
noncomputable def zli (f:List Sl -> Option D) (ρ:List Sl) : Option D:=(f ρ).bind fun d=>(lsD d).bind fun ds=>(zsD ds).bind fun ns=>if ns.length < 4000 then some (.int ((zcr ns).length : Nat)) else none
theorem zxt {f:List Sl -> Option D} {ρ:List Sl} {ns:List Int} (h:f ρ=some (.lst (ns.map D.int))) (hl:ns.length < 4000) : zli f ρ=some (.int ((zcr ns).length : Nat)):=by
 unfold zli
 rw [h]
 show ((zsD (ns.map D.int)).bind fun ns=>if ns.length < 4000 then some (D.int ((zcr ns).length : Nat)) else none)=_
 rw [zrm]
 show (if ns.length < 4000 then some (D.int ((zcr ns).length : Nat)) else none)=_
 rw [if_pos hl]
section
variable {c:Str -> Addr} {X:Cx} {e:Expr} {p p2 pos pos2:Pos}
theorem zxj {f:List Sl -> Option D} (hc:X.calm=true) (hgs:Gl X "len") (hms:X.mg "len"=none) (hgt:Gl X "set") (hmt:X.mg "set"=none) (ha:DE c X e f)
  (h1:starEach [.Call (.Name "set" p2) [e] [] pos2] X.env=(false,eval (.Call (.Name "set" p2) [e] [] pos2) X.env) :: starEach [] X.env:=by rfl) (h2:starEach [e] X.env=(false,eval e X.env) :: starEach [] X.env:=by rfl)
  (hpl:(backTo pos (starEach [] X.env)).any (·.1)=false:=by rfl) (hpl2:(backTo pos2 (starEach [] X.env)).any (·.1)=false:=by rfl) : DE c X (.Call (.Name "len" p) [.Call (.Name "set" p2) [e] [] pos2] [] pos) (zli f) :=
 PE.imp (z17 hc hgs hms hgt hmt ha h1 h2 hpl hpl2) fun σ H Q q_=>by
  obtain ⟨Hf0,H0,Hf,ρ,ds,st,ef,k⟩:=q_
  unfold zli at ef
  cases e1 : f ρ with
  | none=>rw [e1] at ef; cases ef
  | some d =>
   rw [e1] at ef
   cases e2 : lsD d with
   | none=>rw [Option.bind_some,e2] at ef; cases ef
   | some xs =>
    rw [Option.bind_some,e2] at ef
    cases e3 : zsD xs with
    | none=>rw [Option.bind_some,e3] at ef; cases ef
    | some ns =>
     rw [Option.bind_some,e3,Option.bind_some] at ef
     split at ef
     ·rename_i hl
      cases ef
      refine ⟨Hf0,H0,Hf,ρ,d,st,e1,fun v Hf' H' x r=>?_⟩
      obtain ⟨l,vs,el,q,rs⟩:=zg7 e2 r
      rw [zqu e3] at rs
      have ev:=zri rs
      subst ev el
      exact ⟨l,ns,rfl,x.s.seq q,hl,k _ Hf' _ x rfl⟩
     ·cases ef
end
theorem z8j (l:Addr) (items:Array Value) (n:Nat) (dct:Option Addr) (sl:Array (Option Value)) (t:Tok) :
  Meets (Builtin.«enumerate.__new__» ⟨[.type "enumerate",.ref l],[("start",.int 1 t)]⟩) (fun _ R s=>s.heap.get? l=some { cls:=.type "list",dict:=dct,data:=.seq items n,slots:=sl } /\
   R (.ok (.ret (.ref (s.heap.push { cls:=.type "list_iterator",data:=.fields #[.ref l,.int 0 0] }).objs.size)))
    { s with heap:=(s.heap.push { cls:=.type "list_iterator",data:=.fields #[.ref l,.int 0 0] }).push { cls:=.type "enumerate",data:=.fields #[.none,.bool false,.ref s.heap.objs.size,rawInt 1,.none,.none] } }):=by
 refine Meets.of_wp fun prog w A R s h=>?_
 obtain ⟨hp,g,d,tk,os⟩:=s
 obtain ⟨hl,h⟩:=h
 have hsub:=sub_enumerate
 have isl : Heap.IsList (Shared.heap ⟨hp,g,d,tk,os⟩) l items:=⟨_,hl,rfl,n,rfl⟩
 wp_walk using wpAny_loadPart' hl
 refine wpAny_stack_any fun st=>wpAny_pure ?_
 split
 ·rename_i c _ _ _ _ _
  cases hc : (c == Value.type "enumerate")
  ·wp_walk using wpAny_loadPart' hl,wpAny_pyIter_list isl
   exact ⟨_,rfl,h⟩
  ·wp_walk using wpAny_loadPart' hl,wpAny_pyIter_list isl
   exact ⟨_,rfl,h⟩
 ·wp_walk using wpAny_loadPart' hl,wpAny_pyIter_list isl
  exact ⟨_,rfl,h⟩
section
variable {P:Program} {w:World} {A:Around} {E:Value -> Shared -> Prop} {s:Shared}
theorem z3q {self x:Value} {kw:List (Str × Value)} : Meets (Builtin.«object.__init__» ⟨[self,x],kw⟩) (fun _ R s=>s.TypeIs self "enumerate" /\ R (.ok (.ret .none)) s):=by
 refine Meets.of_wp fun P1 w1 A1 R1 s1 hs=>?_
 obtain ⟨hT,hq⟩:=hs
 have hl:=F.called_enumerate.init.lookup
 have hm:=F.called_enumerate.made
 repeat (any_goals (first | assumption | wp_step))
 all_goals exact ⟨_,rfl,hq⟩
theorem z33 (obj x:Value) (t:Tok) : argsOk "object.__init__" ⟨[obj,x],[("start",.int 1 t)]⟩:=by unfold argsOk; kernel_rfl
theorem z7s (x:Value) (t:Tok) : checkTypeCall "enumerate" ⟨[x],[("start",.int 1 t)]⟩=pure ():=by kernel_rfl
theorem z0p (x:Value) (t:Tok) : checkBuiltinCall "enumerate.__new__" ⟨[.type "enumerate",x],[("start",.int 1 t)]⟩=pure ():=by kernel_rfl
theorem z5r {l:Addr} {t:Tok} {S:PySem.Spec} {Q:Value -> Shared -> Prop} (g:Meets (Builtin.«enumerate.__new__» ⟨[.type "enumerate",.ref l],[("start",.int 1 t)]⟩) S)
  (h:S A.in1 (wants (fun ob s1=>s1.TypeIs ob "enumerate" /\ Q ob s1) E) s) : wpAny (model P w) A (call (.type "enumerate") [.ref l] [("start",.int 1 t)]) Q E s:=by
 have ft:=F.called_enumerate
 obtain ⟨c0,tl0,hmro⟩:=ft.mro
 have hmade:=ft.made
 have hsub:=ft.sub
 have hnt:=ft.notType
 have hcr:=ft.canCreate
 have hct:=z7s (.ref l) t
 have hcn:=z0p (.ref l) t
 refine wpAny_call (codeAny_of_tree ?_)
 show wpAny _ _ (callAny (.type "enumerate") _) _ _ _
 refine wpAny_pure ⟨Code.quiet_builtin _ (by decide +kernel),codeAny_builtin F.entry_type_call ?_⟩
 rw [Around.under_plain (weight_type_call_type "enumerate" [.ref l] [("start",.int 1 t)]) (units_type_call_type "enumerate" [.ref l] [("start",.int 1 t)])]
 repeat (any_goals (first | assumption | wp_step))
 refine codeAny_mono (codeAny_call_builtin ft.plain F.entry_enumerate_new (wpAny_of_eq hcn (g P w A.in1 _ s h))) fun r1 s1 hr1=>?_
 cases r1 with
 | error e1=>exact hr1
 | ok f1 =>
  cases f1 with
  | ret ob =>
   obtain ⟨hT,hq⟩:=hr1
   have hli:=ft.init.lookup
   have hbi:=ft.init.bind ob
   repeat (any_goals (first | assumption | wp_step))
   refine codeAny_mono (codeAny_call_builtin ft.init.plain F.entry_object_init (ft.init.check _ _ _ _ _ _ _ _ hT (z33 ob (.ref l) t) (z3q P w A.in1 (wants (fun r2 s2=>r2=.none /\ Q ob s2) E) s1 ⟨hT,rfl,hq⟩))) fun r2 s2 hr2=>?_
   cases r2 with
   | error e2=>exact hr2
   | ok f2 =>
    cases f2 with
    | ret v2 =>
     obtain ⟨rfl,hq2⟩:=hr2
     repeat (any_goals (first | assumption | wp_step))
    | _=>exact hr2.elim
  | _=>exact hr1.elim
end
theorem z5t {P:Program} {w:World} {A:Around} {it:Addr} {fp:List Addr} {n:Nat} {R:Nat -> Value -> Prop} {St:Nat -> Heap -> Prop} (D:Draws P w A it fp n R St) :
  Draws P w A it fp (n + 1) (fun i v=>∃ j,i=j + 1 /\ R j v) (fun i h=>∃ j,i=j + 1 /\ St j h) where
 live:=fun i h ⟨j,_,st⟩=>D.live j h st
 frame:=fun i h h' ⟨j,e,st⟩ k=>⟨j,e,D.frame j h h' st k⟩
 item:=fun i s Q E hi ⟨j,e,st⟩ hQ=>D.item j s Q E (by omega) st fun x h' tk p st' sb=>hQ x h' tk ⟨j,e,p⟩ ⟨j + 1,by omega,st'⟩ sb
 done:=fun s Q E ⟨j,e,st⟩ hE=>D.done s Q E (by
   have : n=j:=by omega
   subst this; exact st) hE
noncomputable def ItS (K : PySem.W.Frag) (l : Addr) : It :=
  ⟨fun i H => ∃ xs x, SqL K H l xs /\ xs[i]? = some x,
   fun i H v H' => ∃ p x, v = .ref p /\ H p = none /\ H' = upd H p (.tup [.int ((i + 1 : Nat) : Int), x]) /\ (∀ xs, SqL K H l xs -> xs[i]? = some x),
   fun i H => ∃ xs, SqL K H l xs /\ xs.length <= i⟩
theorem z2z {P : Program} {w : World} {K : PySem.W.Frag} {elts : List Expr} {kx : Nat} {pos : Pos} (e it l : Addr) (ne : e ≠ it) :
    zim P w K (.Tuple elts kx pos) (ItS K l) [e, it] e (fun i h => (∃ old, IsEnum h e it ((i + 1 : Nat) : Int) old) /\ h.IsListIter it l i) where
  mem := by simp
  obj := fun i h st b hb => by
    obtain ⟨⟨old, he⟩, ⟨o1, e1, _, d1⟩⟩ := st
    simp only [List.mem_cons, List.not_mem_nil, or_false] at hb
    rcases hb with rfl | rfl
    · exact ⟨_, he, fun v q => by cases q⟩
    · exact ⟨o1, e1, fun v q => by rw [d1] at q; cases q⟩
  keep := fun i h h' st k => by
    obtain ⟨⟨old, he⟩, h1⟩ := st
    exact ⟨⟨old, k e (by simp) _ he⟩, h1.at fun o q => k it (by simp) o q⟩
  item := by
    intro X hP hw hK hc i pins s σ H E I hf st hg
    subst hP hw hK
    obtain ⟨⟨old, he⟩, h1⟩ := st
    obtain ⟨xs, x, q1, hx⟩ := hg
    obtain ⟨its1, r1, p1, z1⟩ := I.list q1
    obtain ⟨u1, e1, ru1⟩ := r1.get hx
    have n1 : l ≠ it := fun z => by
      obtain ⟨o1, g1, c1, _⟩ := h1
      obtain ⟨o2, g2, c2, _⟩ := p1.isList
      rw [z, g1] at g2
      cases g2
      rw [c1] at c2
      injection c2 with q
      exact absurd q (by decide)
    have n2 : e ≠ l := fun z => by
      obtain ⟨o2, g2, c2, _⟩ := p1.isList
      have he' : s.heap.get? e = some _ := he
      rw [z, g2] at he'
      cases he'
      injection c2 with q
      exact absurd q (by decide)
    have hi : i < its1.toArray.size := by
      rw [List.size_toArray]
      exact (List.getElem?_eq_some_iff.mp e1).1
    refine wpAny_pyNext_enum_itemD (i := i + 1) (z5t (Draws.list (A := X.A.in1) (I.ok.hd hc) it l n1 its1.toArray)) he ⟨i, rfl, h1, p1.isList⟩ (by omega) ne (by simp [ne, n2]) fun x' h' tk ⟨j, ej, hx'⟩ a1 ⟨j', ej', a3, _⟩ a5 a6 a7 => ⟨_, rfl, ?_⟩
    have ej : i = j := by omega
    have ej' : i + 1 = j' := by omega
    subst ej ej'
    have ex : x' = u1 := by
      have hx'' : its1[i]? = some x' := by simpa using hx'
      rw [e1] at hx''
      exact (Option.some.inj hx'').symm
    subst ex
    refine wpAny_letOwnedTupleGo_enum (s := { s with heap := h', toks := tk + 1 }) a1 fun h'' b1 b2 => ?_
    have lt : ∀ b ∈ [e, it], b < s.heap.objs.size := fun b hb => by
      simp only [List.mem_cons, List.not_mem_nil, or_false] at hb
      rcases hb with rfl | rfl
      · exact Heap.lt_size he
      · obtain ⟨o, e, _⟩ := h1; exact Heap.lt_size e
    have kk : ∀ b o, b ∉ [e, it] -> s.heap.get? b = some o -> h''.get? b = some o := fun b o hb e => by
      simp only [List.mem_cons, List.not_mem_nil, or_false, not_or] at hb
      obtain ⟨n1, n2⟩ := hb
      exact (b2.2 b n1).trans (a7 b o n1 n2 e)
    have fr : H s.heap.objs.size = none := I.hok.fresh (Nat.le_refl _)
    have I1 : Inv X pins σ H { s with heap := h'', toks := tk + 1 } := I.turnedMany (t' := tk + 1) kk hf
    have hp : h''.get? s.heap.objs.size = some { cls := .type "tuple", data := .seq #[.int ((i + 1 : Nat) : Int) tk, x'] } := (b2.2 _ (Nat.ne_of_gt (lt e (by simp)))).trans a5
    have I2 : Inv X pins σ (upd H s.heap.objs.size (.tup [.int ((i + 1 : Nat) : Int), x])) { s with heap := h'', toks := tk + 1 } :=
      I1.track (I.fpOk (Nat.le_refl _) fr) ⟨(by show 2 <= sizeLine; decide), [.int ((i + 1 : Nat) : Int) tk, x'], .cons ⟨tk, rfl⟩ (.cons ru1 .nil), ⟨_, hp, rfl, _, rfl⟩⟩
    refine ⟨.ref s.heap.objs.size, _, I2, rfl, ⟨_, x, rfl, fr, rfl, fun xs' h => by rw [I.list_inj h q1]; exact hx⟩, ⟨⟨x', ?_⟩, ?_⟩, fun b hb => ?_⟩
    · have : ((i + 1 + 1 : Nat) : Int) = ((i + 1 : Nat) : Int) + 1 := by push_cast; rfl
      rw [this]; exact b1
    · exact a3.at fun o q => (b2.2 it (Ne.symm ne)).trans q
    · rw [zby (Nat.ne_of_lt (lt b hb))]
      exact (hf b hb).1
  done := by
    intro X hP hw hK hc i pins s σ H E I hf st hg
    subst hP hw hK
    obtain ⟨⟨old, he⟩, h1⟩ := st
    obtain ⟨xs, q1, hend⟩ := hg
    obtain ⟨its1, r1, p1, z1⟩ := I.list q1
    have l1' := r1.length
    have D : Draws X.prog X.w X.A.in1 it [it, l] 0 (fun _ _ => False) (fun _ h => h.IsListIter it l i /\ h.IsList l its1.toArray) :=
      ⟨fun _ _ st => by obtain ⟨⟨o, ho, _⟩, _⟩ := st; exact ⟨o, ho⟩, fun _ _ _ st k => ⟨st.1.at fun o q => k it (by simp) o q, st.2.at fun o q => k l (by simp) o q⟩, fun _ _ _ _ hi => absurd hi (Nat.not_lt_zero _),
       fun s1 Q1 E1 st hE => wpAny_nextOf_list_end (I.ok.hd hc) st.1 st.2 (by simp; omega) fun h' x a b => hE h' x a b⟩
    refine wpAny_pyNext_enum_endD D he ⟨h1, p1.isList⟩ fun h' kk => ⟨rfl, I.turnedMany (t' := s.toks) (ch := [e, it]) (fun b o hb q => ?_) hf⟩
    simp only [List.mem_cons, List.not_mem_nil, or_false, not_or] at hb
    exact kk b o hb.2 q
  self := fun _ _ _ _ _ st h => by obtain ⟨⟨old, he⟩, _⟩ := st; exact wpAny_pyIter_enum he h
section
variable {P:Program} {w:World} {A:Around} {E:Value -> Shared -> Prop} {s:Shared}
theorem zxi {l:Addr} {items:Array Value} {t:Tok} {Q:Value -> Shared -> Prop} (hL:s.heap.IsList l items)
  (h:∀ h',IsEnum h' (s.heap.objs.size + 1) s.heap.objs.size 1 .none -> h'.IsListIter s.heap.objs.size l 0 ->
   (∀ b o,s.heap.get? b=some o -> h'.get? b=some o) -> Q (.ref (s.heap.objs.size + 1)) { s with heap:=h' }) :
  wpAny (model P w) A (call (.type "enumerate") [.ref l] [("start",.int 1 t)]) Q E s:=by
 obtain ⟨⟨oc,od,odt,os⟩,hol,hcl,nl,hdl⟩:=hL
 simp only at hcl hdl
 subst hcl hdl
 refine z5r (z8j l items nl od os t) ⟨hol,?_⟩
 have sz : (s.heap.push { cls:=.type "list_iterator",data:=.fields #[.ref l,.int 0 0] }).objs.size=s.heap.objs.size + 1:=Heap.size_push ..
 show _ /\ _
 rw [sz]
 have en : IsEnum ((s.heap.push { cls:=.type "list_iterator",data:=.fields #[.ref l,.int 0 0] }).push { cls:=.type "enumerate",data:=.fields #[.none,.bool false,.ref s.heap.objs.size,rawInt 1,.none,.none] }) (s.heap.objs.size + 1) s.heap.objs.size 1 .none:=by
  have q:=Heap.get?_push_size (s.heap.push { cls:=.type "list_iterator",data:=.fields #[.ref l,.int 0 0] }) (o:={ cls:=.type "enumerate",data:=.fields #[.none,.bool false,.ref s.heap.objs.size,rawInt 1,.none,.none] }) rfl
  rw [sz] at q
  exact q
 exact ⟨⟨_,en,rfl⟩,h _ en ⟨_,Heap.get?_push_of_some _ (Heap.get?_push_size _ rfl),rfl,rfl⟩ fun b o x=>Heap.get?_push_of_some _ (Heap.get?_push_of_some _ x)⟩
end
section
variable {M:Model} {A:Around} {E:Value -> Shared -> Prop} {s:Shared}
theorem z78 {pos:Pos} {T:String} {args:List (Bool × Sem Value)} {kws:List (Option Str × Sem Value)} {Q:Value -> Shared -> Prop} (hpl:args.any (·.1)=false) (hkw:kws.any (·.1.isNone)=false)
  (h:wpAny M A (evalArgs (.type T) true args kws) (fun z s1=>wpAny M A (call (.type T) ([] ++ z.pos) z.kw) Q E s1) E s) : wpAny M A (callWith pos (.type T) [] args kws) Q E s:=by
 unfold callWith
 refine wpAny_bind (wpAny_holding (wpAny_mono h (fun z s1 hz=>wpAny_bind (wpAny_standAt ?_)) fun _ _ e=>e))
 simp only [hpl,hkw,Bool.or_false]
 refine wpAny_bind (wpAny_pure ?_)
 exact wpAny_bind (wpAny_mono hz (fun r s2 hr=>wpAny_bind (wpAny_holding (wpAny_point (wpAny_pure hr)))) fun _ _ e=>e)
end
section
variable {X:Cx} {elts:List Expr} {kx:Nat} {tpos:Pos}
noncomputable def z60 (K:PySem.W.Frag) (te:TE) : TI:=fun σ H R=>te σ H fun x H1=>∃ l,x=.ref l /\ (∃ xs,SqL K H1 l xs) /\ R (ItS K l) H1
theorem z3h {a:Expr} {te:TE} {p pos kp cp:Pos} {kn:Nat} (hg:Gl X "enumerate") (hm:X.mg "enumerate"=none) (ha:PE X a te) (hs:starEach [a] X.env=(false,eval a X.env) :: starEach [] X.env:=by rfl) :
  PI X (.Tuple elts kx tpos) (.Call (.Name "enumerate" p) [a] [⟨some "start",.Constant (.int 1) kn cp,kp⟩] pos) (z60 X.K te):=by
 intro pins s σ H R I h
 refine wpAny_Call_Name_kw (zg4 I hg hm boot_enumerate ?_)
 rw [hs]
 refine z78 (by rfl) (by rfl) (evalArgs_kwB (by rfl) ?_)
 refine Calls.spliced_cons (thn (ha pins s σ H _ I h) fun u s1 q_=>?_)
 obtain ⟨x,H1,I1,r1,l,e1,⟨xs,h1⟩,q⟩:=q_
 subst e1
 cases r1
 refine wpAny_pure ?_
 refine evalAll_cons (wpAny_bind (wpAny_Constant_int (wpAny_bind (wpAny_standAt (wpAny_pure ?_)))))
 refine evalAll_nil ?_
 have I1':=I1.tok (s1.toks + 1)
 obtain ⟨its1,r1,p1,z1⟩:=I1'.list h1
 refine zxi p1.isList fun h' a1 a4 a7=>?_
 refine wpAny_pyIter_enum a1 ?_
 have I2:=I1'.kept (t':=s1.toks + 1) a7
 refine ⟨_,[s1.heap.objs.size + 1,s1.heap.objs.size],_,_,H1,rfl,I2,z2z _ _ _ (Nat.succ_ne_self _),⟨⟨_,a1⟩,a4⟩,fun b hb=>?_,q⟩
 simp only [List.mem_cons,List.not_mem_nil,or_false] at hb
 have hle : s1.heap.objs.size <= b:=by
  rcases hb with rfl | rfl
  ·exact Nat.le_add_right _ _
  ·exact Nat.le_refl _
 exact I1.fpOk hle (I1.hok.fresh hle)
end
noncomputable def z0r : List D -> Option (List D)
 | [x]=>(lsD x).map (zgd 1)
 | _=>none
noncomputable def zl0 (f:List Sl -> Option D) (ρ:List Sl) : Option (List D):=(f ρ).bind fun x=>z0r [x]
theorem z2b {α : Type} {f:List Sl -> Option D} {ρ:List Sl} {g:α -> D} {xs:List α} (d:α) (e:f ρ=some (.lst (xs.map g))) : zl0 f ρ=some ((List.range xs.length).map fun i=>D.tup [.int ((i + 1 : Nat) : Int),g (xs.getD i d)]):=by
 unfold zl0
 rw [e]
 show some (zgd 1 (xs.map g))=_
 refine congrArg some (List.ext_getElem? fun i=>?_)
 rw [zl2,List.getElem?_map,List.getElem?_map]
 by_cases h : i < xs.length
 ·have eg : xs.getD i d=xs[i]:=by rw [List.getD_eq_getElem?_getD,List.getElem?_eq_getElem h]; rfl
  rw [List.getElem?_range h,List.getElem?_eq_getElem h,Nat.add_comm 1 i]
  show some (D.tup [.int ((i + 1 : Nat) : Int),g xs[i]])=some (D.tup [.int ((i + 1 : Nat) : Int),g (xs.getD i d)])
  rw [eg]
 ·rw [List.getElem?_eq_none (by omega),List.getElem?_eq_none (by rw [List.length_range]; omega)]
  rfl
section
variable {c:Str -> Addr} {X:Cx} {a:Expr} {pos p kp cp:Pos} {kn:Nat}
theorem z12 {f:List Sl -> Option D} {elts:List Expr} {kx:Nat} {tpos:Pos} (hg:Gl X "enumerate") (hm:X.mg "enumerate"=none) (ha:DE c X a f) (hs:starEach [a] X.env=(false,eval a X.env) :: starEach [] X.env:=by rfl) :
  DI c X (.Tuple elts kx tpos) (.Call (.Name "enumerate" p) [a] [⟨some "start",.Constant (.int 1) kn cp,kp⟩] pos) (zl0 f) :=
 PI.imp (z3h hg hm ha hs) fun σ H R q_=>by
  obtain ⟨Hf0,H0,Hf,ρ,ds,st,ef,k⟩:=q_
  unfold zl0 at ef
  cases e1 : f ρ with
  | none=>rw [e1] at ef; cases ef
  | some dx =>
   rw [e1] at ef
   replace ef : (lsD dx).map (zgd 1)=some ds:=ef
   refine ⟨Hf0,H0,Hf,ρ,dx,st,e1,fun v Hf' H' x r=>?_⟩
   cases ex : lsD dx with
   | none=>rw [ex] at ef; cases ef
   | some xs =>
    rw [ex] at ef
    cases ef
    obtain ⟨l1,w1,el1,q1,r1⟩:=zg7 ex r
    subst el1
    refine ⟨l1,rfl,⟨w1,x.s.seq q1⟩,k _ Hf' H' x fun Hf2 H2 f2 s2 i=>?_⟩
    have g1 : SqL X.K H2 l1 w1:=(f2.trans s2).seq q1
    have h1:=r1.length
    refine ⟨fun d ed=>?_,fun ei=>⟨w1,g1,by rw [zrp] at ei; omega⟩⟩
    rw [zl2] at ed
    cases hx : xs[i]? with
    | none=>rw [hx] at ed; cases ed
    | some x' =>
     rw [hx] at ed
     cases ed
     obtain ⟨u1,eu1,ru1⟩:=r1.get hx
     refine ⟨⟨w1,u1,g1,eu1⟩,fun z H3 ⟨pp,z1,ez,hp,eh,y1⟩=>?_⟩
     subst ez eh
     have a1:=y1 w1 g1
     rw [eu1] at a1; cases a1
     exact ⟨upd Hf2 pp (.tup [.int ((i + 1 : Nat) : Int),u1]),Ext.new s2 hp,pp,[.int ((i + 1 : Nat) : Int),u1],rfl,zcd,.cons (by rw [Nat.add_comm 1 i]; rfl) (.cons (ru1.up (f2.trans (zc3 (s2.free hp)))) .nil)⟩
end
noncomputable def spM (G:Gc) (n0 n:Nat) (m:Addr -> List D -> List D -> List D -> Option (List D × D)) : Sp:=fun vs H Q _=>∃ Hf ds0 ds1 xs ys d l us vs0 vs1,vs=vs0 ++ .ref l :: vs1 /\ za4 Hf H /\ Hf l=none /\ H l=some (.lst us) /\ zaq G Hf ds0 vs0 /\ zaq G Hf ds1 vs1 /\ zaq G Hf xs us /\ ds0.length=n0 /\ ds0.length + 1 + ds1.length=n /\ m l ds0 ds1 xs=some (ys,d) /\
 ∀ v Hf' H' us',Ext Hf (zfo H l) Hf' H' -> Hf' l=none -> H' l=some (.lst us') -> zaq G Hf' ys us' -> Rep G Hf' d v -> Q v H'
noncomputable def zid (N:Nat) (l:Addr) (ds0 ds1 xs:List D) : List Sl:=(zdw N (ds0 ++ .non :: ds1)).set ds0.length (.pin l xs)
open Classical in
noncomputable def zfk (l:Addr) (i:Nat) (ρ:List Sl) : Option (List D):=match ρ[i]? with
 | some (.pin l' ys)=>if l'=l then some ys else none
 | _=>none
theorem zt0 {l:Addr} {i:Nat} {ρ:List Sl} {ys:List D} (h:zfk l i ρ=some ys) : ρ[i]?=some (.pin l ys):=by
 unfold zfk at h
 split at h
 ·rename_i l' zs e
  split at h
  ·rename_i q
   cases h
   rw [e,q]
  ·cases h
 ·cases h
noncomputable def zhv (N:Nat) (F:List Sl -> Option Fl) (l:Addr) (ds0 ds1 xs:List D) : Option (List D × D):=(F (zid N l ds0 ds1 xs)).bind fun o=>match o with
 | .nx ρ=>(zfk l ds0.length ρ).map fun ys=>(ys,.non)
 | .rtS d ρ=>(zfk l ds0.length ρ).map fun ys=>(ys,d)
 | _=>none
theorem z2g {N:List Str} {vs0 vs1:List V} {l:Addr} : (L2.start N (vs0 ++ .non :: vs1)).set vs0.length (some (.ref l))=L2.start N (vs0 ++ .ref l :: vs1):=by
 unfold L2.start
 simp [List.set_append,List.length_append]
theorem zaz.startM {G:Gc} {Hf H:Hp} {N:List Str} {ds0 ds1 xs:List D} {vs0 vs1 us:List V} {l:Addr} (s0:za4 Hf H) (hf:Hf l=none) (hl:H l=some (.lst us)) (r0:zaq G Hf ds0 vs0) (r1:zaq G Hf ds1 vs1) (rx:zaq G Hf xs us) :
  zaz G Hf (zfo H l) Hf H (L2.start N (vs0 ++ .ref l :: vs1)) (zid N.length l ds0 ds1 xs):=by
 have st0:=zaz.start (N:=N) (zjr s0 hf) (r0.append (.cons (d:=.non) (v:=.non) rfl r1))
 have:=st0.setOwn (i:=ds0.length) (l:=l) (s:=.pin l xs) rfl (Ext.grow (zjr s0 hf) z0c) zpm hf ⟨rfl,us,hl,rx⟩
 rw [r0.length,z2g,<- r0.length] at this
 exact this
section
variable {P:Program} {w:World} {K:PySem.W.Frag} {mg:Str -> Option Value} {base:Heap} {c:Str -> Addr}
theorem zt5 {x qual:Str} {st:Stmt} {f:Addr} {fd:FuncData} {N ps:List Str} {k n0:Nat} {F:List Sl -> Option Fl} (Fn:Fun K x qual st f fd) (S:za9 N ps (zam st))
  (h:∀ (cdv:Value) (A:Around) (outer:List Env) (s:Shared) (H:Hp) (E:XK),zb9 k (A.deeper (envOfC qual (zam st) s.heap.objs.size f cdv)) -> DSs c (zge CX0 P w K mg base N qual (zam st) f cdv A outer s H E).nox (za8 st) F) :
  zaw P w K mg base CX0 (k + 1) f fd ps (spM ⟨K,c⟩ n0 ps.length (zhv N.length F)):=by
 refine Fn.ok S (fun vs H Q E ⟨Hf,ds0,ds1,xs,ys,d,l,us,vs0,vs1,ev,s0,hf,hu,r0,r1,rx,hn,hl,_⟩=>by rw [ev,List.length_append,List.length_cons,<- r0.length,<- r1.length]; omega) fun cdv A outer s H vs Q E hr ⟨Hf,ds0,ds1,xs,ys,d,l,us,vs0,vs1,ev,s0,hf,hu,r0,r1,rx,hn,hl,e,kq⟩=>⟨_,h cdv A outer s H E hr,?_⟩
 subst ev
 unfold zhv at e
 cases eF : F (zid N.length l ds0 ds1 xs) with
 | none=>rw [eF] at e; cases e
 | some o =>
  rw [eF,Option.bind_some] at e
  refine ⟨Hf,zfo H l,Hf,_,o,zaz.startM s0 hf hu r0 r1 rx,eF,?_⟩
  cases o with
  | nx ρ =>
   replace e : (zfk l ds0.length ρ).map (fun ys=>(ys,D.non))=some (ys,d):=e
   cases ep : zfk l ds0.length ρ with
   | none=>rw [ep] at e; cases e
   | some zs =>
    rw [ep] at e
    cases e
    intro σ' Hf' H' _ so
    obtain ⟨l',e1,h0,hf',e2,us',hu',rx'⟩:=so.ownAt (s:=.pin l ys) rfl (zt0 ep)
    subst e2
    exact kq .non Hf' H' us' so.ext hf' hu' rx' rfl
  | rtS d' ρ =>
   replace e : (zfk l ds0.length ρ).map (fun ys=>(ys,d'))=some (ys,d):=e
   cases ep : zfk l ds0.length ρ with
   | none=>rw [ep] at e; cases e
   | some zs =>
    rw [ep] at e
    cases e
    intro v σ' Hf' H' so r
    obtain ⟨l',e1,h0,hf',e2,us',hu',rx'⟩:=so.ownAt (s:=.pin l ys) rfl (zt0 ep)
    subst e2
    exact kq v Hf' H' us' so.ext hf' hu' rx' r
  | _=>cases e
theorem zw5 {x qual:Str} {st:Stmt} {f:Addr} {fd:FuncData} {N ps:List Str} {k n0:Nat} {G:Gc} (Fn:Fun K x qual st f fd) (S:za9 N ps (zam st)) : zaw P w K mg base CX0 (k + 1) f fd ps (spM G n0 ps.length fun _ _ _ _=>none) :=
 Fn.ok S (fun vs H Q E ⟨Hf,ds0,ds1,xs,ys,d,l,us,vs0,vs1,ev,s0,hf,hu,r0,r1,rx,hn,hl,e,_⟩=>by cases e) fun cdv A outer s H vs Q E hr ⟨Hf,ds0,ds1,xs,ys,d,l,us,vs0,vs1,ev,s0,hf,hu,r0,r1,rx,hn,hl,e,kq⟩=>by cases e
end
theorem zaz.giveS {G:Gc} {Hf0 H0 Hf H:Hp} {σ:St} {ρ:List Sl} {i:Nat} {l:Addr} {s:Sl} (hs:s.isOwn=true) (h:zaz G Hf0 H0 Hf H σ ρ) (e:ρ[i]?=some s) (el:σ[i]?=some (some (.ref l))) : zaz G Hf0 H0 Hf (zfo H l) σ (ρ.set i .no):=by
 obtain ⟨l',e1,h0,hf,q⟩:=h.ownAt hs e
 rw [el] at e1; cases e1
 refine ⟨⟨h.ext.f,zjr h.ext.h h0,zjr h.ext.s hf,h.ext.n⟩,by simpa using h.len,fun j u t a b=>?_,fun j k t t' l' a b ht ht' c d'=>?_⟩
 ·rcases zc6 b with ⟨e2,e',_⟩ | ⟨en,b⟩
  ·subst e'; trivial
  ·have q:=h.at' j u t a b
   cases ht : t.isOwn with
   | false =>
    cases t with
    | no=>trivial
    | im d=>exact q
    | _=>cases ht
   | true =>
    obtain ⟨l2,e2,e3,e4,q2⟩:=q.own ht
    subst e2
    refine .ofOwn ht ⟨l2,rfl,e3,e4,q2.up (za4.refl _) fun o' ho'=>?_⟩
    rw [zq5 (fun z=>?_)]
    ·exact ho'
    ·subst z
     exact en (h.inj j i t s l2 b e ht hs a el)
 ·have old : ∀ (j:Nat) (t:Sl),(ρ.set i .no)[j]?=some t -> t.isOwn=true -> ρ[j]?=some t:=fun j t a ht=>by
   rcases zc6 a with ⟨_,e',_⟩ | ⟨_,a⟩
   ·subst e'; cases ht
   ·exact a
  exact h.inj j k t t' l' (old j t a ht) (old k t' b ht') ht ht' c d'
theorem zaz.back {G:Gc} {Hf0 H0 Hf H Hf' H':Hp} {σ:St} {ρ:List Sl} {i:Nat} {l:Addr} {s s':Sl} (hs:s.isOwn=true) (hs':s'.isOwn=true) (h:zaz G Hf0 H0 Hf H σ ρ) (e:ρ[i]?=some s) (el:σ[i]?=some (some (.ref l))) (x:Ext Hf (zfo H l) Hf' H') (hf:Hf' l=none) (ho:zev G Hf' H' l s') : zaz G Hf0 H0 Hf' H' σ (ρ.set i s'):=by
 have:=(h.giveS hs e el).setOwn (i:=i) (l:=l) hs' x zpm hf ho
 rw [List.set_set] at this
 have e2 : σ.set i (some (.ref l))=σ:=by
  apply List.ext_getElem?
  intro j
  by_cases hj : i=j
  ·subst hj
   rw [List.getElem?_set_self (List.getElem?_eq_some_iff.mp el).1,el]
  ·rw [List.getElem?_set_ne hj]
 rw [e2] at this
 exact this
noncomputable def z3x (G:Gc) (i:Nat) (f:List Sl -> Option (List D × List D)) : TA:=fun σ H Q=>∃ Hf0 H0 Hf ρ ds0 ds1 l,zaz G Hf0 H0 Hf H σ ρ /\ σ[i]?=some (some (.ref l)) /\ f ρ=some (ds0,ds1) /\ ∀ vs0 vs1 Hf' H',Ext Hf H Hf' H' -> zaq G Hf' ds0 vs0 -> zaq G Hf' ds1 vs1 -> Q (vs0 ++ .ref l :: vs1) H'
structure DAM (c:Str -> Addr) (X:Cx) (es:List Expr) (i n0:Nat) (f:List Sl -> Option (List D × List D)) : Prop where
 pa : PA X es (z3x (Gx c X) i f)
 len : ∀ ρ p,f ρ=some p -> p.1.length=n0 /\ p.1.length + 1 + p.2.length=es.length
noncomputable def zgb (g:List Sl -> Option (List D)) (ρ:List Sl) : Option (List D × List D):=(g ρ).map fun ds=>([],ds)
noncomputable def zdl (f:List Sl -> Option D) (g:List Sl -> Option (List D × List D)) (ρ:List Sl) : Option (List D × List D):=(f ρ).bind fun d=>(g ρ).map fun p=>(d :: p.1,p.2)
theorem zt2 {f:List Sl -> Option D} {g:List Sl -> Option (List D × List D)} {ρ:List Sl} {p:List D × List D} (h:zdl f g ρ=some p) : ∃ d r,f ρ=some d /\ g ρ=some r /\ p=(d :: r.1,r.2):=by
 unfold zdl at h
 cases e1 : f ρ with
 | none=>rw [e1] at h; cases h
 | some d =>
  cases e2 : g ρ with
  | none=>rw [e1,e2] at h; cases h
  | some r=>rw [e1,e2] at h; cases h; exact ⟨d,r,rfl,rfl,rfl⟩
section
variable {c:Str -> Addr} {X:Cx} {k n0:Nat} {f:Addr} {fd:FuncData} {ps:List Str} {x:Str} {p pos pos':Pos} {e:Expr} {es:List Expr} {fa:List Sl -> Option (List D × List D)} {i:Nat}
theorem z8h {g:List Sl -> Option (List D)} (h:PE X e (zd9 i)) (hr:DA c X es g) (hs:starEach (e :: es) X.env=(false,eval e X.env) :: starEach es X.env:=by rfl) : DAM c X (e :: es) i 0 (zgb g) :=
 ⟨PA.imp (zdb h hr.pa hs) fun σ H Q ⟨Hf0,H0,Hf,ρ,ds0,ds1,l,st,el,ef,k⟩=>by
  unfold zgb at ef
  cases e1 : g ρ with
  | none=>rw [e1] at ef; cases ef
  | some ds =>
   rw [e1] at ef
   cases ef
   exact ⟨_,el,Hf0,H0,Hf,ρ,ds1,st,e1,fun vs Hf' H' x r=>k [] vs Hf' H' x rfl r⟩,fun ρ p h=>by
  unfold zgb at h
  cases e1 : g ρ with
  | none=>rw [e1] at h; cases h
  | some ds =>
   rw [e1] at h
   cases h
   refine ⟨rfl,?_⟩
   rw [List.length_cons,<- hr.len ρ ds e1]
   show 0 + 1 + ds.length=_
   omega⟩
theorem znt (i:Nat) {x:Str} {g:List Sl -> Option (List D)} (hr:DA c X es g) (hN:X.N[i]?=some x:=by rfl) (hv:Vis X.env.scope x:=by first | exact Or.inl rfl | exact Or.inr (Or.inl rfl) | exact Or.inr (Or.inr rfl)) (hd:(x == ("__debug__" : Str))=false:=by decide)
  (hcd:(x == ("__classdict__" : Str))=false:=by decide) (hs:starEach (.Name x pos :: es) X.env=(false,eval (.Name x pos) X.env) :: starEach es X.env:=by rfl) : DAM c X (.Name x pos :: es) i 0 (zgb g):=z8h (zgo hN hv hd hcd) hr hs
theorem zej {f:List Sl -> Option D} {g:List Sl -> Option (List D × List D)} (ha:DE c X e f) (hr:DAM c X es i n0 g) (hs:starEach (e :: es) X.env=(false,eval e X.env) :: starEach es X.env:=by rfl) : DAM c X (e :: es) i (n0 + 1) (zdl f g):=by
 refine ⟨PA.imp (zdb ha hr.pa hs) fun σ H Q ⟨Hf0,H0,Hf,ρ,ds0,ds1,l,st,el,ef,k⟩=>?_,fun ρ p h=>?_⟩
 ·obtain ⟨d,r,e1,e2,e3⟩:=zt2 ef
  cases e3
  exact ⟨Hf0,H0,Hf,ρ,d,st,e1,fun v Hf1 H1 x1 r1=>⟨Hf0,H0,Hf1,ρ,r.1,r.2,l,st.step x1,el,e2,fun vs0 vs1 Hf2 H2 x2 r2 r3=>k _ vs1 Hf2 H2 (x1.trans x2) (.cons (r1.up x2.f) r2) r3⟩⟩
 ·obtain ⟨d,r,e1,e2,rfl⟩:=zt2 h
  obtain ⟨h1,h2⟩:=hr.len ρ r e2
  refine ⟨by show r.1.length + 1=_; rw [h1],?_⟩
  show (r.1.length + 1) + 1 + r.2.length=_
  rw [List.length_cons]
  omega
noncomputable def zit (i:Nat) (m:Addr -> List D -> List D -> List D -> Option (List D × D)) (f:List Sl -> Option (List D × List D)) (ρ:List Sl) : Option (D × List Sl):=match ρ[i]? with
 | some (.pin l xs)=>(f ρ).bind fun p=>(m l p.1 p.2 xs).map fun q=>(q.2,ρ.set i (.pin l q.1))
 | _=>none
open Classical in
noncomputable def zmm (i:Nat) (m:Addr -> List D -> List D -> List D -> Option (List D × D)) (f:List Sl -> Option (List D × List D)) (ρ:List Sl) : Option (D × List Sl):=match ρ[i]? with
 | some (.own xs)=>(f ρ).bind fun p=>if h : ∃ q,∀ l,m l p.1 p.2 xs=some q then some (h.choose.2,ρ.set i (.own h.choose.1)) else none
 | _=>none
theorem zqf {m:Addr -> List D -> List D -> List D -> Option (List D × D)} (F:zaw X.prog X.w X.K X.mg X.base CX0 k f fd ps (spM (Gx c X) n0 ps.length m)) (hr:zb9 k X.A) (hg:Gl X x) (hm:X.mg x=some (.ref f)) (hk:PySem.W.keepIn X.K (.ref f)=true) (hb:za5 X.K fd ps []) (ha:DAM c X (e :: es) i n0 fa)
  (hl:(e :: es).length=ps.length:=by rfl) (hdb:(x == ("__debug__" : Str))=false:=by decide) (he:starEach (e :: es) X.env=(false,eval e X.env) :: starEach es X.env:=by rfl) (hpl:(backTo pos (starEach es X.env)).any (·.1)=false:=by rfl) :
  DX c X (.Call (.Name x p) (e :: es) [] pos) (zit i m fa):=PE.imp (zk4 F hr hg hm hk hb .nil zhn ha.pa hdb he hpl) fun σ H Q q_=>by
 obtain ⟨Hf0,H0,Hf,ρ,d,ρ',st,ef,kq⟩:=q_
 unfold zit at ef
 split at ef
 ·rename_i l xs eo
  cases e1 : fa ρ with
  | none=>rw [e1] at ef; cases ef
  | some pp =>
   rw [e1,Option.bind_some] at ef
   cases e2 : m l pp.1 pp.2 xs with
   | none=>rw [e2] at ef; cases ef
   | some q =>
    rw [e2] at ef
    cases ef
    obtain ⟨l',el,h0,hf,eq,us,hu,rx⟩:=st.ownAt (s:=.pin l xs) rfl eo
    subst eq
    refine ⟨Hf0,H0,Hf,ρ,pp.1,pp.2,l',st,el,e1,fun vs0 vs1 Hf' H' x r0 r1=>?_⟩
    dsimp only
    rw [List.append_nil]
    have st':=st.step x
    obtain ⟨l2,el2,h02,hf2,eq2,us2,hu2,rx2⟩:=st'.ownAt (s:=.pin l' xs) rfl eo
    subst eq2
    obtain ⟨n1,n2⟩:=ha.len ρ pp e1
    exact ⟨Hf',pp.1,pp.2,xs,q.1,q.2,l2,us2,vs0,vs1,rfl,x.s,hf2,hu2,r0,r1,rx2,n1,n2.trans hl,e2,fun v Hf3 H3 us3 x3 hf3 hu3 rx3 r3=>kq v Hf3 H3 (x.f.trans x3.f) (st'.back (s:=.pin l2 xs) (s':=.pin l2 q.1) rfl rfl eo el2 x3 hf3 ⟨rfl,us3,hu3,rx3⟩) r3⟩
 ·cases ef
theorem z0i {m:Addr -> List D -> List D -> List D -> Option (List D × D)} (F:zaw X.prog X.w X.K X.mg X.base CX0 k f fd ps (spM (Gx c X) n0 ps.length m)) (hr:zb9 k X.A) (hg:Gl X x) (hm:X.mg x=some (.ref f)) (hk:PySem.W.keepIn X.K (.ref f)=true) (hb:za5 X.K fd ps []) (ha:DAM c X (e :: es) i n0 fa)
  (hl:(e :: es).length=ps.length:=by rfl) (hdb:(x == ("__debug__" : Str))=false:=by decide) (he:starEach (e :: es) X.env=(false,eval e X.env) :: starEach es X.env:=by rfl) (hpl:(backTo pos (starEach es X.env)).any (·.1)=false:=by rfl) :
  DX c X (.Call (.Name x p) (e :: es) [] pos) (zmm i m fa):=PE.imp (zk4 F hr hg hm hk hb .nil zhn ha.pa hdb he hpl) fun σ H Q q_=>by
 obtain ⟨Hf0,H0,Hf,ρ,d,ρ',st,ef,kq⟩:=q_
 unfold zmm at ef
 split at ef
 ·rename_i xs eo
  cases e1 : fa ρ with
  | none=>rw [e1] at ef; cases ef
  | some pp =>
   rw [e1,Option.bind_some] at ef
   split at ef
   ·rename_i hq
    have e2:=hq.choose_spec
    generalize hq.choose=q at ef e2
    cases ef
    obtain ⟨l',el,h0,hf,us,hu,rx⟩:=st.ownAt (s:=.own xs) rfl eo
    refine ⟨Hf0,H0,Hf,ρ,pp.1,pp.2,l',st,el,e1,fun vs0 vs1 Hf' H' x r0 r1=>?_⟩
    dsimp only
    rw [List.append_nil]
    have st':=st.step x
    obtain ⟨l2,el2,h02,hf2,us2,hu2,rx2⟩:=st'.ownAt (s:=.own xs) rfl eo
    rw [el] at el2; cases el2
    obtain ⟨n1,n2⟩:=ha.len ρ pp e1
    exact ⟨Hf',pp.1,pp.2,xs,q.1,q.2,l',us2,vs0,vs1,rfl,x.s,hf2,hu2,r0,r1,rx2,n1,n2.trans hl,e2 l',fun v Hf3 H3 us3 x3 hf3 hu3 rx3 r3=>kq v Hf3 H3 (x.f.trans x3.f) (st'.back (s:=.own xs) (s':=.own q.1) rfl rfl eo el x3 hf3 ⟨us3,hu3,rx3⟩) r3⟩
   ·cases ef
 ·cases ef
noncomputable def zhx (f:List Sl -> Option (D × List Sl)) (ρ:List Sl) : Option Fl:=(f ρ).map fun p=>.nx p.2
theorem zpa {f:List Sl -> Option (D × List Sl)} (he:DX c X e f) (hs:swapsWith e none pos.line X.env=pure false:=by rfl) : DS c X (.Expr e pos) (zhx f):=PS.imp (zek he hs) fun E σ H q_=>by
 obtain ⟨Hf0,H0,Hf,ρ,o,so,ef,k⟩:=q_
 unfold zhx at ef
 cases e1 : f ρ with
 | none=>rw [e1] at ef; cases ef
 | some p =>
  rw [e1] at ef
  cases ef
  exact ⟨Hf0,H0,Hf,ρ,p.1,p.2,so,e1,fun v Hf' H' s so' r=>k σ Hf' H' s so'⟩
noncomputable def zlx (i:Nat) (f:List Sl -> Option (D × List Sl)) (ρ:List Sl) : Option Fl:=(f ρ).map fun p=>.nx (p.2.set i (.im (.lst [p.1])))
theorem zzv (i:Nat) {x:Str} {f:List Sl -> Option (D × List Sl)} {spos:Pos} (hN:X.N.Nodup) (he:DX c X e f) (hi:X.N[i]?=some x:=by rfl) (hx:Loc X.env.scope x:=by first | exact Or.inl rfl | exact Or.inr rfl) (hs:swapsWith (.List [e] pos) (some (.Name x pos')) spos.line X.env=pure false:=by rfl) (hf:X.fn x=true \/ X.env.scope.names.lookup x=some .local:=by first | exact .inl rfl | exact .inr rfl) (hst:starEach [e] X.env=(false,eval e X.env) :: starEach [] X.env:=by rfl) :
  DS c X (.Assign [.Name x pos'] (.List [e] pos) spos) (zlx i f):=PS.imp (znu hN hi hx (ztc (zdb he zdp hst)) hs hf) fun E σ H q_=>by
 obtain ⟨Hf0,H0,Hf,ρ,o,so,ef,k⟩:=q_
 unfold zlx at ef
 cases e1 : f ρ with
 | none=>rw [e1] at ef; cases ef
 | some p =>
  rw [e1] at ef
  cases ef
  refine ⟨Hf0,H0,Hf,ρ,p.1,p.2,so,e1,fun v Hf' H' s so' r=>⟨(by rw [sizeLine_eq]; show 1 <= 16777216; decide),fun q hq=>?_⟩⟩
  exact k _ (upd Hf' q (.lst [v])) (upd H' q (.lst [v])) (s.trans (zc3 (so'.sub.free hq))) ((so'.step (Ext.new so'.sub hq)).setIm ⟨q,[v],rfl,zcd,.cons (r.up (zc3 (so'.sub.free hq))) .nil⟩)
noncomputable def zgk (i:Nat) (ρ:List Sl) : Option D:=match ρ[i]? with
 | some (.pin _ xs)=>some (.lst xs)
 | _=>none
noncomputable def znz (i:Nat) (ρ:List Sl) : Option (List D):=match ρ[i]? with
 | some (.pin _ xs)=>some xs
 | _=>none
theorem zo3 (i:Nat) {x:Str} (hN:X.N[i]?=some x:=by rfl) (hv:Vis X.env.scope x:=by first | exact Or.inl rfl | exact Or.inr (Or.inl rfl) | exact Or.inr (Or.inr rfl)) (hd:(x == ("__debug__" : Str))=false:=by decide)
  (hcd:(x == ("__classdict__" : Str))=false:=by decide) : DB c X (.Name x pos) (zgk i):=PE.imp (zgo hN hv hd hcd) fun σ H Q q_=>by
 obtain ⟨Hf0,H0,Hf,ρ,d,st,ef,k⟩:=q_
 unfold zgk at ef
 split at ef
 ·rename_i l xs es
  cases ef
  obtain ⟨l',e1,_,_,_,vs,q,r⟩:=st.ownAt (s:=.pin l xs) rfl es
  exact ⟨_,e1,k _ Hf H (Ext.refl st.sub) ⟨l',vs,rfl,q,r.up st.sub⟩⟩
 ·cases ef
theorem z29 (i:Nat) {tg:Expr} {x:Str} (hN:X.N[i]?=some x:=by rfl) (hv:Vis X.env.scope x:=by first | exact Or.inl rfl | exact Or.inr (Or.inl rfl) | exact Or.inr (Or.inr rfl)) (hd:(x == ("__debug__" : Str))=false:=by decide)
  (hcd:(x == ("__classdict__" : Str))=false:=by decide) : DIe c X tg (.Name x pos) (znz i):=fun pins s σ H R I q_=>by
 obtain ⟨Hf0,H0,Hf,ρ,ds,st,ef,k⟩:=q_
 unfold znz at ef
 split at ef
 ·rename_i l xs es
  cases ef
  obtain ⟨l',e1,_,_,_,vs,q,r⟩:=st.ownAt (s:=.pin l ds) rfl es
  exact zs6 (zgo hN hv hd hcd) pins s σ H R I ⟨_,e1,l',rfl,⟨vs,SqL.of q⟩,k _ Hf H (Ext.refl st.sub) (z00 (SqL.of q) r)⟩
 ·cases ef
noncomputable def zkb (i:Nat) (f:List Sl -> Option D) (ρ:List Sl) : Option Fl:=(f ρ).bind fun d=>match ρ[i]? with
 | some (.pin l xs)=>if xs.length < 16777216 then some (.nx (ρ.set i (.pin l (xs ++ [d])))) else none
 | _=>none
theorem zt9 {st:Stmt} {i:Nat} {f:List Sl -> Option D} (h:PS X st (zlj (tBM X.K "list" zox (zd9 i) (zmq (tD (Gx c X) f) zlw)))) : DS c X st (zkb i f):=PS.imp h fun E σ H q_=>by
 obtain ⟨Hf0,H0,Hf,ρ,o,so,ef,k⟩:=q_
 unfold zkb at ef
 cases e1 : f ρ with
 | none=>rw [e1] at ef; cases ef
 | some d =>
  rw [e1,Option.bind_some] at ef
  split at ef
  ·rename_i l xs es
   split at ef
   ·rename_i hl
    cases ef
    obtain ⟨l',e2,h0,hf,eq,vs,q,r⟩:=so.ownAt (s:=.pin l xs) rfl es
    subst eq
    refine ⟨_,e2,.inl ⟨rfl,_,SqL.of q⟩,Hf0,H0,Hf,ρ,d,so,e1,fun v Hf' H' x r'=>?_⟩
    have so':=so.step x
    have q':=x.h _ _ q
    refine ⟨l',vs,v,rfl,rfl,q',by rw [sizeLine_eq,<- r.length]; exact hl,k σ Hf' _ x.f (so'.mutd (s:=.pin l' xs) (s':=.pin l' (xs ++ [d])) rfl rfl es e2 ⟨rfl,vs ++ [v],zcd,(r.up x.f).append (.cons r' .nil)⟩)⟩
   ·cases ef
  ·cases ef
end
theorem zqh {i:Nat} {m:Addr -> List D -> List D -> List D -> Option (List D × D)} {f:List Sl -> Option (List D × List D)} {ρ:List Sl} {l:Addr} {xs ds0 ds1 ys:List D} {d:D} (h:ρ[i]?=some (.pin l xs)) (hf:f ρ=some (ds0,ds1)) (hm:m l ds0 ds1 xs=some (ys,d)) : zit i m f ρ=some (d,ρ.set i (.pin l ys)):=by
 unfold zit
 rw [h]
 show (f ρ).bind _=_
 rw [hf,Option.bind_some,hm]
 rfl
theorem z11 {i:Nat} {m:Addr -> List D -> List D -> List D -> Option (List D × D)} {f:List Sl -> Option (List D × List D)} {ρ:List Sl} {xs ds0 ds1 ys:List D} {d:D} (h:ρ[i]?=some (.own xs)) (hf:f ρ=some (ds0,ds1)) (hm:∀ l,m l ds0 ds1 xs=some (ys,d)) : zmm i m f ρ=some (d,ρ.set i (.own ys)):=by
 unfold zmm
 rw [h]
 show (f ρ).bind _=_
 rw [hf,Option.bind_some,dif_pos ⟨(ys,d),hm⟩]
 have e : (⟨(ys,d),hm⟩ : ∃ q,∀ l,m l ds0 ds1 xs=some q).choose=(ys,d):=by
  have:=(⟨(ys,d),hm⟩ : ∃ q,∀ l,m l ds0 ds1 xs=some q).choose_spec 0
  rw [hm 0] at this
  exact (Option.some.inj this).symm
 rw [e]
theorem zei {f:List Sl -> Option D} {g:List Sl -> Option (List D × List D)} {ρ:List Sl} {d:D} {a b:List D} (h:f ρ=some d) (h':g ρ=some (a,b)) : zdl f g ρ=some (d :: a,b):=by
 unfold zdl
 rw [h,h']
 rfl
theorem zm8 {g:List Sl -> Option (List D)} {ρ:List Sl} {ds:List D} (h:g ρ=some ds) : zgb g ρ=some ([],ds):=by
 unfold zgb
 rw [h]
 rfl
theorem zou {f:List Sl -> Option (D × List Sl)} {ρ ρ':List Sl} {d:D} {K:Fl -> Prop} (h:f ρ=some (d,ρ')) (k:K (.nx ρ')) : wp (zhx f) ρ K:=⟨_,by unfold zhx; rw [h]; rfl,k⟩
theorem zz7 {i:Nat} {f:List Sl -> Option (D × List Sl)} {ρ ρ':List Sl} {d:D} {K:Fl -> Prop} (h:f ρ=some (d,ρ')) (k:K (.nx (ρ'.set i (.im (.lst [d]))))) : wp (zlx i f) ρ K:=⟨_,by unfold zlx; rw [h]; rfl,k⟩
theorem zoi {i:Nat} {f:List Sl -> Option D} {ρ:List Sl} {d:D} {l:Addr} {xs:List D} {K:Fl -> Prop} (h:f ρ=some d) (h':ρ[i]?=some (.pin l xs)) (hl:xs.length < 16777216) (k:K (.nx (ρ.set i (.pin l (xs ++ [d]))))) : wp (zkb i f) ρ K:=⟨_,by
 unfold zkb
 rw [h,Option.bind_some,h']
 exact if_pos hl,k⟩
theorem zm2 {f:List Sl -> Option D} {ρ:List Sl} {d:D} {K:Fl -> Prop} (h:f ρ=some d) (k:K (.rtS d ρ)) : wp (zk2 f) ρ K:=⟨_,by unfold zk2; rw [h]; rfl,k⟩
theorem zud {l:Addr} {i:Nat} {ρ:List Sl} {ys:List D} (h:ρ[i]?=some (.pin l ys)) : zfk l i ρ=some ys:=by
 unfold zfk
 rw [h]
 exact if_pos rfl
theorem z0k {N:Nat} {F:List Sl -> Option Fl} {l:Addr} {ds0 ds1 xs ys:List D} {ρ:List Sl} (h:F (zid N l ds0 ds1 xs)=some (.nx ρ)) (h':ρ[ds0.length]?=some (.pin l ys)) : zhv N F l ds0 ds1 xs=some (ys,.non):=by
 unfold zhv
 rw [h,Option.bind_some]
 show (zfk l ds0.length ρ).map _=_
 rw [zud h']
 rfl
theorem zx8 {N:Nat} {F:List Sl -> Option Fl} {l:Addr} {ds0 ds1 xs ys:List D} {d:D} {ρ:List Sl} (h:F (zid N l ds0 ds1 xs)=some (.rtS d ρ)) (h':ρ[ds0.length]?=some (.pin l ys)) : zhv N F l ds0 ds1 xs=some (ys,d):=by
 unfold zhv
 rw [h,Option.bind_some]
 show (zfk l ds0.length ρ).map _=_
 rw [zud h']
 rfl
theorem zaq.erase {G:Gc} {H:Hp} : ∀ {ds:List D} {vs:List V} (k:Nat),zaq G H ds vs -> zaq G H (ds.eraseIdx k) (vs.eraseIdx k)
 | [],_,_,h=>by cases (show _=[] from h); exact .nil
 | d :: ds,_,0,⟨v,r,e,_,h2⟩=>by subst e; exact h2
 | d :: ds,_,k + 1,⟨v,r,e,h1,h2⟩=>by subst e; exact ⟨v,r.eraseIdx k,rfl,h1,zaq.erase k h2⟩
noncomputable def zl5 (i:Nat) (f:List Sl -> Option D) (ρ:List Sl) : Option Fl:=(f ρ).bind fun d=>match d,ρ[i]? with
 | .int k,some (.own xs)=>if 0 <= k /\ k < (xs.length : Int) /\ k < 1000000 then some (.nx (ρ.set i (.own (xs.eraseIdx k.toNat)))) else none
 | _,_=>none
section
variable {c:Str -> Addr} {X:Cx} {st:Stmt}
theorem z4e {i:Nat} {f:List Sl -> Option D} (h:PS X st (zlj (tBM X.K "list" zsh (zd9 i) (zmq (tD (Gx c X) f) zlw)))) : DS c X st (zl5 i f):=PS.imp h fun E σ H q_=>by
 obtain ⟨Hf0,H0,Hf,ρ,o,so,ef,k⟩:=q_
 unfold zl5 at ef
 cases e1 : f ρ with
 | none=>rw [e1] at ef; cases ef
 | some d =>
  rw [e1,Option.bind_some] at ef
  split at ef
  ·rename_i j xs es
   split at ef
   ·rename_i hl
    cases ef
    obtain ⟨l,e2,h0,hf,vs,q,r⟩:=so.ownAt (s:=.own xs) rfl es
    refine ⟨_,e2,.inl ⟨rfl,_,SqL.of q⟩,Hf0,H0,Hf,ρ,.int j,so,e1,fun v Hf' H' x r'=>?_⟩
    have so':=so.step x
    have q':=x.h _ _ q
    have hv : v=.int j:=r'
    subst hv
    have hj : j.toNat < vs.length:=by rw [<- r.length]; omega
    have hs : seqIndex? j vs.length=some j.toNat:=PySem.StrLaws.seqIndex_nonneg hl.1 (by rw [<- r.length]; exact hl.2.1)
    exact ⟨l,vs,j,j.toNat,vs[j.toNat],rfl,rfl,q',by omega,by omega,hs,List.getElem?_eq_getElem hj,k σ Hf' _ x.f (so'.mutd (s:=.own xs) (s':=.own (xs.eraseIdx j.toNat)) rfl rfl es e2 ⟨vs.eraseIdx j.toNat,zcd,(r.up x.f).erase _⟩)⟩
   ·cases ef
  ·cases ef
end
theorem z1e {i:Nat} {f:List Sl -> Option D} {ρ:List Sl} {k:Int} {xs:List D} {K:Fl -> Prop} (h:f ρ=some (.int k)) (h':ρ[i]?=some (.own xs)) (h0:0 <= k) (h1:k < (xs.length : Int)) (h2:k < 1000000) (q:K (.nx (ρ.set i (.own (xs.eraseIdx k.toNat))))) : wp (zl5 i f) ρ K:=⟨_,by
 unfold zl5
 rw [h,Option.bind_some,h']
 exact if_pos ⟨h0,h1,h2⟩,q⟩
end L2
namespace N_k43
open PySem PySem.Spec PyProof.Rows L2
local macro_rules | `(tactic| walk_at "sc")=>`(tactic| exact ⟨rfl,rfl,rfl,by decide +kernel,rfl,by decide +kernel,by decide +kernel⟩)
noncomputable def top (i:Nat) : Stmt:=PySem.Challenge.pw_standstill_k43_whole_papers_bar_the_rest.main.body.getD i (.Pass ⟨0,0,0,0⟩)
noncomputable abbrev s_6 : Stmt:=top 2
noncomputable abbrev zkz : Stmt:=top 9
noncomputable abbrev zks : Stmt:=top 10
noncomputable abbrev zjz : Stmt:=top 11
noncomputable abbrev zkn : Stmt:=top 12
noncomputable abbrev zka : Stmt:=top 16
noncomputable abbrev zi6 : Stmt:=top 17
noncomputable abbrev zjy : Stmt:=top 18
noncomputable abbrev zkq : Stmt:=top 19
noncomputable abbrev zi9 : Stmt:=top 21
noncomputable abbrev zi1 : Stmt:=top 22
noncomputable abbrev zjj : Stmt:=top 23
noncomputable abbrev zix : Stmt:=top 24
noncomputable abbrev s_3 : Stmt:=top 25
noncomputable abbrev zk0 : Stmt:=top 26
noncomputable abbrev zkh : Stmt:=top 27
noncomputable abbrev zk5 : Stmt:=top 28
noncomputable abbrev zjo : Stmt:=top 30
noncomputable abbrev zj1 : Stmt:=top 31
noncomputable abbrev zj5 : Stmt:=top 32
noncomputable abbrev zi3 : Stmt:=top 33
noncomputable abbrev s_4 : Stmt:=top 35
noncomputable abbrev s_0 : Stmt:=top 36
noncomputable abbrev zk9 : Stmt:=top 37
noncomputable abbrev zj0 : Stmt:=top 38
noncomputable abbrev zi4 : Stmt:=top 39
noncomputable abbrev zjl : Stmt:=top 40
noncomputable abbrev s_7 : Stmt:=top 41
noncomputable abbrev zjt : Stmt:=top 42
noncomputable abbrev s_5 : Stmt:=top 43
noncomputable abbrev zjc : Stmt:=top 44
noncomputable abbrev ziy : Stmt:=top 45
noncomputable abbrev zjf : Stmt:=top 46
noncomputable abbrev zkw : Stmt:=top 47
noncomputable abbrev zkf : Stmt:=top 48
noncomputable abbrev zj2 : Stmt:=top 49
noncomputable abbrev zla : Stmt:=top 50
noncomputable abbrev s_8 : Stmt:=top 51
noncomputable abbrev s_2 : Stmt:=top 52
noncomputable abbrev zju : Stmt:=top 53
noncomputable abbrev s_9 : Stmt:=top 54
noncomputable abbrev zjh : Stmt:=top 55
noncomputable abbrev zjp : Stmt:=top 56
noncomputable abbrev zkd : Stmt:=top 57
noncomputable abbrev zkx : Stmt:=top 58
noncomputable abbrev s_1 : Stmt:=top 59
noncomputable abbrev zjk : Stmt:=zfs (top 5) 0
noncomputable abbrev zi2 : Stmt:=zfs (top 5) 5
noncomputable abbrev zi0 : Stmt:=zfs (top 5) 8
noncomputable abbrev zkk : Stmt:=zfs (top 6) 0
noncomputable abbrev zke : Stmt:=zfs (top 6) 5
noncomputable abbrev zko : Stmt:=zfs (top 6) 8
noncomputable abbrev zk1 : Stmt:=zfs (top 7) 0
noncomputable abbrev zkm : Stmt:=zfs (top 7) 5
noncomputable abbrev zjn : Stmt:=zfs (top 7) 8
noncomputable abbrev zjx : Stmt:=zfs (top 8) 0
noncomputable abbrev zj6 : Stmt:=zfs (top 8) 5
noncomputable abbrev zk8 : Stmt:=zfs (top 8) 8
theorem zp4 : za9 ["many","some","listed","thing"] ["many","some"] (zam s_6):=by walk_at "sc"
theorem zv3 : za9 ["told","word"] ["told"] (zam zkz):=by walk_at "sc"
theorem zw8 : za9 ["items","entries"] ["items","entries"] (zam zks):=by walk_at "sc"
theorem zxo : za9 ["items","sheet"] ["items","sheet"] (zam zjz):=by walk_at "sc"
theorem z1r : za9 ["items","without"] ["items","without"] (zam zkn):=by walk_at "sc"
theorem z9m : za9 ["rule"] ["rule"] (zam zka):=by walk_at "sc"
theorem z6c : za9 ["rule","sheet"] ["rule","sheet"] (zam zi6):=by walk_at "sc"
theorem zzi : za9 ["rule","sheet","without"] ["rule","sheet","without"] (zam zjy):=by walk_at "sc"
theorem z40 : za9 ["rule","sheet"] ["rule","sheet"] (zam zkq):=by walk_at "sc"
theorem zsv : za9 ["sheet","thing","truth","other"] ["sheet","thing","truth"] (zam zi9):=by walk_at "sc"
theorem ztl : za9 ["rule","sheet","without","thing"] ["rule","sheet","without"] (zam zi1):=by walk_at "sc"
theorem z9a : za9 ["sheet","bar"] ["sheet","bar"] (zam zjj):=by walk_at "sc"
theorem zu8 : za9 ["plain","worlds","bars","sheet","why","number"] ["plain","worlds","bars","sheet","why"] (zam zix):=by walk_at "sc"
theorem zxb : za9 ["listed","number"] ["listed","number"] (zam s_3):=by walk_at "sc"
theorem zuz : za9 ["plain","sheet","things","without"] ["plain","sheet","things"] (zam zk0):=by walk_at "sc"
theorem z8y : za9 ["sheet","things"] ["sheet","things"] (zam zkh):=by walk_at "sc"
theorem zsm : za9 ["plain","worlds","bars","sheet","step","pair"] ["plain","worlds","bars","sheet","step"] (zam zk5):=by walk_at "sc"
theorem zpt : za9 ["plain","worlds","bars","line","bar","things"] ["plain","worlds","bars","line"] (zam zjo):=by walk_at "sc"
theorem zn0 : za9 ["many","bar","thing","sheet","truth"] ["many","bar"] (zam zj1):=by walk_at "sc"
theorem zmg : za9 ["plain","worlds","bars","sheet","steps","after","place","step","ends"] ["plain","worlds","bars","sheet","steps"] (zam zj5):=by walk_at "sc"
theorem zp8 : za9 ["plain","worlds","paper","bars","line"] ["plain","worlds","paper"] (zam zi3):=by walk_at "sc"
theorem z46 : za9 ["_law_script","_law_k"] ["_law_script","_law_k"] (zam s_4):=by walk_at "sc"
theorem zlf : za9 ["_law_cell","_law_many","_law_found","_law_number","_law_k"] ["_law_cell","_law_many"] (zam s_0):=by walk_at "sc"
theorem z38 : za9 ["_law_x"] ["_law_x"] (zam zk9):=by walk_at "sc"
theorem zni : za9 ["_law_xs","_law_many","_law_word","_law_items","_law_near"] ["_law_xs","_law_many"] (zam zj0):=by walk_at "sc"
theorem zo1 : za9 ["_law_cell","_law_many","_law_calm","_law_xs","_law_parts"] ["_law_cell","_law_many","_law_calm"] (zam zi4):=by walk_at "sc"
theorem zmo : za9 ["_law_kind","_law_many","_law_rules","_law_k","_law_on","_law_part_here"] ["_law_kind","_law_many"] (zam zjl):=by walk_at "sc"
theorem zhf : za9 ["_law_rules","_law_found","_law_word","_law_head","_law_parts","_law_mine","_law_part_here"] ["_law_rules"] (zam s_7):=by walk_at "sc"
theorem z3z : za9 ["_law_part_here","_law_sheet"] ["_law_part_here","_law_sheet"] (zam zjt):=by walk_at "sc"
theorem zz5 : za9 ["_law_rule_here","_law_sheet"] ["_law_rule_here","_law_sheet"] (zam s_5):=by walk_at "sc"
theorem zvu : za9 ["_law_part_here","_law_sheet","_law_without","_law_left"] ["_law_part_here","_law_sheet","_law_without"] (zam zjc):=by walk_at "sc"
theorem z01 : za9 ["_law_rule_here","_law_sheet","_law_without"] ["_law_rule_here","_law_sheet","_law_without"] (zam ziy):=by walk_at "sc"
theorem zje : za9 ["_law_rules","_law_sheet","_law_left","_law_going","_law_rule_here"] ["_law_rules","_law_sheet"] (zam zjf):=by walk_at "sc"
theorem zw2 : za9 ["_law_sheet","_law_bar"] ["_law_sheet","_law_bar"] (zam zkw):=by walk_at "sc"
theorem zn1 : za9 ["_law_rules","_law_sets","_law_bars","_law_sheet","_law_why","_law_word","_law_told","_law_without"] ["_law_rules","_law_sets","_law_bars","_law_sheet","_law_why"] (zam zkf):=by walk_at "sc"
theorem z6n : za9 ["_law_sheet","_law_thing","_law_entry"] ["_law_sheet","_law_thing","_law_entry"] (zam zj2):=by walk_at "sc"
theorem zmt : za9 ["_law_rules","_law_sets","_law_bars","_law_sheet","_law_found","_law_left","_law_mine"] ["_law_rules","_law_sets","_law_bars","_law_sheet"] (zam zla):=by walk_at "sc"
theorem zpd : za9 ["_law_cell","_law_rules","_law_sets","_law_lines","_law_sheet","_law_xs","_law_word"] ["_law_cell","_law_rules","_law_sets","_law_lines","_law_sheet"] (zam s_8):=by walk_at "sc"
theorem zg0 : za9 ["_law_rules","_law_sets","_law_sheet","_law_bar","_law_lines","_law_cell","_law_xs","_law_thing","_law_things","_law_whys_here","_law_truth","_law_one"] ["_law_rules","_law_sets","_law_sheet","_law_bar","_law_lines","_law_cell"] (zam s_2):=by walk_at "sc"
theorem z1z : za9 ["_law_part_here","_law_rising","_law_held"] ["_law_part_here","_law_rising","_law_held"] (zam zju):=by walk_at "sc"
theorem zk6 : za9 ["_law_rules","_law_held","_law_rising","_law_turn","_law_word","_law_head","_law_parts"] ["_law_rules","_law_held"] (zam s_9):=by walk_at "sc"
theorem zmf : za9 ["_law_many","_law_rules","_law_rows","_law_k","_law_held"] ["_law_many","_law_rules"] (zam zjh):=by walk_at "sc"
theorem zlp : za9 ["_law_steps","_law_found","_law_pair","_law_why"] ["_law_steps"] (zam zjp):=by walk_at "sc"
theorem zhq : za9 ["_law_line","_law_x","_law_bar","_law_steps","_law_at","_law_pair","_law_why"] ["_law_line","_law_x"] (zam zkd):=by walk_at "sc"
theorem zh8 : za9 ["_law_sets","_law_lines","_law_cell","_law_many","_law_xs","_law_way","_law_at","_law_thing","_law_mine"] ["_law_sets","_law_lines","_law_cell","_law_many"] (zam zkx):=by walk_at "sc"
theorem zfi : za9 ["_law_script","_law_hs","_law_many","_law_rules","_law_cell","_law_stood","_law_sets","_law_lines","_law_some","_law_mine","_law_copies","_law_found"] ["_law_script"] (zam s_1):=by walk_at "sc"
theorem z76 : za9 ["self","thing"] ["self","thing"] (zam zjk):=by walk_at "sc"
theorem zye : za9 ["self","sheet"] ["self","sheet"] (zam zi2):=by walk_at "sc"
theorem z0q : za9 ["self","sheet","without"] ["self","sheet","without"] (zam zi0):=by walk_at "sc"
theorem z1k : za9 ["self","thing"] ["self","thing"] (zam zkk):=by walk_at "sc"
theorem z9o : za9 ["self","sheet"] ["self","sheet"] (zam zke):=by walk_at "sc"
theorem z9i : za9 ["self","sheet","without"] ["self","sheet","without"] (zam zko):=by walk_at "sc"
theorem z9s : za9 ["self","bound","items"] ["self","bound","items"] (zam zk1):=by walk_at "sc"
theorem z9e : za9 ["self","sheet"] ["self","sheet"] (zam zkm):=by walk_at "sc"
theorem z0e : za9 ["self","sheet","without"] ["self","sheet","without"] (zam zjn):=by walk_at "sc"
theorem zz1 : za9 ["self","bound","items"] ["self","bound","items"] (zam zjx):=by walk_at "sc"
theorem z2k : za9 ["self","sheet"] ["self","sheet"] (zam zj6):=by walk_at "sc"
theorem z8c : za9 ["self","sheet","without"] ["self","sheet","without"] (zam zk8):=by walk_at "sc"
set_option genInjectivity false
set_option genSizeOf false
structure Wa where
 f_6 : Addr
 fd_6 : FuncData
 f_44 : Addr
 fd_44 : FuncData
 f_26 : Addr
 fd_26 : FuncData
 f_18 : Addr
 fd_18 : FuncData
 f_47 : Addr
 fd_47 : FuncData
 f_27 : Addr
 fd_27 : FuncData
 f_48 : Addr
 fd_48 : FuncData
 f_49 : Addr
 fd_49 : FuncData
 f_50 : Addr
 fd_50 : FuncData
 f_40 : Addr
 fd_40 : FuncData
 f_41 : Addr
 fd_41 : FuncData
 f_51 : Addr
 fd_51 : FuncData
 f_11 : Addr
 fd_11 : FuncData
 f_3 : Addr
 fd_3 : FuncData
 f_42 : Addr
 fd_42 : FuncData
 f_52 : Addr
 fd_52 : FuncData
 f_43 : Addr
 fd_43 : FuncData
 f_36 : Addr
 fd_36 : FuncData
 f_28 : Addr
 fd_28 : FuncData
 f_29 : Addr
 fd_29 : FuncData
 f_37 : Addr
 fd_37 : FuncData
 f_4 : Addr
 fd_4 : FuncData
 f_0 : Addr
 fd_0 : FuncData
 f_38 : Addr
 fd_38 : FuncData
 f_30 : Addr
 fd_30 : FuncData
 f_39 : Addr
 fd_39 : FuncData
 f_19 : Addr
 fd_19 : FuncData
 f_7 : Addr
 fd_7 : FuncData
 f_45 : Addr
 fd_45 : FuncData
 f_5 : Addr
 fd_5 : FuncData
 f_46 : Addr
 fd_46 : FuncData
 f_20 : Addr
 fd_20 : FuncData
 f_12 : Addr
 fd_12 : FuncData
 f_31 : Addr
 fd_31 : FuncData
 f_35 : Addr
 fd_35 : FuncData
 f_32 : Addr
 fd_32 : FuncData
 f_21 : Addr
 fd_21 : FuncData
 f_8 : Addr
 fd_8 : FuncData
 f_2 : Addr
 fd_2 : FuncData
 f_53 : Addr
 fd_53 : FuncData
 f_9 : Addr
 fd_9 : FuncData
 f_33 : Addr
 fd_33 : FuncData
 f_34 : Addr
 fd_34 : FuncData
 f_10 : Addr
 fd_10 : FuncData
 f_13 : Addr
 fd_13 : FuncData
 f_1 : Addr
 fd_1 : FuncData
 f_54 : Addr
 fd_54 : FuncData
 f_22 : Addr
 fd_22 : FuncData
 f_14 : Addr
 fd_14 : FuncData
 f_55 : Addr
 fd_55 : FuncData
 f_23 : Addr
 fd_23 : FuncData
 f_15 : Addr
 fd_15 : FuncData
 f_56 : Addr
 fd_56 : FuncData
 f_24 : Addr
 fd_24 : FuncData
 f_16 : Addr
 fd_16 : FuncData
 f_57 : Addr
 fd_57 : FuncData
 f_25 : Addr
 fd_25 : FuncData
 f_17 : Addr
 fd_17 : FuncData
 C_In : Addr
 C_Out : Addr
 C_Least : Addr
 C_Most : Addr
structure Wd (K:PySem.W.Frag) (mg:Str -> Option Value) (a:Wa) : Prop where
 F_6 : Fun K "marks" "marks" s_6 a.f_6 a.fd_6
 b_6 : za5 K a.fd_6 ["many","some"] []
 g_6 : mg "marks"=some (.ref a.f_6)
 F_44 : Fun K "part_of" "part_of" zkz a.f_44 a.fd_44
 b_44 : za5 K a.fd_44 ["told"] []
 g_44 : mg "part_of"=some (.ref a.f_44)
 F_26 : Fun K "worth_in" "worth_in" zks a.f_26 a.fd_26
 b_26 : za5 K a.fd_26 ["items","entries"] []
 g_26 : mg "worth_in"=some (.ref a.f_26)
 F_18 : Fun K "worth_not_out" "worth_not_out" zjz a.f_18 a.fd_18
 b_18 : za5 K a.fd_18 ["items","sheet"] []
 g_18 : mg "worth_not_out"=some (.ref a.f_18)
 F_47 : Fun K "outside" "outside" zkn a.f_47 a.fd_47
 b_47 : za5 K a.fd_47 ["items","without"] []
 g_47 : mg "outside"=some (.ref a.f_47)
 F_27 : Fun K "body_of" "body_of" zka a.f_27 a.fd_27
 b_27 : za5 K a.fd_27 ["rule"] []
 g_27 : mg "body_of"=some (.ref a.f_27)
 F_48 : Fun K "body_sure" "body_sure" zi6 a.f_48 a.fd_48
 b_48 : za5 K a.fd_48 ["rule","sheet"] []
 g_48 : mg "body_sure"=some (.ref a.f_48)
 F_49 : Fun K "body_lost" "body_lost" zjy a.f_49 a.fd_49
 b_49 : za5 K a.fd_49 ["rule","sheet","without"] []
 g_49 : mg "body_lost"=some (.ref a.f_49)
 F_50 : Fun K "surely_broken" "surely_broken" zkq a.f_50 a.fd_50
 b_50 : za5 K a.fd_50 ["rule","sheet"] []
 g_50 : mg "surely_broken"=some (.ref a.f_50)
 F_40 : Fun K "put_to" "put_to" zi9 a.f_40 a.fd_40
 b_40 : za5 K a.fd_40 ["sheet","thing","truth"] []
 g_40 : mg "put_to"=some (.ref a.f_40)
 F_41 : Fun K "rests_outside" "rests_outside" zi1 a.f_41 a.fd_41
 b_41 : za5 K a.fd_41 ["rule","sheet","without"] []
 g_41 : mg "rests_outside"=some (.ref a.f_41)
 F_51 : Fun K "fits" "fits" zjj a.f_51 a.fd_51
 b_51 : za5 K a.fd_51 ["sheet","bar"] []
 g_51 : mg "fits"=some (.ref a.f_51)
 F_11 : Fun K "right_why" "right_why" zix a.f_11 a.fd_11
 b_11 : za5 K a.fd_11 ["plain","worlds","bars","sheet","why"] []
 g_11 : mg "right_why"=some (.ref a.f_11)
 F_3 : Fun K "has_number" "has_number" s_3 a.f_3 a.fd_3
 b_3 : za5 K a.fd_3 ["listed","number"] []
 g_3 : mg "has_number"=some (.ref a.f_3)
 F_42 : Fun K "right_group" "right_group" zk0 a.f_42 a.fd_42
 b_42 : za5 K a.fd_42 ["plain","sheet","things"] []
 g_42 : mg "right_group"=some (.ref a.f_42)
 F_52 : Fun K "has_in" "has_in" zkh a.f_52 a.fd_52
 b_52 : za5 K a.fd_52 ["sheet","things"] []
 g_52 : mg "has_in"=some (.ref a.f_52)
 F_43 : Fun K "right_step" "right_step" zk5 a.f_43 a.fd_43
 b_43 : za5 K a.fd_43 ["plain","worlds","bars","sheet","step"] []
 g_43 : mg "right_step"=some (.ref a.f_43)
 F_36 : Fun K "right_line" "right_line" zjo a.f_36 a.fd_36
 b_36 : za5 K a.fd_36 ["plain","worlds","bars","line"] []
 g_36 : mg "right_line"=some (.ref a.f_36)
 F_28 : Fun K "begun" "begun" zj1 a.f_28 a.fd_28
 b_28 : za5 K a.fd_28 ["many","bar"] []
 g_28 : mg "begun"=some (.ref a.f_28)
 F_29 : Fun K "right_steps" "right_steps" zj5 a.f_29 a.fd_29
 b_29 : za5 K a.fd_29 ["plain","worlds","bars","sheet","steps"] []
 g_29 : mg "right_steps"=some (.ref a.f_29)
 F_37 : Fun K "right_paper" "right_paper" zi3 a.f_37 a.fd_37
 b_37 : za5 K a.fd_37 ["plain","worlds","paper"] []
 g_37 : mg "right_paper"=some (.ref a.f_37)
 F_4 : Fun K "_law_cell_at" "_law_cell_at" s_4 a.f_4 a.fd_4
 b_4 : za5 K a.fd_4 ["_law_script","_law_k"] []
 g_4 : mg "_law_cell_at"=some (.ref a.f_4)
 F_0 : Fun K "_law_mixed" "_law_mixed" s_0 a.f_0 a.fd_0
 b_0 : za5 K a.fd_0 ["_law_cell","_law_many"] []
 g_0 : mg "_law_mixed"=some (.ref a.f_0)
 F_38 : Fun K "_law_worth" "_law_worth" zk9 a.f_38 a.fd_38
 b_38 : za5 K a.fd_38 ["_law_x"] []
 g_38 : mg "_law_worth"=some (.ref a.f_38)
 F_30 : Fun K "_law_part" "_law_part" zj0 a.f_30 a.fd_30
 b_30 : za5 K a.fd_30 ["_law_xs","_law_many"] []
 g_30 : mg "_law_part"=some (.ref a.f_30)
 F_39 : Fun K "_law_rule" "_law_rule" zi4 a.f_39 a.fd_39
 b_39 : za5 K a.fd_39 ["_law_cell","_law_many","_law_calm"] []
 g_39 : mg "_law_rule"=some (.ref a.f_39)
 F_19 : Fun K "_law_ring" "_law_ring" zjl a.f_19 a.fd_19
 b_19 : za5 K a.fd_19 ["_law_kind","_law_many"] []
 g_19 : mg "_law_ring"=some (.ref a.f_19)
 F_7 : Fun K "_law_copy" "_law_copy" s_7 a.f_7 a.fd_7
 b_7 : za5 K a.fd_7 ["_law_rules"] []
 g_7 : mg "_law_copy"=some (.ref a.f_7)
 F_45 : Fun K "_law_part_sure" "_law_part_sure" zjt a.f_45 a.fd_45
 b_45 : za5 K a.fd_45 ["_law_part_here","_law_sheet"] []
 g_45 : mg "_law_part_sure"=some (.ref a.f_45)
 F_5 : Fun K "_law_broken" "_law_broken" s_5 a.f_5 a.fd_5
 b_5 : za5 K a.fd_5 ["_law_rule_here","_law_sheet"] []
 g_5 : mg "_law_broken"=some (.ref a.f_5)
 F_46 : Fun K "_law_part_lost" "_law_part_lost" zjc a.f_46 a.fd_46
 b_46 : za5 K a.fd_46 ["_law_part_here","_law_sheet","_law_without"] []
 g_46 : mg "_law_part_lost"=some (.ref a.f_46)
 F_20 : Fun K "_law_holds_up" "_law_holds_up" ziy a.f_20 a.fd_20
 b_20 : za5 K a.fd_20 ["_law_rule_here","_law_sheet","_law_without"] []
 g_20 : mg "_law_holds_up"=some (.ref a.f_20)
 F_12 : Fun K "_law_loose" "_law_loose" zjf a.f_12 a.fd_12
 b_12 : za5 K a.fd_12 ["_law_rules","_law_sheet"] []
 g_12 : mg "_law_loose"=some (.ref a.f_12)
 F_31 : Fun K "_law_fits" "_law_fits" zkw a.f_31 a.fd_31
 b_31 : za5 K a.fd_31 ["_law_sheet","_law_bar"] []
 g_31 : mg "_law_fits"=some (.ref a.f_31)
 F_35 : Fun K "_law_right" "_law_right" zkf a.f_35 a.fd_35
 b_35 : za5 K a.fd_35 ["_law_rules","_law_sets","_law_bars","_law_sheet","_law_why"] []
 g_35 : mg "_law_right"=some (.ref a.f_35)
 F_32 : Fun K "_law_with" "_law_with" zj2 a.f_32 a.fd_32
 b_32 : za5 K a.fd_32 ["_law_sheet","_law_thing","_law_entry"] []
 g_32 : mg "_law_with"=some (.ref a.f_32)
 F_21 : Fun K "_law_whys" "_law_whys" zla a.f_21 a.fd_21
 b_21 : za5 K a.fd_21 ["_law_rules","_law_sets","_law_bars","_law_sheet"] []
 g_21 : mg "_law_whys"=some (.ref a.f_21)
 F_8 : Fun K "_law_lie" "_law_lie" s_8 a.f_8 a.fd_8
 b_8 : za5 K a.fd_8 ["_law_cell","_law_rules","_law_sets","_law_lines","_law_sheet"] []
 g_8 : mg "_law_lie"=some (.ref a.f_8)
 F_2 : Fun K "_law_bar_out" "_law_bar_out" s_2 a.f_2 a.fd_2
 b_2 : za5 K a.fd_2 ["_law_rules","_law_sets","_law_sheet","_law_bar","_law_lines","_law_cell"] []
 g_2 : mg "_law_bar_out"=some (.ref a.f_2)
 F_53 : Fun K "_law_holds" "_law_holds" zju a.f_53 a.fd_53
 b_53 : za5 K a.fd_53 ["_law_part_here","_law_rising","_law_held"] []
 g_53 : mg "_law_holds"=some (.ref a.f_53)
 F_9 : Fun K "_law_stands" "_law_stands" s_9 a.f_9 a.fd_9
 b_9 : za5 K a.fd_9 ["_law_rules","_law_held"] []
 g_9 : mg "_law_stands"=some (.ref a.f_9)
 F_33 : Fun K "_law_standing" "_law_standing" zjh a.f_33 a.fd_33
 b_33 : za5 K a.fd_33 ["_law_many","_law_rules"] []
 g_33 : mg "_law_standing"=some (.ref a.f_33)
 F_34 : Fun K "_law_again" "_law_again" zjp a.f_34 a.fd_34
 b_34 : za5 K a.fd_34 ["_law_steps"] []
 g_34 : mg "_law_again"=some (.ref a.f_34)
 F_10 : Fun K "_law_other_line" "_law_other_line" zkd a.f_10 a.fd_10
 b_10 : za5 K a.fd_10 ["_law_line","_law_x"] []
 g_10 : mg "_law_other_line"=some (.ref a.f_10)
 F_13 : Fun K "_law_spoiled" "_law_spoiled" zkx a.f_13 a.fd_13
 b_13 : za5 K a.fd_13 ["_law_sets","_law_lines","_law_cell","_law_many"] []
 g_13 : mg "_law_spoiled"=some (.ref a.f_13)
 F_1 : Fun K "law" "law" s_1 a.f_1 a.fd_1
 b_1 : za5 K a.fd_1 ["_law_script"] []
 g_1 : mg "law"=some (.ref a.f_1)
 F_54 : Fun K "__init__" "In.__init__" zjk a.f_54 a.fd_54
 b_54 : za5 K a.fd_54 ["self","thing"] []
 F_22 : Fun K "sure" "In.sure" zi2 a.f_22 a.fd_22
 b_22 : za5 K a.fd_22 ["self","sheet"] []
 F_14 : Fun K "lost" "In.lost" zi0 a.f_14 a.fd_14
 b_14 : za5 K a.fd_14 ["self","sheet","without"] []
 F_55 : Fun K "__init__" "Out.__init__" zkk a.f_55 a.fd_55
 b_55 : za5 K a.fd_55 ["self","thing"] []
 F_23 : Fun K "sure" "Out.sure" zke a.f_23 a.fd_23
 b_23 : za5 K a.fd_23 ["self","sheet"] []
 F_15 : Fun K "lost" "Out.lost" zko a.f_15 a.fd_15
 b_15 : za5 K a.fd_15 ["self","sheet","without"] []
 F_56 : Fun K "__init__" "Least.__init__" zk1 a.f_56 a.fd_56
 b_56 : za5 K a.fd_56 ["self","bound","items"] []
 F_24 : Fun K "sure" "Least.sure" zkm a.f_24 a.fd_24
 b_24 : za5 K a.fd_24 ["self","sheet"] []
 F_16 : Fun K "lost" "Least.lost" zjn a.f_16 a.fd_16
 b_16 : za5 K a.fd_16 ["self","sheet","without"] []
 F_57 : Fun K "__init__" "Most.__init__" zjx a.f_57 a.fd_57
 b_57 : za5 K a.fd_57 ["self","bound","items"] []
 F_25 : Fun K "sure" "Most.sure" zj6 a.f_25 a.fd_25
 b_25 : za5 K a.fd_25 ["self","sheet"] []
 F_17 : Fun K "lost" "Most.lost" zk8 a.f_17 a.fd_17
 b_17 : za5 K a.fd_17 ["self","sheet","without"] []
 g_In : mg "In"=some (.ref a.C_In)
 cl_In : Cls K a.C_In
 mk_In : Mk K a.C_In a.f_54
 na_In_thing : zdn K a.C_In "thing"
 m_22 : zdu K a.C_In "sure" a.f_22
 m_14 : zdu K a.C_In "lost" a.f_14
 g_Out : mg "Out"=some (.ref a.C_Out)
 cl_Out : Cls K a.C_Out
 mk_Out : Mk K a.C_Out a.f_55
 na_Out_thing : zdn K a.C_Out "thing"
 m_23 : zdu K a.C_Out "sure" a.f_23
 m_15 : zdu K a.C_Out "lost" a.f_15
 g_Least : mg "Least"=some (.ref a.C_Least)
 cl_Least : Cls K a.C_Least
 mk_Least : Mk K a.C_Least a.f_56
 na_Least_bound : zdn K a.C_Least "bound"
 na_Least_pieces : zdn K a.C_Least "pieces"
 m_24 : zdu K a.C_Least "sure" a.f_24
 m_16 : zdu K a.C_Least "lost" a.f_16
 g_Most : mg "Most"=some (.ref a.C_Most)
 cl_Most : Cls K a.C_Most
 mk_Most : Mk K a.C_Most a.f_57
 na_Most_bound : zdn K a.C_Most "bound"
 na_Most_pieces : zdn K a.C_Most "pieces"
 m_25 : zdu K a.C_Most "sure" a.f_25
 m_17 : zdu K a.C_Most "lost" a.f_17
 kt_NoneType_bool : PySem.W.kitOne K (.type "NoneType") (.type "bool")=some false
 kt_bool_bool : PySem.W.kitOne K (.type "bool") (.type "bool")=some true
 kt_int_bool : PySem.W.kitOne K (.type "int") (.type "bool")=some false
 kt_str_bool : PySem.W.kitOne K (.type "str") (.type "bool")=some false
 kt_list_bool : PySem.W.kitOne K (.type "list") (.type "bool")=some false
 kt_tuple_bool : PySem.W.kitOne K (.type "tuple") (.type "bool")=some false
 kt_dict_bool : PySem.W.kitOne K (.type "dict") (.type "bool")=some false
 z_all : mg "all"=none
 z_any : mg "any"=none
 z_bool : mg "bool"=none
 z_enumerate : mg "enumerate"=none
 z_isinstance : mg "isinstance"=none
 z_len : mg "len"=none
 z_list : mg "list"=none
 z_range : mg "range"=none
 z_set : mg "set"=none
 z_sorted : mg "sorted"=none
 z_sum : mg "sum"=none
set_option genInjectivity true
set_option genSizeOf true
section
variable {P:Program} {w:World} {K:PySem.W.Frag} {mg:Str -> Option Value} {base:Heap}
noncomputable def cl (a:Wa) : Str -> Addr:=fun s=>if s="In" then a.C_In else if s="Out" then a.C_Out else if s="Least" then a.C_Least else if s="Most" then a.C_Most else 0
theorem zku {a:Wa} : cl a "In"=a.C_In:=by unfold cl; rw [if_pos rfl]
theorem zlc {a:Wa} (W:Wd K mg a) : Cls K (cl a "In"):=by rw [zku]; exact W.cl_In
theorem zyw {a:Wa} (W:Wd K mg a) : Mk K (cl a "In") a.f_54:=by rw [zku]; exact W.mk_In
theorem z9d {a:Wa} (W:Wd K mg a) : mg "In"=some (.ref (cl a "In")):=by rw [zku]; exact W.g_In
theorem zmx {a:Wa} (W:Wd K mg a) : zdn K (cl a "In") "thing":=by rw [zku]; exact W.na_In_thing
theorem z08 {a:Wa} (W:Wd K mg a) : zdu K (cl a "In") "sure" a.f_22:=by rw [zku]; exact W.m_22
theorem z50 {a:Wa} (W:Wd K mg a) : zdu K (cl a "In") "lost" a.f_14:=by rw [zku]; exact W.m_14
theorem zj7 {a:Wa} : cl a "Out"=a.C_Out:=by unfold cl; rw [if_neg (by decide +kernel)]; rw [if_pos rfl]
theorem zmk {a:Wa} (W:Wd K mg a) : Cls K (cl a "Out"):=by rw [zj7]; exact W.cl_Out
theorem z1j {a:Wa} (W:Wd K mg a) : Mk K (cl a "Out") a.f_55:=by rw [zj7]; exact W.mk_Out
theorem z53 {a:Wa} (W:Wd K mg a) : mg "Out"=some (.ref (cl a "Out")):=by rw [zj7]; exact W.g_Out
theorem zra {a:Wa} (W:Wd K mg a) : zdn K (cl a "Out") "thing":=by rw [zj7]; exact W.na_Out_thing
theorem z5k {a:Wa} (W:Wd K mg a) : zdu K (cl a "Out") "sure" a.f_23:=by rw [zj7]; exact W.m_23
theorem z1g {a:Wa} (W:Wd K mg a) : zdu K (cl a "Out") "lost" a.f_15:=by rw [zj7]; exact W.m_15
theorem zis {a:Wa} : cl a "Least"=a.C_Least:=by unfold cl; rw [if_neg (by decide +kernel)]; rw [if_neg (by decide +kernel)]; rw [if_pos rfl]
theorem zht {a:Wa} (W:Wd K mg a) : Cls K (cl a "Least"):=by rw [zis]; exact W.cl_Least
theorem z1x {a:Wa} (W:Wd K mg a) : Mk K (cl a "Least") a.f_56:=by rw [zis]; exact W.mk_Least
theorem z6g {a:Wa} (W:Wd K mg a) : mg "Least"=some (.ref (cl a "Least")):=by rw [zis]; exact W.g_Least
theorem zqv {a:Wa} (W:Wd K mg a) : zdn K (cl a "Least") "bound":=by rw [zis]; exact W.na_Least_bound
theorem zqb {a:Wa} (W:Wd K mg a) : zdn K (cl a "Least") "pieces":=by rw [zis]; exact W.na_Least_pieces
theorem z47 {a:Wa} (W:Wd K mg a) : zdu K (cl a "Least") "sure" a.f_24:=by rw [zis]; exact W.m_24
theorem z4n {a:Wa} (W:Wd K mg a) : zdu K (cl a "Least") "lost" a.f_16:=by rw [zis]; exact W.m_16
theorem zhy {a:Wa} : cl a "Most"=a.C_Most:=by unfold cl; rw [if_neg (by decide +kernel)]; rw [if_neg (by decide +kernel)]; rw [if_neg (by decide +kernel)]; rw [if_pos rfl]
theorem zhh {a:Wa} (W:Wd K mg a) : Cls K (cl a "Most"):=by rw [zhy]; exact W.cl_Most
theorem zx7 {a:Wa} (W:Wd K mg a) : Mk K (cl a "Most") a.f_57:=by rw [zhy]; exact W.mk_Most
theorem z7r {a:Wa} (W:Wd K mg a) : mg "Most"=some (.ref (cl a "Most")):=by rw [zhy]; exact W.g_Most
theorem zql {a:Wa} (W:Wd K mg a) : zdn K (cl a "Most") "bound":=by rw [zhy]; exact W.na_Most_bound
theorem zqo {a:Wa} (W:Wd K mg a) : zdn K (cl a "Most") "pieces":=by rw [zhy]; exact W.na_Most_pieces
theorem zyz {a:Wa} (W:Wd K mg a) : zdu K (cl a "Most") "sure" a.f_25:=by rw [zhy]; exact W.m_25
theorem z0o {a:Wa} (W:Wd K mg a) : zdu K (cl a "Most") "lost" a.f_17:=by rw [zhy]; exact W.m_17
theorem z8u {a:Wa} (W:Wd K mg a) : ztw K "bool":=fun t ht=>by
 simp only [List.mem_cons,List.not_mem_nil,or_false] at ht
 rcases ht with rfl | rfl | rfl | rfl | rfl | rfl | rfl
 ·exact W.kt_NoneType_bool
 ·exact W.kt_bool_bool
 ·exact W.kt_int_bool
 ·exact W.kt_str_bool
 ·exact W.kt_list_bool
 ·exact W.kt_tuple_bool
 ·exact W.kt_dict_bool
end
noncomputable def b_34 : List Sl -> Option Fl :=
 (zai (zdd 1 (fun _=>some []))
  (zai (zdf (zbh (zaa 0)) (zch (zba (zar 2) (zba (zar 3) zcj))) (zai (za7 (mB (m2 dEq (mIx (zaf 3) (fun _=>some (.int 0))) (fun _=>some (.str "group")))) (zbc 3 (zbg (zab (mIx (zaf 3) (fun _=>some (.int 0))) (zab (zak (zbh (mIx (zaf 3) (fun _=>some (.int 1))))) (fun _=>some []))))) zbf)
  (ze0 1 (zbg (zab (zaa 2) (zab (zaa 3) (fun _=>some [])))))))
  (ze5 1)))
noncomputable def zrb (as:List D) : Option D:=zbi 4 b_34 as
noncomputable def b_0 : List Sl -> Option Fl :=
 (zai (zdd 2 (fun _=>some []))
  (zai (zbc 3 (m2 zcf (m2 zc7 (m2 zbr (zaa 0) (fun _=>some (.int 2305843009213693951))) (fun _=>some (.int 1315423911))) (fun _=>some (.int 48271))))
  (zai (zdf (zds (zab (zaa 1) (fun _=>some []))) (zar 4) (zai (zbc 3 (m2 zbr (m2 zcf (m2 zcf (m2 zc7 (zaa 3) (m2 zcf (zaa 3) (fun _=>some (.int 69621)))) (m2 zc7 (fun _=>some (.int 7)) (zaa 4))) (fun _=>some (.int 1))) (fun _=>some (.int 2305843009213693951))))
  (ze0 2 (zaa 3))))
  (ze5 2))))
noncomputable def m_0 (as:List D) : Option D:=zbi 5 b_0 as
noncomputable def b_8 : List Sl -> Option Fl :=
 (zai (zbc 5 (zap m_0 (zab (zaa 0) (zab (fun _=>some (.int 3)) (fun _=>some [])))))
  (zai (zbc 6 (mIx (zab (fun _=>some (.str "rule")) (zab (fun _=>some (.str "group")) (zab (fun _=>some (.str "bar")) (zab (fun _=>some (.str "world")) (fun _=>some []))))) (m2 zbr (mIx (zaf 5) (fun _=>some (.int 0))) (fun _=>some (.int 4)))))
  (zai (za7 (mB (m2 dEq (zaa 6) (fun _=>some (.str "group")))) (zk2 (zbg (zab (zaa 6) (zab (zak (za6 2 [5] (zf2 (zab (zaa 4) (fun _=>some []))) (zch (zba (zar 0) (zba (zar 1) zcj))) (mOr (mB (m2 dIs (zaa 1) (fun _=>some (.bl true)))) (mB (m2 dEq (m2 zbr (m2 zf3 (mIx (zaf 2) (fun _=>some (.int 1))) (m2 zcf (zaa 0) (fun _=>some (.int 1)))) (fun _=>some (.int 2))) (fun _=>some (.int 0))))) (zaa 0))) (fun _=>some []))))) zbf)
  (zk2 (zbg (zab (zaa 6) (zab (m2 zbr (mIx (zaf 5) (fun _=>some (.int 2))) (m2 zcf (fun _=>some (.int 1)) (zio "rule" "bar" "world" (zap zcb (zab (zaa 1) (fun _=>some []))) (zap zcb (zab (zgk 3) (fun _=>some []))) (zap zcb (zab (zaa 2) (fun _=>some []))) (zaa 6)))) (fun _=>some []))))))))
noncomputable def m_8 : Addr -> List D -> List D -> List D -> Option (List D × D):=zhv 7 b_8
noncomputable def b_45 : List Sl -> Option Fl :=
 (zai (za7 (mB (m2 dEq (mIx (zaf 0) (fun _=>some (.int 0))) (fun _=>some (.str "in")))) (zav (m2 dIs (mIx (zaf 1) (mIx (zaf 0) (fun _=>some (.int 1)))) (fun _=>some (.bl true)))) zbf)
  (zai (za7 (mB (m2 dEq (mIx (zaf 0) (fun _=>some (.int 0))) (fun _=>some (.str "out")))) (zav (m2 dIs (mIx (zaf 1) (mIx (zaf 0) (fun _=>some (.int 1)))) (fun _=>some (.bl false)))) zbf)
  (zai (za7 (mB (m2 dEq (mIx (zaf 0) (fun _=>some (.int 0))) (fun _=>some (.str "least")))) (zav (m2 dGe (zap zd4 (zab (zak (za6 2 [1] (zbh (mIx (zaf 0) (fun _=>some (.int 2)))) (zch (zba (zar 0) (zba (zar 1) zcj))) (mB (m2 dIs (mIx (zaf 2) (zaa 0)) (fun _=>some (.bl true)))) (zaa 1))) (fun _=>some []))) (mIx (zaf 0) (fun _=>some (.int 1))))) zbf)
  (zav (m2 dLe (zap zd4 (zab (zak (za6 2 [1] (zbh (mIx (zaf 0) (fun _=>some (.int 2)))) (zch (zba (zar 0) (zba (zar 1) zcj))) (mB (m2 zd7 (mIx (zaf 2) (zaa 0)) (fun _=>some (.bl false)))) (zaa 1))) (fun _=>some []))) (mIx (zaf 0) (fun _=>some (.int 1))))))))
noncomputable def zm6 (as:List D) : Option D:=zbi 2 b_45 as
noncomputable def b_5 : List Sl -> Option Fl :=
 (zai (za7 (mOr (mB (m2 dEq (mIx (zaf 0) (fun _=>some (.int 0))) (fun _=>some (.str "may")))) (zdc (mB (m2 dEq (mIx (zaf 0) (fun _=>some (.int 0))) (fun _=>some (.str "make")))) (mB (m2 zd7 (mIx (zaf 1) (mIx (zaf 0) (fun _=>some (.int 1)))) (fun _=>some (.bl false)))))) (zav (fun _=>some (.bl false))) zbf)
  (zav (zap zfz (zab (zak (za6 1 [1] (zbh (mIx (zaf 0) (fun _=>some (.int 2)))) (zar 0) (fun _=>some true) (zap zm6 (zab (zaa 0) (zab (zaa 1) (fun _=>some [])))))) (fun _=>some [])))))
noncomputable def m_5 (as:List D) : Option D:=zbi 2 b_5 as
noncomputable def b_31 : List Sl -> Option Fl :=
 (zav (zap zfz (zab (zak (za6 2 [0] (zbh (zaa 1)) (zch (zba (zar 0) (zba (zar 1) zcj))) (fun _=>some true) (m2 dEq (mIx (zaf 2) (zaa 0)) (zaa 1)))) (fun _=>some []))))
noncomputable def zoc (as:List D) : Option D:=zbi 2 b_31 as
noncomputable def b_46 : List Sl -> Option Fl :=
 (zai (za7 (mB (m2 dEq (mIx (zaf 0) (fun _=>some (.int 0))) (fun _=>some (.str "in")))) (zav (vOr (m2 dIs (mIx (zaf 1) (mIx (zaf 0) (fun _=>some (.int 1)))) (fun _=>some (.bl false))) (mIx (zaf 2) (mIx (zaf 0) (fun _=>some (.int 1)))))) zbf)
  (zai (za7 (mB (m2 dEq (mIx (zaf 0) (fun _=>some (.int 0))) (fun _=>some (.str "out")))) (zav (m2 dIs (mIx (zaf 1) (mIx (zaf 0) (fun _=>some (.int 1)))) (fun _=>some (.bl true)))) zbf)
  (zai (za7 (mB (m2 dEq (mIx (zaf 0) (fun _=>some (.int 0))) (fun _=>some (.str "least")))) (zai (zbc 3 (zak (za6 2 [1,2] (zbh (mIx (zaf 0) (fun _=>some (.int 2)))) (zch (zba (zar 0) (zba (zar 1) zcj))) (zdc (mB (m2 zd7 (mIx (zaf 2) (zaa 0)) (fun _=>some (.bl false)))) (zeu (zci (mIx (zaf 3) (zaa 0))))) (zaa 1))))
  (zav (m2 dLt (zap zd4 (zab (zaa 3) (fun _=>some []))) (mIx (zaf 0) (fun _=>some (.int 1)))))) zbf)
  (zav (m2 dGt (zap zd4 (zab (zak (za6 2 [1] (zbh (mIx (zaf 0) (fun _=>some (.int 2)))) (zch (zba (zar 0) (zba (zar 1) zcj))) (mB (m2 dIs (mIx (zaf 2) (zaa 0)) (fun _=>some (.bl true)))) (zaa 1))) (fun _=>some []))) (mIx (zaf 0) (fun _=>some (.int 1))))))))
noncomputable def zq2 (as:List D) : Option D:=zbi 4 b_46 as
noncomputable def b_20 : List Sl -> Option Fl :=
 (zai (za7 (mOr (mB (m2 dEq (mIx (zaf 0) (fun _=>some (.int 0))) (fun _=>some (.str "never")))) (zeu (zci (mIx (zaf 2) (mIx (zaf 0) (fun _=>some (.int 1))))))) (zav (fun _=>some (.bl false))) zbf)
  (zav (zfn (zap zep (zab (zak (za6 1 [1,2] (zbh (mIx (zaf 0) (fun _=>some (.int 2)))) (zar 0) (fun _=>some true) (zap zq2 (zab (zaa 0) (zab (zaa 1) (zab (zaa 2) (fun _=>some []))))))) (fun _=>some []))))))
noncomputable def znj (as:List D) : Option D:=zbi 3 b_20 as
noncomputable def b_12 : List Sl -> Option Fl :=
 (zai (zdd 2 (za6 1 [] (zbh (zaa 1)) (zar 0) (fun _=>some true) (m2 zd7 (zaa 0) (fun _=>some (.bl false)))))
  (zai (zbc 3 (fun _=>some (.bl true)))
  (zai (zf8 (zci (zaa 3)) (zai (zbc 3 (fun _=>some (.bl false)))
  (zdf (zbh (zaa 0)) (zar 4) (za7 (zci (zh4 znj (zab (zaa 4) (zab (zaa 1) (zab (zgg 2) (fun _=>some [])))))) (zai (zfw 2 (mIx (zaf 4) (fun _=>some (.int 1))) (fun _=>some (.bl false)))
  (zbc 3 (fun _=>some (.bl true)))) zbf))) 1000000000)
  (ze5 2))))
noncomputable def zrq (as:List D) : Option D:=zbi 5 b_12 as
noncomputable def b_35 : List Sl -> Option Fl :=
 (zai (zhs (zch (zba (zar 5) (zba (zar 6) zcj))) (zaa 4))
  (zai (za7 (mB (m2 dEq (zaa 5) (fun _=>some (.str "rule")))) (zav (zec (m2 dLt (zaa 6) (zap zcb (zab (zaa 0) (fun _=>some [])))) (zap m_5 (zab (mIx (zaf 0) (zaa 6)) (zab (zaa 3) (fun _=>some [])))))) zbf)
  (zai (za7 (mB (m2 dEq (zaa 5) (fun _=>some (.str "bar")))) (zav (zec (m2 dLt (zaa 6) (zap zcb (zab (zaa 2) (fun _=>some [])))) (zap zoc (zab (zaa 3) (zab (mIx (zaf 2) (zaa 6)) (fun _=>some [])))))) zbf)
  (zai (za7 (zdc (mB (m2 dEq (zaa 5) (fun _=>some (.str "world")))) (mB (m2 dLt (zaa 6) (zap zcb (zab (zaa 1) (fun _=>some [])))))) (zav (m2 dEq (zaa 3) (zak (za6 1 [1,6] (zds (zab (zap zcb (zab (zaa 3) (fun _=>some []))) (fun _=>some []))) (zar 0) (fun _=>some true) (m2 dIn (zaa 0) (mIx (zaf 1) (zaa 2))))))) zbf)
  (zai (za7 (mB (m2 dEq (zaa 5) (fun _=>some (.str "world")))) (zav (fun _=>some (.bl false))) zbf)
  (zai (za7 (zeu (zci (zap zep (zab (zak (za6 1 [3] (zbh (zaa 6)) (zar 0) (fun _=>some true) (m2 dIs (mIx (zaf 1) (zaa 0)) (fun _=>some (.bl true))))) (fun _=>some []))))) (zav (fun _=>some (.bl false))) zbf)
  (zai (zbc 7 (zak (za6 1 [6] (zds (zab (zap zcb (zab (zaa 3) (fun _=>some []))) (fun _=>some []))) (zar 0) (fun _=>some true) (m2 dIn (zaa 0) (zaa 1)))))
  (zav (zfn (zap zep (zab (zak (za6 1 [3,7] (zbh (zaa 0)) (zar 0) (fun _=>some true) (zap znj (zab (zaa 0) (zab (zaa 1) (zab (zaa 2) (fun _=>some []))))))) (fun _=>some []))))))))))))
noncomputable def zpc (as:List D) : Option D:=zbi 8 b_35 as
noncomputable def b_21 : List Sl -> Option Fl :=
 (zai (zdd 4 (za6 2 [3] (zf2 (zab (zaa 0) (fun _=>some []))) (zch (zba (zar 0) (zba (zar 1) zcj))) (zci (zap m_5 (zab (zaa 1) (zab (zaa 2) (fun _=>some []))))) (zbg (zab (fun _=>some (.str "rule")) (zab (zaa 0) (fun _=>some []))))))
  (zai (zir 4 (zig (zak (za6 2 [3] (zf2 (zab (zaa 2) (fun _=>some []))) (zch (zba (zar 0) (zba (zar 1) zcj))) (zci (zap zoc (zab (zaa 2) (zab (zaa 1) (fun _=>some []))))) (zbg (zab (fun _=>some (.str "bar")) (zab (zaa 0) (fun _=>some []))))))))
  (zai (zir 4 (zig (zak (za6 1 [0,1,2,3] (zds (zab (zap zcb (zab (zaa 1) (fun _=>some []))) (fun _=>some []))) (zar 0) (zci (zap zpc (zab (zaa 1) (zab (zaa 2) (zab (zaa 3) (zab (zaa 4) (zab (zbg (zab (fun _=>some (.str "world")) (zab (zaa 0) (fun _=>some [])))) (fun _=>some [])))))))) (zbg (zab (fun _=>some (.str "world")) (zab (zaa 0) (fun _=>some []))))))))
  (zai (zbc 5 (zap zrq (zab (zaa 0) (zab (zaa 3) (fun _=>some [])))))
  (zai (zbc 6 (zak (za6 2 [] (zf2 (zab (zaa 5) (fun _=>some []))) (zch (zba (zar 0) (zba (zar 1) zcj))) (zci (zaa 1)) (zaa 0))))
  (zai (za7 (zci (zap zep (zab (zak (za6 1 [3] (zbh (zaa 6)) (zar 0) (fun _=>some true) (m2 dIs (mIx (zaf 1) (zaa 0)) (fun _=>some (.bl true))))) (fun _=>some [])))) (ze0 4 (zbg (zab (fun _=>some (.str "group")) (zab (zaa 6) (fun _=>some []))))) zbf)
  (ze5 4)))))))
noncomputable def zpb (as:List D) : Option D:=zbi 7 b_21 as
noncomputable def b_32 : List Sl -> Option Fl :=
 (zgu (zcz (zak (zcz (zak (mSl (zaa 0) (fun _=>some none) (mPt (zaa 1)))) (zak (zab (zaa 2) (fun _=>some []))))) (zak (mSl (zaa 0) (mPt (m2 zcf (zaa 1) (fun _=>some (.int 1)))) (fun _=>some none)))))
noncomputable def znw (as:List D) : Option D:=zbi 3 b_32 as
noncomputable def b_2 (rc:Addr -> List D -> List D -> List D -> Option (List D × D)) : List Sl -> Option Fl :=
 (zai (zbc 6 (zap m_0 (zab (zaa 5) (zab (fun _=>some (.int 4)) (fun _=>some [])))))
  (zai (zbc 8 (zak (za6 2 [] (zf2 (zab (zaa 2) (fun _=>some []))) (zch (zba (zar 0) (zba (zar 1) zcj))) (mB (m2 dIs (zaa 1) (fun _=>some .non))) (zaa 0))))
  (zai (zbc 9 (zap zpb (zab (zaa 0) (zab (zaa 1) (zab (zak (za6 1 [] (znz 4) (zar 0) (fun _=>some true) (mIx (zaf 0) (fun _=>some (.int 0))))) (zab (zaa 2) (fun _=>some [])))))))
  (za7 (mOr (mB (m2 dEq (zaa 8) (zak (fun _=>some [])))) (zdc (mB (m2 dNe (zaa 9) (zak (fun _=>some [])))) (mB (m2 dGt (m2 zbr (mIx (zaf 6) (fun _=>some (.int 0))) (fun _=>some (.int 4))) (fun _=>some (.int 0)))))) (zai (za7 (mB (m2 dEq (zaa 9) (zak (fun _=>some [])))) (zlx 9 (zit 4 m_8 (zdl (mIx (zaf 6) (fun _=>some (.int 1))) (zdl (zaa 0) (zdl (zaa 1) (zgb (zab (zaa 2) (fun _=>some [])))))))) zbf)
  (zkb 4 (zbg (zab (zaa 3) (zab (zak (zab (zbg (zab (fun _=>some .non) (zab (mIx (zaf 9) (m2 zbr (mIx (zaf 6) (fun _=>some (.int 2))) (zap zcb (zab (zaa 9) (fun _=>some []))))) (fun _=>some [])))) (fun _=>some []))) (fun _=>some [])))))) (zai (zbc 7 (mIx (zaf 8) (m2 zbr (mIx (zaf 6) (fun _=>some (.int 2))) (zap zcb (zab (zaa 8) (fun _=>some []))))))
  (zai (zbc 10 (m2 dEq (m2 zbr (mIx (zaf 6) (fun _=>some (.int 3))) (fun _=>some (.int 2))) (fun _=>some (.int 0))))
  (zai (zhx (zit 4 rc (zdl (zaa 0) (zdl (zaa 1) (zdl (zap znw (zab (zaa 2) (zab (zaa 7) (zab (zaa 10) (fun _=>some []))))) (zdl (zak (zcz (zaa 3) (zak (zab (zbg (zab (zaa 7) (zab (zaa 10) (fun _=>some [])))) (fun _=>some []))))) (zgb (zab (mIx (zaf 6) (fun _=>some (.int 0))) (fun _=>some [])))))))))
  (zai (zbc 11 (m2 zh2 (zap zcb (zab (zgk 4) (fun _=>some []))) (fun _=>some (.int 1))))
  (zai (zhx (zit 4 rc (zdl (zaa 0) (zdl (zaa 1) (zdl (zap znw (zab (zaa 2) (zab (zaa 7) (zab (zfn (zaa 10)) (fun _=>some []))))) (zdl (zak (zcz (zaa 3) (zak (zab (zbg (zab (zaa 7) (zab (zfn (zaa 10)) (fun _=>some [])))) (fun _=>some []))))) (zgb (zab (mIx (zaf 6) (fun _=>some (.int 1))) (fun _=>some [])))))))))
  (zkb 4 (zbg (zab (zaa 3) (zab (zak (zab (zbg (zab (zbg (zab (zaa 7) (zab (zfn (zaa 10)) (fun _=>some [])))) (zab (zbg (zab (fun _=>some (.str "bar")) (zab (zaa 11) (fun _=>some [])))) (fun _=>some [])))) (zab (zbg (zab (fun _=>some .non) (zab (zbg (zab (fun _=>some (.str "bar")) (zab (m2 zh2 (zap zcb (zab (zgk 4) (fun _=>some []))) (fun _=>some (.int 1))) (fun _=>some [])))) (fun _=>some [])))) (fun _=>some [])))) (fun _=>some []))))))))))))))
noncomputable def m_2 : Nat -> Addr -> List D -> List D -> List D -> Option (List D × D)
 | 0=>fun _ _ _ _=>none
 | j + 1=>zhv 12 (b_2 (m_2 j))
noncomputable def b_4 : List Sl -> Option Fl :=
 (zai (za7 (mB (m2 dLt (zaa 1) (zap zcb (zab (zaa 0) (fun _=>some []))))) (zav (mIx (zaf 0) (zaa 1))) zbf)
  (zav (fun _=>some (.int 0))))
noncomputable def m_4 (as:List D) : Option D:=zbi 2 b_4 as
noncomputable def b_7 : List Sl -> Option Fl :=
 (zai (zdd 1 (fun _=>some []))
  (zai (zdf (zbh (zaa 0)) (zch (zba (zar 2) (zba (zar 3) (zba (zar 4) zcj)))) (zai (zdd 5 (fun _=>some []))
  (zai (zdf (zbh (zaa 4)) (zar 6) (zai (za7 (mB (m2 dEq (zap zcb (zab (zaa 6) (fun _=>some []))) (fun _=>some (.int 3)))) (zbc 6 (zbg (zab (mIx (zaf 6) (fun _=>some (.int 0))) (zab (mIx (zaf 6) (fun _=>some (.int 1))) (zab (zak (zbh (mIx (zaf 6) (fun _=>some (.int 2))))) (fun _=>some [])))))) zbf)
  (ze0 5 (zaa 6))))
  (zex 5 (ze0 1 (zbg (zab (zaa 2) (zab (zaa 3) (zab (zaa 5) (fun _=>some []))))))))))
  (ze5 1)))
noncomputable def m_7 (as:List D) : Option D:=zbi 7 b_7 as
noncomputable def b_19 : List Sl -> Option Fl :=
 (zai (zdd 2 (fun _=>some []))
  (zai (zdf (zds (zab (zaa 1) (fun _=>some []))) (zar 3) (zai (zbc 4 (m2 zbr (m2 zcf (zaa 3) (fun _=>some (.int 1))) (zaa 1)))
  (zai (zbc 5 (mIx (zab (fun _=>some .non) (zab (zbg (zab (fun _=>some (.str "in")) (zab (zaa 3) (fun _=>some [])))) (zab (zbg (zab (fun _=>some (.str "out")) (zab (zaa 3) (fun _=>some [])))) (zab (zbg (zab (fun _=>some (.str "least")) (zab (fun _=>some (.int 2)) (zab (zak (zab (zbg (zab (zaa 3) (zab (fun _=>some (.int 2)) (fun _=>some [])))) (zab (zbg (zab (zaa 4) (zab (fun _=>some (.int 1)) (fun _=>some [])))) (fun _=>some [])))) (fun _=>some []))))) (zab (zbg (zab (fun _=>some (.str "most")) (zab (fun _=>some (.int 0)) (zab (zak (zab (zbg (zab (zaa 3) (zab (fun _=>some (.int 1)) (fun _=>some [])))) (fun _=>some []))) (fun _=>some []))))) (fun _=>some [])))))) (zaa 0)))
  (za7 (mB (m2 zd7 (zaa 5) (fun _=>some .non))) (ze0 2 (zbg (zab (mIx (zab (fun _=>some (.str "make")) (zab (fun _=>some (.str "may")) (fun _=>some []))) (m2 zf3 (m2 zbr (m2 zc7 (zaa 3) (zaa 0)) (fun _=>some (.int 5))) (fun _=>some (.int 4)))) (zab (zaa 4) (zab (zak (zab (zaa 5) (fun _=>some []))) (fun _=>some [])))))) zbf))))
  (ze5 2)))
noncomputable def zo9 (as:List D) : Option (List D):=zl3 6 b_19 as
noncomputable def b_38 : List Sl -> Option Fl :=
 (zai (za7 (mB (m2 dEq (m2 zbr (zaa 0) (fun _=>some (.int 8))) (fun _=>some (.int 5)))) (zav (m2 zbr (m2 zc7 (m2 zc7 (m2 zc7 (zaa 0) (zaa 0)) (zaa 0)) (zaa 0)) (m2 zpr (fun _=>some (.int 10)) (fun _=>some (.int 60))))) zbf)
  (zav (mIx (zab (fun _=>some (.int 1)) (zab (fun _=>some (.int 1)) (zab (fun _=>some (.int 2)) (zab (fun _=>some (.int 0)) (zab (fun _=>some (.int 3)) (zab (fun _=>some (.int 1)) (zab (fun _=>some (.int 1)) (zab (fun _=>some (.int 2)) (fun _=>some []))))))))) (m2 zbr (m2 zf3 (zaa 0) (fun _=>some (.int 8))) (fun _=>some (.int 8))))))
noncomputable def zme (as:List D) : Option D:=zbi 1 b_38 as
noncomputable def b_30 : List Sl -> Option Fl :=
 (zai (zbc 2 (mIx (zab (fun _=>some (.str "in")) (zab (fun _=>some (.str "out")) (zab (fun _=>some (.str "in")) (zab (fun _=>some (.str "least")) (zab (fun _=>some (.str "most")) (fun _=>some [])))))) (m2 zbr (mIx (zaf 0) (fun _=>some (.int 0))) (fun _=>some (.int 5)))))
  (zai (za7 (mOr (mB (m2 dEq (zaa 2) (fun _=>some (.str "in")))) (mB (m2 dEq (zaa 2) (fun _=>some (.str "out"))))) (zav (zbg (zab (zaa 2) (zab (m2 zbr (mIx (zaf 0) (fun _=>some (.int 1))) (zaa 1)) (fun _=>some []))))) zbf)
  (zai (zbc 3 (zak (za6 1 [1,0] (zds (zab (m2 zbr (mIx (zaf 0) (fun _=>some (.int 2))) (fun _=>some (.int 4))) (fun _=>some []))) (zar 0) (fun _=>some true) (zbg (zab (m2 zbr (mIx (zaf 2) (m2 zcf (fun _=>some (.int 4)) (m2 zc7 (fun _=>some (.int 2)) (zaa 0)))) (zaa 1)) (zab (zap zme (zab (mIx (zaf 2) (m2 zcf (fun _=>some (.int 5)) (m2 zc7 (fun _=>some (.int 2)) (zaa 0)))) (fun _=>some []))) (fun _=>some [])))))))
  (zai (zbc 4 (zap zd4 (zab (zak (za6 2 [] (zbh (zak (mSl (zaa 3) (fun _=>some none) (mPt (m2 zbr (mIx (zaf 0) (fun _=>some (.int 3))) (fun _=>some (.int 5))))))) (zch (zba (zar 0) (zba (zar 1) zcj))) (fun _=>some true) (zaa 1))) (fun _=>some []))))
  (zav (zbg (zab (zaa 2) (zab (m2 zh2 (m2 zcf (zaa 4) (m2 zbr (m2 zf3 (mIx (zaf 0) (fun _=>some (.int 3))) (fun _=>some (.int 5))) (fun _=>some (.int 3)))) (fun _=>some (.int 1))) (zab (zaa 3) (fun _=>some []))))))))))
noncomputable def zn2 (as:List D) : Option D:=zbi 5 b_30 as
noncomputable def b_39 : List Sl -> Option Fl :=
 (zai (zbc 3 (zap m_0 (zab (zaa 0) (zab (fun _=>some (.int 33)) (fun _=>some [])))))
  (zai (za7 (mB (m2 dEq (zaa 1) (fun _=>some (.int 0)))) (zav (zbg (zab (fun _=>some (.str "never")) (zab (fun _=>some .non) (zab (zak (mSl (zak (zab (zbg (zab (mIx (zab (fun _=>some (.str "least")) (zab (fun _=>some (.str "most")) (fun _=>some []))) (m2 zbr (mIx (zaf 3) (fun _=>some (.int 0))) (fun _=>some (.int 2)))) (zab (m2 zh2 (m2 zbr (mIx (zaf 3) (fun _=>some (.int 1))) (fun _=>some (.int 3))) (fun _=>some (.int 1))) (zab (zak (fun _=>some [])) (fun _=>some []))))) (fun _=>some []))) (fun _=>some none) (mPt (m2 zbr (mIx (zaf 3) (fun _=>some (.int 2))) (fun _=>some (.int 6)))))) (fun _=>some [])))))) zbf)
  (zai (zbc 4 (zak (za6 1 [1,3] (zds (zab (mIx (zab (fun _=>some (.int 1)) (zab (fun _=>some (.int 1)) (zab (fun _=>some (.int 2)) (zab (fun _=>some (.int 2)) (zab (fun _=>some (.int 3)) (zab (fun _=>some (.int 0)) (fun _=>some []))))))) (m2 zbr (mIx (zaf 3) (fun _=>some (.int 0))) (fun _=>some (.int 6)))) (fun _=>some []))) (zar 0) (fun _=>some true) (zap zn2 (zab (zak (mSl (zaa 2) (mPt (m2 zcf (fun _=>some (.int 3)) (m2 zc7 (fun _=>some (.int 10)) (zaa 0)))) (mPt (m2 zcf (fun _=>some (.int 13)) (m2 zc7 (fun _=>some (.int 10)) (zaa 0)))))) (zab (zaa 1) (fun _=>some [])))))))
  (zai (za7 (zdc (mB (m2 dEq (m2 zbr (mIx (zaf 3) (fun _=>some (.int 1))) (fun _=>some (.int 8))) (fun _=>some (.int 0)))) (zdc (zeu (zci (zaa 2))) (mOr (mB (m2 dNe (zaa 4) (zak (fun _=>some [])))) (mB (m2 dEq (m2 zbr (mIx (zaf 3) (fun _=>some (.int 2))) (fun _=>some (.int 4))) (fun _=>some (.int 0))))))) (zav (zbg (zab (fun _=>some (.str "never")) (zab (fun _=>some .non) (zab (zaa 4) (fun _=>some [])))))) zbf)
  (zav (zbg (zab (mIx (zab (fun _=>some (.str "make")) (zab (fun _=>some (.str "may")) (fun _=>some []))) (m2 zbr (m2 zf3 (mIx (zaf 3) (fun _=>some (.int 1))) (fun _=>some (.int 8))) (fun _=>some (.int 2)))) (zab (m2 zbr (m2 zf3 (mIx (zaf 3) (fun _=>some (.int 2))) (fun _=>some (.int 4))) (zaa 1)) (zab (zaa 4) (fun _=>some []))))))))))
noncomputable def zpz (as:List D) : Option D:=zbi 5 b_39 as
noncomputable def b_10 : List Sl -> Option Fl :=
 (zai (zhs (zch (zba (zar 2) (zba (zar 3) zcj))) (zaa 0))
  (zai (zbc 4 (m2 zbr (zaa 1) (zap zcb (zab (zaa 3) (fun _=>some [])))))
  (zai (zhs (zch (zba (zar 5) (zba (zar 6) zcj))) (mIx (zaf 3) (zaa 4)))
  (zai (za7 (mB (m2 dEq (mIx (zaf 6) (fun _=>some (.int 0))) (fun _=>some (.str "group")))) (zbc 6 (zbg (zab (fun _=>some (.str "group")) (zab (zak (mSl (mIx (zaf 6) (fun _=>some (.int 1))) (mPt (fun _=>some (.int 1))) (fun _=>some none))) (fun _=>some []))))) (zbc 6 (zbg (zab (mIx (zaf 6) (fun _=>some (.int 0))) (zab (m2 zcf (mIx (zaf 6) (fun _=>some (.int 1))) (fun _=>some (.int 1))) (fun _=>some []))))))
  (zav (zbg (zab (zaa 2) (zab (zak (zcz (zak (zcz (zak (mSl (zaa 3) (fun _=>some none) (mPt (zaa 4)))) (zak (zab (zbg (zab (zaa 5) (zab (zaa 6) (fun _=>some [])))) (fun _=>some []))))) (zak (mSl (zaa 3) (mPt (m2 zcf (zaa 4) (fun _=>some (.int 1)))) (fun _=>some none))))) (fun _=>some [])))))))))
noncomputable def zrw (as:List D) : Option D:=zbi 7 b_10 as
noncomputable def b_13 : List Sl -> Option Fl :=
 (zai (zbc 4 (zap m_0 (zab (zaa 2) (zab (fun _=>some (.int 4)) (fun _=>some [])))))
  (zai (zbc 5 (m2 zbr (mIx (zaf 4) (fun _=>some (.int 0))) (fun _=>some (.int 14))))
  (zai (zbc 6 (m2 zbr (mIx (zaf 4) (fun _=>some (.int 1))) (zap zcb (zab (zaa 1) (fun _=>some [])))))
  (zai (za7 (mB (m2 dEq (zaa 5) (fun _=>some (.int 4)))) (zav (zbg (zab (zaa 0) (zab (zak (mSl (zaa 1) (fun _=>some none) (mPt (m1 zia (fun _=>some (.int 1)))))) (fun _=>some []))))) zbf)
  (zai (za7 (mB (m2 dEq (zaa 5) (fun _=>some (.int 5)))) (zav (zbg (zab (zaa 0) (zab (zak (zcz (zak (mSl (zaa 1) (fun _=>some none) (mPt (zaa 6)))) (zak (mSl (zaa 1) (mPt (m2 zcf (zaa 6) (fun _=>some (.int 1)))) (fun _=>some none))))) (fun _=>some []))))) zbf)
  (zai (za7 (mB (m2 dEq (zaa 5) (fun _=>some (.int 6)))) (zav (zbg (zab (zaa 0) (zab (zak (zcz (zak (mSl (zaa 1) (fun _=>some none) (mPt (m2 zcf (zaa 6) (fun _=>some (.int 1)))))) (zak (mSl (zaa 1) (mPt (zaa 6)) (fun _=>some none))))) (fun _=>some []))))) zbf)
  (zai (za7 (mB (m2 dEq (zaa 5) (fun _=>some (.int 7)))) (zav (zbg (zab (zaa 0) (zab (zak (zcz (zak (mSl (zaa 1) (mPt (zaa 6)) (fun _=>some none))) (zak (mSl (zaa 1) (fun _=>some none) (mPt (zaa 6)))))) (fun _=>some []))))) zbf)
  (zai (za7 (zdc (mB (m2 dEq (zaa 5) (fun _=>some (.int 8)))) (mB (m2 dNe (zaa 0) (zak (fun _=>some []))))) (zav (zbg (zab (zak (mSl (zaa 0) (mPt (fun _=>some (.int 1))) (fun _=>some none))) (zab (zaa 1) (fun _=>some []))))) zbf)
  (zai (za7 (zdc (mB (m2 dEq (zaa 5) (fun _=>some (.int 9)))) (zdc (mB (m2 dNe (zaa 0) (zak (fun _=>some [])))) (mB (m2 dGt (zaa 3) (fun _=>some (.int 0)))))) (zai (zbc 7 (m2 zbr (mIx (zaf 4) (fun _=>some (.int 2))) (zaa 3)))
  (zai (zbc 8 (zak (za6 1 [7] (zbh (mIx (zaf 0) (m1 zia (fun _=>some (.int 1))))) (zar 0) (mB (m2 dNe (zaa 0) (zaa 1))) (zaa 0))))
  (zai (za7 (mB (m2 dEq (zaa 8) (mIx (zaf 0) (m1 zia (fun _=>some (.int 1)))))) (zbc 8 (zak (zmn (zak (zcz (zaa 8) (zak (zab (zaa 7) (fun _=>some [])))))))) zbf)
  (zav (zbg (zab (zak (zcz (zak (mSl (zaa 0) (fun _=>some none) (mPt (m1 zia (fun _=>some (.int 1)))))) (zak (zab (zaa 8) (fun _=>some []))))) (zab (zaa 1) (fun _=>some [])))))))) zbf)
  (zai (za7 (mOr (mB (m2 dEq (zaa 5) (fun _=>some (.int 10)))) (mB (m2 dEq (zaa 5) (fun _=>some (.int 11))))) (zav (zbg (zab (zaa 0) (zab (zak (zcz (zak (zcz (zak (mSl (zaa 1) (fun _=>some none) (mPt (zaa 6)))) (zak (zab (zap zrw (zab (mIx (zaf 1) (zaa 6)) (zab (mIx (zaf 4) (fun _=>some (.int 3))) (fun _=>some [])))) (fun _=>some []))))) (zak (mSl (zaa 1) (mPt (m2 zcf (zaa 6) (fun _=>some (.int 1)))) (fun _=>some none))))) (fun _=>some []))))) zbf)
  (zai (za7 (mB (m2 dEq (zaa 5) (fun _=>some (.int 12)))) (zav (zbg (zab (zaa 0) (zab (zak (zcz (zaa 1) (zak (zab (mIx (zaf 1) (mIx (zab (m1 zia (fun _=>some (.int 1))) (zab (fun _=>some (.int 0)) (fun _=>some []))) (m2 zbr (mIx (zaf 4) (fun _=>some (.int 2))) (fun _=>some (.int 2))))) (fun _=>some []))))) (fun _=>some []))))) zbf)
  (zai (za7 (mB (m2 dEq (zaa 5) (fun _=>some (.int 13)))) (zav (zbg (zab (zaa 0) (zab (zak (mSl (zaa 1) (fun _=>some none) (mPt (fun _=>some (.int 0))))) (fun _=>some []))))) zbf)
  (zav (zbg (zab (zaa 0) (zab (zaa 1) (fun _=>some [])))))))))))))))))
noncomputable def zrh (as:List D) : Option D:=zbi 9 b_13 as
noncomputable def b_53 : List Sl -> Option Fl :=
 (zai (za7 (mB (m2 dEq (mIx (zaf 0) (fun _=>some (.int 0))) (fun _=>some (.str "in")))) (zav (mIx (zaf 1) (mIx (zaf 0) (fun _=>some (.int 1))))) zbf)
  (zai (za7 (mB (m2 dEq (mIx (zaf 0) (fun _=>some (.int 0))) (fun _=>some (.str "out")))) (zav (zfn (mIx (zaf 2) (mIx (zaf 0) (fun _=>some (.int 1)))))) zbf)
  (zai (za7 (mB (m2 dEq (mIx (zaf 0) (fun _=>some (.int 0))) (fun _=>some (.str "least")))) (zav (m2 dGe (zap zd4 (zab (zak (za6 2 [1] (zbh (mIx (zaf 0) (fun _=>some (.int 2)))) (zch (zba (zar 0) (zba (zar 1) zcj))) (zci (mIx (zaf 2) (zaa 0))) (zaa 1))) (fun _=>some []))) (mIx (zaf 0) (fun _=>some (.int 1))))) zbf)
  (zav (m2 dLe (zap zd4 (zab (zak (za6 2 [2] (zbh (mIx (zaf 0) (fun _=>some (.int 2)))) (zch (zba (zar 0) (zba (zar 1) zcj))) (zci (mIx (zaf 2) (zaa 0))) (zaa 1))) (fun _=>some []))) (mIx (zaf 0) (fun _=>some (.int 1))))))))
noncomputable def zry (as:List D) : Option D:=zbi 3 b_53 as
noncomputable def b_9 : List Sl -> Option Fl :=
 (zai (za7 (zci (zap zep (zab (zak (za6 1 [1] (zbh (zaa 0)) (zar 0) (fun _=>some true) (zap m_5 (zab (zaa 0) (zab (zaa 1) (fun _=>some [])))))) (fun _=>some [])))) (zav (fun _=>some (.bl false))) zbf)
  (zai (zdd 2 (za6 1 [] (zbh (zaa 1)) (zar 0) (fun _=>some true) (fun _=>some (.bl false))))
  (zai (zdf (zds (zab (zap zcb (zab (zaa 1) (fun _=>some []))) (fun _=>some []))) (zar 3) (zdf (zbh (zaa 0)) (zch (zba (zar 4) (zba (zar 5) (zba (zar 6) zcj)))) (za7 (zdc (mB (m2 dNe (zaa 4) (fun _=>some (.str "never")))) (zdc (zci (mIx (zaf 1) (zaa 5))) (zeu (zci (mIx (zaf 2) (zaa 5)))))) (zfw 2 (zaa 5) (zap zfz (zab (zak (za6 1 [2,1] (zbh (zaa 6)) (zar 0) (fun _=>some true) (zmj zry (zab (zaa 0) (zab (zgg 1) (zab (zaa 2) (fun _=>some []))))))) (fun _=>some [])))) zbf)))
  (zex 2 (zav (m2 dEq (zaa 2) (zaa 1)))))))
noncomputable def m_9 (as:List D) : Option D:=zbi 7 b_9 as
noncomputable def b_33 : List Sl -> Option Fl :=
 (zai (zbc 2 (zak (zab (zak (fun _=>some [])) (fun _=>some []))))
  (zai (zdf (zds (zab (zaa 0) (fun _=>some []))) (zar 3) (zbc 2 (zak (zcz (zak (za6 1 [] (zbh (zaa 2)) (zar 0) (fun _=>some true) (zak (zcz (zaa 0) (zak (zab (fun _=>some (.bl true)) (fun _=>some []))))))) (zak (za6 1 [] (zbh (zaa 2)) (zar 0) (fun _=>some true) (zak (zcz (zaa 0) (zak (zab (fun _=>some (.bl false)) (fun _=>some [])))))))))))
  (zai (zbc 4 (zak (za6 1 [1] (zbh (zaa 2)) (zar 0) (zci (zap m_9 (zab (zaa 1) (zab (zaa 0) (fun _=>some []))))) (zaa 0))))
  (zgu (za6 1 [] (zbh (zaa 4)) (zar 0) (fun _=>some true) (zak (za6 2 [] (zf2 (zab (zaa 0) (fun _=>some []))) (zch (zba (zar 0) (zba (zar 1) zcj))) (zci (zaa 1)) (zaa 0))))))))
noncomputable def zrx (as:List D) : Option D:=zbi 5 b_33 as
noncomputable def b_28 : List Sl -> Option Fl :=
 (zai (zdd 3 (za6 1 [] (zds (zab (zaa 0) (fun _=>some []))) (zar 0) (fun _=>some true) (fun _=>some .non)))
  (zai (zdf (zbh (zaa 1)) (zch (zba (zar 2) (zba (zar 4) zcj))) (zfw 3 (zaa 2) (zaa 4)))
  (ze5 3)))
noncomputable def zmw (as:List D) : Option D:=zbi 5 b_28 as
noncomputable def b_40 : List Sl -> Option Fl :=
 (zai (zdd 3 (zaf 0))
  (zai (zfw 3 (zaa 1) (zaa 2))
  (ze5 3)))
noncomputable def zrg (as:List D) : Option D:=zbi 4 b_40 as
noncomputable def b_51 : List Sl -> Option Fl :=
 (zav (zap zfz (zab (zak (za6 2 [0] (zbh (zaa 1)) (zch (zba (zar 0) (zba (zar 1) zcj))) (fun _=>some true) (m2 dEq (mIx (zaf 2) (zaa 0)) (zaa 1)))) (fun _=>some []))))
noncomputable def zp1 (as:List D) : Option D:=zbi 2 b_51 as
noncomputable def b_3 : List Sl -> Option Fl :=
 (zav (zhw dLe dLt (fun _=>some (.int 0)) (zaa 1) (zap zcb (zab (zaa 0) (fun _=>some [])))))
noncomputable def m_3 (as:List D) : Option D:=zbi 2 b_3 as
noncomputable def b_6 : List Sl -> Option Fl :=
 (zai (zq7 2)
  (zai (zdf (zbh (zaa 1)) (zar 3) (zie 2 (zaa 3) (fun _=>some (.bl true))))
  (zex 2 (zgu (za6 1 [2] (zds (zab (zaa 0) (fun _=>some []))) (zar 0) (fun _=>some true) (m2 zol (zaa 0) (zaa 1)))))))
noncomputable def m_6 (as:List D) : Option D:=zbi 4 b_6 as
noncomputable def b_52 : List Sl -> Option Fl :=
 (zav (zap zep (zab (zak (za6 1 [0] (zbh (zaa 1)) (zar 0) (fun _=>some true) (m2 dIs (mIx (zaf 1) (zaa 0)) (fun _=>some (.bl true))))) (fun _=>some []))))
noncomputable def zqe (as:List D) : Option D:=zbi 2 b_52 as
noncomputable def b_14 : List Sl -> Option Fl :=
 (zav (vOr (m2 dIs (mIx (zaf 1) (zeo "In" "thing" (zaa 0))) (fun _=>some (.bl false))) (mIx (zaf 2) (zeo "In" "thing" (zaa 0)))))
noncomputable def m_14 (as:List D) : Option D:=zbi 3 b_14 as
noncomputable def b_47 : List Sl -> Option Fl :=
 (zgu (za6 1 [1] (zbh (zaa 0)) (zar 0) (zeu (zci (mIx (zaf 1) (mIx (zaf 0) (fun _=>some (.int 0)))))) (zaa 0)))
noncomputable def zo0 (as:List D) : Option D:=zbi 2 b_47 as
noncomputable def b_18 : List Sl -> Option Fl :=
 (zav (zap zd4 (zab (zak (za6 2 [1] (zbh (zaa 0)) (zch (zba (zar 0) (zba (zar 1) zcj))) (mB (m2 zd7 (mIx (zaf 2) (zaa 0)) (fun _=>some (.bl false)))) (zaa 1))) (fun _=>some []))))
noncomputable def zld (as:List D) : Option D:=zbi 2 b_18 as
noncomputable def b_16 : List Sl -> Option Fl :=
 (zav (m2 dLt (zap zld (zab (zap zo0 (zab (zeo "Least" "pieces" (zaa 0)) (zab (zaa 2) (fun _=>some [])))) (zab (zaa 1) (fun _=>some [])))) (zeo "Least" "bound" (zaa 0))))
noncomputable def m_16 (as:List D) : Option D:=zbi 3 b_16 as
noncomputable def b_26 : List Sl -> Option Fl :=
 (zav (zap zd4 (zab (zak (za6 2 [1] (zbh (zaa 0)) (zch (zba (zar 0) (zba (zar 1) zcj))) (mB (m2 dIs (mIx (zaf 2) (zaa 0)) (fun _=>some (.bl true)))) (zaa 1))) (fun _=>some []))))
noncomputable def zm5 (as:List D) : Option D:=zbi 2 b_26 as
noncomputable def b_17 : List Sl -> Option Fl :=
 (zav (m2 dGt (zap zm5 (zab (zeo "Most" "pieces" (zaa 0)) (zab (zaa 1) (fun _=>some [])))) (zeo "Most" "bound" (zaa 0))))
noncomputable def m_17 (as:List D) : Option D:=zbi 3 b_17 as
noncomputable def b_15 : List Sl -> Option Fl :=
 (zav (m2 dIs (mIx (zaf 1) (zeo "Out" "thing" (zaa 0))) (fun _=>some (.bl true))))
noncomputable def m_15 (as:List D) : Option D:=zbi 3 b_15 as
noncomputable def zwh (as:List D) : Option (List Str × List D):=zl1 2 [("thing",(zaa 1))] as
noncomputable def zwa (as:List D) : Option (List Str × List D):=zl1 3 [("bound",(zaa 1)),("pieces",(zak (zaf 2)))] as
noncomputable def zte (as:List D) : Option (List Str × List D):=zl1 3 [("bound",(zaa 1)),("pieces",(zak (zaf 2)))] as
noncomputable def zs3 (as:List D) : Option (List Str × List D):=zl1 2 [("thing",(zaa 1))] as
noncomputable def b_44 : List Sl -> Option Fl :=
 (zai (zbc 1 (mIx (zaf 0) (fun _=>some (.int 0))))
  (zai (za7 (mB (m2 dEq (zaa 1) (fun _=>some (.str "in")))) (zav (zjv "In" zwh (zab (mIx (zaf 0) (fun _=>some (.int 1))) (fun _=>some [])))) zbf)
  (zai (za7 (mB (m2 dEq (zaa 1) (fun _=>some (.str "out")))) (zav (zjv "Out" zs3 (zab (mIx (zaf 0) (fun _=>some (.int 1))) (fun _=>some [])))) zbf)
  (zai (za7 (mB (m2 dEq (zaa 1) (fun _=>some (.str "least")))) (zav (zjv "Least" zwa (zab (mIx (zaf 0) (fun _=>some (.int 1))) (zab (mIx (zaf 0) (fun _=>some (.int 2))) (fun _=>some []))))) zbf)
  (zav (zjv "Most" zte (zab (mIx (zaf 0) (fun _=>some (.int 1))) (zab (mIx (zaf 0) (fun _=>some (.int 2))) (fun _=>some [])))))))))
noncomputable def zos (as:List D) : Option D:=zbi 2 b_44 as
noncomputable def b_27 : List Sl -> Option Fl :=
 (zgu (za6 1 [] (zbh (mIx (zaf 0) (fun _=>some (.int 2)))) (zar 0) (fun _=>some true) (zap zos (zab (zaa 0) (fun _=>some [])))))
noncomputable def znc (as:List D) : Option D:=zbi 1 b_27 as
noncomputable def b_49 : List Sl -> Option Fl :=
 (zav (zap zep (zab (zak (za6 1 [1,2] (zbh (zap znc (zab (zaa 0) (fun _=>some [])))) (zar 0) (fun _=>some true) (zd0 (zda "In" "lost" m_14 (zaa 0) (zab (zaa 1) (zab (zaa 2) (fun _=>some [])))) (zd0 (zda "Out" "lost" m_15 (zaa 0) (zab (zaa 1) (zab (zaa 2) (fun _=>some [])))) (zd0 (zda "Least" "lost" m_16 (zaa 0) (zab (zaa 1) (zab (zaa 2) (fun _=>some [])))) (zda "Most" "lost" m_17 (zaa 0) (zab (zaa 1) (zab (zaa 2) (fun _=>some []))))))))) (fun _=>some []))))
noncomputable def zp3 (as:List D) : Option D:=zbi 3 b_49 as
noncomputable def b_41 : List Sl -> Option Fl :=
 (zai (zbc 3 (mIx (zaf 0) (fun _=>some (.int 1))))
  (zav (zec (m2 zd7 (zaa 3) (fun _=>some .non)) (zec (mIx (zaf 2) (zaa 3)) (zfn (zap zp3 (zab (zaa 0) (zab (zaa 1) (zab (zaa 2) (fun _=>some []))))))))))
noncomputable def zop (as:List D) : Option D:=zbi 4 b_41 as
noncomputable def b_42 : List Sl -> Option Fl :=
 (zai (zbc 3 (zap m_6 (zab (mIx (zaf 0) (fun _=>some (.int 0))) (zab (zaa 2) (fun _=>some [])))))
  (zai (za7 (zci (zap zep (zab (zak (za6 1 [1,3] (zbh (mIx (zaf 0) (fun _=>some (.int 1)))) (zar 0) (fun _=>some true) (zap zop (zab (zaa 0) (zab (zaa 1) (zab (zaa 2) (fun _=>some []))))))) (fun _=>some [])))) (zav (fun _=>some (.bl false))) zbf)
  (zav (zap zqe (zab (zaa 1) (zab (zaa 2) (fun _=>some [])))))))
noncomputable def zpq (as:List D) : Option D:=zbi 4 b_42 as
noncomputable def b_22 : List Sl -> Option Fl :=
 (zav (m2 dIs (mIx (zaf 1) (zeo "In" "thing" (zaa 0))) (fun _=>some (.bl true))))
noncomputable def m_22 (as:List D) : Option D:=zbi 2 b_22 as
noncomputable def b_24 : List Sl -> Option Fl :=
 (zav (m2 dGe (zap zm5 (zab (zeo "Least" "pieces" (zaa 0)) (zab (zaa 1) (fun _=>some [])))) (zeo "Least" "bound" (zaa 0))))
noncomputable def m_24 (as:List D) : Option D:=zbi 2 b_24 as
noncomputable def b_25 : List Sl -> Option Fl :=
 (zav (m2 dLe (zap zld (zab (zeo "Most" "pieces" (zaa 0)) (zab (zaa 1) (fun _=>some [])))) (zeo "Most" "bound" (zaa 0))))
noncomputable def m_25 (as:List D) : Option D:=zbi 2 b_25 as
noncomputable def b_23 : List Sl -> Option Fl :=
 (zav (m2 dIs (mIx (zaf 1) (zeo "Out" "thing" (zaa 0))) (fun _=>some (.bl false))))
noncomputable def m_23 (as:List D) : Option D:=zbi 2 b_23 as
noncomputable def b_48 : List Sl -> Option Fl :=
 (zav (zap zfz (zab (zak (za6 1 [1] (zbh (zap znc (zab (zaa 0) (fun _=>some [])))) (zar 0) (fun _=>some true) (zd0 (zda "In" "sure" m_22 (zaa 0) (zab (zaa 1) (fun _=>some []))) (zd0 (zda "Out" "sure" m_23 (zaa 0) (zab (zaa 1) (fun _=>some []))) (zd0 (zda "Least" "sure" m_24 (zaa 0) (zab (zaa 1) (fun _=>some []))) (zda "Most" "sure" m_25 (zaa 0) (zab (zaa 1) (fun _=>some [])))))))) (fun _=>some []))))
noncomputable def zo4 (as:List D) : Option D:=zbi 2 b_48 as
noncomputable def b_50 : List Sl -> Option Fl :=
 (zai (za7 (mB (m2 dEq (mIx (zaf 0) (fun _=>some (.int 0))) (fun _=>some (.str "may")))) (zav (fun _=>some (.bl false))) zbf)
  (zai (za7 (zdc (mB (m2 dEq (mIx (zaf 0) (fun _=>some (.int 0))) (fun _=>some (.str "make")))) (mB (m2 zd7 (mIx (zaf 1) (mIx (zaf 0) (fun _=>some (.int 1)))) (fun _=>some (.bl false))))) (zav (fun _=>some (.bl false))) zbf)
  (zav (zap zo4 (zab (zaa 0) (zab (zaa 1) (fun _=>some [])))))))
noncomputable def zro (as:List D) : Option D:=zbi 2 b_50 as
noncomputable def b_11 : List Sl -> Option Fl :=
 (zai (za7 (mB (m2 dEq (mIx (zaf 4) (fun _=>some (.int 0))) (fun _=>some (.str "group")))) (zav (zap zpq (zab (zaa 0) (zab (zaa 3) (zab (mIx (zaf 4) (fun _=>some (.int 1))) (fun _=>some [])))))) zbf)
  (zai (zbc 5 (mIx (zaf 4) (fun _=>some (.int 1))))
  (zai (za7 (mB (m2 dEq (mIx (zaf 4) (fun _=>some (.int 0))) (fun _=>some (.str "rule")))) (zav (zec (zap m_3 (zab (mIx (zaf 0) (fun _=>some (.int 1))) (zab (zaa 5) (fun _=>some [])))) (zap zro (zab (mIx (zbh (mIx (zaf 0) (fun _=>some (.int 1)))) (zaa 5)) (zab (zaa 3) (fun _=>some [])))))) zbf)
  (zai (za7 (mB (m2 dEq (mIx (zaf 4) (fun _=>some (.int 0))) (fun _=>some (.str "bar")))) (zav (zec (zap m_3 (zab (zaa 2) (zab (zaa 5) (fun _=>some [])))) (zap zp1 (zab (zaa 3) (zab (mIx (zaf 2) (zaa 5)) (fun _=>some [])))))) zbf)
  (zav (zec (m2 dEq (mIx (zaf 4) (fun _=>some (.int 0))) (fun _=>some (.str "world"))) (zec (zap m_3 (zab (zaa 1) (zab (zaa 5) (fun _=>some [])))) (m2 dEq (zaa 3) (zap m_6 (zab (mIx (zaf 0) (fun _=>some (.int 0))) (zab (mIx (zaf 1) (zaa 5)) (fun _=>some []))))))))))))
noncomputable def zng (as:List D) : Option D:=zbi 6 b_11 as
noncomputable def b_43 : List Sl -> Option Fl :=
 (zai (zbc 5 (mIx (zaf 4) (fun _=>some (.int 0))))
  (zai (za7 (mB (m2 dIs (zaa 5) (fun _=>some .non))) (zav (zap zng (zab (zaa 0) (zab (zaa 1) (zab (zaa 2) (zab (zaa 3) (zab (mIx (zaf 4) (fun _=>some (.int 1))) (fun _=>some [])))))))) zbf)
  (zai (za7 (mB (m2 zd7 (mIx (zaf 3) (mIx (zaf 5) (fun _=>some (.int 0)))) (fun _=>some .non))) (zav (fun _=>some (.bl false))) zbf)
  (zav (zap zng (zab (zaa 0) (zab (zaa 1) (zab (zaa 2) (zab (zap zrg (zab (zaa 3) (zab (mIx (zaf 5) (fun _=>some (.int 0))) (zab (zfn (mIx (zaf 5) (fun _=>some (.int 1)))) (fun _=>some []))))) (zab (mIx (zaf 4) (fun _=>some (.int 1))) (fun _=>some [])))))))))))
noncomputable def zps (as:List D) : Option D:=zbi 6 b_43 as
noncomputable def b_29 : List Sl -> Option Fl :=
 (zai (zdd 5 (zaf 3))
  (zai (zdf (zl0 (zaa 4)) (zch (zba (zar 6) (zba (zar 7) zcj))) (zai (zbc 8 (m2 dIs (mIx (zaf 7) (fun _=>some (.int 0))) (fun _=>some .non)))
  (zai (za7 (mB (m2 dNe (zaa 8) (m2 dEq (zaa 6) (zap zcb (zab (zaa 4) (fun _=>some [])))))) (zav (fun _=>some (.bl false))) zbf)
  (zai (za7 (zeu (zci (zh4 zps (zab (zaa 0) (zab (zaa 1) (zab (zaa 2) (zab (zgg 5) (zab (zaa 7) (fun _=>some []))))))))) (zav (fun _=>some (.bl false))) zbf)
  (za7 (zeu (zci (zaa 8))) (zfw 5 (mIx (zbh (mIx (zaf 7) (fun _=>some (.int 0)))) (fun _=>some (.int 0))) (mIx (zbh (mIx (zaf 7) (fun _=>some (.int 0)))) (fun _=>some (.int 1)))) zbf)))))
  (zav (m2 dGt (zap zcb (zab (zaa 4) (fun _=>some []))) (fun _=>some (.int 0))))))
noncomputable def zqy (as:List D) : Option D:=zbi 9 b_29 as
noncomputable def b_36 : List Sl -> Option Fl :=
 (zai (zbc 4 (mIx (zaf 3) (fun _=>some (.int 0))))
  (zai (zbc 5 (zak (za6 2 [] (zbh (zaa 4)) (zch (zba (zar 0) (zba (zar 1) zcj))) (fun _=>some true) (zaa 0))))
  (zai (za7 (mB (m2 dLt (zli (zaa 5)) (zap zcb (zab (zaa 5) (fun _=>some []))))) (zav (fun _=>some (.bl false))) zbf)
  (zav (zap zqy (zab (zaa 0) (zab (zaa 1) (zab (zaa 2) (zab (zap zmw (zab (mIx (zaf 0) (fun _=>some (.int 0))) (zab (zaa 4) (fun _=>some [])))) (zab (mIx (zaf 3) (fun _=>some (.int 1))) (fun _=>some [])))))))))))
noncomputable def zoy (as:List D) : Option D:=zbi 6 b_36 as
noncomputable def b_37 : List Sl -> Option Fl :=
 (zai (zdd 3 (fun _=>some []))
  (zai (zdf (zbh (zaa 2)) (zar 4) (zai (za7 (zeu (zci (zh4 zoy (zab (zaa 0) (zab (zaa 1) (zab (zgg 3) (zab (zaa 4) (fun _=>some [])))))))) (zav (fun _=>some (.bl false))) zbf)
  (ze0 3 (mIx (zaf 4) (fun _=>some (.int 0))))))
  (zex 3 (zav (zec (m2 dGt (zap zcb (zab (zaa 3) (fun _=>some []))) (fun _=>some (.int 0))) (m2 dEq (zap zcb (zab (mIx (zaf 3) (m1 zia (fun _=>some (.int 1)))) (fun _=>some []))) (fun _=>some (.int 0))))))))
noncomputable def zpo (as:List D) : Option D:=zbi 5 b_37 as
noncomputable def b_1 : List Sl -> Option Fl :=
 (zai (zbc 1 (zap m_0 (zab (zap m_4 (zab (zaa 0) (zab (fun _=>some (.int 0)) (fun _=>some [])))) (zab (fun _=>some (.int 6)) (fun _=>some [])))))
  (zai (zbc 2 (m2 zf3 (m2 zcf (m2 zbr (mIx (zaf 1) (fun _=>some (.int 0))) (fun _=>some (.int 13))) (fun _=>some (.int 2))) (fun _=>some (.int 3))))
  (zai (zdd 3 (zlv zo9 (zab (m2 zbr (mIx (zaf 1) (fun _=>some (.int 1))) (fun _=>some (.int 5))) (zab (zaa 2) (fun _=>some [])))))
  (zai (zdf (zbh (zak (mSl (zaa 0) (mPt (fun _=>some (.int 2))) (mPt (fun _=>some (.int 22)))))) (zar 4) (ze0 3 (zap zpz (zab (zaa 4) (zab (zaa 2) (zab (m2 dEq (m2 zbr (mIx (zaf 1) (fun _=>some (.int 2))) (fun _=>some (.int 2))) (fun _=>some (.int 0))) (fun _=>some [])))))))
  (zai (zex 3 (zbc 5 (zap zrx (zab (zaa 2) (zab (zaa 3) (fun _=>some []))))))
  (zai (zdd 6 (zaf 5))
  (zai (za7 (zdc (mB (m2 dGt (m2 zbr (mIx (zaf 1) (fun _=>some (.int 3))) (fun _=>some (.int 4))) (fun _=>some (.int 0)))) (mB (m2 dNe (zgg 6) (zak (fun _=>some []))))) (zl5 6 (m2 zbr (mIx (zaf 1) (fun _=>some (.int 4))) (zap zcb (zab (zgg 6) (fun _=>some []))))) zbf)
  (zai (za7 (mB (m2 dEq (m2 zbr (m2 zf3 (mIx (zaf 1) (fun _=>some (.int 3))) (fun _=>some (.int 4))) (fun _=>some (.int 2))) (fun _=>some (.int 0)))) (ze0 6 (zak (za6 1 [1] (zds (zab (zaa 2) (fun _=>some []))) (zar 0) (mB (m2 dEq (m2 zbr (m2 zf3 (mIx (zaf 1) (fun _=>some (.int 5))) (m2 zcf (zaa 0) (fun _=>some (.int 1)))) (fun _=>some (.int 2))) (fun _=>some (.int 0)))) (zaa 0)))) zbf)
  (zai (zdd 7 (fun _=>some []))
  (zai (zex 6 (zex 3 (zhx (zmm 7 (m_2 9) (zdl (zaa 3) (zdl (zaa 6) (zdl (zak (za6 1 [] (zds (zab (zaa 2) (fun _=>some []))) (zar 0) (fun _=>some true) (fun _=>some .non))) (zdl (zak (fun _=>some [])) (zgb (zab (zap m_4 (zab (zaa 0) (zab (fun _=>some (.int 1)) (fun _=>some [])))) (fun _=>some [])))))))))))
  (zai (zdf (zbh (zak (zcz (zak (zab (zap m_4 (zab (zaa 0) (zab (fun _=>some (.int 0)) (fun _=>some [])))) (fun _=>some []))) (zak (mSl (zaa 0) (mPt (fun _=>some (.int 2))) (mPt (fun _=>some (.int 26)))))))) (zar 4) (zai (zex 7 (zex 6 (zhs (zch (zba (zar 8) (zba (zar 9) zcj))) (zap zrh (zab (zaa 6) (zab (zaa 7) (zab (zaa 4) (zab (zaa 2) (fun _=>some [])))))))))
  (zai (zbc 10 (zak (za6 2 [] (zbh (zaa 9)) (zch (zba (zar 0) (zba (zar 1) zcj))) (fun _=>some true) (zbg (zab (zak (zaf 0)) (zab (zap zrb (zab (zaa 1) (fun _=>some []))) (fun _=>some [])))))))
  (zai (zex 3 (zbc 11 (zap zpo (zab (zbg (zab (zaa 2) (zab (zap m_7 (zab (zaa 3) (fun _=>some []))) (fun _=>some [])))) (zab (zak (za6 1 [] (zbh (zaa 8)) (zar 0) (fun _=>some true) (zak (zaf 0)))) (zab (zaa 10) (fun _=>some [])))))))
  (zai (za7 (zeu (zci (zqs "bool" (zaa 11)))) (zav (fun _=>some (.bl false))) zbf)
  (za7 (zdc (zci (zaa 11)) (zci (zap zep (zab (zak (za6 1 [8] (zbh (zaa 5)) (zar 0) (fun _=>some true) (m2 zh3 (zaa 0) (zaa 1)))) (fun _=>some []))))) (zav (fun _=>some (.bl false))) zbf))))))
  (zav (fun _=>some (.bl true))))))))))))))
noncomputable def m_1 (as:List D) : Option D:=zbi 12 b_1 as
section
variable {P:Program} {w:World} {K:PySem.W.Frag} {mg:Str -> Option Value} {base:Heap}
theorem z77 {a:Wa} (W:Wd K mg a) : zaw P w K mg base CX0 1 a.f_34 a.fd_34 ["_law_steps"] (spD ⟨K,cl a⟩ ["_law_steps"].length zrb) :=
 zbv (k:=0) (N:=["_law_steps","_law_found","_law_pair","_law_why"]) (F:=b_34) W.F_34 zlp fun cdv A outer s H E hr=>have hu:=hr.units; by
  unfold b_34
  exact (zaj (zfr 1 zlp.nd (zb3 zag))
  (zaj (zeh PassesOwn.never rfl (zb1 (dv 0)) (zcs rfl (zbn (zco 2 4 zlp.nd) (zbn (zco 3 4 zlp.nd) zcu))) (zaj (zbe (za2 (zbj hu) zbm (DE.db (zah (dvC 3) zad)) (DE.db zbl)) (zan (zb5 3 zlp.nd (zbu (zac (zah (dvC 3) zad) (zac (DO.de (zg9 boot_list rfl W.z_list (DE.dc (zah (dvC 3) zad)))) zag))))) zbk)
  (zan (zgj (zek (ze2 PySem.F.plainAttrs_list PySem.F.slot_list_append PySem.F.type_list_append zf5 (pv 1) (zdb (zbu (zac (dv 2) (zac (dv 3) zag))) zdp)))))))
  (zan (zhm 1))))
theorem zlg {a:Wa} (W:Wd K mg a) : zaw P w K mg base CX0 1 a.f_0 a.fd_0 ["_law_cell","_law_many"] (spD ⟨K,cl a⟩ ["_law_cell","_law_many"].length m_0) :=
 zbv (k:=0) (N:=["_law_cell","_law_many","_law_found","_law_number","_law_k"]) (F:=b_0) W.F_0 zlf fun cdv A outer s H E hr=>by
  unfold b_0
  exact (zaj (zfr 2 zlf.nd (zb3 zag))
  (zaj (zb5 3 zlf.nd (zay zdm (zay zf1 (zay zb7 (dv 0) zad) zad) zad))
  (zaj (zeh PassesOwn.never rfl (zfh rfl W.z_range (zac (dv 1) zag)) (zco 4 5 zlf.nd) (zaj (zb5 3 zlf.nd (zay zb7 (zay zdm (zay zdm (zay zf1 (dv 3) (zay zdm (dv 3) zad)) (zay zf1 zad (dv 4))) zad) zad))
  (zan (zgj (zek (ze2 PySem.F.plainAttrs_list PySem.F.slot_list_append PySem.F.type_list_append zf5 (pv 2) (zdb (dv 3) zdp)))))))
  (zan (zhm 2)))))
theorem z63 {a:Wa} (W:Wd K mg a) : zaw P w K mg base CX0 2 a.f_8 a.fd_8 ["_law_cell","_law_rules","_law_sets","_law_lines","_law_sheet"] (spM ⟨K,cl a⟩ 3 ["_law_cell","_law_rules","_law_sets","_law_lines","_law_sheet"].length m_8) :=
 zt5 (k:=1) (N:=["_law_cell","_law_rules","_law_sets","_law_lines","_law_sheet","_law_xs","_law_word"]) (F:=b_8) W.F_8 zpd fun cdv A outer s H E hr=>have hu:=hr.units; by
  unfold b_8
  exact (zaj (zb5 5 zpd.nd (zbq (zlg W) (hr.mono (by decide)) rfl W.g_0 W.F_0.kp W.b_0 (zac (dv 0) (zac zad zag))))
  (zaj (zb5 6 zpd.nd (zah (DO.dc (zb3 (zac zbl (zac zbl (zac zbl (zac zbl zag)))))) (zay zb7 (zah (dvC 5) zad) zad)))
  (zaj (zbe (za2 (zbj hu) zbm (DE.db (dv 6)) (DE.db zbl)) (zan (zs1 (zbu (zac (dv 6) (zac (DO.de (zca 2 [5] ["_law_thing","_law_entry","_law_xs"] rfl (DI.de (zji rfl W.z_enumerate (zac (dv 4) zag))) (fun _ _ _ _ _=>(zcs rfl (zbn (dgc 0 2) (zbn (dgc 1 2) zcu)))) (fun _ _ _ _ _=>(zdt (DW.dt (zib (za2 zd3 zd1 (DE.db (dvc 1)) (DE.db zb2)) (zh9 (za2 (zbj hu) zbm (DE.db (zay zb7 (zay zgn (zah (zc5 2) zad) (zay zdm (dvc 0) zad)) zad)) (DE.db zad))))))) (fun _ _ _ _ _=>(dvc 0)))) zag))))) zbk)
  (zan (zs1 (zbu (zac (dv 6) (zac (zay zb7 (zah (dvC 5) zad) (zay zdm zad (zyq "rule" "bar" "world" hu (zbw zc4 zc1 rfl W.z_len PySem.boot_len (zbd (DE.db (dv 1)) zbt)) (zbw zc4 zc1 rfl W.z_len PySem.boot_len (zbd (zo3 3) zbt)) (zbw zc4 zc1 rfl W.z_len PySem.boot_len (zbd (DE.db (dv 2)) zbt)) (dv 6) (fun _ _=>rfl) (fun _ _ _=>rfl) (fun _ _ _=>rfl) (fun _ _ _=>rfl)))) zag))))))))
theorem z3t {a:Wa} (W:Wd K mg a) : zaw P w K mg base CX0 1 a.f_45 a.fd_45 ["_law_part_here","_law_sheet"] (spD ⟨K,cl a⟩ ["_law_part_here","_law_sheet"].length zm6) :=
 zbv (k:=0) (N:=["_law_part_here","_law_sheet"]) (F:=b_45) W.F_45 z3z fun cdv A outer s H E hr=>have hu:=hr.units; by
  unfold b_45
  exact (zaj (zbe (za2 (zbj hu) zbm (DE.db (zah (dvC 0) zad)) (DE.db zbl)) (zan (zax (zb6 zd3 zd1 (DE.db (zah (dvC 1) (zah (dvC 0) zad))) (DE.db zb2)))) zbk)
  (zaj (zbe (za2 (zbj hu) zbm (DE.db (zah (dvC 0) zad)) (DE.db zbl)) (zan (zax (zb6 zd3 zd1 (DE.db (zah (dvC 1) (zah (dvC 0) zad))) (DE.db zb2)))) zbk)
  (zaj (zbe (za2 (zbj hu) zbm (DE.db (zah (dvC 0) zad)) (DE.db zbl)) (zan (zax (zb6 zpg zq0 (DE.db (zbw (zgt rfl) zgq rfl W.z_sum boot_sum (zbd (DE.db (DO.de (zca 2 [1] ["_law_thing","_law_worth_here","_law_sheet"] rfl (DI.de (zb1 (zah (dvC 0) zad))) (fun _ _ _ _ _=>(zcs rfl (zbn (dgc 0 2) (zbn (dgc 1 2) zcu)))) (fun _ _ _ _ _=>(zdt (za2 zd3 zd1 (DE.db (zah (zc5 2) (dvc 0))) (DE.db zb2)))) (fun _ _ _ _ _=>(dvc 1))))) zbt))) (DE.db (zah (dvC 0) zad))))) zbk)
  (zan (zax (zb6 zm7 zn5 (DE.db (zbw (zgt rfl) zgq rfl W.z_sum boot_sum (zbd (DE.db (DO.de (zca 2 [1] ["_law_thing","_law_worth_here","_law_sheet"] rfl (DI.de (zb1 (zah (dvC 0) zad))) (fun _ _ _ _ _=>(zcs rfl (zbn (dgc 0 2) (zbn (dgc 1 2) zcu)))) (fun _ _ _ _ _=>(zdt (za2 zha zgv (DE.db (zah (zc5 2) (dvc 0))) (DE.db zb2)))) (fun _ _ _ _ _=>(dvc 1))))) zbt))) (DE.db (zah (dvC 0) zad))))))))
theorem zqt {a:Wa} (W:Wd K mg a) : zaw P w K mg base CX0 2 a.f_5 a.fd_5 ["_law_rule_here","_law_sheet"] (spD ⟨K,cl a⟩ ["_law_rule_here","_law_sheet"].length m_5) :=
 zbv (k:=1) (N:=["_law_rule_here","_law_sheet"]) (F:=b_5) W.F_5 zz5 fun cdv A outer s H E hr=>have hu:=hr.units; by
  unfold b_5
  exact (zaj (zbe (DW.dt (zib (za2 (zbj hu) zbm (DE.db (zah (dvC 0) zad)) (DE.db zbl)) (zh9 (DW.dt (ze1 (za2 (zbj hu) zbm (DE.db (zah (dvC 0) zad)) (DE.db zbl)) (zf0 (za2 zha zgv (DE.db (zah (dvC 1) (zah (dvC 0) zad))) (DE.db zb2)))))))) (zan (zax zb2)) zbk)
  (zan (zax (zbw (zml rfl) zlo rfl W.z_all boot_all (zbd (DE.db (DO.de (zca 1 [1] ["_law_part_here","_law_sheet"] rfl (DI.de (zb1 (zah (dvC 0) zad))) (fun _ _ _ _ _=>(dgc 0 1)) (fun _ _ _ _ _=>zcl) (fun _ _ _ _ _=>(zbq (z3t W) (hr.mono (by decide)) (glc rfl) W.g_45 W.F_45.kp W.b_45 (zac (dvc 0) (zac (dvc 1) zag))))))) zbt)))))
theorem zs9 {a:Wa} (W:Wd K mg a) : zaw P w K mg base CX0 1 a.f_31 a.fd_31 ["_law_sheet","_law_bar"] (spD ⟨K,cl a⟩ ["_law_sheet","_law_bar"].length zoc) :=
 zbv (k:=0) (N:=["_law_sheet","_law_bar"]) (F:=b_31) W.F_31 zw2 fun cdv A outer s H E hr=>have hu:=hr.units; by
  unfold b_31
  exact (zan (zax (zbw (zml rfl) zlo rfl W.z_all boot_all (zbd (DE.db (DO.de (zca 2 [0] ["_law_thing","_law_truth","_law_sheet"] rfl (DI.de (zb1 (dv 1))) (fun _ _ _ _ _=>(zcs rfl (zbn (dgc 0 2) (zbn (dgc 1 2) zcu)))) (fun _ _ _ _ _=>zcl) (fun _ _ _ _ _=>(zb6 (zbj hu) zbm (DE.db (zah (zc5 2) (dvc 0))) (DE.db (dvc 1))))))) zbt))))
theorem z6y {a:Wa} (W:Wd K mg a) : zaw P w K mg base CX0 1 a.f_46 a.fd_46 ["_law_part_here","_law_sheet","_law_without"] (spD ⟨K,cl a⟩ ["_law_part_here","_law_sheet","_law_without"].length zq2) :=
 zbv (k:=0) (N:=["_law_part_here","_law_sheet","_law_without","_law_left"]) (F:=b_46) W.F_46 zvu fun cdv A outer s H E hr=>have hu:=hr.units; by
  unfold b_46
  exact (zaj (zbe (za2 (zbj hu) zbm (DE.db (zah (dvC 0) zad)) (DE.db zbl)) (zan (zax (zur (zb6 zd3 zd1 (DE.db (zah (dvC 1) (zah (dvC 0) zad))) (DE.db zb2)) (zgl (zah (dvC 2) (zah (dvC 0) zad)))))) zbk)
  (zaj (zbe (za2 (zbj hu) zbm (DE.db (zah (dvC 0) zad)) (DE.db zbl)) (zan (zax (zb6 zd3 zd1 (DE.db (zah (dvC 1) (zah (dvC 0) zad))) (DE.db zb2)))) zbk)
  (zaj (zbe (za2 (zbj hu) zbm (DE.db (zah (dvC 0) zad)) (DE.db zbl)) (zaj (zgi 3 2 [1,2] ["_law_thing","_law_worth_here","_law_sheet","_law_without"] zvu.nd rfl (DI.de (zb1 (zah (dvC 0) zad))) (fun _ _ _ _ _=>(zcs rfl (zbn (dgc 0 2) (zbn (dgc 1 2) zcu)))) (fun _ _ _ _ _=>(zdt (DW.dt (ze1 (za2 zha zgv (DE.db (zah (zc5 2) (dvc 0))) (DE.db zb2)) (zf0 (zf7 (zcx (DE.db (zah (zc5 3) (dvc 0)))))))))) (fun _ _ _ _ _=>(dvc 1)))
  (zan (zax (zb6 zhr zhu (DE.db (zbw (zgt rfl) zgq rfl W.z_sum boot_sum (zbd (DE.db (dv 3)) zbt))) (DE.db (zah (dvC 0) zad)))))) zbk)
  (zan (zax (zb6 zif ziv (DE.db (zbw (zgt rfl) zgq rfl W.z_sum boot_sum (zbd (DE.db (DO.de (zca 2 [1] ["_law_thing","_law_worth_here","_law_sheet"] rfl (DI.de (zb1 (zah (dvC 0) zad))) (fun _ _ _ _ _=>(zcs rfl (zbn (dgc 0 2) (zbn (dgc 1 2) zcu)))) (fun _ _ _ _ _=>(zdt (za2 zd3 zd1 (DE.db (zah (zc5 2) (dvc 0))) (DE.db zb2)))) (fun _ _ _ _ _=>(dvc 1))))) zbt))) (DE.db (zah (dvC 0) zad))))))))
theorem ztx {a:Wa} (W:Wd K mg a) : zaw P w K mg base CX0 2 a.f_20 a.fd_20 ["_law_rule_here","_law_sheet","_law_without"] (spD ⟨K,cl a⟩ ["_law_rule_here","_law_sheet","_law_without"].length znj) :=
 zbv (k:=1) (N:=["_law_rule_here","_law_sheet","_law_without"]) (F:=b_20) W.F_20 z01 fun cdv A outer s H E hr=>have hu:=hr.units; by
  unfold b_20
  exact (zaj (zbe (DW.dt (zib (za2 (zbj hu) zbm (DE.db (zah (dvC 0) zad)) (DE.db zbl)) (zh9 (zf7 (zcx (DE.db (zah (dvC 2) (zah (dvC 0) zad)))))))) (zan (zax zb2)) zbk)
  (zan (zax (zhp (zbw (zgs rfl) zgp rfl W.z_any boot_any (zbd (DE.db (DO.de (zca 1 [1,2] ["_law_part_here","_law_sheet","_law_without"] rfl (DI.de (zb1 (zah (dvC 0) zad))) (fun _ _ _ _ _=>(dgc 0 1)) (fun _ _ _ _ _=>zcl) (fun _ _ _ _ _=>(zbq (z6y W) (hr.mono (by decide)) (glc rfl) W.g_46 W.F_46.kp W.b_46 (zac (dvc 0) (zac (dvc 1) (zac (dvc 2) zag)))))))) zbt))))))
theorem z32 {a:Wa} (W:Wd K mg a) : zaw P w K mg base CX0 3 a.f_12 a.fd_12 ["_law_rules","_law_sheet"] (spD ⟨K,cl a⟩ ["_law_rules","_law_sheet"].length zrq) :=
 zbv (k:=2) (N:=["_law_rules","_law_sheet","_law_left","_law_going","_law_rule_here"]) (F:=b_12) W.F_12 zje fun cdv A outer s H E hr=>by
  unfold b_12
  exact (zaj (zow 2 1 [] ["_law_entry"] zje.nd rfl (DI.de (zb1 (dv 1))) (fun _ _ _ _ _=>(dgc 0 1)) (fun _ _ _ _ _=>zcl) (fun _ _ _ _ _=>(zb6 zha zgv (DE.db (dvc 0)) (DE.db zb2))))
  (zaj (zb5 3 zje.nd zb2)
  (zaj (z5d 1000000000 PassesOwn.never (zcx (DE.db (dv 3))) (zaj (zb5 3 zje.nd zb2)
  (zan (zeh PassesOwn.never rfl (zb1 (dv 0)) (zco 4 5 zje.nd) (zan (zbe (zcx (DE.db (zor (ztx W) (hr.mono (by decide)) rfl W.g_20 W.F_20.kp W.b_20 (zbd (DE.db (dv 4)) (zbd (DE.db (dv 1)) (zbd (dvB 2) zbt)))))) (zaj (zls (pv 2) (zah (dvC 4) zad) zb2)
  (zan (zb5 3 zje.nd zb2))) zbk))))))
  (zan (zhm 2)))))
theorem zy0 {a:Wa} (W:Wd K mg a) : zaw P w K mg base CX0 3 a.f_35 a.fd_35 ["_law_rules","_law_sets","_law_bars","_law_sheet","_law_why"] (spD ⟨K,cl a⟩ ["_law_rules","_law_sets","_law_bars","_law_sheet","_law_why"].length zpc) :=
 zbv (k:=2) (N:=["_law_rules","_law_sets","_law_bars","_law_sheet","_law_why","_law_word","_law_told","_law_without"]) (F:=b_35) W.F_35 zn1 fun cdv A outer s H E hr=>have hu:=hr.units; by
  unfold b_35
  exact (zaj (znb (dv 4) (zcs rfl (zbn (zco 5 8 zn1.nd) (zbn (zco 6 8 zn1.nd) zcu))))
  (zaj (zbe (za2 (zbj hu) zbm (DE.db (dv 5)) (DE.db zbl)) (zan (zax (zgr (zb6 zhr zhu (DE.db (dv 6)) (DE.db (zbw zc4 zc1 rfl W.z_len PySem.boot_len (zbd (DE.db (dv 0)) zbt)))) (zgl (zbq (zqt W) (hr.mono (by decide)) rfl W.g_5 W.F_5.kp W.b_5 (zac (zah (dvC 0) (dv 6)) (zac (dv 3) zag))))))) zbk)
  (zaj (zbe (za2 (zbj hu) zbm (DE.db (dv 5)) (DE.db zbl)) (zan (zax (zgr (zb6 zhr zhu (DE.db (dv 6)) (DE.db (zbw zc4 zc1 rfl W.z_len PySem.boot_len (zbd (DE.db (dv 2)) zbt)))) (zgl (zbq (zs9 W) (hr.mono (by decide)) rfl W.g_31 W.F_31.kp W.b_31 (zac (dv 3) (zac (zah (dvC 2) (dv 6)) zag))))))) zbk)
  (zaj (zbe (DW.dt (ze1 (za2 (zbj hu) zbm (DE.db (dv 5)) (DE.db zbl)) (zf0 (za2 zhr zhu (DE.db (dv 6)) (DE.db (zbw zc4 zc1 rfl W.z_len PySem.boot_len (zbd (DE.db (dv 1)) zbt))))))) (zan (zax (zb6 (zbj hu) zbm (DE.db (dv 3)) (DE.db (DO.de (zca 1 [1,6] ["_law_thing","_law_sets","_law_told"] rfl (DI.de (zfh rfl W.z_range (zac (zbw zc4 zc1 rfl W.z_len PySem.boot_len (zbd (DE.db (dv 3)) zbt)) zag))) (fun _ _ _ _ _=>(dgc 0 1)) (fun _ _ _ _ _=>zcl) (fun _ _ _ _ _=>(zb6 zu5 zsc (DE.db (dvc 0)) (DE.db (zah (zc5 1) (dvc 2))))))))))) zbk)
  (zaj (zbe (za2 (zbj hu) zbm (DE.db (dv 5)) (DE.db zbl)) (zan (zax zb2)) zbk)
  (zaj (zbe (zf7 (zcx (DE.db (zbw (zgs rfl) zgp rfl W.z_any boot_any (zbd (DE.db (DO.de (zca 1 [3] ["_law_thing","_law_sheet"] rfl (DI.de (zb1 (dv 6))) (fun _ _ _ _ _=>(dgc 0 1)) (fun _ _ _ _ _=>zcl) (fun _ _ _ _ _=>(zb6 zd3 zd1 (DE.db (zah (zc5 1) (dvc 0))) (DE.db zb2)))))) zbt))))) (zan (zax zb2)) zbk)
  (zaj (zb5 7 zn1.nd (DO.de (zca 1 [6] ["_law_thing","_law_told"] rfl (DI.de (zfh rfl W.z_range (zac (zbw zc4 zc1 rfl W.z_len PySem.boot_len (zbd (DE.db (dv 3)) zbt)) zag))) (fun _ _ _ _ _=>(dgc 0 1)) (fun _ _ _ _ _=>zcl) (fun _ _ _ _ _=>(zb6 zu5 zsc (DE.db (dvc 0)) (DE.db (dvc 1)))))))
  (zan (zax (zhp (zbw (zgs rfl) zgp rfl W.z_any boot_any (zbd (DE.db (DO.de (zca 1 [3,7] ["_law_rule_here","_law_sheet","_law_without"] rfl (DI.de (zb1 (dv 0))) (fun _ _ _ _ _=>(dgc 0 1)) (fun _ _ _ _ _=>zcl) (fun _ _ _ _ _=>(zbq (ztx W) (hr.mono (by decide)) (glc rfl) W.g_20 W.F_20.kp W.b_20 (zac (dvc 0) (zac (dvc 1) (zac (dvc 2) zag)))))))) zbt))))))))))))
theorem z4l {a:Wa} (W:Wd K mg a) : zaw P w K mg base CX0 4 a.f_21 a.fd_21 ["_law_rules","_law_sets","_law_bars","_law_sheet"] (spD ⟨K,cl a⟩ ["_law_rules","_law_sets","_law_bars","_law_sheet"].length zpb) :=
 zbv (k:=3) (N:=["_law_rules","_law_sets","_law_bars","_law_sheet","_law_found","_law_left","_law_mine"]) (F:=b_21) W.F_21 zmt fun cdv A outer s H E hr=>by
  unfold b_21
  exact (zaj (zow 4 2 [3] ["_law_k","_law_rule_here","_law_sheet"] zmt.nd rfl (DI.de (zji rfl W.z_enumerate (zac (dv 0) zag))) (fun _ _ _ _ _=>(zcs rfl (zbn (dgc 0 2) (zbn (dgc 1 2) zcu)))) (fun _ _ _ _ _=>(zdt (zcx (DE.db (zbq (zqt W) (hr.mono (by decide)) (glc rfl) W.g_5 W.F_5.kp W.b_5 (zac (dvc 1) (zac (dvc 2) zag))))))) (fun _ _ _ _ _=>(zbu (zac zbl (zac (dvc 0) zag)))))
  (zaj (ztn (zek (ze2 PySem.F.plainAttrs_list PySem.F.slot_list_extend PySem.F.type_list_extend zth (pv 4) (zdb (DO.de (zca 2 [3] ["_law_k","_law_bar","_law_sheet"] rfl (DI.de (zji rfl W.z_enumerate (zac (dv 2) zag))) (fun _ _ _ _ _=>(zcs rfl (zbn (dgc 0 2) (zbn (dgc 1 2) zcu)))) (fun _ _ _ _ _=>(zdt (zcx (DE.db (zbq (zs9 W) (hr.mono (by decide)) (glc rfl) W.g_31 W.F_31.kp W.b_31 (zac (dvc 2) (zac (dvc 1) zag))))))) (fun _ _ _ _ _=>(zbu (zac zbl (zac (dvc 0) zag)))))) zdp))))
  (zaj (ztn (zek (ze2 PySem.F.plainAttrs_list PySem.F.slot_list_extend PySem.F.type_list_extend zth (pv 4) (zdb (DO.de (zca 1 [0,1,2,3] ["_law_k","_law_rules","_law_sets","_law_bars","_law_sheet"] rfl (DI.de (zfh rfl W.z_range (zac (zbw zc4 zc1 rfl W.z_len PySem.boot_len (zbd (DE.db (dv 1)) zbt)) zag))) (fun _ _ _ _ _=>(dgc 0 1)) (fun _ _ _ _ _=>(zdt (zcx (DE.db (zbq (zy0 W) (hr.mono (by decide)) (glc rfl) W.g_35 W.F_35.kp W.b_35 (zac (dvc 1) (zac (dvc 2) (zac (dvc 3) (zac (dvc 4) (zac (zbu (zac zbl (zac (dvc 0) zag))) zag)))))))))) (fun _ _ _ _ _=>(zbu (zac zbl (zac (dvc 0) zag)))))) zdp))))
  (zaj (zb5 5 zmt.nd (zbq (z32 W) (hr.mono (by decide)) rfl W.g_12 W.F_12.kp W.b_12 (zac (dv 0) (zac (dv 3) zag))))
  (zaj (zgi 6 2 [] ["_law_thing","_law_gone"] zmt.nd rfl (DI.de (zji rfl W.z_enumerate (zac (dv 5) zag))) (fun _ _ _ _ _=>(zcs rfl (zbn (dgc 0 2) (zbn (dgc 1 2) zcu)))) (fun _ _ _ _ _=>(zdt (zcx (DE.db (dvc 1))))) (fun _ _ _ _ _=>(dvc 0)))
  (zaj (zbe (zcx (DE.db (zbw (zgs rfl) zgp rfl W.z_any boot_any (zbd (DE.db (DO.de (zca 1 [3] ["_law_thing","_law_sheet"] rfl (DI.de (zb1 (dv 6))) (fun _ _ _ _ _=>(dgc 0 1)) (fun _ _ _ _ _=>zcl) (fun _ _ _ _ _=>(zb6 zd3 zd1 (DE.db (zah (zc5 1) (dvc 0))) (DE.db zb2)))))) zbt)))) (zan (zgj (zek (ze2 PySem.F.plainAttrs_list PySem.F.slot_list_append PySem.F.type_list_append zf5 (pv 4) (zdb (zbu (zac zbl (zac (dv 6) zag))) zdp))))) zbk)
  (zan (zhm 4))))))))
theorem zv4 {a:Wa} (W:Wd K mg a) : zaw P w K mg base CX0 1 a.f_32 a.fd_32 ["_law_sheet","_law_thing","_law_entry"] (spD ⟨K,cl a⟩ ["_law_sheet","_law_thing","_law_entry"].length znw) :=
 zbv (k:=0) (N:=["_law_sheet","_law_thing","_law_entry"]) (F:=b_32) W.F_32 z6n fun cdv A outer s H E hr=>by
  unfold b_32
  exact (zan (zlh (zdz (DO.de (zdz (DO.de (by refine zde ?a ?b ?c; (case a=>exact (dv 0)); (case b=>exact zdr); (case c=>exact (zc2 (dv 1))))) (DO.de (zb3 (zac (dv 2) zag))))) (DO.de (by refine zde ?a ?b ?c; (case a=>exact (dv 0)); (case b=>exact (zc2 (zay zdm (dv 1) zad))); (case c=>exact zdr))))))
theorem zpp {a:Wa} (W:Wd K mg a) : ∀ j,zaw P w K mg base CX0 (5 + j) a.f_2 a.fd_2 ["_law_rules","_law_sets","_law_sheet","_law_bar","_law_lines","_law_cell"] (spM ⟨K,cl a⟩ 4 ["_law_rules","_law_sets","_law_sheet","_law_bar","_law_lines","_law_cell"].length (m_2 j))
 | 0=>zw5 (k:=4) (N:=["_law_rules","_law_sets","_law_sheet","_law_bar","_law_lines","_law_cell","_law_xs","_law_thing","_law_things","_law_whys_here","_law_truth","_law_one"]) W.F_2 zg0
 | j + 1=>zt5 (k:=5 + j) (N:=["_law_rules","_law_sets","_law_sheet","_law_bar","_law_lines","_law_cell","_law_xs","_law_thing","_law_things","_law_whys_here","_law_truth","_law_one"]) (F:=b_2 (m_2 j)) W.F_2 zg0 fun cdv A outer s H E hr=>have hu:=hr.units; by
  unfold b_2
  exact (zaj (zb5 6 zg0.nd (zbq (zlg W) (hr.mono (by omega)) rfl W.g_0 W.F_0.kp W.b_0 (zac (dv 5) (zac zad zag))))
  (zaj (zgi 8 2 [] ["_law_thing","_law_entry"] zg0.nd rfl (DI.de (zji rfl W.z_enumerate (zac (dv 2) zag))) (fun _ _ _ _ _=>(zcs rfl (zbn (dgc 0 2) (zbn (dgc 1 2) zcu)))) (fun _ _ _ _ _=>(zdt (za2 zd3 zd1 (DE.db (dvc 1)) (DE.db zfe)))) (fun _ _ _ _ _=>(dvc 0)))
  (zaj (zb5 9 zg0.nd (zbq (z4l W) (hr.mono (by omega)) rfl W.g_21 W.F_21.kp W.b_21 (zac (dv 0) (zac (dv 1) (zac (DO.de (zca 1 [] ["_law_line"] rfl (z29 4) (fun _ _ _ _ _=>(dgc 0 1)) (fun _ _ _ _ _=>zcl) (fun _ _ _ _ _=>(zah (zc5 0) zad)))) (zac (dv 2) zag))))))
  (zan (zbe (DW.dt (zib (za2 (zbj hu) zbm (DE.db (dv 8)) (DE.db (DO.de (zb3 zag)))) (zh9 (DW.dt (ze1 (za2 (zhd hu) zhb (DE.db (dv 9)) (DE.db (DO.de (zb3 zag)))) (zf0 (za2 zif ziv (DE.db (zay zb7 (zah (dvC 6) zad) zad)) (DE.db zad)))))))) (zaj (zbe (za2 (zbj hu) zbm (DE.db (dv 9)) (DE.db (DO.de (zb3 zag)))) (zan (zzv 9 zg0.nd (zqf (z63 W) (hr.mono (by omega)) rfl W.g_8 W.F_8.kp W.b_8 (zej (zah (dvC 6) zad) (zej (dv 0) (zej (dv 1) (znt 4 (zac (dv 2) zag)))))))) zbk)
  (zan (zt9 (zek (ze2 PySem.F.plainAttrs_list PySem.F.slot_list_append PySem.F.type_list_append zf5 (pv 4) (zdb (zbu (zac (dv 3) (zac (DO.de (zb3 (zac (zbu (zac zfe (zac (zah (dvC 9) (zay zb7 (zah (dvC 6) zad) (zbw zc4 zc1 rfl W.z_len PySem.boot_len (zbd (DE.db (dv 9)) zbt)))) zag))) zag))) zag))) zdp)))))) (zaj (zb5 7 zg0.nd (zah (dvC 8) (zay zb7 (zah (dvC 6) zad) (zbw zc4 zc1 rfl W.z_len PySem.boot_len (zbd (DE.db (dv 8)) zbt)))))
  (zaj (zb5 10 zg0.nd (zb6 (zbj hu) zbm (DE.db (zay zb7 (zah (dvC 6) zad) zad)) (DE.db zad)))
  (zaj (zpa (zqf (zpp W j) hr rfl W.g_2 W.F_2.kp W.b_2 (zej (dv 0) (zej (dv 1) (zej (zbq (zv4 W) (hr.mono (by omega)) rfl W.g_32 W.F_32.kp W.b_32 (zac (dv 2) (zac (dv 7) (zac (dv 10) zag)))) (zej (DO.de (zdz (dv 3) (DO.de (zb3 (zac (zbu (zac (dv 7) (zac (dv 10) zag))) zag))))) (znt 4 (zac (zah (dvC 6) zad) zag))))))))
  (zaj (zb5 11 zg0.nd (zay zm9 (zbw zc4 zc1 rfl W.z_len PySem.boot_len (zbd (zo3 4) zbt)) zad))
  (zaj (zpa (zqf (zpp W j) hr rfl W.g_2 W.F_2.kp W.b_2 (zej (dv 0) (zej (dv 1) (zej (zbq (zv4 W) (hr.mono (by omega)) rfl W.g_32 W.F_32.kp W.b_32 (zac (dv 2) (zac (dv 7) (zac (zhp (dv 10)) zag)))) (zej (DO.de (zdz (dv 3) (DO.de (zb3 (zac (zbu (zac (dv 7) (zac (zhp (dv 10)) zag))) zag))))) (znt 4 (zac (zah (dvC 6) zad) zag))))))))
  (zan (zt9 (zek (ze2 PySem.F.plainAttrs_list PySem.F.slot_list_append PySem.F.type_list_append zf5 (pv 4) (zdb (zbu (zac (dv 3) (zac (DO.de (zb3 (zac (zbu (zac (zbu (zac (dv 7) (zac (zhp (dv 10)) zag))) (zac (zbu (zac zbl (zac (dv 11) zag))) zag))) (zac (zbu (zac zfe (zac (zbu (zac zbl (zac (zay zm9 (zbw zc4 zc1 rfl W.z_len PySem.boot_len (zbd (zo3 4) zbt)) zad) zag))) zag))) zag)))) zag))) zdp)))))))))))))))
theorem zoz {a:Wa} (W:Wd K mg a) : zaw P w K mg base CX0 1 a.f_4 a.fd_4 ["_law_script","_law_k"] (spD ⟨K,cl a⟩ ["_law_script","_law_k"].length m_4) :=
 zbv (k:=0) (N:=["_law_script","_law_k"]) (F:=b_4) W.F_4 z46 fun cdv A outer s H E hr=>by
  unfold b_4
  exact (zaj (zbe (za2 zhr zhu (DE.db (dv 1)) (DE.db (zbw zc4 zc1 rfl W.z_len PySem.boot_len (zbd (DE.db (dv 0)) zbt)))) (zan (zax (zah (dvC 0) (dv 1)))) zbk)
  (zan (zax zad)))
theorem zy6 {a:Wa} (W:Wd K mg a) : zaw P w K mg base CX0 1 a.f_7 a.fd_7 ["_law_rules"] (spD ⟨K,cl a⟩ ["_law_rules"].length m_7) :=
 zbv (k:=0) (N:=["_law_rules","_law_found","_law_word","_law_head","_law_parts","_law_mine","_law_part_here"]) (F:=b_7) W.F_7 zhf fun cdv A outer s H E hr=>have hu:=hr.units; by
  unfold b_7
  exact (zaj (zfr 1 zhf.nd (zb3 zag))
  (zaj (zeh PassesOwn.never rfl (zb1 (dv 0)) (zcs rfl (zbn (zco 2 7 zhf.nd) (zbn (zco 3 7 zhf.nd) (zbn (zco 4 7 zhf.nd) zcu)))) (zaj (zfr 5 zhf.nd (zb3 zag))
  (zaj (zeh PassesOwn.never rfl (zb1 (dv 4)) (zco 6 7 zhf.nd) (zaj (zbe (za2 (zbj hu) zbm (DE.db (zbw zc4 zc1 rfl W.z_len PySem.boot_len (zbd (DE.db (dv 6)) zbt))) (DE.db zad)) (zan (zb5 6 zhf.nd (zbu (zac (zah (dvC 6) zad) (zac (zah (dvC 6) zad) (zac (DO.de (zg9 boot_list rfl W.z_list (DE.dc (zah (dvC 6) zad)))) zag)))))) zbk)
  (zan (zgj (zek (ze2 PySem.F.plainAttrs_list PySem.F.slot_list_append PySem.F.type_list_append zf5 (pv 5) (zdb (dv 6) zdp)))))))
  (zan (zf6 5 (zgj (zek (ze2 PySem.F.plainAttrs_list PySem.F.slot_list_append PySem.F.type_list_append zf5 (pv 1) (zdb (zbu (zac (dv 2) (zac (dv 3) (zac (dv 5) zag)))) zdp)))))))))
  (zan (zhm 1))))
theorem z8x {a:Wa} (W:Wd K mg a) : zaw P w K mg base CX0 1 a.f_19 a.fd_19 ["_law_kind","_law_many"] (spO ⟨K,cl a⟩ ["_law_kind","_law_many"].length zo9) :=
 z9b (k:=0) (N:=["_law_kind","_law_many","_law_rules","_law_k","_law_on","_law_part_here"]) (F:=b_19) W.F_19 zmo fun cdv A outer s H E hr=>by
  unfold b_19
  exact (zaj (zfr 2 zmo.nd (zb3 zag))
  (zaj (zeh PassesOwn.never rfl (zfh rfl W.z_range (zac (dv 1) zag)) (zco 3 6 zmo.nd) (zaj (zb5 4 zmo.nd (zay zb7 (zay zdm (dv 3) zad) (dv 1)))
  (zaj (zb5 5 zmo.nd (zah (DO.dc (zb3 (zac zfe (zac (zbu (zac zbl (zac (dv 3) zag))) (zac (zbu (zac zbl (zac (dv 3) zag))) (zac (zbu (zac zbl (zac zad (zac (DO.de (zb3 (zac (zbu (zac (dv 3) (zac zad zag))) (zac (zbu (zac (dv 4) (zac zad zag))) zag)))) zag)))) (zac (zbu (zac zbl (zac zad (zac (DO.de (zb3 (zac (zbu (zac (dv 3) (zac zad zag))) zag))) zag)))) zag))))))) (dv 0)))
  (zan (zbe (za2 zha zgv (DE.db (dv 5)) (DE.db zfe)) (zan (zgj (zek (ze2 PySem.F.plainAttrs_list PySem.F.slot_list_append PySem.F.type_list_append zf5 (pv 2) (zdb (zbu (zac (zah (DO.dc (zb3 (zac zbl (zac zbl zag)))) (zay zgn (zay zb7 (zay zf1 (dv 3) (dv 0)) zad) zad)) (zac (dv 4) (zac (DO.de (zb3 (zac (dv 5) zag))) zag)))) zdp))))) zbk)))))
  (zan (zhm 2))))
theorem z45 {a:Wa} (W:Wd K mg a) : zaw P w K mg base CX0 1 a.f_38 a.fd_38 ["_law_x"] (spD ⟨K,cl a⟩ ["_law_x"].length zme) :=
 zbv (k:=0) (N:=["_law_x"]) (F:=b_38) W.F_38 z38 fun cdv A outer s H E hr=>have hu:=hr.units; by
  unfold b_38
  exact (zaj (zbe (za2 (zbj hu) zbm (DE.db (zay zb7 (dv 0) zad)) (DE.db zad)) (zan (zax (zay zb7 (zay zf1 (zay zf1 (zay zf1 (dv 0) (dv 0)) (dv 0)) (dv 0)) (zay z24 zad zad)))) zbk)
  (zan (zax (zah (DO.dc (zb3 (zac zad (zac zad (zac zad (zac zad (zac zad (zac zad (zac zad (zac zad zag)))))))))) (zay zb7 (zay zgn (dv 0) zad) zad)))))
theorem z1u {a:Wa} (W:Wd K mg a) : zaw P w K mg base CX0 2 a.f_30 a.fd_30 ["_law_xs","_law_many"] (spD ⟨K,cl a⟩ ["_law_xs","_law_many"].length zn2) :=
 zbv (k:=1) (N:=["_law_xs","_law_many","_law_word","_law_items","_law_near"]) (F:=b_30) W.F_30 zni fun cdv A outer s H E hr=>have hu:=hr.units; by
  unfold b_30
  exact (zaj (zb5 2 zni.nd (zah (DO.dc (zb3 (zac zbl (zac zbl (zac zbl (zac zbl (zac zbl zag))))))) (zay zb7 (zah (dvC 0) zad) zad)))
  (zaj (zbe (DW.dt (zib (za2 (zbj hu) zbm (DE.db (dv 2)) (DE.db zbl)) (zh9 (za2 (zbj hu) zbm (DE.db (dv 2)) (DE.db zbl))))) (zan (zax (zbu (zac (dv 2) (zac (zay zb7 (zah (dvC 0) zad) (dv 1)) zag))))) zbk)
  (zaj (zgi 3 1 [1,0] ["_law_k","_law_many","_law_xs"] zni.nd rfl (DI.de (zfh rfl W.z_range (zac (zay zb7 (zah (dvC 0) zad) zad) zag))) (fun _ _ _ _ _=>(dgc 0 1)) (fun _ _ _ _ _=>zcl) (fun _ _ _ _ _=>(zbu (zac (zay zb7 (zah (zc5 2) (zay zdm zad (zay zf1 zad (dvc 0)))) (dvc 1)) (zac (zbq (z45 W) (hr.mono (by decide)) (glc rfl) W.g_38 W.F_38.kp W.b_38 (zac (zah (zc5 2) (zay zdm zad (zay zf1 zad (dvc 0)))) zag)) zag)))))
  (zaj (zb5 4 zni.nd (zbw (zgt rfl) zgq rfl W.z_sum boot_sum (zbd (DE.db (DO.de (zca 2 [] ["_law_thing","_law_worth_here"] rfl (DI.de (zb1 (DO.de (by refine zde ?a ?b ?c; (case a=>exact (dv 3)); (case b=>exact zdr); (case c=>exact (zc2 (zay zb7 (zah (dvC 0) zad) zad))))))) (fun _ _ _ _ _=>(zcs rfl (zbn (dgc 0 2) (zbn (dgc 1 2) zcu)))) (fun _ _ _ _ _=>zcl) (fun _ _ _ _ _=>(dvc 1))))) zbt)))
  (zan (zax (zbu (zac (dv 2) (zac (zay zm9 (zay zdm (dv 4) (zay zb7 (zay zgn (zah (dvC 0) zad) zad) zad)) zad) (zac (dv 3) zag))))))))))
theorem zzj {a:Wa} (W:Wd K mg a) : zaw P w K mg base CX0 3 a.f_39 a.fd_39 ["_law_cell","_law_many","_law_calm"] (spD ⟨K,cl a⟩ ["_law_cell","_law_many","_law_calm"].length zpz) :=
 zbv (k:=2) (N:=["_law_cell","_law_many","_law_calm","_law_xs","_law_parts"]) (F:=b_39) W.F_39 zo1 fun cdv A outer s H E hr=>have hu:=hr.units; by
  unfold b_39
  refine (zaj (zb5 3 zo1.nd (zbq (zlg W) (hr.mono (by decide)) rfl W.g_0 W.F_0.kp W.b_0 (zac (dv 0) (zac zad zag))))
  (zaj (zbe (za2 (zbj hu) zbm (DE.db (dv 1)) (DE.db zad)) ?hole0 zbk)
  (zaj (zgi 4 1 [1,3] ["_law_k","_law_many","_law_xs"] zo1.nd rfl (DI.de (zfh rfl W.z_range (zac (zah (DO.dc (zb3 (zac zad (zac zad (zac zad (zac zad (zac zad (zac zad zag)))))))) (zay zb7 (zah (dvC 3) zad) zad)) zag))) (fun _ _ _ _ _=>(dgc 0 1)) (fun _ _ _ _ _=>zcl) (fun _ _ _ _ _=>(zbq (z1u W) (hr.mono (by decide)) (glc rfl) W.g_30 W.F_30.kp W.b_30 (zac (DO.de (by refine zde ?a ?b ?c; (case a=>exact (dvc 2)); (case b=>exact (zc2 (zay zdm zad (zay zf1 zad (dvc 0))))); (case c=>exact (zc2 (zay zdm zad (zay zf1 zad (dvc 0))))))) (zac (dvc 1) zag)))))
  (zaj (zbe (DW.dt (ze1 (za2 (zbj hu) zbm (DE.db (zay zb7 (zah (dvC 3) zad) zad)) (DE.db zad)) (ze1 (zf7 (zcx (DE.db (dv 2)))) (zf0 (DW.dt (zib (za2 (zhd hu) zhb (DE.db (dv 4)) (DE.db (DO.de (zb3 zag)))) (zh9 (za2 (zbj hu) zbm (DE.db (zay zb7 (zah (dvC 3) zad) zad)) (DE.db zad))))))))) (zan (zax (zbu (zac zbl (zac zfe (zac (dv 4) zag)))))) zbk)
  (zan (zax (zbu (zac (zah (DO.dc (zb3 (zac zbl (zac zbl zag)))) (zay zb7 (zay zgn (zah (dvC 3) zad) zad) zad)) (zac (zay zb7 (zay zgn (zah (dvC 3) zad) zad) (dv 1)) (zac (dv 4) zag))))))))))
  (case hole0=>refine zan ?_; refine zax ?_; refine zbu ?_; refine zac ?_ ?_; (focus exact zbl); refine zac ?_ ?_; (focus exact zfe); refine zac ?_ ?_; (focus (refine DO.de ?_; exact (by refine zde ?a ?b ?c; (case a=>exact (DO.de (zb3 (zac (zbu (zac (zah (DO.dc (zb3 (zac zbl (zac zbl zag)))) (zay zb7 (zah (dvC 3) zad) zad)) (zac (zay zm9 (zay zb7 (zah (dvC 3) zad) zad) zad) (zac (DO.de (zb3 zag)) zag)))) zag)))); (case b=>exact zdr); (case c=>exact (zc2 (zay zb7 (zah (dvC 3) zad) zad)))))); exact zag)
theorem z5b {a:Wa} (W:Wd K mg a) : zaw P w K mg base CX0 1 a.f_10 a.fd_10 ["_law_line","_law_x"] (spD ⟨K,cl a⟩ ["_law_line","_law_x"].length zrw) :=
 zbv (k:=0) (N:=["_law_line","_law_x","_law_bar","_law_steps","_law_at","_law_pair","_law_why"]) (F:=b_10) W.F_10 zhq fun cdv A outer s H E hr=>have hu:=hr.units; by
  unfold b_10
  refine (zaj (znb (dv 0) (zcs rfl (zbn (zco 2 7 zhq.nd) (zbn (zco 3 7 zhq.nd) zcu))))
  (zaj (zb5 4 zhq.nd (zay zb7 (dv 1) (zbw zc4 zc1 rfl W.z_len PySem.boot_len (zbd (DE.db (dv 3)) zbt))))
  (zaj (znb (zah (dvC 3) (dv 4)) (zcs rfl (zbn (zco 5 7 zhq.nd) (zbn (zco 6 7 zhq.nd) zcu))))
  (zaj (zbe (za2 (zbj hu) zbm (DE.db (zah (dvC 6) zad)) (DE.db zbl)) (zan (zb5 6 zhq.nd (zbu (zac zbl (zac (DO.de (by refine zde ?a ?b ?c; (case a=>exact (zah (dvC 6) zad)); (case b=>exact (zc2 zad)); (case c=>exact zdr))) zag))))) (zan (zb5 6 zhq.nd (zbu (zac (zah (dvC 6) zad) (zac (zay zdm (zah (dvC 6) zad) zad) zag))))))
  ?hole0))))
  (case hole0=>refine zan ?_; refine zax ?_; refine zbu ?_; refine zac ?_ ?_; (focus exact (dv 2)); refine zac ?_ ?_; (focus (refine DO.de ?_; exact (zdz (DO.de (zdz (DO.de (by refine zde ?a ?b ?c; (case a=>exact (dv 3)); (case b=>exact zdr); (case c=>exact (zc2 (dv 4))))) (DO.de (zb3 (zac (zbu (zac (dv 5) (zac (dv 6) zag))) zag))))) (DO.de (by refine zde ?a ?b ?c; (case a=>exact (dv 3)); (case b=>exact (zc2 (zay zdm (dv 4) zad))); (case c=>exact zdr)))))); exact zag)
theorem z5p {a:Wa} (W:Wd K mg a) : zaw P w K mg base CX0 2 a.f_13 a.fd_13 ["_law_sets","_law_lines","_law_cell","_law_many"] (spD ⟨K,cl a⟩ ["_law_sets","_law_lines","_law_cell","_law_many"].length zrh) :=
 zbv (k:=1) (N:=["_law_sets","_law_lines","_law_cell","_law_many","_law_xs","_law_way","_law_at","_law_thing","_law_mine"]) (F:=b_13) W.F_13 zh8 fun cdv A outer s H E hr=>have hu:=hr.units; by
  unfold b_13
  refine (zaj (zb5 4 zh8.nd (zbq (zlg W) (hr.mono (by decide)) rfl W.g_0 W.F_0.kp W.b_0 (zac (dv 2) (zac zad zag))))
  (zaj (zb5 5 zh8.nd (zay zb7 (zah (dvC 4) zad) zad))
  (zaj (zb5 6 zh8.nd (zay zb7 (zah (dvC 4) zad) (zbw zc4 zc1 rfl W.z_len PySem.boot_len (zbd (DE.db (dv 1)) zbt))))
  (zaj (zbe (za2 (zbj hu) zbm (DE.db (dv 5)) (DE.db zad)) ?hole0 zbk)
  (zaj (zbe (za2 (zbj hu) zbm (DE.db (dv 5)) (DE.db zad)) ?hole1 zbk)
  (zaj (zbe (za2 (zbj hu) zbm (DE.db (dv 5)) (DE.db zad)) ?hole2 zbk)
  (zaj (zbe (za2 (zbj hu) zbm (DE.db (dv 5)) (DE.db zad)) ?hole3 zbk)
  (zaj (zbe (DW.dt (ze1 (za2 (zbj hu) zbm (DE.db (dv 5)) (DE.db zad)) (zf0 (za2 (zhd hu) zhb (DE.db (dv 0)) (DE.db (DO.de (zb3 zag))))))) ?hole4 zbk)
  (zaj (zbe (DW.dt (ze1 (za2 (zbj hu) zbm (DE.db (dv 5)) (DE.db zad)) (ze1 (za2 (zhd hu) zhb (DE.db (dv 0)) (DE.db (DO.de (zb3 zag)))) (zf0 (za2 zif ziv (DE.db (dv 3)) (DE.db zad)))))) (zaj (zb5 7 zh8.nd (zay zb7 (zah (dvC 4) zad) (dv 3)))
  (zaj (zgi 8 1 [7] ["_law_one","_law_thing"] zh8.nd rfl (DI.de (zb1 (zah (dvC 0) (zja zad)))) (fun _ _ _ _ _=>(dgc 0 1)) (fun _ _ _ _ _=>(zdt (za2 (zhd hu) zhb (DE.db (dvc 0)) (DE.db (dvc 1))))) (fun _ _ _ _ _=>(dvc 0)))
  (zaj (zbe (za2 (zbj hu) zbm (DE.db (dv 8)) (DE.db (zah (dvC 0) (zja zad)))) (zan (zb5 8 zh8.nd (DO.de (z7u rfl rfl W.z_sorted (DO.de (zdz (dv 8) (DO.de (zb3 (zac (dv 7) zag))))))))) zbk)
  ?hole5))) zbk)
  (zaj (zbe (DW.dt (zib (za2 (zbj hu) zbm (DE.db (dv 5)) (DE.db zad)) (zh9 (za2 (zbj hu) zbm (DE.db (dv 5)) (DE.db zad))))) ?hole6 zbk)
  (zaj (zbe (za2 (zbj hu) zbm (DE.db (dv 5)) (DE.db zad)) (zan (zax (zbu (zac (dv 0) (zac (DO.de (zdz (dv 1) (DO.de (zb3 (zac (zah (dvC 1) (zah (DO.dc (zb3 (zac (zja zad) (zac zad zag)))) (zay zb7 (zah (dvC 4) zad) zad))) zag))))) zag))))) zbk)
  (zaj (zbe (za2 (zbj hu) zbm (DE.db (dv 5)) (DE.db zad)) ?hole7 zbk)
  (zan (zax (zbu (zac (dv 0) (zac (dv 1) zag)))))))))))))))))
  (case hole0=>refine zan ?_; refine zax ?_; refine zbu ?_; refine zac ?_ ?_; (focus exact (dv 0)); refine zac ?_ ?_; (focus (refine DO.de ?_; exact (by refine zde ?a ?b ?c; (case a=>exact (dv 1)); (case b=>exact zdr); (case c=>exact (zc2 (zja zad)))))); exact zag)
  (case hole1=>refine zan ?_; refine zax ?_; refine zbu ?_; refine zac ?_ ?_; (focus exact (dv 0)); refine zac ?_ ?_; (focus (refine DO.de ?_; exact (zdz (DO.de (by refine zde ?a ?b ?c; (case a=>exact (dv 1)); (case b=>exact zdr); (case c=>exact (zc2 (dv 6))))) (DO.de (by refine zde ?a ?b ?c; (case a=>exact (dv 1)); (case b=>exact (zc2 (zay zdm (dv 6) zad))); (case c=>exact zdr)))))); exact zag)
  (case hole2=>refine zan ?_; refine zax ?_; refine zbu ?_; refine zac ?_ ?_; (focus exact (dv 0)); refine zac ?_ ?_; (focus (refine DO.de ?_; exact (zdz (DO.de (by refine zde ?a ?b ?c; (case a=>exact (dv 1)); (case b=>exact zdr); (case c=>exact (zc2 (zay zdm (dv 6) zad))))) (DO.de (by refine zde ?a ?b ?c; (case a=>exact (dv 1)); (case b=>exact (zc2 (dv 6))); (case c=>exact zdr)))))); exact zag)
  (case hole3=>refine zan ?_; refine zax ?_; refine zbu ?_; refine zac ?_ ?_; (focus exact (dv 0)); refine zac ?_ ?_; (focus (refine DO.de ?_; exact (zdz (DO.de (by refine zde ?a ?b ?c; (case a=>exact (dv 1)); (case b=>exact (zc2 (dv 6))); (case c=>exact zdr))) (DO.de (by refine zde ?a ?b ?c; (case a=>exact (dv 1)); (case b=>exact zdr); (case c=>exact (zc2 (dv 6)))))))); exact zag)
  (case hole4=>refine zan ?_; refine zax ?_; refine zbu ?_; refine zac ?_ ?_; (focus (refine DO.de ?_; exact (by refine zde ?a ?b ?c; (case a=>exact (dv 0)); (case b=>exact (zc2 zad)); (case c=>exact zdr)))); refine zac ?_ ?_; (focus exact (dv 1)); exact zag)
  (case hole5=>refine zan ?_; refine zax ?_; refine zbu ?_; refine zac ?_ ?_; (focus (refine DO.de ?_; exact (zdz (DO.de (by refine zde ?a ?b ?c; (case a=>exact (dv 0)); (case b=>exact zdr); (case c=>exact (zc2 (zja zad))))) (DO.de (zb3 (zac (dv 8) zag)))))); refine zac ?_ ?_; (focus exact (dv 1)); exact zag)
  (case hole6=>refine zan ?_; refine zax ?_; refine zbu ?_; refine zac ?_ ?_; (focus exact (dv 0)); refine zac ?_ ?_; (focus (refine DO.de ?_; exact (zdz (DO.de (zdz (DO.de (by refine zde ?a ?b ?c; (case a=>exact (dv 1)); (case b=>exact zdr); (case c=>exact (zc2 (dv 6))))) (DO.de (zb3 (zac (zbq (z5b W) (hr.mono (by decide)) rfl W.g_10 W.F_10.kp W.b_10 (zac (zah (dvC 1) (dv 6)) (zac (zah (dvC 4) zad) zag))) zag))))) (DO.de (by refine zde ?a ?b ?c; (case a=>exact (dv 1)); (case b=>exact (zc2 (zay zdm (dv 6) zad))); (case c=>exact zdr)))))); exact zag)
  (case hole7=>refine zan ?_; refine zax ?_; refine zbu ?_; refine zac ?_ ?_; (focus exact (dv 0)); refine zac ?_ ?_; (focus (refine DO.de ?_; exact (by refine zde ?a ?b ?c; (case a=>exact (dv 1)); (case b=>exact zdr); (case c=>exact (zc2 zad))))); exact zag)
theorem zw4 {a:Wa} (W:Wd K mg a) : zaw P w K mg base CX0 1 a.f_53 a.fd_53 ["_law_part_here","_law_rising","_law_held"] (spD ⟨K,cl a⟩ ["_law_part_here","_law_rising","_law_held"].length zry) :=
 zbv (k:=0) (N:=["_law_part_here","_law_rising","_law_held"]) (F:=b_53) W.F_53 z1z fun cdv A outer s H E hr=>have hu:=hr.units; by
  unfold b_53
  exact (zaj (zbe (za2 (zbj hu) zbm (DE.db (zah (dvC 0) zad)) (DE.db zbl)) (zan (zax (zah (dvC 1) (zah (dvC 0) zad)))) zbk)
  (zaj (zbe (za2 (zbj hu) zbm (DE.db (zah (dvC 0) zad)) (DE.db zbl)) (zan (zax (zhp (zah (dvC 2) (zah (dvC 0) zad))))) zbk)
  (zaj (zbe (za2 (zbj hu) zbm (DE.db (zah (dvC 0) zad)) (DE.db zbl)) (zan (zax (zb6 zpg zq0 (DE.db (zbw (zgt rfl) zgq rfl W.z_sum boot_sum (zbd (DE.db (DO.de (zca 2 [1] ["_law_thing","_law_worth_here","_law_rising"] rfl (DI.de (zb1 (zah (dvC 0) zad))) (fun _ _ _ _ _=>(zcs rfl (zbn (dgc 0 2) (zbn (dgc 1 2) zcu)))) (fun _ _ _ _ _=>(zdt (zcx (DE.db (zah (zc5 2) (dvc 0)))))) (fun _ _ _ _ _=>(dvc 1))))) zbt))) (DE.db (zah (dvC 0) zad))))) zbk)
  (zan (zax (zb6 zm7 zn5 (DE.db (zbw (zgt rfl) zgq rfl W.z_sum boot_sum (zbd (DE.db (DO.de (zca 2 [2] ["_law_thing","_law_worth_here","_law_held"] rfl (DI.de (zb1 (zah (dvC 0) zad))) (fun _ _ _ _ _=>(zcs rfl (zbn (dgc 0 2) (zbn (dgc 1 2) zcu)))) (fun _ _ _ _ _=>(zdt (zcx (DE.db (zah (zc5 2) (dvc 0)))))) (fun _ _ _ _ _=>(dvc 1))))) zbt))) (DE.db (zah (dvC 0) zad))))))))
theorem z0h {a:Wa} (W:Wd K mg a) : zaw P w K mg base CX0 3 a.f_9 a.fd_9 ["_law_rules","_law_held"] (spD ⟨K,cl a⟩ ["_law_rules","_law_held"].length m_9) :=
 zbv (k:=2) (N:=["_law_rules","_law_held","_law_rising","_law_turn","_law_word","_law_head","_law_parts"]) (F:=b_9) W.F_9 zk6 fun cdv A outer s H E hr=>have hu:=hr.units; by
  unfold b_9
  exact (zaj (zbe (zcx (DE.db (zbw (zgs rfl) zgp rfl W.z_any boot_any (zbd (DE.db (DO.de (zca 1 [1] ["_law_rule_here","_law_held"] rfl (DI.de (zb1 (dv 0))) (fun _ _ _ _ _=>(dgc 0 1)) (fun _ _ _ _ _=>zcl) (fun _ _ _ _ _=>(zbq (zqt W) (hr.mono (by decide)) (glc rfl) W.g_5 W.F_5.kp W.b_5 (zac (dvc 0) (zac (dvc 1) zag))))))) zbt)))) (zan (zax zb2)) zbk)
  (zaj (zfr 2 zk6.nd (zca 1 [] ["_law_truth"] rfl (DI.de (zb1 (dv 1))) (fun _ _ _ _ _=>(dgc 0 1)) (fun _ _ _ _ _=>zcl) (fun _ _ _ _ _=>zb2)))
  (zaj (zeh PassesOwn.never rfl (zfh rfl W.z_range (zac (zbw zc4 zc1 rfl W.z_len PySem.boot_len (zbd (DE.db (dv 1)) zbt)) zag)) (zco 3 7 zk6.nd) (zan (zeh PassesOwn.never rfl (zb1 (dv 0)) (zcs rfl (zbn (zco 4 7 zk6.nd) (zbn (zco 5 7 zk6.nd) (zbn (zco 6 7 zk6.nd) zcu)))) (zan (zbe (DW.dt (ze1 (za2 (zhd hu) zhb (DE.db (dv 4)) (DE.db zbl)) (ze1 (zcx (DE.db (zah (dvC 1) (dv 5)))) (zf0 (zf7 (zcx (DE.db (zah (dvC 2) (dv 5))))))))) (zan (zls (pv 2) (dv 5) (zbw (zml rfl) zlo rfl W.z_all boot_all (zbd (DE.db (DO.de (zca 1 [2,1] ["_law_part_here","_law_rising","_law_held"] rfl (DI.de (zb1 (dv 6))) (fun _ _ _ _ _=>(dgc 0 1)) (fun _ _ _ _ _=>zcl) (fun _ _ _ _ _=>(z9q (zw4 W) (hr.mono (by decide)) (glc rfl) W.g_53 W.F_53.kp W.b_53 (zbd (DE.db (dvc 0)) (zbd (z4d 1) (zbd (DE.db (dvc 2)) zbt)))))))) zbt)))) zbk)))))
  (zan (zf6 2 (zax (zb6 (zbj hu) zbm (DE.db (dv 2)) (DE.db (dv 1)))))))))
theorem zys {a:Wa} (W:Wd K mg a) : zaw P w K mg base CX0 4 a.f_33 a.fd_33 ["_law_many","_law_rules"] (spD ⟨K,cl a⟩ ["_law_many","_law_rules"].length zrx) :=
 zbv (k:=3) (N:=["_law_many","_law_rules","_law_rows","_law_k","_law_held"]) (F:=b_33) W.F_33 zmf fun cdv A outer s H E hr=>by
  unfold b_33
  exact (zaj (zb5 2 zmf.nd (DO.de (zb3 (zac (DO.de (zb3 zag)) zag))))
  (zaj (zeh PassesOwn.never rfl (zfh rfl W.z_range (zac (dv 0) zag)) (zco 3 5 zmf.nd) (zan (zb5 2 zmf.nd (DO.de (zdz (DO.de (zca 1 [] ["_law_row"] rfl (DI.de (zb1 (dv 2))) (fun _ _ _ _ _=>(dgc 0 1)) (fun _ _ _ _ _=>zcl) (fun _ _ _ _ _=>(DO.de (zdz (dvc 0) (DO.de (zb3 (zac zb2 zag)))))))) (DO.de (zca 1 [] ["_law_row"] rfl (DI.de (zb1 (dv 2))) (fun _ _ _ _ _=>(dgc 0 1)) (fun _ _ _ _ _=>zcl) (fun _ _ _ _ _=>(DO.de (zdz (dvc 0) (DO.de (zb3 (zac zb2 zag)))))))))))))
  (zaj (zgi 4 1 [1] ["_law_row","_law_rules"] zmf.nd rfl (DI.de (zb1 (dv 2))) (fun _ _ _ _ _=>(dgc 0 1)) (fun _ _ _ _ _=>(zdt (zcx (DE.db (zbq (z0h W) (hr.mono (by decide)) (glc rfl) W.g_9 W.F_9.kp W.b_9 (zac (dvc 1) (zac (dvc 0) zag))))))) (fun _ _ _ _ _=>(dvc 0)))
  (zan (zlh (zca 1 [] ["_law_row"] rfl (DI.de (zb1 (dv 4))) (fun _ _ _ _ _=>(dgc 0 1)) (fun _ _ _ _ _=>zcl) (fun _ _ _ _ _=>(DO.de (zca 2 [] ["_law_thing","_law_truth"] rfl (DI.de (zji (glc rfl) W.z_enumerate (zac (dvc 0) zag))) (fun _ _ _ _ _=>(zcs rfl (zbn (dgc 0 2) (zbn (dgc 1 2) zcu)))) (fun _ _ _ _ _=>(zdt (zcx (DE.db (dvc 1))))) (fun _ _ _ _ _=>(dvc 0)))))))))))
theorem z23 {a:Wa} (W:Wd K mg a) : zaw P w K mg base CX0 1 a.f_28 a.fd_28 ["many","bar"] (spD ⟨K,cl a⟩ ["many","bar"].length zmw) :=
 zbv (k:=0) (N:=["many","bar","thing","sheet","truth"]) (F:=b_28) W.F_28 zn0 fun cdv A outer s H E hr=>by
  unfold b_28
  exact (zaj (zow 3 1 [] ["thing"] zn0.nd rfl (DI.de (zfh rfl W.z_range (zac (dv 0) zag))) (fun _ _ _ _ _=>(dgc 0 1)) (fun _ _ _ _ _=>zcl) (fun _ _ _ _ _=>zfe))
  (zaj (zeh PassesOwn.never rfl (zb1 (dv 1)) (zcs rfl (zbn (zco 2 5 zn0.nd) (zbn (zco 4 5 zn0.nd) zcu))) (zan (zls (pv 3) (dv 2) (dv 4))))
  (zan (zhm 3))))
theorem z6a {a:Wa} (W:Wd K mg a) : zaw P w K mg base CX0 1 a.f_40 a.fd_40 ["sheet","thing","truth"] (spD ⟨K,cl a⟩ ["sheet","thing","truth"].length zrg) :=
 zbv (k:=0) (N:=["sheet","thing","truth","other"]) (F:=b_40) W.F_40 zsv fun cdv A outer s H E hr=>by
  unfold b_40
  exact (zaj (zfr 3 zsv.nd (zg9 boot_list rfl W.z_list (dvC 0)))
  (zaj (zls (pv 3) (dv 1) (dv 2))
  (zan (zhm 3))))
theorem z1b {a:Wa} (W:Wd K mg a) : zaw P w K mg base CX0 1 a.f_51 a.fd_51 ["sheet","bar"] (spD ⟨K,cl a⟩ ["sheet","bar"].length zp1) :=
 zbv (k:=0) (N:=["sheet","bar"]) (F:=b_51) W.F_51 z9a fun cdv A outer s H E hr=>have hu:=hr.units; by
  unfold b_51
  exact (zan (zax (zbw (zml rfl) zlo rfl W.z_all boot_all (zbd (DE.db (DO.de (zca 2 [0] ["thing","truth","sheet"] rfl (DI.de (zb1 (dv 1))) (fun _ _ _ _ _=>(zcs rfl (zbn (dgc 0 2) (zbn (dgc 1 2) zcu)))) (fun _ _ _ _ _=>zcl) (fun _ _ _ _ _=>(zb6 (zbj hu) zbm (DE.db (zah (zc5 2) (dvc 0))) (DE.db (dvc 1))))))) zbt))))
theorem zo8 {a:Wa} (W:Wd K mg a) : zaw P w K mg base CX0 1 a.f_3 a.fd_3 ["listed","number"] (spD ⟨K,cl a⟩ ["listed","number"].length m_3) :=
 zbv (k:=0) (N:=["listed","number"]) (F:=b_3) W.F_3 zxb fun cdv A outer s H E hr=>by
  unfold b_3
  exact (zan (zax (z8g zm7 zn5 zhr zhu (DE.db zad) (DE.db (dv 1)) (DE.db (zbw zc4 zc1 rfl W.z_len PySem.boot_len (zbd (DE.db (dv 0)) zbt))))))
theorem zu6 {a:Wa} (W:Wd K mg a) : zaw P w K mg base CX0 1 a.f_6 a.fd_6 ["many","some"] (spD ⟨K,cl a⟩ ["many","some"].length m_6) :=
 zbv (k:=0) (N:=["many","some","listed","thing"]) (F:=b_6) W.F_6 zp4 fun cdv A outer s H E hr=>have hu:=hr.units; by
  unfold b_6
  exact (zaj (z6w 2 zp4.nd)
  (zaj (zeh PassesOwn.never rfl (zb1 (dv 1)) (zco 3 4 zp4.nd) (zan (zww hu (pv 2) (dv 3) zb2)))
  (zan (zf6 2 (zlh (zca 1 [2] ["thing","listed"] rfl (DI.de (zfh rfl W.z_range (zac (dv 0) zag))) (fun _ _ _ _ _=>(dgc 0 1)) (fun _ _ _ _ _=>zcl) (fun _ _ _ _ _=>(z6s hu (dvc 0) (dvc 1)))))))))
theorem z4f {a:Wa} (W:Wd K mg a) : zaw P w K mg base CX0 1 a.f_52 a.fd_52 ["sheet","things"] (spD ⟨K,cl a⟩ ["sheet","things"].length zqe) :=
 zbv (k:=0) (N:=["sheet","things"]) (F:=b_52) W.F_52 z8y fun cdv A outer s H E hr=>by
  unfold b_52
  exact (zan (zax (zbw (zgs rfl) zgp rfl W.z_any boot_any (zbd (DE.db (DO.de (zca 1 [0] ["thing","sheet"] rfl (DI.de (zb1 (dv 1))) (fun _ _ _ _ _=>(dgc 0 1)) (fun _ _ _ _ _=>zcl) (fun _ _ _ _ _=>(zb6 zd3 zd1 (DE.db (zah (zc5 1) (dvc 0))) (DE.db zb2)))))) zbt))))
theorem zzf {a:Wa} (W:Wd K mg a) : zaw P w K mg base CX0 1 a.f_14 a.fd_14 ["self","sheet","without"] (spD ⟨K,cl a⟩ ["self","sheet","without"].length m_14) :=
 zbv (k:=0) (N:=["self","sheet","without"]) (F:=b_14) W.F_14 z0q fun cdv A outer s H E hr=>by
  unfold b_14
  exact (zan (zax (zur (zb6 zd3 zd1 (DE.db (zah (dvC 1) (zfj "In" (zlc W) (zmx W) (dv 0)))) (DE.db zb2)) (zgl (zah (dvC 2) (zfj "In" (zlc W) (zmx W) (dv 0)))))))
theorem z5a {a:Wa} (W:Wd K mg a) : zaw P w K mg base CX0 1 a.f_47 a.fd_47 ["items","without"] (spD ⟨K,cl a⟩ ["items","without"].length zo0) :=
 zbv (k:=0) (N:=["items","without"]) (F:=b_47) W.F_47 z1r fun cdv A outer s H E hr=>by
  unfold b_47
  exact (zan (zlh (zca 1 [1] ["item","without"] rfl (DI.de (zb1 (dv 0))) (fun _ _ _ _ _=>(dgc 0 1)) (fun _ _ _ _ _=>(zdt (zf7 (zcx (DE.db (zah (zc5 1) (zah (zc5 0) zad))))))) (fun _ _ _ _ _=>(dvc 0)))))
theorem zvc {a:Wa} (W:Wd K mg a) : zaw P w K mg base CX0 1 a.f_18 a.fd_18 ["items","sheet"] (spD ⟨K,cl a⟩ ["items","sheet"].length zld) :=
 zbv (k:=0) (N:=["items","sheet"]) (F:=b_18) W.F_18 zxo fun cdv A outer s H E hr=>by
  unfold b_18
  exact (zan (zax (zbw (zgt rfl) zgq rfl W.z_sum boot_sum (zbd (DE.db (DO.de (zca 2 [1] ["thing","worth","sheet"] rfl (DI.de (zb1 (dv 0))) (fun _ _ _ _ _=>(zcs rfl (zbn (dgc 0 2) (zbn (dgc 1 2) zcu)))) (fun _ _ _ _ _=>(zdt (za2 zha zgv (DE.db (zah (zc5 2) (dvc 0))) (DE.db zb2)))) (fun _ _ _ _ _=>(dvc 1))))) zbt))))
theorem z1y {a:Wa} (W:Wd K mg a) : zaw P w K mg base CX0 2 a.f_16 a.fd_16 ["self","sheet","without"] (spD ⟨K,cl a⟩ ["self","sheet","without"].length m_16) :=
 zbv (k:=1) (N:=["self","sheet","without"]) (F:=b_16) W.F_16 z0e fun cdv A outer s H E hr=>by
  unfold b_16
  exact (zan (zax (zb6 zhr zhu (DE.db (zbq (zvc W) (hr.mono (by decide)) rfl W.g_18 W.F_18.kp W.b_18 (zac (zbq (z5a W) (hr.mono (by decide)) rfl W.g_47 W.F_47.kp W.b_47 (zac (zfj "Least" (zht W) (zqb W) (dv 0)) (zac (dv 2) zag))) (zac (dv 1) zag)))) (DE.db (zfj "Least" (zht W) (zqv W) (dv 0))))))
theorem zvq {a:Wa} (W:Wd K mg a) : zaw P w K mg base CX0 1 a.f_26 a.fd_26 ["items","entries"] (spD ⟨K,cl a⟩ ["items","entries"].length zm5) :=
 zbv (k:=0) (N:=["items","entries"]) (F:=b_26) W.F_26 zw8 fun cdv A outer s H E hr=>by
  unfold b_26
  exact (zan (zax (zbw (zgt rfl) zgq rfl W.z_sum boot_sum (zbd (DE.db (DO.de (zca 2 [1] ["thing","worth","entries"] rfl (DI.de (zb1 (dv 0))) (fun _ _ _ _ _=>(zcs rfl (zbn (dgc 0 2) (zbn (dgc 1 2) zcu)))) (fun _ _ _ _ _=>(zdt (za2 zd3 zd1 (DE.db (zah (zc5 2) (dvc 0))) (DE.db zb2)))) (fun _ _ _ _ _=>(dvc 1))))) zbt))))
theorem z4x {a:Wa} (W:Wd K mg a) : zaw P w K mg base CX0 2 a.f_17 a.fd_17 ["self","sheet","without"] (spD ⟨K,cl a⟩ ["self","sheet","without"].length m_17) :=
 zbv (k:=1) (N:=["self","sheet","without"]) (F:=b_17) W.F_17 z8c fun cdv A outer s H E hr=>by
  unfold b_17
  exact (zan (zax (zb6 zif ziv (DE.db (zbq (zvq W) (hr.mono (by decide)) rfl W.g_26 W.F_26.kp W.b_26 (zac (zfj "Most" (zhh W) (zqo W) (dv 0)) (zac (dv 1) zag)))) (DE.db (zfj "Most" (zhh W) (zql W) (dv 0))))))
theorem zxh {a:Wa} (W:Wd K mg a) : zaw P w K mg base CX0 1 a.f_15 a.fd_15 ["self","sheet","without"] (spD ⟨K,cl a⟩ ["self","sheet","without"].length m_15) :=
 zbv (k:=0) (N:=["self","sheet","without"]) (F:=b_15) W.F_15 z9i fun cdv A outer s H E hr=>by
  unfold b_15
  exact (zan (zax (zb6 zd3 zd1 (DE.db (zah (dvC 1) (zfj "Out" (zmk W) (zra W) (dv 0)))) (DE.db zb2))))
theorem z2x {a:Wa} (W:Wd K mg a) : zaw P w K mg base CX0 1 a.f_54 a.fd_54 ["self","thing"] (spI ⟨K,cl a⟩ "In" ["self","thing"].length zwh) :=
 zoe (k:=0) (N:=["self","thing"]) (cn:="In") W.F_54 z76 fun cdv A outer s H E hr=>(zkl (zlc W) (zmx W) (pv 0) (dv 1) zne)
theorem z3s {a:Wa} (W:Wd K mg a) : zaw P w K mg base CX0 1 a.f_56 a.fd_56 ["self","bound","items"] (spI ⟨K,cl a⟩ "Least" ["self","bound","items"].length zwa) :=
 zoe (k:=0) (N:=["self","bound","items"]) (cn:="Least") W.F_56 z9s fun cdv A outer s H E hr=>(zkl (zht W) (zqv W) (pv 0) (dv 1) (zkl (zht W) (zqb W) (pv 0) (DO.de (zg9 boot_list rfl W.z_list (dvC 2))) zne))
theorem z5j {a:Wa} (W:Wd K mg a) : zaw P w K mg base CX0 1 a.f_57 a.fd_57 ["self","bound","items"] (spI ⟨K,cl a⟩ "Most" ["self","bound","items"].length zte) :=
 zoe (k:=0) (N:=["self","bound","items"]) (cn:="Most") W.F_57 zz1 fun cdv A outer s H E hr=>(zkl (zhh W) (zql W) (pv 0) (dv 1) (zkl (zhh W) (zqo W) (pv 0) (DO.de (zg9 boot_list rfl W.z_list (dvC 2))) zne))
theorem z7w {a:Wa} (W:Wd K mg a) : zaw P w K mg base CX0 1 a.f_55 a.fd_55 ["self","thing"] (spI ⟨K,cl a⟩ "Out" ["self","thing"].length zs3) :=
 zoe (k:=0) (N:=["self","thing"]) (cn:="Out") W.F_55 z1k fun cdv A outer s H E hr=>(zkl (zmk W) (zra W) (pv 0) (dv 1) zne)
theorem z6u {a:Wa} (W:Wd K mg a) : zaw P w K mg base CX0 3 a.f_44 a.fd_44 ["told"] (spD ⟨K,cl a⟩ ["told"].length zos) :=
 zbv (k:=2) (N:=["told","word"]) (F:=b_44) W.F_44 zv3 fun cdv A outer s H E hr=>have hu:=hr.units; by
  unfold b_44
  exact (zaj (zb5 1 zv3.nd (zah (dvC 0) zad))
  (zaj (zbe (za2 (zbj hu) zbm (DE.db (dv 1)) (DE.db zbl)) (zan (zax (zna "In" (zyw W) (z2x W) (hr.mono (by decide)) rfl (z9d W) W.b_54 (zac (zah (dvC 0) zad) zag)))) zbk)
  (zaj (zbe (za2 (zbj hu) zbm (DE.db (dv 1)) (DE.db zbl)) (zan (zax (zna "Out" (z1j W) (z7w W) (hr.mono (by decide)) rfl (z53 W) W.b_55 (zac (zah (dvC 0) zad) zag)))) zbk)
  (zaj (zbe (za2 (zbj hu) zbm (DE.db (dv 1)) (DE.db zbl)) (zan (zax (zna "Least" (z1x W) (z3s W) (hr.mono (by decide)) rfl (z6g W) W.b_56 (zac (zah (dvC 0) zad) (zac (zah (dvC 0) zad) zag))))) zbk)
  (zan (zax (zna "Most" (zx7 W) (z5j W) (hr.mono (by decide)) rfl (z7r W) W.b_57 (zac (zah (dvC 0) zad) (zac (zah (dvC 0) zad) zag)))))))))
theorem ztj {a:Wa} (W:Wd K mg a) : zaw P w K mg base CX0 4 a.f_27 a.fd_27 ["rule"] (spD ⟨K,cl a⟩ ["rule"].length znc) :=
 zbv (k:=3) (N:=["rule"]) (F:=b_27) W.F_27 z9m fun cdv A outer s H E hr=>by
  unfold b_27
  exact (zan (zlh (zca 1 [] ["told"] rfl (DI.de (zb1 (zah (dvC 0) zad))) (fun _ _ _ _ _=>(dgc 0 1)) (fun _ _ _ _ _=>zcl) (fun _ _ _ _ _=>(zbq (z6u W) (hr.mono (by decide)) (glc rfl) W.g_44 W.F_44.kp W.b_44 (zac (dvc 0) zag))))))
theorem zza {a:Wa} (W:Wd K mg a) : zaw P w K mg base CX0 5 a.f_49 a.fd_49 ["rule","sheet","without"] (spD ⟨K,cl a⟩ ["rule","sheet","without"].length zp3) :=
 zbv (k:=4) (N:=["rule","sheet","without"]) (F:=b_49) W.F_49 zzi fun cdv A outer s H E hr=>by
  unfold b_49
  exact (zan (zax (zbw (zgs rfl) zgp rfl W.z_any boot_any (zbd (DE.db (DO.de (zca 1 [1,2] ["part","sheet","without"] rfl (DI.de (zb1 (zbq (ztj W) (hr.mono (by decide)) rfl W.g_27 W.F_27.kp W.b_27 (zac (dv 0) zag)))) (fun _ _ _ _ _=>(dgc 0 1)) (fun _ _ _ _ _=>zcl) (fun _ _ _ _ _=>(DE.orE (zho "In" (dvc 0) (zlc W) (z50 W) (zzf W) (hr.mono (by decide)) W.b_14 (zac (dvc 1) (zac (dvc 2) zag))) (DE.orE (zho "Out" (dvc 0) (zmk W) (z1g W) (zxh W) (hr.mono (by decide)) W.b_15 (zac (dvc 1) (zac (dvc 2) zag))) (DE.orE (zho "Least" (dvc 0) (zht W) (z4n W) (z1y W) (hr.mono (by decide)) W.b_16 (zac (dvc 1) (zac (dvc 2) zag))) (zho "Most" (dvc 0) (zhh W) (z0o W) (z4x W) (hr.mono (by decide)) W.b_17 (zac (dvc 1) (zac (dvc 2) zag)))))))))) zbt))))
theorem z7f {a:Wa} (W:Wd K mg a) : zaw P w K mg base CX0 6 a.f_41 a.fd_41 ["rule","sheet","without"] (spD ⟨K,cl a⟩ ["rule","sheet","without"].length zop) :=
 zbv (k:=5) (N:=["rule","sheet","without","thing"]) (F:=b_41) W.F_41 ztl fun cdv A outer s H E hr=>by
  unfold b_41
  exact (zaj (zb5 3 ztl.nd (zah (dvC 0) zad))
  (zan (zax (zgr (zb6 zha zgv (DE.db (dv 3)) (DE.db zfe)) (zgr (zah (dvC 2) (dv 3)) (zgl (zhp (zbq (zza W) (hr.mono (by decide)) rfl W.g_49 W.F_49.kp W.b_49 (zac (dv 0) (zac (dv 1) (zac (dv 2) zag)))))))))))
theorem z9p {a:Wa} (W:Wd K mg a) : zaw P w K mg base CX0 7 a.f_42 a.fd_42 ["plain","sheet","things"] (spD ⟨K,cl a⟩ ["plain","sheet","things"].length zpq) :=
 zbv (k:=6) (N:=["plain","sheet","things","without"]) (F:=b_42) W.F_42 zuz fun cdv A outer s H E hr=>by
  unfold b_42
  exact (zaj (zb5 3 zuz.nd (zbq (zu6 W) (hr.mono (by decide)) rfl W.g_6 W.F_6.kp W.b_6 (zac (zah (dvC 0) zad) (zac (dv 2) zag))))
  (zaj (zbe (zcx (DE.db (zbw (zgs rfl) zgp rfl W.z_any boot_any (zbd (DE.db (DO.de (zca 1 [1,3] ["rule","sheet","without"] rfl (DI.de (zb1 (zah (dvC 0) zad))) (fun _ _ _ _ _=>(dgc 0 1)) (fun _ _ _ _ _=>zcl) (fun _ _ _ _ _=>(zbq (z7f W) (hr.mono (by decide)) (glc rfl) W.g_41 W.F_41.kp W.b_41 (zac (dvc 0) (zac (dvc 1) (zac (dvc 2) zag)))))))) zbt)))) (zan (zax zb2)) zbk)
  (zan (zax (zbq (z4f W) (hr.mono (by decide)) rfl W.g_52 W.F_52.kp W.b_52 (zac (dv 1) (zac (dv 2) zag)))))))
theorem z4i {a:Wa} (W:Wd K mg a) : zaw P w K mg base CX0 1 a.f_22 a.fd_22 ["self","sheet"] (spD ⟨K,cl a⟩ ["self","sheet"].length m_22) :=
 zbv (k:=0) (N:=["self","sheet"]) (F:=b_22) W.F_22 zye fun cdv A outer s H E hr=>by
  unfold b_22
  exact (zan (zax (zb6 zd3 zd1 (DE.db (zah (dvC 1) (zfj "In" (zlc W) (zmx W) (dv 0)))) (DE.db zb2))))
theorem zyl {a:Wa} (W:Wd K mg a) : zaw P w K mg base CX0 2 a.f_24 a.fd_24 ["self","sheet"] (spD ⟨K,cl a⟩ ["self","sheet"].length m_24) :=
 zbv (k:=1) (N:=["self","sheet"]) (F:=b_24) W.F_24 z9e fun cdv A outer s H E hr=>by
  unfold b_24
  exact (zan (zax (zb6 zpg zq0 (DE.db (zbq (zvq W) (hr.mono (by decide)) rfl W.g_26 W.F_26.kp W.b_26 (zac (zfj "Least" (zht W) (zqb W) (dv 0)) (zac (dv 1) zag)))) (DE.db (zfj "Least" (zht W) (zqv W) (dv 0))))))
theorem z70 {a:Wa} (W:Wd K mg a) : zaw P w K mg base CX0 2 a.f_25 a.fd_25 ["self","sheet"] (spD ⟨K,cl a⟩ ["self","sheet"].length m_25) :=
 zbv (k:=1) (N:=["self","sheet"]) (F:=b_25) W.F_25 z2k fun cdv A outer s H E hr=>by
  unfold b_25
  exact (zan (zax (zb6 zm7 zn5 (DE.db (zbq (zvc W) (hr.mono (by decide)) rfl W.g_18 W.F_18.kp W.b_18 (zac (zfj "Most" (zhh W) (zqo W) (dv 0)) (zac (dv 1) zag)))) (DE.db (zfj "Most" (zhh W) (zql W) (dv 0))))))
theorem z39 {a:Wa} (W:Wd K mg a) : zaw P w K mg base CX0 1 a.f_23 a.fd_23 ["self","sheet"] (spD ⟨K,cl a⟩ ["self","sheet"].length m_23) :=
 zbv (k:=0) (N:=["self","sheet"]) (F:=b_23) W.F_23 z9o fun cdv A outer s H E hr=>by
  unfold b_23
  exact (zan (zax (zb6 zd3 zd1 (DE.db (zah (dvC 1) (zfj "Out" (zmk W) (zra W) (dv 0)))) (DE.db zb2))))
theorem z54 {a:Wa} (W:Wd K mg a) : zaw P w K mg base CX0 5 a.f_48 a.fd_48 ["rule","sheet"] (spD ⟨K,cl a⟩ ["rule","sheet"].length zo4) :=
 zbv (k:=4) (N:=["rule","sheet"]) (F:=b_48) W.F_48 z6c fun cdv A outer s H E hr=>by
  unfold b_48
  exact (zan (zax (zbw (zml rfl) zlo rfl W.z_all boot_all (zbd (DE.db (DO.de (zca 1 [1] ["part","sheet"] rfl (DI.de (zb1 (zbq (ztj W) (hr.mono (by decide)) rfl W.g_27 W.F_27.kp W.b_27 (zac (dv 0) zag)))) (fun _ _ _ _ _=>(dgc 0 1)) (fun _ _ _ _ _=>zcl) (fun _ _ _ _ _=>(DE.orE (zho "In" (dvc 0) (zlc W) (z08 W) (z4i W) (hr.mono (by decide)) W.b_22 (zac (dvc 1) zag)) (DE.orE (zho "Out" (dvc 0) (zmk W) (z5k W) (z39 W) (hr.mono (by decide)) W.b_23 (zac (dvc 1) zag)) (DE.orE (zho "Least" (dvc 0) (zht W) (z47 W) (zyl W) (hr.mono (by decide)) W.b_24 (zac (dvc 1) zag)) (zho "Most" (dvc 0) (zhh W) (zyz W) (z70 W) (hr.mono (by decide)) W.b_25 (zac (dvc 1) zag))))))))) zbt))))
theorem z7m {a:Wa} (W:Wd K mg a) : zaw P w K mg base CX0 6 a.f_50 a.fd_50 ["rule","sheet"] (spD ⟨K,cl a⟩ ["rule","sheet"].length zro) :=
 zbv (k:=5) (N:=["rule","sheet"]) (F:=b_50) W.F_50 z40 fun cdv A outer s H E hr=>have hu:=hr.units; by
  unfold b_50
  exact (zaj (zbe (za2 (zbj hu) zbm (DE.db (zah (dvC 0) zad)) (DE.db zbl)) (zan (zax zb2)) zbk)
  (zaj (zbe (DW.dt (ze1 (za2 (zbj hu) zbm (DE.db (zah (dvC 0) zad)) (DE.db zbl)) (zf0 (za2 zha zgv (DE.db (zah (dvC 1) (zah (dvC 0) zad))) (DE.db zb2))))) (zan (zax zb2)) zbk)
  (zan (zax (zbq (z54 W) (hr.mono (by decide)) rfl W.g_48 W.F_48.kp W.b_48 (zac (dv 0) (zac (dv 1) zag)))))))
theorem zti {a:Wa} (W:Wd K mg a) : zaw P w K mg base CX0 8 a.f_11 a.fd_11 ["plain","worlds","bars","sheet","why"] (spD ⟨K,cl a⟩ ["plain","worlds","bars","sheet","why"].length zng) :=
 zbv (k:=7) (N:=["plain","worlds","bars","sheet","why","number"]) (F:=b_11) W.F_11 zu8 fun cdv A outer s H E hr=>have hu:=hr.units; by
  unfold b_11
  exact (zaj (zbe (za2 (zbj hu) zbm (DE.db (zah (dvC 4) zad)) (DE.db zbl)) (zan (zax (zbq (z9p W) (hr.mono (by decide)) rfl W.g_42 W.F_42.kp W.b_42 (zac (dv 0) (zac (dv 3) (zac (zah (dvC 4) zad) zag)))))) zbk)
  (zaj (zb5 5 zu8.nd (zah (dvC 4) zad))
  (zaj (zbe (za2 (zbj hu) zbm (DE.db (zah (dvC 4) zad)) (DE.db zbl)) (zan (zax (zgr (zbq (zo8 W) (hr.mono (by decide)) rfl W.g_3 W.F_3.kp W.b_3 (zac (zah (dvC 0) zad) (zac (dv 5) zag))) (zgl (zbq (z7m W) (hr.mono (by decide)) rfl W.g_50 W.F_50.kp W.b_50 (zac (zah (DE.dc (zah (dvC 0) zad)) (dv 5)) (zac (dv 3) zag))))))) zbk)
  (zaj (zbe (za2 (zbj hu) zbm (DE.db (zah (dvC 4) zad)) (DE.db zbl)) (zan (zax (zgr (zbq (zo8 W) (hr.mono (by decide)) rfl W.g_3 W.F_3.kp W.b_3 (zac (dv 2) (zac (dv 5) zag))) (zgl (zbq (z1b W) (hr.mono (by decide)) rfl W.g_51 W.F_51.kp W.b_51 (zac (dv 3) (zac (zah (dvC 2) (dv 5)) zag))))))) zbk)
  (zan (zax (zgr (zb6 (zbj hu) zbm (DE.db (zah (dvC 4) zad)) (DE.db zbl)) (zgr (zbq (zo8 W) (hr.mono (by decide)) rfl W.g_3 W.F_3.kp W.b_3 (zac (dv 1) (zac (dv 5) zag))) (zgl (zb6 (zbj hu) zbm (DE.db (dv 3)) (DE.db (zbq (zu6 W) (hr.mono (by decide)) rfl W.g_6 W.F_6.kp W.b_6 (zac (zah (dvC 0) zad) (zac (zah (dvC 1) (dv 5)) zag))))))))))))))
theorem z55 {a:Wa} (W:Wd K mg a) : zaw P w K mg base CX0 9 a.f_43 a.fd_43 ["plain","worlds","bars","sheet","step"] (spD ⟨K,cl a⟩ ["plain","worlds","bars","sheet","step"].length zps) :=
 zbv (k:=8) (N:=["plain","worlds","bars","sheet","step","pair"]) (F:=b_43) W.F_43 zsm fun cdv A outer s H E hr=>by
  unfold b_43
  exact (zaj (zb5 5 zsm.nd (zah (dvC 4) zad))
  (zaj (zbe (za2 zd3 zd1 (DE.db (dv 5)) (DE.db zfe)) (zan (zax (zbq (zti W) (hr.mono (by decide)) rfl W.g_11 W.F_11.kp W.b_11 (zac (dv 0) (zac (dv 1) (zac (dv 2) (zac (dv 3) (zac (zah (dvC 4) zad) zag)))))))) zbk)
  (zaj (zbe (za2 zha zgv (DE.db (zah (dvC 3) (zah (dvC 5) zad))) (DE.db zfe)) (zan (zax zb2)) zbk)
  (zan (zax (zbq (zti W) (hr.mono (by decide)) rfl W.g_11 W.F_11.kp W.b_11 (zac (dv 0) (zac (dv 1) (zac (dv 2) (zac (zbq (z6a W) (hr.mono (by decide)) rfl W.g_40 W.F_40.kp W.b_40 (zac (dv 3) (zac (zah (dvC 5) zad) (zac (zhp (zah (dvC 5) zad)) zag)))) (zac (zah (dvC 4) zad) zag)))))))))))
theorem z57 {a:Wa} (W:Wd K mg a) : zaw P w K mg base CX0 10 a.f_29 a.fd_29 ["plain","worlds","bars","sheet","steps"] (spD ⟨K,cl a⟩ ["plain","worlds","bars","sheet","steps"].length zqy) :=
 zbv (k:=9) (N:=["plain","worlds","bars","sheet","steps","after","place","step","ends"]) (F:=b_29) W.F_29 zmg fun cdv A outer s H E hr=>have hu:=hr.units; by
  unfold b_29
  exact (zaj (zfr 5 zmg.nd (zg9 boot_list rfl W.z_list (dvC 3)))
  (zaj (zeh PassesOwn.never rfl (z12 rfl W.z_enumerate (dv 4)) (zcs rfl (zbn (zco 6 9 zmg.nd) (zbn (zco 7 9 zmg.nd) zcu))) (zaj (zb5 8 zmg.nd (zb6 zd3 zd1 (DE.db (zah (dvC 7) zad)) (DE.db zfe)))
  (zaj (zbe (za2 (zhd hu) zhb (DE.db (dv 8)) (DE.db (zb6 (zbj hu) zbm (DE.db (dv 6)) (DE.db (zbw zc4 zc1 rfl W.z_len PySem.boot_len (zbd (DE.db (dv 4)) zbt)))))) (zan (zax zb2)) zbk)
  (zaj (zbe (zf7 (zcx (DE.db (zor (z55 W) (hr.mono (by decide)) rfl W.g_43 W.F_43.kp W.b_43 (zbd (DE.db (dv 0)) (zbd (DE.db (dv 1)) (zbd (DE.db (dv 2)) (zbd (dvB 5) (zbd (DE.db (dv 7)) zbt))))))))) (zan (zax zb2)) zbk)
  (zan (zbe (zf7 (zcx (DE.db (dv 8)))) (zan (zls (pv 5) (zah (DE.dc (zah (dvC 7) zad)) zad) (zah (DE.dc (zah (dvC 7) zad)) zad))) zbk))))))
  (zan (zax (zb6 zif ziv (DE.db (zbw zc4 zc1 rfl W.z_len PySem.boot_len (zbd (DE.db (dv 4)) zbt))) (DE.db zad))))))
theorem z1p {a:Wa} (W:Wd K mg a) : zaw P w K mg base CX0 11 a.f_36 a.fd_36 ["plain","worlds","bars","line"] (spD ⟨K,cl a⟩ ["plain","worlds","bars","line"].length zoy) :=
 zbv (k:=10) (N:=["plain","worlds","bars","line","bar","things"]) (F:=b_36) W.F_36 zpt fun cdv A outer s H E hr=>by
  unfold b_36
  exact (zaj (zb5 4 zpt.nd (zah (dvC 3) zad))
  (zaj (zgi 5 2 [] ["thing","truth"] zpt.nd rfl (DI.de (zb1 (dv 4))) (fun _ _ _ _ _=>(zcs rfl (zbn (dgc 0 2) (zbn (dgc 1 2) zcu)))) (fun _ _ _ _ _=>zcl) (fun _ _ _ _ _=>(dvc 0)))
  (zaj (zbe (za2 zhr zhu (DE.db (zxj rfl rfl W.z_len rfl W.z_set (dv 5))) (DE.db (zbw zc4 zc1 rfl W.z_len PySem.boot_len (zbd (DE.db (dv 5)) zbt)))) (zan (zax zb2)) zbk)
  (zan (zax (zbq (z57 W) (hr.mono (by decide)) rfl W.g_29 W.F_29.kp W.b_29 (zac (dv 0) (zac (dv 1) (zac (dv 2) (zac (zbq (z23 W) (hr.mono (by decide)) rfl W.g_28 W.F_28.kp W.b_28 (zac (zah (dvC 0) zad) (zac (dv 4) zag))) (zac (zah (dvC 3) zad) zag)))))))))))
theorem z7j {a:Wa} (W:Wd K mg a) : zaw P w K mg base CX0 12 a.f_37 a.fd_37 ["plain","worlds","paper"] (spD ⟨K,cl a⟩ ["plain","worlds","paper"].length zpo) :=
 zbv (k:=11) (N:=["plain","worlds","paper","bars","line"]) (F:=b_37) W.F_37 zp8 fun cdv A outer s H E hr=>have hu:=hr.units; by
  unfold b_37
  exact (zaj (zfr 3 zp8.nd (zb3 zag))
  (zaj (zeh PassesOwn.never rfl (zb1 (dv 2)) (zco 4 5 zp8.nd) (zaj (zbe (zf7 (zcx (DE.db (zor (z1p W) (hr.mono (by decide)) rfl W.g_36 W.F_36.kp W.b_36 (zbd (DE.db (dv 0)) (zbd (DE.db (dv 1)) (zbd (dvB 3) (zbd (DE.db (dv 4)) zbt)))))))) (zan (zax zb2)) zbk)
  (zan (zgj (zek (ze2 PySem.F.plainAttrs_list PySem.F.slot_list_append PySem.F.type_list_append zf5 (pv 3) (zdb (zah (dvC 4) zad) zdp)))))))
  (zan (zf6 3 (zax (zgr (zb6 zif ziv (DE.db (zbw zc4 zc1 rfl W.z_len PySem.boot_len (zbd (DE.db (dv 3)) zbt))) (DE.db zad)) (zgl (zb6 (zbj hu) zbm (DE.db (zbw zc4 zc1 rfl W.z_len PySem.boot_len (zbd (DE.db (zah (dvC 3) (zja zad))) zbt))) (DE.db zad)))))))))
theorem zzx {a:Wa} (W:Wd K mg a) : zaw P w K mg base CX0 15 a.f_1 a.fd_1 ["_law_script"] (spD ⟨K,cl a⟩ ["_law_script"].length m_1) :=
 zbv (k:=14) (N:=["_law_script","_law_hs","_law_many","_law_rules","_law_cell","_law_stood","_law_sets","_law_lines","_law_some","_law_mine","_law_copies","_law_found"]) (F:=b_1) W.F_1 zfi fun cdv A outer s H E hr=>have hu:=hr.units; by
  unfold b_1
  exact (zaj (zb5 1 zfi.nd (zbq (zlg W) (hr.mono (by decide)) rfl W.g_0 W.F_0.kp W.b_0 (zac (zbq (zoz W) (hr.mono (by decide)) rfl W.g_4 W.F_4.kp W.b_4 (zac (dv 0) (zac zad zag))) (zac zad zag))))
  (zaj (zb5 2 zfi.nd (zay zgn (zay zdm (zay zb7 (zah (dvC 1) zad) zad) zad) zad))
  (zaj (zfr 3 zfi.nd (zxy (z8x W) (hr.mono (by decide)) rfl W.g_19 W.F_19.kp W.b_19 (zac (zay zb7 (zah (dvC 1) zad) zad) (zac (dv 2) zag))))
  (zaj (zeh PassesOwn.never rfl (zb1 (DO.de (by refine zde ?a ?b ?c; (case a=>exact (dv 0)); (case b=>exact (zc2 zad)); (case c=>exact (zc2 zad))))) (zco 4 12 zfi.nd) (zan (zgj (zek (ze2 PySem.F.plainAttrs_list PySem.F.slot_list_append PySem.F.type_list_append zf5 (pv 3) (zdb (zbq (zzj W) (hr.mono (by decide)) rfl W.g_39 W.F_39.kp W.b_39 (zac (dv 4) (zac (dv 2) (zac (zb6 (zbj hu) zbm (DE.db (zay zb7 (zah (dvC 1) zad) zad)) (DE.db zad)) zag)))) zdp))))))
  (zaj (zf6 3 (zb5 5 zfi.nd (zbq (zys W) (hr.mono (by decide)) rfl W.g_33 W.F_33.kp W.b_33 (zac (dv 2) (zac (dv 3) zag)))))
  (zaj (zfr 6 zfi.nd (zg9 boot_list rfl W.z_list (dvC 5)))
  (zaj (zbe (DW.dt (ze1 (za2 zif ziv (DE.db (zay zb7 (zah (dvC 1) zad) zad)) (DE.db zad)) (zf0 (za2 (zhd hu) zhb (dvB 6) (DE.db (DO.de (zb3 zag))))))) (zan (z4e (zek (ze2 PySem.F.plainAttrs_list PySem.F.slot_list_pop PySem.F.type_list_pop zzw (pv 6) (zdb (zay zb7 (zah (dvC 1) zad) (zbw zc4 zc1 rfl W.z_len PySem.boot_len (zbd (dvB 6) zbt))) zdp))))) zbk)
  (zaj (zbe (za2 (zbj hu) zbm (DE.db (zay zb7 (zay zgn (zah (dvC 1) zad) zad) zad)) (DE.db zad)) (zan (zgj (zek (ze2 PySem.F.plainAttrs_list PySem.F.slot_list_append PySem.F.type_list_append zf5 (pv 6) (zdb (DO.de (zca 1 [1] ["_law_thing","_law_hs"] rfl (DI.de (zfh rfl W.z_range (zac (dv 2) zag))) (fun _ _ _ _ _=>(dgc 0 1)) (fun _ _ _ _ _=>(zdt (za2 (zbj hu) zbm (DE.db (zay zb7 (zay zgn (zah (zc5 1) zad) (zay zdm (dvc 0) zad)) zad)) (DE.db zad)))) (fun _ _ _ _ _=>(dvc 0)))) zdp))))) zbk)
  (zaj (zfr 7 zfi.nd (zb3 zag))
  (zaj (zf6 6 (zf6 3 (zpa (z0i (zpp W 9) (hr.mono (by decide)) rfl W.g_2 W.F_2.kp W.b_2 (zej (dv 3) (zej (dv 6) (zej (DO.de (zca 1 [] ["_law_k"] rfl (DI.de (zfh rfl W.z_range (zac (dv 2) zag))) (fun _ _ _ _ _=>(dgc 0 1)) (fun _ _ _ _ _=>zcl) (fun _ _ _ _ _=>zfe))) (zej (DO.de (zb3 zag)) (znt 7 (zac (zbq (zoz W) (hr.mono (by decide)) rfl W.g_4 W.F_4.kp W.b_4 (zac (dv 0) (zac zad zag))) zag))))))))))
  (zaj (zeh PassesOwn.never rfl (zb1 (DO.de (zdz (DO.de (zb3 (zac (zbq (zoz W) (hr.mono (by decide)) rfl W.g_4 W.F_4.kp W.b_4 (zac (dv 0) (zac zad zag))) zag))) (DO.de (by refine zde ?a ?b ?c; (case a=>exact (dv 0)); (case b=>exact (zc2 zad)); (case c=>exact (zc2 zad))))))) (zco 4 12 zfi.nd) (zaj (zf6 7 (zf6 6 (znb (zbq (z5p W) (hr.mono (by decide)) rfl W.g_13 W.F_13.kp W.b_13 (zac (dv 6) (zac (dv 7) (zac (dv 4) (zac (dv 2) zag))))) (zcs rfl (zbn (zco 8 12 zfi.nd) (zbn (zco 9 12 zfi.nd) zcu))))))
  (zaj (zgi 10 2 [] ["_law_bar","_law_steps"] zfi.nd rfl (DI.de (zb1 (dv 9))) (fun _ _ _ _ _=>(zcs rfl (zbn (dgc 0 2) (zbn (dgc 1 2) zcu)))) (fun _ _ _ _ _=>zcl) (fun _ _ _ _ _=>(zbu (zac (DO.de (zg9 boot_list (glc rfl) W.z_list (zc5 0))) (zac (zbq (z77 W) (hr.mono (by decide)) (glc rfl) W.g_34 W.F_34.kp W.b_34 (zac (dvc 1) zag)) zag)))))
  (zaj (zf6 3 (zb5 11 zfi.nd (zbq (z7j W) (hr.mono (by decide)) rfl W.g_37 W.F_37.kp W.b_37 (zac (zbu (zac (dv 2) (zac (zbq (zy6 W) (hr.mono (by decide)) rfl W.g_7 W.F_7.kp W.b_7 (zac (dv 3) zag)) zag))) (zac (DO.de (zca 1 [] ["_law_one"] rfl (DI.de (zb1 (dv 8))) (fun _ _ _ _ _=>(dgc 0 1)) (fun _ _ _ _ _=>zcl) (fun _ _ _ _ _=>(DO.de (zg9 boot_list (glc rfl) W.z_list (zc5 0)))))) (zac (dv 10) zag))))))
  (zaj (zbe (zf7 (zcx (DE.db (zy8 (T:="bool") (z8u W) rfl W.z_isinstance boot_bool rfl W.z_bool (DE.db (dv 11)))))) (zan (zax zb2)) zbk)
  (zan (zbe (DW.dt (ze1 (zcx (DE.db (dv 11))) (zf0 (zcx (DE.db (zbw (zgs rfl) zgp rfl W.z_any boot_any (zbd (DE.db (DO.de (zca 1 [8] ["_law_one","_law_some"] rfl (DI.de (zb1 (dv 5))) (fun _ _ _ _ _=>(dgc 0 1)) (fun _ _ _ _ _=>zcl) (fun _ _ _ _ _=>(zb6 (z36 hu) z8s (DE.db (dvc 0)) (DE.db (dvc 1))))))) zbt))))))) (zan (zax zb2)) zbk)))))))
  (zan (zax zb2)))))))))))))
end
local macro_rules | `(tactic| walk_at "evS")=>`(tactic| first | decide | omega | assumption | exact ⟨by decide,by decide⟩ | exact ⟨by omega,by omega⟩ | exact .inl ⟨by decide,by decide⟩ | exact .inr ⟨by decide,by decide⟩ | exact .inl ⟨by omega,by omega⟩ | exact .inr ⟨by omega,by omega⟩ | exact ⟨by decide,by decide,by decide⟩)
local macro_rules | `(tactic| walk_at "evO")=>`(tactic| first | with_reducible exact zhj | with_reducible exact zom | with_reducible exact zjm | with_reducible exact zlb | with_reducible exact zs0 | with_reducible exact dGe_eq | with_reducible exact zd5 _ _ | with_reducible exact zwr _ _ | ((with_reducible apply zdj); (focus walk_at "evS")) | ((with_reducible apply zll); (focus walk_at "evS")) | ((with_reducible apply dMul_eq); (focus walk_at "evS")) | ((with_reducible apply zxl); (focus first | assumption | exact .inl (by walk_at "evS") | exact .inr ⟨by omega,by omega⟩)) | ((with_reducible apply z2y); (focus walk_at "evS")) | ((with_reducible apply dShr_eq); (focus walk_at "evS")) | with_reducible exact zof _ _ | with_reducible exact dNe_str _ _ | with_reducible exact dEq_bl _ _ | with_reducible exact dAndB_eq | exact zv6 _ _ | exact zj8 _ _ | assumption | rfl)
local macro_rules | `(tactic| walk_at "ev")=>`(tactic| first
 | with_reducible assumption
 | ((with_reducible apply zas); (focus walk_at "ev"); (focus walk_at "ev"); (focus walk_at "evO"))
 | ((with_reducible apply zb0); (focus walk_at "ev"))
 | ((with_reducible apply zc9); (focus walk_at "ev"); (focus first | assumption | rfl))
 | ((with_reducible apply zgy); (focus walk_at "ev"); (focus walk_at "ev"))
 | ((with_reducible apply zmv); (focus walk_at "ev"); (focus walk_at "ev"))
 | ((with_reducible apply zg8); (focus walk_at "ev"))
 | ((with_reducible apply zkp); (focus walk_at "ev"); (focus walk_at "ev"))
 | ((with_reducible apply zrf); (focus walk_at "ev"); (focus walk_at "ev"))
 | ((with_reducible apply zgz); (focus walk_at "ev"))
 | ((with_reducible apply zae); (focus walk_at "ev"); (focus walk_at "ev"))
 | ((with_reducible apply zb8); (focus walk_at "ev"))
 | ((with_reducible apply zat); (focus walk_at "ev"))
 | ((with_reducible apply zau); (focus walk_at "ev"); (focus first | with_reducible assumption | with_reducible exact zcy _ _ | assumption | exact zcy _ _ | exact len_kl _ _ | rfl))
 | ((with_reducible apply znk); (focus walk_at "ev"); (focus assumption); (focus rfl))
 | ((with_reducible apply zal); (focus walk_at "ev"); (focus walk_at "ev"); (focus first | assumption | rfl))
 | ((with_reducible apply zrz); (focus walk_at "ev"); (focus rfl); (focus rfl))
 | ((with_reducible apply zdi); (focus walk_at "ev"); (focus rfl); (focus rfl))
 | ((with_reducible apply zcp); (focus walk_at "ev"); (focus rfl))
 | rfl)
local macro_rules | `(tactic| walk_at "nrm")=>`(tactic| simp only [zu4,List.set_cons_succ,List.set_cons_zero])
local macro_rules | `(tactic| walk_at "set")=>`(tactic| (apply zao; (first | with_reducible apply zbs | with_reducible apply zfc); (focus walk_at "ev"); walk_at "nrm"))
local macro_rules | `(tactic| walk_at "if0")=>`(tactic| ((with_reducible first | apply za3 | apply zb4); (focus walk_at "ev")))
theorem zvt (ns:List Int) (i:Int) (h0:0 <= i) : ∃ v,m_4 [.kl (ns.map D.int),.int i]=some (.int v):=by
 by_cases h : i < ns.length
 ·obtain ⟨x,_,e⟩:=zbz (f:=D.int) h0 h
  refine ⟨x,zcc (zez (ze3 (congrArg some (decide_eq_true ?_)) (zcg e)))⟩
  rw [List.length_map]
  exact h
 ·refine ⟨0,zcc (zcq (zc0 (congrArg some (decide_eq_false ?_)) rfl) rfl)⟩
  rw [List.length_map]
  exact h
theorem p60 : (0 : Int) < 10 ^ (60 : Int).toNat:=by decide
theorem z5l : zi8 10 60:=⟨by decide,by decide,by decide⟩
noncomputable def Nm (x:Int) : Prop:=0 <= x /\ x < 2305843009213693951
theorem zmh (c n:Int) (n0:0 <= n) (n1:n <= 124) : ∃ d,m_0 [.int c,.int n]=some d /\ ∃ xs : List Int,d=.lst (xs.map D.int) /\ (xs.length : Int)=n /\ ∀ x ∈ xs,Nm x:=by
 apply zg3
 unfold b_0
 show wp _ [.im (.int c),.im (.int n),.no,.no,.no] _
 have a0 : 0 <= c % 2305843009213693951:=Int.emod_nonneg _ (by decide)
 have a1 : c % 2305843009213693951 < 2305843009213693951:=Int.emod_lt_of_pos _ (by decide)
 walk_at "set"
 walk_at "set"
 apply zao
 refine zes (List.range n.toNat) (fun (i:Nat)=>D.int i) (fun pre ρ=>∃ (xs:List Int) (y:Int) (v:Sl),ρ=[.im (.int c),.im (.int n),.own (xs.map D.int),.im (.int y),v] /\ 0 <= y /\ y < 2 ^ 100 /\ xs.length=pre.length /\ ∀ x ∈ xs,Nm x)
  (zfa (by walk_at "ev") n0 (by omega)) ⟨[],_,.no,rfl,by omega,by omega,rfl,fun x hx=>nomatch hx⟩ ?_ ?_
 ·rintro pre i post ρ ex ⟨xs,y,v,rfl,y0,y1,hl,hx⟩
  have hpl : pre.length < n.toNat:=by
   have : pre.length < (List.range n.toNat).length:=by rw [ex]; simp
   simpa using this
  refine ⟨_,rfl,?_⟩
  walk_at "nrm"
  generalize hz : (y * (y + 69621) + 7 * (i:Int) + 1) % 2305843009213693951=z
  have z0 : 0 <= z:=by rw [<- hz]; exact Int.emod_nonneg _ (by decide)
  have z1 : z < 2305843009213693951:=by rw [<- hz]; exact Int.emod_lt_of_pos _ (by decide)
  apply zao
  refine zbs (by walk_at "ev") ?_
  rw [hz]
  walk_at "nrm"
  refine zgx rfl rfl (by rw [List.length_map]; omega) ?_
  refine ⟨xs ++ [z],z,.im (.int i),by rw [List.map_append]; rfl,z0,by omega,by rw [List.length_append,List.length_append,hl]; rfl,fun x hx'=>?_⟩
  rcases List.mem_append.mp hx' with h | h
  ·exact hx x h
  ·have : x=z:=by simpa using h
   subst this
   exact ⟨z0,z1⟩
 ·rintro ρ ⟨xs,y,v,rfl,y0,y1,hl,hx⟩
  rw [List.length_range] at hl
  exact zhl rfl (ziz ⟨xs,rfl,by omega,hx⟩)
theorem worth (x:Int) (hx:Nm x) : ∃ d,zme [.int x]=some d /\ ∃ w : Int,d=.int w /\ 0 <= w:=by
 obtain ⟨x0,x1⟩:=hx
 apply zg3
 unfold b_38
 show wp _ [.im (.int x)] _
 have pw:=p60
 have hcp:=z5l
 have m1 : zgc x x:=.inl (.inl ⟨by omega,by omega⟩)
 have m2 : zgc (x * x) x:=.inl (.inr ⟨by omega,by omega⟩)
 have m3 : zgc (x * x * x) x:=.inl (.inr ⟨by omega,by omega⟩)
 apply zao
 walk_at "if0"
 ·intro _
  walk_at "if0"
  exact zbx ⟨_,rfl,Int.emod_nonneg _ (Int.ne_of_gt pw)⟩
 ·intro _
  apply zbp
  walk_at "nrm"
  obtain ⟨w,hw,ew⟩:=zbz (f:=D.int) (xs:=[1,1,2,0,3,1,1,2]) (i:=x / 8 % 8) (Int.emod_nonneg _ (by decide)) (Int.emod_lt_of_pos _ (by decide))
  have w0 : ∀ x ∈ ([1,1,2,0,3,1,1,2] : List Int),0 <= x:=by decide
  walk_at "if0"
  exact zbx ⟨w,rfl,w0 w (List.mem_of_getElem? hw)⟩
theorem zss {α β : Type} {k:Nat} {js:List Nat} {fi:List Sl -> Option (List D)} {g:D -> List Sl -> Option (List Sl)} {ft:List Sl -> Option Bool} {fe:List Sl -> Option D} {ρ:List Sl} (xs:List α) (f:α -> D) (q:β -> D) (P:β -> Prop)
  (hi:fi ρ=some (xs.map f)) (hz:xs.length <= 16777216) (hh:∀ x ∈ xs,∃ z,P z /\ ze9 g ft fe (zdk k js ρ) (f x)=some (some (q z))) : ∃ zs : List β,za6 k js fi g ft fe ρ=some (zs.map q) /\ zs.length=xs.length /\ ∀ z ∈ zs,P z:=by
 have key : ∀ ys : List α,(∀ x ∈ ys,∃ z,P z /\ ze9 g ft fe (zdk k js ρ) (f x)=some (some (q z))) -> ∃ zs : List β,ze4 (ze9 g ft fe (zdk k js ρ)) (ys.map f)=some (zs.map q) /\ zs.length=ys.length /\ ∀ z ∈ zs,P z:=by
  intro ys
  induction ys with
  | nil=>intro _; exact ⟨[],rfl,rfl,fun z hz=>nomatch hz⟩
  | cons y ys ih =>
   intro h
   obtain ⟨z,pz,ez⟩:=h y List.mem_cons_self
   obtain ⟨zs,e,l,p⟩:=ih fun x hx=>h x (List.mem_cons_of_mem _ hx)
   refine ⟨z :: zs,?_,by rw [List.length_cons,List.length_cons,l],fun w hw=>?_⟩
   ·rw [List.map_cons]
    unfold ze4
    rw [ez,e]
    rfl
   ·rcases List.mem_cons.mp hw with rfl | hw
    ·exact pz
    ·exact p w hw
 obtain ⟨zs,e,l,p⟩:=key xs hh
 refine ⟨zs,?_,l,p⟩
 unfold za6
 rw [hi]
 show (if (xs.map f).length <= 16777216 then _ else none)=_
 rw [List.length_map,if_pos hz]
 exact e
noncomputable def nmP : Prt -> List Int
 | .inn t=>[t]
 | .out t=>[t]
 | .least _ its=>its.map (·.1)
 | .most _ its=>its.map (·.1)
theorem zyh {xs:List Int} {i:Nat} {x:Int} (h:∀ x ∈ xs,Nm x) (e:xs[i]?=some x) : Nm x:=h x (List.mem_of_getElem? e)
theorem z62 {ys:List Int} {n:Int} (hy:∀ y ∈ ys,Nm y) (n1:1 <= n) {t:Nat} (ht:4 + 2 * t <= ys.length) (ht2:t <= 100) {fi:List Sl -> Option (List D)} {ρ:List Sl} {js:List Nat} (hi:fi ρ=some ((List.range t).map fun (i:Nat)=>D.int i)) (hj:zdk 1 js ρ=[.no,.im (.int n),.im (.lst (ys.map D.int))]) :
  ∃ its : List (Int × Int),za6 1 js fi (zar 0) (fun _=>some true) (zbg (zab (m2 zbr (mIx (zaf 2) (m2 zcf (fun _=>some (.int 4)) (m2 zc7 (fun _=>some (.int 2)) (zaa 0)))) (zaa 1)) (zab (zap zme (zab (mIx (zaf 2) (m2 zcf (fun _=>some (.int 5)) (m2 zc7 (fun _=>some (.int 2)) (zaa 0)))) (fun _=>some []))) (fun _=>some [])))) ρ=some (its.map itD) /\ its.length=t /\ InN n.toNat its:=by
 obtain ⟨its,e,l,p⟩:=zss (k:=1) (js:=js) (fi:=fi) (g:=zar 0) (ft:=fun _=>some true) (fe:=(zbg (zab (m2 zbr (mIx (zaf 2) (m2 zcf (fun _=>some (.int 4)) (m2 zc7 (fun _=>some (.int 2)) (zaa 0)))) (zaa 1)) (zab (zap zme (zab (mIx (zaf 2) (m2 zcf (fun _=>some (.int 5)) (m2 zc7 (fun _=>some (.int 2)) (zaa 0)))) (fun _=>some []))) (fun _=>some []))))) (ρ:=ρ) (List.range t) (fun (i:Nat)=>D.int i) itD (fun z=>0 <= z.1 /\ z.1 < (n.toNat : Int) /\ 0 <= z.2) hi (by rw [List.length_range]; omega) fun i hi'=>by
  have hi':=List.mem_range.mp hi'
  obtain ⟨a,_,ea⟩:=zbz (f:=D.int) (xs:=ys) (i:=4 + 2 * (i:Int)) (by omega) (by omega)
  obtain ⟨b,hb,eb⟩:=zbz (f:=D.int) (xs:=ys) (i:=5 + 2 * (i:Int)) (by omega) (by omega)
  obtain ⟨d,ew,w,rfl,w0⟩:=worth b (zyh hy hb)
  have q0:=Int.emod_nonneg a (show n ≠ 0 by omega)
  have q1:=Int.emod_lt_of_pos a (show 0 < n by omega)
  refine ⟨(a % n,w),⟨q0,by show a % n < _; omega,w0⟩,?_⟩
  rw [hj]
  exact zcn (y:=.tup [.int (a % n),.int w]) rfl rfl (by walk_at "ev")
 exact ⟨its,e,by rw [l,List.length_range],p⟩
theorem z1m {its:List (Int × Int)} {fi:List Sl -> Option (List D)} {ρ:List Sl} (hi:fi ρ=some (its.map itD)) (hz:its.length <= 1000) : zap zd4 (zab (zak (za6 2 [] fi (zch (zba (zar 0) (zba (zar 1) zcj))) (fun _=>some true) (zaa 1))) (fun _=>some [])) ρ=some (.int (its.map (·.2)).sum):=by
 refine zau (zae (zat (zct its itD (fun z=>D.int z.2) hi (by omega) fun z _=>zcn rfl rfl rfl)) rfl) ?_
 rw [z8w]
 exact zwe
theorem z4b (ys:List Int) (n:Int) (hl:10 <= ys.length) (hy:∀ y ∈ ys,Nm y) (n1:1 <= n) (n60:n <= 60) : ∃ d,zn2 [.lst (ys.map D.int),.int n]=some d /\ ∃ p : Prt,d=p.toD /\ p.Ok n.toNat /\ (nmP p).length <= 3:=by
 apply zg3
 unfold b_30
 show wp _ [.im (.lst (ys.map D.int)),.im (.int n),.no,.no,.no] _
 obtain ⟨a0,h0,e0⟩:=zbz (f:=D.int) (xs:=ys) (i:=0) (by decide) (by omega)
 obtain ⟨a1,h1,e1⟩:=zbz (f:=D.int) (xs:=ys) (i:=1) (by decide) (by omega)
 obtain ⟨a2,h2,e2⟩:=zbz (f:=D.int) (xs:=ys) (i:=2) (by decide) (by omega)
 obtain ⟨a3,h3,e3⟩:=zbz (f:=D.int) (xs:=ys) (i:=3) (by decide) (by omega)
 obtain ⟨wd,hwd,ew⟩:=zbz (f:=D.str) (xs:=["in","out","in","least","most"]) (i:=a0 % 5) (Int.emod_nonneg _ (by decide)) (Int.emod_lt_of_pos _ (by decide))
 have hw2:=List.mem_of_getElem? hwd
 simp only [List.mem_cons,List.not_mem_nil,or_false] at hw2
 walk_at "set"
 apply zao
 walk_at "if0"
 ·intro hb
  have q0:=Int.emod_nonneg a1 (show n ≠ 0 by omega)
  have q1:=Int.emod_lt_of_pos a1 (show 0 < n by omega)
  walk_at "if0"
  apply zbx
  rcases hw2 with rfl | rfl | rfl | rfl | rfl
  ·exact ⟨.inn (a1 % n),rfl,⟨q0,by omega⟩,by show 1 <= 3; decide⟩
  ·exact ⟨.out (a1 % n),rfl,⟨q0,by omega⟩,by show 1 <= 3; decide⟩
  ·exact ⟨.inn (a1 % n),rfl,⟨q0,by omega⟩,by show 1 <= 3; decide⟩
  ·exact Bool.noConfusion (show false=true from hb)
  ·exact Bool.noConfusion (show false=true from hb)
 ·intro hb
  apply zbp
  walk_at "nrm"
  have t0 : 0 <= a2 % 4:=Int.emod_nonneg _ (by decide)
  have t1 : a2 % 4 < 4:=Int.emod_lt_of_pos _ (by decide)
  obtain ⟨its,ei,li,hin⟩:=z62 (ys:=ys) (n:=n) hy n1 (t:=(a2 % 4).toNat) (by omega) (by omega) (fi:=zds (zab (m2 zbr (mIx (zaf 0) (fun _=>some (.int 2))) (fun _=>some (.int 4))) (fun _=>some []))) (ρ:=[.im (.lst (ys.map D.int)),.im (.int n),.im (.str wd),.no,.no]) (js:=[1,0]) (zfa (by walk_at "ev") t0 (by omega)) rfl
  apply zao
  refine zbs (zat ei) ?_
  walk_at "nrm"
  apply zao
  refine zbs (z1m (zcp (zat (zdi rfl rfl (hi:=some (a3 % 5)) (by unfold mPt; rw [show (m2 zbr (mIx (zaf 0) (fun _=>some (.int 3))) (fun _=>some (.int 5))) [.im (.lst (ys.map D.int)),.im (.int n),.im (.str wd),.im (.lst (its.map itD)),.no]=some (.int (a3 % 5)) by walk_at "ev"]; rfl))) rfl) (by rw [List.length_take,List.length_drop]; omega)) ?_
  walk_at "nrm"
  walk_at "if0"
  apply zbx
  have h3' : (its.map (·.1)).length <= 3:=by rw [List.length_map]; omega
  rcases hw2 with rfl | rfl | rfl | rfl | rfl
  ·exact Bool.noConfusion (show true=false from hb)
  ·exact Bool.noConfusion (show true=false from hb)
  ·exact Bool.noConfusion (show true=false from hb)
  ·exact ⟨.least _ its,rfl,⟨hin,by omega⟩,h3'⟩
  ·exact ⟨.most _ its,rfl,⟨hin,by omega⟩,h3'⟩
theorem zee {f g:List Sl -> Option D} {ρ:List Sl} {a b:List D} (h:f ρ=some (.lst a)) (h':g ρ=some (.lst b)) (hl:a.length + b.length <= 16777216) : zcz f g ρ=some (a ++ b):=by
 unfold zcz
 rw [h,h']
 show (if a.length + b.length <= 16777216 then some (a ++ b) else none)=_
 rw [if_pos hl]
theorem ztg {α : Type} {xs:List α} {a b:Nat} {x:α} (h:x ∈ (xs.drop a).take b) : x ∈ xs:=List.mem_of_mem_drop (List.mem_of_mem_take h)
theorem z27 (kind k on n:Int) (hk:0 <= kind) (hk5:kind < 5) (k0:0 <= k) (k1:k < n) (o0:0 <= on) (o1:on < n) : (atI [D.non,.tup [.str "in",.int k],.tup [.str "out",.int k],.tup [.str "least",.int 2,.lst [.tup [.int k,.int 2],.tup [.int on,.int 1]]],.tup [.str "most",.int 0,.lst [.tup [.int k,.int 1]]]] kind=some .non) \/ ∃ p : Prt,p.Ok n.toNat /\ atI [D.non,.tup [.str "in",.int k],.tup [.str "out",.int k],.tup [.str "least",.int 2,.lst [.tup [.int k,.int 2],.tup [.int on,.int 1]]],.tup [.str "most",.int 0,.lst [.tup [.int k,.int 1]]]] kind=some p.toD:=by
 have : kind=0 \/ kind=1 \/ kind=2 \/ kind=3 \/ kind=4:=by omega
 rcases this with rfl | rfl | rfl | rfl | rfl
 ·exact .inl rfl
 ·exact .inr ⟨.inn k,⟨k0,by omega⟩,rfl⟩
 ·exact .inr ⟨.out k,⟨k0,by omega⟩,rfl⟩
 ·refine .inr ⟨.least 2 [(k,2),(on,1)],⟨fun z hz=>?_,by show 2 <= 100000; decide⟩,rfl⟩
  simp only [List.mem_cons,List.not_mem_nil,or_false] at hz
  rcases hz with rfl | rfl
  ·exact ⟨k0,by show k < _; omega,by show (0 : Int) <= 2; decide⟩
  ·exact ⟨o0,by show on < _; omega,by show (0 : Int) <= 1; decide⟩
 ·refine .inr ⟨.most 0 [(k,1)],⟨fun z hz=>?_,by show 1 <= 100000; decide⟩,rfl⟩
  have : z=(k,1):=by simpa using hz
  subst this
  exact ⟨k0,by show k < _; omega,by show (0 : Int) <= 1; decide⟩
theorem z2r (kind n:Int) (hk:0 <= kind) (hk5:kind < 5) (n0:0 <= n) (n60:n <= 60) : ∃ rs : List Rul,zo9 [.int kind,.int n]=some (rs.map Rul.toD) /\ (∀ r ∈ rs,r.Ok n.toNat /\ r.ps.length <= 3) /\ rs.length <= 60:=by
 have h : wp b_19 (zdw 6 [.int kind,.int n]) (fun o=>∃ rs : List Rul,o=.rtO (rs.map Rul.toD) /\ (∀ r ∈ rs,r.Ok n.toNat /\ r.ps.length <= 3) /\ rs.length <= 60):=by
  unfold b_19
  show wp _ [.im (.int kind),.im (.int n),.no,.no,.no,.no] _
  walk_at "set"
  apply zao
  refine zes (List.range n.toNat) (fun (i:Nat)=>D.int i) (fun pre ρ=>∃ (rs:List Rul) (v3 v4 v5:Sl),ρ=[.im (.int kind),.im (.int n),.own (rs.map Rul.toD),v3,v4,v5] /\ (∀ r ∈ rs,r.Ok n.toNat /\ r.ps.length <= 3) /\ rs.length <= pre.length)
   (zfa (by walk_at "ev") n0 (by omega)) ⟨[],.no,.no,.no,rfl,(fun z hz=>nomatch hz),Nat.le_refl _⟩ ?_ ?_
  ·rintro pre i post ρ ex ⟨rs,v3,v4,v5,rfl,hrs,hl⟩
   have hi : i < n.toNat:=List.mem_range.mp (by rw [ex]; simp)
   have hpl : pre.length < n.toNat:=by
    have : pre.length < (List.range n.toNat).length:=by rw [ex]; simp
    simpa using this
   have hn : 0 < n:=by omega
   have q0:=Int.emod_nonneg ((i:Int) + 1) (show n ≠ 0 by omega)
   have q1:=Int.emod_lt_of_pos ((i:Int) + 1) hn
   refine ⟨_,rfl,?_⟩
   walk_at "nrm"
   walk_at "set"
   rcases z27 kind i (((i:Int) + 1) % n) n hk hk5 (by omega) (by omega) q0 q1 with e | ⟨p,hp,e⟩
   ·apply zao
    refine zbs (by walk_at "ev") ?_
    walk_at "nrm"
    refine za3 (b:=false) rfl (fun h=>by cases h) (fun _=>zbp ?_)
    exact ⟨rs,_,_,_,rfl,hrs,by rw [List.length_append]; exact Nat.le_succ_of_le hl⟩
   ·apply zao
    refine zbs (by walk_at "ev") ?_
    walk_at "nrm"
    clear e
    have w0 : 0 <= (i:Int) * kind % 5 / 4:=Int.ediv_nonneg (Int.emod_nonneg _ (by decide)) (by decide)
    have w1 : (i:Int) * kind % 5 / 4 < 2:=by
     have:=Int.emod_lt_of_pos ((i:Int) * kind) (show (0 : Int) < 5 by decide)
     omega
    obtain ⟨w,hw,ew⟩:=zbz (f:=fun w : Wrd=>D.str w.s) (xs:=[.make,.may]) (i:=(i:Int) * kind % 5 / 4) w0 w1
    refine za3 (b:=true) (zb0 (zas rfl rfl (by cases p <;> rfl))) (fun _=>?_) (fun h=>by cases h)
    refine zgx (zb8 (zae (zal (by walk_at "ev") (by walk_at "ev") ew) (zae rfl (zae (zat (zae rfl rfl)) rfl)))) rfl (by rw [List.length_map]; omega) ?_
    have hw2:=List.mem_of_getElem? hw
    simp only [List.mem_cons,List.not_mem_nil,or_false] at hw2
    refine ⟨rs ++ [⟨w,((i:Int) + 1) % n,[p]⟩],.im (.int i),.im (.int (((i:Int) + 1) % n)),.im p.toD,?_,fun r hr=>?_,by rw [List.length_append,List.length_append]; exact Nat.add_le_add_right hl 1⟩
    ·rw [List.map_append]
     rcases hw2 with rfl | rfl <;> rfl
    ·rcases List.mem_append.mp hr with h | h
     ·exact hrs r h
     ·have : r=⟨w,((i:Int) + 1) % n,[p]⟩:=by simpa using h
      subst this
      refine ⟨⟨fun _=>⟨q0,by show ((i:Int) + 1) % n < _; omega⟩,fun q hq=>?_,by show 1 <= _; decide⟩,by show 1 <= 3; decide⟩
      have : q=p:=by simpa using hq
      subst this
      exact hp
  ·rintro ρ ⟨rs,v3,v4,v5,rfl,hrs,hl⟩
   rw [List.length_range] at hl
   exact zhl rfl ⟨rs,rfl,hrs,by omega⟩
 obtain ⟨o,e,rs,rfl,hrs,hl⟩:=h
 exact ⟨rs,z1q e,hrs,hl⟩
noncomputable def inS (xs:List Int) (i:Nat) : Bool:=xs.any fun x=>x == (i:Int)
theorem zs5 (xs:List Int) (i:Nat) : dIn (.int i) (.lst (xs.map D.int))=some (.bl (inS xs i)):=by
 unfold dIn inD
 show Option.map D.bl (if ((D.int i).scalar && (xs.map D.int).all D.scalar)=true then some ((xs.map D.int).any fun d=>eqX d (.int i)) else none)=_
 rw [if_pos (by rw [List.all_map]; exact (Bool.and_eq_true _ _).mpr ⟨rfl,List.all_eq_true.mpr fun _ _=>rfl⟩),List.any_map]
 rfl
theorem z5u (ks:List Key) (k j:Key) : zel (ze7 ks k) j=(zel ks j || decide (k=j)):=by
 unfold ze7
 by_cases e : zel ks k=true
 ·rw [if_pos e]
  by_cases h : k=j
  ·subst h; rw [e]; rfl
  ·rw [decide_eq_false h,Bool.or_false]
 ·rw [if_neg e]
  unfold zel
  rw [List.any_append]
  simp
theorem zxr (ks:List Key) (k:Key) : (ze7 ks k).length <= ks.length + 1:=by
 unfold ze7
 split
 ·omega
 ·rw [List.length_append]; exact Nat.le_refl _
theorem z2s {i:Nat} {fk fv:List Sl -> Option D} {ρ:List Sl} {d x:D} {k:Key} {ks:List Key} {xs:List D} (h1:fv ρ=some d) (h2:fk ρ=some x) (h3:zk3 x=some k) (h4:ρ[i]?=some (.ownd ks xs)) (hl:ks.length < 16777216) :
  zie i fk fv ρ=some (.nx (ρ.set i (.ownd (ze7 ks k) (zfp ks xs k d)))):=by
 unfold zie
 rw [h1,Option.bind_some,h2,Option.bind_some,h3,Option.bind_some,h4]
 show (if ks.length < 16777216 then _ else none)=_
 rw [if_pos hl]
theorem zsr (n:Int) (xs:List Int) (n0:0 <= n) (n1:n <= 60) (hl:xs.length <= 63) : m_6 [.int n,.lst (xs.map D.int)]=some (.lst (((List.range n.toNat).map (inS xs)).map D.bl)):=by
 obtain ⟨ρ',e,ks,ds,s3,rfl,hk,hh⟩:=z7b (g:=zar 3) (F:=zie 2 (zaa 3) (fun _=>some (.bl true))) (fi:=zbh (zaa 1)) (ρ:=[.im (.int n),.im (.lst (xs.map D.int)),.ownd [] [],.no]) xs D.int
  (fun pre ρ=>∃ (ks:List Key) (ds:List D) (s3:Sl),ρ=[.im (.int n),.im (.lst (xs.map D.int)),.ownd ks ds,s3] /\ ks.length <= pre.length /\ ∀ k : Int,zel ks (.inl k)=pre.any fun x=>x == k)
  rfl ⟨[],[],.no,rfl,Nat.le_refl _,fun _=>rfl⟩ (by
   rintro pre x post ρ ex ⟨ks,ds,s3,rfl,hk,hh⟩
   have hp : pre.length < xs.length:=by rw [ex]; simp
   refine ⟨_,_,rfl,.inl (z2s (ks:=ks) (xs:=ds) (k:=.inl x) rfl rfl rfl rfl (by omega)),ze7 ks (.inl x),_,_,rfl,?_,fun k=>?_⟩
   ·have:=zxr ks (.inl x)
    rw [List.length_append]
    show _ <= pre.length + 1
    omega
   ·rw [z5u,hh,List.any_append]
    congr 1
    rw [List.any_cons,List.any_nil,Bool.or_false]
    by_cases h : x=k
    ·subst h; simp
    ·rw [decide_eq_false (fun q=>h (Sum.inl.inj q))]
     exact (beq_eq_false_iff_ne.mpr h).symm)
 refine zjs (zcq rfl (zcq e ?_))
 show Option.map Fl.rtO (za6 _ _ _ _ _ _ [.im (.int n),.im (.lst (xs.map D.int)),.im (.dic ks ds),s3])=_
 rw [List.map_map]
 refine congrArg (Option.map Fl.rtO) (zct (List.range n.toNat) (fun (i:Nat)=>D.int i) _ (zfa rfl n0 (by omega)) (by rw [List.length_range]; omega) fun j hj=>?_)
 refine zcn rfl rfl (zas (x:=.int j) (y:=.dic ks ds) rfl rfl ?_)
 show some (D.bl (zel ks (.inl (j:Int))))=_
 rw [hh]
 rfl
theorem z0v (p:Prt) : zos [p.toD]=some p.obj:=by
 cases p <;> rfl
theorem zuq {es:List (Option Bool)} {its:List (Int × Int)} (h:InN es.length its) (hz:its.length <= 100000) : zm5 [.lst (its.map itD),.lst (es.map shD)]=some (.int (zff (· == some true) es its)):=by
 refine zcc (zcg (zau (zae (zat (zd2 its itD (fun z=>es.getD z.1.toNat none == some true) (fun z=>D.int z.2) rfl (by omega) fun z hz'=>?_)) rfl) (zii (fun t=>es.getD t.toNat none == some true) its)))
 exact zdv rfl (zb0 (zas (zal rfl rfl (zc8 (h z hz').1 (h z hz').2.1)) rfl (zem _ _))) fun _=>rfl
theorem zv8 {es:List (Option Bool)} {its:List (Int × Int)} (h:InN es.length its) (hz:its.length <= 100000) : zld [.lst (its.map itD),.lst (es.map shD)]=some (.int (zff (fun e=>!(e == some false)) es its)):=by
 refine zcc (zcg (zau (zae (zat (zd2 its itD (fun z=>!(es.getD z.1.toNat none == some false)) (fun z=>D.int z.2) rfl (by omega) fun z hz'=>?_)) rfl) (zii (fun t=>!(es.getD t.toNat none == some false)) its)))
 exact zdv rfl (zb0 (zas (zal rfl rfl (zc8 (h z hz').1 (h z hz').2.1)) rfl (zjq _ _))) fun _=>rfl
theorem z8m {es:List (Option Bool)} {ws:List Bool} {its:List (Int × Int)} (h:InN es.length its) (hw:ws.length=es.length) (hz:its.length <= 100000) :
  zo0 [.lst (its.map itD),.lst (ws.map D.bl)]=some (.lst ((its.filter fun z=>!(ws.getD z.1.toNat false)).map itD)):=by
 refine zjs (congrArg (Option.map Fl.rtO) (zd2 its itD (fun z=>!(ws.getD z.1.toNat false)) itD rfl (by omega) fun z hz'=>?_))
 have hb:=h z hz'
 exact zdv rfl (zg8 (zc9 (zal rfl rfl (zfy hb.1 (by rw [hw]; exact hb.2.1))) rfl)) fun _=>rfl
theorem z7x {es:List (Option Bool)} {ws:List Bool} {its:List (Int × Int)} (h:InN es.length its) (hz:its.length <= 100000) :
  zld [.lst ((its.filter fun z=>!(ws.getD z.1.toNat false)).map itD),.lst (es.map shD)]=some (.int (zen (fun t=>!(es.getD t.toNat none == some false) && !(ws.getD t.toNat false)) its)):=by
 have hl:=List.length_filter_le (fun z:Int × Int=>!(ws.getD z.1.toNat false)) its
 have hin : InN es.length (its.filter fun z=>!(ws.getD z.1.toNat false)):=fun z hz'=>h z (List.mem_filter.mp hz').1
 refine (zv8 hin (by omega)).trans ?_
 rw [zgw]
 exact congrArg (fun z=>some (D.int z)) (zx9 (fun t=>!(es.getD t.toNat none == some false)) (fun t=>!(ws.getD t.toNat false)) its)
theorem zx2 {es:List (Option Bool)} {ws:List Bool} (p:Prt) (h:p.Ok es.length) (hw:ws.length=es.length) : ∀ m,m=(match p with | .inn _=>m_14 | .out _=>m_15 | .least _ _=>m_16 | .most _ _=>m_17) ->
  m [p.obj,.lst (es.map shD),.lst (ws.map D.bl)]=some (.bl (p.lost es ws)):=by
 intro m e
 subst e
 cases p with
 | inn t=>exact zcc (zcg (zrf (zas (zal rfl rfl (zc8 h.1 h.2)) rfl (zem _ _)) (zal rfl rfl (zfy h.1 (by rw [hw]; exact h.2)))))
 | out t=>exact zcc (zcg (zas (zal rfl rfl (zc8 h.1 h.2)) rfl (zem _ _)))
 | least k its=>exact zcc (zcg (zas (zau (zae (zau rfl (z8m h.1 hw h.2)) (zae rfl rfl)) (z7x h.1 h.2)) rfl rfl))
 | most k its=>exact zcc (zcg (zas (zau rfl (zuq h.1 h.2)) rfl rfl))
theorem z3c {es:List (Option Bool)} {ws:List Bool} {fo:List Sl -> Option D} {fa:List Sl -> Option (List D)} {ρ:List Sl} (p:Prt) (h:p.Ok es.length) (hw:ws.length=es.length) (ho:fo ρ=some p.obj) (ha:fa ρ=some [.lst (es.map shD),.lst (ws.map D.bl)]) :
  zd0 (zda "In" "lost" m_14 fo fa) (zd0 (zda "Out" "lost" m_15 fo fa) (zd0 (zda "Least" "lost" m_16 fo fa) (zda "Most" "lost" m_17 fo fa))) ρ=some (.bl (p.lost es ws)):=by
 have hm:=zx2 (ws:=ws) p h hw _ rfl
 cases p with
 | inn t=>exact zi7 ((zhk ho rfl ha).trans hm)
 | out t=>exact zfl (zfm ho (by decide)) (zi7 ((zhk ho rfl ha).trans hm))
 | least k its=>exact zfl (zfm ho (by decide)) (zfl (zfm ho (by decide)) (zi7 ((zhk ho rfl ha).trans hm)))
 | most k its=>exact zfl (zfm ho (by decide)) (zfl (zfm ho (by decide)) (zfl (zfm ho (by decide)) ((zhk ho rfl ha).trans hm)))
theorem z7k {es:List (Option Bool)} {fo:List Sl -> Option D} {fa:List Sl -> Option (List D)} {ρ:List Sl} (p:Prt) (h:p.Ok es.length) (ho:fo ρ=some p.obj) (ha:fa ρ=some [.lst (es.map shD)]) :
  zd0 (zda "In" "sure" m_22 fo fa) (zd0 (zda "Out" "sure" m_23 fo fa) (zd0 (zda "Least" "sure" m_24 fo fa) (zda "Most" "sure" m_25 fo fa))) ρ=some (.bl (p.sure es)):=by
 cases p with
 | inn t=>exact zi7 ((zhk ho rfl ha).trans (zcc (zcg (zas (zal rfl rfl (zc8 h.1 h.2)) rfl (zem _ _)))))
 | out t=>exact zfl (zfm ho (by decide)) (zi7 ((zhk ho rfl ha).trans (zcc (zcg (zas (zal rfl rfl (zc8 h.1 h.2)) rfl (zem _ _))))))
 | least k its=>exact zfl (zfm ho (by decide)) (zfl (zfm ho (by decide)) (zi7 ((zhk ho rfl ha).trans (zcc (zcg (zas (zau rfl (zuq h.1 h.2)) rfl rfl))))))
 | most k its=>exact zfl (zfm ho (by decide)) (zfl (zfm ho (by decide)) (zfl (zfm ho (by decide)) ((zhk ho rfl ha).trans (zcc (zcg (zas (zau rfl (zv8 h.1 h.2)) rfl rfl))))))
theorem zv5 {n:Nat} (r:Rul) (h:r.Ok n) : znc [r.toD]=some (.lst (r.ps.map Prt.obj)) :=
 zjs (congrArg (Option.map Fl.rtO) (zct r.ps Prt.toD Prt.obj rfl (by have:=h.len; omega) fun p _=>zcn rfl rfl (zau rfl (z0v p))))
theorem z1c {es:List (Option Bool)} {ws:List Bool} (r:Rul) (h:r.Ok es.length) (hw:ws.length=es.length) : zp3 [r.toD,.lst (es.map shD),.lst (ws.map D.bl)]=some (.bl (r.bodyLost es ws)):=by
 refine zcc (zcg (zau (zae (zat (zct r.ps Prt.obj (fun p=>D.bl (p.lost es ws)) (zcp (zau rfl (zv5 r h)) rfl) (by have:=h.len; omega) fun p hp=>?_)) rfl) (any_map _ _)))
 exact zcn rfl rfl (z3c p (h.ps p hp) hw rfl rfl)
theorem z4k {es:List (Option Bool)} (r:Rul) (h:r.Ok es.length) : zo4 [r.toD,.lst (es.map shD)]=some (.bl (r.bodySure es)):=by
 refine zcc (zcg (zau (zae (zat (zct r.ps Prt.obj (fun p=>D.bl (p.sure es)) (zcp (zau rfl (zv5 r h)) rfl) (by have:=h.len; omega) fun p hp=>?_)) rfl) (all_map _ _)))
 exact zcn rfl rfl (z7k p (h.ps p hp) rfl rfl)
theorem z8e {es:List (Option Bool)} (r:Rul) (h:r.Ok es.length) : zro [r.toD,.lst (es.map shD)]=some (.bl (r.surely es)):=by
 have hb:=z4k r h
 have hh:=h.hd
 obtain ⟨w,hd,ps⟩:=r
 cases w with
 | may=>exact zcc (zez (ze3 rfl rfl))
 | never=>exact zcc (zcq (zc0 rfl rfl) (zcq (zc0 (zlr rfl) rfl) (zcg (zau rfl hb))))
 | make =>
  obtain ⟨h0,h1⟩:=hh (fun z=>by cases z)
  have e : mB (m2 zd7 (mIx (zaf 1) (mIx (zaf 0) (fun _=>some (.int 1)))) (fun _=>some (.bl false))) [.im (Rul.toD ⟨.make,hd,ps⟩),.im (.lst (es.map shD))]=some (!(es.getD hd.toNat none == some false)) :=
   zb0 (zas (zal rfl rfl (zc8 h0 h1)) rfl (zjq _ _))
  cases hc : (es.getD hd.toNat none == some false) with
  | true =>
   rw [hc] at e
   refine (zcc (zcq (zc0 rfl rfl) (zcq (zc0 (zh0 rfl e) rfl) (zcg (zau rfl hb))))).trans ?_
   show _=some (D.bl ((es.getD hd.toNat none == some false) && _))
   rw [hc]
   rfl
  | false =>
   rw [hc] at e
   refine (zcc (zcq (zc0 rfl rfl) (zez (ze3 (zh0 rfl e) rfl)))).trans ?_
   show _=some (D.bl ((es.getD hd.toNat none == some false) && _))
   rw [hc]
   rfl
noncomputable def plD (n:Int) (rs:List Rul) : D:=.tup [.int n,.lst (rs.map Rul.toD)]
noncomputable def hup (es:List (Option Bool)) (wo:List Bool) (r:Rul) : Bool:=r.w != .never && (wo.getD r.hd.toNat false && !(r.bodyLost es wo))
theorem zpj {r:Rul} (h:r.w ≠ .never) : atI [.str r.w.s,r.hdD,.lst (r.ps.map Prt.toD)] 1=some (.int r.hd):=by
 obtain ⟨w,hd,ps⟩:=r
 cases w <;> first | rfl | exact absurd rfl h
theorem z8d {r:Rul} (h:r.w=.never) : atI [.str r.w.s,r.hdD,.lst (r.ps.map Prt.toD)] 1=some .non:=by
 obtain ⟨w,hd,ps⟩:=r
 cases h
 rfl
theorem zvy {r:Rul} (h:r.w ≠ .never) : (r.w != .never)=true:=by
 obtain ⟨w,hd,ps⟩:=r
 cases w <;> first | rfl | exact absurd rfl h
theorem z6i {es:List (Option Bool)} {wo:List Bool} (r:Rul) (h:r.Ok es.length) (hw:wo.length=es.length) : zop [r.toD,.lst (es.map shD),.lst (wo.map D.bl)]=some (.bl (hup es wo r)):=by
 have el:=z1c (ws:=wo) r h hw
 apply zer
 unfold b_41
 show wp _ [.im r.toD,.im (.lst (es.map shD)),.im (.lst (wo.map D.bl)),.no] _
 by_cases hn : r.w=.never
 ·apply zao
  refine zbs (d:=.non) (zal rfl rfl (z8d hn)) ?_
  walk_at "nrm"
  refine zb4 (d:=.bl false) (by unfold zec; rfl) (zbx ?_)
  unfold hup
  rw [hn]
  rfl
 ·obtain ⟨h0,h1⟩:=h.hd hn
  apply zao
  refine zbs (d:=.int r.hd) (zal rfl rfl (zpj hn)) ?_
  walk_at "nrm"
  refine zb4 (zkp (a:=true) rfl (zkp (zal rfl rfl (zfy h0 (by omega))) (zgz (zau rfl el)))) (zbx ?_)
  unfold hup
  rw [zvy hn]
theorem zzu {es:List (Option Bool)} {wo:List Bool} (p:Prt) (h:p.Ok es.length) (hw:wo.length=es.length) : zq2 [p.toD,.lst (es.map shD),.lst (wo.map D.bl)]=some (.bl (p.lost es wo)):=by
 cases p with
 | inn t=>exact zcc (zez (ze3 rfl (zcg (zrf (zas (zal rfl (zal rfl rfl rfl) (zc8 h.1 h.2)) rfl (zem _ _)) (zal rfl (zal rfl rfl rfl) (zfy h.1 (by rw [hw]; exact h.2)))))))
 | out t=>exact zcc (zcq (zc0 rfl rfl) (zez (ze3 rfl (zcg (zas (zal rfl (zal rfl rfl rfl) (zc8 h.1 h.2)) rfl (zem _ _))))))
 | least k its =>
  refine zcc (zcq (zc0 rfl rfl) (zcq (zc0 rfl rfl) (zez (ze3 rfl (zcq (zwj (zat (zd2 its itD (fun z=>!(es.getD z.1.toNat none == some false) && !(wo.getD z.1.toNat false)) (fun z=>D.int z.2) (zcp (zal rfl rfl rfl) rfl) (by have:=h.2; omega) fun z hz=>?_))) (zcg (zas (zau rfl (zii (fun t=>!(es.getD t.toNat none == some false) && !(wo.getD t.toNat false)) its)) (zal rfl rfl rfl) rfl)))))))
  have hb:=h.1 z hz
  exact zdv rfl (zgy (zb0 (zas (zal rfl rfl (zc8 hb.1 hb.2.1)) rfl (zjq _ _))) (zg8 (zc9 (zal rfl rfl (zfy hb.1 (by rw [hw]; exact hb.2.1))) rfl))) fun _=>rfl
 | most k its =>
  refine zcc (zcq (zc0 rfl rfl) (zcq (zc0 rfl rfl) (zcq (zc0 rfl rfl) (zcg (zas (zau (zae (zat (zd2 its itD (fun z=>es.getD z.1.toNat none == some true) (fun z=>D.int z.2) (zcp (zal rfl rfl rfl) rfl) (by have:=h.2; omega) fun z hz=>?_)) rfl) (zii (fun t=>es.getD t.toNat none == some true) its)) (zal rfl rfl rfl) rfl)))))
  have hb:=h.1 z hz
  exact zdv rfl (zb0 (zas (zal rfl rfl (zc8 hb.1 hb.2.1)) rfl (zem _ _))) fun _=>rfl
theorem zum {es:List (Option Bool)} {wo:List Bool} (r:Rul) (h:r.Ok es.length) (hw:wo.length=es.length) : znj [r.toD,.lst (es.map shD),.lst (wo.map D.bl)]=some (.bl (hup es wo r)):=by
 apply zer
 unfold b_20
 show wp _ [.im r.toD,.im (.lst (es.map shD)),.im (.lst (wo.map D.bl))] _
 by_cases hn : r.w=.never
 ·apply zao
  refine za3 (b:=true) (zru (zb0 (zas (zal rfl rfl rfl) rfl (by rw [zof,hn]; rfl)))) (fun _=>zb4 rfl (zbx ?_)) (fun z=>by cases z)
  unfold hup
  rw [hn]
  rfl
 ·obtain ⟨h0,h1⟩:=h.hd hn
  have e0 : (r.w.s == "never")=false:=by
   obtain ⟨w,hd,ps⟩:=r
   cases w <;> first | rfl | exact absurd rfl hn
  apply zao
  refine za3 (b:=!(wo.getD r.hd.toNat false)) (zlu (zb0 (zas (zal rfl rfl rfl) rfl (by rw [zof,e0]))) (zg8 (zc9 (zal rfl (zal rfl rfl (zpj hn)) (zfy h0 (by omega))) rfl))) (fun z=>zb4 rfl (zbx ?_)) (fun z=>zbp ?_)
  ·have z : wo.getD r.hd.toNat false=false:=by simpa using z
   unfold hup
   rw [z,Bool.false_and,Bool.and_false]
  ·have z : wo.getD r.hd.toNat false=true:=by simpa using z
   walk_at "nrm"
   refine zb4 (zgz (zau (zae (zat (zct r.ps Prt.toD (fun p=>D.bl (p.lost es wo)) (zcp (zal rfl rfl rfl) rfl) (by have:=h.len; omega) fun p hp=>zcn rfl rfl (zau rfl (zzu p (h.ps p hp) hw)))) rfl) (any_map _ _))) (zbx ?_)
   unfold hup
   rw [z,zvy hn,Bool.true_and,Bool.true_and]
   rfl
noncomputable def ct (bs:List Bool) : Nat:=(bs.filter fun b=>b).length
theorem z3u (bs:List Bool) : ct bs <= bs.length:=List.length_filter_le _ _
theorem zwo : ∀ (bs:List Bool) (k:Nat),bs.getD k false=true -> ct (bs.set k false) + 1=ct bs
 | [],k,h=>by simp at h
 | b :: bs,0,h=>by
  have h : b=true:=h
  subst h
  rfl
 | b :: bs,k + 1,h=>by
  have ih:=zwo bs k (by simpa using h)
  cases b with
  | false=>exact ih
  | true =>
   show (ct (bs.set k false) + 1) + 1=ct bs + 1
   rw [ih]
theorem z4m (bs:List Bool) (k:Nat) (b:Bool) : (bs.map D.bl).set k (.bl b)=(bs.set k b).map D.bl:=by rw [List.map_set]
noncomputable def zh6 (es:List (Option Bool)) : List Bool:=es.map fun e=>!(e == some false)
theorem z68 {es:List (Option Bool)} {fi:List Sl -> Option (List D)} {ρ:List Sl} (hi:fi ρ=some (es.map shD)) (hz:es.length <= 1000) : za6 1 [] fi (zar 0) (fun _=>some true) (m2 zd7 (zaa 0) (fun _=>some (.bl false))) ρ=some ((zh6 es).map D.bl):=by
 unfold zh6
 rw [<- z5g]
 exact zct es shD (fun e=>D.bl (!(e == some false))) hi (by omega) fun e _=>zcn rfl rfl (zas rfl rfl (zjq _ _))
theorem z65 (rs:List Rul) (hz:rs.length <= 1000) (hp:∀ r ∈ rs,r.ps.length <= 1000) : m_7 [.lst (rs.map Rul.toD)]=some (.lst (rs.map Rul.toD)):=by
 apply zer
 unfold b_7
 show wp _ [.im (.lst (rs.map Rul.toD)),.no,.no,.no,.no,.no,.no] _
 walk_at "set"
 apply zao
 refine zes rs Rul.toD (fun pre ρ=>∃ v2 v3 v4 v5 v6,ρ=[.im (.lst (rs.map Rul.toD)),.own (pre.map Rul.toD),v2,v3,v4,v5,v6]) rfl ⟨_,_,_,_,_,rfl⟩ ?_ ?_
 ·rintro pre r post ρ ex ⟨v2,v3,v4,v5,v6,rfl⟩
  have hr : r ∈ rs:=by rw [ex]; simp
  have hpl : pre.length < rs.length:=by rw [ex]; simp
  have hp:=hp r hr
  refine ⟨_,rfl,?_⟩
  walk_at "nrm"
  apply zao
  refine zfc (d:=[]) rfl ?_
  walk_at "nrm"
  apply zao
  refine zes r.ps Prt.toD (fun pr ρ=>∃ v6,ρ=[.im (.lst (rs.map Rul.toD)),.own (pre.map Rul.toD),.im (.str r.w.s),.im r.hdD,.im (.lst (r.ps.map Prt.toD)),.own (pr.map Prt.toD),v6]) rfl ⟨_,rfl⟩ ?_ ?_
  ·rintro pr p po ρ ex2 ⟨v6,rfl⟩
   have hpp : pr.length < r.ps.length:=by rw [ex2]; simp
   refine ⟨_,rfl,?_⟩
   walk_at "nrm"
   refine zij (fun ρ'=>ρ'=[.im (.lst (rs.map Rul.toD)),.own (pre.map Rul.toD),.im (.str r.w.s),.im r.hdD,.im (.lst (r.ps.map Prt.toD)),.own (pr.map Prt.toD),.im p.toD]) ?_ ?_
   ·cases p with
    | inn t=>exact za3 (b:=false) rfl (fun z=>by cases z) (fun _=>zbp (k_J rfl))
    | out t=>exact za3 (b:=false) rfl (fun z=>by cases z) (fun _=>zbp (k_J rfl))
    | least k its=>exact za3 (b:=true) rfl (fun _=>zbs (zb8 (zae (zal rfl rfl rfl) (zae (zal rfl rfl rfl) (zae (zat (zcp (zal rfl rfl rfl) rfl)) rfl)))) (k_J rfl)) (fun z=>by cases z)
    | most k its=>exact za3 (b:=true) rfl (fun _=>zbs (zb8 (zae (zal rfl rfl rfl) (zae (zal rfl rfl rfl) (zae (zat (zcp (zal rfl rfl rfl) rfl)) rfl)))) (k_J rfl)) (fun z=>by cases z)
   ·rintro ρ' rfl
    refine zgx rfl rfl (by rw [List.length_map]; omega) ?_
    exact ⟨.im p.toD,by rw [List.map_append]; rfl⟩
  ·rintro ρ ⟨v6,rfl⟩
   refine zg6 rfl ?_
   refine zgx (zb8 (zae rfl (zae rfl (zae rfl rfl)))) rfl (by rw [List.length_map]; omega) ?_
   exact ⟨.im (.str r.w.s),.im r.hdD,.im (.lst (r.ps.map Prt.toD)),.im (.lst (r.ps.map Prt.toD)),v6,by rw [List.map_append]; rfl⟩
 ·rintro ρ ⟨v2,v3,v4,v5,v6,rfl⟩
  exact zhl rfl (ziz rfl)
theorem z67 {es:List (Option Bool)} (p:Prt) (h:p.Ok es.length) : zm6 [p.toD,.lst (es.map shD)]=some (.bl (p.sure es)):=by
 cases p with
 | inn t=>exact zcc (zez (ze3 rfl (zcg (zas (zal rfl (zal rfl rfl rfl) (zc8 h.1 h.2)) rfl (zem _ _)))))
 | out t=>exact zcc (zcq (zc0 rfl rfl) (zez (ze3 rfl (zcg (zas (zal rfl (zal rfl rfl rfl) (zc8 h.1 h.2)) rfl (zem _ _))))))
 | least k its =>
  refine zcc (zcq (zc0 rfl rfl) (zcq (zc0 rfl rfl) (zez (ze3 rfl (zcg (zas (zau (zae (zat (zd2 its itD (fun z=>es.getD z.1.toNat none == some true) (fun z=>D.int z.2) (zcp (zal rfl rfl rfl) rfl) (by have:=h.2; omega) fun z hz=>?_)) rfl) (zii (fun t=>es.getD t.toNat none == some true) its)) (zal rfl rfl rfl) rfl))))))
  have hb:=h.1 z hz
  exact zdv rfl (zb0 (zas (zal rfl rfl (zc8 hb.1 hb.2.1)) rfl (zem _ _))) fun _=>rfl
 | most k its =>
  refine zcc (zcq (zc0 rfl rfl) (zcq (zc0 rfl rfl) (zcq (zc0 rfl rfl) (zcg (zas (zau (zae (zat (zd2 its itD (fun z=>!(es.getD z.1.toNat none == some false)) (fun z=>D.int z.2) (zcp (zal rfl rfl rfl) rfl) (by have:=h.2; omega) fun z hz=>?_)) rfl) (zii (fun t=>!(es.getD t.toNat none == some false)) its)) (zal rfl rfl rfl) rfl)))))
  have hb:=h.1 z hz
  exact zdv rfl (zb0 (zas (zal rfl rfl (zc8 hb.1 hb.2.1)) rfl (zjq _ _))) fun _=>rfl
theorem zqi {es:List (Option Bool)} (r:Rul) (h:r.Ok es.length) : m_5 [r.toD,.lst (es.map shD)]=some (.bl (r.surely es)):=by
 have hb : ∀ ρ : List Sl,ρ=[.im r.toD,.im (.lst (es.map shD))] -> (zap zfz (zab (zak (za6 1 [1] (zbh (mIx (zaf 0) (fun _=>some (.int 2)))) (zar 0) (fun _=>some true) (zap zm6 (zab (zaa 0) (zab (zaa 1) (fun _=>some [])))))) (fun _=>some []))) ρ=some (.bl (r.bodySure es)):=fun ρ e=>by
  subst e
  exact zau (zae (zat (zct r.ps Prt.toD (fun p=>D.bl (p.sure es)) (zcp (zal rfl rfl rfl) rfl) (by have:=h.len; omega) fun p hp=>zcn rfl rfl (zau rfl (z67 p (h.ps p hp))))) rfl) (all_map _ _)
 have hh:=h.hd
 have hb:=hb _ rfl
 obtain ⟨w,hd,ps⟩:=r
 cases w with
 | may=>exact zcc (zez (ze3 (zru rfl) rfl))
 | never=>exact zcc (zcq (zc0 (zlu rfl (zlr rfl)) rfl) (zcg hb))
 | make =>
  obtain ⟨h0,h1⟩:=hh (fun z=>by cases z)
  have e : mB (m2 zd7 (mIx (zaf 1) (mIx (zaf 0) (fun _=>some (.int 1)))) (fun _=>some (.bl false))) [.im (Rul.toD ⟨.make,hd,ps⟩),.im (.lst (es.map shD))]=some (!(es.getD hd.toNat none == some false)) :=
   zb0 (zas (zal rfl (zal rfl rfl rfl) (zc8 h0 h1)) rfl (zjq _ _))
  cases hc : (es.getD hd.toNat none == some false) with
  | true =>
   rw [hc] at e
   refine (zcc (zcq (zc0 (zlu rfl (zh0 rfl e)) rfl) (zcg hb))).trans ?_
   show _=some (D.bl ((es.getD hd.toNat none == some false) && _))
   rw [hc]
   rfl
  | false =>
   rw [hc] at e
   refine (zcc (zez (ze3 (zlu rfl (zh0 rfl e)) rfl))).trans ?_
   show _=some (D.bl ((es.getD hd.toNat none == some false) && _))
   rw [hc]
   rfl
theorem zot {α : Type} (f:α -> Bool) (xs:List α) : zfz [.lst (xs.map fun x=>D.bl (f x))]=some (.bl (xs.all f)):=by
 have e : (xs.map fun x=>D.bl (f x))=(xs.map f).map D.bl:=by rw [List.map_map]; rfl
 rw [e]
 show (zeq ((xs.map f).map D.bl)).map (fun bs=>D.bl (bs.all id))=_
 rw [zn9,Option.map_some,List.all_map]
 rfl
theorem zh7 {α : Type} (f:α -> Bool) (xs:List α) : zep [.lst (xs.map fun x=>D.bl (f x))]=some (.bl (xs.any f)):=by
 have e : (xs.map fun x=>D.bl (f x))=(xs.map f).map D.bl:=by rw [List.map_map]; rfl
 rw [e]
 show (zeq ((xs.map f).map D.bl)).map (fun bs=>D.bl (bs.any id))=_
 rw [zn9,Option.map_some,List.any_map]
 rfl
theorem zug (e:Option Bool) (b:Bool) : dEq (shD e) (.bl b)=some (.bl (e == some b)):=by
 cases e with
 | none=>cases b <;> rfl
 | some c=>cases b <;> cases c <;> rfl
theorem z5o (e:Option Bool) : zd7 (shD e) .non=some (.bl e.isSome):=by cases e <;> rfl
noncomputable def brD (z:Int × Bool) : D:=.tup [.int z.1,.bl z.2]
noncomputable def zfg (n:Nat) (zs:List (Int × Bool)) : Prop:=(∀ z ∈ zs,0 <= z.1 /\ z.1 < (n:Int)) /\ zs.length <= 60
noncomputable def zd8 (n:Nat) (xs:List Int) : Prop:=(∀ x ∈ xs,0 <= x /\ x < (n:Int)) /\ xs.length <= 63
noncomputable def zdg (es:List (Option Bool)) (zs:List (Int × Bool)) : Bool:=zs.all fun z=>es.getD z.1.toNat none == some z.2
theorem z6j {es:List (Option Bool)} {zs:List (Int × Bool)} (h:zfg es.length zs) : zp1 [.lst (es.map shD),.lst (zs.map brD)]=some (.bl (zdg es zs)) :=
 zcc (zcg (zau (zae (zat (zct zs brD (fun z=>D.bl (es.getD z.1.toNat none == some z.2)) rfl (by have:=h.2; omega) fun z hz=>zcn rfl rfl (zas (zal rfl rfl (zc8 (h.1 z hz).1 (h.1 z hz).2)) rfl (zug _ _)))) rfl) (zot _ _)))
theorem zwl {es:List (Option Bool)} {zs:List (Int × Bool)} (h:zfg es.length zs) : zoc [.lst (es.map shD),.lst (zs.map brD)]=some (.bl (zdg es zs)) :=
 zcc (zcg (zau (zae (zat (zct zs brD (fun z=>D.bl (es.getD z.1.toNat none == some z.2)) rfl (by have:=h.2; omega) fun z hz=>zcn rfl rfl (zas (zal rfl rfl (zc8 (h.1 z hz).1 (h.1 z hz).2)) rfl (zug _ _)))) rfl) (zot _ _)))
theorem zzt {es:List (Option Bool)} {wo:List Bool} {r:Rul} (h:hup es wo r=true) : r.w ≠ .never /\ wo.getD r.hd.toNat false=true:=by
 unfold hup at h
 have h' : r.w ≠ .never /\ wo.getD r.hd.toNat false=true /\ r.bodyLost es wo=false:=by simpa using h
 exact ⟨h'.1,h'.2.1⟩
theorem z2e (rs:List Rul) (es:List (Option Bool)) (n60:es.length <= 60) (hok:∀ r ∈ rs,r.Ok es.length) : ∃ wo : List Bool,zrq [.lst (rs.map Rul.toD),.lst (es.map shD)]=some (.lst (wo.map D.bl)) /\ wo.length=es.length:=by
 have hno : (zh6 es).length=es.length:=by unfold zh6; rw [List.length_map]
 have : wp b_12 (zdw 5 [.lst (rs.map Rul.toD),.lst (es.map shD)]) (fun o=>∃ wo : List Bool,o=.rtO (wo.map D.bl) /\ wo.length=es.length):=by
  unfold b_12
  show wp _ [.im (.lst (rs.map Rul.toD)),.im (.lst (es.map shD)),.no,.no,.no] _
  apply zao
  refine zfc (z68 rfl (by omega)) ?_
  walk_at "nrm"
  apply zao
  refine zbs (d:=.bl true) rfl ?_
  walk_at "nrm"
  apply zao
  refine zwq (fun m ρ=>∃ (wo:List Bool) (ch:Bool) (v4:Sl),ρ=[.im (.lst (rs.map Rul.toD)),.im (.lst (es.map shD)),.own (wo.map D.bl),.im (.bl ch),v4] /\ wo.length=es.length /\ ct wo + (if ch then 1 else 0)=m) ?_ _ (ct (zh6 es) + 1) _ ⟨zh6 es,true,.no,rfl,hno,rfl⟩ (by have:=z3u (zh6 es); omega)
  rintro m ρ ⟨wo,ch,v4,rfl,hl,hm⟩
  refine ⟨ch,rfl,?_,?_⟩
  ·rintro rfl
   apply zao
   refine zbs (d:=.bl false) rfl ?_
   walk_at "nrm"
   refine zes rs Rul.toD (fun _ ρ=>∃ (wo':List Bool) (ch:Bool) (v4:Sl),ρ=[.im (.lst (rs.map Rul.toD)),.im (.lst (es.map shD)),.own (wo'.map D.bl),.im (.bl ch),v4] /\ wo'.length=es.length /\ ct wo' + (if ch then 1 else 0) <= ct wo) rfl ⟨wo,false,v4,rfl,hl,Nat.le_refl _⟩ ?_ ?_
   ·rintro pre r post ρ ex ⟨wo',ch,v4,rfl,hl',hc⟩
    have hrs : r ∈ rs:=by rw [ex]; simp
    have er:=zum (wo:=wo') r (hok r hrs) hl'
    refine ⟨_,rfl,?_⟩
    walk_at "nrm"
    refine za3 (zc9 (znk (zae rfl (zae rfl (zae rfl rfl))) er rfl) rfl) (fun z=>?_) (fun z=>?_)
    ·obtain ⟨a,b⟩:=zzt z
     obtain ⟨h0,h1⟩:=(hok r hrs).hd a
     have hcs:=zwo wo' r.hd.toNat b
     apply zao
     refine zma (k:=r.hd) (xs:=wo'.map D.bl) rfl (zal rfl rfl (zpj a)) rfl h0 (by rw [List.length_map]; omega) ?_
     walk_at "nrm"
     refine zbs rfl ?_
     refine ⟨wo'.set r.hd.toNat false,true,.im r.toD,by rw [<- z4m]; rfl,by rw [List.length_set]; exact hl',?_⟩
     rw [if_pos rfl]
     have : ct wo' <= ct wo:=Nat.le_trans (Nat.le_add_right _ _) hc
     omega
    ·exact zbp ⟨wo',ch,.im r.toD,rfl,hl',hc⟩
   ·rintro ρ ⟨wo',ch,v4,rfl,hl',hc⟩
    rw [if_pos rfl] at hm
    exact ⟨_,by omega,wo',ch,v4,rfl,hl',rfl⟩
  ·rintro rfl
   exact zhl rfl ⟨wo,rfl,hl⟩
 obtain ⟨o,e,wo,rfl,hl⟩:=this
 exact ⟨wo,zjs e,hl⟩
theorem zy4 (cm:Bool) (c n:Int) (n0:0 <= n) (n60:n <= 60) : ∃ d,zpz [.int c,.int n,.bl cm]=some d /\ ∃ r : Rul,d=r.toD /\ r.Ok n.toNat /\ r.ps.length <= 3:=by
 apply zg3
 unfold b_39
 show wp _ [.im (.int c),.im (.int n),.im (.bl cm),.no,.no] _
 obtain ⟨d,em,xs,rfl,hl,hx⟩:=zmh c 33 (by decide) (by decide)
 have hl' : xs.length=33:=by omega
 obtain ⟨a0,h0,e0⟩:=zbz (f:=D.int) (xs:=xs) (i:=0) (by decide) (by omega)
 obtain ⟨a1,h1,e1⟩:=zbz (f:=D.int) (xs:=xs) (i:=1) (by decide) (by omega)
 obtain ⟨a2,h2,e2⟩:=zbz (f:=D.int) (xs:=xs) (i:=2) (by decide) (by omega)
 walk_at "set"
 apply zao
 walk_at "if0"
 ·intro hb
  have hn : n=0:=by simpa using hb
  subst hn
  obtain ⟨wd,hwd,ew⟩:=zbz (f:=D.str) (xs:=["least","most"]) (i:=a0 % 2) (Int.emod_nonneg _ (by decide)) (Int.emod_lt_of_pos _ (by decide))
  have hw2:=List.mem_of_getElem? hwd
  simp only [List.mem_cons,List.not_mem_nil,or_false] at hw2
  obtain ⟨p,ep,hp⟩ : ∃ p : Prt,p.toD=.tup [.str wd,.int (a1 % 3 - 1),.lst []] /\ p.Ok 0:=by
   rcases hw2 with rfl | rfl
   ·exact ⟨.least (a1 % 3 - 1) [],rfl,⟨(fun z hz=>nomatch hz),by decide⟩⟩
   ·exact ⟨.most (a1 % 3 - 1) [],rfl,⟨(fun z hz=>nomatch hz),by decide⟩⟩
  have es : mSl (zak (zab (zbg (zab (mIx (zab (fun _=>some (.str "least")) (zab (fun _=>some (.str "most")) (fun _=>some []))) (m2 zbr (mIx (zaf 3) (fun _=>some (.int 0))) (fun _=>some (.int 2)))) (zab (m2 zh2 (m2 zbr (mIx (zaf 3) (fun _=>some (.int 1))) (fun _=>some (.int 3))) (fun _=>some (.int 1))) (zab (zak (fun _=>some [])) (fun _=>some []))))) (fun _=>some []))) (fun _=>some none) (mPt (m2 zbr (mIx (zaf 3) (fun _=>some (.int 2))) (fun _=>some (.int 6)))) [.im (.int c),.im (.int 0),.im (.bl cm),.im (.lst (xs.map D.int)),.no]=some ((([p].drop (HT.sIx [p].length 0 none)).take (HT.sIx [p].length [p].length (some (a2 % 6)) - HT.sIx [p].length 0 none)).map Prt.toD):=by
   refine zdi (xs:=[p]) (g:=Prt.toD) ?_ rfl ?_
   ·rw [List.map_cons,List.map_nil,ep]
    walk_at "ev"
   ·unfold mPt
    rw [show (m2 zbr (mIx (zaf 3) (fun _=>some (.int 2))) (fun _=>some (.int 6))) [.im (.int c),.im (.int 0),.im (.bl cm),.im (.lst (xs.map D.int)),.no]=some (.int (a2 % 6)) by walk_at "ev"]
    rfl
  refine zb4 (zb8 (zae rfl (zae rfl (zae (zat es) rfl)))) (zbx ⟨⟨.never,0,_⟩,rfl,⟨fun h=>absurd rfl h,fun q hq=>?_,?_⟩,?_⟩)
  ·have : q=p:=by simpa using ztg hq
   rw [this]
   exact hp
  ·show (List.take _ (List.drop _ [p])).length <= _
   rw [List.length_take,List.length_drop]
   show min _ (1 - _) <= _
   omega
  ·show (List.take _ (List.drop _ [p])).length <= _
   rw [List.length_take,List.length_drop]
   show min _ (1 - _) <= _
   omega
 ·intro hb
  have hn : n ≠ 0:=by simpa using hb
  have n1 : 1 <= n:=by omega
  apply zbp
  walk_at "nrm"
  obtain ⟨t,ht,et⟩:=zbz (f:=D.int) (xs:=[1,1,2,2,3,0]) (i:=a0 % 6) (Int.emod_nonneg _ (by decide)) (Int.emod_lt_of_pos _ (by decide))
  have t3 : 0 <= t /\ t <= 3:=by
   have : ∀ x ∈ ([1,1,2,2,3,0] : List Int),0 <= x /\ x <= 3:=by decide
   exact this t (List.mem_of_getElem? ht)
  obtain ⟨ps,ep,lp,hp⟩:=zss (k:=1) (js:=[1,3]) (fi:=(zds (zab (mIx (zab (fun _=>some (.int 1)) (zab (fun _=>some (.int 1)) (zab (fun _=>some (.int 2)) (zab (fun _=>some (.int 2)) (zab (fun _=>some (.int 3)) (zab (fun _=>some (.int 0)) (fun _=>some []))))))) (m2 zbr (mIx (zaf 3) (fun _=>some (.int 0))) (fun _=>some (.int 6)))) (fun _=>some [])))) (g:=zar 0) (ft:=fun _=>some true) (fe:=(zap zn2 (zab (zak (mSl (zaa 2) (mPt (m2 zcf (fun _=>some (.int 3)) (m2 zc7 (fun _=>some (.int 10)) (zaa 0)))) (mPt (m2 zcf (fun _=>some (.int 13)) (m2 zc7 (fun _=>some (.int 10)) (zaa 0)))))) (zab (zaa 1) (fun _=>some []))))) (ρ:=[.im (.int c),.im (.int n),.im (.bl cm),.im (.lst (xs.map D.int)),.no]) (List.range t.toNat) (fun (i:Nat)=>D.int i) Prt.toD (fun p=>p.Ok n.toNat) (zfa (by walk_at "ev") t3.1 (by omega)) (by rw [List.length_range]; omega) fun i hi=>by
   have hi:=List.mem_range.mp hi
   have es : mSl (zaa 2) (mPt (m2 zcf (fun _=>some (.int 3)) (m2 zc7 (fun _=>some (.int 10)) (zaa 0)))) (mPt (m2 zcf (fun _=>some (.int 13)) (m2 zc7 (fun _=>some (.int 10)) (zaa 0)))) [.im (.int i),.im (.int n),.im (.lst (xs.map D.int))]=some ((((xs.drop (HT.sIx xs.length 0 (some (3 + 10 * (i:Int)))))).take (HT.sIx xs.length xs.length (some (13 + 10 * (i:Int))) - HT.sIx xs.length 0 (some (3 + 10 * (i:Int))))).map D.int):=by
    refine zdi rfl ?_ ?_
    ·unfold mPt
     rw [show (m2 zcf (fun _=>some (.int 3)) (m2 zc7 (fun _=>some (.int 10)) (zaa 0))) [.im (.int i),.im (.int n),.im (.lst (xs.map D.int))]=some (.int (3 + 10 * (i:Int))) by walk_at "ev"]
     rfl
    ·unfold mPt
     rw [show (m2 zcf (fun _=>some (.int 13)) (m2 zc7 (fun _=>some (.int 10)) (zaa 0))) [.im (.int i),.im (.int n),.im (.lst (xs.map D.int))]=some (.int (13 + 10 * (i:Int))) by walk_at "ev"]
     rfl
   obtain ⟨d,ed,p,rfl,hp,_⟩:=z4b ((xs.drop (HT.sIx xs.length 0 (some (3 + 10 * (i:Int))))).take (HT.sIx xs.length xs.length (some (13 + 10 * (i:Int))) - HT.sIx xs.length 0 (some (3 + 10 * (i:Int))))) n (by
    rw [List.length_take,List.length_drop,show (3 + 10 * (i:Int))=((3 + 10 * i : Nat) : Int) by omega,show (13 + 10 * (i:Int))=((13 + 10 * i : Nat) : Int) by omega,HT.sIx_nat,HT.sIx_nat]
    omega) (fun y hy=>hx y (ztg hy)) n1 n60
   exact ⟨p,hp,zcn rfl rfl (zau (zae (zat es) (zae rfl rfl)) ed)⟩
  rw [List.length_range] at lp
  apply zao
  refine zbs (zat ep) ?_
  walk_at "nrm"
  have eN : (m2 dNe (zaa 4) (zak (fun _=>some []))) [.im (.int c),.im (.int n),.im (.bl cm),.im (.lst (xs.map D.int)),.im (.lst (ps.map Prt.toD))]=some (.bl (!ps.isEmpty)):=zas rfl rfl (zj8 _ _)
  apply zao
  walk_at "if0"
  ·intro _
   walk_at "if0"
   exact zbx ⟨⟨.never,0,ps⟩,rfl,⟨fun h=>absurd rfl h,hp,by show ps.length <= _; omega⟩,by show ps.length <= 3; omega⟩
  ·intro _
   apply zbp
   walk_at "nrm"
   obtain ⟨w,hw,ew⟩:=zbz (f:=fun w : Wrd=>D.str w.s) (xs:=[.make,.may]) (i:=a1 / 8 % 2) (Int.emod_nonneg _ (by decide)) (Int.emod_lt_of_pos _ (by decide))
   have q0:=Int.emod_nonneg (a2 / 4) (show n ≠ 0 by omega)
   have q1:=Int.emod_lt_of_pos (a2 / 4) (show 0 < n by omega)
   walk_at "if0"
   refine zbx ⟨⟨w,a2 / 4 % n,ps⟩,?_,⟨fun _=>⟨q0,by show a2 / 4 % n < _; omega⟩,hp,by show ps.length <= _; omega⟩,by show ps.length <= 3; omega⟩
   have hw2:=List.mem_of_getElem? hw
   simp only [List.mem_cons,List.not_mem_nil,or_false] at hw2
   rcases hw2 with rfl | rfl <;> rfl
noncomputable def zea : Rul:=⟨.never,0,[]⟩
inductive Wy where
 | rul (k:Int)
 | bar (k:Int)
 | wld (k:Int)
 | grp (xs:List Int)
noncomputable def Wy.toD : Wy -> D
 | .rul k=>.tup [.str "rule",.int k]
 | .bar k=>.tup [.str "bar",.int k]
 | .wld k=>.tup [.str "world",.int k]
 | .grp xs=>.tup [.str "group",.lst (xs.map D.int)]
noncomputable def Wy.Ok (n:Nat) : Wy -> Prop
 | .rul k=>0 <= k
 | .bar k=>0 <= k
 | .wld k=>0 <= k
 | .grp xs=>zd8 n xs
noncomputable def seD (xs:List Int) : D:=.lst (xs.map D.int)
noncomputable def baD (zs:List (Int × Bool)) : D:=.lst (zs.map brD)
noncomputable def wiS (n:Nat) (xs:List Int) : List Bool:=(List.range n).map (inS xs)
theorem zkj (n:Nat) (xs:List Int) : (wiS n xs).length=n:=by unfold wiS; rw [List.length_map,List.length_range]
noncomputable def rgt (rs:List Rul) (ss:List (List Int)) (bs:List (List (Int × Bool))) (es:List (Option Bool)) : Wy -> Bool
 | .rul k=>decide (k < (rs.length : Int)) && (rs.getD k.toNat zea).surely es
 | .bar k=>decide (k < (bs.length : Int)) && zdg es (bs.getD k.toNat [])
 | .wld k=>decide (k < (ss.length : Int)) && (es == (wiS es.length (ss.getD k.toNat [])).map some)
 | .grp xs=>(xs.any fun x=>es.getD x.toNat none == some true) && !(rs.any fun r=>hup es (wiS es.length xs) r)
theorem zvf : ∀ (es:List (Option Bool)) (bs:List Bool),es.length=bs.length -> zck (deq 19) (es.map shD) (bs.map D.bl)=some (es == bs.map some)
 | [],[],_=>rfl
 | [],_ :: _,h=>by cases h
 | _ :: _,[],h=>by cases h
 | e :: es,b :: bs,h=>by
  have ih:=zvf es bs (by simpa using h)
  have e1 : deq 19 (shD e) (.bl b)=some (e == some b):=by
   cases e with
   | none=>cases b <;> rfl
   | some c=>cases b <;> cases c <;> rfl
  show ((deq 19 (shD e) (.bl b)).bind fun x=>(zck (deq 19) (es.map shD) (bs.map D.bl)).map fun r=>x && r)=_
  rw [e1,ih]
  rfl
theorem zq6 (es:List (Option Bool)) (bs:List Bool) (h:es.length=bs.length) : dEq (.lst (es.map shD)) (.lst (bs.map D.bl))=some (.bl (es == bs.map some)):=by
 show ((if (es.map shD).length=(bs.map D.bl).length then zck (deq 19) (es.map shD) (bs.map D.bl) else some false) : Option Bool).map D.bl=_
 rw [if_pos (by rw [List.length_map,List.length_map]; exact h),zvf es bs h]
 rfl
theorem zly {p:Prop} [Decidable p] {f g:List Sl -> Option D} {ρ:List Sl} {b:Bool} (h:f ρ=some (.bl (decide p))) (h':p -> g ρ=some (.bl b)) : zec f g ρ=some (.bl (decide p && b)):=by
 by_cases q : p
 ·exact zkp h (h' q)
 ·unfold zec
  rw [zb0 h,decide_eq_false q]
  rfl
theorem zqk {α : Type} (f:α -> D) (xs:List α) (k:Int) (k0:0 <= k) : m_3 [.lst (xs.map f),.int k]=some (.bl (decide (k < (xs.length : Int)))):=by
 have : zhw dLe dLt (fun _=>some (.int 0)) (zaa 1) (zap zcb (zab (zaa 0) (fun _=>some []))) [.im (.lst (xs.map f)),.im (.int k)]=some (.bl (decide (0 <= k) && decide (k < (xs.length : Int)))):=z16 rfl rfl zs0 (zau rfl (zcy _ _)) zjm
 rw [decide_eq_true k0] at this
 exact zcc (zcg this)
theorem zv1 {xs:List Int} {n:Nat} {k:Nat} {js:List Nat} {fi:List Sl -> Option (List D)} {fe:List Sl -> Option D} {ρ:List Sl} (hn:n <= 1000) (hi:fi ρ=some ((List.range n).map fun (i:Nat)=>D.int i)) (he:∀ i : Nat,fe ((zdk k js ρ).set 0 (.im (.int i)))=some (.bl (inS xs i))) : za6 k js fi (zar 0) (fun _=>some true) fe ρ=some ((wiS n xs).map D.bl):=by
 unfold wiS
 rw [List.map_map]
 exact zct (List.range n) (fun (i:Nat)=>D.int i) (fun i=>D.bl (inS xs i)) hi (by rw [List.length_range]; omega) fun i _=>zcn rfl rfl (he i)
section
variable {rs:List Rul} {ss:List (List Int)} {bs:List (List (Int × Bool))} {es:List (Option Bool)}
theorem zyr (hok:∀ r ∈ rs,r.Ok es.length) (hz:rs.length <= 1000) (hs:∀ s ∈ ss,zd8 es.length s) (hb:∀ b ∈ bs,zfg es.length b) (n60:es.length <= 60) (w:Wy) (hw:w.Ok es.length) :
  zpc [.lst (rs.map Rul.toD),.lst (ss.map seD),.lst (bs.map baD),.lst (es.map shD),w.toD]=some (.bl (rgt rs ss bs es w)):=by
 apply zer
 unfold b_35
 show wp _ [.im (.lst (rs.map Rul.toD)),.im (.lst (ss.map seD)),.im (.lst (bs.map baD)),.im (.lst (es.map shD)),.im w.toD,.no,.no,.no] _
 cases w with
 | rul k =>
  apply zao
  refine zik rfl rfl ?_
  walk_at "nrm"
  apply zao
  refine za3 (b:=true) rfl (fun _=>zb4 (zly (p:=k < (rs.length : Int)) (zas rfl (zau rfl (zcy _ _)) zjm) fun q=>?_) (zbx rfl)) (fun z=>by cases z)
  obtain ⟨r,hr,er⟩:=zbz (f:=Rul.toD) (xs:=rs) (i:=k) hw q
  have : rs.getD k.toNat zea=r:=by rw [List.getD_eq_getElem?_getD,hr]; rfl
  rw [this]
  exact zau (zae (zal rfl rfl er) (zae rfl rfl)) (zqi r (hok r (List.mem_of_getElem? hr)))
 | bar k =>
  apply zao
  refine zik rfl rfl ?_
  walk_at "nrm"
  apply zao
  refine za3 (b:=false) rfl (fun z=>by cases z) (fun _=>zbp ?_)
  walk_at "nrm"
  apply zao
  refine za3 (b:=true) rfl (fun _=>zb4 (zly (p:=k < (bs.length : Int)) (zas rfl (zau rfl (zcy _ _)) zjm) fun q=>?_) (zbx rfl)) (fun z=>by cases z)
  obtain ⟨r,hr,er⟩:=zbz (f:=baD) (xs:=bs) (i:=k) hw q
  have : bs.getD k.toNat []=r:=by rw [List.getD_eq_getElem?_getD,hr]; rfl
  rw [this]
  exact zau (zae rfl (zae (zal rfl rfl er) rfl)) (zwl (hb r (List.mem_of_getElem? hr)))
 | wld k =>
  apply zao
  refine zik rfl rfl ?_
  walk_at "nrm"
  apply zao
  refine za3 (b:=false) rfl (fun z=>by cases z) (fun _=>zbp ?_)
  walk_at "nrm"
  apply zao
  refine za3 (b:=false) rfl (fun z=>by cases z) (fun _=>zbp ?_)
  walk_at "nrm"
  apply zao
  refine za3 (b:=decide (k < (ss.length : Int))) (zh0 rfl (zb0 (zas rfl (zau rfl (zcy _ _)) zjm))) (fun z=>?_) (fun z=>zbp ?_)
  ·obtain ⟨r,hr,er⟩:=zbz (f:=seD) (xs:=ss) (i:=k) hw (by simpa using z)
   have e : ss.getD k.toNat []=r:=by rw [List.getD_eq_getElem?_getD,hr]; rfl
   refine zb4 (zas rfl (zat (zv1 (xs:=r) (n:=es.length) (by omega) (zfa (n:=(es.length : Int)) (zae (zau rfl (zcy _ _)) rfl) (by omega) (by omega)) fun i=>zas rfl (zal rfl rfl er) (zs5 _ _))) (zq6 es _ (zkj _ _).symm)) (zbx ?_)
   show _=D.bl (decide (k < (ss.length : Int)) && (es == (wiS es.length (ss.getD k.toNat [])).map some))
   rw [z,e]
   rfl
  ·walk_at "nrm"
   apply zao
   refine za3 (b:=true) rfl (fun _=>zb4 rfl (zbx ?_)) (fun z=>by cases z)
   show _=D.bl (decide (k < (ss.length : Int)) && (es == (wiS es.length (ss.getD k.toNat [])).map some))
   rw [z]
   rfl
 | grp xs =>
  apply zao
  refine zik rfl rfl ?_
  walk_at "nrm"
  apply zao
  refine za3 (b:=false) rfl (fun z=>by cases z) (fun _=>zbp ?_)
  walk_at "nrm"
  apply zao
  refine za3 (b:=false) rfl (fun z=>by cases z) (fun _=>zbp ?_)
  walk_at "nrm"
  apply zao
  refine za3 (b:=false) (zlr rfl) (fun z=>by cases z) (fun _=>zbp ?_)
  walk_at "nrm"
  apply zao
  refine za3 (b:=false) rfl (fun z=>by cases z) (fun _=>zbp ?_)
  walk_at "nrm"
  have hw2:=hw.2
  apply zao
  refine za3 (b:=!(xs.any fun x=>es.getD x.toNat none == some true)) (zg8 (zc9 (zau (zae (zat (zct xs D.int (fun x=>D.bl (es.getD x.toNat none == some true)) rfl (by omega) fun x hx=>zcn rfl rfl (zas (zal rfl rfl (zc8 (hw.1 x hx).1 (hw.1 x hx).2)) rfl (zem _ _)))) rfl) (zh7 _ _)) rfl)) (fun z=>zb4 rfl (zbx ?_)) (fun z=>zbp ?_)
  ·have z : (xs.any fun x=>es.getD x.toNat none == some true)=false:=by simpa using z
   show _=D.bl ((xs.any fun x=>es.getD x.toNat none == some true) && _)
   rw [z]
   rfl
  ·have z : (xs.any fun x=>es.getD x.toNat none == some true)=true:=by
    cases e : (xs.any fun x=>es.getD x.toNat none == some true) with
    | true=>rfl
    | false=>rw [e] at z; cases z
   walk_at "nrm"
   apply zao
   refine zbs (zat (zv1 (xs:=xs) (n:=es.length) (by omega) (zfa (n:=(es.length : Int)) (zae (zau rfl (zcy _ _)) rfl) (by omega) (by omega)) fun i=>zas rfl rfl (zs5 _ _))) ?_
   walk_at "nrm"
   refine zb4 (zgz (zau (zae (zat (zct rs Rul.toD (fun r=>D.bl (hup es (wiS es.length xs) r)) rfl (by omega) fun r hr=>zcn rfl rfl (zau rfl (zum r (hok r hr) (zkj _ _))))) rfl) (zh7 _ _))) (zbx ?_)
   show _=D.bl ((xs.any fun x=>es.getD x.toNat none == some true) && _)
   rw [z]
   rfl
theorem zym (hok:∀ r ∈ rs,r.Ok es.length) (hz:rs.length <= 1000) (n60:es.length <= 60) (xs:List Int) (hw:zd8 es.length xs) :
  zpq [plD es.length rs,.lst (es.map shD),.lst (xs.map D.int)]=some (.bl (rgt rs ss bs es (.grp xs))):=by
 have hw2:=hw.2
 have em : m_6 [.int (es.length : Int),.lst (xs.map D.int)]=some (.lst ((wiS es.length xs).map D.bl)):=zsr (es.length : Int) xs (by omega) (by omega) hw.2
 have eh : zqe [.lst (es.map shD),.lst (xs.map D.int)]=some (.bl (xs.any fun x=>es.getD x.toNat none == some true)) :=
  zcc (zcg (zau (zae (zat (zct xs D.int (fun x=>D.bl (es.getD x.toNat none == some true)) rfl (by omega) fun x hx=>zcn rfl rfl (zas (zal rfl rfl (zc8 (hw.1 x hx).1 (hw.1 x hx).2)) rfl (zem _ _)))) rfl) (zh7 _ _)))
 apply zer
 unfold b_42
 show wp _ [.im (plD es.length rs),.im (.lst (es.map shD)),.im (.lst (xs.map D.int)),.no] _
 apply zao
 refine zbs (zau (zae (zal rfl rfl rfl) (zae rfl rfl)) em) ?_
 walk_at "nrm"
 apply zao
 refine za3 (zc9 (zau (zae (zat (zct rs Rul.toD (fun r=>D.bl (hup es (wiS es.length xs) r)) (zcp (zal rfl rfl rfl) rfl) (by omega) fun r hr=>zcn rfl rfl (zau rfl (z6i r (hok r hr) (zkj _ _))))) rfl) (zh7 _ _)) rfl) (fun z=>zb4 rfl (zbx ?_)) (fun z=>zbp ?_)
 ·show _=D.bl (_ && !(rs.any fun r=>hup es (wiS es.length xs) r))
  rw [z,Bool.not_true,Bool.and_false]
 ·walk_at "nrm"
  refine zb4 (zau rfl eh) (zbx ?_)
  show _=D.bl (_ && !(rs.any fun r=>hup es (wiS es.length xs) r))
  rw [z,Bool.not_false,Bool.and_true]
theorem z81 (hok:∀ r ∈ rs,r.Ok es.length) (hz:rs.length <= 1000) (hs:∀ s ∈ ss,zd8 es.length s) (hb:∀ b ∈ bs,zfg es.length b) (n60:es.length <= 60) (w:Wy) (hw:w.Ok es.length) :
  zng [plD es.length rs,.lst (ss.map seD),.lst (bs.map baD),.lst (es.map shD),w.toD]=some (.bl (rgt rs ss bs es w)):=by
 apply zer
 unfold b_11
 show wp _ [.im (plD es.length rs),.im (.lst (ss.map seD)),.im (.lst (bs.map baD)),.im (.lst (es.map shD)),.im w.toD,.no] _
 cases w with
 | rul k =>
  apply zao
  refine za3 (b:=false) rfl (fun z=>by cases z) (fun _=>zbp ?_)
  walk_at "nrm"
  apply zao
  refine zbs (d:=.int k) (zal rfl rfl rfl) ?_
  walk_at "nrm"
  apply zao
  refine za3 (b:=true) rfl (fun _=>zb4 (zly (p:=k < (rs.length : Int)) (zau (zae (zal rfl rfl rfl) (zae rfl rfl)) (zqk Rul.toD rs k hw)) fun q=>?_) (zbx rfl)) (fun z=>by cases z)
  obtain ⟨r,hr,er⟩:=zbz (f:=Rul.toD) (xs:=rs) (i:=k) hw q
  have : rs.getD k.toNat zea=r:=by rw [List.getD_eq_getElem?_getD,hr]; rfl
  rw [this]
  exact zau (zae (zal (zcp (zal rfl rfl rfl) rfl) rfl er) (zae rfl rfl)) (z8e r (hok r (List.mem_of_getElem? hr)))
 | bar k =>
  apply zao
  refine za3 (b:=false) rfl (fun z=>by cases z) (fun _=>zbp ?_)
  walk_at "nrm"
  apply zao
  refine zbs (d:=.int k) (zal rfl rfl rfl) ?_
  walk_at "nrm"
  apply zao
  refine za3 (b:=false) rfl (fun z=>by cases z) (fun _=>zbp ?_)
  walk_at "nrm"
  apply zao
  refine za3 (b:=true) rfl (fun _=>zb4 (zly (p:=k < (bs.length : Int)) (zau rfl (zqk baD bs k hw)) fun q=>?_) (zbx rfl)) (fun z=>by cases z)
  obtain ⟨r,hr,er⟩:=zbz (f:=baD) (xs:=bs) (i:=k) hw q
  have : bs.getD k.toNat []=r:=by rw [List.getD_eq_getElem?_getD,hr]; rfl
  rw [this]
  exact zau (zae rfl (zae (zal rfl rfl er) rfl)) (z6j (hb r (List.mem_of_getElem? hr)))
 | wld k =>
  apply zao
  refine za3 (b:=false) rfl (fun z=>by cases z) (fun _=>zbp ?_)
  walk_at "nrm"
  apply zao
  refine zbs (d:=.int k) (zal rfl rfl rfl) ?_
  walk_at "nrm"
  apply zao
  refine za3 (b:=false) rfl (fun z=>by cases z) (fun _=>zbp ?_)
  walk_at "nrm"
  apply zao
  refine za3 (b:=false) rfl (fun z=>by cases z) (fun _=>zbp ?_)
  walk_at "nrm"
  refine zb4 (zkp (a:=true) (zas (zal rfl rfl rfl) rfl (zof _ _)) (zly (p:=k < (ss.length : Int)) (zau rfl (zqk seD ss k hw)) fun q=>?_)) (zbx rfl)
  obtain ⟨r,hr,er⟩:=zbz (f:=seD) (xs:=ss) (i:=k) hw q
  have : ss.getD k.toNat []=r:=by rw [List.getD_eq_getElem?_getD,hr]; rfl
  rw [this]
  have em : m_6 [.int (es.length : Int),.lst (r.map D.int)]=some (.lst ((wiS es.length r).map D.bl)):=zsr (es.length : Int) r (by omega) (by omega) (hs r (List.mem_of_getElem? hr)).2
  exact zas rfl (zau (zae (zal rfl rfl rfl) (zae (zal rfl rfl er) rfl)) em) (zq6 es _ (zkj _ _).symm)
 | grp xs =>
  apply zao
  exact za3 (b:=true) rfl (fun _=>zb4 (zau (zae rfl (zae rfl (zae (zal rfl rfl rfl) rfl))) (zym (ss:=ss) (bs:=bs) hok hz n60 xs hw)) (zbx rfl)) (fun z=>by cases z)
end
section
variable {rs:List Rul} {ss:List (List Int)} {bs:List (List (Int × Bool))} {es:List (Option Bool)}
end
theorem zwk {es:List (Option Bool)} {t:Int} (b:Bool) (t0:0 <= t) (t1:t < (es.length : Int)) (n60:es.length <= 60) : znw [.lst (es.map shD),.int t,.bl b]=some (.lst ((es.set t.toNat (some b)).map shD)):=by
 obtain ⟨k,rfl⟩ : ∃ k : Nat,t=(k:Int):=⟨t.toNat,by omega⟩
 have hk : k < es.length:=by omega
 have e : es.set (k:Int).toNat (some b)=es.take k ++ [some b] ++ es.drop (k + 1):=by
  rw [Int.toNat_natCast,List.set_eq_take_append_cons_drop,if_pos hk,List.append_assoc]
  rfl
 rw [e,List.map_append,List.map_append]
 refine zjs ?_
 refine congrArg (Option.map Fl.rtO) (zee (zat (zee (zat ?_) (zat (zae rfl rfl)) ?_)) (zat ?_) ?_)
 ·have:=zdi (f:=zaa 0) (l:=fun _=>some none) (h:=mPt (zaa 1)) (ρ:=[.im (.lst (es.map shD)),.im (.int k),.im (.bl b)]) (g:=shD) (xs:=es) (lo:=none) (hi:=some (k:Int)) rfl rfl rfl
  rw [show HT.sIx es.length 0 none=0 from rfl,HT.sIx_nat,List.drop_zero,Nat.sub_zero,Nat.min_eq_left (Nat.le_of_lt hk)] at this
  exact this
 ·rw [List.length_map,List.length_take]
  show _ + 1 <= _
  omega
 ·have:=zdi (f:=zaa 0) (l:=mPt (m2 zcf (zaa 1) (fun _=>some (.int 1)))) (h:=fun _=>some none) (ρ:=[.im (.lst (es.map shD)),.im (.int k),.im (.bl b)]) (g:=shD) (xs:=es) (lo:=some ((k + 1 : Nat) : Int)) (hi:=none) rfl rfl rfl
  rw [show HT.sIx es.length es.length none=es.length from rfl,HT.sIx_nat,Nat.min_eq_left hk,List.take_of_length_le (by rw [List.length_drop]; omega)] at this
  exact this
 ·rw [List.length_append,List.length_map,List.length_map,List.length_take,List.length_drop]
  show (_ + 1) + _ <= _
  omega
theorem z4o {es:List (Option Bool)} {t:Int} (b:Bool) (t0:0 <= t) (t1:t < (es.length : Int)) : zrg [.lst (es.map shD),.int t,.bl b]=some (.lst ((es.set t.toNat (some b)).map shD)):=by
 apply zer
 unfold b_40
 show wp _ [.im (.lst (es.map shD)),.im (.int t),.im (.bl b),.no] _
 apply zao
 refine zfc (d:=es.map shD) rfl ?_
 walk_at "nrm"
 apply zao
 refine zma (k:=t) (xs:=es.map shD) (d:=shD (some b)) rfl rfl rfl t0 (by rw [List.length_map]; omega) ?_
 walk_at "nrm"
 refine zhl (d:=(es.map shD).set t.toNat (shD (some b))) rfl (ziz ?_)
 rw [List.map_set]
noncomputable def opD : Option (Int × Bool) -> D
 | none=>.non
 | some z=>brD z
noncomputable def trl (es:List (Option Bool)) : Option (Int × Bool) -> List (Option Bool)
 | none=>es
 | some z=>es.set z.1.toNat (some (!z.2))
noncomputable def ze6 (es:List (Option Bool)) : Option (Int × Bool) -> Bool
 | none=>true
 | some z=>es.getD z.1.toNat none == none
noncomputable def zs7 (n:Nat) (o:Option (Int × Bool)) : Prop:=∀ z,o=some z -> 0 <= z.1 /\ z.1 < (n:Int)
theorem zk7 (es:List (Option Bool)) (o:Option (Int × Bool)) : (trl es o).length=es.length:=by
 cases o with
 | none=>rfl
 | some z=>exact List.length_set
theorem zy1 (e:Option Bool) : dIs (shD e) .non=some (.bl (e == none)):=by cases e <;> rfl
section
variable {rs:List Rul} {ss:List (List Int)} {bs:List (List (Int × Bool))} {es:List (Option Bool)}
theorem zya (hok:∀ r ∈ rs,r.Ok es.length) (hz:rs.length <= 1000) (hs:∀ s ∈ ss,zd8 es.length s) (hb:∀ b ∈ bs,zfg es.length b) (n60:es.length <= 60) (o:Option (Int × Bool)) (ho:zs7 es.length o) (w:Wy) (hw:w.Ok es.length) :
  zps [plD es.length rs,.lst (ss.map seD),.lst (bs.map baD),.lst (es.map shD),.tup [opD o,w.toD]]=some (.bl (rgt rs ss bs (trl es o) w && ze6 es o)):=by
 have ew:=z81 (rs:=rs) (ss:=ss) (bs:=bs) (es:=trl es o) (by rw [zk7]; exact hok) hz (by rw [zk7]; exact hs) (by rw [zk7]; exact hb) (by rw [zk7]; exact n60) w (by rw [zk7]; exact hw)
 rw [zk7] at ew
 apply zer
 unfold b_43
 show wp _ [.im (plD es.length rs),.im (.lst (ss.map seD)),.im (.lst (bs.map baD)),.im (.lst (es.map shD)),.im (.tup [opD o,w.toD]),.no] _
 apply zao
 refine zbs (d:=opD o) (zal rfl rfl rfl) ?_
 walk_at "nrm"
 apply zao
 cases o with
 | none =>
  refine za3 (b:=true) rfl (fun _=>zb4 (zau (zae rfl (zae rfl (zae rfl (zae rfl (zae (zal rfl rfl rfl) rfl))))) ew) (zbx ?_)) (fun z=>by cases z)
  show _=D.bl (_ && true)
  rw [Bool.and_true]
 | some z =>
  obtain ⟨z0,z1⟩:=ho z rfl
  refine za3 (b:=false) rfl (fun q=>by cases q) (fun _=>zbp ?_)
  walk_at "nrm"
  apply zao
  refine za3 (zb0 (zas (zal rfl (zal rfl rfl rfl) (zc8 z0 z1)) rfl (z5o _))) (fun q=>zb4 rfl (zbx ?_)) (fun q=>zbp ?_)
  ·show _=D.bl (_ && (es.getD z.1.toNat none == none))
   cases hq : es.getD z.1.toNat none with
   | none=>rw [hq] at q; cases q
   | some b=>exact congrArg D.bl (Bool.and_false _).symm
  ·walk_at "nrm"
   refine zb4 (zau (zae rfl (zae rfl (zae rfl (zae (zau (zae rfl (zae (zal rfl rfl rfl) (zae (zgz (zal rfl rfl rfl)) rfl))) (z4o (!z.2) z0 z1)) (zae (zal rfl rfl rfl) rfl))))) ew) (zbx ?_)
   show _=D.bl (_ && (es.getD z.1.toNat none == none))
   cases hq : es.getD z.1.toNat none with
   | none=>exact congrArg D.bl (Bool.and_true _).symm
   | some b=>rw [hq] at q; cases q
end
noncomputable def beg (n:Nat) (zs:List (Int × Bool)) : List (Option Bool):=zs.foldl (fun es z=>es.set z.1.toNat (some z.2)) (List.replicate n none)
theorem z5y (n:Nat) (zs:List (Int × Bool)) (z:Int × Bool) : beg n (zs ++ [z])=(beg n zs).set z.1.toNat (some z.2):=by
 unfold beg
 rw [List.foldl_append]
 rfl
theorem ztz (n:Nat) : ∀ zs : List (Int × Bool),(beg n zs).length=n:=by
 intro zs
 unfold beg
 have : ∀ (zs:List (Int × Bool)) (es:List (Option Bool)),(zs.foldl (fun es z=>es.set z.1.toNat (some z.2)) es).length=es.length:=by
  intro zs
  induction zs with
  | nil=>intro es; rfl
  | cons z zs ih=>intro es; rw [List.foldl_cons,ih,List.length_set]
 rw [this,List.length_replicate]
theorem zsf (n:Nat) : (List.range n).map (fun (_:Nat)=>D.non)=(List.replicate n (none:Option Bool)).map shD:=by
 rw [List.map_const',List.length_range,List.map_replicate]
 rfl
theorem z7c (n:Int) (n0:0 <= n) (n60:n <= 60) (zs:List (Int × Bool)) (hz:∀ z ∈ zs,0 <= z.1 /\ z.1 < (n.toNat : Int)) : zmw [.int n,.lst (zs.map brD)]=some (.lst ((beg n.toNat zs).map shD)):=by
 apply zer
 unfold b_28
 show wp _ [.im (.int n),.im (.lst (zs.map brD)),.no,.no,.no] _
 apply zao
 refine zfc (d:=(List.replicate n.toNat none).map shD) ?_ ?_
 ·rw [<- zsf]
  exact zct (List.range n.toNat) (fun (i:Nat)=>D.int i) (fun _=>D.non) (zfa rfl n0 (by omega)) (by rw [List.length_range]; omega) fun i _=>zcn rfl rfl rfl
 walk_at "nrm"
 apply zao
 refine zes zs brD (fun pre ρ=>∃ v2 v4,ρ=[.im (.int n),.im (.lst (zs.map brD)),v2,.own ((beg n.toNat pre).map shD),v4]) rfl ⟨_,_,rfl⟩ ?_ ?_
 ·rintro pre z post ρ ex ⟨v2,v4,rfl⟩
  obtain ⟨z0,z1⟩:=hz z (by rw [ex]; simp)
  refine ⟨_,rfl,?_⟩
  walk_at "nrm"
  refine zma (k:=z.1) (xs:=(beg n.toNat pre).map shD) (d:=shD (some z.2)) rfl rfl rfl z0 (by rw [List.length_map,ztz]; omega) ?_
  exact ⟨_,_,by rw [z5y,List.map_set]; rfl⟩
 ·rintro ρ ⟨v2,v4,rfl⟩
  exact zhl rfl (ziz rfl)
theorem z3k {i:Nat} {f:List Sl -> Option D} {ρ:List Sl} {xs ds:List D} (h:f ρ=some (.lst ds)) (h':ρ[i]?=some (.own xs)) (hl:xs.length + ds.length <= 16777216) : zir i (zig f) ρ=some (.nx (ρ.set i (.own (xs ++ ds)))):=by
 unfold zir zig
 rw [h]
 show (match ρ[i]? with | some (.own ys)=>_ | _=>_)=_
 rw [h']
 show (if _ then _ else _)=_
 rw [if_pos hl]
theorem zuh {i:Nat} {f:List Sl -> Option D} {ρ:List Sl} {xs ds:List D} {K:Fl -> Prop} (h:f ρ=some (.lst ds)) (h':ρ[i]?=some (.own xs)) (hl:xs.length + ds.length <= 16777216) (k:K (.nx (ρ.set i (.own (xs ++ ds))))) : wp (zir i (zig f)) ρ K:=⟨_,z3k h h' hl,k⟩
noncomputable def Wy.nE : Wy -> Prop
 | .grp xs=>xs ≠ []
 | _=>True
section
variable {rs:List Rul} {ss:List (List Int)} {bs:List (List (Int × Bool))} {es:List (Option Bool)}
theorem z80 (hok:∀ r ∈ rs,r.Ok es.length) (hz:rs.length <= 1000) (hs:∀ s ∈ ss,zd8 es.length s) (hsz:ss.length <= 1000) (hb:∀ b ∈ bs,zfg es.length b) (hbz:bs.length <= 1000) (n60:es.length <= 60) :
  ∃ ws : List Wy,b_21 (zdw 7 [.lst (rs.map Rul.toD),.lst (ss.map seD),.lst (bs.map baD),.lst (es.map shD)])=some (.rtO (ws.map Wy.toD)) /\ (∀ w ∈ ws,w.Ok es.length /\ w.nE) /\ ws.length <= 4000:=by
 have : wp b_21 (zdw 7 [.lst (rs.map Rul.toD),.lst (ss.map seD),.lst (bs.map baD),.lst (es.map shD)]) (fun o=>∃ ws : List Wy,o=.rtO (ws.map Wy.toD) /\ (∀ w ∈ ws,w.Ok es.length /\ w.nE) /\ ws.length <= 4000):=by
  obtain ⟨wo,el,hwo⟩:=z2e rs es n60 hok
  unfold b_21
  show wp _ [.im (.lst (rs.map Rul.toD)),.im (.lst (ss.map seD)),.im (.lst (bs.map baD)),.im (.lst (es.map shD)),.no,.no,.no] _
  apply zao
  refine zfc (d:=(((List.range rs.length).filter fun i=>(rs.getD i zea).surely es).map fun (i:Nat)=>Wy.rul i).map Wy.toD) ?_ ?_
  ·rw [List.map_map]
   refine zd2 (List.range rs.length) (fun i=>D.tup [.int (i:Nat),(rs.getD i zea).toD]) (fun i=>(rs.getD i zea).surely es) (fun (i:Nat)=>(Wy.rul i).toD) (zjb zea (zae rfl rfl)) (by rw [List.length_range]; omega) fun i hi=>zdv rfl (zc9 (zau (zae rfl (zae rfl rfl)) (zqi (rs.getD i zea) ?_)) rfl) fun _=>rfl
   have hi:=List.mem_range.mp hi
   rw [List.getD_eq_getElem?_getD,List.getElem?_eq_getElem hi]
   exact hok _ (List.getElem_mem hi)
  walk_at "nrm"
  apply zao
  refine zuh (xs:=(((List.range rs.length).filter fun i=>(rs.getD i zea).surely es).map fun (i:Nat)=>Wy.rul i).map Wy.toD) (ds:=(((List.range bs.length).filter fun i=>zdg es (bs.getD i [])).map fun (i:Nat)=>Wy.bar i).map Wy.toD) (zat ?_) rfl ?_ ?_
  ·refine Eq.trans ?_ (congrArg some List.map_map.symm)
   refine zd2 (List.range bs.length) (fun i=>D.tup [.int (i:Nat),baD (bs.getD i [])]) (fun i=>zdg es (bs.getD i [])) (fun (i:Nat)=>(Wy.bar i).toD) (zjb [] (zae rfl rfl)) (by rw [List.length_range]; omega) ?_
   intro i hi
   refine zdv rfl (zc9 (zau (zae rfl (zae rfl rfl)) (zwl (zs:=bs.getD i []) ?_)) rfl) fun _=>rfl
   have hi:=List.mem_range.mp hi
   rw [List.getD_eq_getElem?_getD,List.getElem?_eq_getElem hi]
   exact hb _ (List.getElem_mem hi)
  ·have h1:=List.length_filter_le (fun i=>(rs.getD i zea).surely es) (List.range rs.length)
   have h2:=List.length_filter_le (fun i=>zdg es (bs.getD i [])) (List.range bs.length)
   rw [List.length_range] at h1 h2
   rw [List.length_map,List.length_map,List.length_map,List.length_map]
   omega
  have h1:=List.length_filter_le (fun i=>(rs.getD i zea).surely es) (List.range rs.length)
  have h2:=List.length_filter_le (fun i=>zdg es (bs.getD i [])) (List.range bs.length)
  rw [List.length_range] at h1 h2
  rw [<- List.map_append]
  have ho : ∀ w ∈ (((List.range rs.length).filter fun i=>(rs.getD i zea).surely es).map fun (i:Nat)=>Wy.rul i) ++ (((List.range bs.length).filter fun i=>zdg es (bs.getD i [])).map fun (i:Nat)=>Wy.bar i),w.Ok es.length /\ w.nE:=fun w hw=>by
   rcases List.mem_append.mp hw with h | h
   ·obtain ⟨i,_,rfl⟩:=List.mem_map.mp h
    exact ⟨Int.natCast_nonneg i,trivial⟩
   ·obtain ⟨i,_,rfl⟩:=List.mem_map.mp h
    exact ⟨Int.natCast_nonneg i,trivial⟩
  have hl : ((((List.range rs.length).filter fun i=>(rs.getD i zea).surely es).map fun (i:Nat)=>Wy.rul i) ++ (((List.range bs.length).filter fun i=>zdg es (bs.getD i [])).map fun (i:Nat)=>Wy.bar i)).length <= 2000:=by
   rw [List.length_append,List.length_map,List.length_map]
   omega
  generalize (((List.range rs.length).filter fun i=>(rs.getD i zea).surely es).map fun (i:Nat)=>Wy.rul i) ++ (((List.range bs.length).filter fun i=>zdg es (bs.getD i [])).map fun (i:Nat)=>Wy.bar i)=ws at ho hl
  walk_at "nrm"
  apply zao
  have h3:=List.length_filter_le (fun i=>rgt rs ss bs es (.wld (i:Nat))) (List.range ss.length)
  rw [List.length_range] at h3
  refine zuh (xs:=ws.map Wy.toD) (ds:=(((List.range ss.length).filter fun i=>rgt rs ss bs es (.wld (i:Nat))).map fun (i:Nat)=>Wy.wld i).map Wy.toD) (zat ?_) rfl (by rw [List.length_map,List.length_map,List.length_map]; omega) ?_
  ·rw [List.map_map]
   refine zd2 (List.range ss.length) (fun (i:Nat)=>D.int i) (fun i=>rgt rs ss bs es (.wld (i:Nat))) (fun (i:Nat)=>(Wy.wld i).toD) (zfa (n:=(ss.length : Int)) (zae (zau rfl (zcy _ _)) rfl) (by omega) (by omega)) (by rw [List.length_range]; omega) fun i _=>zdv rfl (zc9 (zau (zae rfl (zae rfl (zae rfl (zae rfl (zae (zb8 (zae rfl (zae rfl rfl))) rfl))))) (zyr hok hz hs hb n60 (.wld (i:Nat)) (Int.natCast_nonneg i))) rfl) fun _=>rfl
  rw [<- List.map_append]
  have ho2 : ∀ w ∈ ws ++ (((List.range ss.length).filter fun i=>rgt rs ss bs es (.wld (i:Nat))).map fun (i:Nat)=>Wy.wld i),w.Ok es.length /\ w.nE:=fun w hw=>by
   rcases List.mem_append.mp hw with h | h
   ·exact ho w h
   ·obtain ⟨i,_,rfl⟩:=List.mem_map.mp h
    exact ⟨Int.natCast_nonneg i,trivial⟩
  have hl2 : (ws ++ (((List.range ss.length).filter fun i=>rgt rs ss bs es (.wld (i:Nat))).map fun (i:Nat)=>Wy.wld i)).length <= 3000:=by
   rw [List.length_append,List.length_map]
   omega
  generalize ws ++ (((List.range ss.length).filter fun i=>rgt rs ss bs es (.wld (i:Nat))).map fun (i:Nat)=>Wy.wld i)=us at ho2 hl2
  walk_at "nrm"
  apply zao
  refine zbs (zau (zae rfl (zae rfl rfl)) el) ?_
  walk_at "nrm"
  apply zao
  have hm:=List.length_filter_le (fun i=>wo.getD i false) (List.range wo.length)
  rw [List.length_range] at hm
  refine zbs (zat (zd2 (List.range wo.length) (fun i=>D.tup [.int (i:Nat),D.bl (wo.getD i false)]) (fun i=>wo.getD i false) (fun (i:Nat)=>D.int i) (zjb false (zae rfl rfl)) (by rw [List.length_range]; omega) fun i _=>zdv rfl (zc9 rfl rfl) fun _=>rfl)) ?_
  have hfe : ((List.range wo.length).filter fun i=>wo.getD i false).map (fun (i:Nat)=>D.int i)=(((List.range wo.length).filter fun i=>wo.getD i false).map fun (i:Nat)=>(i:Int)).map D.int:=by rw [List.map_map]; rfl
  rw [hfe]
  have hmi : zd8 es.length (((List.range wo.length).filter fun i=>wo.getD i false).map fun (i:Nat)=>(i:Int)):=by
   refine ⟨fun x hx=>?_,by rw [List.length_map]; omega⟩
   obtain ⟨i,hi,rfl⟩:=List.mem_map.mp hx
   have:=List.mem_range.mp (List.mem_filter.mp hi).1
   exact ⟨by omega,by omega⟩
  generalize (((List.range wo.length).filter fun i=>wo.getD i false).map fun (i:Nat)=>(i:Int))=mi at hmi
  walk_at "nrm"
  refine zij (fun ρ'=>∃ us' : List Wy,ρ'=[.im (.lst (rs.map Rul.toD)),.im (.lst (ss.map seD)),.im (.lst (bs.map baD)),.im (.lst (es.map shD)),.own (us'.map Wy.toD),.im (.lst (wo.map D.bl)),.im (.lst (mi.map D.int))] /\ (∀ w ∈ us',w.Ok es.length /\ w.nE) /\ us'.length <= 4000) ?_ ?_
  ·have hmi2:=hmi.2
   refine za3 (b:=mi.any fun x=>es.getD x.toNat none == some true) (zc9 (zau (zae (zat (zct mi D.int (fun x=>D.bl (es.getD x.toNat none == some true)) (zcp rfl rfl) (by omega) fun x hx=>zcn rfl rfl (zas (zal rfl rfl (zc8 (hmi.1 x hx).1 (hmi.1 x hx).2)) rfl (zem _ _)))) rfl) (zh7 _ _)) rfl) (fun z=>?_) (fun z=>zbp ?_)
   ·refine zgx (d:=(Wy.grp mi).toD) rfl rfl (by rw [List.length_map]; omega) (k_J ⟨us ++ [.grp mi],by rw [List.map_append]; rfl,fun w hw=>?_,by rw [List.length_append]; show _ + 1 <= _; omega⟩)
    rcases List.mem_append.mp hw with h | h
    ·exact ho2 w h
    ·have : w=.grp mi:=by simpa using h
     subst this
     refine ⟨hmi,fun e=>?_⟩
     rw [e] at z
     cases z
   ·exact k_J ⟨us,rfl,ho2,by omega⟩
  ·rintro ρ' ⟨us',rfl,h1,h2⟩
   exact zhl rfl ⟨us',rfl,h1,h2⟩
 obtain ⟨o,e,ws,rfl,h1,h2⟩:=this
 exact ⟨ws,e,h1,h2⟩
end
noncomputable abbrev Stp:=Option (Int × Bool) × Wy
noncomputable def stD (z:Stp) : D:=.tup [opD z.1,z.2.toD]
noncomputable def zaz (n:Nat) (z:Stp) : Prop:=zs7 n z.1 /\ z.2.Ok n
noncomputable def aft (es:List (Option Bool)) : Option (Int × Bool) -> List (Option Bool)
 | none=>es
 | some z=>es.set z.1.toNat (some z.2)
noncomputable def rst (rs:List Rul) (ss:List (List Int)) (bs:List (List (Int × Bool))) : List (Option Bool) -> List Stp -> Bool
 | _,[]=>false
 | es,[z]=>z.1.isNone && (rgt rs ss bs (trl es z.1) z.2 && ze6 es z.1)
 | es,z :: y :: r=>z.1.isSome && ((rgt rs ss bs (trl es z.1) z.2 && ze6 es z.1) && rst rs ss bs (aft es z.1) (y :: r))
theorem zxs (o:Option (Int × Bool)) : dIs (opD o) .non=some (.bl o.isNone):=by cases o <;> rfl
section
variable {rs:List Rul} {ss:List (List Int)} {bs:List (List (Int × Bool))}
theorem zxk (n:Nat) (n60:n <= 60) (hok:∀ r ∈ rs,r.Ok n) (hz:rs.length <= 1000) (hs:∀ s ∈ ss,zd8 n s) (hb:∀ b ∈ bs,zfg n b) (es:List (Option Bool)) (hes:es.length=n) (zs:List Stp) (hzs:∀ z ∈ zs,zaz n z) (hl:zs.length <= 1000) :
  zqy [plD n rs,.lst (ss.map seD),.lst (bs.map baD),.lst (es.map shD),.lst (zs.map stD)]=some (.bl (rst rs ss bs es zs)):=by
 apply zer
 unfold b_29
 show wp _ [.im (plD n rs),.im (.lst (ss.map seD)),.im (.lst (bs.map baD)),.im (.lst (es.map shD)),.im (.lst (zs.map stD)),.no,.no,.no,.no] _
 apply zao
 refine zfc (d:=es.map shD) rfl ?_
 walk_at "nrm"
 apply zao
 refine zes (List.range zs.length) (fun i=>D.tup [.int ((i + 1 : Nat) : Int),stD (zs.getD i (none,.rul 0))]) (fun pre ρ=>∃ (es':List (Option Bool)) (v6 v7 v8:Sl),ρ=[.im (plD n rs),.im (.lst (ss.map seD)),.im (.lst (bs.map baD)),.im (.lst (es.map shD)),.im (.lst (zs.map stD)),.own (es'.map shD),v6,v7,v8] /\ es'.length=n /\ (pre.length < zs.length -> rst rs ss bs es zs=rst rs ss bs es' (zs.drop pre.length)) /\ (pre.length=zs.length -> 0 < zs.length -> rst rs ss bs es zs=true)) (z2b _ rfl) ⟨es,.no,.no,.no,rfl,hes,fun _=>rfl,fun h h'=>by rw [<- h] at h'; cases h'⟩ ?_ ?_
 ·rintro pre i post ρ ex ⟨es',v6,v7,v8,rfl,hes',hgo,_⟩
  have hi : i < zs.length:=List.mem_range.mp (by rw [ex]; simp)
  have hpi : pre.length=i:=by
   have h1 : (List.range zs.length)[pre.length]?=some i:=by rw [ex]; simp
   have hp : pre.length < zs.length:=by
    have : pre.length < (List.range zs.length).length:=by rw [ex]; simp
    simpa using this
   rw [List.getElem?_range hp] at h1
   exact Option.some.inj h1
  have hd : zs.drop i=zs[i] :: zs.drop (i + 1):=List.drop_eq_getElem_cons hi
  have eg : zs.getD i (none,.rul 0)=zs[i]:=by rw [List.getD_eq_getElem?_getD,List.getElem?_eq_getElem hi]; rfl
  have hgo:=hgo (by omega)
  rw [hpi,hd] at hgo
  rw [eg]
  obtain ⟨hpo,hwo⟩:=hzs zs[i] (List.getElem_mem hi)
  generalize zs[i]=z at hgo hpo hwo
  obtain ⟨o,w⟩:=z
  have est:=zya (rs:=rs) (ss:=ss) (bs:=bs) (es:=es') (by rw [hes']; exact hok) hz (by rw [hes']; exact hs) (by rw [hes']; exact hb) (by omega) o (by rw [hes']; exact hpo) w (by rw [hes']; exact hwo)
  rw [hes'] at est
  refine ⟨_,rfl,?_⟩
  walk_at "nrm"
  apply zao
  refine zbs (zas (zal rfl rfl rfl) rfl (zxs o)) ?_
  walk_at "nrm"
  have ee : (((i + 1 : Nat) : Int) == ((zs.length : Nat) : Int))=decide (i + 1=zs.length):=by
   by_cases q : i + 1=zs.length
   ·rw [q,decide_eq_true rfl]; simp
   ·rw [decide_eq_false q]; simp; omega
  apply zao
  refine za3 (zb0 (zas rfl (zas rfl (zau rfl (zcy _ _)) (zd5 _ _)) (z79 _ _))) (fun q=>zb4 rfl (zbx ?_)) (fun q=>zbp ?_)
  ·rw [hgo]
   rw [ee] at q
   by_cases hq : i + 1=zs.length
   ·rw [List.drop_of_length_le (by omega)]
    rw [decide_eq_true hq] at q
    cases o with
    | none=>cases q
    | some z=>rfl
   ·rw [List.drop_eq_getElem_cons (show i + 1 < zs.length by omega)]
    rw [decide_eq_false hq] at q
    cases o with
    | none=>rfl
    | some z=>cases q
  ·rw [ee] at q
   walk_at "nrm"
   apply zao
   refine za3 (zg8 (zc9 (znk (zae rfl (zae rfl (zae rfl (zae rfl (zae rfl rfl))))) est rfl) rfl)) (fun b=>zb4 rfl (zbx ?_)) (fun b=>zbp ?_)
   ·have b : (rgt rs ss bs (trl es' o) w && ze6 es' o)=false:=by
     cases hb' : (rgt rs ss bs (trl es' o) w && ze6 es' o) with
     | false=>rfl
     | true=>rw [hb'] at b; cases b
    rw [hgo]
    by_cases hq : i + 1=zs.length
    ·rw [List.drop_of_length_le (by omega)]
     show _=D.bl (_ && (rgt rs ss bs (trl es' o) w && ze6 es' o))
     rw [b,Bool.and_false]
    ·rw [List.drop_eq_getElem_cons (show i + 1 < zs.length by omega)]
     show _=D.bl (_ && ((rgt rs ss bs (trl es' o) w && ze6 es' o) && _))
     rw [b,Bool.false_and,Bool.and_false]
   ·have b : (rgt rs ss bs (trl es' o) w && ze6 es' o)=true:=by
     cases hb' : (rgt rs ss bs (trl es' o) w && ze6 es' o) with
     | true=>rfl
     | false=>rw [hb'] at b; cases b
    walk_at "nrm"
    cases o with
    | none =>
     have hq : i + 1=zs.length:=by
      by_cases hq : i + 1=zs.length
      ·exact hq
      ·rw [decide_eq_false hq] at q; cases q
     refine za3 (b:=false) rfl (fun c=>by cases c) (fun _=>zbp ?_)
     refine ⟨es',_,_,_,rfl,hes',fun h=>?_,fun _ _=>?_⟩
     ·rw [List.length_append] at h
      exact absurd (show i + 1 < zs.length by rw [<- hpi]; exact h) (by omega)
     ·rw [hgo,List.drop_of_length_le (by omega)]
      show (true && (rgt rs ss bs (trl es' none) w && ze6 es' none))=true
      rw [b]
      rfl
    | some z =>
     have hq : i + 1 ≠ zs.length:=fun hq=>by rw [decide_eq_true hq] at q; cases q
     obtain ⟨z0,z1⟩:=hpo z rfl
     refine za3 (b:=true) rfl (fun _=>?_) (fun c=>by cases c)
     refine zma (k:=z.1) (xs:=es'.map shD) (d:=shD (some z.2)) (zal (zcp (zal rfl rfl rfl) rfl) rfl rfl) (zal (zcp (zal rfl rfl rfl) rfl) rfl rfl) rfl z0 (by rw [List.length_map]; omega) ?_
     refine ⟨es'.set z.1.toNat (some z.2),_,_,_,by rw [List.map_set]; rfl,by rw [List.length_set]; exact hes',fun h=>?_,fun h _=>?_⟩
     ·rw [List.length_append]
      show _=rst rs ss bs _ (zs.drop (pre.length + 1))
      rw [hgo,hpi,List.drop_eq_getElem_cons (show i + 1 < zs.length by omega)]
      show (true && ((rgt rs ss bs (trl es' (some z)) w && ze6 es' (some z)) && _))=_
      rw [b]
      rfl
     ·rw [List.length_append] at h
      exact absurd (show i + 1=zs.length by rw [<- hpi]; exact h) hq
 ·rintro ρ ⟨es',v6,v7,v8,rfl,hes',_,hend⟩
  rw [List.length_range] at hend
  refine zb4 (zas (zau rfl (zcy _ _)) rfl zlb) (zbx ?_)
  cases zs with
  | nil=>rfl
  | cons z zs =>
   rw [hend rfl (by rw [List.length_cons]; omega)]
   show D.bl (decide _)=_
   rw [decide_eq_true (by rw [List.length_cons]; omega)]
end
theorem zty (ns:List Int) : (zcr ns).length <= ns.length:=by
 rw [zr8]
 exact firstMet_length_le _ _
noncomputable def zt1 (n:Nat) (zs:List (Int × Bool)) (sts:List Stp) : Prop:=zfg n zs /\ (∀ z ∈ sts,zaz n z) /\ sts.length <= 1000
noncomputable def lnD (zs:List (Int × Bool)) (sts:List Stp) : D:=.tup [baD zs,.lst (sts.map stD)]
noncomputable def rln (rs:List Rul) (ss:List (List Int)) (bs:List (List (Int × Bool))) (n:Nat) (zs:List (Int × Bool)) (sts:List Stp) : Bool :=
 !(decide ((zcr (zs.map (·.1))).length < zs.length)) && rst rs ss bs (beg n zs) sts
section
variable {rs:List Rul} {ss:List (List Int)} {bs:List (List (Int × Bool))}
theorem z3g (n:Nat) (n60:n <= 60) (hok:∀ r ∈ rs,r.Ok n) (hz:rs.length <= 1000) (hs:∀ s ∈ ss,zd8 n s) (hb:∀ b ∈ bs,zfg n b) (zs:List (Int × Bool)) (sts:List Stp) (hl:zt1 n zs sts) :
  zoy [plD n rs,.lst (ss.map seD),.lst (bs.map baD),lnD zs sts]=some (.bl (rln rs ss bs n zs sts)):=by
 obtain ⟨⟨hz1,hz2⟩,hst,hsl⟩:=hl
 have eb : zmw [.int (n:Int),.lst (zs.map brD)]=some (.lst ((beg n zs).map shD)):=z7c (n:Int) (by omega) (by omega) zs hz1
 have est:=zxk (rs:=rs) (ss:=ss) (bs:=bs) n n60 hok hz hs hb (beg n zs) (ztz n zs) sts hst hsl
 apply zer
 unfold b_36
 show wp _ [.im (plD n rs),.im (.lst (ss.map seD)),.im (.lst (bs.map baD)),.im (lnD zs sts),.no,.no] _
 apply zao
 refine zbs (d:=baD zs) (zal rfl rfl rfl) ?_
 walk_at "nrm"
 apply zao
 refine zbs (d:=.lst ((zs.map (·.1)).map D.int)) (zat ?_) ?_
 ·rw [List.map_map]
  exact zct zs brD (fun z=>D.int z.1) rfl (by omega) fun z _=>zcn rfl rfl rfl
 walk_at "nrm"
 apply zao
 refine za3 (zb0 (zas (zxt rfl (by rw [List.length_map]; omega)) (zau rfl (zcy _ _)) zjm)) (fun q=>zb4 rfl (zbx ?_)) (fun q=>zbp ?_)
 ·rw [List.length_map] at q
  have q : (zcr (zs.map (·.1))).length < zs.length:=by have:=of_decide_eq_true q; omega
  unfold rln
  rw [decide_eq_true q]
  rfl
 ·rw [List.length_map] at q
  have q : ¬ (zcr (zs.map (·.1))).length < zs.length:=by have:=of_decide_eq_false q; omega
  walk_at "nrm"
  refine zb4 (zau (zae rfl (zae rfl (zae rfl (zae (zau (zae (zal rfl rfl rfl) (zae rfl rfl)) eb) (zae (zal rfl rfl rfl) rfl))))) est) (zbx ?_)
  unfold rln
  rw [decide_eq_false q]
  rfl
end
theorem zzd (sts:List Stp) (hl:sts.length <= 1000) : zrb [.lst (sts.map stD)]=some (.lst (sts.map stD)):=by
 apply zer
 unfold b_34
 show wp _ [.im (.lst (sts.map stD)),.no,.no,.no] _
 apply zao
 refine zfc (d:=[]) rfl ?_
 walk_at "nrm"
 apply zao
 refine zes sts stD (fun pre ρ=>∃ v2 v3,ρ=[.im (.lst (sts.map stD)),.own (pre.map stD),v2,v3]) rfl ⟨_,_,rfl⟩ ?_ ?_
 ·rintro pre ⟨o,w⟩ post ρ ex ⟨v2,v3,rfl⟩
  have hpl : pre.length < sts.length:=by rw [ex]; simp
  refine ⟨_,rfl,?_⟩
  walk_at "nrm"
  refine zij (fun ρ'=>ρ'=[.im (.lst (sts.map stD)),.own (pre.map stD),.im (opD o),.im w.toD]) ?_ ?_
  ·cases w with
   | grp xs=>exact za3 (b:=true) rfl (fun _=>zbs (zb8 (zae (zal rfl rfl rfl) (zae (zat (zcp (zal rfl rfl rfl) rfl)) rfl))) (k_J rfl)) (fun z=>by cases z)
   | rul k=>exact za3 (b:=false) rfl (fun z=>by cases z) (fun _=>zbp (k_J rfl))
   | bar k=>exact za3 (b:=false) rfl (fun z=>by cases z) (fun _=>zbp (k_J rfl))
   | wld k=>exact za3 (b:=false) rfl (fun z=>by cases z) (fun _=>zbp (k_J rfl))
  ·rintro ρ' rfl
   refine zgx (d:=stD (o,w)) (zb8 (zae rfl (zae rfl rfl))) rfl (by rw [List.length_map]; omega) ?_
   exact ⟨_,_,by rw [List.map_append]; rfl⟩
 ·rintro ρ ⟨v2,v3,rfl⟩
  exact zhl rfl (ziz rfl)
theorem zph (xs:List D) (d:D) : atI (xs ++ [d]) (-1)=some d:=by
 unfold atI
 have hl : (xs ++ [d]).length=xs.length + 1:=by simp
 have e : ixN (xs ++ [d]).length (-1)=some xs.length:=by
  rw [hl]
  unfold ixN
  rw [if_neg (by decide),if_pos (by omega)]
  congr 1
  omega
 rw [e]
 show (xs ++ [d])[xs.length]?=some d
 simp
theorem z3p {ns:List Int} (nd:ns.Nodup) : (zcr ns).length=ns.length :=
 (zmu ns (zcr ns) nd (fun x hx=>(zmi x ns).mpr hx) (zty ns)).length_eq
noncomputable abbrev Ln:=List (Int × Bool) × List Stp
noncomputable def lD (l:Ln) : D:=lnD l.1 l.2
noncomputable def LnM (n:Nat) (l:Ln) : Prop:=zt1 n l.1 l.2 /\ (l.1.map (·.1)).Nodup
noncomputable def LnN (n:Nat) (l:Ln) : Prop:=LnM n l /\ 0 < l.2.length /\ l.2.length <= 40
theorem z1h {rs:List Rul} {ss:List (List Int)} {bs:List (List (Int × Bool))} {n:Nat} {zs:List (Int × Bool)} {sts:List Stp} (nd:(zs.map (·.1)).Nodup) : rln rs ss bs n zs sts=rst rs ss bs (beg n zs) sts:=by
 unfold rln
 rw [z3p nd,List.length_map,decide_eq_false (Nat.lt_irrefl _)]
 rfl
noncomputable def pgo (rs:List Rul) (ss:List (List Int)) (n:Nat) : List (List (Int × Bool)) -> List Ln -> Bool
 | _,[]=>true
 | bs,l :: r=>rst rs ss bs (beg n l.1) l.2 && pgo rs ss n (bs ++ [l.1]) r
noncomputable def zg2 (rs:List Rul) (ss:List (List Int)) (n:Nat) (ls:List Ln) : Bool:=pgo rs ss n [] ls && (match ls.getLast? with
 | none=>false
 | some l=>l.1.isEmpty)
section
variable {rs:List Rul} {ss:List (List Int)}
theorem z72 (n:Nat) (n60:n <= 60) (hok:∀ r ∈ rs,r.Ok n) (hz:rs.length <= 1000) (hs:∀ s ∈ ss,zd8 n s) (ls:List Ln) (hl:∀ l ∈ ls,LnM n l) (hll:ls.length <= 3000) :
  zpo [plD n rs,.lst (ss.map seD),.lst (ls.map lD)]=some (.bl (zg2 rs ss n ls)):=by
 apply zer
 unfold b_37
 show wp _ [.im (plD n rs),.im (.lst (ss.map seD)),.im (.lst (ls.map lD)),.no,.no] _
 apply zao
 refine zfc rfl ?_
 walk_at "nrm"
 apply zao
 refine zes ls lD (fun pre ρ=>∃ v4 : Sl,ρ=[.im (plD n rs),.im (.lst (ss.map seD)),.im (.lst (ls.map lD)),.own ((pre.map (·.1)).map baD),v4] /\ ∀ post,ls=pre ++ post -> pgo rs ss n [] ls=pgo rs ss n (pre.map (·.1)) post) rfl ⟨_,rfl,fun post e=>by rw [e]; rfl⟩ ?_ ?_
 ·rintro pre l post ρ ex ⟨v4,rfl,hgo⟩
  have hgo:=hgo (l :: post) ex
  have hln:=hl l (by rw [ex]; simp)
  have hpl : pre.length < ls.length:=by rw [ex]; simp
  have er:=z3g (rs:=rs) (ss:=ss) (bs:=pre.map (·.1)) n n60 hok hz hs (fun b hb=>by
   obtain ⟨q,hq,rfl⟩:=List.mem_map.mp hb
   exact (hl q (by rw [ex]; exact List.mem_append_left _ hq)).1.1) l.1 l.2 hln.1
  rw [z1h hln.2] at er
  refine ⟨_,rfl,?_⟩
  walk_at "nrm"
  apply zao
  refine za3 (zg8 (zc9 (znk (zae rfl (zae rfl (zae rfl (zae rfl rfl)))) er rfl) rfl)) (fun q=>zb4 rfl (zbx ?_)) (fun q=>zbp ?_)
  ·unfold zg2
   rw [hgo]
   show _=D.bl ((rst rs ss (pre.map (·.1)) (beg n l.1) l.2 && _) && _)
   cases h : rst rs ss (pre.map (·.1)) (beg n l.1) l.2 with
   | true=>rw [h] at q; cases q
   | false=>rfl
  ·walk_at "nrm"
   refine zgx (d:=baD l.1) (zal rfl rfl rfl) rfl (by rw [List.length_map,List.length_map]; omega) ?_
   refine ⟨_,by rw [List.map_append,List.map_append]; rfl,fun post' e=>?_⟩
   rw [List.append_assoc] at e
   have : post'=post:=by
    have:=ex.symm.trans e
    exact (List.cons.inj (List.append_cancel_left this)).2.symm
   subst this
   rw [hgo,List.map_append]
   show (rst rs ss (pre.map (·.1)) (beg n l.1) l.2 && pgo rs ss n (pre.map (·.1) ++ [l.1]) post')=_
   cases h : rst rs ss (pre.map (·.1)) (beg n l.1) l.2 with
   | true=>rfl
   | false=>rw [h] at q; cases q
 ·rintro ρ ⟨v4,rfl,hgo⟩
  walk_at "nrm"
  have hgo:=hgo [] (List.append_nil _).symm
  refine zg6 rfl ?_
  refine zb4 (d:=.bl (zg2 rs ss n ls)) ?_ (zbx rfl)
  unfold zg2
  rw [hgo]
  rcases List.eq_nil_or_concat ls with rfl | ⟨ini,l,rfl⟩
  ·rfl
  ·rw [List.concat_eq_append] at *
   have eL : atI (((ini ++ [l]).map (·.1)).map baD) (-1)=some (baD l.1):=by rw [List.map_append,List.map_append]; exact zph _ _
   have e1 : decide ((((((ini ++ [l]).map (·.1)).length : Nat) : Int)) > 0)=true:=decide_eq_true (by rw [List.length_map,List.length_append]; show ((_ + 1 : Nat) : Int) > 0; omega)
   have e2 : (match (ini ++ [l]).getLast? with | none=>false | some l=>l.1.isEmpty)=l.1.isEmpty:=by rw [List.getLast?_concat]
   show _=some (D.bl (true && (match (ini ++ [l]).getLast? with | none=>false | some l=>l.1.isEmpty)))
   rw [e2]
   refine zkp (a:=true) (zas (zau rfl (zcy _ _)) rfl (by rw [<- e1]; exact zlb)) (zas (zau (zae (zal rfl rfl eL) rfl) (zcy _ _)) rfl ?_)
   rw [zd5]
   cases l.1 <;> rfl
end
structure zkv (rs:List Rul) (ws:List Bool) : Prop where
 nb : ∀ r ∈ rs,r.surely (L2.bs ws)=false
 ng : ∀ g : List Bool,g.length=ws.length -> (∀ r ∈ rs,hup (L2.bs ws) g r=false) -> ∀ i,g.getD i false=true -> ws.getD i false=false
theorem zmr (ws:List Bool) : (L2.bs ws).length=ws.length:=by unfold L2.bs; rw [List.length_map]
theorem zp7 {es:List (Option Bool)} {ws:List Bool} (f:zfd es (L2.bs ws)) {i:Nat} {b:Bool} (hi:i < ws.length) (h:es.getD i none=some b) : ws.getD i false=b:=by
 rcases f.at' i with q | q
 ·rw [h] at q; cases q
 ·rw [h,zjd hi] at q
  exact Option.some.inj q
theorem z7q {ws g ri:List Bool} {p:Prt} (h:p.Ok ws.length) (hl:p.lost (L2.bs ws) g=true) (hr:∀ i,ri.getD i false=true -> ws.getD i false=true) (hg:∀ i,g.getD i false=true -> ri.getD i false=false) (hn:ri.length=ws.length) : p.holds ri ws=false:=by
 cases p with
 | inn t =>
  show ri.getD t.toNat false=false
  have hl : (((L2.bs ws).getD t.toNat none == some false) || g.getD t.toNat false)=true:=hl
  rw [Bool.or_eq_true] at hl
  rcases hl with q | q
  ·rw [zns h.1 h.2] at q
   cases e : ri.getD t.toNat false with
   | false=>rfl
   | true=>rw [hr _ e] at q; cases q
  ·exact hg _ q
 | out t =>
  have hl : ((L2.bs ws).getD t.toNat none == some true)=true:=hl
  rw [zns h.1 h.2] at hl
  show (!(ws.getD t.toNat false))=false
  rw [beq_iff_eq.mp hl]
  rfl
 | least k its =>
  have hl:=of_decide_eq_true (show decide (_ < k)=true from hl)
  refine decide_eq_false fun q=>?_
  rw [zgw] at q
  have:=zi5 (p:=fun t=>(L2.bs ri).getD t.toNat none == some true) (q:=fun t=>!((L2.bs ws).getD t.toNat none == some false) && !(g.getD t.toNat false)) (its:=its) fun z hz=>by
   have hz:=h.1 z hz
   refine ⟨hz.2.2,fun e=>?_⟩
   rw [zns hz.1 (by rw [hn]; exact hz.2.1)] at e
   have e:=beq_iff_eq.mp e
   show (!((L2.bs ws).getD z.1.toNat none == some false) && !(g.getD z.1.toNat false))=true
   rw [zns hz.1 hz.2.1,hr _ e]
   cases eg : g.getD z.1.toNat false with
   | false=>rfl
   | true=>rw [hg _ eg] at e; cases e
  omega
 | most k its =>
  have hl:=of_decide_eq_true (show decide (k < _)=true from hl)
  refine decide_eq_false fun q=>?_
  omega
section
variable {rs:List Rul} {ss:List (List Int)} {ws:List Bool}
theorem zso {bs:List (List (Int × Bool))} {es:List (Option Bool)} (hok:∀ r ∈ rs,r.Ok ws.length) (st:zkv rs ws) (hb:∀ b ∈ bs,zdg (L2.bs ws) b=false) (f:zfd es (L2.bs ws)) (w:Wy) (hw:w.Ok ws.length) (hbk:∀ b ∈ bs,zfg ws.length b) (h:rgt rs ss bs es w=true) : ∃ s ∈ ss,wiS ws.length s=ws:=by
 have hen : es.length=ws.length:=by rw [<- zmr ws,f.len]
 cases w with
 | rul k =>
  have h : (decide (k < (rs.length : Int)) && (rs.getD k.toNat zea).surely es)=true:=h
  rw [Bool.and_eq_true] at h
  have hk : k.toNat < rs.length:=by have:=of_decide_eq_true h.1; have : 0 <= k:=hw; omega
  have er : rs.getD k.toNat zea=rs[k.toNat]:=by rw [List.getD_eq_getElem?_getD,List.getElem?_eq_getElem hk]; rfl
  rw [er] at h
  have hm:=List.getElem_mem hk
  have:=z2h f (by rw [hen]; exact hok _ hm) h.2
  rw [st.nb _ hm] at this
  cases this
 | bar k =>
  have h : (decide (k < (bs.length : Int)) && zdg es (bs.getD k.toNat []))=true:=h
  rw [Bool.and_eq_true] at h
  have hk : k.toNat < bs.length:=by have:=of_decide_eq_true h.1; have : 0 <= k:=hw; omega
  have er : bs.getD k.toNat []=bs[k.toNat]:=by rw [List.getD_eq_getElem?_getD,List.getElem?_eq_getElem hk]; rfl
  rw [er] at h
  have hm:=List.getElem_mem hk
  have : zdg (L2.bs ws) bs[k.toNat]=true:=by
   unfold zdg at h ⊢
   refine zsw (fun z hz e=>?_) h.2
   have hzk:=(hbk _ hm).1 z hz
   have e:=beq_iff_eq.mp e
   rw [zjd (by omega),zp7 f (by omega) e]
   exact beq_iff_eq.mpr rfl
  rw [hb _ hm] at this
  cases this
 | wld k =>
  have h : (decide (k < (ss.length : Int)) && (es == (wiS es.length (ss.getD k.toNat [])).map some))=true:=h
  rw [Bool.and_eq_true] at h
  have hk : k.toNat < ss.length:=by have:=of_decide_eq_true h.1; have : 0 <= k:=hw; omega
  have er : ss.getD k.toNat []=ss[k.toNat]:=by rw [List.getD_eq_getElem?_getD,List.getElem?_eq_getElem hk]; rfl
  rw [er] at h
  refine ⟨_,List.getElem_mem hk,?_⟩
  have e:=beq_iff_eq.mp h.2
  rw [hen] at e
  have hl:=zkj ws.length ss[k.toNat]
  generalize wiS ws.length ss[k.toNat]=xs at e hl
  refine List.ext_getElem hl fun i h1 h2=>?_
  have q : es.getD i none=some xs[i]:=by
   rw [e,List.getD_eq_getElem?_getD,List.getElem?_map,List.getElem?_eq_getElem h1]
   rfl
  have:=zp7 f h2 q
  rw [List.getD_eq_getElem?_getD,List.getElem?_eq_getElem h2] at this
  exact this.symm
 | grp xs =>
  have h : ((xs.any fun x=>es.getD x.toNat none == some true) && !(rs.any fun r=>hup es (wiS es.length xs) r))=true:=h
  rw [Bool.and_eq_true] at h
  obtain ⟨h1,h2⟩:=h
  obtain ⟨x,hx,ex⟩:=List.any_eq_true.mp h1
  have hxk:=hw.1 x hx
  have hxn : x.toNat < ws.length:=by omega
  rw [hen] at h2
  have h2 : (rs.any fun r=>hup es (wiS ws.length xs) r)=false:=by
   cases q : (rs.any fun r=>hup es (wiS ws.length xs) r) with
   | false=>rfl
   | true=>rw [q] at h2; cases h2
  have hng:=st.ng (wiS ws.length xs) (zkj _ _) (fun r hr=>by
   have q : hup es (wiS ws.length xs) r=false:=by
    cases q : hup es (wiS ws.length xs) r with
    | false=>rfl
    | true=>exact absurd (List.any_eq_true.mpr ⟨r,hr,q⟩) (by rw [h2]; exact Bool.false_ne_true)
   unfold hup at q ⊢
   cases hb1 : r.bodyLost es (wiS ws.length xs) with
   | false =>
    rw [hb1] at q
    cases q1 : (r.w != .never) with
    | false=>rfl
    | true =>
     rw [q1] at q
     cases q2 : (wiS ws.length xs).getD r.hd.toNat false with
     | false=>rfl
     | true=>rw [q2] at q; cases q
   | true =>
    have : r.bodyLost (L2.bs ws) (wiS ws.length xs)=true:=zz0 (fun p hp e=>zzn f (znf.refl _) (by rw [hen]; exact (hok r hr).ps p hp) e) hb1
    rw [this]
    cases (r.w != .never) <;> cases (wiS ws.length xs).getD r.hd.toNat false <;> rfl) x.toNat (by
   unfold wiS
   rw [List.getD_eq_getElem?_getD,List.getElem?_map,List.getElem?_range hxn]
   show inS xs x.toNat=true
   exact List.any_eq_true.mpr ⟨x,hx,beq_iff_eq.mpr (by omega)⟩)
  rw [zp7 f hxn (beq_iff_eq.mp ex)] at hng
  cases hng
theorem zpi {es:List (Option Bool)} {t:Nat} {b:Bool} (f:zfd es (L2.bs ws)) (ht:t < ws.length) (h:ws.getD t false=b) : zfd (es.set t (some b)) (L2.bs ws):=by
 have hen : es.length=ws.length:=by rw [<- zmr ws,f.len]
 refine ⟨by rw [zmr,List.length_set,hen],fun i=>?_⟩
 by_cases q : i=t
 ·subst q
  right
  rw [zjd ht,h,List.getD_eq_getElem?_getD,List.getElem?_set_self (by omega)]
  rfl
 ·rw [List.getD_eq_getElem?_getD,List.getElem?_set_ne (fun e=>q e.symm),<- List.getD_eq_getElem?_getD]
  exact f.at' i
theorem zun {bs:List (List (Int × Bool))} (hok:∀ r ∈ rs,r.Ok ws.length) (st:zkv rs ws) (hb:∀ b ∈ bs,zdg (L2.bs ws) b=false) (hbk:∀ b ∈ bs,zfg ws.length b) : ∀ (sts:List Stp) (es:List (Option Bool)),(∀ z ∈ sts,zaz ws.length z) -> zfd es (L2.bs ws) -> rst rs ss bs es sts=true -> ∃ s ∈ ss,wiS ws.length s=ws
 | [],es,_,_,h=>by cases h
 | [z],es,hz,f,h=>by
  obtain ⟨o,w⟩:=z
  have h : (o.isNone && (rgt rs ss bs (trl es o) w && ze6 es o))=true:=h
  rw [Bool.and_eq_true,Bool.and_eq_true] at h
  cases o with
  | some y=>cases h.1
  | none=>exact zso hok st hb f w (hz (none,w) (by simp)).2 hbk h.2.1
 | z :: y :: r,es,hz,f,h=>by
  obtain ⟨o,w⟩:=z
  have h : (o.isSome && ((rgt rs ss bs (trl es o) w && ze6 es o) && rst rs ss bs (aft es o) (y :: r)))=true:=h
  rw [Bool.and_eq_true,Bool.and_eq_true,Bool.and_eq_true] at h
  cases o with
  | none=>cases h.1
  | some q =>
   obtain ⟨hp,hw⟩:=hz (some q,w) (by simp)
   obtain ⟨q0,q1⟩:=hp q rfl
   have hq : q.1.toNat < ws.length:=by omega
   by_cases e : ws.getD q.1.toNat false=q.2
   ·exact zun hok st hb hbk (y :: r) _ (fun x hx=>hz x (List.mem_cons_of_mem _ hx)) (zpi f hq e) h.2.2
   ·refine zso hok st hb (zpi f hq (b:=!q.2) ?_) w hw hbk h.2.1.1
    cases e1 : ws.getD q.1.toNat false <;> cases e2 : q.2 <;> first | rfl | (rw [e1,e2] at e; exact absurd rfl e)
theorem z3n {n:Nat} (hn:ws.length=n) (zs:List (Int × Bool)) (hz:∀ z ∈ zs,0 <= z.1 /\ z.1 < (n:Int)) (h:zdg (L2.bs ws) zs=true) : zfd (beg n zs) (L2.bs ws):=by
 subst hn
 have key : ∀ (zs:List (Int × Bool)) (es:List (Option Bool)),(∀ z ∈ zs,0 <= z.1 /\ z.1 < (ws.length : Int)) -> zdg (L2.bs ws) zs=true -> zfd es (L2.bs ws) -> zfd (zs.foldl (fun es z=>es.set z.1.toNat (some z.2)) es) (L2.bs ws):=by
  intro zs
  induction zs with
  | nil=>intro es _ _ f; exact f
  | cons z zs ih =>
   intro es hz h f
   obtain ⟨z0,z1⟩:=hz z (by simp)
   have h : (((L2.bs ws).getD z.1.toNat none == some z.2) && zdg (L2.bs ws) zs)=true:=h
   rw [Bool.and_eq_true] at h
   refine ih _ (fun x hx=>hz x (List.mem_cons_of_mem _ hx)) h.2 (zpi f (by omega) ?_)
   have e:=beq_iff_eq.mp h.1
   rw [zjd (by omega)] at e
   exact Option.some.inj e
 refine key zs _ hz h ⟨by rw [zmr,List.length_replicate],fun i=>.inl ?_⟩
 rw [List.getD_eq_getElem?_getD]
 by_cases q : i < ws.length
 ·rw [List.getElem?_replicate,if_pos q]; rfl
 ·rw [List.getElem?_replicate,if_neg q]; rfl
theorem zsd (hok:∀ r ∈ rs,r.Ok ws.length) (st:zkv rs ws) : ∀ (ls:List Ln) (bs:List (List (Int × Bool))),(∀ l ∈ ls,LnM ws.length l) -> (∀ b ∈ bs,zfg ws.length b) -> (∀ b ∈ bs,zdg (L2.bs ws) b=false) -> pgo rs ss ws.length bs ls=true -> (∃ s ∈ ss,wiS ws.length s=ws) \/ ∀ l ∈ ls,zdg (L2.bs ws) l.1=false
 | [],_,_,_,_,_=>.inr fun l hl=>(by cases hl)
 | l :: r,bs,hl,hbk,hb,h=>by
  have h : (rst rs ss bs (beg ws.length l.1) l.2 && pgo rs ss ws.length (bs ++ [l.1]) r)=true:=h
  rw [Bool.and_eq_true] at h
  obtain ⟨⟨hbr,hst,_⟩,_⟩:=hl l (by simp)
  cases hf : zdg (L2.bs ws) l.1 with
  | true=>exact .inl (zun hok st hb hbk l.2 _ hst (z3n rfl l.1 hbr.1 hf) h.1)
  | false =>
   rcases zsd hok st r (bs ++ [l.1]) (fun x hx=>hl x (List.mem_cons_of_mem _ hx)) (fun b hb'=>by
    rcases List.mem_append.mp hb' with q | q
    ·exact hbk b q
    ·rw [List.mem_singleton.mp q]; exact hbr) (fun b hb'=>by
    rcases List.mem_append.mp hb' with q | q
    ·exact hb b q
    ·rw [List.mem_singleton.mp q]; exact hf) h.2 with q | q
   ·exact .inl q
   ·refine .inr fun x hx=>?_
    rcases List.mem_cons.mp hx with e | e
    ·rw [e]; exact hf
    ·exact q x e
theorem z8q (hok:∀ r ∈ rs,r.Ok ws.length) (st:zkv rs ws) (ls:List Ln) (hl:∀ l ∈ ls,LnM ws.length l) (h:zg2 rs ss ws.length ls=true) : ∃ s ∈ ss,wiS ws.length s=ws:=by
 unfold zg2 at h
 rw [Bool.and_eq_true] at h
 rcases zsd hok st ls [] hl (fun b hb=>(by cases hb)) (fun b hb=>(by cases hb)) h.1 with q | q
 ·exact q
 ·rcases List.eq_nil_or_concat ls with rfl | ⟨ini,l,rfl⟩
  ·cases h.2
  ·rw [List.concat_eq_append] at *
   have e : l.1.isEmpty=true:=by
    have e:=h.2
    rw [List.getLast?_concat] at e
    exact e
   have:=q l (by simp)
   have e0 : l.1=[]:=by
    cases hq : l.1 with
    | nil=>rfl
    | cons a b=>rw [hq] at e; cases e
   rw [e0] at this
   cases this
end
theorem z3o {p q:Int -> Bool} {its:List (Int × Int)} (h:∀ z ∈ its,p z.1=q z.1) : zen p its=zen q its:=by
 unfold zen
 rw [List.filter_congr h]
theorem z14 {l:List Bool} {its:List (Int × Int)} (h:InN l.length its) : zff (· == some true) (bs l) its=zen (fun t=>l.getD t.toNat false) its:=by
 rw [zgw]
 refine z3o fun z hz=>?_
 have:=h z hz
 rw [zjd (by omega)]
 cases l.getD z.1.toNat false <;> rfl
theorem zsl {l:List Bool} {its:List (Int × Int)} {js:List Nat} {fi:List Sl -> Option (List D)} {ρ:List Sl} (h:InN l.length its) (hz:its.length <= 100000) (hi:fi ρ=some (its.map itD)) (hj:zdk 2 js ρ=[.no,.no,.im (.lst (l.map D.bl))]) :
  zap zd4 (zab (zak (za6 2 js fi (zch (zba (zar 0) (zba (zar 1) zcj))) (zci (mIx (zaf 2) (zaa 0))) (zaa 1))) (fun _=>some [])) ρ=some (.int (zff (· == some true) (bs l) its)):=by
 rw [z14 h]
 refine zau (zae (zat (zd2 its itD (fun z=>l.getD z.1.toNat false) (fun z=>D.int z.2) hi (by omega) fun z hz'=>?_)) rfl) (zii (fun t=>l.getD t.toNat false) its)
 rw [hj]
 exact zdv rfl (zc9 (zal rfl rfl (zfy (h z hz').1 (h z hz').2.1)) rfl) fun _=>rfl
theorem z9c {rs ws:List Bool} (p:Prt) (h:p.Ok rs.length) (hw:ws.length=rs.length) : zry [p.toD,.lst (rs.map D.bl),.lst (ws.map D.bl)]=some (.bl (p.holds rs ws)):=by
 cases p with
 | inn t=>exact zcc (zez (ze3 rfl (zcg (zal rfl rfl (zfy h.1 h.2)))))
 | out t=>exact zcc (zcq (zc0 rfl rfl) (zez (ze3 rfl (zcg (zgz (zal rfl rfl (zfy h.1 (by rw [hw]; exact h.2))))))))
 | least k its=>exact zcc (zcq (zc0 rfl rfl) (zcq (zc0 rfl rfl) (zez (ze3 rfl (zcg (zas (zsl h.1 h.2 rfl rfl) rfl rfl))))))
 | most k its=>exact zcc (zcq (zc0 rfl rfl) (zcq (zc0 rfl rfl) (zcq (zc0 rfl rfl) (zcg (zas (zsl (by rw [hw]; exact h.1) h.2 rfl rfl) rfl rfl)))))
theorem zui (ws:List Bool) : ws.map D.bl=(ws.map some).map shD:=by rw [List.map_map]; rfl
theorem zsb (n i:Nat) : (List.replicate n false).getD i false=false:=by
 rw [List.getD_eq_getElem?_getD,List.getElem?_replicate]
 split <;> rfl
theorem zsk : ∀ ws : List Bool,List.replicate ws.length (D.bl false)=ws.map fun _=>D.bl false
 | []=>rfl
 | _ :: ws=>by rw [List.length_cons,List.replicate_succ,zsk ws]; rfl
theorem zto (xs:List Bool) (k i:Nat) (v:Bool) : (xs.set k v).getD i false=true -> (i=k /\ v=true) \/ xs.getD i false=true:=by
 intro h
 by_cases q : i=k
 ·subst q
  by_cases hl : i < xs.length
  ·rw [List.getD_eq_getElem?_getD,List.getElem?_set_self hl] at h
   exact .inl ⟨rfl,h⟩
  ·rw [List.getD_eq_getElem?_getD,List.getElem?_eq_none (by rw [List.length_set]; omega)] at h
   cases h
 ·rw [List.getD_eq_getElem?_getD,List.getElem?_set_ne (fun e=>q e.symm),<- List.getD_eq_getElem?_getD] at h
  exact .inr h
structure Ris (rs:List Rul) (ws ri:List Bool) : Prop where
 len : ri.length=ws.length
 sub : ∀ i,ri.getD i false=true -> ws.getD i false=true
 ng : ∀ g : List Bool,g.length=ws.length -> (∀ r ∈ rs,hup (L2.bs ws) g r=false) -> ∀ i,g.getD i false=true -> ri.getD i false=false
theorem Ris.put {rs:List Rul} {ws ri:List Bool} (h:Ris rs ws ri) {r:Rul} (hr:r ∈ rs) (hk:r.Ok ws.length) (hn:r.w ≠ .never) (hw:ws.getD r.hd.toNat false=true) : Ris rs ws (ri.set r.hd.toNat (r.ps.all fun p=>p.holds ri ws)):=by
 refine ⟨by rw [List.length_set]; exact h.len,fun i q=>?_,fun g hg hgr i gi=>?_⟩
 ·rcases zto _ _ _ _ q with ⟨rfl,_⟩ | q
  ·exact hw
  ·exact h.sub i q
 ·cases q : (ri.set r.hd.toNat (r.ps.all fun p=>p.holds ri ws)).getD i false with
  | false=>rfl
  | true =>
   rcases zto _ _ _ _ q with ⟨rfl,ha⟩ | q
   ·have hu:=hgr r hr
    unfold hup at hu
    have hn' : (r.w != .never)=true:=by cases hw2 : r.w <;> first | rfl | exact absurd hw2 hn
    rw [hn',gi] at hu
    have hl : r.bodyLost (L2.bs ws) g=true:=by
     cases hb : r.bodyLost (L2.bs ws) g with
     | true=>rfl
     | false=>rw [hb] at hu; cases hu
    obtain ⟨p,hp,pl⟩:=List.any_eq_true.mp hl
    have:=z7q (hk.ps p hp) pl h.sub (h.ng g hg hgr) h.len
    rw [List.all_eq_true.mp ha p hp] at this
    cases this
   ·rw [h.ng g hg hgr i gi] at q
    cases q
theorem zt6 (rs:List Rul) (n:Nat) (n60:n <= 60) (hok:∀ r ∈ rs,r.Ok n) (hz:rs.length <= 1000) (ws:List Bool) (hw:ws.length=n) : ∃ d,m_9 [.lst (rs.map Rul.toD),.lst (ws.map D.bl)]=some d /\ ∃ b,d=.bl b /\ (b=true -> zkv rs ws):=by
 apply zg3
 unfold b_9
 show wp _ [.im (.lst (rs.map Rul.toD)),.im (.lst (ws.map D.bl)),.no,.no,.no,.no,.no] _
 apply zao
 refine za3 (zc9 (zau (zae (zat (zct rs Rul.toD (fun r=>D.bl (r.surely (ws.map some))) rfl (by omega) fun r hr=>zcn rfl rfl (zau (zae rfl (zae rfl rfl)) ?_))) rfl) (zh7 _ _)) rfl) (fun _=>zb4 rfl (zbx ⟨false,rfl,fun e=>(by cases e)⟩)) (fun nbr=>zbp ?_)
 ·rw [zui]
  exact zqi r (by rw [List.length_map,hw]; exact hok r hr)
 walk_at "nrm"
 apply zao
 refine zfc (d:=(List.replicate n false).map D.bl) ?_ ?_
 ·have : (List.replicate n false).map D.bl=ws.map fun _=>D.bl false:=by rw [List.map_replicate,<- hw]; exact zsk ws
  rw [this]
  exact zct ws D.bl (fun _=>D.bl false) (zcp rfl rfl) (by omega) fun x _=>zcn rfl rfl rfl
 walk_at "nrm"
 apply zao
 refine zes (List.range n) (fun (i:Nat)=>D.int i) (fun _ ρ=>∃ (ri:List Bool) (v3 v4 v5 v6:Sl),ρ=[.im (.lst (rs.map Rul.toD)),.im (.lst (ws.map D.bl)),.own (ri.map D.bl),v3,v4,v5,v6] /\ ri.length=n /\ Ris rs ws ri) (zfa (n:=(n:Int)) (zae (zau rfl (by rw [<- hw]; exact zcy _ _)) rfl) (by omega) (by omega)) ⟨_,_,_,_,_,rfl,List.length_replicate,⟨by rw [List.length_replicate,hw],fun i q=>(by rw [zsb] at q; cases q),fun g _ _ i _=>zsb _ _⟩⟩ ?_ ?_
 ·rintro pre i post ρ ex ⟨ri,v3,v4,v5,v6,rfl,hri,hR⟩
  refine ⟨_,rfl,?_⟩
  walk_at "nrm"
  refine zes rs Rul.toD (fun _ ρ=>∃ (ri:List Bool) (v4 v5 v6:Sl),ρ=[.im (.lst (rs.map Rul.toD)),.im (.lst (ws.map D.bl)),.own (ri.map D.bl),.im (.int i),v4,v5,v6] /\ ri.length=n /\ Ris rs ws ri) (zcp rfl rfl) ⟨_,_,_,_,rfl,hri,hR⟩ ?_ ?_
  ·rintro pre r post ρ ex ⟨ri,v4,v5,v6,rfl,hri,hR⟩
   have hr:=hok r (by rw [ex]; simp)
   refine ⟨_,rfl,?_⟩
   walk_at "nrm"
   by_cases hn : r.w=.never
   ·have e1 : mB (m2 dNe (zaa 4) (fun _=>some (.str "never"))) [.im (.lst (rs.map Rul.toD)),.im (.lst (ws.map D.bl)),.own (ri.map D.bl),.im (.int i),.im (.str r.w.s),.im r.hdD,.im (.lst (r.ps.map Prt.toD))]=some false:=by
     rw [hn]
     rfl
    exact za3 (b:=false) (zlr e1) (fun q=>by cases q) (fun _=>zbp ⟨_,_,_,_,rfl,hri,hR⟩)
   ·obtain ⟨h0,h1⟩:=hr.hd hn
    have e1 : mB (m2 dNe (zaa 4) (fun _=>some (.str "never"))) [.im (.lst (rs.map Rul.toD)),.im (.lst (ws.map D.bl)),.own (ri.map D.bl),.im (.int i),.im (.str r.w.s),.im (.int r.hd),.im (.lst (r.ps.map Prt.toD))]=some true:=by
     cases hw : r.w with
     | never=>exact absurd hw hn
     | make=>rfl
     | may=>rfl
    have eh : r.hdD=.int r.hd:=by
     unfold Rul.hdD
     cases hw : r.w with
     | never=>exact absurd hw hn
     | make=>rfl
     | may=>rfl
    rw [eh]
    refine za3 (zh0 e1 (zgy (zc9 (zal rfl rfl (zfy h0 (by rw [hw]; exact h1))) rfl) (zg8 (zc9 (zal rfl rfl (zfy h0 (by rw [hri]; exact h1))) rfl)))) (fun qc=>?_) (fun _=>zbp ⟨_,_,_,_,rfl,hri,hR⟩)
    refine zma (k:=r.hd) (xs:=ri.map D.bl) (d:=.bl (r.ps.all fun p=>p.holds ri ws)) (zau (zae (zat (zct r.ps Prt.toD (fun p=>D.bl (p.holds ri ws)) (zcp rfl rfl) (by have:=hr.len; omega) fun p hp=>zcn rfl rfl (z43 (zae rfl (zae rfl (zae rfl rfl))) (z9c p (by rw [hri]; exact hr.ps p hp) (by rw [hw,hri])) rfl))) rfl) (zot _ _)) rfl rfl h0 (by rw [List.length_map,hri]; exact h1) ?_
    exact ⟨ri.set r.hd.toNat (r.ps.all fun p=>p.holds ri ws),_,_,_,by rw [List.map_set]; rfl,by rw [List.length_set]; exact hri,hR.put (by rw [ex]; simp) (by rw [hw]; exact hr) hn (by rw [Bool.and_eq_true] at qc; exact qc.1)⟩
  ·rintro ρ ⟨ri,v4,v5,v6,rfl,hri,hR⟩
   exact ⟨_,_,_,_,_,rfl,hri,hR⟩
 ·rintro ρ ⟨ri,v3,v4,v5,v6,rfl,hri,hR⟩
  walk_at "nrm"
  refine zg6 rfl ?_
  have hrw : (ri.map some).length=ws.length:=by rw [List.length_map,hri,hw]
  refine zb4 (d:=.bl (ri.map some == ws.map some)) (zas rfl rfl ?_) (zbx ⟨_,rfl,fun e=>?_⟩)
  ·rw [zui ri]
   exact zq6 _ _ hrw
  have e : ri=ws:=by
   have e:=beq_iff_eq.mp e
   exact List.map_inj_right (fun a b h=>Option.some.inj h) |>.mp e
  subst e
  exact ⟨fun r hr=>by
   cases q : r.surely (L2.bs ri) with
   | false=>rfl
   | true=>exact absurd (List.any_eq_true.mpr ⟨r,hr,q⟩) (by rw [show (rs.any fun r=>r.surely (L2.bs ri))=false from nbr]; exact Bool.false_ne_true),hR.ng⟩
noncomputable def stB (rs:List Rul) (ws:List Bool) : Bool:=match m_9 [.lst (rs.map Rul.toD),.lst (ws.map D.bl)] with
 | some (.bl b)=>b
 | _=>false
theorem z8o (rs:List Rul) (n:Nat) (n60:n <= 60) (hok:∀ r ∈ rs,r.Ok n) (hz:rs.length <= 1000) (ws:List Bool) (hw:ws.length=n) : m_9 [.lst (rs.map Rul.toD),.lst (ws.map D.bl)]=some (.bl (stB rs ws)):=by
 obtain ⟨d,e,b,rfl,_⟩:=zt6 rs n n60 hok hz ws hw
 unfold stB
 rw [e]
theorem z3v (rs:List Rul) (n:Nat) (n60:n <= 60) (hok:∀ r ∈ rs,r.Ok n) (hz:rs.length <= 1000) (ws:List Bool) (hw:ws.length=n) (h:stB rs ws=true) : zkv rs ws:=by
 obtain ⟨d,e,b,rfl,hb⟩:=zt6 rs n n60 hok hz ws hw
 unfold stB at h
 rw [e] at h
 exact hb h
noncomputable def SeN (n:Nat) (s:List Int) : Prop:=zd8 n s /\ s.Pairwise (· < ·) /\ s.length <= 60
theorem zu7 : ∀ m : Nat,(List.range m).Pairwise (· < ·)
 | 0=>.nil
 | m + 1=>by
  rw [List.range_succ]
  exact List.pairwise_append.mpr ⟨zu7 m,List.pairwise_singleton _ _,fun a ha b hb=>by
   have:=List.mem_range.mp ha
   rw [List.mem_singleton.mp hb]
   exact this⟩
theorem zs2 (m:Nat) (p:Nat -> Bool) : (((List.range m).filter p).map fun (i:Nat)=>(i:Int)).Pairwise (· < ·) :=
 List.pairwise_map.mpr ((List.Pairwise.filter p (zu7 m)).imp fun h=>by omega)
theorem zul (n m:Nat) (h:m <= n) (h60:n <= 60) (p:Nat -> Bool) : SeN n (((List.range m).filter p).map fun (i:Nat)=>(i:Int)):=by
 have hl:=List.length_filter_le p (List.range m)
 rw [List.length_range] at hl
 refine ⟨⟨fun x hx=>?_,by rw [List.length_map]; omega⟩,zs2 m p,by rw [List.length_map]; omega⟩
 obtain ⟨i,hi,rfl⟩:=List.mem_map.mp hx
 have:=List.mem_range.mp (List.mem_filter.mp hi).1
 exact ⟨by omega,by omega⟩
noncomputable def roD (r:List Bool) : D:=.lst (r.map D.bl)
theorem zyo (rs:List Rul) (n:Nat) (n7:n <= 7) (hok:∀ r ∈ rs,r.Ok n) (hz:rs.length <= 1000) : ∃ d,zrx [.int n,.lst (rs.map Rul.toD)]=some d /\ ∃ ss : List (List Int),d=.lst (ss.map seD) /\ (∀ s ∈ ss,SeN n s) /\ ss.length <= 200 /\ ∀ s ∈ ss,∃ ws : List Bool,ws.length=n /\ stB rs ws=true /\ s=((List.range ws.length).filter fun i=>ws.getD i false).map fun (i:Nat)=>(i:Int):=by
 apply zg3
 unfold b_33
 show wp _ [.im (.int n),.im (.lst (rs.map Rul.toD)),.no,.no,.no] _
 apply zao
 refine zbs (d:=.lst ([[]].map roD)) rfl ?_
 walk_at "nrm"
 apply zao
 refine zes (List.range n) (fun (i:Nat)=>D.int i) (fun pre ρ=>∃ (ro:List (List Bool)) (v3:Sl),ρ=[.im (.int n),.im (.lst (rs.map Rul.toD)),.im (.lst (ro.map roD)),v3,.no] /\ (∀ r ∈ ro,r.length=pre.length) /\ ro.length <= 2 ^ pre.length) (zfa (n:=(n:Int)) (zae rfl rfl) (by omega) (by omega)) ⟨[[]],_,rfl,fun r hr=>by rw [List.mem_singleton.mp hr]; rfl,Nat.le_refl 1⟩ ?_ ?_
 ·rintro pre i post ρ ex ⟨ro,v3,rfl,hro,hrl⟩
  have hp : pre.length < n:=by
   have : pre.length < (List.range n).length:=by rw [ex]; simp
   simpa using this
  have h2 : 2 ^ pre.length <= 2 ^ 7:=Nat.pow_le_pow_right (by decide) (by omega)
  have hrl' : ro.length <= 128:=by omega
  refine ⟨_,rfl,?_⟩
  walk_at "nrm"
  have ec : ∀ b : Bool,∀ f : List Sl -> Option D,(∀ ρ,f ρ=some (.bl b)) -> za6 1 [] (zbh (zaa 2)) (zar 0) (fun _=>some true) (zak (zcz (zaa 0) (zak (zab f (fun _=>some []))))) [.im (.int n),.im (.lst (rs.map Rul.toD)),.im (.lst (ro.map roD)),.im (.int i),.no]=some ((ro.map (· ++ [b])).map roD):=fun b f hf=>by
   rw [List.map_map]
   refine zct ro roD (fun r=>roD (r ++ [b])) (zcp rfl rfl) (by omega) fun r hr=>zcn rfl rfl (zat ?_)
   rw [List.map_append]
   refine zee rfl (zat (zae (hf _) rfl)) ?_
   rw [List.length_map,hro r hr]
   show _ + 1 <= _
   omega
  refine zbs (d:=.lst ((ro.map (· ++ [true]) ++ ro.map (· ++ [false])).map roD)) (zat ?_) ?_
  ·rw [List.map_append]
   refine zee (zat (ec true _ fun _=>rfl)) (zat (ec false _ fun _=>rfl)) ?_
   simp only [List.length_map]
   omega
  ·refine ⟨_,_,rfl,fun r hr=>?_,?_⟩
   ·rw [List.length_append]
    rcases List.mem_append.mp hr with h | h
    ·obtain ⟨q,hq,rfl⟩:=List.mem_map.mp h
     rw [List.length_append,hro q hq]
     rfl
    ·obtain ⟨q,hq,rfl⟩:=List.mem_map.mp h
     rw [List.length_append,hro q hq]
     rfl
   ·simp only [List.length_append,List.length_map,List.length_cons,List.length_nil]
    rw [Nat.pow_succ]
    omega
 ·rintro ρ ⟨ro,v3,rfl,hro,hrl⟩
  rw [List.length_range] at hro hrl
  have h2 : 2 ^ n <= 2 ^ 7:=Nat.pow_le_pow_right (by decide) (by omega)
  have hrl' : ro.length <= 128:=by omega
  walk_at "nrm"
  apply zao
  refine zbs (d:=.lst ((ro.filter (stB rs)).map roD)) (zat (zd2 ro roD (stB rs) roD (zcp rfl rfl) (by omega) fun r hr=>zdv rfl (zc9 (zau (zae rfl (zae rfl rfl)) (z8o rs n (by omega) hok hz r (hro r hr))) rfl) fun _=>rfl)) ?_
  have hhl:=List.length_filter_le (stB rs) ro
  have hh : ∀ r ∈ ro.filter (stB rs),r.length=n:=fun r hr=>hro r (List.mem_filter.mp hr).1
  have hh2 : ∀ r ∈ ro.filter (stB rs),stB rs r=true:=fun r hr=>(List.mem_filter.mp hr).2
  generalize ro.filter (stB rs)=he at hhl hh hh2
  walk_at "nrm"
  refine z35 (d:=(he.map fun r=>((List.range r.length).filter fun i=>r.getD i false).map fun (i:Nat)=>(i:Int)).map seD) ?_ (ziz ⟨_,rfl,fun s hs=>?_,by rw [List.length_map]; omega,fun s hs=>?_⟩)
  ·rw [List.map_map]
   refine zct he roD (fun r=>seD (((List.range r.length).filter fun i=>r.getD i false).map fun (i:Nat)=>(i:Int))) (zcp rfl rfl) (by omega) fun r hr=>zcn rfl rfl (zat ?_)
   have hrn:=hh r hr
   rw [List.map_map]
   exact zd2 (List.range r.length) (fun i=>D.tup [.int (i:Nat),D.bl (r.getD i false)]) (fun i=>r.getD i false) (fun (i:Nat)=>D.int i) (zjb false (zae rfl rfl)) (by rw [List.length_range]; omega) fun i _=>zdv rfl (zc9 rfl rfl) fun _=>rfl
  ·obtain ⟨r,hr,rfl⟩:=List.mem_map.mp hs
   exact zul n r.length (by rw [hh r hr]; omega) (by omega) _
  ·obtain ⟨r,hr,rfl⟩:=List.mem_map.mp hs
   exact ⟨r,hh r hr,hh2 r hr,rfl⟩
theorem zy7 (l:Addr) (c:Int) (a b s:D) (xs:List D) : zid 7 l [.int c,a,b] [s] xs=[.im (.int c),.im a,.im b,.pin l xs,.im s,.no,.no]:=rfl
section
variable {rs:List Rul} {ss:List (List Int)} {es:List (Option Bool)}
theorem zoq {k1 k2 k3:Str} {f1 f2 f3 g:List Sl -> Option D} {ρ:List Sl} {a b c y d:D} (h1:f1 ρ=some a) (h2:f2 ρ=some b) (h3:f3 ρ=some c) (hg:g ρ=some y) (hp:znv k1 k2 k3 a b c y=some d) : zio k1 k2 k3 f1 f2 f3 g ρ=some d:=by
 unfold zio
 rw [h1,h2,h3,hg]
 exact hp
theorem zmb {i:Nat} {ρ:List Sl} {l:Addr} {xs:List D} (h:ρ[i]?=some (.pin l xs)) : zap zcb (zab (zgk i) (fun _=>some [])) ρ=some (.int (xs.length : Nat)):=by
 refine zau (ds:=[.lst xs]) (zae ?_ rfl) rfl
 unfold zgk
 rw [h]
theorem z4g (n60:es.length <= 60) (hz:rs.length <= 1000) (hsz:ss.length <= 1000) (c:Int) (xs:List D) :
  ∃ w : Wy,w.Ok es.length /\ ∀ l,m_8 l [.int c,.lst (rs.map Rul.toD),.lst (ss.map seD)] [.lst (es.map shD)] xs=some (xs,w.toD):=by
 obtain ⟨d,em,ys,rfl,hl,hx⟩:=zmh c 3 (by decide) (by decide)
 obtain ⟨a0,h0,e0⟩:=zbz (f:=D.int) (xs:=ys) (i:=0) (by decide) (by omega)
 obtain ⟨a1,h1,e1⟩:=zbz (f:=D.int) (xs:=ys) (i:=1) (by decide) (by omega)
 obtain ⟨a2,h2,e2⟩:=zbz (f:=D.int) (xs:=ys) (i:=2) (by decide) (by omega)
 have q0 : 0 <= a0 % 4:=Int.emod_nonneg _ (by decide)
 have q1 : a0 % 4 < 4:=Int.emod_lt_of_pos _ (by decide)
 have run : ∀ (w:Wy) (l:Addr),wp b_8 [.im (.int c),.im (.lst (rs.map Rul.toD)),.im (.lst (ss.map seD)),.pin l xs,.im (.lst (es.map shD)),.no,.no] (fun o=>∃ ρ,o=.rtS w.toD ρ /\ ρ[3]?=some (.pin l xs)) -> m_8 l [.int c,.lst (rs.map Rul.toD),.lst (ss.map seD)] [.lst (es.map shD)] xs=some (xs,w.toD):=by
  rintro w l ⟨o,eo,ρ,rfl,hp⟩
  exact zx8 (by rw [zy7]; exact eo) hp
 have word : ∀ k : Int,a0 % 4=k -> ∀ s : Str,([D.str "rule",.str "group",.str "bar",.str "world"] : List D)[k.toNat]?=some (.str s) -> ∀ (l:Addr) (K:Fl -> Prop) (F:List Sl -> Option Fl),wp F [.im (.int c),.im (.lst (rs.map Rul.toD)),.im (.lst (ss.map seD)),.pin l xs,.im (.lst (es.map shD)),.im (.lst (ys.map D.int)),.im (.str s)] K ->
   wp (zai (zbc 5 (zap m_0 (zab (zaa 0) (zab (fun _=>some (.int 3)) (fun _=>some []))))) (zai (zbc 6 (mIx (zab (fun _=>some (.str "rule")) (zab (fun _=>some (.str "group")) (zab (fun _=>some (.str "bar")) (zab (fun _=>some (.str "world")) (fun _=>some []))))) (m2 zbr (mIx (zaf 5) (fun _=>some (.int 0))) (fun _=>some (.int 4))))) F)) [.im (.int c),.im (.lst (rs.map Rul.toD)),.im (.lst (ss.map seD)),.pin l xs,.im (.lst (es.map shD)),.no,.no] K:=by
  intro k hk s hs l K F h
  apply zao
  refine zbs (zau (zae rfl (zae rfl rfl)) em) ?_
  walk_at "nrm"
  apply zao
  refine zbs (zal rfl (zas (zal rfl rfl e0) rfl (zdj (j:=4) (by decide))) (r:=some (.str s)) ?_) ?_
  ·rw [hk]
   have k0 : 0 <= k:=by omega
   have k1 : k < 4:=by omega
   obtain ⟨x,hx,ex⟩:=zbz (f:=id) (xs:=([D.str "rule",.str "group",.str "bar",.str "world"] : List D)) (i:=k) k0 (by show k < 4; omega)
   rw [hs] at hx
   cases hx
   exact ex
  ·walk_at "nrm"
   exact h
 have num : ∀ (s:Str) (L:Int),0 <= L -> (∀ l,zio "rule" "bar" "world" (zap zcb (zab (zaa 1) (fun _=>some []))) (zap zcb (zab (zgk 3) (fun _=>some []))) (zap zcb (zab (zaa 2) (fun _=>some []))) (zaa 6) [.im (.int c),.im (.lst (rs.map Rul.toD)),.im (.lst (ss.map seD)),.pin l xs,.im (.lst (es.map shD)),.im (.lst (ys.map D.int)),.im (.str s)]=some (.int L)) -> ∀ l,
   zbg (zab (zaa 6) (zab (m2 zbr (mIx (zaf 5) (fun _=>some (.int 2))) (m2 zcf (fun _=>some (.int 1)) (zio "rule" "bar" "world" (zap zcb (zab (zaa 1) (fun _=>some []))) (zap zcb (zab (zgk 3) (fun _=>some []))) (zap zcb (zab (zaa 2) (fun _=>some []))) (zaa 6)))) (fun _=>some []))) [.im (.int c),.im (.lst (rs.map Rul.toD)),.im (.lst (ss.map seD)),.pin l xs,.im (.lst (es.map shD)),.im (.lst (ys.map D.int)),.im (.str s)]=some (.tup [.str s,.int (a2 % (1 + L))]):=by
  intro s L L0 hd l
  exact zb8 (zae rfl (zae (zas (zal rfl rfl e2) (zas rfl (hd l) zhj) (zdj (by omega))) rfl))
 rcases (show a0 % 4=0 \/ a0 % 4=1 \/ a0 % 4=2 \/ a0 % 4=3 by omega) with hk | hk | hk | hk
 ·refine ⟨.rul (a2 % (1 + (rs.length : Int))),Int.emod_nonneg _ (by omega),fun l=>run _ l ?_⟩
  unfold b_8
  refine word 0 hk "rule" rfl l _ _ ?_
  apply zao
  refine za3 (b:=false) rfl (fun q=>by cases q) (fun _=>zbp ?_)
  walk_at "nrm"
  exact zm2 (num "rule" rs.length (by omega) (fun l=>zoq (zau rfl (zcy _ _)) (zmb rfl) (zau rfl (zcy _ _)) rfl rfl) l) ⟨_,rfl,rfl⟩
 ·have hc:=List.length_filter_le (fun i=>es.getD i none == some true || a1 / ((i:Int) + 1) % 2 == 0) (List.range es.length)
  rw [List.length_range] at hc
  refine ⟨.grp (((List.range es.length).filter fun i=>es.getD i none == some true || a1 / ((i:Int) + 1) % 2 == 0).map fun (i:Nat)=>(i:Int)),⟨fun x hx=>?_,by rw [List.length_map]; omega⟩,fun l=>run _ l ?_⟩
  ·obtain ⟨i,hi,rfl⟩:=List.mem_map.mp hx
   have:=List.mem_range.mp (List.mem_filter.mp hi).1
   exact ⟨by omega,by omega⟩
  ·unfold b_8
   refine word 1 hk "group" rfl l _ _ ?_
   apply zao
   refine za3 (b:=true) rfl (fun _=>?_) (fun q=>by cases q)
   refine zm2 (zb8 (zae rfl (zae (zat ?_) rfl))) ⟨_,rfl,rfl⟩
   rw [List.map_map]
   refine zd2 (List.range es.length) (fun i=>D.tup [.int (i:Nat),shD (es.getD i none)]) (fun i=>es.getD i none == some true || a1 / ((i:Int) + 1) % 2 == 0) (fun (i:Nat)=>D.int i) (zjb none (zae rfl rfl)) (by rw [List.length_range]; omega) fun i hi=>zdv rfl (zmv (zb0 (zas rfl rfl (zem _ _))) (zb0 (zas (zas (zas (zal rfl rfl e1) (zas rfl rfl zhj) (zll ?_)) rfl (zdj (by decide))) rfl (zd5 _ _)))) fun _=>rfl
   have:=List.mem_range.mp hi
   exact ⟨by omega,by omega⟩
 ·refine ⟨.bar (a2 % (1 + ((xs.length : Nat) : Int))),Int.emod_nonneg _ (by omega),fun l=>run _ l ?_⟩
  unfold b_8
  refine word 2 hk "bar" rfl l _ _ ?_
  apply zao
  refine za3 (b:=false) rfl (fun q=>by cases q) (fun _=>zbp ?_)
  walk_at "nrm"
  exact zm2 (num "bar" xs.length (by omega) (fun l=>zoq (zau rfl (zcy _ _)) (zmb rfl) (zau rfl (zcy _ _)) rfl rfl) l) ⟨_,rfl,rfl⟩
 ·refine ⟨.wld (a2 % (1 + (ss.length : Int))),Int.emod_nonneg _ (by omega),fun l=>run _ l ?_⟩
  unfold b_8
  refine word 3 hk "world" rfl l _ _ ?_
  apply zao
  refine za3 (b:=false) rfl (fun q=>by cases q) (fun _=>zbp ?_)
  walk_at "nrm"
  exact zm2 (num "world" ss.length (by omega) (fun l=>zoq (zau rfl (zcy _ _)) (zmb rfl) (zau rfl (zcy _ _)) rfl rfl) l) ⟨_,rfl,rfl⟩
end
noncomputable def cnt (es:List (Option Bool)) : Nat:=(es.filter (· == none)).length
theorem zsp : ∀ (es:List (Option Bool)) (i:Nat) (b:Bool),es[i]?=some none -> cnt (es.set i (some b)) + 1=cnt es
 | [],_,_,h=>by cases h
 | e :: es,0,b,h=>by
  cases h
  rfl
 | e :: es,i + 1,b,h=>by
  have ih:=zsp es i b (by simpa using h)
  unfold cnt at ih ⊢
  rw [List.set_cons_succ]
  cases e with
  | none =>
   show ((none:Option Bool) :: _).length + 1=((none:Option Bool) :: _).length
   rw [List.length_cons,List.length_cons,ih]
  | some x =>
   show (List.filter _ (es.set i (some b))).length + 1=(List.filter _ es).length
   exact ih
theorem zxf (l:Addr) (a b s z c:D) (xs:List D) : zid 12 l [a,b,s,z] [c] xs=[.im a,.im b,.im s,.im z,.pin l xs,.im c,.no,.no,.no,.no,.no,.no]:=rfl
section
variable {rs:List Rul} {ss:List (List Int)}
theorem zqr (n:Nat) (n60:n <= 60) (hok:∀ r ∈ rs,r.Ok n) (hz:rs.length <= 1000) (hs:∀ s ∈ ss,zd8 n s) (hsz:ss.length <= 1000) : ∀ (j:Nat) (es:List (Option Bool)) (zs:List (Int × Bool)) (ls:List Ln) (c:Int),es.length=n -> cnt es < j -> (zs.map (·.1)).Nodup ->
  (∀ z ∈ zs,(0 <= z.1 /\ z.1 < (n:Int)) /\ es[z.1.toNat]? ≠ some none) -> zs.length + j <= 50 -> (∀ l ∈ ls,LnN n l) -> ls.length + 2 ^ j <= 900 ->
  ∃ new : List Ln,(∀ l,m_2 j l [.lst (rs.map Rul.toD),.lst (ss.map seD),.lst (es.map shD),baD zs] [.int c] (ls.map lD)=some ((ls ++ new).map lD,.non)) /\ (∀ x ∈ new,LnN n x) /\ 0 < new.length /\ new.length + 1 <= 2 ^ j
 | 0,es,zs,ls,c,_,hc,_,_,_,_,_=>absurd hc (Nat.not_lt_zero _)
 | j + 1,es,zs,ls,c,hes,hc,hnd,hzs,hzj,hls,hll=>by
  have hpow : 0 < 2 ^ j:=Nat.pow_pos (by decide)
  rw [Nat.pow_succ] at hll
  obtain ⟨d,em,ys,rfl,hl,hx⟩:=zmh c 4 (by decide) (by decide)
  obtain ⟨a0,h0,e0⟩:=zbz (f:=D.int) (xs:=ys) (i:=0) (by decide) (by omega)
  obtain ⟨a1,h1,e1⟩:=zbz (f:=D.int) (xs:=ys) (i:=1) (by decide) (by omega)
  obtain ⟨a2,h2,e2⟩:=zbz (f:=D.int) (xs:=ys) (i:=2) (by decide) (by omega)
  obtain ⟨a3,h3,e3⟩:=zbz (f:=D.int) (xs:=ys) (i:=3) (by decide) (by omega)
  subst hes
  have hbar : zfg es.length zs:=⟨fun z hz'=>(hzs z hz').1,by omega⟩
  obtain ⟨ws,ew,hw,hwl⟩:=z80 (rs:=rs) (ss:=ss) (bs:=ls.map (·.1)) (es:=es) hok hz hs hsz (fun b hb=>by
   obtain ⟨q,hq,rfl⟩:=List.mem_map.mp hb
   exact (hls q hq).1.1.1) (by rw [List.length_map]; omega) n60
  obtain ⟨fs,hfs⟩ : ∃ fs : List Int,((List.range es.length).filter fun i=>es.getD i none == none).map (fun (i:Nat)=>(i:Int))=fs:=⟨_,rfl⟩
  have hfm : ∀ x ∈ fs,(0 <= x /\ x < (es.length : Int)) /\ es[x.toNat]?=some none:=fun x hx=>by
   rw [<- hfs] at hx
   obtain ⟨i,hi,rfl⟩:=List.mem_map.mp hx
   obtain ⟨hi1,hi2⟩:=List.mem_filter.mp hi
   have hi1:=List.mem_range.mp hi1
   refine ⟨⟨by omega,by omega⟩,?_⟩
   rw [Int.toNat_natCast,List.getElem?_eq_getElem hi1]
   rw [List.getD_eq_getElem?_getD,List.getElem?_eq_getElem hi1] at hi2
   cases hq : es[i] with
   | none=>rfl
   | some b=>rw [hq] at hi2; cases hi2
  have run : ∀ (l:Addr) (us:List D),wp (b_2 (m_2 j)) [.im (.lst (rs.map Rul.toD)),.im (.lst (ss.map seD)),.im (.lst (es.map shD)),.im (baD zs),.pin l (ls.map lD),.im (.int c),.no,.no,.no,.no,.no,.no] (fun o=>∃ ρ,o=.nx ρ /\ ρ[4]?=some (.pin l us)) -> m_2 (j + 1) l [.lst (rs.map Rul.toD),.lst (ss.map seD),.lst (es.map shD),baD zs] [.int c] (ls.map lD)=some (us,.non):=by
   rintro l us ⟨o,eo,ρ,rfl,hp⟩
   exact z0k (by rw [zxf]; exact eo) hp
  have start : ∀ (l:Addr) (F:List Sl -> Option Fl) (K:Fl -> Prop),wp F [.im (.lst (rs.map Rul.toD)),.im (.lst (ss.map seD)),.im (.lst (es.map shD)),.im (baD zs),.pin l (ls.map lD),.im (.int c),.im (.lst (ys.map D.int)),.no,.im (.lst (fs.map D.int)),.im (.lst (ws.map Wy.toD)),.no,.no] K ->
    wp (zai (zbc 6 (zap m_0 (zab (zaa 5) (zab (fun _=>some (.int 4)) (fun _=>some [])))))
     (zai (zbc 8 (zak (za6 2 [] (zf2 (zab (zaa 2) (fun _=>some []))) (zch (zba (zar 0) (zba (zar 1) zcj))) (mB (m2 dIs (zaa 1) (fun _=>some .non))) (zaa 0))))
     (zai (zbc 9 (zap zpb (zab (zaa 0) (zab (zaa 1) (zab (zak (za6 1 [] (znz 4) (zar 0) (fun _=>some true) (mIx (zaf 0) (fun _=>some (.int 0))))) (zab (zaa 2) (fun _=>some []))))))) F)))
     [.im (.lst (rs.map Rul.toD)),.im (.lst (ss.map seD)),.im (.lst (es.map shD)),.im (baD zs),.pin l (ls.map lD),.im (.int c),.no,.no,.no,.no,.no,.no] K:=by
   intro l F K h
   apply zao
   refine zbs (zau (zae rfl (zae rfl rfl)) em) ?_
   walk_at "nrm"
   apply zao
   refine zbs (d:=.lst (fs.map D.int)) (zat ?_) ?_
   ·rw [<- hfs,List.map_map]
    exact zd2 (List.range es.length) (fun i=>D.tup [.int (i:Nat),shD (es.getD i none)]) (fun i=>es.getD i none == none) (fun (i:Nat)=>D.int i) (zjb none (zae rfl rfl)) (by rw [List.length_range]; omega) fun i _=>zdv rfl (zb0 (zas rfl rfl (zy1 _))) fun _=>rfl
   walk_at "nrm"
   apply zao
   refine zbs (zau (zae rfl (zae rfl (zae (d:=.lst ((ls.map (·.1)).map baD)) (zat ?_) (zae rfl rfl)))) (zjs ew)) ?_
   ·rw [List.map_map]
    exact zct ls lD (fun l=>baD l.1) rfl (by omega) fun l _=>zcn rfl rfl (zal rfl rfl rfl)
   ·walk_at "nrm"
    exact h
  have lnn : ∀ sts : List Stp,(∀ z ∈ sts,zaz es.length z) -> 0 < sts.length -> sts.length <= 40 -> LnN es.length (zs,sts):=fun sts h1 h2 h3=>⟨⟨⟨hbar,h1,by show sts.length <= 1000; omega⟩,hnd⟩,h2,h3⟩
  have econd : ∀ ρ : List Sl,ρ[8]?=some (.im (.lst (fs.map D.int))) -> ρ[9]?=some (.im (.lst (ws.map Wy.toD))) -> ρ[6]?=some (.im (.lst (ys.map D.int))) ->
    mOr (mB (m2 dEq (zaa 8) (zak (fun _=>some [])))) (zdc (mB (m2 dNe (zaa 9) (zak (fun _=>some [])))) (mB (m2 dGt (m2 zbr (mIx (zaf 6) (fun _=>some (.int 0))) (fun _=>some (.int 4))) (fun _=>some (.int 0))))) ρ=some (fs.isEmpty || (!ws.isEmpty && decide (a0 % 4 > 0))):=by
   intro ρ r8 r9 r6
   have v8 : zaa 8 ρ=some (.lst (fs.map D.int)):=by unfold zaa; rw [r8]
   have v9 : zaa 9 ρ=some (.lst (ws.map Wy.toD)):=by unfold zaa; rw [r9]
   have v6 : zaf 6 ρ=some (ys.map D.int):=by unfold zaf; rw [r6]; rfl
   exact zmv (zb0 (zas v8 (zat rfl) (zv6 _ _))) (zgy (zb0 (zas v9 (zat rfl) (zj8 _ _))) (zb0 (zas (zas (zal v6 rfl e0) rfl (zdj (by decide))) rfl zlb)))
  cases hcond : (fs.isEmpty || (!ws.isEmpty && decide (a0 % 4 > 0))) with
  | true =>
   cases ws with
   | nil =>
    obtain ⟨w,hwk,hlie⟩:=z4g (rs:=rs) (ss:=ss) (es:=es) n60 hz hsz a1 (ls.map lD)
    refine ⟨[(zs,[(none,w)])],fun l=>run l _ ?_,fun x hx=>?_,Nat.one_pos,by rw [Nat.pow_succ]; show 1 + 1 <= _; omega⟩
    ·unfold b_2
     refine start l _ _ ?_
     refine za3 (b:=true) (by rw [<- hcond]; exact econd _ rfl rfl rfl) (fun _=>?_) (fun q=>by cases q)
     apply zao
     refine za3 (b:=true) rfl (fun _=>?_) (fun q=>by cases q)
     refine zz7 (zqh rfl (zei (zal rfl rfl e1) (zei rfl (zei rfl (zm8 (zae rfl rfl))))) (hlie l)) ?_
     walk_at "nrm"
     refine zoi (d:=lD (zs,[(none,w)])) (zb8 (zae rfl (zae (zat (zae (zb8 (zae rfl (zae (zal rfl (zas (zal rfl rfl e2) (zau rfl rfl) (zdj (j:=1) (by decide))) (r:=some w.toD) ?_) rfl))) rfl)) rfl))) rfl (by rw [List.length_map]; omega) ⟨_,rfl,?_⟩
     ·rw [show a2 % 1=0 by omega]
      rfl
     ·rw [List.map_append]
      rfl
    ·have : x=(zs,[(none,w)]):=by simpa using hx
     subst this
     refine lnn _ (fun z hz'=>?_) Nat.one_pos (by show 1 <= 40; decide)
     have : z=(none,w):=by simpa using hz'
     subst this
     exact ⟨fun y e=>(nomatch e),hwk⟩
   | cons w0 ws' =>
    obtain ⟨w,hw',eg⟩:=zbz (f:=Wy.toD) (xs:=w0 :: ws') (i:=a2 % ((w0 :: ws').length : Int)) (Int.emod_nonneg _ (by rw [List.length_cons]; omega)) (Int.emod_lt_of_pos _ (by rw [List.length_cons]; omega))
    refine ⟨[(zs,[(none,w)])],fun l=>run l _ ?_,fun x hx=>?_,Nat.one_pos,by rw [Nat.pow_succ]; show 1 + 1 <= _; omega⟩
    ·unfold b_2
     refine start l _ _ ?_
     refine za3 (b:=true) (by rw [<- hcond]; exact econd _ rfl rfl rfl) (fun _=>?_) (fun q=>by cases q)
     apply zao
     refine za3 (b:=false) rfl (fun q=>by cases q) (fun _=>zbp ?_)
     walk_at "nrm"
     refine zoi (d:=lD (zs,[(none,w)])) (zb8 (zae rfl (zae (zat (zae (zb8 (zae rfl (zae (zal rfl (zas (zal rfl rfl e2) (zau rfl (zcy _ _)) (zdj (by rw [List.length_cons]; omega))) eg) rfl))) rfl)) rfl))) rfl (by rw [List.length_map]; omega) ⟨_,rfl,?_⟩
     rw [List.map_append]
     rfl
    ·have : x=(zs,[(none,w)]):=by simpa using hx
     subst this
     refine lnn _ (fun z hz'=>?_) Nat.one_pos (by show 1 <= 40; decide)
     have : z=(none,w):=by simpa using hz'
     subst this
     exact ⟨fun y e=>(nomatch e),(hw w (List.mem_of_getElem? hw')).1⟩
  | false =>
   have hfl : 0 < fs.length:=by
    cases fs with
    | nil=>cases hcond
    | cons f fs=>rw [List.length_cons]; omega
   obtain ⟨t,ht,et⟩:=zbz (f:=D.int) (xs:=fs) (i:=a2 % (fs.length : Int)) (Int.emod_nonneg _ (by omega)) (Int.emod_lt_of_pos _ (by omega))
   obtain ⟨⟨t0,t1⟩,tn⟩:=hfm t (List.mem_of_getElem? ht)
   obtain ⟨b,hb⟩ : ∃ b,(a3 % 2 == 0)=b:=⟨_,rfl⟩
   have next : ∀ x : Bool,(((zs ++ [(t,x)]).map (·.1)).Nodup) /\ (∀ z ∈ zs ++ [(t,x)],(0 <= z.1 /\ z.1 < (es.length : Int)) /\ (es.set t.toNat (some x))[z.1.toNat]? ≠ some none):=fun x=>by
    have htn : t.toNat < es.length:=by omega
    refine ⟨?_,fun z hz'=>?_⟩
    ·rw [List.map_append]
     refine List.nodup_append.mpr ⟨hnd,List.pairwise_singleton _ _,fun p hp q hq e=>?_⟩
     obtain ⟨z,hz',rfl⟩:=List.mem_map.mp hp
     have hq : q=t:=by simpa using hq
     subst hq
     exact (hzs z hz').2 (by rw [e]; exact tn)
    ·rcases List.mem_append.mp hz' with h | h
     ·refine ⟨(hzs z h).1,?_⟩
      by_cases q : z.1.toNat=t.toNat
      ·rw [q,List.getElem?_set_self htn]
       exact fun e=>nomatch e
      ·rw [List.getElem?_set_ne (fun e=>q e.symm)]
       exact (hzs z h).2
     ·have : z=(t,x):=by simpa using h
      subst this
      refine ⟨⟨t0,t1⟩,?_⟩
      rw [List.getElem?_set_self htn]
      exact fun e=>nomatch e
   have hcs : ∀ x : Bool,cnt (es.set t.toNat (some x)) < j:=fun x=>by
    have:=zsp es t.toNat x tn
    omega
   obtain ⟨nw1,hn1,hk1,hp1,hq1⟩:=zqr es.length n60 hok hz hs hsz j (es.set t.toNat (some b)) (zs ++ [(t,b)]) ls a0 List.length_set (hcs b) (next b).1 (next b).2 (by rw [List.length_append]; show _ + 1 + j <= 50; omega) hls (by omega)
   obtain ⟨nw2,hn2,hk2,hp2,hq2⟩:=zqr es.length n60 hok hz hs hsz j (es.set t.toNat (some (!b))) (zs ++ [(t,!b)]) (ls ++ nw1) a1 List.length_set (hcs (!b)) (next (!b)).1 (next (!b)).2 (by rw [List.length_append]; show _ + 1 + j <= 50; omega) (fun l hl'=>by
    rcases List.mem_append.mp hl' with h | h
    ·exact hls l h
    ·exact hk1 l h) (by rw [List.length_append]; omega)
   have ew1:=zwk (es:=es) b t0 t1 n60
   have ew2:=zwk (es:=es) (!b) t0 t1 n60
   have ecat : ∀ (x:Bool) (f:List Sl -> Option D) (ρ:List Sl),f ρ=some (.bl x) -> ρ[3]?=some (.im (baD zs)) -> ρ[7]?=some (.im (.int t)) -> zak (zcz (zaa 3) (zak (zab (zbg (zab (zaa 7) (zab f (fun _=>some [])))) (fun _=>some [])))) ρ=some (baD (zs ++ [(t,x)])):=by
    intro x f ρ hf r3 r7
    have v3 : zaa 3 ρ=some (baD zs):=by unfold zaa; rw [r3]
    have v7 : zaa 7 ρ=some (.int t):=by unfold zaa; rw [r7]
    refine zat (ds:=(zs ++ [(t,x)]).map brD) ?_
    rw [List.map_append]
    refine zee v3 (zat (zae (zb8 (zae v7 (zae hf rfl))) rfl)) ?_
    rw [List.length_map]
    show _ + 1 <= _
    omega
   refine ⟨nw1 ++ nw2 ++ [(zs,[(some (t,!b),.bar (((ls ++ nw1).length : Nat) - 1 : Int)),(none,.bar (((ls ++ nw1 ++ nw2).length : Nat) - 1 : Int))])],fun l=>run l _ ?_,fun x hx=>?_,by rw [List.length_append]; show 0 < _ + 1; omega,by rw [List.length_append,List.length_append,Nat.pow_succ]; show _ + _ + 1 + 1 <= _; omega⟩
   ·unfold b_2
    refine start l _ _ ?_
    refine za3 (b:=false) (by rw [<- hcond]; exact econd _ rfl rfl rfl) (fun q=>by cases q) (fun _=>?_)
    apply zao
    refine zbs (zal rfl (zas (zal rfl rfl e2) (zau rfl (zcy _ _)) (zdj (by omega))) et) ?_
    walk_at "nrm"
    apply zao
    refine zbs (d:=.bl b) (by rw [<- hb]; exact zas (zas (zal rfl rfl e3) rfl (zdj (by decide))) rfl (zd5 _ _)) ?_
    walk_at "nrm"
    apply zao
    refine zou (zqh rfl (zei rfl (zei rfl (zei (zau (zae rfl (zae rfl (zae rfl rfl))) ew1) (zei (ecat b _ _ rfl rfl rfl) (zm8 (zae (zal rfl rfl e0) rfl)))))) (hn1 l)) ?_
    walk_at "nrm"
    apply zao
    refine zbs (d:=.int (((ls ++ nw1).length : Nat) - 1 : Int)) (zas (zmb rfl) rfl (by rw [List.length_map]; exact zom)) ?_
    walk_at "nrm"
    apply zao
    refine zou (zqh rfl (zei rfl (zei rfl (zei (zau (zae rfl (zae rfl (zae (zgz rfl) rfl))) ew2) (zei (ecat (!b) _ _ (zgz rfl) rfl rfl) (zm8 (zae (zal rfl rfl e1) rfl)))))) (hn2 l)) ?_
    walk_at "nrm"
    refine zoi (d:=lD (zs,[(some (t,!b),.bar (((ls ++ nw1).length : Nat) - 1 : Int)),(none,.bar (((ls ++ nw1 ++ nw2).length : Nat) - 1 : Int))])) (zb8 (zae rfl (zae (zat (zae (zb8 (zae (zb8 (zae rfl (zae (zgz rfl) rfl))) (zae (zb8 (zae rfl (zae rfl rfl))) rfl))) (zae (zb8 (zae rfl (zae (zb8 (zae rfl (zae (zas (zmb rfl) rfl (by rw [List.length_map]; exact zom)) rfl))) rfl))) rfl))) rfl))) rfl (by rw [List.length_map,List.length_append,List.length_append]; omega) ⟨_,rfl,?_⟩
    rw [<- List.append_assoc,<- List.append_assoc,List.map_append (l₁:=ls ++ nw1 ++ nw2)]
    rfl
   ·rcases List.mem_append.mp hx with h | h
    ·rcases List.mem_append.mp h with h | h
     ·exact hk1 x h
     ·exact hk2 x h
    ·have : x=(zs,[(some (t,!b),.bar (((ls ++ nw1).length : Nat) - 1 : Int)),(none,.bar (((ls ++ nw1 ++ nw2).length : Nat) - 1 : Int))]):=by simpa using h
     subst this
     refine lnn _ (fun z hz'=>?_) (by show 0 < 2; decide) (by show 2 <= 40; decide)
     have l1 : 0 < (ls ++ nw1).length:=by rw [List.length_append]; omega
     have l2 : 0 < (ls ++ nw1 ++ nw2).length:=by rw [List.length_append]; omega
     simp only [List.mem_cons,List.not_mem_nil,or_false] at hz'
     rcases hz' with rfl | rfl
     ·exact ⟨fun y e=>by cases e; exact ⟨t0,t1⟩,by show (0 : Int) <= _ - 1; omega⟩
     ·exact ⟨fun y e=>(nomatch e),by show (0 : Int) <= _ - 1; omega⟩
end
theorem zr6 : ∀ (xs ys:List Int),xs.length=ys.length -> zck (deq 19) (xs.map D.int) (ys.map D.int)=some (xs == ys)
 | [],[],_=>rfl
 | [],_ :: _,h=>by cases h
 | _ :: _,[],h=>by cases h
 | e :: es,b :: bs,h=>by
  have ih:=zr6 es bs (by simpa using h)
  show ((deq 19 (.int e) (.int b)).bind fun x=>(zck (deq 19) (es.map D.int) (bs.map D.int)).map fun r=>x && r)=_
  rw [show deq 19 (.int e) (.int b)=some (e == b) from rfl,ih]
  rfl
theorem z6z (xs ys:List Int) : dEq (.lst (xs.map D.int)) (.lst (ys.map D.int))=some (.bl (xs == ys)):=by
 show ((if (xs.map D.int).length=(ys.map D.int).length then zck (deq 19) (xs.map D.int) (ys.map D.int) else some false) : Option Bool).map D.bl=_
 rw [List.length_map,List.length_map]
 by_cases h : xs.length=ys.length
 ·rw [if_pos h,zr6 xs ys h]
  rfl
 ·rw [if_neg h]
  have : (xs == ys)=false:=by
   cases q : xs == ys with
   | false=>rfl
   | true=>exact absurd (by rw [beq_iff_eq.mp q]) h
  rw [this]
  rfl
theorem zky {α : Type} {P:α -> Prop} {xs:List α} (h:∀ z ∈ xs,P z) (a b:Nat) : (∀ z ∈ (xs.drop a).take b,P z) /\ ((xs.drop a).take b).length <= xs.length:=by
 refine ⟨fun z hz=>h z (List.mem_of_mem_drop (List.mem_of_mem_take hz)),?_⟩
 rw [List.length_take,List.length_drop]
 omega
theorem zgf {α : Type} {P:α -> Prop} {xs ys:List α} (h:∀ z ∈ xs,P z) (h':∀ z ∈ ys,P z) : ∀ z ∈ xs ++ ys,P z:=fun z hz=>by
 rcases List.mem_append.mp hz with q | q
 ·exact h z q
 ·exact h' z q
theorem zl4 {α : Type} {P:α -> Prop} {x:α} (h:P x) : ∀ z ∈ [x],P z:=fun z hz=>by
 rw [List.mem_singleton.mp hz]
 exact h
theorem z4s (n:Nat) (l:Ln) (hl:LnN n l) (x:Int) : ∃ d,zrw [lD l,.int x]=some d /\ ∃ l' : Ln,d=lD l' /\ LnM n l':=by
 obtain ⟨zs,sts⟩:=l
 obtain ⟨⟨⟨hbr,hst,hsl⟩,hnd⟩,s0,s1⟩:=hl
 replace s0 : 0 < sts.length:=s0
 replace s1 : sts.length <= 40:=s1
 replace hst : ∀ z ∈ sts,zaz n z:=hst
 apply zg3
 unfold b_10
 show wp _ [.im (.tup [baD zs,.lst (sts.map stD)]),.im (.int x),.no,.no,.no,.no,.no] _
 apply zao
 refine zik rfl rfl ?_
 walk_at "nrm"
 apply zao
 refine zbs (zas rfl (zau rfl (zcy _ _)) (zdj (by omega))) ?_
 walk_at "nrm"
 obtain ⟨t,ht⟩ : ∃ t,x % (sts.length : Int)=t:=⟨_,rfl⟩
 have t0 : 0 <= t:=by rw [<- ht]; exact Int.emod_nonneg _ (by omega)
 have t1 : t < (sts.length : Int):=by rw [<- ht]; exact Int.emod_lt_of_pos _ (by omega)
 rw [ht]
 obtain ⟨⟨o,w⟩,hz,ez⟩:=zbz (f:=stD) (xs:=sts) (i:=t) t0 t1
 obtain ⟨ho,hw⟩:=hst (o,w) (List.mem_of_getElem? hz)
 apply zao
 refine zik (zal rfl rfl ez) rfl ?_
 walk_at "nrm"
 refine zij (fun ρ'=>∃ w' : Wy,ρ'=[.im (.tup [baD zs,.lst (sts.map stD)]),.im (.int x),.im (baD zs),.im (.lst (sts.map stD)),.im (.int t),.im (opD o),.im w'.toD] /\ w'.Ok n) ?_ ?_
 ·cases w with
  | grp gs =>
   refine za3 (b:=true) rfl (fun _=>?_) (fun q=>by cases q)
   have hc:=zky hw.1 (HT.sIx gs.length 0 (some 1)) (HT.sIx gs.length gs.length none - HT.sIx gs.length 0 (some 1))
   exact zbs (d:=(Wy.grp ((gs.drop (HT.sIx gs.length 0 (some 1))).take (HT.sIx gs.length gs.length none - HT.sIx gs.length 0 (some 1)))).toD) (zb8 (zae rfl (zae (zat (zdi (g:=D.int) (xs:=gs) (zal rfl rfl rfl) rfl rfl)) rfl))) (k_J ⟨_,rfl,hc.1,Nat.le_trans hc.2 hw.2⟩)
  | rul k =>
   refine za3 (b:=false) rfl (fun q=>by cases q) (fun _=>?_)
   exact zbs (d:=(Wy.rul (k + 1)).toD) (zb8 (zae (zal rfl rfl rfl) (zae (zas (zal rfl rfl rfl) rfl zhj) rfl))) (k_J ⟨_,rfl,Int.add_nonneg hw (by decide)⟩)
  | bar k =>
   refine za3 (b:=false) rfl (fun q=>by cases q) (fun _=>?_)
   exact zbs (d:=(Wy.bar (k + 1)).toD) (zb8 (zae (zal rfl rfl rfl) (zae (zas (zal rfl rfl rfl) rfl zhj) rfl))) (k_J ⟨_,rfl,Int.add_nonneg hw (by decide)⟩)
  | wld k =>
   refine za3 (b:=false) rfl (fun q=>by cases q) (fun _=>?_)
   exact zbs (d:=(Wy.wld (k + 1)).toD) (zb8 (zae (zal rfl rfl rfl) (zae (zas (zal rfl rfl rfl) rfl zhj) rfl))) (k_J ⟨_,rfl,Int.add_nonneg hw (by decide)⟩)
 ·rintro ρ' ⟨w',rfl,hw'⟩
  have hc:=zky hst (HT.sIx sts.length 0 none) (HT.sIx sts.length sts.length (some t) - HT.sIx sts.length 0 none)
  have hd:=zky hst (HT.sIx sts.length 0 (some (t + 1))) (HT.sIx sts.length sts.length none - HT.sIx sts.length 0 (some (t + 1)))
  refine zb4 (d:=lD (zs,((((sts.drop (HT.sIx sts.length 0 none)).take (HT.sIx sts.length sts.length (some t) - HT.sIx sts.length 0 none)) ++ [(o,w')]) ++ ((sts.drop (HT.sIx sts.length 0 (some (t + 1)))).take (HT.sIx sts.length sts.length none - HT.sIx sts.length 0 (some (t + 1))))))) (zb8 (zae rfl (zae (zat ?_) rfl))) (zbx ⟨_,rfl,⟨hbr,zgf (zgf hc.1 (zl4 ⟨ho,hw'⟩)) hd.1,?_⟩,hnd⟩)
  ·rw [List.map_append,List.map_append]
   refine zee (zat (zee (zat (zdi (g:=stD) (xs:=sts) rfl rfl rfl)) (zat (zae (zb8 (zae rfl (zae rfl rfl))) rfl)) ?_)) (zat (zdi (g:=stD) (xs:=sts) rfl rfl rfl)) ?_
   ·simp only [List.length_map,List.length_cons,List.length_nil]
    omega
   ·simp only [List.length_append,List.length_map,List.length_cons,List.length_nil]
    omega
  ·show (_ ++ _ ++ _ : List Stp).length <= 1000
   rw [List.length_append,List.length_append]
   show (_ + 1) + _ <= _
   omega
theorem z5h {s:List Int} {t:Int} (h:(s.filter fun x=>!(x == t))=s) : t ∉ s:=fun q=>by
 rw [<- h] at q
 have:=(List.mem_filter.mp q).2
 simp at this
theorem zxq (n:Nat) (n60:n <= 60) (ss:List (List Int)) (hs:∀ s ∈ ss,SeN n s) (hsz:ss.length <= 300) (ls:List Ln) (hl:∀ l ∈ ls,LnN n l) (l0:0 < ls.length) (l1:ls.length <= 900) (c:Int) :
  ∃ d,zrh [.lst (ss.map seD),.lst (ls.map lD),.int c,.int n]=some d /\ ∃ (ss':List (List Int)) (ls':List Ln),d=.tup [.lst (ss'.map seD),.lst (ls'.map lD)] /\ (∀ s ∈ ss',zd8 n s /\ s.Pairwise (· < ·)) /\ ss'.length <= 1000 /\ (∀ l ∈ ls',LnM n l) /\ ls'.length <= 3000:=by
 have hsok : ∀ s ∈ ss,zd8 n s /\ s.Pairwise (· < ·):=fun s h=>⟨(hs s h).1,(hs s h).2.1⟩
 have hlm : ∀ l ∈ ls,LnM n l:=fun l h=>(hl l h).1
 obtain ⟨d,em,xs,rfl,hxl,hx⟩:=zmh c 4 (by decide) (by decide)
 obtain ⟨a0,h0,e0⟩:=zbz (f:=D.int) (xs:=xs) (i:=0) (by decide) (by omega)
 obtain ⟨a1,h1,e1⟩:=zbz (f:=D.int) (xs:=xs) (i:=1) (by decide) (by omega)
 obtain ⟨a2,h2,e2⟩:=zbz (f:=D.int) (xs:=xs) (i:=2) (by decide) (by omega)
 obtain ⟨a3,h3,e3⟩:=zbz (f:=D.int) (xs:=xs) (i:=3) (by decide) (by omega)
 apply zg3
 unfold b_13
 show wp _ [.im (.lst (ss.map seD)),.im (.lst (ls.map lD)),.im (.int c),.im (.int n),.no,.no,.no,.no,.no] _
 apply zao
 refine zbs (zau (zae rfl (zae rfl rfl)) em) ?_
 walk_at "nrm"
 apply zao
 refine zbs (zas (zal rfl rfl e0) rfl (zdj (by decide))) ?_
 walk_at "nrm"
 apply zao
 refine zbs (zas (zal rfl rfl e1) (zau rfl (zcy _ _)) (zdj (by omega))) ?_
 walk_at "nrm"
 obtain ⟨t,ht⟩ : ∃ t,a1 % (ls.length : Int)=t:=⟨_,rfl⟩
 have t0 : 0 <= t:=by rw [<- ht]; exact Int.emod_nonneg _ (by omega)
 have t1 : t < (ls.length : Int):=by rw [<- ht]; exact Int.emod_lt_of_pos _ (by omega)
 rw [ht]
 obtain ⟨lt,hlt,elt⟩:=zbz (f:=lD) (xs:=ls) (i:=t) t0 t1
 have cut:=fun a b=>zky hlm a b
 apply zao
 refine za3 (zb0 (zas rfl rfl (zd5 _ _))) (fun _=>?_) (fun _=>zbp ?_)
 ·have hc:=cut (HT.sIx ls.length 0 none) (HT.sIx ls.length ls.length (some (-1)) - HT.sIx ls.length 0 none)
  exact zb4 (zb8 (zae rfl (zae (zat (zdi (g:=lD) (xs:=ls) rfl rfl rfl)) rfl))) (zbx ⟨ss,_,rfl,hsok,by omega,hc.1,by omega⟩)
 walk_at "nrm"
 apply zao
 refine za3 (zb0 (zas rfl rfl (zd5 _ _))) (fun _=>?_) (fun _=>zbp ?_)
 ·have hc:=cut (HT.sIx ls.length 0 none) (HT.sIx ls.length ls.length (some t) - HT.sIx ls.length 0 none)
  have hd:=cut (HT.sIx ls.length 0 (some (t + 1))) (HT.sIx ls.length ls.length none - HT.sIx ls.length 0 (some (t + 1)))
  refine zb4 (zb8 (zae rfl (zae (zat (zee (zat (zdi (g:=lD) (xs:=ls) rfl rfl rfl)) (zat (zdi (g:=lD) (xs:=ls) rfl rfl rfl)) ?_)) rfl))) (zbx ⟨ss,_,by rw [<- List.map_append],hsok,by omega,zgf hc.1 hd.1,by rw [List.length_append]; omega⟩)
  rw [List.length_map,List.length_map]
  omega
 walk_at "nrm"
 apply zao
 refine za3 (zb0 (zas rfl rfl (zd5 _ _))) (fun _=>?_) (fun _=>zbp ?_)
 ·have hc:=cut (HT.sIx ls.length 0 none) (HT.sIx ls.length ls.length (some (t + 1)) - HT.sIx ls.length 0 none)
  have hd:=cut (HT.sIx ls.length 0 (some t)) (HT.sIx ls.length ls.length none - HT.sIx ls.length 0 (some t))
  refine zb4 (zb8 (zae rfl (zae (zat (zee (zat (zdi (g:=lD) (xs:=ls) rfl rfl rfl)) (zat (zdi (g:=lD) (xs:=ls) rfl rfl rfl)) ?_)) rfl))) (zbx ⟨ss,_,by rw [<- List.map_append],hsok,by omega,zgf hc.1 hd.1,by rw [List.length_append]; omega⟩)
  rw [List.length_map,List.length_map]
  omega
 walk_at "nrm"
 apply zao
 refine za3 (zb0 (zas rfl rfl (zd5 _ _))) (fun _=>?_) (fun _=>zbp ?_)
 ·have hc:=cut (HT.sIx ls.length 0 (some t)) (HT.sIx ls.length ls.length none - HT.sIx ls.length 0 (some t))
  have hd:=cut (HT.sIx ls.length 0 none) (HT.sIx ls.length ls.length (some t) - HT.sIx ls.length 0 none)
  refine zb4 (zb8 (zae rfl (zae (zat (zee (zat (zdi (g:=lD) (xs:=ls) rfl rfl rfl)) (zat (zdi (g:=lD) (xs:=ls) rfl rfl rfl)) ?_)) rfl))) (zbx ⟨ss,_,by rw [<- List.map_append],hsok,by omega,zgf hc.1 hd.1,by rw [List.length_append]; omega⟩)
  rw [List.length_map,List.length_map]
  omega
 walk_at "nrm"
 apply zao
 refine za3 (zgy (zb0 (zas rfl rfl (zd5 _ _))) (zb0 (zas rfl (zat rfl) (zj8 _ _)))) (fun _=>?_) (fun _=>zbp ?_)
 ·have hc:=zky hsok (HT.sIx ss.length 0 (some 1)) (HT.sIx ss.length ss.length none - HT.sIx ss.length 0 (some 1))
  exact zb4 (zb8 (zae (zat (zdi (g:=seD) (xs:=ss) rfl rfl rfl)) (zae rfl rfl))) (zbx ⟨_,ls,rfl,hc.1,by omega,hlm,by omega⟩)
 walk_at "nrm"
 apply zao
 refine za3 (zgy (zb0 (zas rfl rfl (zd5 _ _))) (zgy (zb0 (zas rfl (zat rfl) (zj8 _ _))) (zb0 (zas rfl rfl zlb)))) (fun q=>?_) (fun _=>zbp ?_)
 ·rw [Bool.and_eq_true,Bool.and_eq_true] at q
  have hn0 : 0 < n:=by have:=of_decide_eq_true q.2.2; omega
  obtain ⟨u,hu⟩ : ∃ u,a2 % (n:Int)=u:=⟨_,rfl⟩
  have u0 : 0 <= u:=by rw [<- hu]; exact Int.emod_nonneg _ (by omega)
  have u1 : u < (n:Int):=by rw [<- hu]; exact Int.emod_lt_of_pos _ (by omega)
  apply zao
  refine zbs (zas (zal rfl rfl e2) rfl (zdj (by omega))) ?_
  walk_at "nrm"
  rw [hu]
  rcases List.eq_nil_or_concat ss with rfl | ⟨ini,s,rfl⟩
  ·cases q.2.1
  rw [List.concat_eq_append] at *
  obtain ⟨hsk,hsn,hs60⟩:=hs s (by simp)
  have eL : atI ((ini ++ [s]).map seD) (-1)=some (seD s):=by rw [List.map_append]; exact zph _ _
  have hfl:=List.length_filter_le (fun x=>!(x == u)) s
  apply zao
  refine zbs (d:=.lst ((s.filter fun x=>!(x == u)).map D.int)) (zat (zd2 s D.int (fun x=>!(x == u)) D.int (zcp (zal rfl rfl eL) rfl) (by omega) fun x _=>zdv rfl (zb0 (zas rfl rfl (zwr _ _))) fun _=>rfl)) ?_
  walk_at "nrm"
  refine zij (fun ρ'=>∃ g : List Int,ρ'=[.im (.lst ((ini ++ [s]).map seD)),.im (.lst (ls.map lD)),.im (.int c),.im (.int n),.im (.lst (xs.map D.int)),.im (.int (a0 % 14)),.im (.int t),.im (.int u),.im (.lst (g.map D.int))] /\ zd8 n g /\ g.Pairwise (· < ·)) ?_ ?_
  ·refine za3 (b:=(s.filter fun x=>!(x == u)) == s) (zb0 (zas rfl (zal rfl rfl eL) (z6z _ _))) (fun z=>?_) (fun _=>zbp (k_J ⟨_,rfl,⟨fun x hx=>hsk.1 x (List.mem_filter.mp hx).1,by omega⟩,List.Pairwise.filter _ hsn⟩))
   have z:=beq_iff_eq.mp z
   have hus:=z5h z
   rw [z]
   have hnd : (s ++ [u]).Nodup:=List.nodup_append.mpr ⟨hsn.imp Int.ne_of_lt,List.pairwise_singleton _ _,fun p hp q hq e=>by
    have hq : q=u:=by simpa using hq
    subst hq e
    exact hus hp⟩
   refine zbs (d:=.lst ((zcr (s ++ [u])).map D.int)) (zat (z0z (zat ?_) (by rw [List.length_append]; show _ + 1 < 64; omega) hnd)) (k_J ⟨_,rfl,⟨fun x hx=>?_,?_⟩,zn3 _⟩)
   ·refine Eq.trans ?_ (congrArg some (List.map_append (f:=D.int) (l₁:=s) (l₂:=[u])).symm)
    refine zee rfl (zat (zae rfl rfl)) ?_
    rw [List.length_map]
    show _ + 1 <= _
    omega
   ·rcases List.mem_append.mp ((zmi x _).mp hx) with h | h
    ·exact hsk.1 x h
    ·have : x=u:=by simpa using h
     subst this
     exact ⟨u0,u1⟩
   ·have:=zty (s ++ [u])
    rw [List.length_append] at this
    replace this : (zcr (s ++ [u])).length <= s.length + 1:=this
    omega
  ·rintro ρ' ⟨g,rfl,hg⟩
   have hc:=zky hsok (HT.sIx (ini ++ [s]).length 0 none) (HT.sIx (ini ++ [s]).length (ini ++ [s]).length (some (-1)) - HT.sIx (ini ++ [s]).length 0 none)
   refine zb4 (d:=.tup [.lst (((((ini ++ [s]).drop (HT.sIx (ini ++ [s]).length 0 none)).take (HT.sIx (ini ++ [s]).length (ini ++ [s]).length (some (-1)) - HT.sIx (ini ++ [s]).length 0 none)) ++ [g]).map seD),.lst (ls.map lD)]) (zb8 (zae (zat ?_) (zae rfl rfl))) (zbx ⟨_,ls,rfl,zgf hc.1 (zl4 hg),by rw [List.length_append (as:=List.take _ _)]; show _ + 1 <= _; omega,hlm,by omega⟩)
   rw [List.map_append (l₁:=List.take _ _)]
   refine zee (zat (zdi (g:=seD) (xs:=ini ++ [s]) rfl rfl rfl)) (zat (zae rfl rfl)) ?_
   rw [List.length_map]
   show _ + 1 <= _
   omega
 walk_at "nrm"
 apply zao
 refine za3 (zmv (zb0 (zas rfl rfl (zd5 _ _))) (zb0 (zas rfl rfl (zd5 _ _)))) (fun _=>?_) (fun _=>zbp ?_)
 ·have hc:=cut (HT.sIx ls.length 0 none) (HT.sIx ls.length ls.length (some t) - HT.sIx ls.length 0 none)
  have hd:=cut (HT.sIx ls.length 0 (some (t + 1))) (HT.sIx ls.length ls.length none - HT.sIx ls.length 0 (some (t + 1)))
  obtain ⟨d,eo,l',rfl,hl'⟩:=z4s n lt (hl lt (List.mem_of_getElem? hlt)) a3
  refine zb4 (d:=.tup [.lst (ss.map seD),.lst (((((ls.drop (HT.sIx ls.length 0 none)).take (HT.sIx ls.length ls.length (some t) - HT.sIx ls.length 0 none)) ++ [l']) ++ ((ls.drop (HT.sIx ls.length 0 (some (t + 1)))).take (HT.sIx ls.length ls.length none - HT.sIx ls.length 0 (some (t + 1))))).map lD)]) (zb8 (zae rfl (zae (zat ?_) rfl))) (zbx ⟨ss,_,rfl,hsok,by omega,zgf (zgf hc.1 (zl4 hl')) hd.1,by rw [List.length_append,List.length_append]; show (_ + 1) + _ <= _; omega⟩)
  rw [List.map_append,List.map_append]
  refine zee (zat (zee (zat (zdi (g:=lD) (xs:=ls) rfl rfl rfl)) (zat (zae (zau (zae (zal rfl rfl elt) (zae (zal rfl rfl e3) rfl)) eo) rfl)) ?_)) (zat (zdi (g:=lD) (xs:=ls) rfl rfl rfl)) ?_
  ·simp only [List.length_map,List.length_cons,List.length_nil]
   omega
  ·simp only [List.length_append,List.length_map,List.length_cons,List.length_nil]
   omega
 walk_at "nrm"
 apply zao
 refine za3 (zb0 (zas rfl rfl (zd5 _ _))) (fun _=>?_) (fun _=>zbp ?_)
 ·have m0 : 0 <= a2 % 2:=Int.emod_nonneg _ (by decide)
  have m1 : a2 % 2 < 2:=Int.emod_lt_of_pos _ (by decide)
  obtain ⟨v,l',hv,hvl,hvm⟩ : ∃ (v:Int) (l':Ln),atI [D.int (-1),.int 0] (a2 % 2)=some (.int v) /\ atI (ls.map lD) v=some (lD l') /\ l' ∈ ls:=by
   rcases (show a2 % 2=0 \/ a2 % 2=1 by omega) with h | h
   ·rw [h]
    rcases List.eq_nil_or_concat ls with rfl | ⟨ini,l',rfl⟩
    ·cases l0
    ·rw [List.concat_eq_append]
     exact ⟨-1,l',rfl,by rw [List.map_append]; exact zph _ _,by simp⟩
   ·rw [h]
    obtain ⟨l',hl',el'⟩:=zbz (f:=lD) (xs:=ls) (i:=0) (by decide) (by omega)
    exact ⟨0,l',rfl,el',List.mem_of_getElem? hl'⟩
  refine zb4 (d:=.tup [.lst (ss.map seD),.lst ((ls ++ [l']).map lD)]) (zb8 (zae rfl (zae (zat ?_) rfl))) (zbx ⟨ss,_,rfl,hsok,by omega,zgf hlm (zl4 (hlm l' hvm)),by rw [List.length_append]; show _ + 1 <= _; omega⟩)
  rw [List.map_append]
  refine zee rfl (zat (zae (zal rfl (zal (zae rfl (zae rfl rfl)) (zas (zal rfl rfl e2) rfl (zdj (by decide))) hv) hvl) rfl)) ?_
  rw [List.length_map]
  show _ + 1 <= _
  omega
 walk_at "nrm"
 apply zao
 refine za3 (zb0 (zas rfl rfl (zd5 _ _))) (fun _=>?_) (fun _=>zbp ?_)
 ·have hc:=cut (HT.sIx ls.length 0 none) (HT.sIx ls.length ls.length (some 0) - HT.sIx ls.length 0 none)
  exact zb4 (zb8 (zae rfl (zae (zat (zdi (g:=lD) (xs:=ls) rfl rfl rfl)) rfl))) (zbx ⟨ss,_,rfl,hsok,by omega,hc.1,by omega⟩)
 walk_at "nrm"
 exact zb4 (zb8 (zae rfl (zae rfl rfl))) (zbx ⟨ss,ls,rfl,hsok,by omega,hlm,by omega⟩)
theorem zwb (k:Nat) : ∀ (xs ys:List Int),xs.length=ys.length -> zck (deq (k + 1)) (xs.map D.int) (ys.map D.int)=some (xs == ys)
 | [],[],_=>rfl
 | [],_ :: _,h=>by cases h
 | _ :: _,[],h=>by cases h
 | e :: es,b :: bs,h=>by
  have ih:=zwb k es bs (by simpa using h)
  show ((deq (k + 1) (.int e) (.int b)).bind fun x=>(zck (deq (k + 1)) (es.map D.int) (bs.map D.int)).map fun r=>x && r)=_
  rw [show deq (k + 1) (.int e) (.int b)=some (e == b) from rfl,ih]
  rfl
theorem zyd (xs ys:List Int) : deq 19 (seD xs) (seD ys)=some (xs == ys):=by
 show ((if (xs.map D.int).length=(ys.map D.int).length then zck (deq 18) (xs.map D.int) (ys.map D.int) else some false) : Option Bool)=_
 rw [List.length_map,List.length_map]
 by_cases h : xs.length=ys.length
 ·rw [if_pos h,zwb 17 xs ys h]
 ·rw [if_neg h]
  cases q : xs == ys with
  | false=>rfl
  | true=>exact absurd (by rw [beq_iff_eq.mp q]) h
theorem zvs (s:List Int) : ∀ ss : List (List Int),zfu (seD s) (ss.map seD)=some (ss.any (· == s))
 | []=>rfl
 | t :: ss=>by
  have ih:=zvs s ss
  show ((deq 19 (seD t) (seD s)).bind fun b=>(zfu (seD s) (ss.map seD)).map fun r=>b || r)=_
  rw [zyd,ih]
  rfl
theorem z37 (s:List Int) (ss:List (List Int)) : zh3 (seD s) (.lst (ss.map seD))=some (.bl (!(ss.any (· == s)))):=by
 unfold zh3
 show ((zfu (seD s) (ss.map seD)).map fun b=>D.bl (!b))=_
 rw [zvs]
 rfl
theorem ztp : ∀ n : Nat,cnt (List.replicate n none)=n
 | 0=>rfl
 | n + 1=>by
  have:=ztp n
  unfold cnt at this ⊢
  rw [List.replicate_succ]
  show ((none:Option Bool) :: _).length=_
  rw [List.length_cons,this]
theorem zsa {α β : Type} (f:α -> β) : ∀ (xs:List α) (k:Nat),(xs.map f).eraseIdx k=(xs.eraseIdx k).map f
 | [],_=>rfl
 | _ :: _,0=>rfl
 | x :: xs,k + 1=>by
  show f x :: (xs.map f).eraseIdx k=f x :: (xs.eraseIdx k).map f
  rw [zsa f xs k]
theorem z0g {α : Type} {P:α -> Prop} {xs:List α} (h:∀ z ∈ xs,P z) (k:Nat) : ∀ z ∈ xs.eraseIdx k,P z:=fun z hz=>h z (List.mem_of_mem_eraseIdx hz)
theorem z8f {ws:List Bool} {s:List Int} (hs:zd8 ws.length s) (hr:s.Pairwise (· < ·)) (h:wiS ws.length s=ws) : s=((List.range ws.length).filter fun i=>ws.getD i false).map fun (i:Nat)=>(i:Int):=by
 refine zp6 _ _ hr (zs2 _ _) fun x=>?_
 have key : ∀ i : Nat,i < ws.length -> ws.getD i false=inS s i:=fun i hi=>by
  have e : (wiS ws.length s).getD i false=inS s i:=by
   unfold wiS
   rw [List.getD_eq_getElem?_getD,List.getElem?_map,List.getElem?_range hi]
   rfl
  rw [h] at e
  exact e
 constructor
 ·intro hx
  have hk:=hs.1 x hx
  refine List.mem_map.mpr ⟨x.toNat,List.mem_filter.mpr ⟨List.mem_range.mpr (by omega),?_⟩,by omega⟩
  rw [key _ (by omega)]
  exact List.any_eq_true.mpr ⟨x,hx,beq_iff_eq.mpr (by omega)⟩
 ·intro hx
  obtain ⟨i,hi,rfl⟩:=List.mem_map.mp hx
  obtain ⟨h1,h2⟩:=List.mem_filter.mp hi
  rw [key _ (List.mem_range.mp h1)] at h2
  obtain ⟨y,hy,e⟩:=List.any_eq_true.mp h2
  have:=beq_iff_eq.mp e
  rw [<- this]
  exact hy
theorem z2i (ns:List Int) (hns:ns.length <= 63) : m_1 [.kl (ns.map D.int)]=some (.bl true):=by
 apply zer
 unfold b_1
 show wp _ [.im (.kl (ns.map D.int)),.no,.no,.no,.no,.no,.no,.no,.no,.no,.no,.no] _
 obtain ⟨c0,k0⟩:=zvt ns 0 (by decide)
 obtain ⟨c1,k1⟩:=zvt ns 1 (by decide)
 obtain ⟨d,em,hs,rfl,hl,hx⟩:=zmh c0 6 (by decide) (by decide)
 obtain ⟨a0,h0,e0⟩:=zbz (f:=D.int) (xs:=hs) (i:=0) (by decide) (by omega)
 obtain ⟨a1,h1,e1⟩:=zbz (f:=D.int) (xs:=hs) (i:=1) (by decide) (by omega)
 obtain ⟨a2,h2,e2⟩:=zbz (f:=D.int) (xs:=hs) (i:=2) (by decide) (by omega)
 obtain ⟨a3,h3,e3⟩:=zbz (f:=D.int) (xs:=hs) (i:=3) (by decide) (by omega)
 obtain ⟨a4,h4,e4⟩:=zbz (f:=D.int) (xs:=hs) (i:=4) (by decide) (by omega)
 obtain ⟨a5,h5,e5⟩:=zbz (f:=D.int) (xs:=hs) (i:=5) (by decide) (by omega)
 apply zao
 refine zbs (zau (zae (zau (zae rfl (zae rfl rfl)) k0) (zae rfl rfl)) em) ?_
 walk_at "nrm"
 apply zao
 refine zbs (zas (zas (zas (zal rfl rfl e0) rfl (zdj (by decide))) rfl zhj) rfl (zll ⟨by decide,by decide⟩)) ?_
 walk_at "nrm"
 have b0 : 0 <= a0 % 13:=Int.emod_nonneg _ (by decide)
 have b1 : a0 % 13 < 13:=Int.emod_lt_of_pos _ (by decide)
 obtain ⟨n,hn⟩ : ∃ n : Nat,(a0 % 13 + 2) / 3=(n:Int):=⟨((a0 % 13 + 2) / 3).toNat,by omega⟩
 rw [hn]
 have n7 : n <= 7:=by omega
 clear hn
 obtain ⟨rs0,er0,hr0,hl0⟩:=z2r (a1 % 5) (n:Int) (Int.emod_nonneg _ (by decide)) (Int.emod_lt_of_pos _ (by decide)) (by omega) (by omega)
 apply zao
 refine zfc (z5s (zae (zas (zal rfl rfl e1) rfl (zdj (by decide))) (zae rfl rfl)) er0) ?_
 walk_at "nrm"
 have hcl:=List.length_take_le' (HT.sIx ns.length ns.length (some 22) - HT.sIx ns.length 0 (some 2)) (ns.drop (HT.sIx ns.length 0 (some 2)))
 rw [List.length_drop] at hcl
 generalize hcs : (ns.drop (HT.sIx ns.length 0 (some 2))).take (HT.sIx ns.length ns.length (some 22) - HT.sIx ns.length 0 (some 2))=cs at hcl
 apply zao
 refine zes cs D.int (fun pre ρ=>∃ (rs:List Rul) (v4:Sl),ρ=[.im (.kl (ns.map D.int)),.im (.lst (hs.map D.int)),.im (.int n),.own (rs.map Rul.toD),v4,.no,.no,.no,.no,.no,.no,.no] /\ (∀ r ∈ rs,r.Ok n /\ r.ps.length <= 3) /\ rs.length <= 60 + pre.length) (by rw [<- hcs]; exact zcp (zat (zrz rfl rfl rfl)) rfl) ⟨rs0,.no,rfl,hr0,by show rs0.length <= 60 + 0; omega⟩ ?_ ?_
 ·rintro pre c post ρ ex ⟨rs,v4,rfl,hrs,hlr⟩
  have hpl : pre.length < cs.length:=by rw [ex]; simp
  obtain ⟨d,er,r,rfl,hr,hr3⟩:=zy4 (a2 % 2 == 0) c (n:Int) (by omega) (by omega)
  refine ⟨_,rfl,?_⟩
  walk_at "nrm"
  refine zgx (zau (zae rfl (zae rfl (zae (zas (zas (zal rfl rfl e2) rfl (zdj (by decide))) rfl (zd5 _ _)) rfl))) er) rfl (by rw [List.length_map]; omega) ?_
  refine ⟨rs ++ [r],.im (.int c),by rw [List.map_append]; rfl,fun q hq=>?_,by rw [List.length_append,List.length_append]; show _ + 1 <= 60 + (_ + 1); omega⟩
  rcases List.mem_append.mp hq with h | h
  ·exact hrs q h
  ·have : q=r:=by simpa using h
   subst this
   exact ⟨hr,hr3⟩
 rintro ρ ⟨rs,v4,rfl,hrs,hlr⟩
 walk_at "nrm"
 have hok : ∀ r ∈ rs,r.Ok n:=fun r hr=>(hrs r hr).1
 have hp : ∀ r ∈ rs,r.ps.length <= 1000:=fun r hr=>by have:=(hrs r hr).2; omega
 have hrsl : rs.length <= 1000:=by omega
 have ec:=z65 rs hrsl hp
 obtain ⟨d,est,st0,rfl,hst0,hstl,hstd⟩:=zyo rs n n7 hok hrsl
 apply zao
 refine zg6 rfl ?_
 refine zbs (zau (zae rfl (zae rfl rfl)) est) ?_
 walk_at "nrm"
 apply zao
 refine zfc (d:=st0.map seD) rfl ?_
 walk_at "nrm"
 refine zij (fun ρ'=>∃ ss : List (List Int),ρ'=[.im (.kl (ns.map D.int)),.im (.lst (hs.map D.int)),.im (.int n),.im (.lst (rs.map Rul.toD)),v4,.im (.lst (st0.map seD)),.own (ss.map seD),.no,.no,.no,.no,.no] /\ (∀ s ∈ ss,SeN n s) /\ ss.length <= 200) ?_ ?_
 ·refine za3 (zgy (zb0 (zas (zas (zal rfl rfl e3) rfl (zdj (by decide))) rfl zlb)) (zb0 (zas rfl (zat rfl) (zj8 _ _)))) (fun q=>?_) (fun _=>zbp (k_J ⟨st0,rfl,hst0,hstl⟩))
  have hs0 : 0 < st0.length:=by
   rw [Bool.and_eq_true] at q
   cases st0 with
   | nil=>cases q.2
   | cons a b=>rw [List.length_cons]; omega
  have j0:=Int.emod_nonneg a4 (show (st0.length : Int) ≠ 0 by omega)
  have j1:=Int.emod_lt_of_pos a4 (show 0 < (st0.length : Int) by omega)
  refine z1e (k:=a4 % (st0.length : Int)) (xs:=st0.map seD) (zas (zal rfl rfl e4) (zau rfl (zcy _ _)) (zdj (by omega))) rfl j0 (by rw [List.length_map]; exact j1) (by omega) (k_J ⟨st0.eraseIdx (a4 % (st0.length : Int)).toNat,by rw [zsa]; rfl,z0g hst0 _,?_⟩)
  have:=List.length_eraseIdx_le st0 (a4 % (st0.length : Int)).toNat
  omega
 rintro ρ' ⟨ss1,rfl,hss1,hsl1⟩
 refine zij (fun ρ'=>∃ ss : List (List Int),ρ'=[.im (.kl (ns.map D.int)),.im (.lst (hs.map D.int)),.im (.int n),.im (.lst (rs.map Rul.toD)),v4,.im (.lst (st0.map seD)),.own (ss.map seD),.no,.no,.no,.no,.no] /\ (∀ s ∈ ss,SeN n s) /\ ss.length <= 300) ?_ ?_
 ·refine za3 (zb0 (zas (zas (zas (zal rfl rfl e3) rfl (zll ⟨by decide,by decide⟩)) rfl (zdj (by decide))) rfl (zd5 _ _))) (fun _=>?_) (fun _=>zbp (k_J ⟨ss1,rfl,hss1,by omega⟩))
  refine zgx (d:=seD (((List.range n).filter fun (i:Nat)=>a5 / ((i:Int) + 1) % 2 == 0).map fun (i:Nat)=>(i:Int))) (zat ?_) rfl (by rw [List.length_map]; omega) (k_J ⟨ss1 ++ [((List.range n).filter fun (i:Nat)=>a5 / ((i:Int) + 1) % 2 == 0).map fun (i:Nat)=>(i:Int)],by rw [List.map_append]; rfl,zgf hss1 (zl4 (zul n n (Nat.le_refl n) (by omega) _)),by rw [List.length_append]; show _ + 1 <= _; omega⟩)
  refine Eq.trans ?_ (congrArg some List.map_map.symm)
  refine zd2 (List.range n) (fun (i:Nat)=>D.int i) (fun (i:Nat)=>a5 / ((i:Int) + 1) % 2 == 0) (fun (i:Nat)=>D.int i) (zfa (n:=(n:Int)) (zae rfl rfl) (by omega) (by omega)) (by rw [List.length_range]; omega) fun i hi=>zdv rfl (zb0 (zas (zas (zas (zal rfl rfl e5) (zas rfl rfl zhj) (zll ?_)) rfl (zdj (by decide))) rfl (zd5 _ _))) fun _=>rfl
  have:=List.mem_range.mp hi
  exact ⟨by omega,by omega⟩
 rintro ρ' ⟨ss,rfl,hss,hsl⟩
 have hsok : ∀ s ∈ ss,zd8 n s:=fun s h=>(hss s h).1
 apply zao
 refine zfc rfl ?_
 walk_at "nrm"
 obtain ⟨new,hbo,hnew,hn0,hn9⟩:=zqr (rs:=rs) (ss:=ss) n (by omega) hok hrsl hsok (by omega) 9 (List.replicate n none) [] [] c1 List.length_replicate (by rw [ztp]; omega) List.nodup_nil (fun z hz=>(by cases hz)) (by show 0 + 9 <= 50; decide) (fun l hl=>(by cases hl)) (by show 0 + 2 ^ 9 <= 900; decide)
 apply zao
 refine zg6 rfl (zg6 rfl ?_)
 refine zou (z11 rfl (zei rfl (zei rfl (zei (d:=.lst ((List.replicate n none).map shD)) (zat ?_) (zei (d:=baD []) (zat rfl) (zm8 (zae (zau (zae rfl (zae rfl rfl)) k1) rfl)))))) (ys:=new.map lD) (d:=.non) fun l=>hbo l) ?_
 ·rw [<- zsf]
  exact zct (List.range n) (fun (i:Nat)=>D.int i) (fun _=>D.non) (zfa (n:=(n:Int)) (zae rfl rfl) (by omega) (by omega)) (by rw [List.length_range]; omega) fun i _=>zcn rfl rfl rfl
 walk_at "nrm"
 have hcl2:=List.length_take_le' (HT.sIx ns.length ns.length (some 26) - HT.sIx ns.length 0 (some 2)) (ns.drop (HT.sIx ns.length 0 (some 2)))
 rw [List.length_drop] at hcl2
 generalize hcs2 : (ns.drop (HT.sIx ns.length 0 (some 2))).take (HT.sIx ns.length ns.length (some 26) - HT.sIx ns.length 0 (some 2))=cs2 at hcl2
 have h29 : 2 ^ 9=512:=by decide
 apply zao
 refine zes (c0 :: cs2) D.int (fun _ ρ=>∃ (v4 v7 v8 v9 v10 v11:Sl),ρ=[.im (.kl (ns.map D.int)),.im (.lst (hs.map D.int)),.im (.int n),.im (.lst (rs.map Rul.toD)),v4,.im (.lst (st0.map seD)),.im (.lst (ss.map seD)),v7,v8,v9,v10,v11] /\ (v7=.own (new.map lD) \/ v7=.im (.lst (new.map lD)))) ?_ ⟨_,_,_,_,_,_,rfl,.inl rfl⟩ ?_ ?_
 ·refine zcp (d:=.lst ((c0 :: cs2).map D.int)) (zat ?_) rfl
  show zcz _ _ _=some ([D.int c0] ++ cs2.map D.int)
  refine zee ?_ (zat ?_) ?_
  ·exact zat (zae (zau (zae rfl (zae rfl rfl)) k0) rfl)
  ·rw [<- hcs2]
   exact zrz rfl rfl rfl
  ·rw [List.length_map]
   show 1 + cs2.length <= _
   omega
 ·rintro pre c post ρ ex ⟨v4,v7,v8,v9,v10,v11,rfl,hv7⟩
  obtain ⟨d,es,ss',ls',rfl,hss',hsl',hls',hll'⟩:=zxq n (by omega) ss hss hsl new hnew hn0 (by omega) c
  have er:=z72 (rs:=rs) (ss:=ss') n (by omega) hok hrsl (fun s h=>(hss' s h).1) ls' hls' hll'
  refine ⟨_,rfl,?_⟩
  walk_at "nrm"
  have hf7 : zm4 7 [.im (.kl (ns.map D.int)),.im (.lst (hs.map D.int)),.im (.int n),.im (.lst (rs.map Rul.toD)),.im (.int c),.im (.lst (st0.map seD)),.im (.lst (ss.map seD)),v7,v8,v9,v10,v11]=[.im (.kl (ns.map D.int)),.im (.lst (hs.map D.int)),.im (.int n),.im (.lst (rs.map Rul.toD)),.im (.int c),.im (.lst (st0.map seD)),.im (.lst (ss.map seD)),.im (.lst (new.map lD)),v8,v9,v10,v11]:=by
   rcases hv7 with rfl | rfl <;> rfl
  apply zao
  refine zg6 hf7 (zg6 rfl ?_)
  refine zik (zau (zae rfl (zae rfl (zae rfl (zae rfl rfl)))) es) rfl ?_
  walk_at "nrm"
  apply zao
  refine zbs (d:=.lst (ls'.map lD)) (zat (zct ls' lD lD (zcp rfl rfl) (by omega) fun l hl'=>?_)) ?_
  ·have ea:=zzd l.2 (hls' l hl').1.2.2
   exact zcn rfl rfl (zb8 (zae (zat rfl) (zae (zau (zae rfl rfl) ea) rfl)))
  walk_at "nrm"
  apply zao
  refine zg6 rfl ?_
  refine zbs (zau (zae (zb8 (zae rfl (zae (zau rfl ec) rfl))) (zae (zat (zct ss' seD seD (zcp rfl rfl) (by omega) fun x _=>zcn rfl rfl (zat rfl))) (zae rfl rfl))) er) ?_
  walk_at "nrm"
  apply zao
  refine za3 (b:=false) (zg8 (b:=true) rfl) (fun z=>by cases z) (fun _=>zbp ?_)
  walk_at "nrm"
  have eany : zci (zap zep (zab (zak (za6 1 [8] (zbh (zaa 5)) (zar 0) (fun _=>some true) (m2 zh3 (zaa 0) (zaa 1)))) (fun _=>some []))) [.im (.kl (ns.map D.int)),.im (.lst (hs.map D.int)),.im (.int n),.im (.lst (rs.map Rul.toD)),.im (.int c),.im (.lst (st0.map seD)),.im (.lst (ss.map seD)),.im (.lst (new.map lD)),.im (.lst (ss'.map seD)),.im (.lst (ls'.map lD)),.im (.lst (ls'.map lD)),.im (.bl (zg2 rs ss' n ls'))]=some (st0.any fun s=>!(ss'.any (· == s))) :=
   zc9 (zau (zae (zat (zct st0 seD (fun s=>D.bl (!(ss'.any (· == s)))) (zcp rfl rfl) (by omega) fun s _=>zcn rfl rfl (zas rfl rfl (z37 s ss')))) rfl) (zh7 _ _)) rfl
  have hfin : (zg2 rs ss' n ls' && st0.any fun s=>!(ss'.any (· == s)))=false:=by
   cases hq : zg2 rs ss' n ls' with
   | false=>rfl
   | true =>
    rw [Bool.true_and]
    cases ha : (st0.any fun s=>!(ss'.any (· == s))) with
    | false=>rfl
    | true =>
     obtain ⟨s,hs1,hs2⟩:=List.any_eq_true.mp ha
     obtain ⟨ws,hw,hst,rfl⟩:=hstd s hs1
     have hS:=z3v rs n (by omega) hok hrsl ws hw hst
     subst hw
     obtain ⟨t,ht,et⟩:=z8q hok hS ls' hls' hq
     have:=z8f (hss' t ht).1 (hss' t ht).2 et
     rw [<- this] at hs2
     have ht2 : (ss'.any fun x=>x == t)=true:=List.any_eq_true.mpr ⟨t,ht,beq_iff_eq.mpr rfl⟩
     rw [ht2] at hs2
     cases hs2
  refine za3 (b:=false) (by rw [<- hfin]; exact zgy (zc9 rfl rfl) eany) (fun z=>by cases z) (fun _=>zbp ?_)
  exact ⟨_,_,_,_,_,_,rfl,.inr rfl⟩
 ·rintro ρ ⟨v4,v7,v8,v9,v10,v11,rfl,_⟩
  exact zb4 rfl (zbx rfl)
section
variable {P:Program} {w:World} {K:PySem.W.Frag} {mg:Str -> Option Value} {base:Heap}
noncomputable def sp_law (K:PySem.W.Frag) : Sp:=fun vs H Q _=>∃ (a:Addr) (ns:List Int),vs=[.ref a] /\ SqL K H a (ns.map V.int) /\ ns.length <= 63 /\ ∀ H',Q (.bl true) H'
theorem sp_law_of {K:PySem.W.Frag} {H:Hp} {a:Addr} {ns:List Int} {E:XK} (hl:ns.length <= 63) (hS:SqL K H a (ns.map V.int)) : sp_law K [.ref a] H (fun v _=>v=.bl true) E:=⟨a,ns,rfl,hS,hl,fun _=>rfl⟩
theorem law_ok {a:Wa} (W:Wd K mg a) : zaw P w K mg base CX0 15 a.f_1 a.fd_1 ["_law_script"] (sp_law K):=(zzx W).imp fun vs H Q E ⟨a,ns,ev,hS,hl,k⟩ =>
 ⟨H,[.kl (ns.map D.int)],.bl true,za4.refl _,⟨.ref a,[],ev,⟨a,_,rfl,hS,zaq.ints ns⟩,rfl⟩,rfl,z2i ns hl,fun v Hf' H' x r=>by rw [show v=V.bl true from r]; exact k H'⟩
end
section
variable {K:PySem.W.Frag} {mg:Str -> Option Value}
theorem zkc {P:List Value -> Prop} (h:P []) : ∀ us : List Value,us.length=0 -> P us:=fun us e=>by
 rw [List.eq_nil_of_length_eq_zero e]
 exact h
theorem zdh {n:Nat} {P:List Value -> Prop} (h:∀ a (us:List Value),us.length=n -> P (a :: us)) : ∀ us : List Value,us.length=n + 1 -> P us:=fun us e=>by
 cases us with
 | nil=>cases e
 | cons a us=>exact h a us (Nat.succ.inj e)
theorem zkr {P:List Value -> Prop} (h:∀ a0 : Value,P [a0]) : ∀ us : List Value,us.length=1 -> P us:=zdh (P:=fun us=>P (us)) fun a0=>zkc (h a0)
theorem zcw {P:List Value -> Prop} (h:∀ a0 a1 : Value,P [a0,a1]) : ∀ us : List Value,us.length=2 -> P us:=zdh (P:=fun us=>P (us)) fun a0=>zdh (P:=fun us=>P (a0 :: us)) fun a1=>zkc (h a0 a1)
theorem zef {P:List Value -> Prop} (h:∀ a0 a1 a2 : Value,P [a0,a1,a2]) : ∀ us : List Value,us.length=3 -> P us:=zdh (P:=fun us=>P (us)) fun a0=>zdh (P:=fun us=>P (a0 :: us)) fun a1=>zdh (P:=fun us=>P (a0 :: a1 :: us)) fun a2=>zkc (h a0 a1 a2)
theorem zq4 {P:List Value -> Prop} (h:∀ a0 a1 a2 a3 : Value,P [a0,a1,a2,a3]) : ∀ us : List Value,us.length=4 -> P us:=zdh (P:=fun us=>P (us)) fun a0=>zdh (P:=fun us=>P (a0 :: us)) fun a1=>zdh (P:=fun us=>P (a0 :: a1 :: us)) fun a2=>zdh (P:=fun us=>P (a0 :: a1 :: a2 :: us)) fun a3=>zkc (h a0 a1 a2 a3)
theorem zlz {P:List Value -> Prop} (h:∀ a0 a1 a2 a3 a4 : Value,P [a0,a1,a2,a3,a4]) : ∀ us : List Value,us.length=5 -> P us:=zdh (P:=fun us=>P (us)) fun a0=>zdh (P:=fun us=>P (a0 :: us)) fun a1=>zdh (P:=fun us=>P (a0 :: a1 :: us)) fun a2=>zdh (P:=fun us=>P (a0 :: a1 :: a2 :: us)) fun a3=>zdh (P:=fun us=>P (a0 :: a1 :: a2 :: a3 :: us)) fun a4=>zkc (h a0 a1 a2 a3 a4)
theorem zyf {P:List Value -> Prop} (h:∀ a0 a1 a2 a3 a4 a5 : Value,P [a0,a1,a2,a3,a4,a5]) : ∀ us : List Value,us.length=6 -> P us:=zdh (P:=fun us=>P (us)) fun a0=>zdh (P:=fun us=>P (a0 :: us)) fun a1=>zdh (P:=fun us=>P (a0 :: a1 :: us)) fun a2=>zdh (P:=fun us=>P (a0 :: a1 :: a2 :: us)) fun a3=>zdh (P:=fun us=>P (a0 :: a1 :: a2 :: a3 :: us)) fun a4=>zdh (P:=fun us=>P (a0 :: a1 :: a2 :: a3 :: a4 :: us)) fun a5=>zkc (h a0 a1 a2 a3 a4 a5)
theorem all_mk {l:PySem.W.OpenLaw} {w:World} {h:Heap} {C_In:Addr} {C_Out:Addr} {C_Least:Addr} {C_Most:Addr} {f_6:Addr} {od_6 an_6:Option Addr} {sl_6:Array (Option Value)} {oc_6 kV_6 dc_6 pm_6 cd_6 ct_6:Value} {f_44:Addr} {od_44 an_44:Option Addr} {sl_44:Array (Option Value)} {oc_44 kV_44 dc_44 pm_44 cd_44 ct_44:Value} {f_26:Addr} {od_26 an_26:Option Addr} {sl_26:Array (Option Value)} {oc_26 kV_26 dc_26 pm_26 cd_26 ct_26:Value} {f_18:Addr} {od_18 an_18:Option Addr} {sl_18:Array (Option Value)} {oc_18 kV_18 dc_18 pm_18 cd_18 ct_18:Value} {f_47:Addr} {od_47 an_47:Option Addr} {sl_47:Array (Option Value)} {oc_47 kV_47 dc_47 pm_47 cd_47 ct_47:Value} {f_27:Addr} {od_27 an_27:Option Addr} {sl_27:Array (Option Value)} {oc_27 kV_27 dc_27 pm_27 cd_27 ct_27:Value} {f_48:Addr} {od_48 an_48:Option Addr} {sl_48:Array (Option Value)} {oc_48 kV_48 dc_48 pm_48 cd_48 ct_48:Value} {f_49:Addr} {od_49 an_49:Option Addr} {sl_49:Array (Option Value)} {oc_49 kV_49 dc_49 pm_49 cd_49 ct_49:Value} {f_50:Addr} {od_50 an_50:Option Addr} {sl_50:Array (Option Value)} {oc_50 kV_50 dc_50 pm_50 cd_50 ct_50:Value} {f_40:Addr} {od_40 an_40:Option Addr} {sl_40:Array (Option Value)} {oc_40 kV_40 dc_40 pm_40 cd_40 ct_40:Value} {f_41:Addr} {od_41 an_41:Option Addr} {sl_41:Array (Option Value)} {oc_41 kV_41 dc_41 pm_41 cd_41 ct_41:Value} {f_51:Addr} {od_51 an_51:Option Addr} {sl_51:Array (Option Value)} {oc_51 kV_51 dc_51 pm_51 cd_51 ct_51:Value} {f_11:Addr} {od_11 an_11:Option Addr} {sl_11:Array (Option Value)} {oc_11 kV_11 dc_11 pm_11 cd_11 ct_11:Value} {f_3:Addr} {od_3 an_3:Option Addr} {sl_3:Array (Option Value)} {oc_3 kV_3 dc_3 pm_3 cd_3 ct_3:Value} {f_42:Addr} {od_42 an_42:Option Addr} {sl_42:Array (Option Value)} {oc_42 kV_42 dc_42 pm_42 cd_42 ct_42:Value} {f_52:Addr} {od_52 an_52:Option Addr} {sl_52:Array (Option Value)} {oc_52 kV_52 dc_52 pm_52 cd_52 ct_52:Value} {f_43:Addr} {od_43 an_43:Option Addr} {sl_43:Array (Option Value)} {oc_43 kV_43 dc_43 pm_43 cd_43 ct_43:Value} {f_36:Addr} {od_36 an_36:Option Addr} {sl_36:Array (Option Value)} {oc_36 kV_36 dc_36 pm_36 cd_36 ct_36:Value} {f_28:Addr} {od_28 an_28:Option Addr} {sl_28:Array (Option Value)} {oc_28 kV_28 dc_28 pm_28 cd_28 ct_28:Value} {f_29:Addr} {od_29 an_29:Option Addr} {sl_29:Array (Option Value)} {oc_29 kV_29 dc_29 pm_29 cd_29 ct_29:Value} {f_37:Addr} {od_37 an_37:Option Addr} {sl_37:Array (Option Value)} {oc_37 kV_37 dc_37 pm_37 cd_37 ct_37:Value} {f_4:Addr} {od_4 an_4:Option Addr} {sl_4:Array (Option Value)} {oc_4 kV_4 dc_4 pm_4 cd_4 ct_4:Value} {f_0:Addr} {od_0 an_0:Option Addr} {sl_0:Array (Option Value)} {oc_0 kV_0 dc_0 pm_0 cd_0 ct_0:Value} {f_38:Addr} {od_38 an_38:Option Addr} {sl_38:Array (Option Value)} {oc_38 kV_38 dc_38 pm_38 cd_38 ct_38:Value} {f_30:Addr} {od_30 an_30:Option Addr} {sl_30:Array (Option Value)} {oc_30 kV_30 dc_30 pm_30 cd_30 ct_30:Value} {f_39:Addr} {od_39 an_39:Option Addr} {sl_39:Array (Option Value)} {oc_39 kV_39 dc_39 pm_39 cd_39 ct_39:Value} {f_19:Addr} {od_19 an_19:Option Addr} {sl_19:Array (Option Value)} {oc_19 kV_19 dc_19 pm_19 cd_19 ct_19:Value} {f_7:Addr} {od_7 an_7:Option Addr} {sl_7:Array (Option Value)} {oc_7 kV_7 dc_7 pm_7 cd_7 ct_7:Value} {f_45:Addr} {od_45 an_45:Option Addr} {sl_45:Array (Option Value)} {oc_45 kV_45 dc_45 pm_45 cd_45 ct_45:Value} {f_5:Addr} {od_5 an_5:Option Addr} {sl_5:Array (Option Value)} {oc_5 kV_5 dc_5 pm_5 cd_5 ct_5:Value} {f_46:Addr} {od_46 an_46:Option Addr} {sl_46:Array (Option Value)} {oc_46 kV_46 dc_46 pm_46 cd_46 ct_46:Value} {f_20:Addr} {od_20 an_20:Option Addr} {sl_20:Array (Option Value)} {oc_20 kV_20 dc_20 pm_20 cd_20 ct_20:Value} {f_12:Addr} {od_12 an_12:Option Addr} {sl_12:Array (Option Value)} {oc_12 kV_12 dc_12 pm_12 cd_12 ct_12:Value} {f_31:Addr} {od_31 an_31:Option Addr} {sl_31:Array (Option Value)} {oc_31 kV_31 dc_31 pm_31 cd_31 ct_31:Value} {f_35:Addr} {od_35 an_35:Option Addr} {sl_35:Array (Option Value)} {oc_35 kV_35 dc_35 pm_35 cd_35 ct_35:Value} {f_32:Addr} {od_32 an_32:Option Addr} {sl_32:Array (Option Value)} {oc_32 kV_32 dc_32 pm_32 cd_32 ct_32:Value} {f_21:Addr} {od_21 an_21:Option Addr} {sl_21:Array (Option Value)} {oc_21 kV_21 dc_21 pm_21 cd_21 ct_21:Value} {f_8:Addr} {od_8 an_8:Option Addr} {sl_8:Array (Option Value)} {oc_8 kV_8 dc_8 pm_8 cd_8 ct_8:Value} {f_2:Addr} {od_2 an_2:Option Addr} {sl_2:Array (Option Value)} {oc_2 kV_2 dc_2 pm_2 cd_2 ct_2:Value} {f_53:Addr} {od_53 an_53:Option Addr} {sl_53:Array (Option Value)} {oc_53 kV_53 dc_53 pm_53 cd_53 ct_53:Value} {f_9:Addr} {od_9 an_9:Option Addr} {sl_9:Array (Option Value)} {oc_9 kV_9 dc_9 pm_9 cd_9 ct_9:Value} {f_33:Addr} {od_33 an_33:Option Addr} {sl_33:Array (Option Value)} {oc_33 kV_33 dc_33 pm_33 cd_33 ct_33:Value} {f_34:Addr} {od_34 an_34:Option Addr} {sl_34:Array (Option Value)} {oc_34 kV_34 dc_34 pm_34 cd_34 ct_34:Value} {f_10:Addr} {od_10 an_10:Option Addr} {sl_10:Array (Option Value)} {oc_10 kV_10 dc_10 pm_10 cd_10 ct_10:Value} {f_13:Addr} {od_13 an_13:Option Addr} {sl_13:Array (Option Value)} {oc_13 kV_13 dc_13 pm_13 cd_13 ct_13:Value} {f_1:Addr} {od_1 an_1:Option Addr} {sl_1:Array (Option Value)} {oc_1 kV_1 dc_1 pm_1 cd_1 ct_1:Value} {f_54:Addr} {od_54 an_54:Option Addr} {sl_54:Array (Option Value)} {oc_54 kV_54 dc_54 pm_54 cd_54 ct_54:Value} {f_22:Addr} {od_22 an_22:Option Addr} {sl_22:Array (Option Value)} {oc_22 kV_22 dc_22 pm_22 cd_22 ct_22:Value} {f_14:Addr} {od_14 an_14:Option Addr} {sl_14:Array (Option Value)} {oc_14 kV_14 dc_14 pm_14 cd_14 ct_14:Value} {f_55:Addr} {od_55 an_55:Option Addr} {sl_55:Array (Option Value)} {oc_55 kV_55 dc_55 pm_55 cd_55 ct_55:Value} {f_23:Addr} {od_23 an_23:Option Addr} {sl_23:Array (Option Value)} {oc_23 kV_23 dc_23 pm_23 cd_23 ct_23:Value} {f_15:Addr} {od_15 an_15:Option Addr} {sl_15:Array (Option Value)} {oc_15 kV_15 dc_15 pm_15 cd_15 ct_15:Value} {f_56:Addr} {od_56 an_56:Option Addr} {sl_56:Array (Option Value)} {oc_56 kV_56 dc_56 pm_56 cd_56 ct_56:Value} {f_24:Addr} {od_24 an_24:Option Addr} {sl_24:Array (Option Value)} {oc_24 kV_24 dc_24 pm_24 cd_24 ct_24:Value} {f_16:Addr} {od_16 an_16:Option Addr} {sl_16:Array (Option Value)} {oc_16 kV_16 dc_16 pm_16 cd_16 ct_16:Value} {f_57:Addr} {od_57 an_57:Option Addr} {sl_57:Array (Option Value)} {oc_57 kV_57 dc_57 pm_57 cd_57 ct_57:Value} {f_25:Addr} {od_25 an_25:Option Addr} {sl_25:Array (Option Value)} {oc_25 kV_25 dc_25 pm_25 cd_25 ct_25:Value} {f_17:Addr} {od_17 an_17:Option Addr} {sl_17:Array (Option Value)} {oc_17 kV_17 dc_17 pm_17 cd_17 ct_17:Value} {fa:Addr} (X:K.In h) (G:h.Ns mainGlobals mg) (hfa:mg "law"=some (.ref fa))
  (aC_In:PySem.W.nsIn K mainGlobals "In"=some (some (.ref C_In)))
  (aC_Out:PySem.W.nsIn K mainGlobals "Out"=some (some (.ref C_Out)))
  (aC_Least:PySem.W.nsIn K mainGlobals "Least"=some (some (.ref C_Least)))
  (aC_Most:PySem.W.nsIn K mainGlobals "Most"=some (some (.ref C_Most)))
  (a_6:PySem.W.nsIn K mainGlobals "marks"=some (some (.ref f_6)))
  (l_6:K.lookup f_6=some ⟨oc_6,od_6,.func (PySem.W.fnOf "marks" "marks" (zbb s_6) (za8 s_6) (zam s_6) .none kV_6 dc_6 pm_6 an_6 cd_6 ct_6),sl_6⟩)
  (c_6:PySem.W.codeIn K cd_6 "marks"=true)
  (k_6:PySem.W.keepIn K (.ref f_6)=true)
  (a_44:PySem.W.nsIn K mainGlobals "part_of"=some (some (.ref f_44)))
  (l_44:K.lookup f_44=some ⟨oc_44,od_44,.func (PySem.W.fnOf "part_of" "part_of" (zbb zkz) (za8 zkz) (zam zkz) .none kV_44 dc_44 pm_44 an_44 cd_44 ct_44),sl_44⟩)
  (c_44:PySem.W.codeIn K cd_44 "part_of"=true)
  (k_44:PySem.W.keepIn K (.ref f_44)=true)
  (a_26:PySem.W.nsIn K mainGlobals "worth_in"=some (some (.ref f_26)))
  (l_26:K.lookup f_26=some ⟨oc_26,od_26,.func (PySem.W.fnOf "worth_in" "worth_in" (zbb zks) (za8 zks) (zam zks) .none kV_26 dc_26 pm_26 an_26 cd_26 ct_26),sl_26⟩)
  (c_26:PySem.W.codeIn K cd_26 "worth_in"=true)
  (k_26:PySem.W.keepIn K (.ref f_26)=true)
  (a_18:PySem.W.nsIn K mainGlobals "worth_not_out"=some (some (.ref f_18)))
  (l_18:K.lookup f_18=some ⟨oc_18,od_18,.func (PySem.W.fnOf "worth_not_out" "worth_not_out" (zbb zjz) (za8 zjz) (zam zjz) .none kV_18 dc_18 pm_18 an_18 cd_18 ct_18),sl_18⟩)
  (c_18:PySem.W.codeIn K cd_18 "worth_not_out"=true)
  (k_18:PySem.W.keepIn K (.ref f_18)=true)
  (a_47:PySem.W.nsIn K mainGlobals "outside"=some (some (.ref f_47)))
  (l_47:K.lookup f_47=some ⟨oc_47,od_47,.func (PySem.W.fnOf "outside" "outside" (zbb zkn) (za8 zkn) (zam zkn) .none kV_47 dc_47 pm_47 an_47 cd_47 ct_47),sl_47⟩)
  (c_47:PySem.W.codeIn K cd_47 "outside"=true)
  (k_47:PySem.W.keepIn K (.ref f_47)=true)
  (a_27:PySem.W.nsIn K mainGlobals "body_of"=some (some (.ref f_27)))
  (l_27:K.lookup f_27=some ⟨oc_27,od_27,.func (PySem.W.fnOf "body_of" "body_of" (zbb zka) (za8 zka) (zam zka) .none kV_27 dc_27 pm_27 an_27 cd_27 ct_27),sl_27⟩)
  (c_27:PySem.W.codeIn K cd_27 "body_of"=true)
  (k_27:PySem.W.keepIn K (.ref f_27)=true)
  (a_48:PySem.W.nsIn K mainGlobals "body_sure"=some (some (.ref f_48)))
  (l_48:K.lookup f_48=some ⟨oc_48,od_48,.func (PySem.W.fnOf "body_sure" "body_sure" (zbb zi6) (za8 zi6) (zam zi6) .none kV_48 dc_48 pm_48 an_48 cd_48 ct_48),sl_48⟩)
  (c_48:PySem.W.codeIn K cd_48 "body_sure"=true)
  (k_48:PySem.W.keepIn K (.ref f_48)=true)
  (a_49:PySem.W.nsIn K mainGlobals "body_lost"=some (some (.ref f_49)))
  (l_49:K.lookup f_49=some ⟨oc_49,od_49,.func (PySem.W.fnOf "body_lost" "body_lost" (zbb zjy) (za8 zjy) (zam zjy) .none kV_49 dc_49 pm_49 an_49 cd_49 ct_49),sl_49⟩)
  (c_49:PySem.W.codeIn K cd_49 "body_lost"=true)
  (k_49:PySem.W.keepIn K (.ref f_49)=true)
  (a_50:PySem.W.nsIn K mainGlobals "surely_broken"=some (some (.ref f_50)))
  (l_50:K.lookup f_50=some ⟨oc_50,od_50,.func (PySem.W.fnOf "surely_broken" "surely_broken" (zbb zkq) (za8 zkq) (zam zkq) .none kV_50 dc_50 pm_50 an_50 cd_50 ct_50),sl_50⟩)
  (c_50:PySem.W.codeIn K cd_50 "surely_broken"=true)
  (k_50:PySem.W.keepIn K (.ref f_50)=true)
  (a_40:PySem.W.nsIn K mainGlobals "put_to"=some (some (.ref f_40)))
  (l_40:K.lookup f_40=some ⟨oc_40,od_40,.func (PySem.W.fnOf "put_to" "put_to" (zbb zi9) (za8 zi9) (zam zi9) .none kV_40 dc_40 pm_40 an_40 cd_40 ct_40),sl_40⟩)
  (c_40:PySem.W.codeIn K cd_40 "put_to"=true)
  (k_40:PySem.W.keepIn K (.ref f_40)=true)
  (a_41:PySem.W.nsIn K mainGlobals "rests_outside"=some (some (.ref f_41)))
  (l_41:K.lookup f_41=some ⟨oc_41,od_41,.func (PySem.W.fnOf "rests_outside" "rests_outside" (zbb zi1) (za8 zi1) (zam zi1) .none kV_41 dc_41 pm_41 an_41 cd_41 ct_41),sl_41⟩)
  (c_41:PySem.W.codeIn K cd_41 "rests_outside"=true)
  (k_41:PySem.W.keepIn K (.ref f_41)=true)
  (a_51:PySem.W.nsIn K mainGlobals "fits"=some (some (.ref f_51)))
  (l_51:K.lookup f_51=some ⟨oc_51,od_51,.func (PySem.W.fnOf "fits" "fits" (zbb zjj) (za8 zjj) (zam zjj) .none kV_51 dc_51 pm_51 an_51 cd_51 ct_51),sl_51⟩)
  (c_51:PySem.W.codeIn K cd_51 "fits"=true)
  (k_51:PySem.W.keepIn K (.ref f_51)=true)
  (a_11:PySem.W.nsIn K mainGlobals "right_why"=some (some (.ref f_11)))
  (l_11:K.lookup f_11=some ⟨oc_11,od_11,.func (PySem.W.fnOf "right_why" "right_why" (zbb zix) (za8 zix) (zam zix) .none kV_11 dc_11 pm_11 an_11 cd_11 ct_11),sl_11⟩)
  (c_11:PySem.W.codeIn K cd_11 "right_why"=true)
  (k_11:PySem.W.keepIn K (.ref f_11)=true)
  (a_3:PySem.W.nsIn K mainGlobals "has_number"=some (some (.ref f_3)))
  (l_3:K.lookup f_3=some ⟨oc_3,od_3,.func (PySem.W.fnOf "has_number" "has_number" (zbb s_3) (za8 s_3) (zam s_3) .none kV_3 dc_3 pm_3 an_3 cd_3 ct_3),sl_3⟩)
  (c_3:PySem.W.codeIn K cd_3 "has_number"=true)
  (k_3:PySem.W.keepIn K (.ref f_3)=true)
  (a_42:PySem.W.nsIn K mainGlobals "right_group"=some (some (.ref f_42)))
  (l_42:K.lookup f_42=some ⟨oc_42,od_42,.func (PySem.W.fnOf "right_group" "right_group" (zbb zk0) (za8 zk0) (zam zk0) .none kV_42 dc_42 pm_42 an_42 cd_42 ct_42),sl_42⟩)
  (c_42:PySem.W.codeIn K cd_42 "right_group"=true)
  (k_42:PySem.W.keepIn K (.ref f_42)=true)
  (a_52:PySem.W.nsIn K mainGlobals "has_in"=some (some (.ref f_52)))
  (l_52:K.lookup f_52=some ⟨oc_52,od_52,.func (PySem.W.fnOf "has_in" "has_in" (zbb zkh) (za8 zkh) (zam zkh) .none kV_52 dc_52 pm_52 an_52 cd_52 ct_52),sl_52⟩)
  (c_52:PySem.W.codeIn K cd_52 "has_in"=true)
  (k_52:PySem.W.keepIn K (.ref f_52)=true)
  (a_43:PySem.W.nsIn K mainGlobals "right_step"=some (some (.ref f_43)))
  (l_43:K.lookup f_43=some ⟨oc_43,od_43,.func (PySem.W.fnOf "right_step" "right_step" (zbb zk5) (za8 zk5) (zam zk5) .none kV_43 dc_43 pm_43 an_43 cd_43 ct_43),sl_43⟩)
  (c_43:PySem.W.codeIn K cd_43 "right_step"=true)
  (k_43:PySem.W.keepIn K (.ref f_43)=true)
  (a_36:PySem.W.nsIn K mainGlobals "right_line"=some (some (.ref f_36)))
  (l_36:K.lookup f_36=some ⟨oc_36,od_36,.func (PySem.W.fnOf "right_line" "right_line" (zbb zjo) (za8 zjo) (zam zjo) .none kV_36 dc_36 pm_36 an_36 cd_36 ct_36),sl_36⟩)
  (c_36:PySem.W.codeIn K cd_36 "right_line"=true)
  (k_36:PySem.W.keepIn K (.ref f_36)=true)
  (a_28:PySem.W.nsIn K mainGlobals "begun"=some (some (.ref f_28)))
  (l_28:K.lookup f_28=some ⟨oc_28,od_28,.func (PySem.W.fnOf "begun" "begun" (zbb zj1) (za8 zj1) (zam zj1) .none kV_28 dc_28 pm_28 an_28 cd_28 ct_28),sl_28⟩)
  (c_28:PySem.W.codeIn K cd_28 "begun"=true)
  (k_28:PySem.W.keepIn K (.ref f_28)=true)
  (a_29:PySem.W.nsIn K mainGlobals "right_steps"=some (some (.ref f_29)))
  (l_29:K.lookup f_29=some ⟨oc_29,od_29,.func (PySem.W.fnOf "right_steps" "right_steps" (zbb zj5) (za8 zj5) (zam zj5) .none kV_29 dc_29 pm_29 an_29 cd_29 ct_29),sl_29⟩)
  (c_29:PySem.W.codeIn K cd_29 "right_steps"=true)
  (k_29:PySem.W.keepIn K (.ref f_29)=true)
  (a_37:PySem.W.nsIn K mainGlobals "right_paper"=some (some (.ref f_37)))
  (l_37:K.lookup f_37=some ⟨oc_37,od_37,.func (PySem.W.fnOf "right_paper" "right_paper" (zbb zi3) (za8 zi3) (zam zi3) .none kV_37 dc_37 pm_37 an_37 cd_37 ct_37),sl_37⟩)
  (c_37:PySem.W.codeIn K cd_37 "right_paper"=true)
  (k_37:PySem.W.keepIn K (.ref f_37)=true)
  (a_4:PySem.W.nsIn K mainGlobals "_law_cell_at"=some (some (.ref f_4)))
  (l_4:K.lookup f_4=some ⟨oc_4,od_4,.func (PySem.W.fnOf "_law_cell_at" "_law_cell_at" (zbb s_4) (za8 s_4) (zam s_4) .none kV_4 dc_4 pm_4 an_4 cd_4 ct_4),sl_4⟩)
  (c_4:PySem.W.codeIn K cd_4 "_law_cell_at"=true)
  (k_4:PySem.W.keepIn K (.ref f_4)=true)
  (a_0:PySem.W.nsIn K mainGlobals "_law_mixed"=some (some (.ref f_0)))
  (l_0:K.lookup f_0=some ⟨oc_0,od_0,.func (PySem.W.fnOf "_law_mixed" "_law_mixed" (zbb s_0) (za8 s_0) (zam s_0) .none kV_0 dc_0 pm_0 an_0 cd_0 ct_0),sl_0⟩)
  (c_0:PySem.W.codeIn K cd_0 "_law_mixed"=true)
  (k_0:PySem.W.keepIn K (.ref f_0)=true)
  (a_38:PySem.W.nsIn K mainGlobals "_law_worth"=some (some (.ref f_38)))
  (l_38:K.lookup f_38=some ⟨oc_38,od_38,.func (PySem.W.fnOf "_law_worth" "_law_worth" (zbb zk9) (za8 zk9) (zam zk9) .none kV_38 dc_38 pm_38 an_38 cd_38 ct_38),sl_38⟩)
  (c_38:PySem.W.codeIn K cd_38 "_law_worth"=true)
  (k_38:PySem.W.keepIn K (.ref f_38)=true)
  (a_30:PySem.W.nsIn K mainGlobals "_law_part"=some (some (.ref f_30)))
  (l_30:K.lookup f_30=some ⟨oc_30,od_30,.func (PySem.W.fnOf "_law_part" "_law_part" (zbb zj0) (za8 zj0) (zam zj0) .none kV_30 dc_30 pm_30 an_30 cd_30 ct_30),sl_30⟩)
  (c_30:PySem.W.codeIn K cd_30 "_law_part"=true)
  (k_30:PySem.W.keepIn K (.ref f_30)=true)
  (a_39:PySem.W.nsIn K mainGlobals "_law_rule"=some (some (.ref f_39)))
  (l_39:K.lookup f_39=some ⟨oc_39,od_39,.func (PySem.W.fnOf "_law_rule" "_law_rule" (zbb zi4) (za8 zi4) (zam zi4) .none kV_39 dc_39 pm_39 an_39 cd_39 ct_39),sl_39⟩)
  (c_39:PySem.W.codeIn K cd_39 "_law_rule"=true)
  (k_39:PySem.W.keepIn K (.ref f_39)=true)
  (a_19:PySem.W.nsIn K mainGlobals "_law_ring"=some (some (.ref f_19)))
  (l_19:K.lookup f_19=some ⟨oc_19,od_19,.func (PySem.W.fnOf "_law_ring" "_law_ring" (zbb zjl) (za8 zjl) (zam zjl) .none kV_19 dc_19 pm_19 an_19 cd_19 ct_19),sl_19⟩)
  (c_19:PySem.W.codeIn K cd_19 "_law_ring"=true)
  (k_19:PySem.W.keepIn K (.ref f_19)=true)
  (a_7:PySem.W.nsIn K mainGlobals "_law_copy"=some (some (.ref f_7)))
  (l_7:K.lookup f_7=some ⟨oc_7,od_7,.func (PySem.W.fnOf "_law_copy" "_law_copy" (zbb s_7) (za8 s_7) (zam s_7) .none kV_7 dc_7 pm_7 an_7 cd_7 ct_7),sl_7⟩)
  (c_7:PySem.W.codeIn K cd_7 "_law_copy"=true)
  (k_7:PySem.W.keepIn K (.ref f_7)=true)
  (a_45:PySem.W.nsIn K mainGlobals "_law_part_sure"=some (some (.ref f_45)))
  (l_45:K.lookup f_45=some ⟨oc_45,od_45,.func (PySem.W.fnOf "_law_part_sure" "_law_part_sure" (zbb zjt) (za8 zjt) (zam zjt) .none kV_45 dc_45 pm_45 an_45 cd_45 ct_45),sl_45⟩)
  (c_45:PySem.W.codeIn K cd_45 "_law_part_sure"=true)
  (k_45:PySem.W.keepIn K (.ref f_45)=true)
  (a_5:PySem.W.nsIn K mainGlobals "_law_broken"=some (some (.ref f_5)))
  (l_5:K.lookup f_5=some ⟨oc_5,od_5,.func (PySem.W.fnOf "_law_broken" "_law_broken" (zbb s_5) (za8 s_5) (zam s_5) .none kV_5 dc_5 pm_5 an_5 cd_5 ct_5),sl_5⟩)
  (c_5:PySem.W.codeIn K cd_5 "_law_broken"=true)
  (k_5:PySem.W.keepIn K (.ref f_5)=true)
  (a_46:PySem.W.nsIn K mainGlobals "_law_part_lost"=some (some (.ref f_46)))
  (l_46:K.lookup f_46=some ⟨oc_46,od_46,.func (PySem.W.fnOf "_law_part_lost" "_law_part_lost" (zbb zjc) (za8 zjc) (zam zjc) .none kV_46 dc_46 pm_46 an_46 cd_46 ct_46),sl_46⟩)
  (c_46:PySem.W.codeIn K cd_46 "_law_part_lost"=true)
  (k_46:PySem.W.keepIn K (.ref f_46)=true)
  (a_20:PySem.W.nsIn K mainGlobals "_law_holds_up"=some (some (.ref f_20)))
  (l_20:K.lookup f_20=some ⟨oc_20,od_20,.func (PySem.W.fnOf "_law_holds_up" "_law_holds_up" (zbb ziy) (za8 ziy) (zam ziy) .none kV_20 dc_20 pm_20 an_20 cd_20 ct_20),sl_20⟩)
  (c_20:PySem.W.codeIn K cd_20 "_law_holds_up"=true)
  (k_20:PySem.W.keepIn K (.ref f_20)=true)
  (a_12:PySem.W.nsIn K mainGlobals "_law_loose"=some (some (.ref f_12)))
  (l_12:K.lookup f_12=some ⟨oc_12,od_12,.func (PySem.W.fnOf "_law_loose" "_law_loose" (zbb zjf) (za8 zjf) (zam zjf) .none kV_12 dc_12 pm_12 an_12 cd_12 ct_12),sl_12⟩)
  (c_12:PySem.W.codeIn K cd_12 "_law_loose"=true)
  (k_12:PySem.W.keepIn K (.ref f_12)=true)
  (a_31:PySem.W.nsIn K mainGlobals "_law_fits"=some (some (.ref f_31)))
  (l_31:K.lookup f_31=some ⟨oc_31,od_31,.func (PySem.W.fnOf "_law_fits" "_law_fits" (zbb zkw) (za8 zkw) (zam zkw) .none kV_31 dc_31 pm_31 an_31 cd_31 ct_31),sl_31⟩)
  (c_31:PySem.W.codeIn K cd_31 "_law_fits"=true)
  (k_31:PySem.W.keepIn K (.ref f_31)=true)
  (a_35:PySem.W.nsIn K mainGlobals "_law_right"=some (some (.ref f_35)))
  (l_35:K.lookup f_35=some ⟨oc_35,od_35,.func (PySem.W.fnOf "_law_right" "_law_right" (zbb zkf) (za8 zkf) (zam zkf) .none kV_35 dc_35 pm_35 an_35 cd_35 ct_35),sl_35⟩)
  (c_35:PySem.W.codeIn K cd_35 "_law_right"=true)
  (k_35:PySem.W.keepIn K (.ref f_35)=true)
  (a_32:PySem.W.nsIn K mainGlobals "_law_with"=some (some (.ref f_32)))
  (l_32:K.lookup f_32=some ⟨oc_32,od_32,.func (PySem.W.fnOf "_law_with" "_law_with" (zbb zj2) (za8 zj2) (zam zj2) .none kV_32 dc_32 pm_32 an_32 cd_32 ct_32),sl_32⟩)
  (c_32:PySem.W.codeIn K cd_32 "_law_with"=true)
  (k_32:PySem.W.keepIn K (.ref f_32)=true)
  (a_21:PySem.W.nsIn K mainGlobals "_law_whys"=some (some (.ref f_21)))
  (l_21:K.lookup f_21=some ⟨oc_21,od_21,.func (PySem.W.fnOf "_law_whys" "_law_whys" (zbb zla) (za8 zla) (zam zla) .none kV_21 dc_21 pm_21 an_21 cd_21 ct_21),sl_21⟩)
  (c_21:PySem.W.codeIn K cd_21 "_law_whys"=true)
  (k_21:PySem.W.keepIn K (.ref f_21)=true)
  (a_8:PySem.W.nsIn K mainGlobals "_law_lie"=some (some (.ref f_8)))
  (l_8:K.lookup f_8=some ⟨oc_8,od_8,.func (PySem.W.fnOf "_law_lie" "_law_lie" (zbb s_8) (za8 s_8) (zam s_8) .none kV_8 dc_8 pm_8 an_8 cd_8 ct_8),sl_8⟩)
  (c_8:PySem.W.codeIn K cd_8 "_law_lie"=true)
  (k_8:PySem.W.keepIn K (.ref f_8)=true)
  (a_2:PySem.W.nsIn K mainGlobals "_law_bar_out"=some (some (.ref f_2)))
  (l_2:K.lookup f_2=some ⟨oc_2,od_2,.func (PySem.W.fnOf "_law_bar_out" "_law_bar_out" (zbb s_2) (za8 s_2) (zam s_2) .none kV_2 dc_2 pm_2 an_2 cd_2 ct_2),sl_2⟩)
  (c_2:PySem.W.codeIn K cd_2 "_law_bar_out"=true)
  (k_2:PySem.W.keepIn K (.ref f_2)=true)
  (a_53:PySem.W.nsIn K mainGlobals "_law_holds"=some (some (.ref f_53)))
  (l_53:K.lookup f_53=some ⟨oc_53,od_53,.func (PySem.W.fnOf "_law_holds" "_law_holds" (zbb zju) (za8 zju) (zam zju) .none kV_53 dc_53 pm_53 an_53 cd_53 ct_53),sl_53⟩)
  (c_53:PySem.W.codeIn K cd_53 "_law_holds"=true)
  (k_53:PySem.W.keepIn K (.ref f_53)=true)
  (a_9:PySem.W.nsIn K mainGlobals "_law_stands"=some (some (.ref f_9)))
  (l_9:K.lookup f_9=some ⟨oc_9,od_9,.func (PySem.W.fnOf "_law_stands" "_law_stands" (zbb s_9) (za8 s_9) (zam s_9) .none kV_9 dc_9 pm_9 an_9 cd_9 ct_9),sl_9⟩)
  (c_9:PySem.W.codeIn K cd_9 "_law_stands"=true)
  (k_9:PySem.W.keepIn K (.ref f_9)=true)
  (a_33:PySem.W.nsIn K mainGlobals "_law_standing"=some (some (.ref f_33)))
  (l_33:K.lookup f_33=some ⟨oc_33,od_33,.func (PySem.W.fnOf "_law_standing" "_law_standing" (zbb zjh) (za8 zjh) (zam zjh) .none kV_33 dc_33 pm_33 an_33 cd_33 ct_33),sl_33⟩)
  (c_33:PySem.W.codeIn K cd_33 "_law_standing"=true)
  (k_33:PySem.W.keepIn K (.ref f_33)=true)
  (a_34:PySem.W.nsIn K mainGlobals "_law_again"=some (some (.ref f_34)))
  (l_34:K.lookup f_34=some ⟨oc_34,od_34,.func (PySem.W.fnOf "_law_again" "_law_again" (zbb zjp) (za8 zjp) (zam zjp) .none kV_34 dc_34 pm_34 an_34 cd_34 ct_34),sl_34⟩)
  (c_34:PySem.W.codeIn K cd_34 "_law_again"=true)
  (k_34:PySem.W.keepIn K (.ref f_34)=true)
  (a_10:PySem.W.nsIn K mainGlobals "_law_other_line"=some (some (.ref f_10)))
  (l_10:K.lookup f_10=some ⟨oc_10,od_10,.func (PySem.W.fnOf "_law_other_line" "_law_other_line" (zbb zkd) (za8 zkd) (zam zkd) .none kV_10 dc_10 pm_10 an_10 cd_10 ct_10),sl_10⟩)
  (c_10:PySem.W.codeIn K cd_10 "_law_other_line"=true)
  (k_10:PySem.W.keepIn K (.ref f_10)=true)
  (a_13:PySem.W.nsIn K mainGlobals "_law_spoiled"=some (some (.ref f_13)))
  (l_13:K.lookup f_13=some ⟨oc_13,od_13,.func (PySem.W.fnOf "_law_spoiled" "_law_spoiled" (zbb zkx) (za8 zkx) (zam zkx) .none kV_13 dc_13 pm_13 an_13 cd_13 ct_13),sl_13⟩)
  (c_13:PySem.W.codeIn K cd_13 "_law_spoiled"=true)
  (k_13:PySem.W.keepIn K (.ref f_13)=true)
  (a_1:PySem.W.nsIn K mainGlobals "law"=some (some (.ref f_1)))
  (l_1:K.lookup f_1=some ⟨oc_1,od_1,.func (PySem.W.fnOf "law" "law" (zbb s_1) (za8 s_1) (zam s_1) .none kV_1 dc_1 pm_1 an_1 cd_1 ct_1),sl_1⟩)
  (c_1:PySem.W.codeIn K cd_1 "law"=true)
  (k_1:PySem.W.keepIn K (.ref f_1)=true)
  (a_54:PySem.W.findIn K (.ref C_In) "__init__"=some (some (.ref f_54)))
  (i_54:PySem.W.isFn K (.ref f_54)=true)
  (l_54:K.lookup f_54=some ⟨oc_54,od_54,.func (PySem.W.fnOf "__init__" "In.__init__" (zbb zjk) (za8 zjk) (zam zjk) .none kV_54 dc_54 pm_54 an_54 cd_54 ct_54),sl_54⟩)
  (c_54:PySem.W.codeIn K cd_54 "In.__init__"=true)
  (k_54:PySem.W.keepIn K (.ref f_54)=true)
  (a_22:PySem.W.findIn K (.ref C_In) "sure"=some (some (.ref f_22)))
  (i_22:PySem.W.isFn K (.ref f_22)=true)
  (l_22:K.lookup f_22=some ⟨oc_22,od_22,.func (PySem.W.fnOf "sure" "In.sure" (zbb zi2) (za8 zi2) (zam zi2) .none kV_22 dc_22 pm_22 an_22 cd_22 ct_22),sl_22⟩)
  (c_22:PySem.W.codeIn K cd_22 "In.sure"=true)
  (k_22:PySem.W.keepIn K (.ref f_22)=true)
  (a_14:PySem.W.findIn K (.ref C_In) "lost"=some (some (.ref f_14)))
  (i_14:PySem.W.isFn K (.ref f_14)=true)
  (l_14:K.lookup f_14=some ⟨oc_14,od_14,.func (PySem.W.fnOf "lost" "In.lost" (zbb zi0) (za8 zi0) (zam zi0) .none kV_14 dc_14 pm_14 an_14 cd_14 ct_14),sl_14⟩)
  (c_14:PySem.W.codeIn K cd_14 "In.lost"=true)
  (k_14:PySem.W.keepIn K (.ref f_14)=true)
  (a_55:PySem.W.findIn K (.ref C_Out) "__init__"=some (some (.ref f_55)))
  (i_55:PySem.W.isFn K (.ref f_55)=true)
  (l_55:K.lookup f_55=some ⟨oc_55,od_55,.func (PySem.W.fnOf "__init__" "Out.__init__" (zbb zkk) (za8 zkk) (zam zkk) .none kV_55 dc_55 pm_55 an_55 cd_55 ct_55),sl_55⟩)
  (c_55:PySem.W.codeIn K cd_55 "Out.__init__"=true)
  (k_55:PySem.W.keepIn K (.ref f_55)=true)
  (a_23:PySem.W.findIn K (.ref C_Out) "sure"=some (some (.ref f_23)))
  (i_23:PySem.W.isFn K (.ref f_23)=true)
  (l_23:K.lookup f_23=some ⟨oc_23,od_23,.func (PySem.W.fnOf "sure" "Out.sure" (zbb zke) (za8 zke) (zam zke) .none kV_23 dc_23 pm_23 an_23 cd_23 ct_23),sl_23⟩)
  (c_23:PySem.W.codeIn K cd_23 "Out.sure"=true)
  (k_23:PySem.W.keepIn K (.ref f_23)=true)
  (a_15:PySem.W.findIn K (.ref C_Out) "lost"=some (some (.ref f_15)))
  (i_15:PySem.W.isFn K (.ref f_15)=true)
  (l_15:K.lookup f_15=some ⟨oc_15,od_15,.func (PySem.W.fnOf "lost" "Out.lost" (zbb zko) (za8 zko) (zam zko) .none kV_15 dc_15 pm_15 an_15 cd_15 ct_15),sl_15⟩)
  (c_15:PySem.W.codeIn K cd_15 "Out.lost"=true)
  (k_15:PySem.W.keepIn K (.ref f_15)=true)
  (a_56:PySem.W.findIn K (.ref C_Least) "__init__"=some (some (.ref f_56)))
  (i_56:PySem.W.isFn K (.ref f_56)=true)
  (l_56:K.lookup f_56=some ⟨oc_56,od_56,.func (PySem.W.fnOf "__init__" "Least.__init__" (zbb zk1) (za8 zk1) (zam zk1) .none kV_56 dc_56 pm_56 an_56 cd_56 ct_56),sl_56⟩)
  (c_56:PySem.W.codeIn K cd_56 "Least.__init__"=true)
  (k_56:PySem.W.keepIn K (.ref f_56)=true)
  (a_24:PySem.W.findIn K (.ref C_Least) "sure"=some (some (.ref f_24)))
  (i_24:PySem.W.isFn K (.ref f_24)=true)
  (l_24:K.lookup f_24=some ⟨oc_24,od_24,.func (PySem.W.fnOf "sure" "Least.sure" (zbb zkm) (za8 zkm) (zam zkm) .none kV_24 dc_24 pm_24 an_24 cd_24 ct_24),sl_24⟩)
  (c_24:PySem.W.codeIn K cd_24 "Least.sure"=true)
  (k_24:PySem.W.keepIn K (.ref f_24)=true)
  (a_16:PySem.W.findIn K (.ref C_Least) "lost"=some (some (.ref f_16)))
  (i_16:PySem.W.isFn K (.ref f_16)=true)
  (l_16:K.lookup f_16=some ⟨oc_16,od_16,.func (PySem.W.fnOf "lost" "Least.lost" (zbb zjn) (za8 zjn) (zam zjn) .none kV_16 dc_16 pm_16 an_16 cd_16 ct_16),sl_16⟩)
  (c_16:PySem.W.codeIn K cd_16 "Least.lost"=true)
  (k_16:PySem.W.keepIn K (.ref f_16)=true)
  (a_57:PySem.W.findIn K (.ref C_Most) "__init__"=some (some (.ref f_57)))
  (i_57:PySem.W.isFn K (.ref f_57)=true)
  (l_57:K.lookup f_57=some ⟨oc_57,od_57,.func (PySem.W.fnOf "__init__" "Most.__init__" (zbb zjx) (za8 zjx) (zam zjx) .none kV_57 dc_57 pm_57 an_57 cd_57 ct_57),sl_57⟩)
  (c_57:PySem.W.codeIn K cd_57 "Most.__init__"=true)
  (k_57:PySem.W.keepIn K (.ref f_57)=true)
  (a_25:PySem.W.findIn K (.ref C_Most) "sure"=some (some (.ref f_25)))
  (i_25:PySem.W.isFn K (.ref f_25)=true)
  (l_25:K.lookup f_25=some ⟨oc_25,od_25,.func (PySem.W.fnOf "sure" "Most.sure" (zbb zj6) (za8 zj6) (zam zj6) .none kV_25 dc_25 pm_25 an_25 cd_25 ct_25),sl_25⟩)
  (c_25:PySem.W.codeIn K cd_25 "Most.sure"=true)
  (k_25:PySem.W.keepIn K (.ref f_25)=true)
  (a_17:PySem.W.findIn K (.ref C_Most) "lost"=some (some (.ref f_17)))
  (i_17:PySem.W.isFn K (.ref f_17)=true)
  (l_17:K.lookup f_17=some ⟨oc_17,od_17,.func (PySem.W.fnOf "lost" "Most.lost" (zbb zk8) (za8 zk8) (zam zk8) .none kV_17 dc_17 pm_17 an_17 cd_17 ct_17),sl_17⟩)
  (c_17:PySem.W.codeIn K cd_17 "Most.lost"=true)
  (k_17:PySem.W.keepIn K (.ref f_17)=true)
  (pg_In:PySem.W.plainGet K C_In Str.empty=true)
  (hd_In:PySem.W.hasDictIn K C_In=true)
  (po_In:PySem.W.plainOver K C_In=true)
  (sa_In:PySem.W.findIn K (.ref C_In) "__setattr__"=some (some (.builtin "object.__setattr__")))
  (mk_In:PySem.W.makesIn K C_In=true)
  (kc_In:PySem.W.keepIn K (.ref C_In)=true)
  (na_In_thing:PySem.W.findIn K (.ref C_In) "thing"=some none)
  (pg_Out:PySem.W.plainGet K C_Out Str.empty=true)
  (hd_Out:PySem.W.hasDictIn K C_Out=true)
  (po_Out:PySem.W.plainOver K C_Out=true)
  (sa_Out:PySem.W.findIn K (.ref C_Out) "__setattr__"=some (some (.builtin "object.__setattr__")))
  (mk_Out:PySem.W.makesIn K C_Out=true)
  (kc_Out:PySem.W.keepIn K (.ref C_Out)=true)
  (na_Out_thing:PySem.W.findIn K (.ref C_Out) "thing"=some none)
  (pg_Least:PySem.W.plainGet K C_Least Str.empty=true)
  (hd_Least:PySem.W.hasDictIn K C_Least=true)
  (po_Least:PySem.W.plainOver K C_Least=true)
  (sa_Least:PySem.W.findIn K (.ref C_Least) "__setattr__"=some (some (.builtin "object.__setattr__")))
  (mk_Least:PySem.W.makesIn K C_Least=true)
  (kc_Least:PySem.W.keepIn K (.ref C_Least)=true)
  (na_Least_bound:PySem.W.findIn K (.ref C_Least) "bound"=some none)
  (na_Least_pieces:PySem.W.findIn K (.ref C_Least) "pieces"=some none)
  (pg_Most:PySem.W.plainGet K C_Most Str.empty=true)
  (hd_Most:PySem.W.hasDictIn K C_Most=true)
  (po_Most:PySem.W.plainOver K C_Most=true)
  (sa_Most:PySem.W.findIn K (.ref C_Most) "__setattr__"=some (some (.builtin "object.__setattr__")))
  (mk_Most:PySem.W.makesIn K C_Most=true)
  (kc_Most:PySem.W.keepIn K (.ref C_Most)=true)
  (na_Most_bound:PySem.W.findIn K (.ref C_Most) "bound"=some none)
  (na_Most_pieces:PySem.W.findIn K (.ref C_Most) "pieces"=some none)
  (kt_NoneType_bool:PySem.W.kitOne K (.type "NoneType") (.type "bool")=some false)
  (kt_bool_bool:PySem.W.kitOne K (.type "bool") (.type "bool")=some true)
  (kt_int_bool:PySem.W.kitOne K (.type "int") (.type "bool")=some false)
  (kt_str_bool:PySem.W.kitOne K (.type "str") (.type "bool")=some false)
  (kt_list_bool:PySem.W.kitOne K (.type "list") (.type "bool")=some false)
  (kt_tuple_bool:PySem.W.kitOne K (.type "tuple") (.type "bool")=some false)
  (kt_dict_bool:PySem.W.kitOne K (.type "dict") (.type "bool")=some false)
  (z_all:PySem.W.nsIn K mainGlobals "all"=some none)
  (z_any:PySem.W.nsIn K mainGlobals "any"=some none)
  (z_bool:PySem.W.nsIn K mainGlobals "bool"=some none)
  (z_enumerate:PySem.W.nsIn K mainGlobals "enumerate"=some none)
  (z_isinstance:PySem.W.nsIn K mainGlobals "isinstance"=some none)
  (z_len:PySem.W.nsIn K mainGlobals "len"=some none)
  (z_list:PySem.W.nsIn K mainGlobals "list"=some none)
  (z_range:PySem.W.nsIn K mainGlobals "range"=some none)
  (z_set:PySem.W.nsIn K mainGlobals "set"=some none)
  (z_sorted:PySem.W.nsIn K mainGlobals "sorted"=some none)
  (z_sum:PySem.W.nsIn K mainGlobals "sum"=some none)
  : ∃ fd : FuncData,(∀ (s:Shared) (v:Value),BindsTo s fd ⟨[v],[]⟩ [("_law_script",v)]) /\ ∃ a : Wa,∃ W : Wd K mg a,a.f_1=fa /\ a.fd_1=fd:=by
 have e:=hfa.symm.trans (PySem.W.mg_of X G a_1)
 cases e
 have F_6:=zbo (st:=s_6) l_6 c_6 k_6
 have F_44:=zbo (st:=zkz) l_44 c_44 k_44
 have F_26:=zbo (st:=zks) l_26 c_26 k_26
 have F_18:=zbo (st:=zjz) l_18 c_18 k_18
 have F_47:=zbo (st:=zkn) l_47 c_47 k_47
 have F_27:=zbo (st:=zka) l_27 c_27 k_27
 have F_48:=zbo (st:=zi6) l_48 c_48 k_48
 have F_49:=zbo (st:=zjy) l_49 c_49 k_49
 have F_50:=zbo (st:=zkq) l_50 c_50 k_50
 have F_40:=zbo (st:=zi9) l_40 c_40 k_40
 have F_41:=zbo (st:=zi1) l_41 c_41 k_41
 have F_51:=zbo (st:=zjj) l_51 c_51 k_51
 have F_11:=zbo (st:=zix) l_11 c_11 k_11
 have F_3:=zbo (st:=s_3) l_3 c_3 k_3
 have F_42:=zbo (st:=zk0) l_42 c_42 k_42
 have F_52:=zbo (st:=zkh) l_52 c_52 k_52
 have F_43:=zbo (st:=zk5) l_43 c_43 k_43
 have F_36:=zbo (st:=zjo) l_36 c_36 k_36
 have F_28:=zbo (st:=zj1) l_28 c_28 k_28
 have F_29:=zbo (st:=zj5) l_29 c_29 k_29
 have F_37:=zbo (st:=zi3) l_37 c_37 k_37
 have F_4:=zbo (st:=s_4) l_4 c_4 k_4
 have F_0:=zbo (st:=s_0) l_0 c_0 k_0
 have F_38:=zbo (st:=zk9) l_38 c_38 k_38
 have F_30:=zbo (st:=zj0) l_30 c_30 k_30
 have F_39:=zbo (st:=zi4) l_39 c_39 k_39
 have F_19:=zbo (st:=zjl) l_19 c_19 k_19
 have F_7:=zbo (st:=s_7) l_7 c_7 k_7
 have F_45:=zbo (st:=zjt) l_45 c_45 k_45
 have F_5:=zbo (st:=s_5) l_5 c_5 k_5
 have F_46:=zbo (st:=zjc) l_46 c_46 k_46
 have F_20:=zbo (st:=ziy) l_20 c_20 k_20
 have F_12:=zbo (st:=zjf) l_12 c_12 k_12
 have F_31:=zbo (st:=zkw) l_31 c_31 k_31
 have F_35:=zbo (st:=zkf) l_35 c_35 k_35
 have F_32:=zbo (st:=zj2) l_32 c_32 k_32
 have F_21:=zbo (st:=zla) l_21 c_21 k_21
 have F_8:=zbo (st:=s_8) l_8 c_8 k_8
 have F_2:=zbo (st:=s_2) l_2 c_2 k_2
 have F_53:=zbo (st:=zju) l_53 c_53 k_53
 have F_9:=zbo (st:=s_9) l_9 c_9 k_9
 have F_33:=zbo (st:=zjh) l_33 c_33 k_33
 have F_34:=zbo (st:=zjp) l_34 c_34 k_34
 have F_10:=zbo (st:=zkd) l_10 c_10 k_10
 have F_13:=zbo (st:=zkx) l_13 c_13 k_13
 have F_1:=zbo (st:=s_1) l_1 c_1 k_1
 have F_54:=zbo (st:=zjk) l_54 c_54 k_54
 have F_22:=zbo (st:=zi2) l_22 c_22 k_22
 have F_14:=zbo (st:=zi0) l_14 c_14 k_14
 have F_55:=zbo (st:=zkk) l_55 c_55 k_55
 have F_23:=zbo (st:=zke) l_23 c_23 k_23
 have F_15:=zbo (st:=zko) l_15 c_15 k_15
 have F_56:=zbo (st:=zk1) l_56 c_56 k_56
 have F_24:=zbo (st:=zkm) l_24 c_24 k_24
 have F_16:=zbo (st:=zjn) l_16 c_16 k_16
 have F_57:=zbo (st:=zjx) l_57 c_57 k_57
 have F_25:=zbo (st:=zj6) l_25 c_25 k_25
 have F_17:=zbo (st:=zk8) l_17 c_17 k_17
 exact ⟨PySem.W.fnOf "law" "law" (zbb s_1) (za8 s_1) (zam s_1) .none kV_1 dc_1 pm_1 an_1 cd_1 ct_1,fun s v=>.of_eq rfl,{
  f_6:=f_6,
  fd_6:=_,
  f_44:=f_44,
  fd_44:=_,
  f_26:=f_26,
  fd_26:=_,
  f_18:=f_18,
  fd_18:=_,
  f_47:=f_47,
  fd_47:=_,
  f_27:=f_27,
  fd_27:=_,
  f_48:=f_48,
  fd_48:=_,
  f_49:=f_49,
  fd_49:=_,
  f_50:=f_50,
  fd_50:=_,
  f_40:=f_40,
  fd_40:=_,
  f_41:=f_41,
  fd_41:=_,
  f_51:=f_51,
  fd_51:=_,
  f_11:=f_11,
  fd_11:=_,
  f_3:=f_3,
  fd_3:=_,
  f_42:=f_42,
  fd_42:=_,
  f_52:=f_52,
  fd_52:=_,
  f_43:=f_43,
  fd_43:=_,
  f_36:=f_36,
  fd_36:=_,
  f_28:=f_28,
  fd_28:=_,
  f_29:=f_29,
  fd_29:=_,
  f_37:=f_37,
  fd_37:=_,
  f_4:=f_4,
  fd_4:=_,
  f_0:=f_0,
  fd_0:=_,
  f_38:=f_38,
  fd_38:=_,
  f_30:=f_30,
  fd_30:=_,
  f_39:=f_39,
  fd_39:=_,
  f_19:=f_19,
  fd_19:=_,
  f_7:=f_7,
  fd_7:=_,
  f_45:=f_45,
  fd_45:=_,
  f_5:=f_5,
  fd_5:=_,
  f_46:=f_46,
  fd_46:=_,
  f_20:=f_20,
  fd_20:=_,
  f_12:=f_12,
  fd_12:=_,
  f_31:=f_31,
  fd_31:=_,
  f_35:=f_35,
  fd_35:=_,
  f_32:=f_32,
  fd_32:=_,
  f_21:=f_21,
  fd_21:=_,
  f_8:=f_8,
  fd_8:=_,
  f_2:=f_2,
  fd_2:=_,
  f_53:=f_53,
  fd_53:=_,
  f_9:=f_9,
  fd_9:=_,
  f_33:=f_33,
  fd_33:=_,
  f_34:=f_34,
  fd_34:=_,
  f_10:=f_10,
  fd_10:=_,
  f_13:=f_13,
  fd_13:=_,
  f_1:=f_1,
  fd_1:=_,
  f_54:=f_54,
  fd_54:=_,
  f_22:=f_22,
  fd_22:=_,
  f_14:=f_14,
  fd_14:=_,
  f_55:=f_55,
  fd_55:=_,
  f_23:=f_23,
  fd_23:=_,
  f_15:=f_15,
  fd_15:=_,
  f_56:=f_56,
  fd_56:=_,
  f_24:=f_24,
  fd_24:=_,
  f_16:=f_16,
  fd_16:=_,
  f_57:=f_57,
  fd_57:=_,
  f_25:=f_25,
  fd_25:=_,
  f_17:=f_17,
  fd_17:=_,
  C_In:=C_In,
  C_Out:=C_Out,
  C_Least:=C_Least,
  C_Most:=C_Most },{
  F_6:=F_6,
  b_6:=F_6.binds fun _ _ _ _ _ _ us hl=>by
   revert us hl
   exact zcw fun _ _=>rfl,
  g_6:=PySem.W.mg_of X G a_6,
  F_44:=F_44,
  b_44:=F_44.binds fun _ _ _ _ _ _ us hl=>by
   revert us hl
   exact zkr fun _=>rfl,
  g_44:=PySem.W.mg_of X G a_44,
  F_26:=F_26,
  b_26:=F_26.binds fun _ _ _ _ _ _ us hl=>by
   revert us hl
   exact zcw fun _ _=>rfl,
  g_26:=PySem.W.mg_of X G a_26,
  F_18:=F_18,
  b_18:=F_18.binds fun _ _ _ _ _ _ us hl=>by
   revert us hl
   exact zcw fun _ _=>rfl,
  g_18:=PySem.W.mg_of X G a_18,
  F_47:=F_47,
  b_47:=F_47.binds fun _ _ _ _ _ _ us hl=>by
   revert us hl
   exact zcw fun _ _=>rfl,
  g_47:=PySem.W.mg_of X G a_47,
  F_27:=F_27,
  b_27:=F_27.binds fun _ _ _ _ _ _ us hl=>by
   revert us hl
   exact zkr fun _=>rfl,
  g_27:=PySem.W.mg_of X G a_27,
  F_48:=F_48,
  b_48:=F_48.binds fun _ _ _ _ _ _ us hl=>by
   revert us hl
   exact zcw fun _ _=>rfl,
  g_48:=PySem.W.mg_of X G a_48,
  F_49:=F_49,
  b_49:=F_49.binds fun _ _ _ _ _ _ us hl=>by
   revert us hl
   exact zef fun _ _ _=>rfl,
  g_49:=PySem.W.mg_of X G a_49,
  F_50:=F_50,
  b_50:=F_50.binds fun _ _ _ _ _ _ us hl=>by
   revert us hl
   exact zcw fun _ _=>rfl,
  g_50:=PySem.W.mg_of X G a_50,
  F_40:=F_40,
  b_40:=F_40.binds fun _ _ _ _ _ _ us hl=>by
   revert us hl
   exact zef fun _ _ _=>rfl,
  g_40:=PySem.W.mg_of X G a_40,
  F_41:=F_41,
  b_41:=F_41.binds fun _ _ _ _ _ _ us hl=>by
   revert us hl
   exact zef fun _ _ _=>rfl,
  g_41:=PySem.W.mg_of X G a_41,
  F_51:=F_51,
  b_51:=F_51.binds fun _ _ _ _ _ _ us hl=>by
   revert us hl
   exact zcw fun _ _=>rfl,
  g_51:=PySem.W.mg_of X G a_51,
  F_11:=F_11,
  b_11:=F_11.binds fun _ _ _ _ _ _ us hl=>by
   revert us hl
   exact zlz fun _ _ _ _ _=>rfl,
  g_11:=PySem.W.mg_of X G a_11,
  F_3:=F_3,
  b_3:=F_3.binds fun _ _ _ _ _ _ us hl=>by
   revert us hl
   exact zcw fun _ _=>rfl,
  g_3:=PySem.W.mg_of X G a_3,
  F_42:=F_42,
  b_42:=F_42.binds fun _ _ _ _ _ _ us hl=>by
   revert us hl
   exact zef fun _ _ _=>rfl,
  g_42:=PySem.W.mg_of X G a_42,
  F_52:=F_52,
  b_52:=F_52.binds fun _ _ _ _ _ _ us hl=>by
   revert us hl
   exact zcw fun _ _=>rfl,
  g_52:=PySem.W.mg_of X G a_52,
  F_43:=F_43,
  b_43:=F_43.binds fun _ _ _ _ _ _ us hl=>by
   revert us hl
   exact zlz fun _ _ _ _ _=>rfl,
  g_43:=PySem.W.mg_of X G a_43,
  F_36:=F_36,
  b_36:=F_36.binds fun _ _ _ _ _ _ us hl=>by
   revert us hl
   exact zq4 fun _ _ _ _=>rfl,
  g_36:=PySem.W.mg_of X G a_36,
  F_28:=F_28,
  b_28:=F_28.binds fun _ _ _ _ _ _ us hl=>by
   revert us hl
   exact zcw fun _ _=>rfl,
  g_28:=PySem.W.mg_of X G a_28,
  F_29:=F_29,
  b_29:=F_29.binds fun _ _ _ _ _ _ us hl=>by
   revert us hl
   exact zlz fun _ _ _ _ _=>rfl,
  g_29:=PySem.W.mg_of X G a_29,
  F_37:=F_37,
  b_37:=F_37.binds fun _ _ _ _ _ _ us hl=>by
   revert us hl
   exact zef fun _ _ _=>rfl,
  g_37:=PySem.W.mg_of X G a_37,
  F_4:=F_4,
  b_4:=F_4.binds fun _ _ _ _ _ _ us hl=>by
   revert us hl
   exact zcw fun _ _=>rfl,
  g_4:=PySem.W.mg_of X G a_4,
  F_0:=F_0,
  b_0:=F_0.binds fun _ _ _ _ _ _ us hl=>by
   revert us hl
   exact zcw fun _ _=>rfl,
  g_0:=PySem.W.mg_of X G a_0,
  F_38:=F_38,
  b_38:=F_38.binds fun _ _ _ _ _ _ us hl=>by
   revert us hl
   exact zkr fun _=>rfl,
  g_38:=PySem.W.mg_of X G a_38,
  F_30:=F_30,
  b_30:=F_30.binds fun _ _ _ _ _ _ us hl=>by
   revert us hl
   exact zcw fun _ _=>rfl,
  g_30:=PySem.W.mg_of X G a_30,
  F_39:=F_39,
  b_39:=F_39.binds fun _ _ _ _ _ _ us hl=>by
   revert us hl
   exact zef fun _ _ _=>rfl,
  g_39:=PySem.W.mg_of X G a_39,
  F_19:=F_19,
  b_19:=F_19.binds fun _ _ _ _ _ _ us hl=>by
   revert us hl
   exact zcw fun _ _=>rfl,
  g_19:=PySem.W.mg_of X G a_19,
  F_7:=F_7,
  b_7:=F_7.binds fun _ _ _ _ _ _ us hl=>by
   revert us hl
   exact zkr fun _=>rfl,
  g_7:=PySem.W.mg_of X G a_7,
  F_45:=F_45,
  b_45:=F_45.binds fun _ _ _ _ _ _ us hl=>by
   revert us hl
   exact zcw fun _ _=>rfl,
  g_45:=PySem.W.mg_of X G a_45,
  F_5:=F_5,
  b_5:=F_5.binds fun _ _ _ _ _ _ us hl=>by
   revert us hl
   exact zcw fun _ _=>rfl,
  g_5:=PySem.W.mg_of X G a_5,
  F_46:=F_46,
  b_46:=F_46.binds fun _ _ _ _ _ _ us hl=>by
   revert us hl
   exact zef fun _ _ _=>rfl,
  g_46:=PySem.W.mg_of X G a_46,
  F_20:=F_20,
  b_20:=F_20.binds fun _ _ _ _ _ _ us hl=>by
   revert us hl
   exact zef fun _ _ _=>rfl,
  g_20:=PySem.W.mg_of X G a_20,
  F_12:=F_12,
  b_12:=F_12.binds fun _ _ _ _ _ _ us hl=>by
   revert us hl
   exact zcw fun _ _=>rfl,
  g_12:=PySem.W.mg_of X G a_12,
  F_31:=F_31,
  b_31:=F_31.binds fun _ _ _ _ _ _ us hl=>by
   revert us hl
   exact zcw fun _ _=>rfl,
  g_31:=PySem.W.mg_of X G a_31,
  F_35:=F_35,
  b_35:=F_35.binds fun _ _ _ _ _ _ us hl=>by
   revert us hl
   exact zlz fun _ _ _ _ _=>rfl,
  g_35:=PySem.W.mg_of X G a_35,
  F_32:=F_32,
  b_32:=F_32.binds fun _ _ _ _ _ _ us hl=>by
   revert us hl
   exact zef fun _ _ _=>rfl,
  g_32:=PySem.W.mg_of X G a_32,
  F_21:=F_21,
  b_21:=F_21.binds fun _ _ _ _ _ _ us hl=>by
   revert us hl
   exact zq4 fun _ _ _ _=>rfl,
  g_21:=PySem.W.mg_of X G a_21,
  F_8:=F_8,
  b_8:=F_8.binds fun _ _ _ _ _ _ us hl=>by
   revert us hl
   exact zlz fun _ _ _ _ _=>rfl,
  g_8:=PySem.W.mg_of X G a_8,
  F_2:=F_2,
  b_2:=F_2.binds fun _ _ _ _ _ _ us hl=>by
   revert us hl
   exact zyf fun _ _ _ _ _ _=>rfl,
  g_2:=PySem.W.mg_of X G a_2,
  F_53:=F_53,
  b_53:=F_53.binds fun _ _ _ _ _ _ us hl=>by
   revert us hl
   exact zef fun _ _ _=>rfl,
  g_53:=PySem.W.mg_of X G a_53,
  F_9:=F_9,
  b_9:=F_9.binds fun _ _ _ _ _ _ us hl=>by
   revert us hl
   exact zcw fun _ _=>rfl,
  g_9:=PySem.W.mg_of X G a_9,
  F_33:=F_33,
  b_33:=F_33.binds fun _ _ _ _ _ _ us hl=>by
   revert us hl
   exact zcw fun _ _=>rfl,
  g_33:=PySem.W.mg_of X G a_33,
  F_34:=F_34,
  b_34:=F_34.binds fun _ _ _ _ _ _ us hl=>by
   revert us hl
   exact zkr fun _=>rfl,
  g_34:=PySem.W.mg_of X G a_34,
  F_10:=F_10,
  b_10:=F_10.binds fun _ _ _ _ _ _ us hl=>by
   revert us hl
   exact zcw fun _ _=>rfl,
  g_10:=PySem.W.mg_of X G a_10,
  F_13:=F_13,
  b_13:=F_13.binds fun _ _ _ _ _ _ us hl=>by
   revert us hl
   exact zq4 fun _ _ _ _=>rfl,
  g_13:=PySem.W.mg_of X G a_13,
  F_1:=F_1,
  b_1:=F_1.binds fun _ _ _ _ _ _ us hl=>by
   revert us hl
   exact zkr fun _=>rfl,
  g_1:=PySem.W.mg_of X G a_1,
  F_54:=F_54,
  b_54:=F_54.binds fun _ _ _ _ _ _ us hl=>by
   revert us hl
   exact zcw fun _ _=>rfl,
  F_22:=F_22,
  b_22:=F_22.binds fun _ _ _ _ _ _ us hl=>by
   revert us hl
   exact zcw fun _ _=>rfl,
  F_14:=F_14,
  b_14:=F_14.binds fun _ _ _ _ _ _ us hl=>by
   revert us hl
   exact zef fun _ _ _=>rfl,
  F_55:=F_55,
  b_55:=F_55.binds fun _ _ _ _ _ _ us hl=>by
   revert us hl
   exact zcw fun _ _=>rfl,
  F_23:=F_23,
  b_23:=F_23.binds fun _ _ _ _ _ _ us hl=>by
   revert us hl
   exact zcw fun _ _=>rfl,
  F_15:=F_15,
  b_15:=F_15.binds fun _ _ _ _ _ _ us hl=>by
   revert us hl
   exact zef fun _ _ _=>rfl,
  F_56:=F_56,
  b_56:=F_56.binds fun _ _ _ _ _ _ us hl=>by
   revert us hl
   exact zef fun _ _ _=>rfl,
  F_24:=F_24,
  b_24:=F_24.binds fun _ _ _ _ _ _ us hl=>by
   revert us hl
   exact zcw fun _ _=>rfl,
  F_16:=F_16,
  b_16:=F_16.binds fun _ _ _ _ _ _ us hl=>by
   revert us hl
   exact zef fun _ _ _=>rfl,
  F_57:=F_57,
  b_57:=F_57.binds fun _ _ _ _ _ _ us hl=>by
   revert us hl
   exact zef fun _ _ _=>rfl,
  F_25:=F_25,
  b_25:=F_25.binds fun _ _ _ _ _ _ us hl=>by
   revert us hl
   exact zcw fun _ _=>rfl,
  F_17:=F_17,
  b_17:=F_17.binds fun _ _ _ _ _ _ us hl=>by
   revert us hl
   exact zef fun _ _ _=>rfl,
  g_In:=PySem.W.mg_of X G aC_In,
  cl_In:=⟨pg_In,hd_In,po_In,sa_In⟩,
  mk_In:=⟨mk_In,a_54,i_54,kc_In⟩,
  na_In_thing:=na_In_thing,
  m_22:=⟨a_22,i_22,k_22⟩,
  m_14:=⟨a_14,i_14,k_14⟩,
  g_Out:=PySem.W.mg_of X G aC_Out,
  cl_Out:=⟨pg_Out,hd_Out,po_Out,sa_Out⟩,
  mk_Out:=⟨mk_Out,a_55,i_55,kc_Out⟩,
  na_Out_thing:=na_Out_thing,
  m_23:=⟨a_23,i_23,k_23⟩,
  m_15:=⟨a_15,i_15,k_15⟩,
  g_Least:=PySem.W.mg_of X G aC_Least,
  cl_Least:=⟨pg_Least,hd_Least,po_Least,sa_Least⟩,
  mk_Least:=⟨mk_Least,a_56,i_56,kc_Least⟩,
  na_Least_bound:=na_Least_bound,
  na_Least_pieces:=na_Least_pieces,
  m_24:=⟨a_24,i_24,k_24⟩,
  m_16:=⟨a_16,i_16,k_16⟩,
  g_Most:=PySem.W.mg_of X G aC_Most,
  cl_Most:=⟨pg_Most,hd_Most,po_Most,sa_Most⟩,
  mk_Most:=⟨mk_Most,a_57,i_57,kc_Most⟩,
  na_Most_bound:=na_Most_bound,
  na_Most_pieces:=na_Most_pieces,
  m_25:=⟨a_25,i_25,k_25⟩,
  m_17:=⟨a_17,i_17,k_17⟩,
  kt_NoneType_bool:=kt_NoneType_bool,
  kt_bool_bool:=kt_bool_bool,
  kt_int_bool:=kt_int_bool,
  kt_str_bool:=kt_str_bool,
  kt_list_bool:=kt_list_bool,
  kt_tuple_bool:=kt_tuple_bool,
  kt_dict_bool:=kt_dict_bool,
  z_all:=PySem.W.mg_none_of X G z_all,
  z_any:=PySem.W.mg_none_of X G z_any,
  z_bool:=PySem.W.mg_none_of X G z_bool,
  z_enumerate:=PySem.W.mg_none_of X G z_enumerate,
  z_isinstance:=PySem.W.mg_none_of X G z_isinstance,
  z_len:=PySem.W.mg_none_of X G z_len,
  z_list:=PySem.W.mg_none_of X G z_list,
  z_range:=PySem.W.mg_none_of X G z_range,
  z_set:=PySem.W.mg_none_of X G z_set,
  z_sorted:=PySem.W.mg_none_of X G z_sorted,
  z_sum:=PySem.W.mg_none_of X G z_sum },rfl,rfl⟩
end
end N_k43
theorem PySem.W.Fast.te6363847994486012448 : True:=trivial
theorem PySem.W.Fast.te10366247007765732405 : True:=trivial
theorem PySem.W.Fast.te12955078207600606297 : True:=trivial
theorem PySem.W.Fast.te11297952544626228956 : True:=trivial
theorem PySem.W.Fast.te12039990484382907452 : True:=trivial
theorem PySem.W.Fast.te6043174518311596566 : True:=trivial
theorem PySem.W.Fast.te13483489156269952911 : True:=trivial
theorem PySem.W.Fast.te16686042607400431069 : True:=trivial
theorem PySem.W.Fast.te60936908914341183 : True:=trivial
theorem PySem.W.Fast.te9085713100248527019 : True:=trivial
theorem PySem.W.Fast.te6480441816811312083 : True:=trivial
theorem PySem.W.Fast.te17689948472631578347 : True:=trivial
theorem PySem.W.Fast.te8474818130987959597 : True:=trivial
theorem PySem.W.Fast.te4039763150296763649 : True:=trivial
theorem PySem.W.Fast.te10888796598024128987 : True:=trivial
theorem PySem.W.Fast.te4930694555325318229 : True:=trivial
theorem PySem.W.Fast.te4431106024729603785 : True:=trivial
open PySem PySem.W PyProof.Rows
set_option maxRecDepth 100000 in
set_option maxHeartbeats 0 in
theorem PySem.Challenge.cw_standstill_k43_whole_papers_bar_the_rest_holds : PySem.Challenge.rw_standstill_k43_whole_papers_bar_the_rest.Holds := by
 w_on; o_law; k_head; (case hw=>w_witness2)
 k_fill
 refine L2.walk_ofK (l:=PySem.Challenge.rw_standstill_k43_whole_papers_bar_the_rest) (n:=63) (k:=15) (x:="_law_script") (CX:=L2.CX0) (sp:=N_k43.sp_law) rfl (by decide) rfl ⟨rfl,by decide,by decide⟩ (fun w h Y=>PySem.W.kIn_of Y) ?F (fun _ _ a ns hl _ hS=>N_k43.sp_law_of hl hS) (fun _ _ _ _ z=>z)
 case F =>
  intro w mg fa h KX G hmg
  have TT : ∃ fd : FuncData,(∀ (s:Shared) (v:Value),BindsTo s fd ⟨[v],[]⟩ [("_law_script",v)]) /\ ∃ a : N_k43.Wa,∃ W : N_k43.Wd (L2.KOf KX) mg a,a.f_1=fa /\ a.fd_1=fd:=by
   dsimp only [L2.KOf]
   refine' N_k43.all_mk (l:=PySem.Challenge.rw_standstill_k43_whole_papers_bar_the_rest) (w:=w) KX G hmg ..
   all_goals first | k_is | kit_is | skip
  obtain ⟨fd,hb,a,W,e1,e2⟩:=TT
  subst e1 e2
  exact ⟨_,hb,fun base kb nb=>N_k43.law_ok W⟩
