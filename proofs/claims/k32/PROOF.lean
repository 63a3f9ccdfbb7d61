import PyProof.Rows.All
import Wide.All
import OpenK.AllK
import Wide.FinOn
import Lean
import PyProof.EqAt
import PyProof.EqKinds
import PyProof.TupleCall
import PyProof.NeKinds
import PySem.Challenge.RW_standstill_k32_loose_is_greatest
set_option Elab.async false
set_option genSizeOf false
set_option linter.all false
set_option maxRecDepth 100000
namespace L2
open PySem PySem.Spec PyProof.Rows
noncomputable abbrev Key:=Sum Int Str
noncomputable def zhh : Key->Value->Bool
 | .inl k,v=>Value.isInt k v
 | .inr x,v=>Value.isStrOf x v
noncomputable def zso (w:World) : Key->Int
 | .inl k=>hashInt k
 | .inr x=>hashStr w x
theorem zff : ∀ {k:Key} {v:Value},zhh k v=true->(∃ i t,k=Sum.inl i/\v=Value.int i t)\/(∃ x t,k=Sum.inr x/\v=Value.str x t)
 | .inl i,v,h=>by
  obtain ⟨t,e⟩:=Value.isInt_shape (k:=i) (v:=v) h
  exact .inl ⟨i,t,rfl,e⟩
 | .inr x,v,h=>by
  obtain ⟨t,e⟩:=Value.isStrOf_shape (x:=x) (v:=v) h;exact .inr ⟨x,t,rfl,e⟩
theorem zsp (i:Int) (t:Tok) : zhh (.inl i) (.int i t)=true:=by simp [zhh,Value.isInt]
theorem zsq (x:Str) (t:Tok) : zhh (.inr x) (.str x t)=true:=by simp [zhh,Value.isStrOf]
theorem zln (a b:Int) : decide ((Sum.inl a : Key)=Sum.inl b)=(a==b):=by
 by_cases e : a=b
 ·subst e; simp
 ·have h : ¬ (Sum.inl a : Key)=Sum.inl b:=fun q=>e (Sum.inl.inj q);rw [decide_eq_false h];exact (beq_eq_false_iff_ne.mpr e).symm
theorem zss (a b:Str) : decide ((Sum.inr a : Key)=Sum.inr b)=decide (a=b):=by
 by_cases e : a=b
 ·subst e; simp
 ·have h : ¬ (Sum.inr a : Key)=Sum.inr b:=fun q=>e (Sum.inr.inj q);rw [decide_eq_false h,decide_eq_false e]
theorem zn4 (a:Int) (b:Str) : decide ((Sum.inl a : Key)=Sum.inr b)=false:=decide_eq_false (fun q=>nomatch q)
theorem zn6 (a:Str) (b:Int) : decide ((Sum.inr a : Key)=Sum.inl b)=false:=decide_eq_false (fun q=>nomatch q)
noncomputable def zgl (prog:Program) (w:World) : PySem.KeyKind prog w Key where
 is:=zhh
 hash:=zso w
 inj:=fun v a b ha hb=>by
  rcases zff ha with ⟨i,t,rfl,rfl⟩ | ⟨x,t,rfl,rfl⟩
  ·rcases zff hb with ⟨j,u,rfl,e⟩ | ⟨y,u,rfl,e⟩
   ·injection e with e1 _; rw [e1]
   ·exact nomatch e
  ·rcases zff hb with ⟨j,u,rfl,e⟩ | ⟨y,u,rfl,e⟩
   ·exact nomatch e
   ·injection e with e1 _; rw [e1]
 byValue:=fun k v h=>by
  rcases zff h with ⟨i,t,rfl,rfl⟩ | ⟨x,t,rfl,rfl⟩ <;> rfl
 pyHash:=fun hv h=>by
  rcases zff hv with ⟨i,t,rfl,rfl⟩ | ⟨x,t,rfl,rfl⟩
  ·exact wpAny_pyHash_int h
  ·exact wpAny_pyHash_str h
 eqBool:=fun hu hv h=>by
  rcases zff hu with ⟨i,t,rfl,rfl⟩ | ⟨x,t,rfl,rfl⟩
  ·rcases zff hv with ⟨j,u,rfl,rfl⟩ | ⟨y,u,rfl,rfl⟩
   ·rw [zln] at h; exact wpAny_eqBool_int h
   ·rw [zn4] at h; exact SeqAt.EqAt.int_str i t y u _ _ _ _ h
  ·rcases zff hv with ⟨j,u,rfl,rfl⟩ | ⟨y,u,rfl,rfl⟩
   ·rw [zn6] at h; exact SeqAt.EqAt.str_int x t j u _ _ _ _ h
   ·rw [zss] at h; exact wpAny_eqBool_str h
 «strs»:=fun k x t v h=>by
  rcases zff h with ⟨i,u,rfl,e⟩ | ⟨y,u,rfl,e⟩
  ·exact nomatch e
  ·injection e with e1 _
   subst e1
   cases v <;> rfl
theorem z1n (prog:Program) (w:World) (i:Int) (t:Tok) : (zgl prog w).is (.inl i) (.int i t)=true:=zsp i t
theorem z1o (prog:Program) (w:World) (x:Str) (t:Tok) : (zgl prog w).is (.inr x) (.str x t)=true:=zsq x t
inductive V where
 | non | bl (b:Bool) | int (i:Int) | str (x:Str) | byt (b:Array UInt8) | flt (b:UInt64) | ref (a:Addr) | ty (n:String)
 deriving DecidableEq
noncomputable def zaq : V->Value->Prop
 | .non,u=>u=Value.none
 | .bl b,u=>u=Value.bool b
 | .int i,u=>∃ t,u=Value.int i t
 | .str x,u=>∃ t,u=Value.str x t
 | .byt b,u=>∃ t,u=Value.bytes b t
 | .flt b,u=>∃ t,u=Value.float b t
 | .ref a,u=>u=Value.ref a
 | .ty n,u=>u=Value.type n
noncomputable abbrev zak : List V->List Value->Prop:=Paired zaq
theorem zak.length {xs:List V} {us:List Value} (r:zak xs us) : xs.length=us.length:=Paired.length r
theorem zak.get : ∀ {xs:List V} {us:List Value} {i:Nat} {x:V},zak xs us->xs[i]?=some x->∃ u,us[i]?=some u/\zaq x u
 | _,_,_,_,.nil,e=>by simp at e
 | _,_,0,_,.cons r _,e=>by simp at e; subst e; exact ⟨_,rfl,r⟩
 | _,_,i + 1,x,.cons _ t,e=>by
  obtain ⟨u,h1,h2⟩:=zak.get (i:=i) (x:=x) t (by simpa using e);exact ⟨u,by simpa using h1,h2⟩
theorem zak.set {x:V} {u:Value} (r:zaq x u) : ∀ {xs:List V} {us:List Value} (i:Nat),zak xs us->zak (xs.set i x) (us.set i u)
 | _,_,_,.nil=>.nil
 | _,_,0,.cons _ t=>.cons r t
 | _,_,i + 1,.cons q t=>.cons q (zak.set r i t)
theorem zak.append : ∀ {xs ys:List V} {us ws:List Value},zak xs us->zak ys ws->zak (xs++ys) (us++ws)
 | _,_,_,_,.nil,s=>s
 | _,_,_,_,.cons r t,s=>.cons r (zak.append t s)
theorem zak.take : ∀ {xs:List V} {us:List Value} (n:Nat),zak xs us->zak (xs.take n) (us.take n)
 | _,_,0,_=>.nil
 | _,_,_ + 1,.nil=>.nil
 | _,_,n + 1,.cons r t=>.cons r (zak.take n t)
theorem zak.drop : ∀ {xs:List V} {us:List Value} (n:Nat),zak xs us->zak (xs.drop n) (us.drop n)
 | _,_,0,r=>r
 | _,_,_ + 1,.nil=>.nil
 | _,_,n + 1,.cons _ t=>zak.drop n t
theorem zak.none_of : ∀ {xs:List V} {us:List Value} {i:Nat},zak xs us->xs[i]?=none->us[i]?=none:=fun {xs us i} r e=>by
 have h1:=r.length;have h2 : xs.length<=i:=List.getElem?_eq_none_iff.mp e;exact List.getElem?_eq_none_iff.mpr (by omega)
noncomputable def zda : Option V->Option Value->Prop
 | some v,some u=>zaq v u
 | none,none=>True
 | _,_=>False
noncomputable def KV {κ : Type} : List (κ×V)->List (κ×Value)->Prop:=Paired fun (p:κ×V) (q:κ×Value)=>p.1=q.1/\zaq p.2 q.2
noncomputable def kV : Key->V
 | .inl i=>.int i
 | .inr x=>.str x
noncomputable def kR : Key->V->Prop
 | .inl i,v=>v=.int i\/∃ b : Bool,v=.bl b/\i=cond b 1 0
 | .inr x,v=>v=.str x
noncomputable def zn3 : Key->Value->Bool
 | .inl k,.bool b=>decide (k=cond b 1 0)
 | k,v=>zhh k v
theorem zhi {k:Key} {v:Value} (h:zn3 k v=true) : (∃ i t,k=.inl i/\v=.int i t)\/(∃ b : Bool,k=.inl (cond b 1 0)/\v=.bool b)\/(∃ x t,k=.inr x/\v=.str x t):=by
 unfold zn3 at h;split at h
 ·rename_i k' b; exact .inr (.inl ⟨b,by rw [of_decide_eq_true h],rfl⟩)
 ·rcases zff h with q | q
  ·exact .inl q
  ·exact .inr (.inr q)
theorem zz8 (a b:Bool) : decide ((Sum.inl (cond a 1 0) : Key)=Sum.inl (cond b 1 0))=(a==b):=by cases a <;> cases b <;> decide
theorem zz9 (a:Bool) (j:Int) : decide ((Sum.inl (cond a 1 0) : Key)=Sum.inl j)=((if a then 1 else 0)==j):=by rw [zln]; cases a <;> rfl
theorem zzl (j:Int) (a:Bool) : decide ((Sum.inl j : Key)=Sum.inl (cond a 1 0))=(j==(if a then 1 else 0)):=by rw [zln]; cases a <;> rfl
theorem zy8 {prog:Program} {w:World} {A:Around} {E:Value->Shared->Prop} {s:Shared} {b:Bool} {Q:Int->Shared->Prop} (h:Q (hashInt (cond b 1 0)) { s with toks:=s.toks + 1 }) : wpAny (model prog w) A (pyHash (.bool b)) Q E s:=by
 refine PySem.W.pyHash_slot (T:="bool") rfl PySem.F.slot_bool_hash PySem.entry_int_hash (PySem.args_int_hash _) (beq_builtin_none _) (.inl rfl) ?_;cases b
 ·exact (show wpAny _ _ (do ret (<- mkInt 0)) _ _ s from wpAny_bind (wpAny_mkInt (wpAny_pure ⟨_,_,rfl,h⟩)))
 ·exact (show wpAny _ _ (do ret (<- mkInt 1)) _ _ s from wpAny_bind (wpAny_mkInt (wpAny_pure ⟨_,_,rfl,h⟩)))
noncomputable def zgk (prog:Program) (w:World) : PySem.KeyKind prog w Key where
 is:=zn3
 hash:=zso w
 inj:=fun v a b ha hb=>by
  rcases zhi ha with ⟨i,t,rfl,rfl⟩ | ⟨c,rfl,rfl⟩ | ⟨x,t,rfl,rfl⟩ <;> rcases zhi hb with ⟨j,u,rfl,e⟩ | ⟨d,rfl,e⟩ | ⟨y,u,rfl,e⟩ <;> cases e <;> rfl
 byValue:=fun k v h=>by
  rcases zhi h with ⟨i,t,rfl,rfl⟩ | ⟨c,rfl,rfl⟩ | ⟨x,t,rfl,rfl⟩ <;> rfl
 pyHash:=fun hv h=>by
  rcases zhi hv with ⟨i,t,rfl,rfl⟩ | ⟨c,rfl,rfl⟩ | ⟨x,t,rfl,rfl⟩
  ·exact wpAny_pyHash_int h
  ·exact zy8 h
  ·exact wpAny_pyHash_str h
 eqBool:=fun hu hv h=>by
  rcases zhi hu with ⟨i,t,rfl,rfl⟩ | ⟨c,rfl,rfl⟩ | ⟨x,t,rfl,rfl⟩ <;> rcases zhi hv with ⟨j,u,rfl,rfl⟩ | ⟨d,rfl,rfl⟩ | ⟨y,u,rfl,rfl⟩
  ·rw [zln] at h; exact SeqAt.EqAt.int_int _ _ _ _ _ _ _ _ h
  ·rw [zzl] at h; exact SeqAt.EqAt.int_bool _ _ _ _ _ _ _ h
  ·rw [zn4] at h; exact SeqAt.EqAt.int_str _ _ _ _ _ _ _ _ h
  ·rw [zz9] at h; exact SeqAt.EqAt.bool_int _ _ _ _ _ _ _ h
  ·rw [zz8] at h; exact SeqAt.EqAt.bool_bool _ _ _ _ _ _ h
  ·rw [zn4] at h; exact SeqAt.EqAt.bool_str _ _ _ _ _ _ _ h
  ·rw [zn6] at h; exact SeqAt.EqAt.str_int _ _ _ _ _ _ _ _ h
  ·rw [zn6] at h; exact SeqAt.EqAt.str_bool _ _ _ _ _ _ _ h
  ·rw [zss] at h; exact wpAny_eqBool_str h
 «strs»:=fun k x t v h=>by
  rcases zhi h with ⟨i,u,rfl,e⟩ | ⟨c,rfl,e⟩ | ⟨y,u,rfl,e⟩
  ·exact nomatch e
  ·exact nomatch e
  ·injection e with e1 _
   subst e1
   cases v <;> rfl
theorem zz6 {P:Program} {w:World} {k:Key} {v:V} {u:Value} (q:kR k v) (r:zaq v u) : (zgk P w).is k u=true:=by
 cases k with
 | inl i =>
  rcases q with rfl | ⟨b,rfl,rfl⟩
  ·obtain ⟨t,e⟩:=(show ∃ t,u=Value.int i t from r); subst e; exact zsp i t
  ·cases (show u=Value.bool b from r); cases b <;> rfl
 | inr x=>cases (show v=V.str x from q); obtain ⟨t,e⟩:=(show ∃ t,u=Value.str x t from r); subst e; exact zsq x t
noncomputable abbrev KRs : List Key->List V->Prop:=Paired kR
theorem zsh {P:Program} {w:World} : ∀ {ks:List Key} {vs:List V} {us:List Value},KRs ks vs->zak vs us->ItemsAre (zgk P w) ks us
 | _,_,_,.nil,r=>by cases r; exact .nil
 | _,_,_,.cons q t,r=>by
  cases r with
  | cons h t'=>exact .cons (zz6 q h) (zsh t t')
inductive HO where
 | lst (xs:List V)
 | tup (xs:List V)
 | dK (kvs:List (Key×V)) | dT (kvs:List (List Key×V))
 | set (S:Int->Bool) (n:Nat)
 | ins (C dx:Addr) (fs:List (Str×V))
 | own (x:Addr)
 | xd (fs:List (Str×V))
 | met (f x:Addr)
 | rng (lo hi:Int)
 | frz (o:Obj) (u:HO)
 | tbl (ps:Array Value)
 | ext (φ : Heap->Prop)
noncomputable abbrev Hp:=Addr->Option HO
noncomputable def zc4 (H:Hp) (b:Addr) (k:List Key) : Prop:=∃ vs,H b=some (.tup vs)/\KRs k vs
theorem zc4.up {H H':Hp} {b:Addr} {k:List Key} (h:zc4 H b k) (ht:∀ b xs,H b=some (.tup xs)->H' b=some (.tup xs)) : zc4 H' b k:=let ⟨vs,e,q⟩:=h; ⟨vs,ht _ _ e,q⟩
noncomputable def upd (H:Hp) (a:Addr) (o:HO) : Hp:=fun b=>if b=a then some o else H b
theorem zbb {H:Hp} {a:Addr} {o:HO} : upd H a o a=some o:=by unfold upd; rw [if_pos rfl]
theorem zar {H:Hp} {a b:Addr} {o:HO} (h:b≠a) : upd H a o b=H b:=by unfold upd; rw [if_neg h]
theorem zov {H:Hp} {a b:Addr} {o u:HO} (h:H a=some o) (h':H b=some u) (d:o≠u) : a≠b:=by
 intro e; subst e; rw [h] at h'; exact d (Option.some.inj h')
theorem zcg {H:Hp} {a b:Addr} {o:HO} (h:H a=some o) (h':H b=none) : a≠b:=by
 intro e; subst e; rw [h] at h'; cases h'
section
variable (P:Program) (w:World)
noncomputable def zbv (H:Hp) (h:Heap) (a:Addr) : HO->Prop
 | .lst xs=>xs.length<=sizeLine/\∃ (its:List Value) (n:Nat),zak xs its/\h.get? a=some { cls:=.type "list",data:=.seq its.toArray n }
 | .tup xs=>xs.length<=sizeLine/\∃ its : List Value,zak xs its/\IsTup h a its.toArray
 | .dK kvs=>kvs.length<=sizeLine/\(a==sysModules)=false/\∃ vs,KV kvs vs/\h.DictOf (zgl P w) a vs
 | .dT kvs=>kvs.length<=sizeLine/\(a==sysModules)=false/\∃ xs : List (List Key×Addr×Value),
   Paired (fun (p:List Key×V) (q:List Key×Addr×Value)=>p.1=q.1/\zc4 H q.2.1 p.1/\zaq p.2 q.2.2) kvs xs /\
   ∃ o es ep,h.get? a=some o/\o.ExactDict/\o.data=.dict es ep/\es.toList=xs.map (entryOfKey (tupleKind (zgk P w)))/\(xs.map (·.1)).Nodup
 | .set S n=>h.SetOf (intKind P w) a S n
 | .ins C dx fs=>H dx=some (.own a)/\fs.length<=1000/\dx≠a/\h.get? a=some (PySem.W.instObj C dx) /\
   ∃ mA,h.Ns1 dx mA/\(∀ f,zda (fs.lookup f) (mA f))/\PySem.Within mA (fs.map (·.1))
 | .own _=>∃ o,h.get? a=some o
 | .xd fs=>∃ mA,h.Ns1 a mA/\∀ f,zda (fs.lookup f) (mA f)
 | .rng lo hi=>∃ t u v,h.get? a=some { cls:=.type "range",data:=.fields #[.int lo t,.int hi u,.int 1 v] }
 | .frz o u=>h.get? a=some o/\zbv H h a u
 | .tbl ps=>h.get? a=some { cls:=.none,data:=.fields ps }
 | .met f x=>h.get? a=some (PySem.W.methodObj (.ref f) (.ref x))
 | .ext φ=>φ h/\(∃ o,h.get? a=some o)/\∀ h1 h2 : Heap,φ h1->(∀ o,h1.get? a=some o->h2.get? a=some o)->φ h2
noncomputable def HOk (H:Hp) (h:Heap) : Prop:=∀ a o,H a=some o->zbv P w H h a o
end
section
variable {P:Program} {w:World} {H H':Hp} {h h':Heap} {a:Addr} {o:HO}
theorem zbv.lt (x:zbv P w H h a o) : a < h.objs.size:=by
 cases o with
 | lst xs=>obtain ⟨_,_,_,_,e⟩:=x; exact Heap.lt_size e
 | tup xs=>obtain ⟨_,_,_,p⟩:=x; exact p.lt
 | dK kvs=>obtain ⟨_,_,_,_,o,_,_,e,_⟩:=x; exact Heap.lt_size e
 | dT kvs=>obtain ⟨_,_,_,_,o,_,_,e,_⟩:=x; exact Heap.lt_size e
 | set S n=>obtain ⟨o,_,_,_,e,_⟩:=x; exact Heap.lt_size e
 | ins C dx fs=>obtain ⟨_,_,_,e,_⟩:=x; exact Heap.lt_size e
 | own y=>obtain ⟨_,e⟩:=x; exact Heap.lt_size e
 | xd fs=>obtain ⟨_,⟨_,_,_,e,_⟩,_⟩:=x; exact Heap.lt_size e
 | rng lo hi=>obtain ⟨_,_,_,e⟩:=x; exact Heap.lt_size e
 | frz ob u=>obtain ⟨e,_⟩:=x; exact Heap.lt_size e
 | tbl ps=>exact Heap.lt_size (show h.get? a=some _ from x)
 | met f y=>exact Heap.lt_size (show h.get? a=some _ from x)
 | ext φ=>obtain ⟨_,⟨_,e⟩,_⟩:=x; exact Heap.lt_size e
theorem Paired.mapP {α β : Type} {F G:α->β->Prop} : ∀ {l₁:List α} {l₂:List β},Paired F l₁ l₂->(∀ a b,F a b->G a b)->Paired G l₁ l₂
 | _,_,.nil,_=>.nil
 | _,_,.cons r t,f=>.cons (f _ _ r) (Paired.mapP t f)
theorem zbv.stay (x:zbv P w H h a o) (k:∀ b u,(b=a\/H b=some (.own a))->h.get? b=some u->h'.get? b=some u)
  (ho:∀ b,H b=some (.own a)->H' b=some (.own a)) (ht:∀ b xs,H b=some (.tup xs)->H' b=some (.tup xs)) : zbv P w H' h' a o:=by
 induction o with
 | lst xs=>obtain ⟨z,its,n,r,e⟩:=x; exact ⟨z,its,n,r,k _ _ (.inl rfl) e⟩
 | tup xs=>obtain ⟨z,its,r,ob,e,c⟩:=x; exact ⟨z,its,r,ob,k _ _ (.inl rfl) e,c⟩
 | dK kvs=>obtain ⟨z,y,vs,r,ob,es,ep,e,c⟩:=x; exact ⟨z,y,vs,r,ob,es,ep,k _ _ (.inl rfl) e,c⟩
 | dT kvs =>
  obtain ⟨z,y,xs,r,ob,es,ep,e,c⟩:=x
  exact ⟨z,y,xs,Paired.mapP r fun p q z=>⟨z.1,z.2.1.up ht,z.2.2⟩,ob,es,ep,k _ _ (.inl rfl) e,c⟩
 | set S n=>obtain ⟨ob,es,ep,t,e,c⟩:=x; exact ⟨ob,es,ep,t,k _ _ (.inl rfl) e,c⟩
 | ins C dx fs =>
  obtain ⟨d,z,ne,e,mA,⟨od,es,ep,e2,c⟩,r⟩:=x
  exact ⟨ho _ d,z,ne,k _ _ (.inl rfl) e,mA,⟨od,es,ep,k _ _ (.inr d) e2,c⟩,r⟩
 | own y=>obtain ⟨ob,e⟩:=x; exact ⟨ob,k _ _ (.inl rfl) e⟩
 | xd fs=>obtain ⟨mA,⟨od,es,ep,e,c⟩,r⟩:=x; exact ⟨mA,⟨od,es,ep,k _ _ (.inl rfl) e,c⟩,r⟩
 | rng lo hi=>obtain ⟨t,u,v,e⟩:=x; exact ⟨t,u,v,k _ _ (.inl rfl) e⟩
 | frz ob u ih=>obtain ⟨e,q⟩:=x; exact ⟨k _ _ (.inl rfl) e,ih q⟩
 | tbl ps =>
  have e : h.get? a=some { cls:=.none,data:=.fields ps }:=x;show h'.get? a=some { cls:=.none,data:=.fields ps }
  exact k a _ (.inl rfl) e
 | met f y =>
  have e : h.get? a=some (PySem.W.methodObj (.ref f) (.ref y)):=x;show h'.get? a=some (PySem.W.methodObj (.ref f) (.ref y))
  exact k a _ (.inl rfl) e
 | ext φ=>obtain ⟨p,⟨o,e⟩,st⟩:=x; exact ⟨st _ _ p fun o q=>k _ _ (.inl rfl) q,⟨o,k _ _ (.inl rfl) e⟩,st⟩
theorem HOk.lt (x:HOk P w H h) (e:H a=some o) : a < h.objs.size:=(x a o e).lt
theorem HOk.fresh (x:HOk P w H h) (e:h.objs.size<=a) : H a=none:=by
 cases q : H a with
 | none=>rfl
 | some u=>exact absurd (Nat.lt_of_lt_of_le (x.lt q) e) (Nat.lt_irrefl _)
theorem HOk.kept (x:HOk P w H h) (k:∀ b u,h.get? b=some u->h'.get? b=some u) : HOk P w H h':=fun a o e =>
 (x a o e).stay (fun b u _ q=>k b u q) (fun _ q=>q) fun _ _ q=>q
theorem HOk.laid (x:HOk P w H h) (k:∀ b u,h.get? b=some u->h'.get? b=some u) (hp:h.objs.size<=a) (new:zbv P w (upd H a o) h' a o) : HOk P w (upd H a o) h':=fun b u e=>by
 have hn:=x.fresh hp
 by_cases hb : b=a
 ·subst hb; rw [zbb] at e; cases e; exact new
 ·rw [zar hb] at e;exact (x b u e).stay (fun c v _ q=>k c v q) (fun c q=>by rw [zar (zcg q hn)]; exact q) fun c xs q=>by rw [zar (zcg q hn)]; exact q
end
noncomputable def Rd (H:Hp) (a:Addr) (u:HO) : Prop:=H a=some u\/∃ o,H a=some (.frz o u)
theorem Rd.of {H:Hp} {a:Addr} {u:HO} (h:H a=some u) : Rd H a u:=.inl h
theorem Rd.ok {P:Program} {w:World} {H:Hp} {h:Heap} {a:Addr} {u:HO} (r:Rd H a u) (x:HOk P w H h) : zbv P w H h a u:=by
 rcases r with r | ⟨o,r⟩
 ·exact x a u r
 ·obtain ⟨_,q⟩:=x a _ r;exact q
noncomputable def Mut : Option HO->Prop
 | some (.lst _)=>True
 | some (.dK _)=>True
 | some (.dT _)=>True
 | some (.set _ _)=>True
 | some (.ins _ _ _)=>True
 | some (.ext _)=>True
 | _=>False
section
variable {P:Program} {w:World} {H:Hp} {h h':Heap} {x e:Addr} {o':HO}
theorem HOk.write (ok:HOk P w H h) (mu:Mut (H x)) (he:e=x\/H e=some (.own x)) (k:∀ b u,b≠e->h.get? b=some u->h'.get? b=some u) (heo:∃ u,h'.get? e=some u)
  (new:zbv P w (upd H x o') h' x o') : HOk P w (upd H x o') h':=fun b u q=>by
 have nown : ∀ c y,H c=some (.own y)->c≠x:=fun c y r z=>by subst z; rw [r] at mu; exact mu
 have ntup : ∀ c xs,H c=some (.tup xs)->c≠x:=fun c xs r z=>by subst z; rw [r] at mu; exact mu
 by_cases hb : b=x
 ·subst hb; rw [zbb] at q; cases q; exact new
 ·rw [zar hb] at q
  by_cases hbe : b=e
  ·have q' : H b=some (.own x):=by
    rcases he with z | z
    ·exact absurd (hbe.trans z) hb
    ·rw [hbe]; exact z
   rw [q] at q'; cases q';obtain ⟨v,hv⟩:=heo;exact ⟨v,by rw [hbe]; exact hv⟩
  ·refine (ok b u q).stay (fun c v hc r=>k c v ?_ r) (fun c r=>by rw [zar (nown c b r)]; exact r) fun c xs r=>by rw [zar (ntup c xs r)]; exact r
   rcases hc with rfl | hc
   ·exact hbe
   ·rintro rfl
    rcases he with z | z
    ·exact nown c b hc z
    ·rw [hc] at z; cases z; exact hb rfl
end
structure Un (fs ex:List Addr) (H H':Hp) (h h':Heap) : Prop where
 keep : ∀ b o,h.get? b=some o->H b=none->b∉fs->b∉ex->h'.get? b=some o
 slot : ∀ b o,h.get? b=some o->H b=none->b∈fs->b∉ex->∃ sl,h'.get? b=some { o with slots:=sl }
 free : ∀ b o,h.get? b=some o->H b=none->b∉ex->H' b=none
 there : ∀ b o,h.get? b=some o->b∉ex->∃ o',h'.get? b=some o'
 tups : ∀ b xs,H b=some (.tup xs)->H' b=some (.tup xs)
 frzs : ∀ b o u,H b=some (.frz o u)->H' b=some (.frz o u)
 tbls : ∀ b ps,H b=some (.tbl ps)->∃ more,H' b=some (.tbl (ps++more))
section
variable {fs fs' ex ex':List Addr} {H H1 H2:Hp} {h h1 h2 h':Heap} {a x e:Addr} {o:HO}
theorem Un.any (u:Un fs ex H H1 h h1) {b:Addr} {ob:Obj} (q:h.get? b=some ob) (n:H b=none) (hx:b∉ex) : ∃ sl,h1.get? b=some { ob with slots:=sl }:=by
 by_cases hb : b∈fs
 ·exact u.slot b ob q n hb hx
 ·exact ⟨ob.slots,u.keep b ob q n hb hx⟩
theorem Un.trans (a:Un fs ex H H1 h h1) (b:Un fs ex H1 H2 h1 h2) : Un fs ex H H2 h h2 where
 keep:=fun c ob q n hc hx=>b.keep c ob (a.keep c ob q n hc hx) (a.free c ob q n hx) hc hx
 slot:=fun c ob q n hc hx=>by
  obtain ⟨sl,e1⟩:=a.slot c ob q n hc hx;obtain ⟨sl',e2⟩:=b.slot c _ e1 (a.free c ob q n hx) hc hx;exact ⟨sl',e2⟩
 free:=fun c ob q n hx=>by
  obtain ⟨o',e1⟩:=a.there c ob q hx;exact b.free c o' e1 (a.free c ob q n hx) hx
 there:=fun c ob q hx=>by
  obtain ⟨o',e1⟩:=a.there c ob q hx;exact b.there c o' e1 hx
 tups:=fun c xs q=>b.tups c xs (a.tups c xs q)
 frzs:=fun c ob xs q=>b.frzs c ob xs (a.frzs c ob xs q)
 tbls:=fun c ps q=>by
  obtain ⟨m1,e1⟩:=a.tbls c ps q;obtain ⟨m2,e2⟩:=b.tbls c _ e1;exact ⟨m1++m2,by rw [e2,Array.append_assoc]⟩
theorem Un.kept (k:∀ b u,h.get? b=some u->h'.get? b=some u) : Un fs ex H H h h' :=
 ⟨fun b ob q _ _ _=>k b ob q,fun b ob q _ _ _=>⟨ob.slots,k b ob q⟩,fun _ _ _ n _=>n,fun b ob q _=>⟨ob,k b ob q⟩,fun _ _ q=>q,fun _ _ _ q=>q,fun _ ps q=>⟨#[],by rw [q]; simp⟩⟩
theorem Un.refl : Un fs ex H H h h:=Un.kept fun _ _ q=>q
theorem Un.laid (k:∀ b u,h.get? b=some u->h'.get? b=some u) (hp:h.objs.size<=a) (hn:H a=none) : Un fs ex H (upd H a o) h h' where
 keep:=fun b u q _ _ _=>k b u q
 slot:=fun b u q _ _ _=>⟨u.slots,k b u q⟩
 free:=fun b u q n _=>by rw [zar (Nat.ne_of_lt (Nat.lt_of_lt_of_le (Heap.lt_size q) hp))]; exact n
 there:=fun b u q _=>⟨u,k b u q⟩
 tups:=fun b xs q=>by rw [zar (zcg q hn)]; exact q
 frzs:=fun b u xs q=>by rw [zar (zcg q hn)]; exact q
 tbls:=fun b ps q=>⟨#[],by rw [zar (zcg q hn),q]; simp⟩
theorem Un.write (mu:Mut (H x)) (he:e=x\/H e=some (.own x)) (k:∀ b u,b≠e->h.get? b=some u->h'.get? b=some u) (heo:∃ u,h'.get? e=some u) : Un fs ex H (upd H x o) h h':=by
 have hx : ∀ b,H b=none->b≠x:=fun b n z=>by subst z; rw [n] at mu; exact mu
 have hb : ∀ b,H b=none->b≠e:=fun b n z=>by
  subst z
  rcases he with r | r
  ·exact hx b n r
  ·rw [n] at r; cases r
 have hm : ∀ b u,H b=some u->¬ Mut (some u)->b≠x:=fun b u q nm z=>by subst z; rw [q] at mu; exact nm mu
 refine ⟨fun b u q n _ _=>k b u (hb b n) q,fun b u q n _ _=>⟨u.slots,k b u (hb b n) q⟩,fun b u q n _=>by rw [zar (hx b n)]; exact n,fun b u q _=>?_,
  fun b xs q=>by rw [zar (hm b _ q fun z=>z)]; exact q,fun b u xs q=>by rw [zar (hm b _ q fun z=>z)]; exact q,fun b ps q=>⟨#[],by rw [zar (hm b _ q fun z=>z),q]; simp⟩⟩
 by_cases hbe : b=e
 ·subst hbe; exact heo
 ·exact ⟨u,k b u hbe q⟩
theorem Un.mono (u:Un fs ex H H1 h h1) (hs:∀ b∈fs,b∈fs') (hx:∀ b∈ex,b∈ex') : Un fs' ex' H H1 h h1 :=
 ⟨fun b ob q n hb he=>u.keep b ob q n (fun z=>hb (hs b z)) fun z=>he (hx b z),fun _ _ q n _ he=>u.any q n fun z=>he (hx _ z),fun b ob q n he=>u.free b ob q n fun z=>he (hx b z),fun b ob q he=>u.there b ob q fun z=>he (hx b z),u.tups,u.frzs,u.tbls⟩
end
noncomputable def trk (h:Heap) (H:Hp) : List Addr:=(List.range h.objs.size).filter fun a=>(H a).isSome
noncomputable def zfw (h:Heap) (H:Hp) : Heap:=PySem.W.hideAll h (trk h H)
theorem zza (h:Heap) (H:Hp) : (zfw h H).objs.size=h.objs.size:=PySem.W.hideAll_size _ _
theorem zy9 {h:Heap} {H:Hp} {b:Addr} {o:Obj} (e:h.get? b=some o) (n:H b=none) : (zfw h H).get? b=some o :=
 PySem.W.hideAll_get _ e fun hm=>by
  have q : (H b).isSome=true:=(List.mem_filter.mp hm).2;rw [n] at q; simp at q
theorem z17 {h:Heap} {H:Hp} {b:Addr} {o:Obj} (e:(zfw h H).get? b=some o) : h.get? b=some o/\H b=none:=by
 have e' : h.get? b=some o:=PySem.W.of_hideAll (trk h H) e;refine ⟨e',?_⟩
 cases q : H b with
 | none=>rfl
 | some x =>
  have hm : b∈trk h H:=List.mem_filter.mpr ⟨List.mem_range.mpr (Heap.lt_size e'),by simp [q]⟩;have z : (zfw h H).get? b=none:=PySem.W.hideAll_none (trk h H) hm;rw [z] at e; cases e
noncomputable def zv6 (g h:Heap) (L:Addr) : List (Addr×Obj):=(List.range h.objs.size).filterMap fun a=>if a=L\/(g.get? a).isSome=true then none else (h.get? a).map fun o=>(a,o)
noncomputable def rest (g h:Heap) (L d:Addr) : List (Addr×Obj):=(zv6 g h L).filter fun p=>decide (p.1≠d)
structure Mod (K:W.Frag) (mg:Str->Option Value) (base:Heap) : Prop where
 kin : K.In base
 glob : base.Ns mainGlobals mg
 blt : ∃ mb,base.Ns builtinsNs mb/\∀ x : Str,x ≠ "__name__" -> mb x=bootBuiltins x
 nolimit : base.NoLimit
set_option genInjectivity false in
structure Cx where
 prog : Program
 w : World
 K : PySem.W.Frag
 mg : Str->Option Value
 base : Heap
 A : Around
 N : List Str
 s₀ : Shared
 H₀ : Hp
 env : Env
 outer : List Env
 stack : List Env
 ex : List Addr
 fn : Str->Bool
 calm : Bool
 pn : List (Addr×Obj)
 xe : Value->Shared->Prop
noncomputable def frs (l:List Env) : List Addr:=l.filterMap (·.frame)
noncomputable abbrev Cx.fs (X:Cx) : List Addr:=frs X.outer
noncomputable def Vis (sc:Scope) (x:Str) : Prop:=sc.names.lookup x=some .local\/sc.names.lookup x=some .cell\/sc.names.lookup x=some .free
noncomputable def Loc (sc:Scope) (x:Str) : Prop:=sc.names.lookup x=some .local\/sc.names.lookup x=some .cell
noncomputable def zv1 (env:Env) (h:Heap) (m:Str->Option Value) (x:Str) (u:Value) : Prop :=
 (env.kindOf x=some .local/\m x=some u)\/((env.kindOf x=some .cell\/env.kindOf x=some .free)/\∃ c,env.cells.lookup x=some c/\h.IsCell c (some u))
structure Cx.Ok (X:Cx) : Prop where
 mod : Mod X.K X.mg X.base
 kind : X.env.scope.kind=.function
 glob : X.env.globals=mainGlobals
 blt : X.env.builtins=builtinsNs
 above : X.s₀.heap.objs.size<=X.env.locals
 inj : ∀ x y c,X.env.cells.lookup x=some c->X.env.cells.lookup y=some c->x=y
 has : ∀ x,(X.env.kindOf x=some .cell\/X.env.kindOf x=some .free)->∃ c,X.env.cells.lookup x=some c
 cab : ∀ x c,X.fn x=true->X.env.cells.lookup x=some c->X.s₀.heap.objs.size<=c
 hd : X.calm=true->X.A.handled=none
 frames : X.A.frames=some X.stack
 stk : X.stack=X.outer\/(X.stack=X.env::X.outer/\X.env.frame=some X.env.locals)
 exf : ∀ b∈X.ex,b≠X.env.locals/\∀ x c,X.env.cells.lookup x=some c->c≠b
 bs : ∀ b o,X.base.get? b=some o->X.s₀.heap.get? b=some o/\X.H₀ b=none
 bsz : X.base.objs.size<=X.s₀.heap.objs.size
 noex : ∀ b o,X.base.get? b=some o->b∉X.ex
 exfs : ∀ b∈X.ex,b∉X.fs
 funs : X.s₀.heap.FunFrames X.base X.outer
 frf : ∀ b∈X.fs,X.H₀ b=none
structure Inv (X:Cx) (pins:List (Addr×Obj)) (σ:List (Option V)) (H:Hp) (s:Shared) : Prop where
 ok : X.Ok
 os : s.os=X.s₀.os
 bare : AllBare s.gens
 base : Un X.fs X.ex X.H₀ H X.s₀.heap s.heap
 loc : ∃ m,s.heap.Ns X.env.locals m/\∀ (i:Nat) (x:Str) (v:V),X.N[i]?=some x->σ[i]?=some (some v)->Vis X.env.scope x->∃ u,zaq v u/\zv1 X.env s.heap m x u
 cell : ∀ x c,X.env.cells.lookup x=some c->∃ v,s.heap.IsCell c v
 free : H X.env.locals=none
 freeC : ∀ x c,X.env.cells.lookup x=some c->H c=none
 pin : ∀ p∈X.pn++pins,s.heap.get? p.1=some p.2/\H p.1=none/\p.1≠X.env.locals/\p.1∉X.fs/\∀ v,p.2.data≠.cell v
 hok : HOk X.prog X.w H s.heap
 len : σ.length=X.N.length
section
variable {X:Cx} {pins:List (Addr×Obj)} {σ:List (Option V)} {H H':Hp} {s:Shared} {h':Heap}
theorem Cx.Ok.nofr (ok:X.Ok) {b:Addr} {o:Obj} (e:X.base.get? b=some o) : b∉X.fs:=fun hb=>by
 have:=(ok.funs.mem hb).1;rw [e] at this; cases this
theorem Inv.bs (I:Inv X pins σ H s) : ∀ b o,X.base.get? b=some o->s.heap.get? b=some o/\H b=none:=fun b o e =>
 ⟨I.base.keep b o (I.ok.bs b o e).1 (I.ok.bs b o e).2 (I.ok.nofr e) (I.ok.noex b o e),I.base.free b o (I.ok.bs b o e).1 (I.ok.bs b o e).2 (I.ok.noex b o e)⟩
theorem Inv.bk (I:Inv X pins σ H s) : ∀ b o,X.base.get? b=some o->s.heap.get? b=some o:=fun b o e=>(I.bs b o e).1
theorem Inv.mod (I:Inv X pins σ H s) : Mod X.K X.mg X.base:=I.ok.mod
theorem Inv.kIn (I:Inv X pins σ H s) : X.K.In s.heap:=I.ok.mod.kin.keeps I.bk
theorem Inv.nolimit (I:Inv X pins σ H s) : s.heap.NoLimit:=I.ok.mod.nolimit.keeps I.bk
theorem Inv.fr (I:Inv X pins σ H s) : ∃ m,Fr X.base X.env.locals s.heap m :=
 let ⟨m,hn,_⟩:=I.loc
 ⟨m,hn,I.bk,Nat.le_trans I.ok.bsz I.ok.above⟩
theorem Inv.lt (I:Inv X pins σ H s) : X.env.locals < s.heap.objs.size:=let ⟨_,hn,_⟩:=I.loc; hn.lt
theorem Inv.sz (I:Inv X pins σ H s) : X.s₀.heap.objs.size<=s.heap.objs.size:=Nat.le_trans I.ok.above (Nat.le_of_lt I.lt)
theorem Inv.nofs (I:Inv X pins σ H s) {a:Addr} (h:s.heap.objs.size<=a) : a∉X.fs:=fun hb=>by
 obtain ⟨_,o,ho,_⟩:=I.ok.funs.mem hb;exact absurd (Nat.lt_of_lt_of_le (Heap.lt_size ho) (Nat.le_trans I.sz h)) (Nat.lt_irrefl _)
theorem Inv.cne (I:Inv X pins σ H s) : ∀ x c,X.env.cells.lookup x=some c->c≠X.env.locals:=fun x c e z=>by
 obtain ⟨v,o,ho,hd⟩:=I.cell x c e;obtain ⟨m,⟨o',es,ep,ho',hd',_⟩,_⟩:=I.loc;rw [z,ho'] at ho; cases ho; rw [hd'] at hd; cases hd
theorem Inv.funs (I:Inv X pins σ H s) : s.heap.FunFrames X.base X.outer:=by
 have all : ∀ (l:List Env),(∀ b∈frs l,b∈X.fs)->X.s₀.heap.FunFrames X.base l->s.heap.FunFrames X.base l:=by
  intro l
  induction l with
  | nil=>intro _ _; trivial
  | cons env r ih =>
   intro hs hl;obtain ⟨hk,⟨L,o,hf,hn,ho,hd⟩,hr⟩:=hl;have hL : L∈X.fs:=hs L (by unfold frs; rw [List.filterMap_cons,hf]; exact List.mem_cons_self);obtain ⟨sl,e⟩:=I.base.slot L o ho (I.ok.frf L hL) hL fun z=>I.ok.exfs L z hL;exact ⟨hk,⟨L,_,hf,hn,e,hd⟩,ih (fun b hb=>hs b (by unfold frs; rw [List.filterMap_cons,hf]; exact List.mem_cons_of_mem _ hb)) hr⟩
 exact all X.outer (fun _ hb=>hb) I.ok.funs
theorem Inv.stack (I:Inv X pins σ H s) : s.heap.FunFrames X.base X.stack:=by
 rcases I.ok.stk with e | ⟨e,hf⟩
 ·rw [e]; exact I.funs
 ·rw [e];obtain ⟨m,hn,_⟩:=I.loc;refine .cons (by rw [I.ok.kind]; decide) hf hn ?_ I.funs;exact Heap.get?_none_of_le (Nat.le_trans I.ok.bsz I.ok.above)
theorem Inv.stkSub (I:Inv X pins σ H s) : ∀ b∈frs X.stack,b∈X.env.locals::X.fs:=fun b hb=>by
 rcases I.ok.stk with e | ⟨e,hf⟩
 ·rw [e] at hb; exact List.mem_cons_of_mem _ hb
 ·rw [e] at hb;unfold frs at hb;rw [List.filterMap_cons,hf] at hb;exact hb
theorem Inv.stkFree (I:Inv X pins σ H s) : ∀ b∈frs X.stack,H b=none:=fun b hb=>by
 rcases List.mem_cons.mp (I.stkSub b hb) with e | hb
 ·rw [e]; exact I.free
 ·obtain ⟨_,o,ho,_⟩:=I.ok.funs.mem hb;exact I.base.free b o ho (I.ok.frf b hb) fun z=>I.ok.exfs b z hb
theorem Inv.step {g':Array GenState} {t':Nat} {d':Drawn} {ch:List Addr} (I:Inv X pins σ H s)
  (hch:∀ b∈ch,(b∈X.ex\/X.s₀.heap.objs.size<=b)/\b≠X.env.locals/\(∀ x c,X.env.cells.lookup x=some c->c≠b)/\∀ p∈X.pn++pins,p.1≠b)
  (keep:∀ b o,b≠X.env.locals->b∉X.fs->b∉ch->s.heap.get? b=some o->H b=none->h'.get? b=some o)
  (slot:∀ b o,b≠X.env.locals->b∈X.fs->b∉ch->s.heap.get? b=some o->H b=none->∃ sl,h'.get? b=some { o with slots:=sl }) (free:∀ b o,b∉ch->s.heap.get? b=some o->H b=none->H' b=none)
  (there:∀ b o,b∉ch->s.heap.get? b=some o->∃ o',h'.get? b=some o')
  (tups:∀ b xs,H b=some (.tup xs)->H' b=some (.tup xs)) (frzs:∀ b o u,H b=some (.frz o u)->H' b=some (.frz o u)) (tbls:∀ b ps,H b=some (.tbl ps)->∃ more,H' b=some (.tbl (ps++more)))
  (ns:∀ m,s.heap.Ns X.env.locals m->h'.Ns X.env.locals m) (hok:HOk X.prog X.w H' h') (hg:AllBare g') :
  Inv X pins σ H' { s with heap:=h',gens:=g',drawn:=d',toks:=t' }:=by
 have neL : ∀ b o,X.s₀.heap.get? b=some o->b≠X.env.locals:=fun b o e=>Nat.ne_of_lt (Nat.lt_of_lt_of_le (Heap.lt_size e) I.ok.above)
 have neC : ∀ b o,X.s₀.heap.get? b=some o->b∉X.ex->b∉ch:=fun b o e hx hb=>by
  rcases (hch b hb).1 with z | z
  ·exact hx z
  ·exact absurd (Nat.lt_of_lt_of_le (Heap.lt_size e) z) (Nat.lt_irrefl _)
 have cellK : ∀ x c,X.env.cells.lookup x=some c->∀ v,s.heap.IsCell c v->h'.IsCell c v:=fun x c e v ⟨o,ho,hd⟩=>by
  have nch : c∉ch:=fun z=>(hch c z).2.2.1 x c e rfl
  by_cases hc : c∈X.fs
  ·obtain ⟨sl,q⟩:=slot c o (I.cne x c e) hc nch ho (I.freeC x c e);exact ⟨_,q,hd⟩
  ·exact ⟨o,keep c o (I.cne x c e) hc nch ho (I.freeC x c e),hd⟩
 refine ⟨I.ok,I.os,hg,⟨fun b o e n hb hx=>?_,fun b o e n hb hx=>?_,fun b o e n hx=>?_,fun b o e hx=>?_,fun b xs e=>tups b xs (I.base.tups b xs e),fun b o xs e=>frzs b o xs (I.base.frzs b o xs e),fun b ps e=>?_⟩,?_,fun x c e=>?_,?_,fun x c e=>?_,fun p hp=>?_,hok,I.len⟩
 ·exact keep b o (neL b o e) hb (neC b o e hx) (I.base.keep b o e n hb hx) (I.base.free b o e n hx)
 ·obtain ⟨sl,e1⟩:=I.base.slot b o e n hb hx;obtain ⟨sl',e2⟩:=slot b _ (neL b o e) hb (neC b o e hx) e1 (I.base.free b o e n hx);exact ⟨sl',e2⟩
 ·obtain ⟨o',e1⟩:=I.base.there b o e hx;exact free b o' (neC b o e hx) e1 (I.base.free b o e n hx)
 ·obtain ⟨o',e1⟩:=I.base.there b o e hx;exact there b o' (neC b o e hx) e1
 ·obtain ⟨m1,e1⟩:=I.base.tbls b ps e;obtain ⟨m2,e2⟩:=tbls b _ e1;exact ⟨m1++m2,by rw [e2,Array.append_assoc]⟩
 ·obtain ⟨m,hn,hl⟩:=I.loc;refine ⟨m,ns m hn,fun i x v e1 e2 e3=>?_⟩;obtain ⟨u,r,l⟩:=hl i x v e1 e2 e3;refine ⟨u,r,?_⟩
  rcases l with l | ⟨k,c,e,z⟩
  ·exact .inl l
  ·exact .inr ⟨k,c,e,cellK x c e _ z⟩
 ·obtain ⟨v,z⟩:=I.cell x c e;exact ⟨v,cellK x c e v z⟩
 ·obtain ⟨m,⟨o,_,_,ho,_⟩,_⟩:=I.loc;exact free _ o (fun z=>(hch _ z).2.1 rfl) ho I.free
 ·obtain ⟨v,o,ho,hd⟩:=I.cell x c e;exact free c o (fun z=>(hch c z).2.2.1 x c e rfl) ho (I.freeC x c e)
 ·obtain ⟨e,n,ne,nf,d⟩:=I.pin p hp;have nch : p.1∉ch:=fun z=>(hch p.1 z).2.2.2 p hp rfl;exact ⟨keep p.1 p.2 ne nf nch e n,free p.1 p.2 nch e n,ne,nf,d⟩
theorem Inv.un {t':Nat} (I:Inv X pins σ H s) (u:Un X.fs [] H H' s.heap h') (hok:HOk X.prog X.w H' h') : Inv X pins σ H' { s with heap:=h',toks:=t' }:=by
 obtain ⟨m,⟨o,es,ep,ho,r⟩,_⟩:=id I.loc;obtain ⟨sl,hL⟩:=u.any ho I.free (by simp)
 exact I.step (g':=s.gens) (d':=s.drawn) (ch:=[]) (fun _ z=>nomatch z) (fun b o _ hb _ e n=>u.keep b o e n hb (by simp)) (fun b o _ hb _ e n=>u.slot b o e n hb (by simp)) (fun b o _ e n=>u.free b o e n (by simp)) (fun b o _ e=>u.there b o e (by simp)) u.tups u.frzs u.tbls (fun m' hm=>by
  obtain ⟨o',es',ep',ho',r'⟩:=hm;rw [ho] at ho'; cases ho';exact ⟨_,es',ep',hL,r'⟩) hok I.bare
theorem Inv.call {g':Array GenState} {t':Nat} {d':Drawn} {ch:List Addr} (I:Inv X pins σ H s) (u:Un (frs X.stack) ch H H' s.heap h') (hok:HOk X.prog X.w H' h') (hg:AllBare g')
  (hch:∀ b∈ch,(b∈X.ex\/X.s₀.heap.objs.size<=b)/\b≠X.env.locals/\(∀ x c,X.env.cells.lookup x=some c->c≠b)/\∀ p∈X.pn++pins,p.1≠b) :
  Inv X pins σ H' { s with heap:=h',gens:=g',drawn:=d',toks:=t' }:=by
 obtain ⟨m,⟨o,es,ep,ho,r⟩,_⟩:=id I.loc;obtain ⟨sl,hL⟩:=u.any ho I.free fun z=>(hch _ z).2.1 rfl
 exact I.step (ch:=ch) hch (fun b o hL hb hc e n=>u.keep b o e n (fun z=>(List.mem_cons.mp (I.stkSub b z)).elim hL hb) hc) (fun b o _ _ hc e n=>u.any e n hc) (fun b o hc e n=>u.free b o e n hc) (fun b o hc e=>u.there b o e hc) u.tups u.frzs u.tbls (fun m' hm=>by
  obtain ⟨o',es',ep',ho',r'⟩:=hm;rw [ho] at ho'; cases ho';exact ⟨_,es',ep',hL,r'⟩) hok hg
theorem Inv.turned {t':Nat} {it:Addr} (I:Inv X pins σ H s) (k:∀ b o,b≠it->s.heap.get? b=some o->h'.get? b=some o) (hn:H it=none) (hL:it≠X.env.locals)
  (h1:it∈X.ex\/X.s₀.heap.objs.size<=it) (h2:∀ x c,X.env.cells.lookup x=some c->c≠it) (h3:∀ p∈X.pn++pins,p.1≠it) : Inv X pins σ H { s with heap:=h',toks:=t' }:=by
 have nit : ∀ b u,H b=some u->b≠it:=fun b u e z=>by rw [z,hn] at e; cases e
 refine I.step (g':=s.gens) (d':=s.drawn) (ch:=[it]) (fun b hb=>?_) (fun b o _ _ hc e _=>k b o (fun z=>hc (by simp [z])) e) (fun b o _ _ hc e _=>⟨o.slots,k b o (fun z=>hc (by simp [z])) e⟩) (fun _ _ _ _ n=>n)
  (fun b o hc e=>⟨o,k b o (fun z=>hc (by simp [z])) e⟩) (fun _ _ e=>e) (fun _ _ _ e=>e) (fun b ps e=>⟨#[],by rw [e]; simp⟩) (fun m hm=>?_) (fun b u e=>?_) I.bare
 ·have e : b=it:=by simpa using hb
  subst e;exact ⟨h1,hL,h2,h3⟩
 ·obtain ⟨o,es,ep,ho,r⟩:=hm;exact ⟨o,es,ep,k _ o (Ne.symm hL) ho,r⟩
 ·refine (I.hok b u e).stay (fun c v hc q=>k c v ?_ q) (fun _ q=>q) fun _ _ q=>q
  rcases hc with z | z
  ·rw [z]; exact nit b u e
  ·exact nit c _ z
theorem Inv.tok (I:Inv X pins σ H s) (t:Nat) : Inv X pins σ H { s with toks:=t }:=I.un (h':=s.heap) (t':=t) Un.refl I.hok
theorem Inv.kept {t':Nat} (I:Inv X pins σ H s) (k:∀ b u,s.heap.get? b=some u->h'.get? b=some u) : Inv X pins σ H { s with heap:=h',toks:=t' }:=I.un (Un.kept k) (I.hok.kept k)
theorem Inv.laid {a:Addr} {o:HO} {t':Nat} (I:Inv X pins σ H s) (k:∀ b u,s.heap.get? b=some u->h'.get? b=some u) (hp:s.heap.objs.size<=a) (new:zbv X.prog X.w (upd H a o) h' a o) :
  Inv X pins σ (upd H a o) { s with heap:=h',toks:=t' }:=I.un (Un.laid k hp (I.hok.fresh hp)) (I.hok.laid k hp new)
theorem Inv.write {x e:Addr} {o:HO} {t':Nat} (I:Inv X pins σ H s) (mu:Mut (H x)) (he:e=x\/H e=some (.own x)) (k:∀ b u,b≠e->s.heap.get? b=some u->h'.get? b=some u) (heo:∃ u,h'.get? e=some u)
  (new:zbv X.prog X.w (upd H x o) h' x o) : Inv X pins σ (upd H x o) { s with heap:=h',toks:=t' }:=I.un (Un.write mu he k heo) (I.hok.write mu he k heo new)
theorem Inv.weak {σ':List (Option V)} (I:Inv X pins σ H s) (hl:σ'.length=σ.length) (w:∀ (i:Nat) v,σ'[i]?=some (some v)->σ[i]?=some (some v)) : Inv X pins σ' H s :=
 ⟨I.ok,I.os,I.bare,I.base,let ⟨m,hn,hl'⟩:=I.loc; ⟨m,hn,fun i x v e1 e2 e3=>hl' i x v e1 (w i v e2) e3⟩,I.cell,I.free,I.freeC,I.pin,I.hok,hl.trans I.len⟩
theorem Inv.pins_of {pins':List (Addr×Obj)} (I:Inv X pins σ H s) (h:∀ p∈pins',s.heap.get? p.1=some p.2/\H p.1=none/\p.1≠X.env.locals/\p.1∉X.fs/\∀ v,p.2.data≠.cell v) : Inv X pins' σ H s :=
 ⟨I.ok,I.os,I.bare,I.base,I.loc,I.cell,I.free,I.freeC,fun p hp=>(List.mem_append.mp hp).elim (fun z=>I.pin p (List.mem_append_left _ z)) (h p),I.hok,I.len⟩
theorem ztj {N:List Str} (hN:N.Nodup) {i j:Nat} {x:Str} (a:N[i]?=some x) (b:N[j]?=some x) : i=j:=by
 obtain ⟨h1,e1⟩:=List.getElem?_eq_some_iff.mp a;obtain ⟨h2,e2⟩:=List.getElem?_eq_some_iff.mp b;exact (List.getElem_inj hN).mp (e1.trans e2.symm)
theorem zva {M:Model} {A:Around} {E:Value->Shared->Prop} {i:Nat} {x:Str} {v:V} {u:Value} {Q:Unit->Shared->Prop} (I:Inv X pins σ H s) (hN:X.N.Nodup) (hi:X.N[i]?=some x) (hx:Loc X.env.scope x) (r:zaq v u)
  (h:∀ s',Inv X pins (σ.set i (some v)) H s'->(∃ a,Heap.SameBut a s.heap s'.heap/\(a=X.env.locals\/X.env.cells.lookup x=some a))->Q () s') (hf:X.fn x=true\/X.env.scope.names.lookup x=some .local:=by first | exact .inl rfl | exact .inr rfl | assumption) : wpAny M A (storeName X.env x u) Q E s:=by
 obtain ⟨m,hn,hl⟩:=id I.loc;have hcls : (X.env.scope.kind==.class || (X.env.scope.kind==.module && X.env.locals != X.env.globals))=false:=by rw [I.ok.kind]; rfl
 have hiσ : i < σ.length:=by rw [I.len]; exact (List.getElem?_eq_some_iff.mp hi).1
 have cne:=I.cne
 have tracked : ∀ {a:Addr} {h':Heap},(∃ o,s.heap.get? a=some o/\H a=none)->Heap.SameBut a s.heap h'->HOk X.prog X.w H h':=fun {a h'} ha hs b ob e=>by
  obtain ⟨_,_,hfree⟩:=ha;refine (I.hok b ob e).stay (fun c w' hc q=>(hs.2 c ?_).trans q) (fun _ q=>q) fun _ _ q=>q;rintro rfl
  rcases hc with rfl | hc
  ·rw [hfree] at e; cases e
  ·rw [hfree] at hc; cases hc
 rcases hx with hk | hk
 ·refine wpAny_storeName_local hk hn (fun h' hn' hs=>?_) hcls;obtain ⟨oL,_,_,hoL,_⟩:=id hn;refine h _ ⟨I.ok,I.os,I.bare,⟨fun b o e n hb hx=>?_,fun b o e n hb hx=>?_,I.base.free,fun b o e hx=>?_,I.base.tups,I.base.frzs,I.base.tbls⟩,⟨_,hn',fun j y v' e1 e2 e3=>?_⟩,fun y c e=>?_,I.free,I.freeC,fun p hp=>?_,tracked ⟨oL,hoL,I.free⟩ hs,by simpa using I.len⟩ ⟨_,hs,.inl rfl⟩
  ·exact (hs.2 b (Nat.ne_of_lt (Nat.lt_of_lt_of_le (Heap.lt_size e) I.ok.above))).trans (I.base.keep b o e n hb hx)
  ·obtain ⟨sl,e1⟩:=I.base.slot b o e n hb hx;exact ⟨sl,(hs.2 b (Nat.ne_of_lt (Nat.lt_of_lt_of_le (Heap.lt_size e) I.ok.above))).trans e1⟩
  ·obtain ⟨o',e1⟩:=I.base.there b o e hx;exact ⟨o',(hs.2 b (Nat.ne_of_lt (Nat.lt_of_lt_of_le (Heap.lt_size e) I.ok.above))).trans e1⟩
  ·by_cases hj : j=i
   ·subst hj;rw [hi] at e1; cases e1;rw [List.getElem?_set_self hiσ] at e2;cases e2;exact ⟨u,r,.inl ⟨hk,by simp⟩⟩
   ·rw [List.getElem?_set_ne (Ne.symm hj)] at e2;obtain ⟨u',r',q⟩:=hl j y v' e1 e2 e3;refine ⟨u',r',?_⟩
    rcases q with ⟨k,e⟩ | ⟨k,c,e,z⟩
    ·refine .inl ⟨k,?_⟩;have : y≠x:=fun e=>hj (ztj hN e1 (e ▸ hi));simp [this,e]
    ·exact .inr ⟨k,c,e,z.sameBut hs (cne y c e)⟩
  ·obtain ⟨w',z⟩:=I.cell y c e;exact ⟨w',z.sameBut hs (cne y c e)⟩
  ·obtain ⟨e,n,ne,nf,d⟩:=I.pin p hp;exact ⟨(hs.2 p.1 ne).trans e,n,ne,nf,d⟩
 ·have hfn : X.fn x=true:=by
   rcases hf with z | z
   ·exact z
   ·rw [z] at hk; cases hk
  obtain ⟨c,hc⟩:=I.ok.has x (.inl hk);obtain ⟨w',z⟩:=I.cell x c hc;refine wpAny_storeName_cell I.ok.kind hk hc z (fun h' hc' hs=>?_);obtain ⟨oc,hoc,hocd⟩:=id z
  refine h { s with heap:=h' } ⟨I.ok,I.os,I.bare,⟨fun b o e n hb hx=>?_,fun b o e n hb hx=>?_,I.base.free,fun b o e hx=>?_,I.base.tups,I.base.frzs,I.base.tbls⟩,⟨m,hn.sameBut hs (Ne.symm (cne x c hc)),fun j y v' e1 e2 e3=>?_⟩,fun y c' e=>?_,I.free,I.freeC,fun p hp=>?_,tracked ⟨oc,hoc,I.freeC x c hc⟩ hs,by simpa using I.len⟩ ⟨c,hs,.inr hc⟩
  ·exact (hs.2 b (Nat.ne_of_lt (Nat.lt_of_lt_of_le (Heap.lt_size e) (I.ok.cab x c hfn hc)))).trans (I.base.keep b o e n hb hx)
  ·obtain ⟨sl,e1⟩:=I.base.slot b o e n hb hx;exact ⟨sl,(hs.2 b (Nat.ne_of_lt (Nat.lt_of_lt_of_le (Heap.lt_size e) (I.ok.cab x c hfn hc)))).trans e1⟩
  ·obtain ⟨o',e1⟩:=I.base.there b o e hx;exact ⟨o',(hs.2 b (Nat.ne_of_lt (Nat.lt_of_lt_of_le (Heap.lt_size e) (I.ok.cab x c hfn hc)))).trans e1⟩
  ·by_cases hj : j=i
   ·subst hj;rw [hi] at e1; cases e1;rw [List.getElem?_set_self hiσ] at e2;cases e2;exact ⟨u,r,.inr ⟨.inl hk,c,hc,hc'⟩⟩
   ·rw [List.getElem?_set_ne (Ne.symm hj)] at e2;obtain ⟨u',r',q⟩:=hl j y v' e1 e2 e3;refine ⟨u',r',?_⟩
    rcases q with q | ⟨k,c',e,z'⟩
    ·exact .inl q
    ·refine .inr ⟨k,c',e,z'.sameBut hs ?_⟩;rintro rfl;exact hj (ztj hN e1 (I.ok.inj _ _ _ e hc ▸ hi))
  ·by_cases hcc : c'=c
   ·subst hcc; exact ⟨_,hc'⟩
   ·obtain ⟨w2,z2⟩:=I.cell y c' e;exact ⟨w2,z2.sameBut hs hcc⟩
  ·obtain ⟨e,n,ne,nf,d⟩:=I.pin p hp;refine ⟨(hs.2 p.1 ?_).trans e,n,ne,nf,d⟩;intro q;rw [q,hoc] at e;have q' : oc=p.2:=Option.some.inj e;exact d w' (by rw [<- q']; exact hocd)
theorem zu9 {M:Model} {A:Around} {E:Value->Shared->Prop} {i:Nat} {x:Str} {v:V} {u:Value} {Q:Unit->Shared->Prop} (I:Inv X pins σ H s) (hN:X.N.Nodup) (hi:X.N[i]?=some x) (hx:Loc X.env.scope x) (r:zaq v u)
  (h:∀ s',Inv X pins (σ.set i (some v)) H s'->Q () s') (hf:X.fn x=true\/X.env.scope.names.lookup x=some .local:=by first | exact .inl rfl | exact .inr rfl | assumption) : wpAny M A (storeName X.env x u) Q E s :=
 zva I hN hi hx r (fun s' I' _=>h s' I') hf
theorem Inv.call' {s':Shared} {ch:List Addr} (I:Inv X pins σ H s) (ho:s'.os=s.os) (u:Un (frs X.stack) ch H H' s.heap s'.heap) (hok:HOk X.prog X.w H' s'.heap) (hg:AllBare s'.gens)
  (hch:∀ b∈ch,(b∈X.ex\/X.s₀.heap.objs.size<=b)/\b≠X.env.locals/\(∀ x c,X.env.cells.lookup x=some c->c≠b)/\∀ p∈X.pn++pins,p.1≠b) : Inv X pins σ H' s':=by
 obtain ⟨h',g',d',t',o'⟩:=s';have e : o'=s.os:=ho;subst e;exact I.call (g':=g') (t':=t') (d':=d') u hok hg hch
end
noncomputable abbrev XK:=Value->Option Addr->Hp->Prop
noncomputable abbrev St:=List (Option V)
noncomputable abbrev VK:=V->Hp->Prop
noncomputable abbrev TE:=St->Hp->VK->Prop
noncomputable abbrev TT:=St->Hp->(Bool->Hp->Prop)->Prop
noncomputable abbrev TA:=St->Hp->(List V->Hp->Prop)->Prop
structure zf4 where
 nx : St->Hp->Prop
 rt : VK
 bk : St->Hp->Prop:=fun _ _=>False
 ct : St->Hp->Prop:=fun _ _=>False
noncomputable abbrev TS:=zf4->St->Hp->Prop
noncomputable def EP (X:Cx) (pins:List (Addr×Obj)) (σ:St) (Q:VK) (u:Value) (s':Shared) : Prop:=∃ v H',Inv X pins σ H' s'/\zaq v u/\Q v H'
noncomputable def TP (X:Cx) (pins:List (Addr×Obj)) (σ:St) (Q:Bool->Hp->Prop) (b:Bool) (s':Shared) : Prop:=∃ H',Inv X pins σ H' s'/\Q b H'
noncomputable def AP (X:Cx) (pins:List (Addr×Obj)) (σ:St) (Q:List V->Hp->Prop) (us:List Value) (s':Shared) : Prop:=∃ vs H',Inv X pins σ H' s'/\zak vs us/\Q vs H'
noncomputable def SP (X:Cx) (pins:List (Addr×Obj)) (D:zf4) (f:Flow) (s':Shared) : Prop :=
 match f with
 | .next=>∃ σ' H',Inv X pins σ' H' s'/\D.nx σ' H'
 | .brk=>∃ σ' H',Inv X pins σ' H' s'/\D.bk σ' H'
 | .cont=>∃ σ' H',Inv X pins σ' H' s'/\D.ct σ' H'
 | .ret u=>∃ v σ' H',Inv X pins σ' H' s'/\zaq v u/\D.rt v H'
noncomputable def PE (X:Cx) (e:Expr) (t:TE) : Prop :=
 ∀ (pins:List (Addr×Obj)) (s:Shared) (σ:St) (H:Hp) (Q:VK),Inv X pins σ H s->t σ H Q->wpAny (model X.prog X.w) X.A (eval e X.env) (EP X pins σ Q) X.xe s
noncomputable def PT (X:Cx) (e:Expr) (t:TT) : Prop :=
 ∀ (pins:List (Addr×Obj)) (s:Shared) (σ:St) (H:Hp) (Q:Bool->Hp->Prop),Inv X pins σ H s->t σ H Q->wpAny (model X.prog X.w) X.A (isTrue e X.env (eval e X.env)) (TP X pins σ Q) X.xe s
noncomputable def PW (X:Cx) (e:Expr) (t:TT) : Prop :=
 ∀ (whole:Sem Value) (pins:List (Addr×Obj)) (s:Shared) (σ:St) (H:Hp) (Q:Bool->Hp->Prop),Inv X pins σ H s->t σ H Q->wpAny (model X.prog X.w) X.A (isTrue e X.env whole) (TP X pins σ Q) X.xe s
theorem PW.pt {X:Cx} {e:Expr} {t:TT} (h:PW X e t) : PT X e t:=h _
noncomputable def PA (X:Cx) (es:List Expr) (t:TA) : Prop :=
 ∀ (pos:Pos) (pins:List (Addr×Obj)) (s:Shared) (σ:St) (H:Hp) (Q:List V->Hp->Prop),Inv X pins σ H s->t σ H Q->wpAny (model X.prog X.w) X.A (spliced (backTo pos (starEach es X.env))) (AP X pins σ Q) X.xe s
noncomputable def PS (X:Cx) (st:Stmt) (t:TS) : Prop :=
 ∀ (pins:List (Addr×Obj)) (s:Shared) (σ:St) (H:Hp) (D:zf4),Inv X pins σ H s->t D σ H->wpAny (model X.prog X.w) X.A (exec st X.env) (SP X pins D) X.xe s
noncomputable def PSs (X:Cx) (st:List Stmt) (t:TS) : Prop :=
 ∀ (pins:List (Addr×Obj)) (s:Shared) (σ:St) (H:Hp) (D:zf4),Inv X pins σ H s->t D σ H->wpAny (model X.prog X.w) X.A (execs st X.env) (SP X pins D) X.xe s
theorem thn {α : Type} {t:Sem α} {Q Q':α->Shared->Prop} {M:Model} {A:Around} {E:Value->Shared->Prop} {s:Shared} (h:wpAny M A t Q E s) (hQ:∀ a s,Q a s->Q' a s) : wpAny M A t Q' E s:=wpAny_mono h hQ fun _ _ x=>x
section
variable {X:Cx}
noncomputable def zdg (i:Nat) : TE:=fun σ H Q=>∃ v,σ[i]?=some (some v)/\Q v H
noncomputable def tC (v:V) : TE:=fun _ H Q=>Q v H
theorem zif {i:Nat} {x:Str} {pos:Pos} (hN:X.N[i]?=some x) (hv:Vis X.env.scope x) (hd:(x==("__debug__" : Str))=false:=by decide) (hcd:(x==("__classdict__" : Str))=false:=by decide) : PE X (.Name x pos) (zdg i):=by
 intro pins s σ H Q I h;obtain ⟨v,e,h⟩:=h;obtain ⟨m,hn,hl⟩:=I.loc;obtain ⟨u,r,l⟩:=hl i x v hN e hv;have fin : EP X pins σ Q u s:=⟨v,H,I,r,h⟩
 rcases l with ⟨hk,hm⟩ | ⟨hk,c,hc,hcell⟩
 ·exact wpAny_Name (wpAny_loadName_local I.ok.kind hk hn hm fin) hd
 ·rcases hk with hk | hk
  ·exact wpAny_Name (wpAny_loadName_cell I.ok.kind hk hc hcell fin) hd
  ·exact wpAny_Name (wpAny_loadName_free I.ok.kind hk hc hcell fin hcd) hd
theorem z32 {i j pos} : PE X (.Constant (.int i) j pos) (tC (.int i)):=fun _ _ _ H _ I h=>wpAny_Constant_int ⟨.int i,H,I.tok _,⟨_,rfl⟩,h⟩
theorem z3v {b j pos} : PE X (.Constant (.bool b) j pos) (tC (.bl b)):=fun _ _ _ H _ I h=>Constant_bool ⟨.bl b,H,I,rfl,h⟩
theorem z34 {j pos} : PE X (.Constant .none j pos) (tC .non):=fun _ _ _ H _ I h=>Constant_none ⟨.non,H,I,rfl,h⟩
theorem z4a {x j pos} : PE X (.Constant (.str x) j pos) (tC (.str x)):=fun _ _ _ H _ I h=>Calls.Constant_str ⟨.str x,H,I.tok _,⟨_,rfl⟩,h⟩
noncomputable def Gl (X:Cx) (x:Str) : Prop:=X.env.kindOf x=some .globalImplicit
theorem zsw {E:Value->Shared->Prop} {pins:List (Addr×Obj)} {s:Shared} {σ:St} {H:Hp} {x:Str} {u:Value} {pos:Pos} {Q:Value->Shared->Prop} (I:Inv X pins σ H s) (hg:Gl X x) (hm:X.mg x=some u) (h:Q u s)
  (hd:(x==("__debug__" : Str))=false:=by decide) : wpAny (model X.prog X.w) X.A (eval (.Name x pos) X.env) Q E s :=
 Calls.Name_function_global I.ok.kind hg (Calls.loadGlobal_global (by rw [I.ok.glob]; exact I.mod.glob.keeps I.bk) hm h) hd
theorem zhk {E:Value->Shared->Prop} {pins:List (Addr×Obj)} {s:Shared} {σ:St} {H:Hp} {x:Str} {u:Value} {pos:Pos} {Q:Value->Shared->Prop} (I:Inv X pins σ H s) (hg:Gl X x) (hm:X.mg x=none) (hv:bootBuiltins x=some u) (h:Q u s)
  (hn:x ≠ "__name__":=by decide) (hd:(x==("__debug__" : Str))=false:=by decide) : wpAny (model X.prog X.w) X.A (eval (.Name x pos) X.env) Q E s:=by
 obtain ⟨mb,h1,h2⟩:=I.mod.blt;exact Calls.Name_function_global I.ok.kind hg (Calls.loadGlobal_builtin (by rw [I.ok.glob]; exact I.mod.glob.keeps I.bk) hm (by rw [I.ok.blt]; exact h1.keeps I.bk) ((h2 x hn).trans hv) h) hd
theorem z3w {x:Str} {v:V} {u:Value} {pos:Pos} (hg:Gl X x) (hm:X.mg x=none) (hv:bootBuiltins x=some u) (r:zaq v u) (hn:x ≠ "__name__":=by decide) (hd:(x==("__debug__" : Str))=false:=by decide) : PE X (.Name x pos) (tC v) :=
 fun _ _ _ H _ I h=>zhk I hg hm hv ⟨v,H,I,r,h⟩ hn hd
variable {a b:Expr} {ta tb:TE} {pos:Pos}
variable {tA tB':TT} {rest:List Expr}
noncomputable def z62 (t u:TT) : TT:=fun σ H Q=>t σ H fun c H1=>if c=true then u σ H1 Q else Q false H1
noncomputable def tOr (t u:TT) : TT:=fun σ H Q=>t σ H fun c H1=>if c=true then Q true H1 else u σ H1 Q
noncomputable def z7h (t:TT) : TT:=fun σ H Q=>t σ H fun c H1=>Q (!c) H1
theorem z5a (ha:PT X a tA) : PW X (.BoolOp .And [a] pos) tA:=by
 intro wh pins s σ H Q I h;refine isTrue_and (thn (ha pins s σ H Q I h) fun c s1 e=>?_)
 cases c with
 | true=>exact isTrue_and_nil e
 | false=>exact e
theorem z5c (ha:PT X a tA) : PW X (.BoolOp .Or [a] pos) tA:=by
 intro wh pins s σ H Q I h;refine isTrue_or (thn (ha pins s σ H Q I h) fun c s1 e=>?_)
 cases c with
 | false=>exact isTrue_or_nil e
 | true=>exact e
theorem z49 (ha:PT X a tA) (hb:PW X (.BoolOp .And (b::rest) pos) tB') : PW X (.BoolOp .And (a::b::rest) pos) (z62 tA tB'):=by
 intro wh pins s σ H Q I h;refine isTrue_and (thn (ha pins s σ H _ I h) fun c s1 ⟨H1,I1,q1⟩=>?_)
 cases c with
 | true=>exact hb wh pins s1 σ H1 Q I1 q1
 | false=>exact ⟨H1,I1,q1⟩
theorem z5b (ha:PT X a tA) (hb:PW X (.BoolOp .Or (b::rest) pos) tB') : PW X (.BoolOp .Or (a::b::rest) pos) (tOr tA tB'):=by
 intro wh pins s σ H Q I h;refine isTrue_or (thn (ha pins s σ H _ I h) fun c s1 ⟨H1,I1,q1⟩=>?_)
 cases c with
 | true=>exact ⟨H1,I1,q1⟩
 | false=>exact hb wh pins s1 σ H1 Q I1 q1
theorem z41 (ha:PT X a tA) : PT X (.UnaryOp .Not a pos) (z7h tA):=by
 intro pins s σ H Q I h;exact isTrue_not (ha pins s σ H (fun c H1=>Q (!c) H1) I h)
noncomputable def z63 (ta tb:TE) : TE:=fun σ H Q=>ta σ H fun x H1=>∃ c,x=.bl c/\if c=true then tb σ H1 Q else Q (.bl false) H1
noncomputable def z7j (ta tb:TE) : TE:=fun σ H Q=>ta σ H fun x H1=>∃ c,x=.bl c/\if c=true then Q (.bl true) H1 else tb σ H1 Q
noncomputable def z7i (ta:TE) : TE:=fun σ H Q=>ta σ H fun x H1=>∃ c,x=.bl c/\Q (.bl (!c)) H1
theorem z36 {op} {t:TE} (h:PE X a t) : PE X (.BoolOp op [a] pos) t:=fun pins s σ H Q I hw=>BoolOp_one (h pins s σ H Q I hw)
theorem z3u (ha:PE X a ta) (hb:PE X (.BoolOp .And (b::rest) pos) tb) : PE X (.BoolOp .And (a::b::rest) pos) (z63 ta tb):=by
 intro pins s σ H Q I h;refine BoolOp_and (thn (ha pins s σ H _ I h) fun v s1 ⟨x,H1,I1,r1,q1⟩=>?_);obtain ⟨c,rfl,q1⟩:=q1;cases r1;refine wpAny_truthy_bool ?_
 cases c with
 | true=>exact hb pins s1 σ H1 Q I1 q1
 | false=>exact ⟨.bl false,H1,I1,rfl,q1⟩
theorem z37 (ha:PE X a ta) (hb:PE X (.BoolOp .Or (b::rest) pos) tb) : PE X (.BoolOp .Or (a::b::rest) pos) (z7j ta tb):=by
 intro pins s σ H Q I h;refine BoolOp_or (thn (ha pins s σ H _ I h) fun v s1 ⟨x,H1,I1,r1,q1⟩=>?_);obtain ⟨c,rfl,q1⟩:=q1;cases r1;refine wpAny_truthy_bool ?_
 cases c with
 | false=>exact hb pins s1 σ H1 Q I1 q1
 | true=>exact ⟨.bl true,H1,I1,rfl,q1⟩
theorem z35 (ha:PE X a ta) : PE X (.UnaryOp .Not a pos) (z7i ta):=by
 intro pins s σ H Q I h;refine UnaryOp_ (thn (ha pins s σ H _ I h) fun v s1 ⟨x,H1,I1,r1,q1⟩=>?_);obtain ⟨c,rfl,q1⟩:=q1;cases r1;exact not_of (wpAny_truthy_bool ⟨.bl (!c),H1,I1,rfl,q1⟩)
end
noncomputable def SqL (K:PySem.W.Frag) (H:Hp) (a:Addr) (xs:List V) : Prop :=
 Rd H a (.lst xs) \/
  ∃ (o:Obj) (its:Array Value) (n:Nat),K.lookup a=some o/\o.cls=.type "list" /\ o.dict=none/\o.data=.seq its n/\its.size<=sizeLine/\zak xs its.toList
noncomputable def SqT (K:PySem.W.Frag) (H:Hp) (a:Addr) (xs:List V) : Prop :=
 Rd H a (.tup xs) \/
  ∃ (o:Obj) (its:Array Value) (n:Nat),K.lookup a=some o/\o.cls=.type "tuple" /\ o.data=.seq its n/\its.size<=sizeLine/\zak xs its.toList
noncomputable def zv4 : Value->Option V
 | .none=>some .non
 | .bool b=>some (.bl b)
 | .int i _=>some (.int i)
 | .str x _=>some (.str x)
 | .bytes b _=>some (.byt b)
 | .float b _=>some (.flt b)
 | .ref a=>some (.ref a)
 | .type n=>some (.ty n)
 | _=>none
theorem zaq.abs {x:V} {u:Value} (r:zaq x u) : zv4 u=some x:=by
 cases x with
 | non=>cases r; rfl
 | bl _=>cases r; rfl
 | int _=>obtain ⟨t,rfl⟩:=r; rfl
 | str _=>obtain ⟨t,rfl⟩:=r; rfl
 | byt _=>obtain ⟨t,rfl⟩:=r; rfl
 | flt _=>obtain ⟨t,rfl⟩:=r; rfl
 | ref _=>cases r; rfl
 | ty _=>cases r; rfl
theorem zaq.inj {x y:V} {u:Value} (r:zaq x u) (q:zaq y u) : x=y:=Option.some.inj (r.abs.symm.trans q.abs)
theorem zak.inj : ∀ {xs ys:List V} {us:List Value},zak xs us->zak ys us->xs=ys
 | _,_,_,.nil,.nil=>rfl
 | _,_,_,.cons r t,.cons r' t'=>by rw [r.inj r',zak.inj t t']
section
variable {X:Cx} {pins:List (Addr×Obj)} {σ:St} {H:Hp} {s:Shared} {a:Addr} {xs ys:List V}
theorem SqL.of {K:PySem.W.Frag} (h:H a=some (.lst xs)) : SqL K H a xs:=.inl (.inl h)
theorem SqT.of {K:PySem.W.Frag} (h:H a=some (.tup xs)) : SqT K H a xs:=.inl (.inl h)
theorem Inv.list (I:Inv X pins σ H s) (h:SqL X.K H a xs) : ∃ its : List Value,zak xs its/\PlainL s.heap a its.toArray/\xs.length<=sizeLine:=by
 rcases h with h | ⟨o,its,n,hk,hc,hd,hs,hz,r⟩
 ·obtain ⟨z,its,n,r,e⟩:=h.ok I.hok;exact ⟨its,r,⟨_,n,e,rfl,rfl,rfl⟩,z⟩
 ·refine ⟨its.toList,r,⟨o,n,I.kIn a o hk,hc,hd,by simpa using hs⟩,?_⟩;have e:=r.length;simp only [Array.length_toList] at e;omega
theorem Inv.tuple (I:Inv X pins σ H s) (h:SqT X.K H a xs) : ∃ its : List Value,zak xs its/\IsTup s.heap a its.toArray/\xs.length<=sizeLine:=by
 rcases h with h | ⟨o,its,n,hk,hc,hs,hz,r⟩
 ·obtain ⟨z,its,r,p⟩:=h.ok I.hok;exact ⟨its,r,p,z⟩
 ·refine ⟨its.toList,r,⟨o,I.kIn a o hk,hc,n,by simpa using hs⟩,?_⟩;have e:=r.length;simp only [Array.length_toList] at e;omega
theorem Inv.list_inj (I:Inv X pins σ H s) (h:SqL X.K H a xs) (h':SqL X.K H a ys) : xs=ys:=by
 obtain ⟨its,r,⟨o,n,e,_,_,d⟩,_⟩:=I.list h;obtain ⟨its',r',⟨o',n',e',_,_,d'⟩,_⟩:=I.list h';rw [e] at e'; cases e';rw [d] at d'
 injection d' with d1 _
 have : its=its':=by simpa using congrArg Array.toList d1
 subst this;exact r.inj r'
theorem Inv.tuple_inj (I:Inv X pins σ H s) (h:SqT X.K H a xs) (h':SqT X.K H a ys) : xs=ys:=by
 obtain ⟨its,r,⟨o,e,_,n,d⟩,_⟩:=I.tuple h;obtain ⟨its',r',⟨o',e',_,n',d'⟩,_⟩:=I.tuple h';rw [e] at e'; cases e';rw [d] at d'
 injection d' with d1 _
 have : its=its':=by simpa using congrArg Array.toList d1
 subst this;exact r.inj r'
end
noncomputable abbrev Cx.wish (X:Cx) (E:Value->Shared->Prop) : Cx:={ X with xe:=E }
noncomputable abbrev Cx.nox (X:Cx) : Cx:=X.wish fun _ _=>False
theorem Cx.Ok.wish {X:Cx} (ok:X.Ok) (E:Value->Shared->Prop) : (X.wish E).Ok :=
 ⟨ok.mod,ok.kind,ok.glob,ok.blt,ok.above,ok.inj,ok.has,ok.cab,ok.hd,ok.frames,ok.stk,ok.exf,ok.bs,ok.bsz,ok.noex,ok.exfs,ok.funs,ok.frf⟩
theorem Cx.Ok.unwish {X:Cx} {E:Value->Shared->Prop} (ok:(X.wish E).Ok) : X.Ok :=
 ⟨ok.mod,ok.kind,ok.glob,ok.blt,ok.above,ok.inj,ok.has,ok.cab,ok.hd,ok.frames,ok.stk,ok.exf,ok.bs,ok.bsz,ok.noex,ok.exfs,ok.funs,ok.frf⟩
section
variable {X:Cx} {pins:List (Addr×Obj)} {σ:St} {H:Hp} {s:Shared} {E:Value->Shared->Prop}
theorem Inv.wish (I:Inv X pins σ H s) (E:Value->Shared->Prop) : Inv (X.wish E) pins σ H s:=⟨I.ok.wish E,I.os,I.bare,I.base,I.loc,I.cell,I.free,I.freeC,I.pin,I.hok,I.len⟩
theorem Inv.unwish (I:Inv (X.wish E) pins σ H s) : Inv X pins σ H s:=⟨I.ok.unwish,I.os,I.bare,I.base,I.loc,I.cell,I.free,I.freeC,I.pin,I.hok,I.len⟩
theorem SP.unwish {D:zf4} {f:Flow} {s':Shared} (h:SP (X.wish E) pins D f s') : SP X pins D f s':=by
 cases f with
 | next=>obtain ⟨σ',H',I,q⟩:=h; exact ⟨σ',H',I.unwish,q⟩
 | brk=>obtain ⟨σ',H',I,q⟩:=h; exact ⟨σ',H',I.unwish,q⟩
 | cont=>obtain ⟨σ',H',I,q⟩:=h; exact ⟨σ',H',I.unwish,q⟩
 | ret u=>obtain ⟨v,σ',H',I,r,q⟩:=h; exact ⟨v,σ',H',I.unwish,r,q⟩
theorem PE.nox {e:Expr} {t:TE} (h:PE X.nox e t) : PE X e t:=fun pins s σ H Q I hw =>
 wpAny_mono (h pins s σ H Q (I.wish _) hw) (fun _ _ ⟨v,H',I',r,q⟩=>⟨v,H',I'.unwish,r,q⟩) fun _ _ z=>False.elim z
theorem PT.nox {e:Expr} {t:TT} (h:PT X.nox e t) : PT X e t:=fun pins s σ H Q I hw =>
 wpAny_mono (h pins s σ H Q (I.wish _) hw) (fun _ _ ⟨H',I',q⟩=>⟨H',I'.unwish,q⟩) fun _ _ z=>False.elim z
theorem PSs.nox {st:List Stmt} {t:TS} (h:PSs X.nox st t) : PSs X st t:=fun pins s σ H D I hw =>
 wpAny_mono (h pins s σ H D (I.wish _) hw) (fun _ _ q=>q.unwish) fun _ _ z=>False.elim z
end
section
variable {X:Cx} {st:Stmt} {rest:List Stmt} {t u:TS} {e:Expr} {te:TE} {pos:Pos}
noncomputable def z7f : TS:=fun D σ H=>D.nx σ H
noncomputable def z7m (t u:TS) : TS:=fun D σ H=>t { D with nx:=u D } σ H
theorem zug : PSs X [] z7f:=fun _ _ σ H _ I h=>wpAny_execs_nil ⟨σ,H,I,h⟩
theorem zuf (h1:PS X st t) (h2:PSs X rest u) : PSs X (st::rest) (z7m t u):=by
 intro pins s σ H D I h
 refine wpAny_execs_cons (thn (h1 pins s σ H { D with nx:=u D } I h) fun f s1 q=>?_)
 cases f with
 | next =>
  obtain ⟨σ',H',I',q⟩:=q
  exact h2 pins s1 σ' H' D I' q
 | ret v=>exact q
 | brk=>exact q
 | cont=>exact q
theorem z4y (h1:PS X st t) : PSs X [st] t:=by
 intro pins s σ H D I h;refine wpAny_execs_cons (thn (h1 pins s σ H D I h) fun f s1 q=>?_)
 cases f with
 | next=>exact wpAny_execs_nil q
 | ret v=>exact q
 | brk=>exact q
 | cont=>exact q
theorem Inv.quiet {pins:List (Addr×Obj)} {σ:St} {H:Hp} {s:Shared} (I:Inv X pins σ H s) : interactive X.env=false:=by simp [interactive,I.ok.kind]
noncomputable def zmq (te:TE) : TS:=fun D σ H=>te σ H fun _ H1=>D.nx σ H1
theorem ze3 (he:PE X e te) (hs:swapsWith e none pos.line X.env=pure false:=by rfl) : PS X (.Expr e pos) (zmq te):=by
 intro pins s σ H D I h;exact wpAny_Expr_any (thn (he pins s σ H _ I h) fun v s1 ⟨x,H1,I1,r1,q1⟩=>⟨σ,H1,I1,q1⟩) I.quiet hs
noncomputable def z7l (te:TE) : TS:=fun D σ H=>te σ H D.rt
theorem zl9 (he:PE X e te) : PS X (.Return (some e) pos) (z7l te):=by
 intro pins s σ H D I h;exact wpAny_Return_some (thn (he pins s σ H _ I h) fun v s1 ⟨x,H1,I1,r1,q1⟩=>⟨x,σ,H1,I1,r1,q1⟩)
noncomputable def z7d (c:TT) (t u:TS) : TS:=fun D σ H=>c σ H fun b H1=>if b=true then t D σ H1 else u D σ H1
theorem z4w {c:Expr} {a b:List Stmt} {tc:TT} (hc:PT X c tc) (ha:PSs X a t) (hb:PSs X b u) : PS X (.If c a b pos) (z7d tc t u):=by
 intro pins s σ H D I h;refine wpAny_If (thn (hc pins s σ H _ I h) fun d s1 ⟨H1,I1,q1⟩=>?_)
 cases d with
 | true=>exact ha pins s1 σ H1 D I1 q1
 | false=>exact hb pins s1 σ H1 D I1 q1
end
noncomputable abbrev TG:=V->St->Hp->(St->Hp->Prop)->Prop
noncomputable abbrev TGs:=List V->St->Hp->(St->Hp->Prop)->Prop
noncomputable def PG (X:Cx) (target:Expr) (t:TG) : Prop :=
 ∀ (pins:List (Addr×Obj)) (s:Shared) (σ:St) (H:Hp) (v:V) (u:Value) (Q:St->Hp->Prop),Inv X pins σ H s->zaq v u->t v σ H Q ->
  wpAny (model X.prog X.w) X.A (assign target X.env u) (fun _ s'=>∃ σ' H',Inv X pins σ' H' s'/\Q σ' H') X.xe s
noncomputable def PGs (X:Cx) (ts:List Expr) (t:TGs) : Prop :=
 ∀ (pins:List (Addr×Obj)) (s:Shared) (σ:St) (H:Hp) (vs:List V) (us:List Value) (Q:St->Hp->Prop),Inv X pins σ H s->zak vs us->t vs σ H Q ->
  wpAny (model X.prog X.w) X.A (assignInOrder ((assignEach ts X.env).map (·.2)) us) (fun _ s'=>∃ σ' H',Inv X pins σ' H' s'/\Q σ' H') X.xe s
noncomputable abbrev zmx:=V->V->V->Hp->(Hp->Prop)->Prop
noncomputable def zpx (X:Cx) (t:zmx) : Prop :=
 ∀ (pins:List (Addr×Obj)) (s:Shared) (σ:St) (H:Hp) (o i v:V) (ov iv u:Value) (Q:Hp->Prop),Inv X pins σ H s->zaq o ov->zaq i iv->zaq v u->t o i v H Q ->
  wpAny (model X.prog X.w) X.A (setItem ov iv u) (fun _ s'=>∃ H',Inv X pins σ H' s'/\Q H') X.xe s
section
variable {X:Cx} {pos:Pos}
noncomputable def zhd (i:Nat) : TG:=fun v σ H Q=>Q (σ.set i (some v)) H
theorem zt9 {i:Nat} {x:Str} (hN:X.N.Nodup) (hi:X.N[i]?=some x) (hx:Loc X.env.scope x) (hf:X.fn x=true\/X.env.scope.names.lookup x=some .local:=by first | exact .inl rfl | exact .inr rfl | assumption) : PG X (.Name x pos) (zhd i):=by
 intro pins s σ H v u Q I r h;exact wpAny_assign_Name (zu9 I hN hi hx r (fun s' I'=>⟨_,H,I',h⟩) hf)
noncomputable def zyx : TGs:=fun vs σ H Q=>vs=[]/\Q σ H
noncomputable def zyw (t:TG) (u:TGs) : TGs:=fun vs σ H Q=>∃ v r,vs=v::r/\t v σ H fun σ' H'=>u r σ' H' Q
theorem z4g : PGs X [] zyx:=by
 intro pins s σ H vs us Q I r h;obtain ⟨e,h⟩:=h;subst e;cases r;exact assignInOrder_nil ⟨σ,H,I,h⟩
theorem z4f {e:Expr} {es:List Expr} {t:TG} {u:TGs} (h1:PG X e t) (h2:PGs X es u)
  (hs:(assignEach (e::es) X.env).map (·.2)=assign e X.env::(assignEach es X.env).map (·.2):=by rfl) : PGs X (e::es) (zyw t u):=by
 intro pins s σ H vs us Q I r h;obtain ⟨v,vr,e1,h⟩:=h;subst e1
 cases r with
 | cons r rr =>
  rw [hs];refine assignInOrder_cons (thn (h1 pins s σ H _ _ _ I r h) fun _ s1 ⟨σ1,H1,I1,q1⟩=>?_);exact h2 pins s1 σ1 H1 _ _ Q I1 rr q1
noncomputable def zyy (K:PySem.W.Frag) (n:Nat) (t:TGs) : TG:=fun v σ H Q=>∃ a xs,v=.ref a/\SqT K H a xs/\xs.length=n/\t xs σ H Q
theorem z4e {es:List Expr} {k:Nat} {t:TGs} {n:Nat} (hc:X.calm=true) (h:PGs X es t)
  (hn:(assignEach es X.env).length=n:=by rfl) (hst:(assignEach es X.env).findIdx? (·.1)=none:=by rfl) : PG X (.Tuple es k pos) (zyy X.K n t):=by
 intro pins s σ H v u Q I r hw;obtain ⟨a,xs,e1,hq,hl,hw⟩:=hw;subst e1;cases r;obtain ⟨its,rv,ht,hz⟩:=I.tuple hq;refine assign_Tuple_tuple (I.ok.hd hc) ht (by simp [hn,<- hl,rv.length]) hst fun h' hx=>?_
 have I1 : Inv X pins σ H { s with heap:=h' }:=I.kept (t':=s.toks) fun b o e=>hx b o (Nat.ne_of_lt (Heap.lt_size e)) e
 exact h pins _ σ H xs _ Q I1 (by simpa using rv) hw
noncomputable def zru (to ti:TE) (t:zmx) : TG:=fun v σ H Q=>to σ H fun o H1=>ti σ H1 fun i H2=>t o i v H2 fun H3=>Q σ H3
theorem z4d {o i:Expr} {to ti:TE} {t:zmx} (ho:PE X o to) (hi:PE X i ti) (hs:zpx X t)
  (ha:∀ v,assign (.Subscript o i pos) X.env v=(do
   let ov <- holding [v] (eval o X.env)
   let iv <- holding [v,ov] (eval i X.env)
   standAt pos
   holding [v,ov,iv] (setItem ov iv v)
   release [v,ov,iv] []):=by intro _; rfl) : PG X (.Subscript o i pos) (zru to ti t):=by
 intro pins s σ H v u Q I r h;rw [ha];refine wpAny_bind (wpAny_holding (thn (ho pins s σ H _ I h) fun ov s1 ⟨x,H1,I1,r1,q1⟩=>?_));refine wpAny_bind (wpAny_holding (thn (hi pins s1 σ H1 _ I1 q1) fun iv s2 ⟨y,H2,I2,r2,q2⟩=>?_));refine wpAny_bind (wpAny_standAt (wpAny_bind (wpAny_holding (thn (hs pins s2 σ H2 x y v ov iv u _ I2 r1 r2 r q2) fun _ s3 ⟨H3,I3,q3⟩=>?_))));exact wpAny_release ⟨σ,H3,I3,q3⟩
noncomputable def zjg (te:TE) (g:TG) : TS:=fun D σ H=>te σ H fun x H1=>g x σ H1 D.nx
theorem z4t {tg e:Expr} {te:TE} {g:TG} (he:PE X e te) (hg:PG X tg g) (hs:swapsWithSole [tg] e pos.line X.env=pure false:=by rfl) (hw:swappedStores [tg] e X.env=pure none:=by rfl)
  (h1:(assignEach [tg] X.env).map (·.2)=[assign tg X.env]:=by rfl) : PS X (.Assign [tg] e pos) (zjg te g):=by
 intro pins s σ H D I h;refine wpAny_Assign_stores (thn (he pins s σ H _ I h) fun v s1 ⟨x,H1,I1,r1,q1⟩=>?_) hs hw;rw [h1];exact thn (hg pins s1 σ H1 x v _ I1 r1 q1) fun _ s2 q=>q
theorem zud {i:Nat} {x:Str} {e:Expr} {te:TE} {pos':Pos} (hN:X.N.Nodup) (hi:X.N[i]?=some x) (hx:Loc X.env.scope x) (he:PE X e te) (hs:swapsWith e (some (.Name x pos')) pos.line X.env=pure false:=by rfl) (hf:X.fn x=true\/X.env.scope.names.lookup x=some .local:=by first | exact .inl rfl | exact .inr rfl | assumption) :
  PS X (.Assign [.Name x pos'] e pos) (zjg te (zhd i)):=by
 intro pins s σ H D I h;refine wpAny_Assign_Name (thn (he pins s σ H _ I h) fun v s1 ⟨y,H1,I1,r1,q1⟩=>?_) hs;exact zu9 I1 hN hi hx r1 (fun s2 I2=>⟨_,H1,I2,q1⟩) hf
end
section
variable {X:Cx} {pos:Pos}
noncomputable def z7o (c:TT) (tb:TS) : TS:=fun D σ H=>∃ W : Nat->St->Hp->Prop,(∃ m,W m σ H)/\∀ m σ H,W m σ H ->
 c σ H fun b H1=>if b=true then ∃ N : St->Hp->Prop,(∀ σ' H',N σ' H'->∃ m',m' < m/\W m' σ' H')/\tb { D with nx:=N,ct:=N,bk:=D.nx } σ H1 else D.nx σ H1
theorem z4x {c:Expr} {body:List Stmt} {tc:TT} {tb:TS} (hp:PassesOwn (model X.prog X.w) X.A X.env X.xe) (hc:PT X c tc) (hb:PSs X body tb) : PS X (.While c body [] pos) (z7o tc tb):=by
 intro pins s σ H D I h;obtain ⟨W,⟨m0,w0⟩,turn⟩:=h;refine wpAny_While (codeAny_whileLoop (fun n s'=>∃ σ' H',Inv X pins σ' H' s'/\W n σ' H') ?_ m0 ⟨σ,H,I,w0⟩);rintro n s1 ⟨σ1,H1,I1,w1⟩;refine wpAny_passesOwn hp (thn (hc pins s1 σ1 H1 _ I1 (turn n σ1 H1 w1)) fun b s2 ⟨H2,I2,q2⟩=>?_)
 cases b with
 | true =>
  obtain ⟨N,hN,q2⟩:=q2;rw [if_pos rfl];refine wpAny_passesOwn hp (thn (hb pins s2 σ1 H2 _ I2 q2) fun f s3 q3=>?_)
  cases f with
  | next =>
   obtain ⟨σ3,H3,I3,n3⟩:=q3;obtain ⟨m',hm,w3⟩:=hN σ3 H3 n3
   exact ⟨m',hm,σ3,H3,I3,w3⟩
  | cont =>
   obtain ⟨σ3,H3,I3,n3⟩:=q3;obtain ⟨m',hm,w3⟩:=hN σ3 H3 n3
   exact ⟨m',hm,σ3,H3,I3,w3⟩
  | brk=>exact q3
  | ret v=>exact q3
 | false =>
  rw [if_neg Bool.false_ne_true];exact wpAny_execs_nil ⟨σ1,H2,I2,q2⟩
end
structure It where
 go : Nat->Hp->Prop
 yld : Nat->Hp->V->Hp->Prop
 stop : Nat->Hp->Prop
noncomputable def zdx (X:Cx) (pins:List (Addr×Obj)) (H:Hp) (b:Addr) : Prop :=
 H b=none/\b≠X.env.locals/\b∉X.fs/\(b∈X.ex\/X.s₀.heap.objs.size<=b)/\(∀ x c,X.env.cells.lookup x=some c->c≠b)/\∀ p∈X.pn++pins,p.1≠b
theorem Inv.fpOk {X:Cx} {pins:List (Addr×Obj)} {σ:St} {H H':Hp} {s:Shared} {b:Addr} (I:Inv X pins σ H s) (hb:s.heap.objs.size<=b) (hn:H' b=none) : zdx X pins H' b:=by
 refine ⟨hn,Nat.ne_of_gt (Nat.lt_of_lt_of_le I.lt hb),I.nofs hb,.inr (Nat.le_trans I.sz hb),fun x c e z=>?_,fun p hp z=>?_⟩
 ·obtain ⟨v,q⟩:=I.cell x c e;exact absurd (Nat.lt_of_lt_of_le q.lt (by rw [z]; exact hb)) (Nat.lt_irrefl _)
 ·exact absurd (Nat.lt_of_lt_of_le (Heap.lt_size (I.pin p hp).1) (by rw [z]; exact hb)) (Nat.lt_irrefl _)
structure zg1 (P:Program) (w:World) (K:PySem.W.Frag) (tg:Expr) (J:It) (fp:List Addr) (it:Addr) (tn:Nat->Heap->Prop) : Prop where
 mem : it∈fp
 obj : ∀ i h,tn i h->∀ b∈fp,∃ o,h.get? b=some o/\∀ v,o.data≠.cell v
 keep : ∀ i h h',tn i h->(∀ b∈fp,∀ o,h.get? b=some o->h'.get? b=some o)->tn i h'
 item : ∀ (X:Cx),X.prog=P->X.w=w->X.K=K->X.calm=true->∀ (i:Nat) (pins:List (Addr×Obj)) (s:Shared) (σ:St) (H:Hp) (E:Value->Shared->Prop),Inv X pins σ H s->(∀ b∈fp,zdx X pins H b)->tn i s.heap->J.go i H ->
  wpAny (model P w) X.A (pyNext (.ref it)) (fun r s1=>∃ u,r=some u /\
   wpAny (model P w) X.A (letOwnedTupleGo tg (.ref it) u) (fun _ s2=>∃ x H',Inv X pins σ H' s2/\zaq x u/\J.yld i H x H'/\tn (i + 1) s2.heap/\∀ b∈fp,H' b=none) E s1) E s
 done : ∀ (X:Cx),X.prog=P->X.w=w->X.K=K->X.calm=true->∀ (i:Nat) (pins:List (Addr×Obj)) (s:Shared) (σ:St) (H:Hp) (E:Value->Shared->Prop),Inv X pins σ H s->(∀ b∈fp,zdx X pins H b)->tn i s.heap->J.stop i H ->
  wpAny (model P w) X.A (pyNext (.ref it)) (fun r s1=>r=none/\Inv X pins σ H s1) E s
 self : ∀ (A:Around) (i:Nat) (s:Shared) (Q:Value->Shared->Prop) (E:Value->Shared->Prop),tn i s.heap->Q (.ref it) s->wpAny (model P w) A (pyIter (.ref it)) Q E s
noncomputable abbrev TI:=St->Hp->(It->Hp->Prop)->Prop
noncomputable def PIE (X:Cx) (pins:List (Addr×Obj)) (σ:St) (tg:Expr) (R:It->Hp->Prop) (itv:Value) (s2:Shared) : Prop :=
 ∃ (it:Addr) (fp:List Addr) (tn:Nat->Heap->Prop) (J:It) (H':Hp),itv=.ref it/\Inv X pins σ H' s2/\zg1 X.prog X.w X.K tg J fp it tn/\tn 0 s2.heap/\(∀ b∈fp,zdx X pins H' b)/\R J H'
noncomputable def PI (X:Cx) (tg iter:Expr) (wi:TI) : Prop :=
 ∀ (pins:List (Addr×Obj)) (s:Shared) (σ:St) (H:Hp) (R:It->Hp->Prop),Inv X pins σ H s->wi σ H R ->
  wpAny (model X.prog X.w) X.A (eval iter X.env) (fun v s1=>wpAny (model X.prog X.w) X.A (pyIter v) (PIE X pins σ tg R) X.xe s1) X.xe s
theorem znu {M : Model} {A : Around} {E : Value->Shared->Prop} {s : Shared} {tg : Expr} {it : Addr} {u : Value} {o : Obj} {n : String} {vs : Array Value} {Q : Unit->Shared->Prop} (ho : s.heap.get? it = some o) (hc : o.cls = .type n) (hd : o.data = .fields vs)
    (hn : ["enumerate", "zip", "dict_itemiterator", "dict_reverseitemiterator", "odict_iterator", "itertools.zip_longest", "itertools.pairwise"].contains n = false) (hQ : Q () s) : wpAny M A (letOwnedTupleGo tg (.ref it) u) Q E s := by
  unfold letOwnedTupleGo
  cases tg <;> first
    | exact wpAny_pure hQ
    | (cases u <;> first
        | exact wpAny_pure hQ
        | (refine wpAny_bind (wpAny_load ho ?_)
           rw [hc, hd];show wpAny M A (if (["enumerate", "zip", "dict_itemiterator", "dict_reverseitemiterator", "odict_iterator", "itertools.zip_longest", "itertools.pairwise"].contains n && vs[0]?==some (rawInt _)) = true then _ else _) Q E s;rw [if_neg (by intro h; rw [hn, Bool.false_and] at h; cases h)];exact wpAny_pure hQ))
noncomputable def Itl (K:PySem.W.Frag) (a:Addr) : It :=
 ⟨fun i H=>∃ xs x,SqL K H a xs/\xs[i]?=some x,fun i H x H'=>H'=H/\∀ xs,SqL K H a xs->xs[i]?=some x,fun i H=>∃ xs,SqL K H a xs/\xs.length<=i⟩
noncomputable def Itt (K:PySem.W.Frag) (a:Addr) : It :=
 ⟨fun i H=>∃ xs x,SqT K H a xs/\xs[i]?=some x,fun i H x H'=>H'=H/\∀ xs,SqT K H a xs->xs[i]?=some x,fun i H=>∃ xs,SqT K H a xs/\xs.length<=i⟩
noncomputable def Itr (lo:Int) (n:Nat) : It:=⟨fun i _=>i < n,fun i H x H'=>H'=H/\x=.int (lo + i),fun i _=>n<=i⟩
theorem z7y {P:Program} {w:World} {K:PySem.W.Frag} {tg:Expr} (a it:Addr) : zg1 P w K tg (Itl K a) [it] it (fun i h=>h.IsListIter it a i) where
 mem:=by simp
 obj:=fun i h st b hb=>by
  have e : b=it:=by simpa using hb
  subst e;obtain ⟨o,e,c,d⟩:=st;exact ⟨o,e,fun v z=>by rw [d] at z; cases z⟩
 keep:=fun i h h' st k=>st.at fun o e=>k it (by simp) o e
 item:=by
  intro X hP hw hK hc i pins s σ H E I hf st hg;subst hP hw hK;obtain ⟨xs,x,hq,hx⟩:=hg;obtain ⟨its,rv,p,hz⟩:=I.list hq;obtain ⟨u,hu,ru⟩:=rv.get hx;obtain ⟨f0,f1,f2,f3,f4,f5⟩:=hf it (by simp);refine wpAny_pyNext_list_item st p.isList (x:=u) (by simpa using hu) fun h' st' sb=>?_
  have I1 : Inv X pins σ H { s with heap:=h' }:=I.turned (t':=s.toks) (fun b o hb e=>(sb.2 b hb).trans e) f0 f1 f3 f4 f5
  obtain ⟨o,e,c,d⟩:=id st'
  exact ⟨u,rfl,znu (s:={ s with heap:=h' }) e c d (by decide) ⟨x,H,I1,ru,⟨rfl,fun ys hy=>by rw [I.list_inj hy hq]; exact hx⟩,st',fun b hb=>(hf b hb).1⟩⟩
 done:=by
  intro X hP hw hK hc i pins s σ H E I hf st hg;subst hP hw hK;obtain ⟨xs,hq,hx⟩:=hg;obtain ⟨its,rv,p,hz⟩:=I.list hq;obtain ⟨f0,f1,f2,f3,f4,f5⟩:=hf it (by simp);have hl:=rv.length;exact wpAny_pyNext_list_end (I.ok.hd hc) st p.isList (by simp; omega) fun h' eb=>⟨rfl,I.turned (t':=s.toks) (fun b o hb e=>eb b o hb e) f0 f1 f3 f4 f5⟩
 self:=fun _ _ _ _ _ st h=>wpAny_pyIter_listiter st h
theorem z70 {P:Program} {w:World} {K:PySem.W.Frag} {tg:Expr} (a it:Addr) : zg1 P w K tg (Itt K a) [it] it (fun i h=>h.IsTupleIter it a i) where
 mem:=by simp
 obj:=fun i h st b hb=>by
  have e : b=it:=by simpa using hb
  subst e;obtain ⟨o,e,c,d⟩:=st;exact ⟨o,e,fun v z=>by rw [d] at z; cases z⟩
 keep:=fun i h h' st k=>st.at fun o e=>k it (by simp) o e
 item:=by
  intro X hP hw hK hc i pins s σ H E I hf st hg;subst hP hw hK;obtain ⟨xs,x,hq,hx⟩:=hg;obtain ⟨its,rv,p,hz⟩:=I.tuple hq;obtain ⟨u,hu,ru⟩:=rv.get hx;obtain ⟨f0,f1,f2,f3,f4,f5⟩:=hf it (by simp);refine wpAny_pyNext_tuple_item st (show s.heap.IsTuple a its.toArray from p) (x:=u) (by simpa using hu) fun h' st' sb=>?_
  have I1 : Inv X pins σ H { s with heap:=h' }:=I.turned (t':=s.toks) (fun b o hb e=>(sb.2 b hb).trans e) f0 f1 f3 f4 f5
  obtain ⟨o,e,c,d⟩:=id st'
  exact ⟨u,rfl,znu (s:={ s with heap:=h' }) e c d (by decide) ⟨x,H,I1,ru,⟨rfl,fun ys hy=>by rw [I.tuple_inj hy hq]; exact hx⟩,st',fun b hb=>(hf b hb).1⟩⟩
 done:=by
  intro X hP hw hK hc i pins s σ H E I hf st hg;subst hP hw hK;obtain ⟨xs,hq,hx⟩:=hg;obtain ⟨its,rv,p,hz⟩:=I.tuple hq;obtain ⟨f0,f1,f2,f3,f4,f5⟩:=hf it (by simp);have hl:=rv.length;exact wpAny_pyNext_tuple_end (I.ok.hd hc) st (show s.heap.IsTuple a its.toArray from p) (by simp; omega) fun h' eb=>⟨rfl,I.turned (t':=s.toks) (fun b o hb e=>eb b o hb e) f0 f1 f3 f4 f5⟩
 self:=fun _ _ _ _ _ st h=>wpAny_pyIter_tupleiter st h
theorem z7z {P:Program} {w:World} {K:PySem.W.Frag} {tg:Expr} (it:Addr) (lo:Int) (n:Nat) : zg1 P w K tg (Itr lo n) [it] it (fun i h=>IsRangeIter h it (lo + (i:Nat) * 1) ((n:Int) - (i:Nat)) 1) where
 mem:=by simp
 obj:=fun i h st b hb=>by
  have e : b=it:=by simpa using hb
  subst e
  exact ⟨_,st,fun v z=>by
   have z' : Data.fields _=Data.cell v:=z;cases z'⟩
 keep:=fun i h h' st k=>k it (by simp) _ st
 item:=by
  intro X hP hw hK hc i pins s σ H E I hf st hg;subst hP hw hK;obtain ⟨f0,f1,f2,f3,f4,f5⟩:=hf it (by simp);have W:=Walks.range (prog:=X.prog) (w:=X.w) (I.ok.hd hc) it lo 1 n;refine W.item i s _ _ hg st fun v h' tk hv st' kk=>?_;obtain ⟨t,rfl⟩:=hv
  have I1 : Inv X pins σ H { s with heap:=h',toks:=tk }:=I.turned (fun b o hb e=>kk b o (by simpa using hb) e) f0 f1 f3 f4 f5
  refine ⟨_,rfl,znu (s:={ s with heap:=h',toks:=tk }) (n:="range_iterator") st' rfl rfl (by decide) ⟨.int (lo + i),H,I1,⟨t,?_⟩,⟨rfl,rfl⟩,st',fun b hb=>(hf b hb).1⟩⟩
  rw [Int.mul_one]
 done:=by
  intro X hP hw hK hc i pins s σ H E I hf st hg;subst hP hw hK;obtain ⟨f0,f1,f2,f3,f4,f5⟩:=hf it (by simp);exact wpAny_pyNext_range_end (I.ok.hd hc) st (by have:n<=i:=hg; omega) fun h' eb=>⟨rfl,I.turned (t':=s.toks) (fun b o hb e=>eb b o hb e) f0 f1 f3 f4 f5⟩
 self:=fun _ _ _ _ _ st h=>wpAny_pyIter_rangeiter st h
section
variable {X:Cx} {tg:Expr}
noncomputable def zzd (K:PySem.W.Frag) (tl:TE) : TI:=fun σ H R=>tl σ H fun x H1=>∃ a,x=.ref a/\(∃ xs,SqL K H1 a xs)/\R (Itl K a) H1
noncomputable def zzf (K:PySem.W.Frag) (tl:TE) : TI:=fun σ H R=>tl σ H fun x H1=>∃ a,x=.ref a/\(∃ xs,SqT K H1 a xs)/\R (Itt K a) H1
theorem zua {l:Expr} {tl:TE} (hl:PE X l tl) : PI X tg l (zzd X.K tl):=by
 intro pins s σ H R I h;refine thn (hl pins s σ H _ I h) fun v s1 ⟨x,H1,I1,r1,q1⟩=>?_;obtain ⟨a,e,⟨xs,hq⟩,q⟩:=q1;subst e;cases r1;obtain ⟨its,rv,p,hz⟩:=I1.list hq;refine wpAny_pyIter_list p.isList ?_;refine ⟨s1.heap.objs.size,[s1.heap.objs.size],_,_,H1,rfl,I1.kept (t':=s1.toks) fun b o e=>Heap.get?_push_of_some _ e,z7y a _,⟨_,Heap.get?_push_size _ rfl,rfl,rfl⟩,fun b hb=>?_,q⟩;have e : b=s1.heap.objs.size:=by simpa using hb
 subst e;exact I1.fpOk (Nat.le_refl _) (I1.hok.fresh (Nat.le_refl _))
theorem z4j {l:Expr} {tl:TE} (hl:PE X l tl) : PI X tg l (zzf X.K tl):=by
 intro pins s σ H R I h;refine thn (hl pins s σ H _ I h) fun v s1 ⟨x,H1,I1,r1,q1⟩=>?_;obtain ⟨a,e,⟨xs,hq⟩,q⟩:=q1;subst e;cases r1;obtain ⟨its,rv,p,hz⟩:=I1.tuple hq;refine wpAny_pyIter_tuple (show s1.heap.IsTuple a its.toArray from p) ?_;refine ⟨s1.heap.objs.size,[s1.heap.objs.size],_,_,H1,rfl,I1.kept (t':=s1.toks) fun b o e=>Heap.get?_push_of_some _ e,z70 a _,⟨_,Heap.get?_push_size _ rfl,rfl,rfl⟩,fun b hb=>?_,q⟩;have e : b=s1.heap.objs.size:=by simpa using hb
 subst e;exact I1.fpOk (Nat.le_refl _) (I1.hok.fresh (Nat.le_refl _))
theorem z5i {pins:List (Addr×Obj)} {σ:St} {H:Hp} {s:Shared} {R:It->Hp->Prop} {E:Value->Shared->Prop} {lo hi:Int} {t u v:Tok} {tk:Nat} (I:Inv X pins σ H s) (h1:-(2 ^ 62)<=lo) (h2:lo < 2 ^ 62) (h3:-(2 ^ 62)<=hi) (h4:hi < 2 ^ 62)
  (q:R (Itr lo (hi - lo).toNat) H) : wpAny (model X.prog X.w) X.A (pyIter (.ref s.heap.objs.size)) (PIE X pins σ tg R) E { s with heap:=s.heap.push { cls:=.type "range",data:=.fields #[.int lo t,.int hi u,.int 1 v] },toks:=tk }:=by
 refine wpAny_pyIter_range (IsRange.new ..) (small_one h1 h2 h3 h4) ?_
 have I1 : Inv X pins σ H { s with heap:=s.heap.push { cls:=.type "range",data:=.fields #[.int lo t,.int hi u,.int 1 v] },toks:=tk }:=I.kept fun b o e=>Heap.get?_push_of_some _ e
 refine ⟨(s.heap.push { cls:=.type "range",data:=.fields #[.int lo t,.int hi u,.int 1 v] }).objs.size,[(s.heap.push { cls:=.type "range",data:=.fields #[.int lo t,.int hi u,.int 1 v] }).objs.size],_,_,H,rfl,
  I1.kept (t':=tk) fun b o e=>Heap.get?_push_of_some _ e,z7z _ lo (hi - lo).toNat,?_,fun b hb=>?_,q⟩
 ·have e1 : lo + ((0 : Nat) : Int) * 1=lo:=by simp
  have e2 : (((hi - lo).toNat : Nat) : Int) - ((0 : Nat) : Int)=Builtin.Range.rangeSize lo hi 1:=by rw [rangeSize_one]; split <;> omega
  show IsRangeIter _ _ (lo + ((0 : Nat) : Int) * 1) ((((hi - lo).toNat : Nat) : Int) - ((0 : Nat) : Int)) 1;rw [e1,e2];exact Heap.get?_push_size _ rfl
 ·have e : b=(s.heap.push { cls:=.type "range",data:=.fields #[.int lo t,.int hi u,.int 1 v] }).objs.size:=by simpa using hb
  subst e;exact I1.fpOk (Nat.le_refl _) (I1.hok.fresh (Nat.le_refl _))
noncomputable def zze (ta:TA) : TI:=fun σ H R=>ta σ H fun vs H1=>∃ j : Int,vs=[.int j]/\-(2 ^ 62)<=j/\j < 2 ^ 62/\R (Itr 0 j.toNat) H1
theorem z4i {a:Expr} {ta:TA} {p pos:Pos} (hg:Gl X "range") (hm:X.mg "range"=none) (ha:PA X [a] ta) (hs:starEach [a] X.env=[(false,eval a X.env)]:=by rfl) : PI X tg (.Call (.Name "range" p) [a] [] pos) (zze ta):=by
 intro pins s σ H R I h;refine Call_ (zhk I hg hm boot_range (PyProof.Rows.callWith_type1 (thn (ha pos pins s σ H _ I h) fun us s1 ⟨vs,H1,I1,r1,q1⟩=>?_) hs rfl));obtain ⟨j,e,q1,q2,q⟩:=q1;subst e
 cases r1 with
 | cons r rr =>
  cases rr;obtain ⟨t,rfl⟩:=r;exact call_range_1 (z5i I1 (by omega) (by omega) q1 q2 (by simpa using q))
noncomputable def z7c (wi:TI) (g:TG) (tb:TS) : TS:=fun D σ H=>wi σ H fun J H1=>∃ W : Nat->Nat->St->Hp->Prop,(∃ m,W 0 m σ H1)/\∀ i m σ H,W i m σ H ->
 (J.stop i H/\D.nx σ H)\/(J.go i H/\∃ N : St->Hp->Prop,(∀ σ' H',N σ' H'->∃ m',m' < m/\W (i + 1) m' σ' H')/\∀ x H',J.yld i H x H'->g x σ H' fun σ2 H2=>tb { D with nx:=N,ct:=N,bk:=D.nx } σ2 H2)
noncomputable def zkc (fp:List Addr) (h:Heap) : List (Addr×Obj):=fp.filterMap fun b=>(h.get? b).map fun o=>(b,o)
theorem zly {fp:List Addr} {h:Heap} {b:Addr} {o:Obj} (hb:b∈fp) (e:h.get? b=some o) : (b,o)∈zkc fp h:=List.mem_filterMap.mpr ⟨b,hb,by rw [e]; rfl⟩
theorem z18 {fp:List Addr} {h:Heap} {p:Addr×Obj} (hp:p∈zkc fp h) : p.1∈fp/\h.get? p.1=some p.2:=by
 obtain ⟨b,hb,e⟩:=List.mem_filterMap.mp hp
 cases q : h.get? b with
 | none=>rw [q] at e; cases e
 | some o =>
  rw [q] at e;have e' : (b,o)=p:=Option.some.inj e;subst e';exact ⟨hb,q⟩
theorem Inv.pinned {pins:List (Addr×Obj)} {σ:St} {H:Hp} {s:Shared} {fp:List Addr} (I:Inv X pins σ H s) (hf:∀ b∈fp,zdx X pins H b) (ho:∀ b∈fp,∃ o,s.heap.get? b=some o/\∀ v,o.data≠.cell v) : Inv X (pins++zkc fp s.heap) σ H s :=
 I.pins_of fun p hp=>(List.mem_append.mp hp).elim (fun z=>I.pin p (List.mem_append_right _ z)) fun z=>by
  obtain ⟨hb,e⟩:=z18 z;obtain ⟨f0,f1,f2,_⟩:=hf p.1 hb;obtain ⟨o,e',d⟩:=ho p.1 hb;rw [e] at e'; cases e';exact ⟨e,f0,f1,f2,d⟩
theorem Inv.unpinned {pins pl:List (Addr×Obj)} {σ:St} {H:Hp} {s:Shared} (I:Inv X (pins++pl) σ H s) : Inv X pins σ H s:=I.pins_of fun p hp=>I.pin p (List.mem_append_right _ (List.mem_append_left _ hp))
theorem z4v {iter:Expr} {body:List Stmt} {wi:TI} {g:TG} {tb:TS} {pos:Pos} (hp:PassesOwn (model X.prog X.w) X.A X.env X.xe) (hc:X.calm=true) (hi:PI X tg iter wi) (hg:PG X tg g) (hb:PSs X body tb)
  (hs:∀ x,foldedSetIterable iter X.env x=pure x:=by intro _; rfl) : PS X (.For tg iter body [] pos) (z7c wi g tb):=by
 intro pins s σ H D I h;refine wpAny_For (thn (hi pins s σ H _ I h) fun v s1 h1=>thn h1 fun itv s2 h2=>?_) hs;obtain ⟨it,fp,tn,J,H2,e,I2,T,st2,f2,W,⟨m0,w0⟩,turn⟩:=h2;subst e;have stat : ∀ {H':Hp},(∀ b∈fp,H' b=none)->∀ b∈fp,zdx X pins H' b:=fun hn b hb=>⟨hn b hb,(f2 b hb).2⟩;refine codeAny_forLoop_any (fun n s'=>∃ i σ' H',Inv X pins σ' H' s'/\tn i s'.heap/\(∀ b∈fp,H' b=none)/\W i n σ' H') ?_ m0 ⟨0,σ,H2,I2,st2,fun b hb=>(f2 b hb).1,w0⟩;rintro n s3 ⟨i,σ3,H3,I3,st3,fr3,w3⟩
 rcases turn i n σ3 H3 w3 with ⟨stop,qn⟩ | ⟨go,N,hN,step⟩
 ·refine wpAny_passesOwn hp (thn (T.done X rfl rfl rfl hc i pins s3 σ3 H3 X.xe I3 (stat fr3) st3 stop) fun r s4 ⟨hr,I4⟩=>?_);subst hr;exact wpAny_execs_nil ⟨σ3,H3,I4,qn⟩
 ·refine wpAny_passesOwn hp (thn (T.item X rfl rfl rfl hc i pins s3 σ3 H3 X.xe I3 (stat fr3) st3 go) fun r s4 ⟨u,hr,h4⟩=>?_);subst hr;refine wpAny_passesOwn hp (thn h4 fun _ s5 ⟨x,H5,I5,r5,y5,st5,fr5⟩=>?_);have I5':=I5.pinned (stat fr5) (T.obj _ _ st5);refine wpAny_passesOwn hp (thn (hg _ s5 σ3 H5 x u _ I5' r5 (step x H5 y5)) fun _ s6 ⟨σ6,H6,I6,q6⟩=>?_);refine wpAny_passesOwn hp (thn (hb _ s6 σ6 H6 _ I6 q6) fun f s7 q7=>?_)
  have again : ∀ {σ7:St} {H7:Hp},Inv X (pins++zkc fp s5.heap) σ7 H7 s7->N σ7 H7->∃ m,m < n/\∃ i σ' H',Inv X pins σ' H' s7/\tn i s7.heap/\(∀ b∈fp,H' b=none)/\W i m σ' H':=fun {σ7 H7} I7 n7=>by
   obtain ⟨m',hm,w7⟩:=hN σ7 H7 n7;refine ⟨m',hm,i + 1,σ7,H7,I7.unpinned,T.keep _ _ _ st5 fun b hb o e=>(I7.pin (b,o) (List.mem_append_right _ (List.mem_append_right _ (zly hb e)))).1,fun b hb=>?_,w7⟩;obtain ⟨o,e,d⟩:=T.obj _ _ st5 b hb;exact (I7.pin (b,o) (List.mem_append_right _ (List.mem_append_right _ (zly hb e)))).2.1
  cases f with
  | next=>obtain ⟨σ7,H7,I7,n7⟩:=q7; exact again I7 n7
  | cont=>obtain ⟨σ7,H7,I7,n7⟩:=q7; exact again I7 n7
  | brk=>obtain ⟨σ7,H7,I7,q7⟩:=q7; exact ⟨σ7,H7,I7.unpinned,q7⟩
  | ret v=>obtain ⟨x7,σ7,H7,I7,r7,q7⟩:=q7; exact ⟨x7,σ7,H7,I7.unpinned,r7,q7⟩
end
noncomputable abbrev R2:=V->V->Hp->VK->Prop
noncomputable def OpR (X:Cx) (f:Value->Value->Sem Value) (r:R2) : Prop :=
 ∀ (pins:List (Addr×Obj)) (s:Shared) (σ:St) (H:Hp) (x y:V) (v u:Value) (Q:VK),Inv X pins σ H s->zaq x v->zaq y u->r x y H Q ->
  wpAny (model X.prog X.w) X.A (f v u) (EP X pins σ Q) X.xe s
noncomputable def zc9 (X:Cx) (f:Value) (r:List V->Hp->VK->Prop) : Prop :=
 ∀ (pins:List (Addr×Obj)) (s:Shared) (σ:St) (H:Hp) (xs:List V) (us:List Value) (Q:VK),Inv X pins σ H s->zak xs us->r xs H Q ->
  wpAny (model X.prog X.w) X.A (call f us) (EP X pins σ Q) X.xe s
noncomputable def zv2 (X:Cx) (r:V->Hp->(Bool->Hp->Prop)->Prop) : Prop :=
 ∀ (pins:List (Addr×Obj)) (s:Shared) (σ:St) (H:Hp) (x:V) (v:Value) (Q:Bool->Hp->Prop),Inv X pins σ H s->zaq x v->r x H Q ->
  wpAny (model X.prog X.w) X.A (truthy v) (TP X pins σ Q) X.xe s
noncomputable def tOp (r:R2) (ta tb:TE) : TE:=fun σ H Q=>ta σ H fun x H1=>tb σ H1 fun y H2=>r x y H2 Q
noncomputable def rI (C:Int->Int->Prop) (g:Int->Int->V) : R2:=fun x y H Q=>∃ i j,x=.int i/\y=.int j/\C i j/\Q (g i j) H
noncomputable def rI0 (g:Int->Int->V) : R2:=fun x y H Q=>∃ i j,x=.int i/\y=.int j/\Q (g i j) H
section
variable {X:Cx} {a b c:Expr} {ta tb tc:TE} {pos:Pos}
theorem zm4 (ha:PE X a ta) (hb:PE X b tb) {pins:List (Addr×Obj)} {s:Shared} {σ:St} {H:Hp} {R:V->V->Hp->Prop} (I:Inv X pins σ H s)
  (h:ta σ H fun x H1=>tb σ H1 fun y H2=>R x y H2) {Q:Value->Shared->Prop} {f:Value->Value->Sem Value}
  (hf:∀ v u s2 x y H2,Inv X pins σ H2 s2->zaq x v->zaq y u->R x y H2->wpAny (model X.prog X.w) X.A (f v u) Q X.xe s2) :
  wpAny (model X.prog X.w) X.A (eval a X.env) (fun v s₁=>wpAny (model X.prog X.w) X.A (eval b X.env) (fun u s₂=>wpAny (model X.prog X.w) X.A (f v u) Q X.xe s₂) X.xe s₁) X.xe s:=by
 refine thn (ha pins s σ H _ I h) fun v s1 ⟨x,H1,I1,r1,q1⟩=>?_;refine thn (hb pins s1 σ H1 _ I1 q1) fun u s2 ⟨y,H2,I2,r2,q2⟩=>?_;exact hf v u s2 x y H2 I2 r1 r2 q2
theorem zt8 {op:Operator} {r:R2} (ho:OpR X (binaryOp op) r) (ha:PE X a ta) (hb:PE X b tb) : PE X (.BinOp a op b pos) (tOp r ta tb):=by
 intro pins s σ H Q I h;exact wpAny_BinOp (zm4 ha hb I h fun v u s2 x y H2 I2 rx ry q=>ho pins s2 σ H2 x y v u Q I2 rx ry q)
theorem opI {f:Value->Value->Sem Value} {C:Int->Int->Prop} {g:Int->Int->Int}
  (rule:∀ (i j:Int) (t u:Tok) (s:Shared) (Q:Value->Shared->Prop) (E:Value->Shared->Prop),C i j->Q (.int (g i j) s.toks) { s with toks:=s.toks + 1 }->wpAny (model X.prog X.w) X.A (f (.int i t) (.int j u)) Q E s) :
  OpR X f (rI C fun i j=>.int (g i j)):=by
 intro pins s σ H x y v u Q I rx ry h;obtain ⟨i,j,rfl,rfl,hc,q⟩:=h;obtain ⟨t,rfl⟩:=rx;obtain ⟨t',rfl⟩:=ry;exact rule i j t t' s _ _ hc ⟨.int (g i j),H,I.tok _,⟨_,rfl⟩,q⟩
theorem zty {f:Value->Value->Sem Value} {g:Int->Int->Int}
  (rule:∀ (i j:Int) (t u:Tok) (s:Shared) (Q:Value->Shared->Prop) (E:Value->Shared->Prop),Q (.int (g i j) s.toks) { s with toks:=s.toks + 1 }->wpAny (model X.prog X.w) X.A (f (.int i t) (.int j u)) Q E s) :
  OpR X f (rI0 fun i j=>.int (g i j)):=by
 intro pins s σ H x y v u Q I rx ry h;obtain ⟨i,j,rfl,rfl,q⟩:=h;obtain ⟨t,rfl⟩:=rx;obtain ⟨t',rfl⟩:=ry;exact rule i j t t' s _ _ ⟨.int (g i j),H,I.tok _,⟨_,rfl⟩,q⟩
theorem zl3 {f:Value->Value->Sem Value} {g:Int->Int->Bool}
  (rule:∀ (i j:Int) (t u:Tok) (s:Shared) (Q:Value->Shared->Prop) (E:Value->Shared->Prop),Q (.bool (g i j)) s->wpAny (model X.prog X.w) X.A (f (.int i t) (.int j u)) Q E s) :
  OpR X f (rI0 fun i j=>.bl (g i j)):=by
 intro pins s σ H x y v u Q I rx ry h;obtain ⟨i,j,rfl,rfl,q⟩:=h;obtain ⟨t,rfl⟩:=rx;obtain ⟨t',rfl⟩:=ry;exact rule i j t t' s _ _ ⟨.bl (g i j),H,I,rfl,q⟩
noncomputable def zjn (i j:Int) : Prop:=0 < j/\j < 1073741824
noncomputable def zhs (i j:Int) : Prop:=0<=j/\j<=1000000/\i.natAbs < 2 ^ 64
noncomputable def zgx (i j:Int) : Prop:=(-(2 ^ 64) < i/\i < 2 ^ 64)\/(-(2 ^ 64) < j/\j < 2 ^ 64)
theorem zgx.ok {i j:Int} (h:zgx i j) : IntMulOk i j:=by
 rcases h with ⟨h1,h2⟩ | ⟨h1,h2⟩
 ·exact .of_left (intBits_le_64 h1 h2)
 ·exact .of_right (intBits_le_64 h1 h2)
theorem z28 : OpR X (binaryOp .Add) (rI0 fun i j=>.int (i + j)):=zty fun _ _ _ _ _ _ _ q=>add_int q
theorem z3n : OpR X (binaryOp .Sub) (rI0 fun i j=>.int (i - j)):=zty fun _ _ _ _ _ _ _ q=>sub_int q
theorem z3b : OpR X (binaryOp .FloorDiv) (rI zjn fun i j=>.int (i / j)):=opI fun i j _ _ _ _ _ hc q=>by
 have h1 : (0 : Int) < j:=hc.1;have h2 : j < 1073741824:=hc.2;exact floordiv_int (by omega) (by rw [Int.fdiv_eq_ediv_of_nonneg i (by omega)]; exact q) (.inl (PyProof.noPylong_small (by omega)))
theorem z3i : OpR X (binaryOp .Mod) (rI (fun _ j=>0 < j) fun i j=>.int (i % j)):=opI fun i j _ _ _ _ _ hc q=>by
 have h1 : (0 : Int) < j:=hc;exact mod_int' (by omega) (by rw [Int.fmod_eq_emod_of_nonneg i (by omega)]; exact q)
theorem z3m : OpR X (binaryOp .Pow) (rI zhs fun i j=>.int (i ^ j.toNat)):=opI fun _ _ _ _ _ _ _ hc q=>pow_int_small hc.1 hc.2.1 hc.2.2 q
end
noncomputable def zpg : V->V->Bool
 | .non,.non=>true | .non,.int _=>true | .int _,.non=>true | .non,.bl _=>true | .bl _,.non=>true | .non,.str _=>true | .str _,.non=>true
 | .int _,.int _=>true | .bl _,.bl _=>true | .str _,.str _=>true | .byt _,.byt _=>true
 | .int _,.str _=>true | .str _,.int _=>true | .bl _,.str _=>true | .str _,.bl _=>true
 | _,_=>false
noncomputable def rEq : R2:=fun x y H Q=>zpg x y=true/\Q (.bl (decide (x=y))) H
noncomputable def rNe : R2:=fun x y H Q=>zpg x y=true/\Q (.bl (!decide (x=y))) H
theorem znh {i j:Int} : decide (V.int i=V.int j)=(i==j):=by
 rw [Bool.eq_iff_iff];simp
theorem zju {i j:Bool} : decide (V.bl i=V.bl j)=(i==j):=by
 rw [Bool.eq_iff_iff];simp
theorem zni {i j:Str} : decide (V.str i=V.str j)=(i==j):=by
 rw [Bool.eq_iff_iff];simp
theorem zqy {i j:Array UInt8} : decide (V.byt i=V.byt j)=(i.toList==j.toList):=by
 rw [Bool.eq_iff_iff];cases i;cases j;simp
section
variable {X:Cx} {a b c:Expr} {ta tb tc:TE} {pos:Pos}
theorem zbd {pins:List (Addr×Obj)} {σ:St} {H:Hp} {s:Shared} {Q:VK} {k k':Bool} (I:Inv X pins σ H s) (q:Q (.bl k) H) (e:k=k') : EP X pins σ Q (.bool k') s:=by
 subst e;exact ⟨.bl k,H,I,rfl,q⟩
theorem z3a : OpR X (compareOp .Eq) rEq:=by
 intro pins s σ H x y v u Q I rx ry h;obtain ⟨hs,q⟩:=h
 cases x with
 | non =>
  cases rx
  cases y with
  | non=>cases ry; exact PySem.EqNone.eq_none_none (zbd I q (by simp))
  | bl j=>cases ry; exact PySem.EqNone.eq_none_bool (zbd I q (by simp))
  | int j=>obtain ⟨t',rfl⟩:=ry; exact PySem.EqNone.eq_none_int (zbd I q (by simp))
  | str j=>obtain ⟨t',rfl⟩:=ry; exact PySem.EqNone.eq_none_str (zbd I q (by simp))
  | _=>exact absurd (show false=true from hs) Bool.false_ne_true
 | bl i =>
  cases rx
  cases y with
  | non=>cases ry; exact PySem.EqNone.eq_bool_none (zbd I q (by simp))
  | bl j=>cases ry; exact eq_bool (zbd I q zju)
  | str j=>obtain ⟨t',rfl⟩:=ry; exact PySem.EqMixed.eq_bool_str (zbd I q (by simp))
  | _=>exact absurd (show false=true from hs) Bool.false_ne_true
 | int i =>
  obtain ⟨t,rfl⟩:=rx
  cases y with
  | non=>cases ry; exact PySem.EqNone.eq_int_none (zbd I q (by simp))
  | int j=>obtain ⟨t',rfl⟩:=ry; exact eq_int (zbd I q znh)
  | str j=>obtain ⟨t',rfl⟩:=ry; exact PySem.EqMixed.eq_int_str (zbd I q (by simp))
  | _=>exact absurd (show false=true from hs) Bool.false_ne_true
 | str i =>
  obtain ⟨t,rfl⟩:=rx
  cases y with
  | non=>cases ry; exact PySem.EqNone.eq_str_none (zbd I q (by simp))
  | bl j=>cases ry; exact PySem.EqMixed.eq_str_bool (zbd I q (by simp))
  | int j=>obtain ⟨t',rfl⟩:=ry; exact PySem.EqMixed.eq_str_int (zbd I q (by simp))
  | str j=>obtain ⟨t',rfl⟩:=ry; exact eq_str (zbd I q zni)
  | _=>exact absurd (show false=true from hs) Bool.false_ne_true
 | byt i =>
  obtain ⟨t,rfl⟩:=rx
  cases y with
  | byt j=>obtain ⟨t',rfl⟩:=ry; exact PySem.W.eq_bytes (zbd I q zqy)
  | _=>exact absurd (show false=true from hs) Bool.false_ne_true
 | _=>cases y <;> exact absurd (show false=true from hs) Bool.false_ne_true
theorem z3k : OpR X (compareOp .NotEq) rNe:=by
 intro pins s σ H x y v u Q I rx ry h;obtain ⟨hs,q⟩:=h
 cases x with
 | non =>
  cases rx
  cases y with
  | non=>cases ry; exact PySem.EqNone.ne_none_none (zbd I q (by simp))
  | bl j=>cases ry; exact PySem.EqNone.ne_none_bool (zbd I q (by simp))
  | int j=>obtain ⟨t',rfl⟩:=ry; exact PySem.EqNone.ne_none_int (zbd I q (by simp))
  | str j=>obtain ⟨t',rfl⟩:=ry; exact PySem.EqNone.ne_none_str (zbd I q (by simp))
  | _=>exact absurd (show false=true from hs) Bool.false_ne_true
 | bl i =>
  cases rx
  cases y with
  | non=>cases ry; exact PySem.EqNone.ne_bool_none (zbd I q (by simp))
  | bl j=>cases ry; exact ne_bool (zbd I q (congrArg not zju))
  | str j=>obtain ⟨t',rfl⟩:=ry; exact PySem.EqMixed.ne_bool_str (zbd I q (by simp))
  | _=>exact absurd (show false=true from hs) Bool.false_ne_true
 | int i =>
  obtain ⟨t,rfl⟩:=rx
  cases y with
  | non=>cases ry; exact PySem.EqNone.ne_int_none (zbd I q (by simp))
  | int j=>obtain ⟨t',rfl⟩:=ry; exact ne_int (zbd I q (congrArg not znh))
  | str j=>obtain ⟨t',rfl⟩:=ry; exact PySem.EqMixed.ne_int_str (zbd I q (by simp))
  | _=>exact absurd (show false=true from hs) Bool.false_ne_true
 | str i =>
  obtain ⟨t,rfl⟩:=rx
  cases y with
  | non=>cases ry; exact PySem.EqNone.ne_str_none (zbd I q (by simp))
  | bl j=>cases ry; exact PySem.EqMixed.ne_str_bool (zbd I q (by simp))
  | int j=>obtain ⟨t',rfl⟩:=ry; exact PySem.EqMixed.ne_str_int (zbd I q (by simp))
  | str j=>obtain ⟨t',rfl⟩:=ry; exact ne_str (zbd I q (congrArg not zni))
  | _=>exact absurd (show false=true from hs) Bool.false_ne_true
 | byt i =>
  obtain ⟨t,rfl⟩:=rx
  cases y with
  | byt j=>obtain ⟨t',rfl⟩:=ry; exact PySem.W.ne_bytes (zbd I q (congrArg not zqy))
  | _=>exact absurd (show false=true from hs) Bool.false_ne_true
 | _=>cases y <;> exact absurd (show false=true from hs) Bool.false_ne_true
theorem z3h : OpR X (compareOp .Lt) (rI0 fun i j=>.bl (decide (i < j))):=zl3 fun _ _ _ _ _ _ _ q=>lt_int q
theorem z3g : OpR X (compareOp .LtE) (rI0 fun i j=>.bl (decide (i<=j))):=zl3 fun _ _ _ _ _ _ _ q=>le_int q
theorem z3d : OpR X (compareOp .Gt) (rI0 fun i j=>.bl (decide (j < i))):=zl3 fun _ _ _ _ _ _ _ q=>gt_int q
theorem z3c : OpR X (compareOp .GtE) (rI0 fun i j=>.bl (decide (j<=i))):=zl3 fun _ _ _ _ _ _ _ q=>ge_int q
theorem z3f : OpR X (compareOp .Is) (fun x y H Q=>y=.non/\Q (.bl (decide (x=.non))) H):=by
 intro pins s σ H x y v u Q I rx ry h;obtain ⟨rfl,q⟩:=h;cases ry;refine is_none_gen (zbd I q ?_)
 cases x <;> first
  | (cases rx; rfl)
  | (obtain ⟨t,rfl⟩:=rx; rfl)
theorem z3l : OpR X (compareOp .IsNot) (fun x y H Q=>y=.non/\Q (.bl (!decide (x=.non))) H):=by
 intro pins s σ H x y v u Q I rx ry h;obtain ⟨rfl,q⟩:=h;cases ry;refine isnot_none_gen (zbd I q ?_)
 cases x <;> first
  | (cases rx; rfl)
  | (obtain ⟨t,rfl⟩:=rx; rfl)
theorem OpR.or {f:Value->Value->Sem Value} {r r':R2} (h:OpR X f r) (h':OpR X f r') : OpR X f (fun x y H Q=>r x y H Q\/r' x y H Q):=by
 intro pins s σ H x y v u Q I rx ry q
 rcases q with q | q
 ·exact h pins s σ H x y v u Q I rx ry q
 ·exact h' pins s σ H x y v u Q I rx ry q
theorem ztk (b:Expr) {op:CmpOp} (h:op≠.In:=by decide) (h2:op≠.NotIn:=by decide) : behindInMarks op b=false:=by
 have e1 : (op==CmpOp.In)=false:=by cases op <;> first | rfl | exact absurd rfl h
 have e2 : (op==CmpOp.NotIn)=false:=by cases op <;> first | rfl | exact absurd rfl h2
 cases b <;> simp [behindInMarks,e1,e2]
theorem z3y {op:CmpOp} {r:R2} (ho:OpR X (compareOp op) r) (ha:PE X a ta) (hb:PE X b tb) (hm:behindInMarks op b=false) : PE X (.Compare a [op] [b] pos) (tOp r ta tb):=by
 intro pins s σ H Q I h;exact wpAny_Compare1 (zm4 ha hb I h fun v u s2 x y H2 I2 rx ry q=>ho pins s2 σ H2 x y v u Q I2 rx ry q) hm
noncomputable def zvh (t:TE) : TT:=fun σ H Q=>t σ H fun x H'=>∃ k,x=.bl k/\Q k H'
theorem z40 {op:CmpOp} {r:R2} (ho:OpR X (compareOp op) r) (ha:PE X a ta) (hb:PE X b tb) (hm:behindInMarks op b=false) : PT X (.Compare a [op] [b] pos) (zvh (tOp r ta tb)):=by
 intro pins s σ H Q I h
 refine wpAny_isTrue_Compare1 (thn (ha pins s σ H _ I h) fun v s1 ⟨x,H1,I1,r1,q1⟩=>thn (hb pins s1 σ H1 _ I1 q1) fun u s2 ⟨y,H2,I2,r2,q2⟩ =>
  thn (ho pins s2 σ H2 x y v u _ I2 r1 r2 q2) fun c s3 ⟨z,H3,I3,r3,k,e,q3⟩=>?_) hm
 subst e;cases r3;exact wpAny_truthy_bool ⟨H3,I3,q3⟩
noncomputable def z65 (r r':R2) (ta tb tc:TE) : TE:=fun σ H Q=>ta σ H fun x H1=>tb σ H1 fun y H2=>r x y H2 fun z H3=>∃ k,z=.bl k /\
 (if k=true then tc σ H3 fun w' H4=>r' y w' H4 Q else Q (.bl false) H3)
theorem z4z {op op':CmpOp} {r r':R2} (ho:OpR X (compareOp op) r) (ho':OpR X (compareOp op') r') (ha:PE X a ta) (hb:PE X b tb) (hc:PE X c tc)
  (hm:lastMarks [op,op'] [b,c]=false:=by with_unfolding_all rfl) : PT X (.Compare a [op,op'] [b,c] pos) (zvh (z65 r r' ta tb tc)):=by
 intro pins s σ H Q I h
 refine isTrue_chain (thn (ha pins s σ H _ I h) fun v s1 ⟨x,H1,I1,r1,q1⟩=>test_link (thn (hb pins s1 σ H1 _ I1 q1) fun u s2 ⟨y,H2,I2,r2,q2⟩ =>
  thn (ho pins s2 σ H2 x y v u _ I2 r1 r2 q2) fun d s3 ⟨z,H3,I3,r3,k,e,q3⟩=>?_)) hm
 subst e;cases r3;refine wpAny_truthy_bool ?_
 cases k with
 | false =>
  obtain ⟨k',e',q'⟩:=q3;cases e'
  exact ite_ff ⟨H3,I3,q'⟩
 | true =>
  refine ite_tt (test_last (thn (hc pins s3 σ H3 _ I3 q3) fun w' s4 ⟨z',H4,I4,r4,q4⟩=>thn (ho' pins s4 σ H4 y z' u w' _ I4 r2 r4 q4) fun d' s5 ⟨z2,H5,I5,r5,k2,e2,q5⟩=>?_));subst e2;cases r5;exact wpAny_truthy_bool ⟨H5,I5,q5⟩
noncomputable def zmy (K:PySem.W.Frag) (x:V) (H:Hp) (k:Bool) : Prop :=
 match x with
 | .non=>k=false
 | .bl b=>k=b
 | .int i=>k=(i != 0)
 | .str y=>y.length<=sizeLine/\k=((y.length : Int) != 0)
 | .byt y=>y.size<=sizeLine/\k=((y.size : Int) != 0)
 | .ref p=>(∃ xs,SqL K H p xs/\k=!xs.isEmpty)\/(∃ xs,SqT K H p xs/\k=!xs.isEmpty)\/∃ kvs,H p=some (.dK kvs)/\k=!kvs.isEmpty
 | _=>False
theorem zzr {κ : Type} {kvs:List (κ×V)} {vs:List (κ×Value)} (r:KV kvs vs) : (!vs.isEmpty)=!kvs.isEmpty:=by
 cases r <;> rfl
theorem zsb {xs:List V} {its:List Value} (r:zak xs its) : (!its.toArray.isEmpty)=!xs.isEmpty:=by
 cases r <;> simp
theorem zh7 : (sizeLine:Nat) < 2 ^ 63:=by rw [sizeLine_eq]; decide
theorem z7v : zv2 X (fun x H Q=>∃ k,zmy X.K x H k/\Q k H):=by
 intro pins s σ H x v Q I rx h;obtain ⟨k,e,q⟩:=h;have hl:=zh7;have hs : sizeLine=16777216:=sizeLine_eq
 cases x with
 | non =>
  cases rx;have e' : k=false:=e;subst e'
  exact truthy_none ⟨H,I,q⟩
 | bl b =>
  cases rx;have e' : k=b:=e;subst e'
  exact wpAny_truthy_bool ⟨H,I,q⟩
 | int i =>
  obtain ⟨t,rfl⟩:=rx;have e' : k=(i != 0):=e;subst e'
  exact PySem.P.truthy_int ⟨H,I,q⟩
 | str y =>
  obtain ⟨t,rfl⟩:=rx;obtain ⟨hy,e'⟩ : y.length<=sizeLine/\k=((y.length : Int) != 0):=e;subst e'
  exact PySem.P.truthy_str (by omega) ⟨H,I.tok _,q⟩
 | byt y =>
  obtain ⟨t,rfl⟩:=rx;obtain ⟨hy,e'⟩ : y.size<=sizeLine/\k=((y.size : Int) != 0):=e;subst e'
  exact PySem.W.truthy_bytes (by omega) ⟨H,I.tok _,q⟩
 | ref p =>
  cases rx;have e' : (∃ xs,SqL X.K H p xs/\k=!xs.isEmpty)\/(∃ xs,SqT X.K H p xs/\k=!xs.isEmpty)\/∃ kvs,H p=some (.dK kvs)/\k=!kvs.isEmpty:=e
  rcases e' with ⟨xs,hx,e'⟩ | ⟨xs,hx,e'⟩ | ⟨kvs,hx,e'⟩
  ·subst e';obtain ⟨its,r,pl,hz⟩:=I.list hx;have hlen:=r.length;exact wpAny_truthy_list pl.isList (by simp only [List.size_toArray]; omega) ⟨H,I.tok _,by rw [zsb r]; exact q⟩
  ·subst e';obtain ⟨its,r,pl,hz⟩:=I.tuple hx;have hlen:=r.length;exact truthy_tuple pl (by simp only [List.size_toArray]; omega) ⟨H,I.tok _,by rw [zsb r]; exact q⟩
  ·subst e';obtain ⟨hz,hS,vs,r,m⟩ : kvs.length<=sizeLine/\(p==sysModules)=false/\∃ vs,KV kvs vs/\s.heap.DictOf (zgl X.prog X.w) p vs:=I.hok p _ hx;have hlen : kvs.length=vs.length:=Paired.length r
   exact wpAny_truthy_dict hS m (by omega) ⟨H,I.tok _,by rw [zzr r]; exact q⟩
 | _=>exact (show False from e).elim
theorem z42 (ha:PE X a ta) (he:∀ whole,isTrue a X.env whole=(do let v <- whole; standAt a.pos; holding [v] (truthy v))) :
  PT X a (fun σ H Q=>ta σ H fun x H'=>∃ k,zmy X.K x H' k/\Q k H'):=by
 intro pins s σ H Q I h;exact isTrue_plain (thn (ha pins s σ H _ I h) fun v s1 ⟨x,H1,I1,r1,q1⟩=>z7v pins s1 σ H1 x v Q I1 r1 q1) (he _)
theorem z29 : OpR X (binaryOp .Add) (fun x y H Q=>∃ i j,x=.str i/\y=.str j/\i.length + j.length<=sizeLine/\Q (.str (i++j)) H):=by
 intro pins s σ H x y v u Q I rx ry h;obtain ⟨i,j,rfl,rfl,hz,q⟩:=h;obtain ⟨t,rfl⟩:=rx;obtain ⟨t',rfl⟩:=ry;exact add_str (fun t' tk=>⟨.str (i++j),H,I.tok _,⟨_,rfl⟩,q⟩) hz
theorem zji {x:V} {us:List Value} (r:zak [x] us) : ∃ u,us=[u]/\zaq x u:=by
 cases r with
 | cons r1 r2=>cases r2; exact ⟨_,rfl,r1⟩
theorem z75 {x y:V} {us:List Value} (r:zak [x,y] us) : ∃ u w',us=[u,w']/\zaq x u/\zaq y w':=by
 cases r with
 | cons r1 r2 =>
  cases r2 with
  | cons r3 r4=>cases r4; exact ⟨_,_,rfl,r1,r3⟩
end
structure zgz (h:Heap) (x dx C:Addr) (mA:Str->Option Value) : Prop where
 obj : h.get? x=some (PySem.W.instObj C dx)
 ns : h.Ns1 dx mA
 ne : dx≠x
theorem z0k {h:Heap} {dx:Addr} {mA:Str->Option Value} (n:h.Ns1 dx mA) : ∃ od,h.get? dx=some od/\∀ name,PySem.W.lookIn name od=some (mA name):=by
 obtain ⟨o,es,ep,ho,hd,hk,_,hm⟩:=n;refine ⟨o,ho,fun name=>?_⟩;have e:=hm name;unfold nsFind findBy at e;rw [<- Array.find?_toList] at e;unfold PySem.W.lookIn;rw [hd];dsimp only;split
 ·rename_i y q;rw [q] at e;exact congrArg some e
 ·rename_i q;rw [q] at e
  have a : es.toList.any (·.refKey)=false:=by
   rw [List.any_eq_false];intro y hy;obtain ⟨z,t,hkey⟩:=hk y (Array.mem_toList_iff.mp hy);simp [DictEntry.refKey,hkey]
  have a' : ¬ es.toList.any (·.refKey)=true:=by rw [a]; exact Bool.false_ne_true
  rw [if_neg a'];exact congrArg some e
theorem zgz.look {h:Heap} {x dx C:Addr} {mA:Str->Option Value} (I:zgz h x dx C mA) : ∃ od,PySem.W.InstAt h x (PySem.W.instObj C dx) C (some od)/\∀ name,PySem.W.lookIn name od=some (mA name) :=
 let ⟨od,ho,hl⟩:=z0k I.ns
 ⟨od,⟨I.obj,rfl,rfl,ho⟩,hl⟩
section
variable {prog:Program} {w:World} {A:Around} {E:Value->Shared->Prop} {s:Shared} {K:PySem.W.Frag} {x dx C f:Addr} {mA:Str->Option Value} {name:Str} {v:Value}
theorem zy2 {expr:Bool} {Q:Value->Shared->Prop} (X:K.In s.heap) (I:zgz s.heap x dx C mA) (hg:PySem.W.plainGet K C name=true) (hh:PySem.W.hasDictIn K C=true)
  (ha:PySem.W.findIn K (.ref C) name=some none) (hv:mA name=some v) (hv':PySem.W.handedIn v=true) (h:Q v { s with toks:=s.toks + 1 }) :
  wpAny (model prog w) A (getAttr (.ref x) name expr) Q E s:=by
 obtain ⟨od,J,hl⟩:=I.look;exact PySem.W.get_value X J (PySem.W.plainGet_of hg).1 (PySem.W.findObj_own hh ha rfl (by rw [hl,hv])) hv' h
theorem zy3 {pl:Sem Bool} {Q:Value×List Value->Shared->Prop} (X:K.In s.heap) (I:zgz s.heap x dx C mA) (hg:PySem.W.plainGet K C name=true)
  (hf:PySem.W.findIn K (.ref C) name=some (some (.ref f))) (ht:PySem.W.isFn K (.ref f)=true) (hv:mA name=none) (h:Q (.ref f,[.ref x]) s) :
  wpAny (model prog w) A (getMethod (.ref x) name pl) Q E s:=by
 obtain ⟨od,J,hl⟩:=I.look;exact PySem.W.method_fn X J (PySem.W.plainGet_of hg).1 (PySem.W.plainGet_of hg).2 hf (beq_iff_eq.mp ht) (by show (PySem.W.lookIn name od).map (·.isSome)=some false; rw [hl,hv]; rfl) h
theorem z6p {ns:List Str} {Q:Unit->Shared->Prop} (X:K.In s.heap) (I:zgz s.heap x dx C mA)
  (hs:PySem.W.findIn K (.ref C) "__setattr__"=some (some (.builtin "object.__setattr__"))) (hp:PySem.W.plainOver K C=true) (ht:PySem.W.takerIn K C name=some none) (hh:PySem.W.hasDictIn K C=true)
  (hw:PySem.Within mA ns) (hsz:ns.length<=sizeLine)
  (h:∀ h',zgz h' x dx C (fun y=>if y=name then some v else mA y)->Heap.SameBut dx s.heap h'->Q () { s with heap:=h',toks:=s.toks + 2 }) :
  wpAny (model prog w) A (setAttr (.ref x) name v) Q E s:=by
 obtain ⟨od,J,hl⟩:=I.look
 refine PySem.W.set_plain X J hs (PySem.W.osa_open (s:={ s with toks:=s.toks + 1 }) (r:=none) X J hp ht fun b=>?_)
 obtain ⟨cd,hc,hd'⟩:=PySem.W.any_some hh;have hx : s.heap.get? x=some ⟨.ref C,some dx,.plain,#[]⟩:=I.obj
 refine wpAny_bind (wpAny_pure (wpAny_bind (wpAny_bind (wpAny_loadPart hx (wpAny_bind (PySem.W.Looks.here (s:={ s with toks:=s.toks + 1 }) (PySem.W.looks_clsIn X hc) ?_))))))
 rw [hd'];refine wpAny_pure (a:=some dx) (wpAny_bind (wpAny_pure (wpAny_bind ?_)))
 refine wpAny_nsSet1 (s:={ s with toks:=s.toks + 1 }) I.ns fun h' hn2 hs2=>?_
 obtain ⟨oD,esD,epD,hoD,hdD,hcD⟩:=hn2.count (PySem.Within.cons name v hw);refine wpAny_bind (wpAny_lookBehind hoD (by rw [hdD]; exact pastItsLine_dict (Nat.le_trans hcD (by rw [List.length_cons]; omega))) ?_);exact wpAny_pure (h _ ⟨(hs2.2 _ (Ne.symm I.ne)).trans I.obj,hn2,I.ne⟩ hs2)
theorem z00 {R:Result->Shared->Prop} {vs:List Value} {kw:List (Str×Value)} (X:K.In s.heap) (hm:PySem.W.makesIn K C=true)
  (hi:PySem.W.findIn K (.ref C) "__init__"=some (some (.ref f))) (hf:PySem.W.typeIn K (.ref f)=some (.type "function"))
  (h:codeAny (model prog w) (A.under (.builtin "type.__call__" ⟨.ref C::vs,kw⟩)) (.call (.ref f) ⟨.ref (s.heap.objs.size + 1)::vs,kw⟩) (PySem.W.InitBack (s.heap.objs.size + 1) R)
   { s with heap:=(s.heap.push PySem.W.emptyDict).push (PySem.W.instObj C s.heap.objs.size) }) :
  codeAny (model prog w) A (.call (.ref C) ⟨vs,kw⟩) R s:=by
 obtain ⟨hh,g,d,t,os⟩:=s;exact PySem.W.make_core (PySem.W.makes_of X hm) (PySem.W.looks_findIn X hi) (fun self=>PySem.W.bind_fn X self hf) (.inl rfl) h
end
noncomputable def zby (f:Str) (v:V) : List (Str×V)->List (Str×V)
 | []=>[(f,v)]
 | (g,x)::r=>if g=f then (g,v)::r else (g,x)::zby f v r
theorem zs0 (f g:Str) (v:V) : ∀ fs : List (Str×V),(zby f v fs).lookup g=if g=f then some v else fs.lookup g
 | []=>by
  show List.lookup g [(f,v)]=_
  by_cases h : g=f
  ·have hb : (g==f)=true:=beq_iff_eq.mpr h;simp only [List.lookup,hb,if_pos h]
  ·have hb : (g==f)=false:=beq_eq_false_iff_ne.mpr h
   simp only [List.lookup,hb,if_neg h]
 | (k,x)::r=>by
  have ih:=zs0 f g v r;rw [show zby f v ((k,x)::r)=(if k=f then (k,v)::r else (k,x)::zby f v r) from rfl]
  by_cases hk : k=f
  ·rw [if_pos hk]
   by_cases h : g=k
   ·have hb : (g==k)=true:=beq_iff_eq.mpr h;simp only [List.lookup,hb,if_pos (h.trans hk)]
   ·have hb : (g==k)=false:=beq_eq_false_iff_ne.mpr h;simp only [List.lookup,hb,if_neg (fun e:g=f=>h (e.trans hk.symm))]
  ·rw [if_neg hk]
   by_cases h : g=k
   ·have hb : (g==k)=true:=beq_iff_eq.mpr h;simp only [List.lookup,hb,if_neg (fun e:g=f=>hk (h.symm.trans e))]
   ·have hb : (g==k)=false:=beq_eq_false_iff_ne.mpr h;simp only [List.lookup,hb];exact ih
theorem zn7 (f:Str) (v:V) : ∀ fs : List (Str×V),f∈(zby f v fs).map (·.1)/\∀ g,g∈fs.map (·.1)->g∈(zby f v fs).map (·.1)
 | []=>⟨by simp [zby],fun g h=>by simp at h⟩
 | (k,x)::r=>by
  obtain ⟨i1,i2⟩:=zn7 f v r;rw [show zby f v ((k,x)::r)=(if k=f then (k,v)::r else (k,x)::zby f v r) from rfl]
  by_cases hk : k=f
  ·rw [if_pos hk];subst hk;exact ⟨by simp,fun g h=>by simpa using h⟩
  ·rw [if_neg hk];refine ⟨?_,fun g h=>?_⟩
   ·rw [List.map_cons];exact List.mem_cons_of_mem _ i1
   ·rw [List.map_cons] at h ⊢
    rcases List.mem_cons.mp h with e | e
    ·exact List.mem_cons.mpr (.inl e)
    ·exact List.mem_cons_of_mem _ (i2 g e)
theorem zsy (f:Str) (v:V) : ∀ fs : List (Str×V),(zby f v fs).length<=fs.length + 1
 | []=>by simp [zby]
 | (k,x)::r=>by
  have ih:=zsy f v r;rw [show zby f v ((k,x)::r)=(if k=f then (k,v)::r else (k,x)::zby f v r) from rfl]
  by_cases hk : k=f
  ·rw [if_pos hk,List.length_cons,List.length_cons]; omega
  ·rw [if_neg hk,List.length_cons,List.length_cons]; omega
theorem zda.some_of {v:V} {o:Option Value} (r:zda (some v) o) : ∃ u,o=some u/\zaq v u:=by
 cases o with
 | none=>exact (show False from r).elim
 | some u=>exact ⟨u,rfl,r⟩
theorem zda.none_of {o:Option Value} (r:zda none o) : o=none:=by
 cases o with
 | none=>rfl
 | some u=>exact (show False from r).elim
theorem zy7 {v:V} {u:Value} (r:zaq v u) : PySem.W.handedIn u=true:=by
 cases v with
 | non=>cases (show u=Value.none from r); rfl
 | bl b=>cases (show u=Value.bool b from r); rfl
 | int i=>obtain ⟨t,e⟩:=(show ∃ t,u=Value.int i t from r); cases e; rfl
 | str x=>obtain ⟨t,e⟩:=(show ∃ t,u=Value.str x t from r); cases e; rfl
 | byt b=>obtain ⟨t,e⟩:=(show ∃ t,u=Value.bytes b t from r); cases e; rfl
 | flt b=>obtain ⟨t,e⟩:=(show ∃ t,u=Value.float b t from r); cases e; rfl
 | ref a=>cases (show u=Value.ref a from r); rfl
 | ty n=>cases (show u=Value.type n from r); rfl
section
variable {P:Program} {w:World} {H H':Hp} {h h':Heap} {a C dx:Addr} {fs fs':List (Str×V)}
theorem zlj (hok:HOk P w H h) (e:H a=some (.ins C dx fs)) : ∃ mA,zgz h a dx C mA/\(∀ f,zda (fs.lookup f) (mA f))/\PySem.Within mA (fs.map (·.1))/\fs.length<=1000/\H dx=some (.own a):=by
 obtain ⟨d,z,ne,ob,mA,n,r,q⟩:=(show zbv P w H h a (.ins C dx fs) from hok a _ e);exact ⟨mA,⟨ob,n,ne⟩,r,q,z,d⟩
end
structure Cls (K:PySem.W.Frag) (C:Addr) : Prop where
 pg : PySem.W.plainGet K C Str.empty=true
 hd : PySem.W.hasDictIn K C=true
 po : PySem.W.plainOver K C=true
 sa : PySem.W.findIn K (.ref C) "__setattr__"=some (some (.builtin "object.__setattr__"))
theorem Cls.get {K:PySem.W.Frag} {C:Addr} (c:Cls K C) (f:Str) : PySem.W.plainGet K C f=true:=c.pg
noncomputable def zbc (K:PySem.W.Frag) (C:Addr) (f:Str) : Prop:=PySem.W.findIn K (.ref C) f=some none
theorem zbc.taker {K:PySem.W.Frag} {C:Addr} {f:Str} (n:zbc K C f) : PySem.W.takerIn K C f=some none:=by
 unfold PySem.W.takerIn;rw [show PySem.W.findIn K (.ref C) f=some none from n];rfl
structure zbe (K:PySem.W.Frag) (C:Addr) (m:Str) (f:Addr) : Prop where
 at_ : PySem.W.findIn K (.ref C) m=some (some (.ref f))
 fn : PySem.W.isFn K (.ref f)=true
 kp : PySem.W.keepIn K (.ref f)=true
section
variable {X:Cx} {pins:List (Addr×Obj)} {σ:St} {H:Hp} {s:Shared} {a C dx:Addr} {fs:List (Str×V)} {f:Str} {v:V} {A:Around} {E:Value->Shared->Prop}
theorem zy4 {b:Bool} {Q:Value->Shared->Prop} (I:Inv X pins σ H s) (e:H a=some (.ins C dx fs)) (c:Cls X.K C) (n:zbc X.K C f) (l:fs.lookup f=some v)
  (h:∀ u s',Inv X pins σ H s'->zaq v u->Q u s') : wpAny (model X.prog X.w) A (getAttr (.ref a) f b) Q E s:=by
 obtain ⟨mA,O,r,_,_,_⟩:=zlj I.hok e;obtain ⟨u,hu,ru⟩:=zda.some_of (v:=v) (o:=mA f) (by rw [<- l]; exact r f);exact zy2 I.kIn O (c.get f) c.hd n hu (zy7 ru) (h u _ (I.tok _) ru)
theorem zrx {m:Str} {g:Addr} {pl:Sem Bool} {Q:Value×List Value->Shared->Prop} (I:Inv X pins σ H s) (e:H a=some (.ins C dx fs)) (c:Cls X.K C) (k:zbe X.K C m g) (l:fs.lookup m=none)
  (h:Q (.ref g,[.ref a]) s) : wpAny (model X.prog X.w) A (getMethod (.ref a) m pl) Q E s:=by
 obtain ⟨mA,O,r,_,_,_⟩:=zlj I.hok e;have hn : mA m=none:=zda.none_of (by rw [<- l]; exact r m);exact zy3 I.kIn O (c.get m) k.at_ k.fn hn h
theorem z6r {y:V} {u:Value} {Q:Unit->Shared->Prop} (I:Inv X pins σ H s) (e:H a=some (.ins C dx fs)) (c:Cls X.K C) (n:zbc X.K C f) (hl:fs.length < 1000) (ry:zaq y u)
  (h:∀ s',Inv X pins σ (upd H a (.ins C dx (zby f y fs))) s'->Q () s') : wpAny (model X.prog X.w) A (setAttr (.ref a) f u) Q E s:=by
 obtain ⟨mA,O,r,wi,_,ho⟩:=zlj I.hok e;have hz : (fs.map (·.1)).length<=sizeLine:=by rw [List.length_map,sizeLine_eq]; omega
 refine z6p I.kIn O c.sa c.po n.taker c.hd wi hz fun h' O' sb=>h _ ?_;have hd : ∃ o,h'.get? dx=some o:=let ⟨o,_,_,e',_⟩:=O'.ns; ⟨o,e'⟩;refine I.write (x:=a) (e:=dx) (by rw [e]; exact True.intro) (.inr ho) (fun b q hb z=>(sb.2 b hb).trans z) hd ?_;refine ⟨by rw [zar O.ne]; exact ho,?_,O.ne,O'.obj,_,O'.ns,fun g=>?_,fun g hg=>?_⟩
 ·have:=zsy f y fs; omega
 ·show zda ((zby f y fs).lookup g) (if g=f then some u else mA g);rw [zs0]
  by_cases q : g=f
  ·rw [if_pos q,if_pos q]; exact ry
  ·rw [if_neg q,if_neg q]; exact r g
 ·by_cases q : g=f
  ·rw [q]; exact (zn7 f y fs).1
  ·refine (zn7 f y fs).2 g (wi g fun z=>hg ?_);show (if g=f then some u else mA g)=none;rw [if_neg q]; exact z
theorem Inv.made (I:Inv X pins σ H s) : Inv X pins σ (upd (upd H s.heap.objs.size (.own (s.heap.objs.size + 1))) (s.heap.objs.size + 1) (.ins C s.heap.objs.size []))
  { s with heap:=(s.heap.push PySem.W.emptyDict).push (PySem.W.instObj C s.heap.objs.size) }:=by
 have e1 : (s.heap.push PySem.W.emptyDict).get? s.heap.objs.size=some PySem.W.emptyDict:=Heap.get?_push_size s.heap rfl
 have e2 : ((s.heap.push PySem.W.emptyDict).push (PySem.W.instObj C s.heap.objs.size)).get? (s.heap.objs.size + 1)=some (PySem.W.instObj C s.heap.objs.size):=by
  have:=Heap.get?_push_size (s.heap.push PySem.W.emptyDict) (o:=PySem.W.instObj C s.heap.objs.size) rfl
  rwa [Heap.size_push] at this
 have e3 : (s.heap.push PySem.W.emptyDict).Ns s.heap.objs.size (fun _=>none):=⟨PySem.W.emptyDict,#[],_,e1,rfl,(fun e he=>absurd he (by simp)),fun _=>rfl⟩;have I1:=I.laid (a:=s.heap.objs.size) (o:=.own (s.heap.objs.size + 1)) (h':=s.heap.push PySem.W.emptyDict) (t':=s.toks) (fun b u q=>Heap.get?_push_of_some _ q) (Nat.le_refl _) ⟨_,e1⟩;refine I1.laid (a:=s.heap.objs.size + 1) (o:=.ins C s.heap.objs.size []) (t':=s.toks) (fun b u q=>Heap.get?_push_of_some _ q) (Nat.le_of_eq (Heap.size_push _ _)) ?_;have ne : s.heap.objs.size≠s.heap.objs.size + 1:=Nat.ne_of_lt (Nat.lt_succ_self _);refine ⟨by rw [zar ne,zbb],Nat.zero_le _,ne,e2,fun _=>none,(Heap.Ns1.of_empty e3).at fun o q=>Heap.get?_push_of_some _ q,fun _=>True.intro,fun y hy=>absurd rfl hy⟩
theorem zwh {prog:Program} {w:World} {env:Env} {e:Expr} {f:Str} {pos:Pos} {s:Shared} {Q:Value->Shared->Prop} (hb:attributeBase e f env (eval e env)=eval e env)
  (h:wpAny (model prog w) A (eval e env) (fun o s₁=>wpAny (model prog w) A (getAttr o f true) Q E s₁) E s) : wpAny (model prog w) A (eval (.Attribute e f pos) env) Q E s :=
 Attribute_any_ h (by rw [arm_eval_Attribute,hb])
end
noncomputable def z7b (K:PySem.W.Frag) (ta:TE) (f:Str) : TE:=fun σ H Q=>ta σ H fun x H1=>∃ a C dx fs v,x=.ref a/\H1 a=some (.ins C dx fs)/\Cls K C/\zbc K C f/\fs.lookup f=some v/\Q v H1
noncomputable def zur (K:PySem.W.Frag) (ta tv:TE) (f:Str) : TS:=fun D σ H=>tv σ H fun y H1=>ta σ H1 fun x H2=>∃ a C dx fs,x=.ref a/\H2 a=some (.ins C dx fs)/\Cls K C/\zbc K C f/\fs.length < 1000 /\
 D.nx σ (upd H2 a (.ins C dx (zby f y fs)))
section
variable {X:Cx} {o e value:Expr} {f:Str} {pos pos' tpos:Pos} {ta tv:TE}
theorem zt4 (he:PE X e ta) (hb:attributeBase e f X.env (eval e X.env)=eval e X.env) : PE X (.Attribute e f pos) (z7b X.K ta f):=by
 intro pins s σ H Q I h;refine zwh hb (thn (he pins s σ H _ I h) fun u s1 ⟨x,H1,I1,rx,a,C,dx,fs,v,ex,ea,c,n,l,q⟩=>?_);subst ex;obtain rfl : u=Value.ref a:=rx;exact zy4 I1 ea c n l fun u' s2 I2 ru=>⟨v,H1,I2,ru,q⟩
theorem zf2 (ha:PE X o ta) (hv:PE X value tv) (hs:swapsWith value (some (.Attribute o f pos')) pos.line X.env=pure false) : PS X (.Assign [.Attribute o f pos'] value pos) (zur X.K ta tv f):=by
 intro pins s σ H D I h;refine plainObj_wpAny_Assign_Attribute (thn (hv pins s σ H _ I h) fun u s1 ⟨y,H1,I1,ry,q⟩=>thn (ha pins s1 σ H1 _ I1 q) fun ov s2 ⟨x,H2,I2,rx,a,C,dx,fs,ex,ea,c,n,l,q2⟩=>?_) hs;subst ex;obtain rfl : ov=Value.ref a:=rx;exact z6r I2 ea c n l ry fun s3 I3=>⟨σ,_,I3,q2⟩
end
section
variable {X:Cx} {pins:List (Addr×Obj)} {σ:St} {H:Hp} {s:Shared} {A:Around} {E:Value->Shared->Prop} {Q:Value->Shared->Prop} {c:Value} {b:Bool}
inductive zdm (K:PySem.W.Frag) (H:Hp) : V->Value->Prop where
 | non : zdm K H .non (.type "NoneType")
 | bl (x:Bool) : zdm K H (.bl x) (.type "bool")
 | int (i:Int) : zdm K H (.int i) (.type "int")
 | str (x:Str) : zdm K H (.str x) (.type "str")
 | flt (x:UInt64) : zdm K H (.flt x) (.type "float")
 | lst {a:Addr} {xs:List V} (e:H a=some (.lst xs)) : zdm K H (.ref a) (.type "list")
 | frz {a:Addr} {o:Obj} {xs:List V} (e:H a=some (.frz o (.lst xs))) : zdm K H (.ref a) (.type "list")
 | tup {a:Addr} {xs:List V} (e:H a=some (.tup xs)) : zdm K H (.ref a) (.type "tuple")
 | dK {a:Addr} {kvs:List (Key×V)} (e:H a=some (.dK kvs)) : zdm K H (.ref a) (.type "dict")
 | dT {a:Addr} {kvs:List (List Key×V)} (e:H a=some (.dT kvs)) : zdm K H (.ref a) (.type "dict")
 | ins {a C dx:Addr} {fs:List (Str×V)} (e:H a=some (.ins C dx fs)) (cl:Cls K C) (ha:PySem.W.findIn K (.ref C) "__class__"=some (some (.builtin "object.__class__")))
   (hn:PySem.W.specialIn K (.builtin "object.__class__") "__get__"=some (some (.builtin "getset_descriptor.__get__"))) (htk:PySem.W.takesIn K (.builtin "object.__class__")=some true)
   (hm:PySem.W.mroIn K C (.type "object")=some true) : zdm K H (.ref a) (.ref C)
theorem zzw {x:V} {u t:Value} (I:Inv X pins σ H s) (rx:zaq x u) (ty:zdm X.K H x t) (e:PySem.W.kitOne X.K t c=some b) (h:∀ tk,Q (.bool b) { s with toks:=tk }) :
  wpAny (model X.prog X.w) A (call (.builtin "isinstance") [u,c]) Q E s:=by
 cases ty with
 | non=>cases (show u=Value.none from rx); exact PySem.W.kia_one PySem.W.kitx_none I.kIn True.intro e (fun z=>nomatch z) h
 | bl y=>cases (show u=Value.bool y from rx); exact PySem.W.kia_one PySem.W.kitx_bool I.kIn True.intro e (fun z=>nomatch z) h
 | int i=>obtain ⟨t,q⟩:=(show ∃ t,u=Value.int i t from rx); cases q; exact PySem.W.kia_one PySem.W.kitx_int I.kIn True.intro e (fun z=>nomatch z) h
 | str y=>obtain ⟨t,q⟩:=(show ∃ t,u=Value.str y t from rx); cases q; exact PySem.W.kia_one PySem.W.kitx_str I.kIn True.intro e (fun z=>nomatch z) h
 | flt y=>obtain ⟨t,q⟩:=(show ∃ t,u=Value.float y t from rx); cases q; exact PySem.W.kia_one PySem.W.kitx_float I.kIn True.intro e (fun z=>nomatch z) h
 | @lst a xs ea =>
  cases (show u=Value.ref a from rx);obtain ⟨_,_,n,_,h1⟩:=(show zbv X.prog X.w H s.heap a (.lst xs) from I.hok a _ ea)
  exact PySem.W.kia_one PySem.W.kitx_list I.kIn ⟨_,h1,rfl⟩ e (fun z=>nomatch z) h
 | @frz a ob xs ea =>
  cases (show u=Value.ref a from rx);obtain ⟨_,_,_,n,_,h1⟩:=(show zbv X.prog X.w H s.heap a (.frz ob (.lst xs)) from I.hok a _ ea)
  exact PySem.W.kia_one PySem.W.kitx_list I.kIn ⟨_,h1,rfl⟩ e (fun z=>nomatch z) h
 | @tup a xs ea =>
  cases (show u=Value.ref a from rx);obtain ⟨_,_,_,p⟩:=(show zbv X.prog X.w H s.heap a (.tup xs) from I.hok a _ ea);obtain ⟨o,h1,h2,_⟩:=p
  exact PySem.W.kia_one PySem.W.kitx_tuple I.kIn ⟨o,h1,h2⟩ e (fun z=>nomatch z) h
 | @dK a kvs ea =>
  cases (show u=Value.ref a from rx);obtain ⟨_,_,vs,_,p⟩:=(show zbv X.prog X.w H s.heap a (.dK kvs) from I.hok a _ ea);obtain ⟨o,es,ep,h1,h2,_⟩:=p
  exact PySem.W.kia_one PySem.W.kitx_dict I.kIn ⟨o,h1,h2.1⟩ e (fun z=>nomatch z) h
 | @dT a kvs ea =>
  cases (show u=Value.ref a from rx);obtain ⟨_,_,xs,_,o,es,ep,h1,h2,_⟩:=(show zbv X.prog X.w H s.heap a (.dT kvs) from I.hok a _ ea)
  exact PySem.W.kia_one PySem.W.kitx_dict I.kIn ⟨o,h1,h2.1⟩ e (fun z=>nomatch z) h
 | @ins a C dx fs ea cl ha hn htk hm =>
  cases (show u=Value.ref a from rx);obtain ⟨mA,O,_⟩:=zlj I.hok ea;obtain ⟨od,J,_⟩:=O.look;exact PySem.W.kia_one (PySem.W.kitx_own (cl.get _) cl.hd ha hn htk hm) I.kIn J e (fun z=>nomatch z) h
end
structure za5 (k:Nat) (A:Around) : Prop where
 hd : A.handled=none
 dp : A.depth + 3 * k + 5 < recursionLimit
 un : A.units + 16 * k + 200 < cLine
theorem za5.mono {j k:Nat} {A:Around} (r:za5 k A) (h:j<=k) : za5 j A:=⟨r.hd,by have:=r.dp; omega,by have:=r.un; omega⟩
theorem za5.deeper {k:Nat} {A:Around} (r:za5 (k + 1) A) (env:Env) : za5 k (A.deeper env) :=
 ⟨r.hd,by have:=r.dp; show A.depth + 1 + 3 * k + 5 < _; omega,by have:=r.un; show A.units + 3 + 16 * k + 200 < _; omega⟩
theorem za5.in1 {k:Nat} {A:Around} (r:za5 (k + 1) A) : za5 k A.in1 :=
 ⟨r.hd,by have:=r.dp; show A.depth + 3 * k + 5 < _; omega,by have:=r.un; show A.units + 1 + 16 * k + 200 < _; omega⟩
theorem z0z {A:Around} {C:Addr} {us:List Value} {kw:List (Str×Value)} : (A.under (.builtin "type.__call__" ⟨.ref C::us,kw⟩)).depth=A.depth + 1:=by
 first | rfl | simp [Around.under,Code.weight,Code.isCreation,Code.isGuard,Code.isCaller,Code.frames,Code.isFrame,guardIds]
theorem z01 {A:Around} {C:Addr} {us:List Value} {kw:List (Str×Value)} : (A.under (.builtin "type.__call__" ⟨.ref C::us,kw⟩)).units=A.units + 1:=by
 first | rfl | simp [Around.under,Code.cUnits,Code.frames,Code.isFrame]
theorem za5.make {k:Nat} {A:Around} (r:za5 (k + 1) A) (C:Addr) (us:List Value) (kw:List (Str×Value)) : za5 k (A.under (.builtin "type.__call__" ⟨.ref C::us,kw⟩)) :=
 ⟨r.hd,by have:=r.dp; rw [z0z]; omega,by have:=r.un; rw [z01]; omega⟩
theorem za5.depth {k:Nat} {A:Around} (r:za5 k A) : A.depth < recursionLimit:=by have:=r.dp; omega
theorem za5.units {k:Nat} {A:Around} (r:za5 k A) : A.units + 64 < cLine:=by have:=r.un; omega
noncomputable def zjh : TA:=fun _ H Q=>Q [] H
noncomputable def zmp (ta:TE) (tr:TA) : TA:=fun σ H Q=>ta σ H fun x H1=>tr σ H1 fun xs H2=>Q (x::xs) H2
section
variable {X:Cx} {e:Expr} {es:List Expr} {te:TE} {t:TA} {pos:Pos}
theorem zdf : PA X [] zjh:=fun _ _ _ _ H Q I h=>Calls.spliced_nil ⟨[],H,I,.nil,h⟩
theorem zde (ha:PE X e te) (hr:PA X es t) (hs:starEach (e::es) X.env=(false,eval e X.env)::starEach es X.env:=by rfl) : PA X (e::es) (zmp te t):=by
 intro pos pins s σ H Q I h;rw [hs];show wpAny _ _ (spliced ((false,eval e X.env)::backTo pos (starEach es X.env))) _ _ s;refine Calls.spliced_cons (thn (ha pins s σ H _ I h) fun u s1 ⟨x,H1,I1,r1,q1⟩=>?_);exact thn (hr pos pins s1 σ H1 _ I1 q1) fun us s2 ⟨xs,H2,I2,r2,q2⟩=>⟨x::xs,H2,I2,.cons r1 r2,q2⟩
noncomputable def z7n (t:TA) : TE:=fun σ H Q=>t σ H fun xs H1=>xs.length<=sizeLine/\∀ p,H1 p=none->Q (.ref p) (upd H1 p (.tup xs))
noncomputable def zvf (t:TA) : TE:=fun σ H Q=>t σ H fun xs H1=>xs.length<=sizeLine/\∀ p,H1 p=none->Q (.ref p) (upd H1 p (.lst xs))
theorem z4b {x1} (h:PA X es t) : PE X (.Tuple es x1 pos) (z7n t):=by
 intro pins s σ H Q I hq;refine wpAny_Tuple_spliced (thn (h pos pins s σ H _ I hq) fun us s1 ⟨xs,H1,I1,r,z,q⟩=>⟨by rw [<- r.length]; exact z,?_⟩);have hf : H1 s1.heap.objs.size=none:=I1.hok.fresh (Nat.le_refl _);refine ⟨.ref s1.heap.objs.size,upd H1 s1.heap.objs.size (.tup xs),I1.laid (t':=s1.toks) (fun b u e=>Heap.get?_push_of_some _ e) (Nat.le_refl _) ?_,rfl,q _ hf⟩;exact ⟨z,us,r,⟨_,Heap.get?_push_size _ rfl,rfl,_,rfl⟩⟩
theorem zo3 (h:PA X es t) : PE X (.List es pos) (zvf t):=by
 intro pins s σ H Q I hq;refine wpAny_List_spliced (thn (h pos pins s σ H _ I hq) fun us s1 ⟨xs,H1,I1,r,z,q⟩=>⟨by rw [<- r.length]; exact z,?_⟩);have hf : H1 s1.heap.objs.size=none:=I1.hok.fresh (Nat.le_refl _);refine ⟨.ref s1.heap.objs.size,upd H1 s1.heap.objs.size (.lst xs),I1.laid (t':=s1.toks) (fun b u e=>Heap.get?_push_of_some _ e) (Nat.le_refl _) ?_,rfl,q _ hf⟩;exact ⟨z,us,0,r,Heap.get?_push_size _ rfl⟩
end
noncomputable abbrev Sp:=List V->Hp->VK->XK->Prop
noncomputable abbrev CXT:=List Env->Hp->Shared->XK->Value->Shared->Prop
structure zfa (P:Program) (w:World) (K:PySem.W.Frag) (mg:Str->Option Value) (base:Heap) (A:Around) (outer:List Env) (s:Shared) (H:Hp) : Prop where
 frames : A.frames=some outer
 mod : Mod K mg base
 bs : ∀ b o,base.get? b=some o->s.heap.get? b=some o/\H b=none
 bsz : base.objs.size<=s.heap.objs.size
 funs : s.heap.FunFrames base outer
 frf : ∀ b∈frs outer,H b=none
 hok : HOk P w H s.heap
 bare : AllBare s.gens
noncomputable def CE (outer:List Env) (P:Program) (w:World) (H:Hp) (s:Shared) (Q:VK) (u:Value) (s':Shared) : Prop :=
 ∃ v H',s'.os=s.os/\AllBare s'.gens/\Un (frs outer) [] H H' s.heap s'.heap/\HOk P w H' s'.heap/\zaq v u/\Q v H'
noncomputable def CR (CX:CXT) (outer:List Env) (P:Program) (w:World) (H:Hp) (s:Shared) (Q:VK) (E:XK) (r:Result) (s':Shared) : Prop :=
 match r with
 | .ok (.ret u)=>CE outer P w H s Q u s'
 | .ok _=>False
 | .error e=>CX outer H s E e s'
structure zap (P:Program) (w:World) (K:PySem.W.Frag) (mg:Str->Option Value) (base:Heap) (CX:CXT) (k:Nat) (f:Addr) (fd:FuncData) (ps:List Str) (sp:Sp) : Prop where
 len : ∀ vs H Q E,sp vs H Q E->vs.length=ps.length
 run : ∀ (A:Around) (outer:List Env) (s:Shared) (H:Hp) (args:Args) (us:List Value) (vs:List V) (Q:VK) (E:XK),za5 k A->zfa P w K mg base A outer s H->BindsTo s fd args (ps.zip us)->zak vs us->sp vs H Q E ->
  codeAny (model P w) A (.call (.ref f) args) (CR CX outer P w H s Q E) s
theorem zap.mono {P:Program} {w:World} {K:PySem.W.Frag} {mg:Str->Option Value} {base:Heap} {CX:CXT} {j k:Nat} {f:Addr} {fd:FuncData} {ps:List Str} {sp:Sp} (F:zap P w K mg base CX j f fd ps sp) (h:j<=k) :
  zap P w K mg base CX k f fd ps sp:=⟨F.len,fun A outer s H args us vs Q E hr=>F.run A outer s H args us vs Q E (hr.mono h)⟩
theorem zap.imp {P:Program} {w:World} {K:PySem.W.Frag} {mg:Str->Option Value} {base:Heap} {CX:CXT} {k:Nat} {f:Addr} {fd:FuncData} {ps:List Str} {sp sp':Sp} (F:zap P w K mg base CX k f fd ps sp)
  (h:∀ vs H Q E,sp' vs H Q E->sp vs H Q E) : zap P w K mg base CX k f fd ps sp' :=
 ⟨fun vs H Q E q=>F.len vs H Q E (h _ _ _ _ q),fun A outer s H args us vs Q E hr he hb hv hs=>F.run A outer s H args us vs Q E hr he hb hv (h _ _ _ _ hs)⟩
theorem zfa.make {P:Program} {w:World} {K:PySem.W.Frag} {mg:Str->Option Value} {base:Heap} {A:Around} {outer:List Env} {s:Shared} {H:Hp} (e:zfa P w K mg base A outer s H) (C:Addr) (us:List Value) (kw:List (Str×Value)) :
  zfa P w K mg base (A.under (.builtin "type.__call__" ⟨.ref C::us,kw⟩)) outer s H:=⟨by first | exact e.frames | (simpa [Around.under,Code.envs,Code.isFrame,pushEnvs] using e.frames),e.mod,e.bs,e.bsz,e.funs,e.frf,e.hok,e.bare⟩
theorem zfa.in1 {P:Program} {w:World} {K:PySem.W.Frag} {mg:Str->Option Value} {base:Heap} {A:Around} {outer:List Env} {s:Shared} {H:Hp} (e:zfa P w K mg base A outer s H) :
  zfa P w K mg base A.in1 outer s H:=⟨e.frames,e.mod,e.bs,e.bsz,e.funs,e.frf,e.hok,e.bare⟩
section
variable {X:Cx} {pins:List (Addr×Obj)} {σ:St} {H:Hp} {s s':Shared}
theorem Inv.env0 (I:Inv X pins σ H s) : zfa X.prog X.w X.K X.mg X.base X.A X.stack s H :=
 ⟨I.ok.frames,I.ok.mod,I.bs,Nat.le_trans I.ok.bsz I.sz,I.stack,I.stkFree,I.hok,I.bare⟩
theorem Inv.after {Q:VK} {u:Value} (I:Inv X pins σ H s) (h:CE X.stack X.prog X.w H s Q u s') : EP X pins σ Q u s':=by
 obtain ⟨v,H',os,bare,un,hok,r,q⟩:=h;obtain ⟨hh,g,d,t,os'⟩:=s';obtain rfl : os'=s.os:=os;exact ⟨v,H',I.call (h':=hh) (g':=g) (d':=d) (t':=t) (ch:=[]) un hok bare (fun b z=>absurd z (by simp)),r,q⟩
end
noncomputable def z64 (sp:Sp) (dvs:List V) (E:XK) (t:TA) : TE:=fun σ H Q=>t σ H fun vs H1=>sp (vs++dvs) H1 Q E
noncomputable def zpl (C:Addr) (m:Str) (sp:Sp) (dvs:List V) (E:XK) (ta:TE) (t:TA) : TE:=fun σ H Q=>ta σ H fun x H1=>∃ a dx fs,x=.ref a/\H1 a=some (.ins C dx fs)/\fs.lookup m=none /\
 t σ H1 fun vs H2=>sp (x::(vs++dvs)) H2 Q E
noncomputable def zvg (C:Addr) (sp:Sp) (dvs:List V) (E:XK) (t:TA) : TE:=fun σ H Q=>t σ H fun vs H1=>∀ x dx,H1 x=none->H1 dx=none->dx≠x ->
 sp (.ref x::(vs++dvs)) (upd (upd H1 dx (.own x)) x (.ins C dx [])) (fun v H2=>v=.non/\Q (.ref x) H2) E
noncomputable def zav (K:PySem.W.Frag) (fd:FuncData) (ps:List Str) (ds:List Value) : Prop :=
 ∀ (s:Shared) (us:List Value),K.In s.heap->(us++ds).length=ps.length->BindsTo s fd ⟨us,[]⟩ (ps.zip (us++ds))
theorem zav.all {K:PySem.W.Frag} {fd:FuncData} {ps:List Str} (h:∀ us : List Value,us.length=ps.length->bindArgs fd ⟨us,[]⟩=pure (ps.zip us)) : zav K fd ps []:=fun s us _ hl=>by
 rw [List.append_nil] at hl ⊢;exact .of_eq (h us hl)
noncomputable def zg0 (CX:CXT) (X:Cx) (E:XK) : Prop:=∀ (pins:List (Addr×Obj)) (σ:St) (H:Hp) (s:Shared) (e:Value) (s':Shared),Inv X pins σ H s->CX X.stack H s E e s'->X.xe e s'
section
variable {X:Cx} {CX:CXT} {k:Nat} {f C:Addr} {fd:FuncData} {ps:List Str} {sp:Sp} {dvs:List V} {ds:List Value} {E:XK} {x m:Str} {p pos apos:Pos} {e o:Expr} {es:List Expr} {ta:TE} {t:TA}
theorem zpb {pins:List (Addr×Obj)} {σ:St} {H:Hp} {s:Shared} {Q:VK} {us:List Value} {vs:List V} (F:zap X.prog X.w X.K X.mg X.base CX k f fd ps sp) (hr:za5 k X.A) (hb:zav X.K fd ps ds) (hd:zak dvs ds) (hx:zg0 CX X E)
  (I:Inv X pins σ H s) (r:zak vs us) (h:sp (vs++dvs) H Q E) : wpAny (model X.prog X.w) X.A (call (.ref f) us) (EP X pins σ Q) X.xe s:=by
 have r2 : zak (vs++dvs) (us++ds):=r.append hd;have hl : (us++ds).length=ps.length:=by rw [<- r2.length]; exact F.len _ _ _ _ h
 refine wpAny_call (codeAny_mono (F.run X.A X.stack s H ⟨us,[]⟩ (us++ds) (vs++dvs) Q E hr I.env0 (hb s us I.kIn hl) r2 h) fun r s' hq=>?_)
 cases r with
 | error e=>exact hx pins σ H s e s' I hq
 | ok fl =>
  cases fl with
  | ret u=>exact I.after hq
  | next=>exact False.elim hq
  | brk=>exact False.elim hq
  | cont=>exact False.elim hq
theorem zl8 (F:zap X.prog X.w X.K X.mg X.base CX k f fd ps sp) (hr:za5 k X.A) (hg:Gl X x) (hm:X.mg x=some (.ref f)) (hk:PySem.W.keepIn X.K (.ref f)=true) (hb:zav X.K fd ps ds) (hd:zak dvs ds) (hx:zg0 CX X E)
  (ha:PA X (e::es) t) (hdb:(x==("__debug__" : Str))=false:=by decide) (he:starEach (e::es) X.env=(false,eval e X.env)::starEach es X.env:=by rfl) (hpl:(backTo pos (starEach es X.env)).any (·.1)=false:=by rfl) :
  PE X (.Call (.Name x p) (e::es) [] pos) (z64 sp dvs E t):=by
 intro pins s σ H Q I h;refine wpAny_Call_Name_kw (zsw I hg hm ?_ hdb);refine PySem.W.callWith_K (h₀:=X.base) I.ok.mod.kin hk (thn (ha pos pins s σ H _ I h) fun us s1 ⟨vs,H1,I1,r,q⟩=>⟨I1.kIn,?_⟩) he hpl;exact zpb F hr hb hd hx I1 r q
theorem zt6 {pl:Sem Bool} (he:PE X o ta) (c:Cls X.K C) (hm:zbe X.K C m f) (F:zap X.prog X.w X.K X.mg X.base CX k f fd ps sp) (hr:za5 k X.A) (hb:zav X.K fd ps ds) (hd:zak dvs ds) (hx:zg0 CX X E) (ha:PA X (e::es) t)
  (hst:starEach (e::es) X.env=(false,eval e X.env)::starEach es X.env:=by rfl) (hpl:(backTo pos (starEach es X.env)).any (·.1)=false:=by rfl)
  (ht:eval (.Call (.Attribute o m apos) (e::es) [] pos) X.env=(do
   let ov <- eval o X.env
   standAt apos.atName
   let (f,first) <- holding [ov] (getMethod ov m pl)
   callWith pos f first (backTo pos (starEach (e::es) X.env)) (backToKw pos (keywordEach [] X.env))):=by rfl) :
  PE X (.Call (.Attribute o m apos) (e::es) [] pos) (zpl C m sp dvs E ta t):=by
 intro pins s σ H Q I h;refine PySem.W.methodCall_KW (pl:=pl) (thn (he pins s σ H _ I h) fun u s1 ⟨x,H1,I1,rx,a,dx,fs,ex,ea,l,q⟩=>?_) ht;subst ex;obtain rfl : u=Value.ref a:=rx;refine zrx I1 ea c hm l ?_
 refine PySem.W.callWith_K (first:=[.ref a]) (h₀:=X.base) I.ok.mod.kin hm.kp (thn (ha pos pins s1 σ H1 _ I1 q) fun us s2 ⟨vs,H2,I2,r,q2⟩=>⟨I2.kIn,?_⟩) hst hpl
 exact zpb (us:=.ref a::us) (vs:=.ref a::vs) F hr hb hd hx I2 (.cons rfl r) q2
theorem zt7 {pl:Sem Bool} (he:PE X o ta) (c:Cls X.K C) (hm:zbe X.K C m f) (F:zap X.prog X.w X.K X.mg X.base CX k f fd ps sp) (hr:za5 k X.A) (hb:zav X.K fd ps ds) (hd:zak dvs ds) (hx:zg0 CX X E)
  (ht:eval (.Call (.Attribute o m apos) [] [] pos) X.env=(do
   let ov <- eval o X.env
   standAt apos.atName
   let (f,first) <- holding [ov] (getMethod ov m pl)
   callWith pos f first (backTo pos (starEach [] X.env)) (backToKw pos (keywordEach [] X.env))):=by rfl) :
  PE X (.Call (.Attribute o m apos) [] [] pos) (zpl C m sp dvs E ta zjh):=by
 intro pins s σ H Q I h;refine PySem.W.methodCall_KW (pl:=pl) (thn (he pins s σ H _ I h) fun u s1 ⟨x,H1,I1,rx,a,dx,fs,ex,ea,l,q⟩=>?_) ht;subst ex;obtain rfl : u=Value.ref a:=rx;refine zrx I1 ea c hm l ?_
 exact PySem.W.callWith_K0 (first:=[.ref a]) I1.kIn hm.kp (zpb (us:=[.ref a]) (vs:=[.ref a]) F hr hb hd hx I1 (.cons rfl .nil) q)
structure Mk (K:PySem.W.Frag) (C f:Addr) : Prop where
 makes : PySem.W.makesIn K C=true
 init : PySem.W.findIn K (.ref C) "__init__"=some (some (.ref f))
 fn : PySem.W.isFn K (.ref f)=true
 kp : PySem.W.keepIn K (.ref C)=true
theorem z5r {pins:List (Addr×Obj)} {σ:St} {H:Hp} {s:Shared} {Q:VK} {us:List Value} {vs:List V} (M:Mk X.K C f) (F:zap X.prog X.w X.K X.mg X.base CX k f fd ps sp) (hr:za5 (k + 1) X.A) (hb:zav X.K fd ps ds) (hd:zak dvs ds)
  (hx:zg0 CX X E) (I:Inv X pins σ H s) (r:zak vs us)
  (h:∀ x dx,H x=none->H dx=none->dx≠x->sp (.ref x::(vs++dvs)) (upd (upd H dx (.own x)) x (.ins C dx [])) (fun v H2=>v=.non/\Q (.ref x) H2) E) :
  wpAny (model X.prog X.w) X.A (call (.ref C) us) (EP X pins σ Q) X.xe s:=by
 have hq:=h (s.heap.objs.size + 1) s.heap.objs.size (I.hok.fresh (Nat.le_succ _)) (I.hok.fresh (Nat.le_refl _)) (Nat.ne_of_lt (Nat.lt_succ_self _));have I2:=Inv.made (C:=C) I;have r2 : zak (V.ref (s.heap.objs.size + 1)::(vs++dvs)) (Value.ref (s.heap.objs.size + 1)::(us++ds)):=.cons rfl (r.append hd)
 have hl : (Value.ref (s.heap.objs.size + 1)::us++ds).length=ps.length:=by
  have e:=r2.length;rw [F.len _ _ _ _ hq] at e;exact e.symm
 refine wpAny_call (z00 (f:=f) I.kIn M.makes M.init (beq_iff_eq.mp M.fn) (codeAny_mono (F.run _ X.stack _ _ ⟨Value.ref (s.heap.objs.size + 1)::us,[]⟩ (Value.ref (s.heap.objs.size + 1)::(us++ds)) _ _ E (hr.make C us [])
  (I2.env0.make C us []) (hb _ (Value.ref (s.heap.objs.size + 1)::us) I2.kIn hl) r2 hq) fun r s' hq'=>?_))
 cases r with
 | error e=>exact hx pins σ _ _ e s' I2 hq'
 | ok fl =>
  cases fl with
  | ret u =>
   obtain ⟨v,H',I3,rv,ev,q3⟩:=I2.after hq';subst ev
   exact ⟨rv,⟨V.ref (s.heap.objs.size + 1),H',I3,rfl,q3⟩⟩
  | next=>exact False.elim hq'
  | brk=>exact False.elim hq'
  | cont=>exact False.elim hq'
theorem zt5 (M:Mk X.K C f) (F:zap X.prog X.w X.K X.mg X.base CX k f fd ps sp) (hr:za5 (k + 1) X.A) (hg:Gl X x) (hm:X.mg x=some (.ref C)) (hb:zav X.K fd ps ds) (hd:zak dvs ds) (hx:zg0 CX X E)
  (ha:PA X (e::es) t) (hdb:(x==("__debug__" : Str))=false:=by decide) (he:starEach (e::es) X.env=(false,eval e X.env)::starEach es X.env:=by rfl) (hpl:(backTo pos (starEach es X.env)).any (·.1)=false:=by rfl) :
  PE X (.Call (.Name x p) (e::es) [] pos) (zvg C sp dvs E t):=by
 intro pins s σ H Q I h;refine wpAny_Call_Name_kw (zsw I hg hm ?_ hdb);refine PySem.W.callWith_K (h₀:=X.base) I.ok.mod.kin M.kp (thn (ha pos pins s σ H _ I h) fun us s1 ⟨vs,H1,I1,r,q⟩=>⟨I1.kIn,?_⟩) he hpl;exact z5r M F hr hb hd hx I1 r q
end
section
variable {X:Cx} {CX:CXT} {k:Nat} {f C:Addr} {fd:FuncData} {ps ks:List Str} {sp:Sp} {E:XK} {x m:Str} {p pos apos kpos:Pos} {e o:Expr} {es:List Expr} {kws:List Keyword} {te ta:TE} {t tk:TA} {nm:Option Str}
variable {g:List Value->List Value->List Value} {gV:List V->List V->List V}
end
structure za1 (N P:List Str) (sc:Scope) : Prop where
 kind : sc.kind=.function
 co : sc.isCoroutine=false
 gen : sc.isGenerator=false
 nd : N.Nodup
 pre : N.take P.length=P
 par : ∀ x∈P,sc.names.lookup x=some .local\/sc.names.lookup x=some .cell
 nofree : ∀ y∈sc.names,y.2≠.free
theorem zp8 {kindOf:Str->Option NameKind} {x:Str} : ∀ {binds:List (Str×Value)} {m:Str->Option Value},(∀ v,(x,v)∉binds)->bindL kindOf binds m x=m x
 | [],_,_=>rfl
 | (n,v)::r,m,h=>by
  unfold bindL;rw [zp8 fun w hw=>h w (List.mem_cons_of_mem _ hw)];split
  ·have : x≠n:=by rintro rfl; exact h v List.mem_cons_self
   simp [this]
  ·rfl
theorem zp6 {kindOf:Str->Option NameKind} {x:Str} : ∀ {binds:List (Str×Value)} {m:Str->Option Value},(∀ v,(x,v)∉binds)->bindC kindOf binds m x=m x
 | [],_,_=>rfl
 | (n,v)::r,m,h=>by
  unfold bindC;rw [zp6 fun w hw=>h w (List.mem_cons_of_mem _ hw)];split
  ·rfl
  ·have : x≠n:=by rintro rfl; exact h v List.mem_cons_self
   simp [this]
theorem zp7 {kindOf:Str->Option NameKind} {x:Str} {v:Value} : ∀ {P:List Str} {vs:List Value} {i:Nat} {m:Str->Option Value},P.Nodup->P[i]?=some x->vs[i]?=some v->kindOf x=some .local ->
  bindL kindOf (P.zip vs) m x=some v
 | [],_,_,_,_,h,_,_=>by simp at h
 | _::_,[],_,_,_,_,h,_=>by simp at h
 | p::P,w::vs,0,m,nd,h1,h2,hk=>by
  simp at h1 h2; subst h1; subst h2;show bindL kindOf ((p,w)::P.zip vs) m p=_;unfold bindL;rw [zp8 fun v hv=>(List.nodup_cons.mp nd).1 (List.of_mem_zip hv).1,if_pos hk]
  simp
 | p::P,w::vs,i + 1,m,nd,h1,h2,hk=>by
  show bindL kindOf ((p,w)::P.zip vs) m x=_;unfold bindL;exact zp7 (i:=i) (List.nodup_cons.mp nd).2 (by simpa using h1) (by simpa using h2) hk
theorem zp5 {kindOf:Str->Option NameKind} {x:Str} {v:Value} : ∀ {P:List Str} {vs:List Value} {i:Nat} {m:Str->Option Value},P.Nodup->P[i]?=some x->vs[i]?=some v->kindOf x≠some .local ->
  bindC kindOf (P.zip vs) m x=some v
 | [],_,_,_,_,h,_,_=>by simp at h
 | _::_,[],_,_,_,_,h,_=>by simp at h
 | p::P,w::vs,0,m,nd,h1,h2,hk=>by
  simp at h1 h2; subst h1; subst h2;show bindC kindOf ((p,w)::P.zip vs) m p=_;unfold bindC;rw [zp6 fun v hv=>(List.nodup_cons.mp nd).1 (List.of_mem_zip hv).1,if_neg hk]
  simp
 | p::P,w::vs,i + 1,m,nd,h1,h2,hk=>by
  show bindC kindOf ((p,w)::P.zip vs) m x=_;unfold bindC;exact zp5 (i:=i) (List.nodup_cons.mp nd).2 (by simpa using h1) (by simpa using h2) hk
noncomputable def start (N:List Str) (vs:List V) : St:=vs.map some++List.replicate (N.length - vs.length) none
noncomputable def zfb (CX:CXT) (P:Program) (w:World) (K:PySem.W.Frag) (mg:Str->Option Value) (base:Heap) (N:List Str) (qual:Str) (scope:Scope) (f:Addr) (cd:Value) (A:Around) (outer:List Env) (s:Shared) (H:Hp) (E:XK) : Cx where
 prog:=P
 w:=w
 K:=K
 mg:=mg
 base:=base
 A:=A.deeper (envOfC qual scope s.heap.objs.size f cd)
 N:=N
 s₀:=s
 H₀:=H
 env:=envOfC qual scope s.heap.objs.size f cd
 outer:=outer
 stack:=envOfC qual scope s.heap.objs.size f cd::outer
 ex:=[]
 calm:=true
 fn:=fun _=>true
 pn:=[]
 xe:=fun e s'=>wpAny (model P w) (A.deeper (envOfC qual scope s.heap.objs.size f cd)) (leaving (envOfC qual scope s.heap.objs.size f cd) e) (fun _ s''=>CX outer H s E e s'') (fun e' s''=>CX outer H s E e' s'') s'
theorem zqh {sc:Scope} {n:Nat} {x:Str} (h:sc.names.lookup x=some .cell) : ∃ c,(cellsFrom n sc.names []).lookup x=some c:=by
 have q:=PySem.W.cellsFrom_some sc.names n [] (.inl h);exact Option.isSome_iff_exists.mp q
theorem zzp {CX:CXT} {P:Program} {w:World} {K:PySem.W.Frag} {mg:Str->Option Value} {base:Heap} {N ps:List Str} {qual:Str} {scope:Scope} {f:Addr} {cd:Value} {A:Around} {outer:List Env} {s s1:Shared} {H:Hp} {E:XK} {us:List Value} {vs:List V}
  (S:za1 N ps scope) (hd:A.handled=none) (e0:zfa P w K mg base A outer s H) (hl:vs.length=ps.length) (r:zak vs us)
  (x:InCallC s s.heap.objs.size (bindL (envOfC qual scope s.heap.objs.size f cd).kindOf (ps.zip us) fun _=>none) (cellsFrom (s.heap.objs.size + 1) scope.names []) (bindC (envOfC qual scope s.heap.objs.size f cd).kindOf (ps.zip us) fun _=>none) s1) :
  Inv (zfb CX P w K mg base N qual scope f cd A outer s H E) [] (start N vs) H s1:=by
 have hpl : ps.length<=N.length:=by have:=congrArg List.length S.pre; rw [List.length_take] at this; omega
 obtain ⟨h1,tk,rfl,hk⟩:=x.done;have noA : ∀ b : Addr,b∉(zfb CX P w K mg base N qual scope f cd A outer s H E).ex:=fun b z=>absurd (show b∈([] : List Addr) from z) (by simp)
 refine ⟨⟨e0.mod,S.kind,rfl,rfl,Nat.le_refl _,fun y z c h1 h2=>?_,fun y hy=>?_,fun y c _ h=>?_,fun _=>hd,Around.frames_deeper e0.frames,.inr ⟨rfl,rfl⟩,fun b z=>absurd z (noA b),e0.bs,e0.bsz,fun b _ _=>noA b,fun b z=>absurd z (noA b),e0.funs,e0.frf⟩,
  rfl,e0.bare,Un.kept hk,⟨_,x.toInCall.ns,fun i y v h1 h2 h3=>?_⟩,fun y c h=>⟨_,x.cell y c h⟩,e0.hok.fresh (Nat.le_refl _),fun y c h=>?_,fun p hp=>absurd (show p∈([] : List (Addr×Obj)) from hp) (by simp),e0.hok.kept hk,?_⟩
 ·exact name_of_addr x.apart (PySem.mem_of_lookup h1) (PySem.mem_of_lookup h2)
 ·have hy : scope.names.lookup y=some .cell\/scope.names.lookup y=some .free:=hy
  rcases hy with hy | hy
  ·exact zqh hy
  ·exact absurd rfl (S.nofree _ (PySem.mem_of_lookup hy))
 ·exact Nat.le_of_lt (x.above y c (PySem.mem_of_lookup h))
 ·have hi : i < vs.length:=by
   unfold start at h2
   by_cases hi : i < vs.length
   ·exact hi
   ·rw [List.getElem?_append_right (by simpa using hi)] at h2;rw [List.getElem?_replicate] at h2
    split at h2 <;> cases h2
  have ha : vs[i]?=some v:=by
   unfold start at h2;rw [List.getElem?_append_left (by simpa using hi),List.getElem?_map] at h2
   cases e : vs[i]? with
   | none=>rw [e] at h2; cases h2
   | some a=>rw [e] at h2; cases h2; rfl
  obtain ⟨u,hu,rv⟩:=r.get ha
  have hp : ps[i]?=some y:=by
   rw [<- S.pre,List.getElem?_take_of_lt (by omega)]; exact h1
  have ndP : ps.Nodup:=by rw [<- S.pre]; exact S.nd.sublist (List.take_sublist _ _)
  refine ⟨u,rv,?_⟩
  rcases S.par y (List.mem_of_getElem? hp) with k | k
  ·exact .inl ⟨k,zp7 ndP hp hu k⟩
  ·obtain ⟨c,e⟩:=zqh (n:=s.heap.objs.size + 1) k;refine .inr ⟨.inl k,c,e,?_⟩;have q:=x.cell y c e;rw [zp5 ndP hp hu (by show scope.names.lookup y≠_; rw [k]; decide)] at q;exact q
 ·exact e0.hok.fresh (Nat.le_of_lt (x.above y c (PySem.mem_of_lookup h)))
 ·unfold start;show _=N.length;rw [List.length_append,List.length_map,List.length_replicate];omega
theorem zyt {CX:CXT} {P:Program} {w:World} {K:PySem.W.Frag} {mg:Str->Option Value} {base:Heap} {k:Nat} {f:Addr} {name qual:Str} {params:Arguments} {body:List Stmt} {scope:Scope} {dV kV doc pm cdv ct oc:Value} {an od:Option Addr}
  {osl:Array (Option Value)} {N ps:List Str} {sp:Sp} (lk:K.lookup f=some ⟨oc,od,.func (PySem.W.fnOf name qual params body scope dV kV doc pm an cdv ct),osl⟩) (hcd:PySem.W.codeIn K cdv qual=true) (S:za1 N ps scope)
  (len:∀ vs H Q E,sp vs H Q E->vs.length=ps.length)
  (hbody:∀ (A:Around) (outer:List Env) (s:Shared) (H:Hp) (vs:List V) (Q:VK) (E:XK),za5 k (A.deeper (envOfC qual scope s.heap.objs.size f cdv))->sp vs H Q E ->
   ∃ t,PSs (zfb CX P w K mg base N qual scope f cdv A outer s H E) body t/\t { nx:=fun _ H'=>Q .non H',rt:=Q } (start N vs) H) :
  zap P w K mg base CX (k + 1) f (PySem.W.fnOf name qual params body scope dV kV doc pm an cdv ct) ps sp:=by
 refine ⟨len,fun A outer s H args us vs Q E hr e0 hb r hsp=>?_⟩;have hl:=len _ _ _ _ hsp;have KX : K.In s.heap:=e0.mod.kin.keeps fun b o e=>(e0.bs b o e).1;have lim : s.heap.NoLimit:=e0.mod.nolimit.keeps fun b o e=>(e0.bs b o e).1
 have hkind : ∀ y∈ps.zip us,scope.names.lookup y.1=some .local\/(scope.names.lookup y.1=some .cell/\((cellsFrom (s.heap.objs.size + 1) scope.names []).lookup y.1).isSome=true):=fun ⟨n,v⟩ hy=>by
  rcases S.par n (List.of_mem_zip hy).1 with q | q
  ·exact .inl q
  ·exact .inr ⟨q,PySem.W.cellsFrom_some _ _ _ (.inl q)⟩
 refine codeAny_call_function hr.depth (KX _ _ lk) rfl S.co S.gen rfl (PySem.W.codeRec_of KX hcd) (hb _ _ _ _ ?_);refine wpAny_newFunctionEnv_cells S.kind hkind fun env he s1 x=>?_;subst he;refine ⟨lim.keeps x.toInCall.keep,codeAny_func ?_⟩;obtain ⟨t,ht,hq⟩:=hbody A outer s H vs Q E (hr.deeper _) hsp;have I : Inv (zfb CX P w K mg base N qual scope f cdv A outer s H E) [] (start N vs) H s1:=zzp S hr.hd e0 hl r x;refine wpAny_mono (ht [] s1 (start N vs) H _ I hq) (fun fl s' hs=>?_) fun e s' hs=>hs
 have fin : ∀ {σ':St} {H':Hp} {v:V} {u:Value},Inv (zfb CX P w K mg base N qual scope f cdv A outer s H E) [] σ' H' s'->zaq v u->Q v H'->CE outer P w H s Q u s' :=
  fun {σ' H' v u} J rv q=>⟨v,H',J.os,J.bare,J.base,J.hok,rv,q⟩
 cases fl with
 | ret u =>
  obtain ⟨v,σ',H',J,rv,q⟩:=hs
  exact fin J rv q
 | next =>
  obtain ⟨σ',H',J,q⟩:=hs
  exact fin (v:=V.non) (u:=Value.none) J rfl q
 | brk =>
  obtain ⟨_,_,_,q⟩:=hs
  exact False.elim q
 | cont =>
  obtain ⟨_,_,_,q⟩:=hs;exact False.elim q
section
variable {X:Cx} {x:Str} {p pos:Pos} {e:Expr} {es:List Expr} {t:TA} {id T:String} {r:List V->Hp->VK->Prop}
noncomputable def tCB (r:List V->Hp->VK->Prop) (t:TA) : TE:=fun σ H Q=>t σ H fun vs H1=>r vs H1 Q
theorem zt3 (hc:zc9 X (.builtin id) r) (hg:Gl X x) (hm:X.mg x=none) (hv:bootBuiltins x=some (.builtin id)) (ha:PA X (e::es) t) (hn:x ≠ "__name__":=by decide) (hdb:(x==("__debug__" : Str))=false:=by decide)
  (he:starEach (e::es) X.env=(false,eval e X.env)::starEach es X.env:=by rfl) (hpl:(backTo pos (starEach es X.env)).any (·.1)=false:=by rfl) : PE X (.Call (.Name x p) (e::es) [] pos) (tCB r t):=by
 intro pins s σ H Q I h;refine wpAny_Call_Name_kw (zhk I hg hm hv ?_ hn hdb);exact PyProof.Rows.callWith_builtin1 (thn (ha pos pins s σ H _ I h) fun us s1 ⟨vs,H1,I1,r1,q1⟩=>hc pins s1 σ H1 vs us Q I1 r1 q1) he hpl
theorem z3x (hc:zc9 X (.type T) r) (hg:Gl X x) (hm:X.mg x=none) (hv:bootBuiltins x=some (.type T)) (ha:PA X (e::es) t) (hn:x ≠ "__name__":=by decide) (hdb:(x==("__debug__" : Str))=false:=by decide)
  (he:starEach (e::es) X.env=(false,eval e X.env)::starEach es X.env:=by rfl) (hpl:(backTo pos (starEach es X.env)).any (·.1)=false:=by rfl) : PE X (.Call (.Name x p) (e::es) [] pos) (tCB r t):=by
 intro pins s σ H Q I h;refine wpAny_Call_Name_kw (zhk I hg hm hv ?_ hn hdb);exact PyProof.Rows.callWith_type1 (thn (ha pos pins s σ H _ I h) fun us s1 ⟨vs,H1,I1,r1,q1⟩=>hc pins s1 σ H1 vs us Q I1 r1 q1) he hpl
end
end L2
namespace HT
open PySem PyProof.Rows
section
open PySem.SeqAt
open PySem.AutoSeq1 (wpAny_loadPart')
open PySem.MeetsSeq PySem.MeetsSeq2 PySem.MeetsSeq3
end
section
variable {prog:Program} {w:World} {A:Around} {E:Value->Shared->Prop} {s:Shared}
noncomputable def sIx (n d:Nat) : Option Int->Nat
 | none=>d
 | some v=>if v < 0 then (v + (n:Int)).toNat else min v.toNat n
theorem sIx_nat (n d k:Nat) : sIx n d (some (k:Int))=min k n:=by
 show (if (k:Int) < 0 then ((k:Int) + (n:Int)).toNat else min (k:Int).toNat n)=min k n;rw [if_neg (by omega),Int.toNat_natCast]
end
end HT
namespace L2
open PySem PySem.Spec PyProof.Rows
noncomputable abbrev TO:=St->Hp->(Option Int->Hp->Prop)->Prop
noncomputable def PO (X:Cx) (e:Option Expr) (t:TO) : Prop :=
 ∀ (pins:List (Addr×Obj)) (s:Shared) (σ:St) (H:Hp) (Q:Option Int->Hp->Prop),Inv X pins σ H s->t σ H Q ->
  wpAny (model X.prog X.w) X.A (evalPart e X.env) (fun u s'=>∃ o H',Inv X pins σ H' s'/\IsPart u o/\Q o H') X.xe s
noncomputable def z7g : TO:=fun _ H Q=>Q none H
noncomputable def z7k (t:TE) : TO:=fun σ H Q=>t σ H fun x H1=>∃ i,x=.int i/\Q (some i) H1
theorem zzm {ns:List Int} : ∀ {us:List Value},zak (ns.map V.int) us->IntsAre us ns:=by
 induction ns with
 | nil=>intro us r; rw [List.map_nil] at r; cases r; exact .nil
 | cons n ns ih =>
  intro us r;rw [List.map_cons] at r
  cases r with
  | cons r1 r2 =>
   obtain ⟨t,e⟩:=r1;subst e;exact .cons n t (ih r2)
section
variable {X:Cx} {e:Expr} {te:TE} {lo hi:Option Expr} {tl th:TO} {pos p2:Pos}
theorem z4q : PO X none z7g:=by
 intro pins s σ H Q I h;rw [evalPart_none];exact wpAny_pure ⟨none,H,I,.none,h⟩
theorem z4r (h:PE X e te) : PO X (some e) (z7k te):=by
 intro pins s σ H Q I hw;rw [evalPart_some];refine thn (h pins s σ H _ I hw) fun u s1 ⟨x,H1,I1,r1,q1⟩=>?_;obtain ⟨i,rfl,q⟩:=q1;obtain ⟨t,rfl⟩:=r1;exact ⟨some i,H1,I1,.int i t,q⟩
noncomputable def SlR (X:Cx) (r:V->Option Int->Option Int->Hp->VK->Prop) : Prop :=
 ∀ (pins:List (Addr×Obj)) (s:Shared) (σ:St) (H:Hp) (x:V) (v vl vu:Value) (lo hi:Option Int) (sl:Addr) (Q:VK),Inv X pins σ H s->zaq x v->s.heap.IsSliceOf sl vl vu .none->IsPart vl lo->IsPart vu hi->r x lo hi H Q ->
  ∃ T id,typeLookup (.type T) "__getitem__"=pure (some (.builtin id))/\s.TypeIs v T/\wpAny (model X.prog X.w) X.A (getItem v (.ref sl)) (EP X pins σ Q) X.xe s
theorem SlR.or {r r':V->Option Int->Option Int->Hp->VK->Prop} (h:SlR X r) (h':SlR X r') : SlR X (fun x lo hi H Q=>r x lo hi H Q\/r' x lo hi H Q):=by
 intro pins s σ H x v vl vu lo hi sl Q I rx hs pl pu q
 rcases q with q | q
 ·exact h pins s σ H x v vl vu lo hi sl Q I rx hs pl pu q
 ·exact h' pins s σ H x v vl vu lo hi sl Q I rx hs pl pu q
noncomputable def tSl (r:V->Option Int->Option Int->Hp->VK->Prop) (te:TE) (tl th:TO) : TE:=fun σ H Q=>te σ H fun x H1=>tl σ H1 fun l H2=>th σ H2 fun u H3=>r x l u H3 Q
theorem z38 {r:V->Option Int->Option Int->Hp->VK->Prop} (hr:SlR X r) (he:PE X e te) (hl:PO X lo tl) (hu:PO X hi th) : PE X (.Subscript e (.Slice lo hi none p2) pos) (tSl r te tl th):=by
 intro pins s σ H Q I h;refine Subscript_ (thn (he pins s σ H _ I h) fun v s1 ⟨x,H1,I1,r1,q1⟩=>?_);refine wpAny_Slice (thn (hl pins s1 σ H1 _ I1 q1) fun vl s2 ⟨l,H2,I2,pl,q2⟩=>thn (hu pins s2 σ H2 _ I2 q2) fun vu s3 ⟨u,H3,I3,pu,q3⟩=>?_);rw [evalPart_none];refine wpAny_pure ?_
 have I4 : Inv X pins σ H3 { s3 with heap:=s3.heap.push { cls:=.type "slice",data:=.fields #[vl,vu,.none] } }:=I3.kept (t':=s3.toks) fun b ob q=>Heap.get?_push_of_some _ q
 obtain ⟨T,id,hT,ht,hg⟩:=hr pins { s3 with heap:=s3.heap.push { cls:=.type "slice",data:=.fields #[vl,vu,.none] } } σ H3 x v vl vu l u s3.heap.objs.size Q I4 r1 (Heap.IsSliceOf.new ..) pl pu q3
 show wpAny (model X.prog X.w) X.A (subscriptTail e (.Slice lo hi none p2) v (.ref s3.heap.objs.size)) (EP X pins σ Q) X.xe { s3 with heap:=s3.heap.push { cls:=.type "slice",data:=.fields #[vl,vu,.none] } }
 exact tail_any (ops:=[.ref s3.heap.objs.size,v]) ht hT hg (by with_unfolding_all rfl)
noncomputable def zf9 (xs:List V) (lo hi:Option Int) : List V:=(xs.drop (HT.sIx xs.length 0 lo)).take (HT.sIx xs.length xs.length hi - HT.sIx xs.length 0 lo)
theorem zw2 (xs:List V) (lo hi:Option Int) : (zf9 xs lo hi).length<=xs.length:=by
 unfold zf9;rw [List.length_take,List.length_drop];omega
end
noncomputable def ixN (n:Nat) (i:Int) : Option Nat:=if 0<=i then (if i < n then some i.toNat else none) else if -(n:Int)<=i then some (i + n).toNat else none
noncomputable def atI {α : Type} (xs:List α) (i:Int) : Option α:=(ixN xs.length i).bind fun j=>xs[j]?
theorem zsi {n:Nat} {i:Int} {j:Nat} (h:ixN n i=some j) : seqIndex? i n=some j/\j < n/\-(n:Int)<=i/\i < n:=by
 unfold ixN at h
 by_cases h0 : 0<=i
 ·rw [if_pos h0] at h
  by_cases h1 : i < n
  ·rw [if_pos h1] at h;have e : i.toNat=j:=Option.some.inj h;exact ⟨by rw [seqIndex_of h0 h1,e],by omega,by omega,h1⟩
  ·rw [if_neg h1] at h; cases h
 ·rw [if_neg h0] at h
  by_cases h1 : -(n:Int)<=i
  ·rw [if_pos h1] at h;have e : (i + n).toNat=j:=Option.some.inj h;exact ⟨by rw [seqIndex_neg (by omega) h1,e],by omega,h1,by omega⟩
  ·rw [if_neg h1] at h; cases h
theorem zp3 {α : Type} {xs:List α} {i:Int} {v:α} (h:atI xs i=some v) : ∃ j,seqIndex? i xs.length=some j/\xs[j]?=some v/\j < xs.length/\-(xs.length : Int)<=i/\i < xs.length:=by
 unfold atI at h
 cases e : ixN xs.length i with
 | none=>rw [e] at h; cases h
 | some j =>
  rw [e] at h;obtain ⟨h1,h2,h3,h4⟩:=zsi e;exact ⟨j,h1,h,h2,h3,h4⟩
theorem zwf {α : Type} {xs:List α} {j:Nat} {v:α} (h:xs[j]?=some v) : atI xs (j:Int)=some v:=by
 have hj : j < xs.length:=(List.getElem?_eq_some_iff.mp h).1
 have e : ixN xs.length (j:Int)=some j:=by
  unfold ixN;rw [if_pos (by omega),if_pos (by omega)]; simp
 unfold atI; rw [e]; exact h
noncomputable def zpy (b:Expr) : Prop:=∀ o i,subscripted b false o i=operate [o,i] (getItem o i)
noncomputable def IxR (X:Cx) (r:R2) : Prop :=
 ∀ (value slice:Expr) (pins:List (Addr×Obj)) (s:Shared) (σ:St) (H:Hp) (x y:V) (v u:Value) (Q:VK),Inv X pins σ H s->zaq x v->zaq y u->r x y H Q ->
  subscripted slice false v u=operate [v,u] (getItem v u)->wpAny (model X.prog X.w) X.A (subscriptTail value slice v u) (EP X pins σ Q) X.xe s
noncomputable def MtR (X:Cx) (id:String) (r:V->List V->Hp->VK->Prop) : Prop :=
 ∀ (pins:List (Addr×Obj)) (s:Shared) (σ:St) (H:Hp) (x:V) (xs:List V) (v:Value) (us:List Value) (Q:VK),Inv X pins σ H s->zaq x v->zak xs us->r x xs H Q ->
  wpAny (model X.prog X.w) X.A (call (.builtin id) (v::us)) (EP X pins σ Q) X.xe s
section
variable {X:Cx} {a b:Expr} {ta tb:TE} {pos:Pos}
theorem IxR.or {r r':R2} (h:IxR X r) (h':IxR X r') : IxR X (fun x y H Q=>r x y H Q\/r' x y H Q):=by
 intro value slice pins s σ H x y v u Q I rx ry q hs
 rcases q with q | q
 ·exact h value slice pins s σ H x y v u Q I rx ry q hs
 ·exact h' value slice pins s σ H x y v u Q I rx ry q hs
theorem MtR.or {id:String} {r r':V->List V->Hp->VK->Prop} (h:MtR X id r) (h':MtR X id r') : MtR X id (fun x xs H Q=>r x xs H Q\/r' x xs H Q):=by
 intro pins s σ H x xs v us Q I rx rs q
 rcases q with q | q
 ·exact h pins s σ H x xs v us Q I rx rs q
 ·exact h' pins s σ H x xs v us Q I rx rs q
theorem z33 {r:R2} (hr:IxR X r) (ha:PE X a ta) (hb:PE X b tb) (hs:zpy b) : PE X (.Subscript a b pos) (tOp r ta tb):=by
 intro pins s σ H Q I h;exact Subscript_ (zm4 ha hb I h fun v u s2 x y H2 I2 rx ry q=>hr a b pins s2 σ H2 x y v u Q I2 rx ry q (hs _ _))
noncomputable def z5e (K:PySem.W.Frag) : R2:=fun x y H Q=>∃ p xs i v,x=.ref p/\y=.int i/\SqL K H p xs/\atI xs i=some v/\Q v H
noncomputable def z5f (K:PySem.W.Frag) : R2:=fun x y H Q=>∃ p xs i v,x=.ref p/\y=.int i/\SqT K H p xs/\atI xs i=some v/\Q v H
theorem zz4 : IxR X (z5e X.K):=by
 intro value slice pins s σ H x y v u Q I rx ry h hs;obtain ⟨p,xs,i,z,rfl,rfl,hq,he,q⟩:=h;cases rx;obtain ⟨t,rfl⟩:=ry;obtain ⟨its,r,pl,hz⟩:=I.list hq;obtain ⟨j,h1,h2,h3,h4,h5⟩:=zp3 he;obtain ⟨w,ew,rw'⟩:=r.get h2;have hl:=r.length;have hn:=zh7;have fin : EP X pins σ Q w s:=⟨z,H,I,rw',q⟩
 by_cases h0 : 0<=i
 ·have hj : i.toNat=j:=by
   rw [seqIndex_of h0 h5] at h1;exact Option.some.inj h1
  exact item_listR pl.isList h0 (by omega) (by rw [hj]; simpa using ew) fin hs
 ·have hj : (i + (its.toArray.size : Int)).toNat=j:=by
   rw [seqIndex_neg (by omega) h4] at h1;rw [List.size_toArray,<- hl];exact Option.some.inj h1
  exact subscriptTail_builtinR (x:=w) pl.isList.typeIs slot_list_getitem.lookup
   (wpAny_getItem_list_neg (Q:=fun r s'=>r=w/\EP X pins σ Q r s') pl.isList (by omega) (by rw [List.size_toArray] <;> omega) (by omega) (by rw [hj]; simpa using ew) ⟨rfl,fin⟩) hs
theorem zz5 : IxR X (z5f X.K):=by
 intro value slice pins s σ H x y v u Q I rx ry h hs;obtain ⟨p,xs,i,z,rfl,rfl,hq,he,q⟩:=h;cases rx;obtain ⟨t,rfl⟩:=ry;obtain ⟨its,r,pl,hz⟩:=I.tuple hq;obtain ⟨j,h1,h2,h3,h4,h5⟩:=zp3 he;obtain ⟨w,ew,rw'⟩:=r.get h2;have hl:=r.length;have hn:=zh7;have fin : EP X pins σ Q w s:=⟨z,H,I,rw',q⟩
 exact subscriptTail_builtinR (x:=w) pl.typeIs slot_tuple_getitem.lookup
  (getItem_tuple (j:=j) (Q:=fun r s'=>r=w/\EP X pins σ Q r s') pl (by omega) (by omega) (by rw [List.size_toArray,<- hl]; exact h1) (by simpa using ew) ⟨rfl,fin⟩) hs
theorem z02 (its:List Value) (n j:Nat) (u:Value) : Obj.mapSeq (·.setIfInBounds j u) { cls:=.type "list",data:=.seq its.toArray n }={ cls:=.type "list",data:=.seq (its.set j u).toArray n }:=by
 simp [Obj.mapSeq]
theorem Inv.lst {pins:List (Addr×Obj)} {σ:St} {H:Hp} {s:Shared} {p:Addr} {xs:List V} (I:Inv X pins σ H s) (h:H p=some (.lst xs)) :
  ∃ (its:List Value) (n:Nat),zak xs its/\s.heap.get? p=some { cls:=.type "list",data:=.seq its.toArray n }/\xs.length<=sizeLine:=by
 obtain ⟨z,its,n,r,e⟩:=I.hok p _ h;exact ⟨its,n,r,e,z⟩
theorem Inv.lstUpd {pins:List (Addr×Obj)} {σ:St} {H:Hp} {s:Shared} {p:Addr} {xs ys:List V} {its its':List Value} {n n':Nat} {f:Obj->Obj} (I:Inv X pins σ H s) (h:H p=some (.lst xs))
  (ho:s.heap.get? p=some { cls:=.type "list",data:=.seq its.toArray n }) (hf:f { cls:=.type "list",data:=.seq its.toArray n }={ cls:=.type "list",data:=.seq its'.toArray n' }) (r:zak ys its') (hz:ys.length<=sizeLine) (t:Nat) :
  Inv X pins σ (upd H p (.lst ys)) { s with heap:=s.heap.update p f,toks:=t }:=by
 have e : (s.heap.update p f).get? p=some { cls:=.type "list",data:=.seq its'.toArray n' }:=by
  rw [Heap.get?_update_self f ho (by rw [hf] <;> rfl),hf]
 refine I.write (x:=p) (e:=p) (by rw [h]; trivial) (.inl rfl) (fun b u hb q=>(Heap.get?_update_other _ _ (Ne.symm hb)).trans q) ⟨_,e⟩ ?_;exact ⟨hz,its',n',r,e⟩
noncomputable def zuj : V->V->V->Hp->(Hp->Prop)->Prop:=fun o i v H Q=>∃ p xs k j,o=.ref p/\i=.int k/\H p=some (.lst xs)/\ixN xs.length k=some j/\Q (upd H p (.lst (xs.set j v)))
theorem z6o : zpx X zuj:=by
 intro pins s σ H o i v ov iv u Q I ro ri rv h;obtain ⟨p,xs,k,j,rfl,rfl,hp,hj,q⟩:=h;cases ro;obtain ⟨t,rfl⟩:=ri;obtain ⟨its,n,r,ho,hz⟩:=I.lst hp;obtain ⟨h1,h2,h3,h4⟩:=zsi hj;have hl:=r.length;have hn:=zh7
 have I' : Inv X pins σ (upd H p (.lst (xs.set j v))) { s with heap:=s.heap.update p (Obj.mapSeq (·.setIfInBounds j u)) } :=
  I.lstUpd hp ho (z02 its n j u) (r.set rv j) (by rw [List.length_set]; exact hz) s.toks
 by_cases h0 : 0<=k
 ·have hk : k.toNat=j:=by
   rw [seqIndex_of h0 h4] at h1;exact Option.some.inj h1
  exact PySem.W.ki_setAt ho h0 (by omega) (by rw [List.size_toArray,<- hl]; exact h4) (by rw [hk]; exact ⟨_,I',q⟩)
 ·have hk : (k + (its.toArray.size : Int)).toNat=j:=by
   rw [seqIndex_neg (by omega) h3] at h1;rw [List.size_toArray,<- hl];exact Option.some.inj h1
  exact PySem.W.ki_setBack ho (by omega) (by rw [List.size_toArray,<- hl]; exact h3) (by omega) (by rw [hk]; exact ⟨_,I',q⟩)
theorem z6x (lo hi:Option Int) (n:Nat) : (sliceBounds lo hi none n).1=((HT.sIx n 0 lo : Nat) : Int)/\(sliceBounds lo hi none n).2.1=((HT.sIx n n hi : Nat) : Int)/\(sliceBounds lo hi none n).2.2=1:=by
 refine ⟨?_,?_,rfl⟩
 ·cases lo with
  | none=>simp [sliceBounds,HT.sIx]
  | some i =>
   simp only [sliceBounds,HT.sIx,Option.getD_none,show (1 : Int) > 0 by decide,if_true]
   by_cases h : i < 0
   ·simp only [h,if_true] <;> omega
   ·simp only [h,if_false] <;> omega
 ·cases hi with
  | none=>simp [sliceBounds,HT.sIx]
  | some i =>
   simp only [sliceBounds,HT.sIx,Option.getD_none,show (1 : Int) > 0 by decide,if_true]
   by_cases h : i < 0
   ·simp only [h,if_true] <;> omega
   ·simp only [h,if_false] <;> omega
theorem z6w (its:List Value) (lo hi:Option Int) : slicePick its.toArray lo hi none=((its.drop (HT.sIx its.length 0 lo)).take (HT.sIx its.length its.length hi - HT.sIx its.length 0 lo)).toArray:=by
 obtain ⟨h1,h2,h3⟩:=z6x lo hi its.toArray.size;unfold slicePick;rw [h1,h2,h3]
 simp only [sliceRange_one,pick_run,List.size_toArray] <;> rfl
noncomputable def z5g (K:PySem.W.Frag) : V->Option Int->Option Int->Hp->VK->Prop:=fun x lo hi H Q=>∃ a xs,x=.ref a/\SqL K H a xs/\∀ p,H p=none->Q (.ref p) (upd H p (.lst (zf9 xs lo hi)))
theorem z6v : SlR X (z5g X.K):=by
 intro pins s σ H x v vl vu lo hi sl Q I rx hs pl pu h;obtain ⟨a,xs,rfl,hx,q⟩:=h;cases rx;obtain ⟨its,r,ht,hz⟩:=I.list hx;have hlen:=r.length;refine ⟨"list",_,slot_list_getitem.lookup,ht.isList.typeIs,?_⟩
 refine wpAny_getItem_list_slice ht.isList hs pl pu .none (by simp) ?_ (by rw [List.size_toArray] <;> omega)
 rw [z6w,<- hlen];refine ⟨.ref s.heap.objs.size,_,I.laid (t':=s.toks) (o:=.lst (zf9 xs lo hi)) (fun b ob q=>Heap.get?_push_of_some _ q) (Nat.le_refl _) ?_,rfl,q _ (I.hok.fresh (Nat.le_refl _))⟩;exact ⟨Nat.le_trans (zw2 xs lo hi) hz,_,0,(r.drop (HT.sIx xs.length 0 lo)).take (HT.sIx xs.length xs.length hi - HT.sIx xs.length 0 lo),Heap.get?_push_size _ rfl⟩
noncomputable def zdd : V->Bool
 | .non=>true
 | .bl _=>true
 | .int _=>true
 | .str _=>true
 | _=>false
noncomputable def eqV : V->V->Bool
 | .non,.non=>true
 | .bl a,.bl b=>a==b
 | .bl a,.int b=>(if a then 1 else 0)==b
 | .int a,.bl b=>a==(if b then 1 else 0)
 | .int a,.int b=>a==b
 | .str a,.str b=>a==b
 | _,_=>false
theorem zrj {A:Around} {s:Shared} {y x:V} {u v:Value} (ry:zaq y u) (rx:zaq x v) (fy:zdd y=true) (fx:zdd x=true) : SeqAt.EqAt A s u v (eqV y x):=by
 cases y with
 | non =>
  cases ry
  cases x with
  | non=>cases rx; exact SeqAt.EqAt.same _
  | bl b=>cases rx; exact SeqAt.EqAt.none_bool b
  | int b=>obtain ⟨t,rfl⟩:=rx; exact SeqAt.EqAt.none_int b t
  | str b=>obtain ⟨t,rfl⟩:=rx; exact SeqAt.EqAt.none_str b t
  | _=>exact absurd (show false=true from fx) Bool.false_ne_true
 | bl a =>
  cases ry
  cases x with
  | non=>cases rx; exact SeqAt.EqAt.bool_none a
  | bl b=>cases rx; exact SeqAt.EqAt.bool_bool a b
  | int b=>obtain ⟨t,rfl⟩:=rx; exact SeqAt.EqAt.bool_int a b t
  | str b=>obtain ⟨t,rfl⟩:=rx; exact SeqAt.EqAt.bool_str a b t
  | _=>exact absurd (show false=true from fx) Bool.false_ne_true
 | int a =>
  obtain ⟨t',rfl⟩:=ry
  cases x with
  | non=>cases rx; exact SeqAt.EqAt.int_none a t'
  | bl b=>cases rx; exact SeqAt.EqAt.int_bool a t' b
  | int b=>obtain ⟨t,rfl⟩:=rx; exact SeqAt.EqAt.int_int a t' b t
  | str b=>obtain ⟨t,rfl⟩:=rx; exact SeqAt.EqAt.int_str a t' b t
  | _=>exact absurd (show false=true from fx) Bool.false_ne_true
 | str a =>
  obtain ⟨t',rfl⟩:=ry
  cases x with
  | non=>cases rx; exact SeqAt.EqAt.str_none a t'
  | bl b=>cases rx; exact SeqAt.EqAt.str_bool a t' b
  | int b=>obtain ⟨t,rfl⟩:=rx; exact SeqAt.EqAt.str_int a t' b t
  | str b=>obtain ⟨t,rfl⟩:=rx; exact SeqAt.EqAt.str_str a t' b t
  | _=>exact absurd (show false=true from fx) Bool.false_ne_true
 | _=>exact absurd (show false=true from fy) Bool.false_ne_true
noncomputable def eqU (x:V) (u:Value) : Bool:=match u with
 | .none=>eqV .non x
 | .bool b=>eqV (.bl b) x
 | .int i _=>eqV (.int i) x
 | .str z _=>eqV (.str z) x
 | _=>false
theorem zrk {x y:V} {u:Value} (r:zaq y u) (f:zdd y=true) : eqU x u=eqV y x:=by
 cases y with
 | non=>cases r; rfl
 | bl b=>cases r; rfl
 | int i=>obtain ⟨t,rfl⟩:=r; rfl
 | str z=>obtain ⟨t,rfl⟩:=r; rfl
 | _=>exact absurd (show false=true from f) Bool.false_ne_true
theorem zmz {x:V} : ∀ {xs:List V} {us:List Value},zak xs us->xs.all zdd=true->us.any (eqU x)=xs.any fun y=>eqV y x
 | _,_,.nil,_=>rfl
 | y::xs,u::us,.cons r t,f=>by
  rw [List.all_cons,Bool.and_eq_true] at f;rw [List.any_cons,List.any_cons,zrk r f.1,zmz t f.2]
theorem zol {A:Around} {s:Shared} {x:V} {v:Value} (rx:zaq x v) (fx:zdd x=true) : ∀ {xs:List V} {us:List Value},zak xs us->xs.all zdd=true->∀ u∈us,SeqAt.EqAt A s u v (eqU x u)
 | _,_,.nil,_=>fun u hu=>by cases hu
 | y::xs,u::us,.cons r t,f=>fun u' hu=>by
  rw [List.all_cons,Bool.and_eq_true] at f
  rcases List.mem_cons.mp hu with rfl | hu
  ·rw [zrk r f.1]; exact zrj r rx f.1 fx
  ·exact zol rx fx t f.2 u' hu
noncomputable def inV (x:V) (xs:List V) : Bool:=xs.any fun y=>eqV y x
noncomputable def rIn (K:PySem.W.Frag) (neg:Bool) : R2:=fun x y H Q=>∃ p xs,y=.ref p/\(SqL K H p xs\/SqT K H p xs)/\zdd x=true/\xs.all zdd=true/\Q (.bl (if neg then !inV x xs else inV x xs)) H
theorem z3e : OpR X (compareOp .In) (rIn X.K false):=by
 intro pins s σ H x y v u Q I rx ry h;obtain ⟨p,xs,rfl,hq,fx,fs,q⟩:=h;cases ry
 rcases hq with hq | hq
 ·obtain ⟨its,r,pl,hz⟩:=I.list hq;refine SeqAt.in_listAt (eqU x) pl.isList (fun w hw=>zol rx fx r fs w (by simpa using hw)) ⟨.bl _,H,I,rfl,?_⟩;rw [show its.toArray.any (eqU x)=its.any (eqU x) by simp,zmz r fs];exact q
 ·obtain ⟨its,r,pl,hz⟩:=I.tuple hq;refine SeqAt.in_tupleAt (eqU x) pl (fun w hw=>zol rx fx r fs w (by simpa using hw)) ⟨.bl _,H,I,rfl,?_⟩;rw [show its.toArray.any (eqU x)=its.any (eqU x) by simp,zmz r fs];exact q
theorem zwm : zc9 X (.builtin "len") (fun xs H Q=>∃ p ys,xs=[.ref p]/\(SqL X.K H p ys\/SqT X.K H p ys)/\Q (.int ys.length) H):=by
 intro pins s σ H xs us Q I r h;obtain ⟨p,ys,rfl,hq,q⟩:=h;obtain ⟨u,rfl,rx⟩:=zji r;cases rx;have hn:=zh7
 rcases hq with hq | hq
 ·obtain ⟨its,r',pl,hz⟩:=I.list hq;have hlen:=r'.length
  exact Calls.call_len_list pl.isList (by simp only [List.size_toArray] <;> omega) ⟨.int ys.length,H,I.tok _,⟨s.toks + 1,by rw [List.size_toArray,hlen]⟩,q⟩
 ·obtain ⟨its,r',pl,hz⟩:=I.tuple hq;have hlen:=r'.length
  exact len_tuple pl (by simp only [List.size_toArray] <;> omega) ⟨.int ys.length,H,I.tok _,⟨s.toks + 1,by rw [List.size_toArray,hlen]⟩,q⟩
theorem zwn : zc9 X (.builtin "len") (fun xs H Q=>∃ z,xs=[.str z]/\z.length<=sizeLine/\Q (.int z.length) H):=by
 intro pins s σ H xs us Q I r h;obtain ⟨z,rfl,hz,q⟩:=h;obtain ⟨u,rfl,t,rfl⟩:=zji r;have hn:=zh7;exact len_str (by omega) ⟨.int z.length,H,I.tok _,⟨_,rfl⟩,q⟩
theorem zc9.or {f:Value} {r r':List V->Hp->VK->Prop} (h:zc9 X f r) (h':zc9 X f r') : zc9 X f (fun xs H Q=>r xs H Q\/r' xs H Q):=by
 intro pins s σ H xs us Q I rs q
 rcases q with q | q
 ·exact h pins s σ H xs us Q I rs q
 ·exact h' pins s σ H xs us Q I rs q
theorem zwo : zc9 X (.type "list") (fun xs H Q=>∃ p ys,xs=[.ref p]/\(SqL X.K H p ys\/SqT X.K H p ys)/\∀ l,H l=none->Q (.ref l) (upd H l (.lst ys))):=by
 intro pins s σ H xs us Q I r h;obtain ⟨p,ys,rfl,hq,q⟩:=h;obtain ⟨u,rfl,rx⟩:=zji r;cases rx
 have fin : ∀ (its:List Value),zak ys its->ys.length<=sizeLine->∀ (h':Heap) (c':Nat),(∀ b o',s.heap.get? b=some o'->h'.get? b=some o') ->
   h'.get? s.heap.objs.size=some { cls:=.type "list",dict:=none,data:=.seq its.toArray c',slots:=#[] }->EP X pins σ Q (.ref s.heap.objs.size) { s with heap:=h' }:=fun its r' hz h' c' kp e =>
  ⟨.ref s.heap.objs.size,_,I.laid (t':=s.toks) kp (Nat.le_refl _) (show zbv X.prog X.w _ h' _ (.lst ys) from ⟨hz,its,c',r',e⟩),rfl,q _ (I.hok.fresh (Nat.le_refl _))⟩
 rcases hq with hq | hq
 ·obtain ⟨its,r',pl,hz⟩:=I.list hq;have hlen:=r'.length;obtain ⟨o,ho,hc,n,hd⟩:=pl.isList
  exact call_list_seq p (.inl rfl) ho hc hd (fun h' c' kp e=>fin its r' hz h' c' kp e) (by simp only [List.size_toArray] <;> omega)
 ·obtain ⟨its,r',pl,hz⟩:=I.tuple hq;have hlen:=r'.length;obtain ⟨o,ho,hc,n,hd⟩:=pl
  exact call_list_seq p (.inr rfl) ho hc hd (fun h' c' kp e=>fin its r' hz h' c' kp e) (by simp only [List.size_toArray] <;> omega)
noncomputable def tyV (K:PySem.W.Frag) (T:String) (x:V) (H:Hp) : Prop:=match x with
 | .str _=>T="str"
 | .int _=>T="int"
 | .ref p=>(T="list" /\ ∃ xs,SqL K H p xs)\/(T="tuple" /\ ∃ o,K.lookup p=some o/\o.cls=.type "tuple" /\ o.dict=none) \/
   (T="dict" /\ ((∃ kvs,H p=some (.dK kvs))\/∃ kvs,H p=some (.dT kvs)))\/(T="set" /\ ∃ S n,H p=some (.set S n))
 | _=>False
theorem z72 {pins:List (Addr×Obj)} {σ:St} {H:Hp} {s:Shared} {T:String} {x:V} {v:Value} (I:Inv X pins σ H s) (r:zaq x v) (ty:tyV X.K T x H) :
  s.TypeIs v T/\∀ a,v=.ref a->∃ ob,s.heap.get? a=some ob/\ob.dict=none:=by
 cases x with
 | str z =>
  obtain ⟨t,rfl⟩:=r;cases (show T="str" from ty)
  exact ⟨typeIs_str s z t,fun _ e=>nomatch e⟩
 | int i =>
  obtain ⟨t,rfl⟩:=r;cases (show T="int" from ty)
  exact ⟨typeIs_int s i t,fun _ e=>nomatch e⟩
 | ref p =>
  cases r
  rcases ty with ⟨rfl,xs,hq⟩ | ⟨rfl,o,hk,hc,hd⟩ | ⟨rfl,hk⟩ | ⟨rfl,S,n,hk⟩
  ·obtain ⟨its,_,pl,_⟩:=I.list hq;refine ⟨pl.isList.typeIs,fun a e=>?_⟩;cases e;obtain ⟨o,n,e,c,hd,_⟩:=pl;exact ⟨o,e,hd⟩
  ·refine ⟨⟨o,I.kIn p o hk,hc⟩,fun a e=>?_⟩;cases e;exact ⟨o,I.kIn _ o hk,hd⟩
  ·have z : ∃ o,s.heap.get? p=some o/\o.ExactDict:=by
    rcases hk with ⟨kvs,hk⟩ | ⟨kvs,hk⟩
    ·obtain ⟨_,_,_,_,o,_,_,e,ex,_⟩:=I.hok p _ hk;exact ⟨o,e,ex⟩
    ·obtain ⟨_,_,_,_,o,_,_,e,ex,_⟩:=I.hok p _ hk;exact ⟨o,e,ex⟩
   obtain ⟨o,e,ex⟩:=z;refine ⟨⟨o,e,ex.1⟩,fun a e2=>?_⟩;cases e2;exact ⟨o,e,ex.2.1⟩
  ·obtain ⟨o,_,_,_,e,ex,_⟩:=I.hok p _ hk;refine ⟨⟨o,e,ex.1⟩,fun a e2=>?_⟩;cases e2
   exact ⟨o,e,ex.2.1⟩
 | _=>exact False.elim ty
noncomputable def tBM (K:PySem.W.Frag) (T:String) (r:V->List V->Hp->VK->Prop) (to:TE) (t:TA) : TE:=fun σ H Q=>to σ H fun x H1=>tyV K T x H1/\t σ H1 fun xs H2=>r x xs H2 Q
variable {o e:Expr} {es:List Expr} {to:TE} {t:TA} {name:Str} {apos cpos:Pos} {T id:String} {r:V->List V->Hp->VK->Prop}
theorem zfn (pa:PlainAttrs T) (slot:Slot T name id) (hty:typeOf (.builtin id)=pure (.type "method_descriptor")) (hm:MtR X id r) (ho:PE X o to) (ha:PA X (e::es) t)
  (hbase:attributeBase o name X.env (eval o X.env)=eval o X.env:=by rfl)
  (hfew:((backTo cpos (starEach (e::es) X.env)).all (fun x=>!x.1) && (backToKw cpos (keywordEach [] X.env)).all (fun x=>x.1.isSome)
   && decide ((e::es).length + ([] : List Keyword).length + (if ([] : List Keyword).isEmpty then 0 else 1) < 30))=true:=by rfl)
  (hline:(apos.endLine==cpos.line)=true:=by rfl) (hs:starEach (e::es) X.env=(false,eval e X.env)::starEach es X.env:=by rfl) (hplain:(backTo cpos (starEach es X.env)).any (·.1)=false:=by rfl) :
  PE X (.Call (.Attribute o name apos) (e::es) [] cpos) (tBM X.K T r to t):=by
 intro pins s σ H Q I h;refine wpAny_Call_method_late hbase hfew hline rfl (thn (ho pins s σ H _ I h) fun v s1 ⟨x,H1,I1,r1,ty,q1⟩=>?_);obtain ⟨h1,h2⟩:=z72 I1 r1 ty;refine ⟨T,id,pa,slot,hty,h1,h2,?_⟩;have hA:=ha cpos pins s1 σ H1 _ I1 q1;rw [hs] at hA ⊢
 refine Calls.callWith_builtin (by show (false || (backTo cpos (starEach es X.env)).any (·.1))=false; rw [hplain] <;> rfl) (Calls.evalArgs_plain ?_)
 exact thn hA fun us s2 ⟨vs,H2,I2,r2,q2⟩=>hm pins s2 σ H2 x vs v us Q I2 r1 r2 q2
end
noncomputable def MtM (X:Cx) (id:String) (r:V->List V->Hp->VK->Prop) : Prop :=
 ∀ (pins:List (Addr×Obj)) (s:Shared) (σ:St) (H:Hp) (x:V) (xs:List V) (v:Value) (us:List Value) (Q:VK),Inv X pins σ H s->zaq x v->zak xs us->r x xs H Q ->
  wpAny (model X.prog X.w) X.A (call (.builtin id) (v::us)) (EP X pins σ Q) X.xe s
theorem zak.one : ∀ {x:V} {us:List Value},zak [x] us->∃ u,us=[u]/\zaq x u
 | _,_,.cons r .nil=>⟨_,rfl,r⟩
theorem zak.two : ∀ {x y:V} {us:List Value},zak [x,y] us->∃ u v,us=[u,v]/\zaq x u/\zaq y v
 | _,_,_,.cons r (.cons q .nil)=>⟨_,_,rfl,r,q⟩
theorem zak.zero : ∀ {us:List Value},zak [] us->us=[]
 | _,.nil=>rfl
theorem zak.eraseIdx : ∀ {xs:List V} {us:List Value} (i:Nat),zak xs us->zak (xs.eraseIdx i) (us.eraseIdx i)
 | _,_,_,.nil=>.nil
 | _,_,0,.cons _ t=>t
 | _,_,i + 1,.cons r t=>.cons r (zak.eraseIdx i t)
theorem zak.rep {xs:List V} {us:List Value} (h:zak xs us) : ∀ k : Nat,zak (List.replicate k xs).flatten (List.replicate k us).flatten
 | 0=>.nil
 | k + 1=>by
  rw [List.replicate_succ,List.replicate_succ,List.flatten_cons,List.flatten_cons];exact zak.append h (zak.rep h k)
section
variable {X:Cx} {pins:List (Addr×Obj)} {σ:St} {H:Hp} {s:Shared} {l b:Addr} {xs ys zs:List V}
theorem Inv.lset {its its':List Value} {n:Nat} {f:Array Value->Array Value} {t':Nat} (I:Inv X pins σ H s) (hH:H l=some (.lst xs))
  (e:s.heap.get? l=some { cls:=.type "list",data:=.seq its.toArray n }) (hf:f its.toArray=its'.toArray) (hv:zak ys its') (hz:ys.length<=sizeLine) :
  Inv X pins σ (upd H l (.lst ys)) { s with heap:=s.heap.update l (Obj.mapSeq f),toks:=t' }:=by
 have q:=PySem.IsL.update e f;rw [hf] at q;refine I.write (x:=l) (e:=l) (by rw [hH]; exact trivial) (.inl rfl) (fun b' u hb hu=>(Heap.get?_update_other s.heap (Obj.mapSeq f) (Ne.symm hb)).trans hu) ⟨_,q⟩ ?_;exact ⟨hz,its',_,hv,q⟩
theorem Inv.lnew {its:List Value} {t':Nat} (I:Inv X pins σ H s) (hv:zak ys its) (hz:ys.length<=sizeLine) :
  Inv X pins σ (upd H s.heap.objs.size (.lst ys)) { s with heap:=s.heap.push { cls:=.type "list",data:=.seq its.toArray },toks:=t' } :=
 I.laid (fun _ _ q=>Heap.get?_push_of_some _ q) (Nat.le_refl _) ⟨hz,its,0,hv,Heap.get?_push_size _ rfl⟩
theorem Inv.fresh (I:Inv X pins σ H s) : H s.heap.objs.size=none:=I.hok.fresh (Nat.le_refl _)
theorem Inv.lstM (I:Inv X pins σ H s) (hH:H l=some (.lst xs)) : xs.length<=sizeLine/\∃ (its:List Value) (n:Nat),zak xs its/\xs.length=its.length/\s.heap.get? l=some { cls:=.type "list",data:=.seq its.toArray n }:=by
 obtain ⟨z,its,n,r,e⟩:=I.hok l _ hH;exact ⟨z,its,n,r,r.length,e⟩
end
section
variable {X:Cx}
noncomputable def zma : V->List V->Hp->VK->Prop:=fun x vs H Q=>∃ l xs y,x=.ref l/\vs=[y]/\H l=some (.lst xs)/\xs.length < sizeLine/\Q .non (upd H l (.lst (xs++[y])))
theorem zfk : MtM X "list.append" zma:=by
 intro pins s σ H x vs v us Q I rx rv h;obtain ⟨l,xs,y,rfl,rfl,hH,hz,q⟩:=h;cases rx;obtain ⟨u,rfl,ru⟩:=rv.one;obtain ⟨z,its,n,r,hl,e⟩:=I.lstM hH;refine call_meets F.slot_list_append ⟨_,e,rfl⟩ F.entry_list_append (F.args_list_append_2 _ _) (PySem.list_append l its.toArray n u (by rw [List.size_toArray]; omega)) ⟨e,?_⟩;refine ⟨.non,_,I.lset (its':=its++[u]) hH e (by simp) (r.append (.cons ru .nil)) ?_,rfl,q⟩;rw [List.length_append,List.length_singleton];omega
noncomputable def z5d : R2:=fun x y H Q=>∃ l b xs zs,x=.ref l/\y=.ref b/\H l=some (.lst xs)/\H b=some (.lst zs)/\xs.length + zs.length<=sizeLine/\∀ p,H p=none->Q (.ref p) (upd H p (.lst (xs++zs)))
theorem ztz : OpR X (binaryOp .Add) z5d:=by
 intro pins s σ H x y v u Q I rx ry h;obtain ⟨l,b,xs,zs,rfl,rfl,hH,hB,hz,q⟩:=h;cases rx;cases ry;obtain ⟨z,its,n,r,hl,e⟩:=I.lstM hH;obtain ⟨z2,its2,n2,r2,hl2,e2⟩:=I.lstM hB;refine PySem.P.add_list e e2 ?_ (by rw [List.size_toArray,List.size_toArray]; omega);have ea : its.toArray++its2.toArray=(its++its2).toArray:=by simp
 rw [ea];exact ⟨.ref _,_,I.lnew (t':=s.toks) (r.append r2) (by rw [List.length_append]; omega),rfl,q _ I.fresh⟩
end
section
variable {prog:Program} {w:World} {A:Around} {E:Value->Shared->Prop} {s:Shared}
set_option maxRecDepth 100000 in
end
section
variable {X:Cx}
end
end L2
namespace Att
open PySem PySem.W PySem.Calls PyProof.Rows
theorem zzo {P:Params} {h:Heap} : ∀ (ns:List Int) (vs:List Value),WellAll P h vs (ns.map WData.int)->IntsAre vs ns:=by
 intro ns
 induction ns with
 | nil =>
  intro vs w;rw [List.map_nil] at w;cases w
  exact .nil
 | cons n ns ih =>
  intro vs w;rw [List.map_cons] at w
  cases w with
  | cons a b =>
   cases a;exact .cons _ _ (ih _ b)
theorem z6k {l:OpenLaw} {n:Nat} (hn:l.most=some n) {P:Params} {h:Heap} {args:List WData} {vals:List Value}
  (hpre:l.row.toRowW.claim.pre args=true) (hwl:WellAll P h vals args) :
  ∃ a vs ns,vals=[Value.ref a]/\args=[WData.list (ns.map WData.int)]/\h.get? a=some { cls:=.type "list",data:=.seq vs.toArray }/\IntsAre vs ns/\ns.length<=n:=by
 have hsh : WShape.hasAll [] args [.list .int]=true:=(pre_splitW hpre).1;have hc : l.pre.holds [] { args:=args }=true:=(pre_splitW hpre).2;obtain ⟨d,r,rfl,h1,h2⟩:=hasAllW_cons hsh;obtain rfl:=hasAllW_nil h2;obtain ⟨xs,rfl,h3⟩:=hasW_list h1;obtain ⟨ns,rfl⟩:=items_int h3
 have hlen : ns.length<=n:=by
  unfold OpenLaw.pre at hc
  have h4 : (WTm.not (.lt (.lit (.int (n:Int))) (.len (.arg 0)))).holds [] { args:=[.list (ns.map .int)] }=true:=by
   have h4:=(holds_andW hc).1;rw [hn] at h4;exact h4
  have h5:=condW_of h4 (w_not (w_lt w_lit (w_len_list (w_arg rfl))));rw [List.length_map] at h5;refine Nat.le_of_not_lt fun q=>?_;have q' : (n:Int) < ((ns.length : Nat) : Int):=by omega
  first
   | (rw [decide_eq_true q'] at h5; exact absurd h5 (by decide))
   | (simp at h5; omega)
 cases hwl with
 | cons w1 w2 =>
  cases w2
  cases w1 with
  | list ho hall=>exact ⟨_,_,ns,rfl,rfl,ho,zzo ns _ hall,hlen⟩
theorem z4s (l:OpenLaw) (args:List WData) : l.row.toRowW.claim.post args (.bool true) args=true :=
 postW_of (r:=l.row.toRowW) (X:=(true==true))
  (show WShape.has [] (.bool true) .bool=true by first | rfl | decide | simp [WShape.has,WShape.arms,WShape.armsAll])
  (show (WTm.eq .res (.lit (.bool true))).value [] { args:=args,res:=some (.bool true),after:=args }=some (.bool (true==true)) from w_eq_bool (w_res rfl) w_lit) rfl
theorem attach_call {l:OpenLaw} {n:Nat} {q:Program} {loose:List Str} {XP:(Str->Option Value)->Heap->Prop} {YP:World->Heap->Prop} {d:DefRec}
  (hn:l.most=some n) (hdf:d.params.defaults=[])
  (call:∀ (w:World) (s₀ s₁:Shared) (mg mb:Str->Option Value) (fa:Addr) (o:Obj) (pm cd doc:Value) (a:Addr) (vs:List Value) (ns:List Int),
   Ground q loose [] XP w s₀ mg mb s₁.heap->YP w s₁.heap ->
   s₁.heap.get? fa=some o->o.data=.func (docDef d.name d.params d.body d.scope pm cd doc)->s₁.heap.CodeRec cd d.name->mg d.name=some (.ref fa) ->
   s₁.heap.get? a=some { cls:=.type "list",data:=.seq vs.toArray }->IntsAre vs ns->ns.length<=n->s₁.gens=#[] ->
   codeAny (model l.prog w) callerA (.call (.ref fa) ⟨[.ref a],[]⟩) (fun r s'=>r=.ok (.ret (.bool true))/\OldK s₁.heap s'.heap/\s'.os=s₁.os/\AllBare s'.gens) s₁) :
  WalkO q loose XP YP l.row.toRowW d [] (fun f vs=>PySem.call f vs):=by
 intro w s₀ s₁ mg mb G Y fa o pm cd doc dV kV ho hd hcd hD hmg hg args vals as hpre hlay hrd hwl hlo;obtain rfl : dV=.none:=Dflts.none hD hdf;obtain rfl : kV=.none:=Dflts.noKw hD;obtain ⟨a,vs,ns,rfl,rfl,hobj,hints,hlen⟩:=z6k hn hpre hwl;refine enter_call (codeAny_mono (call w s₀ s₁ mg mb fa o pm cd doc a vs ns G Y ho (fd_plain hd) hcd hmg hobj hints hlen hg) fun r s' hq=>?_);obtain ⟨rfl,h2,h3,h4⟩:=hq;exact ⟨.inl ⟨.bool true,.bool true,[],rfl,fun _=>rfl,.bool true,z4s l _,fun _=>⟨List.Pairwise.nil,fun _ hm=>(nomatch hm)⟩⟩,h2,h3,h4⟩
section
variable {prog:Program} {w:World} {A:Around} {E:Value->Shared->Prop} {s:Shared} {K:Frag}
end
end Att
namespace L2
open PySem PySem.Spec PyProof.Rows
theorem zvq : ∀ {vs:List Value} {ns:List Int},IntsAre vs ns->zak (ns.map V.int) vs
 | _,_,.nil=>.nil
 | _,_,.cons n t h=>.cons ⟨t,rfl⟩ (zvq h)
noncomputable def zkv (H:Hp) : Prop:=∀ b,H b=none\/∃ o xs,H b=some (.frz o (.lst xs))
theorem z0e {P:Program} {w:World} {K:PySem.W.Frag} {mg mb:Str->Option Value} {CX:CXT} {k:Nat} {fa a:Addr} {fd:FuncData} {x:Str} {sp:Sp} {s₁:Shared} {vs:List Value} {ns:List Int}
  (KX:K.In s₁.heap) (hns:s₁.heap.Ns mainGlobals mg) (hb:s₁.heap.Ns builtinsNs mb) (hbb:∀ x : Str,x ≠ "__name__" -> mb x=bootBuiltins x) (hlim:s₁.heap.NoLimit) (hg:s₁.gens=#[])
  (ha:s₁.heap.get? a=some { cls:=.type "list",data:=.seq vs.toArray }) (hi:IntsAre vs ns) (hl:ns.length<=sizeLine) (hr:za5 k callerA)
  (F:∀ base : Heap,K.In base->base.Ns mainGlobals mg->zap P w K mg base CX k fa fd [x] sp) (hbind:∀ (s:Shared) (u:Value),BindsTo s fd ⟨[u],[]⟩ [(x,u)])
  (hsp:∀ H : Hp,zkv H->SqL K H a (ns.map V.int)->sp [.ref a] H (fun v _=>v=.bl true) fun _ _ _=>False)
  (hCX:∀ H e s',CX [] H s₁ (fun _ _ _=>False) e s'->False) :
  codeAny (model P w) callerA (.call (.ref fa) ⟨[.ref a],[]⟩) (fun r s'=>r=.ok (.ret (.bool true))/\OldK s₁.heap s'.heap/\s'.os=s₁.os/\AllBare s'.gens) s₁:=by
 have rv:=zvq hi;have lenV:=hi.length
 have core : ∀ H : Hp,zkv H->SqL K H a (ns.map V.int)->HOk P w H s₁.heap->(∀ b,H b≠none->b=a)->(H a≠none->K.lookup a=none) ->
   codeAny (model P w) callerA (.call (.ref fa) ⟨[.ref a],[]⟩) (fun r s'=>r=.ok (.ret (.bool true))/\OldK s₁.heap s'.heap/\s'.os=s₁.os/\AllBare s'.gens) s₁:=by
  intro H hO hS hok hA hK;have base_of : ∀ {b:Addr} {o:Obj},s₁.heap.get? b=some o->H b=none->(zfw s₁.heap H).get? b=some o:=fun e n=>zy9 e n
  have noA : ∀ {b:Addr} {o:Obj} {es:Array DictEntry} {ep:Nat},s₁.heap.get? b=some o->o.data=.dict es ep->H b=none:=fun {b o es ep} e d=>by
   cases q : H b with
   | none=>rfl
   | some u =>
    have e' : b=a:=hA b (by rw [q]; simp);subst e';rw [ha] at e; cases e;have d' : Data.seq vs.toArray _=Data.dict es ep:=d;cases d'
  have nsK : ∀ {b:Addr} {m:Str->Option Value},s₁.heap.Ns b m->(zfw s₁.heap H).Ns b m:=fun {b m} ⟨o,es,ep,e,d,r⟩=>⟨o,es,ep,base_of e (noA e d),d,r⟩
  have hKb : K.In (zfw s₁.heap H):=fun b o e=>base_of (KX b o e) (by
   cases q : H b with
   | none=>rfl
   | some u =>
    have e' : b=a:=hA b (by rw [q]; simp);subst e';rw [hK (by rw [q]; simp)] at e; cases e)
  have hM : Mod K mg (zfw s₁.heap H):=⟨hKb,nsK hns,⟨mb,nsK hb,hbb⟩,let ⟨mc,h1,h2⟩:=hlim; ⟨mc,nsK h1,h2⟩⟩;have e0 : zfa P w K mg (zfw s₁.heap H) callerA [] s₁ H:=⟨rfl,hM,fun b o e=>z17 e,Nat.le_of_eq (zza _ _),trivial,fun b hb=>absurd (show b∈([] : List Addr) from hb) (by simp),hok,.of_eq hg⟩;refine codeAny_mono ((F _ hKb (nsK hns)).run callerA [] s₁ H ⟨[.ref a],[]⟩ [.ref a] [.ref a] _ _ hr e0 (hbind s₁ (.ref a)) (.cons rfl .nil) (hsp H hO hS)) fun r s' h=>?_
  cases r with
  | error e=>exact (hCX H e s' h).elim
  | ok fl =>
   cases fl with
   | next=>exact False.elim h
   | brk=>exact False.elim h
   | cont=>exact False.elim h
   | ret u =>
    obtain ⟨v,H',os,bare,un,hok',r',q⟩:=h;have q' : v=.bl true:=q;subst q';obtain rfl : u=Value.bool true:=r';refine ⟨rfl,OldK.of_keep fun b o e=>?_,os,bare⟩
    cases q : H b with
    | none=>exact un.keep b o e q (by intro z; exact absurd (show b∈([] : List Addr) from z) (by simp)) (by simp)
    | some u =>
     rcases hO b with z | ⟨ob,xs,z⟩
     ·rw [q] at z; cases z
     ·have z2:=un.frzs b ob _ z;obtain ⟨e1,_⟩:=hok b _ z;obtain ⟨e2,_⟩:=hok' b _ z2;rw [e] at e1; cases e1;exact e2
 cases hk : K.lookup a with
 | some o =>
  have e:=KX a o hk;rw [ha] at e;cases e
  refine core (fun _=>none) (fun _=>.inl rfl) (.inr ⟨_,vs.toArray,_,hk,rfl,rfl,rfl,by rw [List.size_toArray,lenV]; exact hl,by simpa using rv⟩) (fun b u z=>by have z' : (none:Option HO)=some u:=z; cases z') (fun b z=>absurd rfl z) fun z=>absurd rfl z
 | none =>
  refine core (fun b=>if b=a then some (.frz { cls:=.type "list",data:=.seq vs.toArray } (.lst (ns.map V.int))) else none) (fun b=>?_) (.inl (.inr ⟨{ cls:=.type "list",data:=.seq vs.toArray },if_pos rfl⟩)) (fun b u z=>?_) (fun b z=>?_) fun _=>hk
  ·by_cases hb : b=a
   ·exact .inr ⟨_,_,if_pos hb⟩
   ·exact .inl (if_neg hb)
  ·by_cases hb : b=a
   ·have z':=(if_pos hb).symm.trans z;cases z';subst hb;exact ⟨ha,by rw [List.length_map]; exact hl,vs,_,rv,ha⟩
   ·have z':=(if_neg hb).symm.trans z;cases z'
  ·by_cases hb : b=a
   ·exact hb
   ·exact absurd (if_neg hb) z
noncomputable abbrev KOf {K:PySem.W.Frag} {h:Heap} (_:K.In h) : PySem.W.Frag:=K
theorem z77 {l:PySem.W.OpenLaw} {n k:Nat} {q:Program} {loose:List Str} {XP:(Str->Option Value)->Heap->Prop} {YP:World->Heap->Prop} {d:DefRec} {K:Params->PySem.W.Frag} {CX:World->CXT} {sp:World->Sp} {x:Str}
  (hn:l.most=some n) (hn2:n<=sizeLine) (hdf:d.params.defaults=[]) (hr:za5 k callerA)
  (hY:∀ (w:World) (h:Heap),YP w h->(K w.params).In h)
  (F:∀ (w:World) (mg:Str->Option Value) (fa:Addr) (h:Heap),(K w.params).In h->h.Ns mainGlobals mg->mg d.name=some (.ref fa) ->
   ∃ fd : FuncData,(∀ (s:Shared) (u:Value),BindsTo s fd ⟨[u],[]⟩ [(x,u)]) /\
    ∀ base : Heap,(K w.params).In base->base.Ns mainGlobals mg->zap l.prog w (K w.params) mg base (CX w) k fa fd [x] (sp w))
  (hsp:∀ (w:World) (H:Hp) (a:Addr) (ns:List Int),ns.length<=n->zkv H->SqL (K w.params) H a (ns.map V.int)->sp w [.ref a] H (fun v _=>v=.bl true) fun _ _ _=>False)
  (hCX:∀ (w:World) (H:Hp) (s:Shared) (e:Value) (s':Shared),CX w [] H s (fun _ _ _=>False) e s'->False) :
  PySem.W.WalkO q loose XP YP l.row.toRowW d [] (fun f vs=>PySem.call f vs):=by
 refine Att.attach_call hn hdf fun w s₀ s₁ mg mb fa o pm cd doc a vs ns G Y ho hd hcd hmg hobj hints hlen hg=>?_;have KX:=hY w _ Y;obtain ⟨fd,hb,hF⟩:=F w mg fa _ KX G.T.g hmg;exact z0e KX G.T.g G.T.b G.T.builtins G.T.nolimit hg hobj hints (Nat.le_trans hlen hn2) hr hF hb (fun H hO hS=>hsp w H a ns hlen hO hS) fun H e s'=>hCX w H s₁ e s'
theorem walk_ofK {l:PySem.W.OpenLaw} {n k:Nat} {q:Program} {loose:List Str} {XP:(Str->Option Value)->Heap->Prop} {YP:World->Heap->Prop} {d:DefRec} {K:Params->PySem.W.Frag} {CX:CXT} {sp:PySem.W.Frag->Sp} {x:Str}
  (hn:l.most=some n) (hn2:n<=sizeLine) (hdf:d.params.defaults=[]) (hr:za5 k callerA)
  (hY:∀ (w:World) (h:Heap),YP w h->(K w.params).In h)
  (F:∀ (w:World) (mg:Str->Option Value) (fa:Addr) (h:Heap),(K w.params).In h->h.Ns mainGlobals mg->mg d.name=some (.ref fa) ->
   ∃ fd : FuncData,(∀ (s:Shared) (u:Value),BindsTo s fd ⟨[u],[]⟩ [(x,u)]) /\
    ∀ base : Heap,(K w.params).In base->base.Ns mainGlobals mg->zap l.prog w (K w.params) mg base CX k fa fd [x] (sp (K w.params)))
  (hsp:∀ (K:PySem.W.Frag) (H:Hp) (a:Addr) (ns:List Int),ns.length<=n->zkv H->SqL K H a (ns.map V.int)->sp K [.ref a] H (fun v _=>v=.bl true) fun _ _ _=>False)
  (hCX:∀ (H:Hp) (s:Shared) (e:Value) (s':Shared),CX [] H s (fun _ _ _=>False) e s'->False) :
  PySem.W.WalkO q loose XP YP l.row.toRowW d [] (fun f vs=>PySem.call f vs) :=
 z77 (K:=K) (CX:=fun _=>CX) (sp:=fun w=>sp (K w.params)) hn hn2 hdf hr hY F (fun w H a ns h1 h2 h3=>hsp (K w.params) H a ns h1 h2 h3) fun _ H s e s'=>hCX H s e s'
noncomputable def zcr (s:Stmt) (j:Nat) : Stmt:=match s with
 | .ClassDef _ _ _ body _ _ _ _ _ _ _=>body.getD j (.Pass ⟨0,0,0,0⟩)
 | _=>.Pass ⟨0,0,0,0⟩
noncomputable def za4 (s:Stmt) : Arguments:=match s with
 | .FunctionDef _ a _ _ _ _ _ _ _ _=>a
 | _=>{ posonlyargs:=[],args:=[],vararg:=none,kwonlyargs:=[],kw_defaults:=[],kwarg:=none,defaults:=[] }
noncomputable def zaz (s:Stmt) : List Stmt:=match s with
 | .FunctionDef _ _ b _ _ _ _ _ _ _=>b
 | _=>[]
noncomputable def zai (s:Stmt) : Scope:=match s with
 | .FunctionDef _ _ _ _ _ _ sc _ _ _=>sc
 | _=>{ kind:=.function,names:=[],isGenerator:=false,isCoroutine:=false }
noncomputable abbrev CX0 : CXT:=fun _ _ _ _ _ _=>False
noncomputable abbrev E0 : XK:=fun _ _ _=>False
theorem zfm {X:Cx} : zg0 CX0 X E0:=fun _ _ _ _ _ _ _ h=>h.elim
structure Fun (K:PySem.W.Frag) (x qual:Str) (st:Stmt) (f:Addr) (fd:FuncData) : Prop where
 ex : ∃ (oc:Value) (od:Option Addr) (kV doc pm:Value) (an:Option Addr) (cdv ct:Value) (osl:Array (Option Value)),
  fd=PySem.W.fnOf x qual (za4 st) (zaz st) (zai st) .none kV doc pm an cdv ct/\K.lookup f=some ⟨oc,od,.func fd,osl⟩/\PySem.W.codeIn K cdv qual=true
 kp : PySem.W.keepIn K (.ref f)=true
section
variable {P:Program} {w:World} {K:PySem.W.Frag} {mg:Str->Option Value} {base:Heap}
theorem Fun.ok {x qual:Str} {st:Stmt} {f:Addr} {fd:FuncData} {N ps:List Str} {k:Nat} {sp:Sp} (F:Fun K x qual st f fd) (S:za1 N ps (zai st)) (len:∀ vs H Q E,sp vs H Q E->vs.length=ps.length)
  (hbody:∀ (cdv:Value) (A:Around) (outer:List Env) (s:Shared) (H:Hp) (vs:List V) (Q:VK) (E:XK),za5 k (A.deeper (envOfC qual (zai st) s.heap.objs.size f cdv))->sp vs H Q E ->
   ∃ t,PSs (zfb CX0 P w K mg base N qual (zai st) f cdv A outer s H E).nox (zaz st) t/\t { nx:=fun _ H'=>Q .non H',rt:=Q } (start N vs) H) : zap P w K mg base CX0 (k + 1) f fd ps sp:=by
 obtain ⟨oc,od,kV,doc,pm,an,cdv,ct,osl,rfl,lk,hcd⟩:=F.ex;refine zyt lk hcd S len fun A outer s H vs Q E hr hsp=>?_;obtain ⟨t,h,q⟩:=hbody cdv A outer s H vs Q E hr hsp;exact ⟨t,h.nox,q⟩
theorem Fun.binds {x qual:Str} {st:Stmt} {f:Addr} {fd:FuncData} {ps:List Str} (F:Fun K x qual st f fd)
  (h:∀ (kV doc pm:Value) (an:Option Addr) (cdv ct:Value) (us:List Value),us.length=ps.length->bindArgs (PySem.W.fnOf x qual (za4 st) (zaz st) (zai st) .none kV doc pm an cdv ct) ⟨us,[]⟩=pure (ps.zip us)) : zav K fd ps []:=by
 obtain ⟨oc,od,kV,doc,pm,an,cdv,ct,osl,rfl,lk,hcd⟩:=F.ex;exact .all (h kV doc pm an cdv ct)
theorem za8 {x qual:Str} {st:Stmt} {f:Addr} {oc:Value} {od an:Option Addr} {osl:Array (Option Value)} {kV doc pm cdv ct:Value} (l:K.lookup f=some ⟨oc,od,.func (PySem.W.fnOf x qual (za4 st) (zaz st) (zai st) .none kV doc pm an cdv ct),osl⟩)
  (c:PySem.W.codeIn K cdv qual=true) (k:PySem.W.keepIn K (.ref f)=true) : Fun K x qual st f (PySem.W.fnOf x qual (za4 st) (zaz st) (zai st) .none kV doc pm an cdv ct):=⟨⟨oc,od,kV,doc,pm,an,cdv,ct,osl,rfl,l,c⟩,k⟩
end
theorem zpi {n:Nat} (h:n<=1000) : n < sizeLine:=Nat.lt_of_le_of_lt h (by decide)
section
variable {X:Cx}
theorem pv (i:Nat) {x:Str} {pos:Pos} (hN:X.N[i]?=some x:=by rfl) (hv:Vis X.env.scope x:=by first | exact Or.inl rfl | exact Or.inr (Or.inl rfl) | exact Or.inr (Or.inr rfl)) (hd:(x==("__debug__" : Str))=false:=by decide)
  (hcd:(x==("__classdict__" : Str))=false:=by decide) : PE X (.Name x pos) (zdg i):=zif hN hv hd hcd
end
theorem zsf {A B:Prop} (h:B) : if false=true then A else B:=by
 rw [if_neg Bool.false_ne_true];exact h
theorem zsg {A B:Prop} (h:A) : if true=true then A else B:=by
 rw [if_pos rfl];exact h
noncomputable def zaf (H H':Hp) : Prop:=∀ b o,H b=some o->H' b=some o
theorem zaf.refl (H:Hp) : zaf H H:=fun _ _ h=>h
theorem zaf.trans {H H1 H2:Hp} (a:zaf H H1) (b:zaf H1 H2) : zaf H H2:=fun c o h=>b c o (a c o h)
theorem zaf.free {H H':Hp} (e:zaf H H') {l:Addr} (h:H' l=Option.none) : H l=Option.none:=by
 cases q : H l with
 | none=>rfl
 | some o =>
  rw [e l o q] at h;cases h
theorem zaf.seq {K:PySem.W.Frag} {H H':Hp} {a:Addr} {xs:List V} (e:zaf H H') (h:SqL K H a xs) : SqL K H' a xs:=by
 rcases h with (h | ⟨o,h⟩) | h
 ·exact .inl (.inl (e _ _ h))
 ·exact .inl (.inr ⟨o,e _ _ h⟩)
 ·exact .inr h
section
variable {κ : Type} [DecidableEq κ]
noncomputable def zb9 (kvs:List (κ×V)) (k:κ) : Option V:=(kvs.find? fun kv=>decide (kv.1=k)).map (·.2)
noncomputable def zcm (kvs:List (κ×V)) (k:κ) (v:V) : List (κ×V) :=
 if (kvs.any fun kv=>decide (kv.1=k))=true then kvs.map (fun kv=>if kv.1=k then (kv.1,v) else kv) else kvs++[(k,v)]
noncomputable def zq9 (kvs:List (κ×V)) (k:κ) : List (κ×V):=kvs.filter fun kv=>decide (kv.1≠k)
theorem zvp {k:κ} : zb9 ([] : List (κ×V)) k=none:=rfl
theorem zmr {p:κ×V} {r:List (κ×V)} {k:κ} (e:p.1=k) : zb9 (p::r) k=some p.2:=by simp [zb9,List.find?_cons,e]
theorem zko {p:κ×V} {r:List (κ×V)} {k:κ} (e:¬ p.1=k) : zb9 (p::r) k=zb9 r k:=by simp [zb9,List.find?_cons,e]
theorem zpo (k:κ) : ∀ kvs : List (κ×V),(kvs.any fun kv=>decide (kv.1=k))=(zb9 kvs k).isSome
 | []=>rfl
 | p::r=>by
  rw [List.any_cons]
  by_cases e : p.1=k
  ·simp only [zmr e,decide_eq_true e,Bool.true_or,Option.isSome_some]
  ·rw [zko e,decide_eq_false e,Bool.false_or]; exact zpo k r
theorem zn8 (kvs:List (κ×V)) (k:κ) (v:V) : (zcm kvs k v).length<=kvs.length + 1:=by
 unfold zcm;split
 ·rw [List.length_map]; omega
 ·rw [List.length_append,List.length_cons,List.length_nil]; omega
theorem zda.isSome_eq {o:Option V} {u:Option Value} (r:zda o u) : o.isSome=u.isSome:=by
 cases o with
 | none=>cases u with
  | none=>rfl
  | some _=>exact (show False from r).elim
 | some _=>cases u with
  | none=>exact (show False from r).elim
  | some _=>rfl
theorem zda.getD {o:Option V} {u:Option Value} {d:V} {d':Value} (r:zda o u) (rd:zaq d d') : zaq (o.getD d) (u.getD d'):=by
 cases o with
 | none=>cases u with
  | none=>exact rd
  | some _=>exact (show False from r).elim
 | some _=>cases u with
  | none=>exact (show False from r).elim
  | some _=>exact r
theorem KV.val {kvs:List (κ×V)} {vs:List (κ×Value)} (r:KV kvs vs) (k:κ) : zda (zb9 kvs k) (valueAt vs k):=by
 unfold KV at r
 induction r with
 | nil=>exact True.intro
 | @cons p q ps qs h t ih =>
  obtain ⟨h1,h2⟩:=h
  by_cases e : p.1=k
  ·have e' : q.1=k:=h1.symm.trans e;have b : valueAt (q::qs) k=some q.2:=by simp [valueAt,List.find?_cons,e']
   rw [zmr e,b]; exact h2
  ·have e' : ¬ q.1=k:=fun z=>e (h1.trans z);have b : valueAt (q::qs) k=valueAt qs k:=by simp [valueAt,List.find?_cons,e']
   rw [zko e,b]; exact ih
theorem KV.any {kvs:List (κ×V)} {vs:List (κ×Value)} (r:KV kvs vs) (k:κ) : (kvs.any fun kv=>decide (kv.1=k))=vs.any fun kv=>decide (kv.1=k):=by
 unfold KV at r
 induction r with
 | nil=>rfl
 | cons h t ih=>rw [List.any_cons,List.any_cons,ih,h.1]
theorem KV.repl {kvs:List (κ×V)} {vs:List (κ×Value)} (r:KV kvs vs) (k:κ) {y:V} {u:Value} (ry:zaq y u) :
  KV (kvs.map fun kv=>if kv.1=k then (kv.1,y) else kv) (vs.map fun kv=>if kv.1=k then (kv.1,u) else kv):=by
 unfold KV at r ⊢
 induction r with
 | nil=>exact .nil
 | @cons p q ps qs h t ih =>
  rw [List.map_cons,List.map_cons];refine .cons ?_ ih;obtain ⟨h1,h2⟩:=h
  by_cases e : p.1=k
  ·rw [if_pos e,if_pos (h1.symm.trans e)]; exact ⟨h1,ry⟩
  ·rw [if_neg e,if_neg (fun z=>e (h1.trans z))]; exact ⟨h1,h2⟩
theorem KV.put {kvs:List (κ×V)} {vs:List (κ×Value)} (r:KV kvs vs) (k:κ) {y:V} {u:Value} (ry:zaq y u) : KV (zcm kvs k y) (stored vs k u):=by
 unfold zcm stored;rw [r.any k]
 by_cases e : (vs.any fun kv=>decide (kv.1=k))=true
 ·rw [if_pos e,if_pos e]; exact r.repl k ry
 ·rw [if_neg e,if_neg e]; exact Paired.snoc r ⟨rfl,ry⟩
theorem KV.drop {kvs:List (κ×V)} {vs:List (κ×Value)} (r:KV kvs vs) (k:κ) : KV (zq9 kvs k) (without vs k):=by
 unfold KV at r ⊢;unfold zq9 without
 induction r with
 | nil=>exact .nil
 | @cons p q ps qs h t ih =>
  obtain ⟨h1,h2⟩:=h;rw [List.filter_cons,List.filter_cons]
  by_cases e : p.1=k
  ·have a : ¬ decide (p.1≠k)=true:=by simp [e]
   have b : ¬ decide (q.1≠k)=true:=by simp [h1.symm.trans e]
   rw [if_neg a,if_neg b]; exact ih
  ·have e' : ¬ q.1=k:=fun z=>e (h1.trans z);have a : decide (p.1≠k)=true:=by simp [e]
   have b : decide (q.1≠k)=true:=by simp [e']
   rw [if_pos a,if_pos b]; exact .cons ⟨h1,h2⟩ ih
theorem KV.length {kvs:List (κ×V)} {vs:List (κ×Value)} (r:KV kvs vs) : kvs.length=vs.length:=Paired.length r
end
theorem zz7 {P:Program} {w:World} {k:Key} {u:Value} (r:zaq (kV k) u) : (zgl P w).is k u=true:=by
 cases k with
 | inl i=>obtain ⟨t,e⟩:=(show ∃ t,u=Value.int i t from r); subst e; exact z1n P w i t
 | inr x=>obtain ⟨t,e⟩:=(show ∃ t,u=Value.str x t from r); subst e; exact z1o P w x t
noncomputable abbrev KT (H:Hp) : List (List Key×V)->List (List Key×Addr×Value)->Prop:=Paired fun p q=>p.1=q.1/\zc4 H q.2.1 p.1/\zaq p.2 q.2.2
theorem KT.val {H:Hp} {kvs:List (List Key×V)} {xs:List (List Key×Addr×Value)} (r:KT H kvs xs) (k:List Key) : zda (zb9 kvs k) ((atKey xs k).map (·.2)):=by
 induction r with
 | nil=>exact True.intro
 | @cons p q ps qs h t ih =>
  obtain ⟨h1,_,h2⟩:=h
  by_cases e : p.1=k
  ·have e' : q.1=k:=h1.symm.trans e;have b : atKey (q::qs) k=some q.2:=by simp [atKey,List.find?_cons,e']
   rw [zmr e,b]; exact h2
  ·have e' : ¬ q.1=k:=fun z=>e (h1.trans z);have b : atKey (q::qs) k=atKey qs k:=by simp [atKey,List.find?_cons,e']
   rw [zko e,b]; exact ih
theorem KT.repl {H:Hp} {kvs:List (List Key×V)} {xs:List (List Key×Addr×Value)} (r:KT H kvs xs) (k:List Key) {y:V} {u:Value} (ry:zaq y u) :
  KT H (kvs.map fun kv=>if kv.1=k then (kv.1,y) else kv) (xs.map (putAt k u)):=by
 induction r with
 | nil=>exact .nil
 | @cons p q ps qs h t ih =>
  rw [List.map_cons,List.map_cons];refine .cons ?_ ih;obtain ⟨h1,h2,h3⟩:=h;unfold putAt
  by_cases e : p.1=k
  ·rw [if_pos e,if_pos (h1.symm.trans e)]; exact ⟨h1,h2,ry⟩
  ·rw [if_neg e,if_neg (fun z=>e (h1.trans z))]; exact ⟨h1,h2,h3⟩
theorem KT.put {H:Hp} {kvs:List (List Key×V)} {xs:List (List Key×Addr×Value)} (r:KT H kvs xs) (k:List Key) {b:Addr} {y:V} {u:Value} (hb:zc4 H b k) (ry:zaq y u) :
  KT H (zcm kvs k y) (storedH xs k b u):=by
 have e : (kvs.any fun kv=>decide (kv.1=k))=(atKey xs k).isSome:=by
  rw [zpo,(r.val k).isSome_eq,Option.isSome_map]
 unfold zcm storedH;rw [e]
 by_cases q : (atKey xs k).isSome=true
 ·rw [if_pos q,if_pos q]; exact r.repl k ry
 ·rw [if_neg q,if_neg q]; exact Paired.snoc r ⟨rfl,hb,ry⟩
theorem KT.keeps {H H':Hp} {kvs:List (List Key×V)} {xs:List (List Key×Addr×Value)} (r:KT H kvs xs) (ht:∀ b ys,H b=some (.tup ys)->H' b=some (.tup ys)) : KT H' kvs xs :=
 Paired.mapP r fun _ _ z=>⟨z.1,z.2.1.up ht,z.2.2⟩
section
variable {P:Program} {w:World} {H:Hp} {h:Heap} {a:Addr}
theorem zuk {u:HO} (ok:HOk P w H h) (e:Rd H a u) : zbv P w H h a u:=e.ok ok
theorem zq5 {kvs:List (Key×V)} (ok:HOk P w H h) (e:Rd H a (.dK kvs)) : kvs.length<=sizeLine/\(a==sysModules)=false/\∃ vs,KV kvs vs/\h.DictOf (zgl P w) a vs :=
 show zbv P w H h a (.dK kvs) from zuk ok e
theorem zx1 {kvs:List (Key×V)} (ok:HOk P w H h) (e:H a=some (.dK kvs)) : kvs.length<=sizeLine/\(a==sysModules)=false/\∃ vs,KV kvs vs/\h.DictOf (zgl P w) a vs:=zq5 ok (.inl e)
theorem zn5 {ks:List Key} (ok:HOk P w H h) (e:zc4 H a ks) : (tupleKind (zgk P w)).is h ks a:=by
 obtain ⟨vs,e,kr⟩:=e;obtain ⟨_,its,r,o,h1,h2,n,h3⟩:=(show zbv P w H h a (.tup vs) from ok a _ e);exact ⟨o,its.toArray,n,h1,h2,h3,by simpa using zsh kr r⟩
theorem zrf {kvs:List (List Key×V)} (ok:HOk P w H h) (e:Rd H a (.dT kvs)) : kvs.length<=sizeLine/\(a==sysModules)=false /\
  ∃ xs,KT H kvs xs/\h.DictOfH (tupleKind (zgk P w)) a xs:=by
 obtain ⟨z,y,xs,r,o,es,ep,h1,h2,h3,h4,h5⟩:=(show zbv P w H h a (.dT kvs) from zuk ok e);refine ⟨z,y,xs,r,o,es,ep,h1,h2,h3,h4,fun x hx=>?_,h5⟩
 have all : ∀ {l:List (List Key×V)} {m:List (List Key×Addr×Value)},KT H l m->∀ x∈m,(tupleKind (zgk P w)).is h x.1 x.2.1:=by
  intro l m q
  induction q with
  | nil=>intro x hx; exact nomatch hx
  | @cons p q ps qs hq t ih =>
   intro x hx
   rcases List.mem_cons.mp hx with e | hx
   ·subst e;exact zn5 ok (by rw [<- hq.1]; exact hq.2.1)
   ·exact ih x hx
 exact all r x hx
theorem zre {kvs:List (List Key×V)} (ok:HOk P w H h) (e:H a=some (.dT kvs)) : kvs.length<=sizeLine/\(a==sysModules)=false /\
  ∃ xs,KT H kvs xs/\h.DictOfH (tupleKind (zgk P w)) a xs:=zrf ok (.inl e)
end
noncomputable def zkr (H:Hp) (a:Addr) (y:V) (r:Option V) : Prop :=
 (∃ kvs k,Rd H a (.dK kvs)/\y=kV k/\r=zb9 kvs k)\/∃ kvs k b,Rd H a (.dT kvs)/\y=.ref b/\zc4 H b k/\r=zb9 kvs k
noncomputable def zgy (H:Hp) (a:Addr) (y v:V) (H':Hp) : Prop :=
 (∃ kvs k,H a=some (.dK kvs)/\y=kV k/\kvs.length < sizeLine/\H'=upd H a (.dK (zcm kvs k v))) \/
 ∃ kvs k b,H a=some (.dT kvs)/\y=.ref b/\zc4 H b k/\kvs.length < sizeLine/\H'=upd H a (.dT (zcm kvs k v))
theorem zkr.k {H:Hp} {a:Addr} {kvs:List (Key×V)} {k:Key} (e:H a=some (.dK kvs)) : zkr H a (kV k) (zb9 kvs k):=.inl ⟨kvs,k,.inl e,rfl,rfl⟩
theorem zkr.t {H:Hp} {a b:Addr} {kvs:List (List Key×V)} {k:List Key} (e:H a=some (.dT kvs)) (eb:zc4 H b k) : zkr H a (.ref b) (zb9 kvs k):=.inr ⟨kvs,k,b,.inl e,rfl,eb,rfl⟩
theorem zgy.k {H:Hp} {a:Addr} {kvs:List (Key×V)} {k:Key} {v:V} (e:H a=some (.dK kvs)) (hl:kvs.length < sizeLine) : zgy H a (kV k) v (upd H a (.dK (zcm kvs k v))):=.inl ⟨kvs,k,e,rfl,hl,rfl⟩
theorem zgy.t {H:Hp} {a b:Addr} {kvs:List (List Key×V)} {k:List Key} {v:V} (e:H a=some (.dT kvs)) (eb:zc4 H b k) (hl:kvs.length < sizeLine) :
  zgy H a (.ref b) v (upd H a (.dT (zcm kvs k v))):=.inr ⟨kvs,k,b,e,rfl,eb,hl,rfl⟩
section
variable {X:Cx} {pins:List (Addr×Obj)} {σ:St} {H:Hp} {s:Shared} {a:Addr} {y v:V} {u r:Value} {o:Option V} {A:Around} {E:Value->Shared->Prop}
theorem Inv.big (I:Inv X pins σ H s) : sysModules < s.heap.objs.size:=by
 have h : mainGlobals < s.heap.objs.size:=(I.mod.glob.keeps I.bk).lt;exact Nat.lt_trans (by decide) h
theorem zne {h':Heap} {t':Nat} {ob:HO} (I:Inv X pins σ H s) (mu:Mut (H a)) (hs:Heap.SameBut a s.heap h') (he:∃ q,h'.get? a=some q) (new:zbv X.prog X.w (upd H a ob) h' a ob) :
  Inv X pins σ (upd H a ob) { s with heap:=h',toks:=t' } :=
 I.write (x:=a) (e:=a) mu (.inl rfl) (fun b q hb z=>(hs.2 b hb).trans z) he new
theorem zx0 {P:Program} {w:World} {H':Hp} {h':Heap} {kvs:List (Key×V)} {vs:List (Key×Value)} (z:kvs.length<=sizeLine) (hd:(a==sysModules)=false) (rel:KV kvs vs) (dd:h'.DictOf (zgl P w) a vs) :
  zbv P w H' h' a (.dK kvs):=⟨z,hd,vs,rel,dd⟩
theorem zxl {H':Hp} {Q:Unit->Shared->Prop} (hu:A.units + 1 < cLine) (I:Inv X pins σ H s) (g:zgy H a y v H') (ry:zaq y u) (rv:zaq v r) (h:∀ s',Inv X pins σ H' s'->Q () s') :
  wpAny (model X.prog X.w) A (setItem (.ref a) u r) Q E s:=by
 rcases g with ⟨kvs,k,e,ey,l,eH⟩ | ⟨kvs,k,b,e,ey,eb,l,eH⟩
 ·subst ey eH;obtain ⟨z,hd,vs,rel,dd⟩:=zx1 I.hok e;have hz : vs.length<=sizeLine:=by rw [<- rel.length]; exact z
  have hl : (zcm kvs k v).length<=sizeLine:=by have:=zn8 kvs k v; omega
  refine wpAny_setItem_pairs (hsz:=hz) (zz7 ry) dd fun h' dd' hs=>h _ ?_;have he : ∃ q,h'.get? a=some q:=let ⟨q,_,_,hq,_⟩:=dd'; ⟨q,hq⟩;exact zne I (by rw [e]; exact True.intro) hs he (zx0 hl hd (rel.put k rv) dd')
 ·subst ey eH;cases (show u=Value.ref b from ry);obtain ⟨z,hd,xs,rel,dd⟩:=zre I.hok e;have hz : xs.length<=sizeLine:=by rw [<- Paired.length rel]; exact z
  have hl : (zcm kvs k v).length<=sizeLine:=by have:=zn8 kvs k v; omega
  refine wpAny_setItem_heap (hsz:=hz) (tupleKind_room_in1 hu) (zn5 I.hok eb) dd fun h' dd' hs=>h _ ?_;obtain ⟨q,es,ep,hq,h2,h3,h4,_,h5⟩:=dd';refine zne I (by rw [e]; exact True.intro) hs ⟨q,hq⟩ ⟨hl,hd,_,(rel.put k eb rv).keeps fun c ys ec=>?_,q,es,ep,hq,h2,h3,h4,h5⟩;rw [zar (zov ec e (fun z=>nomatch z))];exact ec
end
section
variable {X:Cx} {pins:List (Addr×Obj)} {σ:St} {H:Hp} {s:Shared} {a:Addr} {kvs:List (Key×V)} {k:Key} {u:Value} {A:Around} {E:Value->Shared->Prop}
end
noncomputable def zuq (td ty tv:TE) : TS:=fun D σ H=>tv σ H fun v H1=>td σ H1 fun x H2=>ty σ H2 fun y H3=>∃ a H4,x=.ref a/\zgy H3 a y v H4/\D.nx σ H4
section
variable {X:Cx} {o i e value:Expr} {pos pos' tpos:Pos} {td ty tv:TE}
theorem z4u (hu:X.A.units + 1 < cLine) (ho:PE X o td) (hi:PE X i ty) (hv:PE X value tv) (hs:swapsWith value (some (.Subscript o i pos')) pos.line X.env=pure false) :
  PS X (.Assign [.Subscript o i pos'] value pos) (zuq td ty tv):=by
 intro pins s σ H D I h;refine wpAny_Assign_Subscript (thn (hv pins s σ H _ I h) fun r s1 ⟨v,H1,I1,rv,q1⟩=>thn (ho pins s1 σ H1 _ I1 q1) fun u s2 ⟨x,H2,I2,rx,q2⟩=>thn (hi pins s2 σ H2 _ I2 q2) fun iv s3 ⟨y,H3,I3,ry,a,H4,ex,g,q3⟩=>?_) hs;subst ex;obtain rfl : u=Value.ref a:=rx;exact zxl hu I3 g ry rv fun s4 I4=>⟨σ,H4,I4,q3⟩
end
theorem zye {P:Program} {w:World} {H:Hp} (h:Heap) (hb:sysModules < h.objs.size) : zbv P w H (h.push { cls:=.type "dict",data:=.dict #[] }) h.objs.size (.dT []) :=
 ⟨Nat.zero_le _,beq_eq_false_iff_ne.mpr (Ne.symm (Nat.ne_of_lt hb)),[],.nil,_,#[],0,Heap.get?_push_size _ rfl,⟨rfl,rfl,rfl⟩,rfl,rfl,List.nodup_nil⟩
noncomputable def z68 : TE:=fun _ H Q=>∀ p,H p=none->Q (.ref p) (upd H p (.dT []))
section
variable {X:Cx} {pos:Pos}
theorem z30 : PE X (.Dict [] [] pos) z68:=fun pins s σ H Q I h =>
 wpAny_Dict_empty ⟨.ref s.heap.objs.size,_,I.laid (a:=s.heap.objs.size) (o:=.dT []) (t':=s.toks) (fun _ _ q=>Heap.get?_push_of_some _ q) (Nat.le_refl _) (zye s.heap I.big),rfl,h _ (I.hok.fresh (Nat.le_refl _))⟩
end
structure M2 (X:Cx) (o:Expr) (m:Str) (apos:Pos) (e f:Expr) (cpos:Pos) : Prop where
 base : attributeBase o m X.env (eval o X.env)=eval o X.env
 few : ((backTo cpos (starEach [e,f] X.env)).all (fun x=>!x.1) && (backToKw cpos (keywordEach [] X.env)).all (fun x=>x.1.isSome)
  && decide (([e,f] : List Expr).length + ([] : List Keyword).length + (if ([] : List Keyword).isEmpty then 0 else 1) < 30))=true
 line : (apos.endLine==cpos.line)=true
 trees : backTo cpos (starEach [e,f] X.env)=[(false,eval e X.env),(false,eval f X.env)]
noncomputable def IsD (H:Hp) (a:Addr) : Prop:=(∃ kvs,Rd H a (.dK kvs))\/∃ kvs,Rd H a (.dT kvs)
theorem zzq {X:Cx} {pins:List (Addr×Obj)} {σ:St} {H:Hp} {s:Shared} {a:Addr} (I:Inv X pins σ H s) (d:IsD H a) :
  s.TypeIs (.ref a) "dict" /\ (∀ b,Value.ref a=.ref b->∃ ob,s.heap.get? b=some ob/\ob.dict=none)/\(a==sysModules)=false:=by
 rcases d with ⟨kvs,e⟩ | ⟨kvs,e⟩
 ·obtain ⟨_,hd,vs,_,dd⟩:=zq5 I.hok e;refine ⟨dd.typeIs,fun b q=>?_,hd⟩;cases q;obtain ⟨ob,_,_,h1,h2,_⟩:=dd;exact ⟨ob,h1,h2.2.1⟩
 ·obtain ⟨_,hd,xs,_,dd⟩:=zrf I.hok e;refine ⟨dd.typeIs,fun b q=>?_,hd⟩;cases q;obtain ⟨ob,_,_,h1,h2,_⟩:=dd;exact ⟨ob,h1,h2.2.1⟩
section
variable {X:Cx} {pins:List (Addr×Obj)} {σ:St} {H:Hp} {s:Shared} {a:Addr} {y d:V} {u r:Value} {o:Option V} {A:Around} {E:Value->Shared->Prop}
end
section
variable {X:Cx} {o e f:Expr} {apos cpos:Pos} {td ty tx:TE}
end
section
variable {X:Cx} {pins:List (Addr×Obj)} {σ:St} {H:Hp} {s:Shared} {a:Addr} {kvs:List (Key×V)} {A:Around} {E:Value->Shared->Prop}
end
section
variable {X:Cx} {pins:List (Addr×Obj)} {σ:St} {H:Hp} {s:Shared} {a:Addr} {y:V} {u:Value} {A:Around} {E:Value->Shared->Prop}
end
section
variable {κ : Type} [DecidableEq κ]
end
end L2
set_option maxHeartbeats 4000000
namespace L2
open PySem
theorem zns {env:Env} (f:(Str×NameKind)->List (Str×Addr)->Sem (ForInStep (List (Str×Addr))))
  (h1:∀ n k r,k≠NameKind.free->f (n,k) r=pure (.yield r))
  (h2:∀ n r c,env.cells.lookup n=some c->f (n,.free) r=pure (.yield ((n,c)::r))) :
  ∀ (l:List (Str×NameKind)) (acc:List (Str×Addr)),(∀ x∈l,x.2=.free->∃ c,env.cells.lookup x.1=some c) ->
   (∀ x c,acc.lookup x=some c->env.cells.lookup x=some c) ->
   ∃ cl,forIn l acc f=(pure cl:Sem _)/\(∀ x c,cl.lookup x=some c->env.cells.lookup x=some c) /\
    (∀ x,((∃ c,acc.lookup x=some c)\/(x,NameKind.free)∈l)->∃ c,cl.lookup x=some c)
 | [],acc,_,ha=>⟨acc,rfl,ha,fun x hx=>hx.elim id (fun z=>nomatch z)⟩
 | (n,k)::l,acc,hl,ha=>by
  have hl' : ∀ x∈l,x.2=.free->∃ c,env.cells.lookup x.1=some c:=fun x hx=>hl x (List.mem_cons_of_mem _ hx)
  by_cases hk : k=.free
  ·subst hk;obtain ⟨c,hc⟩:=hl (n,.free) List.mem_cons_self rfl;have hc' : env.cells.lookup n=some c:=hc
   have ha' : ∀ x c',((n,c)::acc).lookup x=some c'->env.cells.lookup x=some c':=fun x c' hx=>by
    rw [List.lookup_cons] at hx
    cases e : x==n with
    | true =>
     rw [e] at hx;cases hx
     rw [eq_of_beq e]; exact hc'
    | false =>
     rw [e] at hx;exact ha x c' hx
   obtain ⟨cl,e,a1,a2⟩:=zns f h1 h2 l ((n,c)::acc) hl' ha';refine ⟨cl,?_,a1,fun x hx=>a2 x ?_⟩
   ·rw [List.forIn_cons,h2 n acc c hc',pure_bind];exact e
   ·have here : ∀ c',acc.lookup x=some c'->∃ c'',((n,c)::acc).lookup x=some c'':=fun c' z=>by
     rw [List.lookup_cons]
     cases e : x==n with
     | true=>exact ⟨c,rfl⟩
     | false=>exact ⟨c',z⟩
    rcases hx with ⟨c',z⟩ | hx
    ·exact .inl (here c' z)
    ·rcases List.mem_cons.mp hx with z | z
     ·cases z;refine .inl ⟨c,?_⟩;rw [List.lookup_cons,beq_self_eq_true]
     ·exact .inr z
  ·obtain ⟨cl,e,a1,a2⟩:=zns f h1 h2 l acc hl' ha;refine ⟨cl,?_,a1,fun x hx=>a2 x ?_⟩
   ·rw [List.forIn_cons,h1 n k acc hk,pure_bind];exact e
   ·rcases hx with hx | hx
    ·exact .inl hx
    ·rcases List.mem_cons.mp hx with z | z
     ·cases z; exact absurd rfl hk
     ·exact .inr z
theorem zqi {scope:Scope} {env:Env} (h:∀ x∈scope.names,x.2=.free->∃ c,env.cells.lookup x.1=some c) :
  ∃ cl,closureFor scope env=pure cl/\(∀ x c,cl.lookup x=some c->env.cells.lookup x=some c)/\(∀ x,(x,NameKind.free)∈scope.names->∃ c,cl.lookup x=some c):=by
 unfold closureFor
 obtain ⟨cl,e,a1,a2⟩:=zns (env:=env) (fun (x:Str×NameKind) (r:List (Str×Addr))=>(match x with
   | (name,kind)=>if (kind==NameKind.free)=true then (do let a <- cellOf env name; pure (ForInStep.yield ((name,a)::r))) else (pure (ForInStep.yield r) : Sem _)))
  (fun n k r hk=>by
   have : (k==NameKind.free)=false:=by simpa using hk
   simp only [this,Bool.false_eq_true,if_false])
  (fun n r c hc=>by
   simp only [beq_self_eq_true,if_true,cellOf,hc,pure_bind])
  scope.names [] h (fun x c z=>by cases z)
 refine ⟨cl,?_,a1,fun x hx=>a2 x (.inr hx)⟩;refine (congrArg (fun (t:Sem (List (Str×Addr)))=>t >>= pure) ?_).trans ((congrArg (fun (t:Sem (List (Str×Addr)))=>t >>= pure) e).trans (pure_bind _ _));rfl
section
variable {prog:Program} {w:World} {A:Around} {R:Result->Shared->Prop} {s:Shared}
noncomputable abbrev E00 : Value->Shared->Prop:=fun _ _=>False
end
section
variable {prog:Program} {w:World} {A:Around} {R:Result->Shared->Prop} {s:Shared}
theorem zwv {elt target iter:Expr} {ifs:List Expr} {scope:Scope} {pos:Pos} {it acc:Value} {env:Env} (I:Nat->Shared->Prop)
  (turn:∀ n s,I n s->wpAny (model prog w) A (pyNext it) (fun r s₁=>match r with
   | none=>R (.ok .next) s₁
   | some v=>wpAny (model prog w) A (letOwnedTupleGo target it v) (fun _ s₁'=>wpAny (model prog w) A (assign target env v) (fun _ s₂ =>
     wpAny (model prog w) A (forIn ifs true fun c r=>if r=true then do let ok <- isTrue c env (eval c env); pure (ForInStep.yield ok) else pure (ForInStep.yield r)) (fun ok s₃ =>
      if ok=true then wpAny (model prog w) A (eval elt env) (fun x s₄ =>
       wpAny (model prog w) A (call (.builtin "list.append") [acc,x]) (fun _ s₅=>∃ m,m < n/\I m s₅) (notedBy (model prog w) A env fun x s'=>R (.error x) s') s₄) (notedBy (model prog w) A env fun x s'=>R (.error x) s') s₃
      else ∃ m,m < n/\I m s₃) (notedBy (model prog w) A env fun x s'=>R (.error x) s') s₂) (notedBy (model prog w) A env fun x s'=>R (.error x) s') s₁') (notedBy (model prog w) A env fun x s'=>R (.error x) s') s₁) (notedBy (model prog w) A env fun x s'=>R (.error x) s') s)
  (n:Nat) (h:I n s) :
  codeAny (model prog w) A (.compLoop (.ListComp elt [⟨target,iter,ifs,0⟩] scope pos) 0 it acc env) R s:=by
 refine codeAny_loop rfl I (fun n s hI=>?_) n h;show wpAny _ A ((compTurn (.ListComp elt [⟨target,iter,ifs,0⟩] scope pos) 0 it acc env).onRaise (fun x=>do noteFrame x env; theTreesLotGoes x)) _ _ s;refine wpAny_noted ?_;rw [compTurn_list];refine wpAny_bind (wpAny_standAt (wpAny_bind (wpAny_mono (turn n s hI) (fun r s₁ h₁=>?_) fun _ _ h'=>h')))
 cases r with
 | none=>exact wpAny_pure h₁
 | some v =>
  refine wpAny_bind (wpAny_mono h₁ (fun _ s₁' h₁'=>?_) fun _ _ h'=>h');refine wpAny_bind (wpAny_mono h₁' (fun _ s₂ h₂=>wpAny_bind (wpAny_mono h₂ (fun ok s₃ h₃=>?_) fun _ _ h'=>h')) fun _ _ h'=>h')
  cases ok with
  | false=>exact wpAny_pure ⟨rfl,h₃⟩
  | true =>
   exact wpAny_bind (wpAny_bind (wpAny_mono h₃ (fun x s₄ h₄=>wpAny_bind (wpAny_mono h₄ (fun _ s₅ h₅=>wpAny_pure (wpAny_pure ⟨rfl,h₅⟩)) fun _ _ h'=>h')) fun _ _ h'=>h'))
end
open PySem.Spec PyProof.Rows
noncomputable abbrev Cx.comp (X:Cx) (scope:Scope) (Nc:List Str) (cl:List (Str×Addr)) (C:Addr) (ex:List Addr) (s₂:Shared) (H₂:Hp) : Cx :=
 { X with N:=Nc,s₀:=s₂,H₀:=H₂,env:=compEnvC scope cl C X.env,outer:=X.stack,ex:=ex,fn:=fun _=>false,pn:=[],xe:=E00 }
theorem zo7 {env:Env} : ∀ {names:List (Str×NameKind)} {x:Str},names.lookup x=some .free ->
  (names.map fun (n,k)=>if (k==NameKind.free && env.scope.kind==.function && env.kindOf n==some .cell) then (n,NameKind.cell) else (n,k)).lookup x=some .cell \/
  (names.map fun (n,k)=>if (k==NameKind.free && env.scope.kind==.function && env.kindOf n==some .cell) then (n,NameKind.cell) else (n,k)).lookup x=some .free
 | [],_,h=>by simp at h
 | (n,k)::r,x,h=>by
  have ih:=@zo7 env r x;rw [List.map_cons];show List.lookup x ((if (k==NameKind.free && env.scope.kind==.function && env.kindOf n==some .cell)=true then (n,NameKind.cell) else (n,k))::_)=_\/List.lookup x ((if (k==NameKind.free && env.scope.kind==.function && env.kindOf n==some .cell)=true then (n,NameKind.cell) else (n,k))::_)=_;rw [List.lookup_cons] at h
  cases hx : x==n with
  | true =>
   rw [hx] at h;cases h;split
   ·left; rw [List.lookup_cons,hx]
   ·right; rw [List.lookup_cons,hx]
  | false =>
   rw [hx] at h;split
   ·rw [List.lookup_cons,hx]; exact ih h
   ·rw [List.lookup_cons,hx]; exact ih h
theorem zo1 {env:Env} {k':NameKind} (hk':k'=.cell\/k'=.free) : ∀ {names:List (Str×NameKind)} {x:Str},
  (names.map fun (n,k)=>if (k==NameKind.free && env.scope.kind==.function && env.kindOf n==some .cell) then (n,NameKind.cell) else (n,k)).lookup x=some k' ->
  (x,NameKind.free)∈names\/(x,NameKind.cell)∈names
 | [],_,h=>by simp at h
 | (n,k)::r,x,h=>by
  have ih:=@zo1 env k' hk' r x;rw [List.map_cons] at h;have h' : List.lookup x ((if (k==NameKind.free && env.scope.kind==.function && env.kindOf n==some .cell)=true then (n,NameKind.cell) else (n,k))::(r.map fun (n,k)=>if (k==NameKind.free && env.scope.kind==.function && env.kindOf n==some .cell) then (n,NameKind.cell) else (n,k)))=some k':=h
  cases hx : x==n with
  | true =>
   have e:=eq_of_beq hx;subst e;split at h'
   ·rename_i hc
    have hk : k=.free:=by
     rw [Bool.and_eq_true,Bool.and_eq_true] at hc;exact eq_of_beq hc.1.1
    subst hk;exact .inl List.mem_cons_self
   ·rw [List.lookup_cons,hx] at h';have e : k=k':=Option.some.inj h';subst e
    rcases hk' with z | z
    ·subst z; exact .inr List.mem_cons_self
    ·subst z; exact .inl List.mem_cons_self
  | false =>
   have h2 : (r.map fun (n,k)=>if (k==NameKind.free && env.scope.kind==.function && env.kindOf n==some .cell) then (n,NameKind.cell) else (n,k)).lookup x=some k':=by
    split at h' <;> (rw [List.lookup_cons,hx] at h'; exact h')
   rcases ih h2 with z | z
   ·exact .inl (List.mem_cons_of_mem _ z)
   ·exact .inr (List.mem_cons_of_mem _ z)
noncomputable def zg6 (scope:Scope) (outer:List (Str×NameKind)) (N Nc:List Str) (k:Nat) (js:List Nat) : Bool :=
 scope.names.all (fun x=>(x.2 != .free || outer.lookup x.1==some .cell || outer.lookup x.1==some .free) && x.2 != .cell && (x.2 != .local || scope.names.lookup x.1==some .local)) &&
 scope.kind==.function && Nc.length==k + js.length &&
 (List.range js.length).all (fun i=>match Nc[k + i]?,js[i]? with
  | some x,some j=>N[j]?==some x && scope.names.lookup x==some .free
  | _,_=>false)
structure zht (scope:Scope) (outer:List (Str×NameKind)) (N Nc:List Str) (k:Nat) (js:List Nat) : Prop where
 free : ∀ x∈scope.names,x.2=.free->outer.lookup x.1=some .cell\/outer.lookup x.1=some .free
 nocell : ∀ x∈scope.names,x.2≠.cell
 loc : ∀ x∈scope.names,x.2=.local->scope.names.lookup x.1=some .local
 kind : scope.kind=.function
 len : Nc.length=k + js.length
 at' : ∀ i j,js[i]?=some j->∃ x,Nc[k + i]?=some x/\N[j]?=some x/\scope.names.lookup x=some .free
theorem zht.of {scope:Scope} {outer:List (Str×NameKind)} {N Nc:List Str} {k:Nat} {js:List Nat} (h:zg6 scope outer N Nc k js=true) : zht scope outer N Nc k js:=by
 unfold zg6 at h;rw [Bool.and_eq_true,Bool.and_eq_true,Bool.and_eq_true] at h;obtain ⟨⟨⟨h1,h2⟩,h3⟩,h4⟩:=h;rw [List.all_eq_true] at h1 h4;refine ⟨fun x hx e=>?_,fun x hx e=>?_,fun x hx e=>?_,eq_of_beq h2,eq_of_beq h3,fun i j e=>?_⟩
 ·have:=h1 x hx;simp only [Bool.and_eq_true,Bool.or_eq_true,bne_iff_ne,beq_iff_eq] at this
  rcases this.1.1 with (z | z) | z
  ·exact absurd e z
  ·exact .inl z
  ·exact .inr z
 ·have:=h1 x hx;simp only [Bool.and_eq_true,Bool.or_eq_true,bne_iff_ne,beq_iff_eq] at this;exact this.1.2 e
 ·have:=h1 x hx;simp only [Bool.and_eq_true,Bool.or_eq_true,bne_iff_ne,beq_iff_eq] at this
  rcases this.2 with z | z
  ·exact absurd e z
  ·exact z
 ·have hi : i < js.length:=(List.getElem?_eq_some_iff.mp e).1;have:=h4 i (List.mem_range.mpr hi);rw [e] at this
  cases q : Nc[k + i]? with
  | none=>rw [q] at this; cases this
  | some x =>
   rw [q] at this;simp only [Bool.and_eq_true,beq_iff_eq] at this;exact ⟨x,rfl,this.1,this.2⟩
noncomputable def zeo (k:Nat) (js:List Nat) (σ:St) : St:=List.replicate k none++js.map fun j=>(σ[j]?).getD none
noncomputable def PTs (X:Cx) (ifs:List Expr) (t:TT) : Prop :=
 ∀ (pins:List (Addr×Obj)) (s:Shared) (σ:St) (H:Hp) (Q:Bool->Hp->Prop),Inv X pins σ H s->t σ H Q ->
  wpAny (model X.prog X.w) X.A (forIn ifs true fun c r=>if r=true then do let ok <- isTrue c X.env (eval c X.env); pure (ForInStep.yield ok) else pure (ForInStep.yield r)) (TP X pins σ Q) X.xe s
noncomputable def z7p : TT:=fun _ H Q=>Q true H
theorem z43 {X:Cx} : PTs X [] z7p:=fun _ _ _ H _ I h=>wpAny_tests_nil ⟨H,I,h⟩
theorem z44 {X:Cx} {c:Expr} {t:TT} (h:PT X c t) : PTs X [c] t:=fun pins s σ H Q I q=>wpAny_tests_one (h pins s σ H Q I q)
noncomputable def zm7 (J:It) (g:TG) (tt:TT) (te:TE) (σ0:St) (H1:Hp) (Q:VK) : Prop :=
 ∃ W : Nat->Nat->List V->St->Hp->Prop,(∃ m,W 0 m [] σ0 H1)/\∀ i m ys σ' H',W i m ys σ' H' ->
  (J.stop i H'/\ys.length<=sizeLine/\∀ D,H1 D=none->H' D=none->Q (.ref D) (upd H' D (.lst ys))) \/
  (J.go i H'/\ys.length<=sizeLine/\∃ N : List V->St->Hp->Prop,(∀ ys' σ2 H2,N ys' σ2 H2->∃ m',m' < m/\W (i + 1) m' ys' σ2 H2) /\
   ∀ x H2,J.yld i H' x H2->g x σ' H2 fun σ3 H3=>tt σ3 H3 fun b H4=>if b=true then te σ3 H4 fun y H5=>N (ys++[y]) σ3 H5 else N ys σ3 H4)
noncomputable def zpk (k:Nat) (js:List Nat) (wi:TI) (g:TG) (tt:TT) (te:TE) : TE:=fun σ H Q=>wi σ H fun J H1=>zm7 J g tt te (zeo k js σ) H1 Q
noncomputable abbrev Cx.to (X:Cx) (pn:List (Addr×Obj)) (xe:Value->Shared->Prop) : Cx:={ X with pn:=pn,xe:=xe }
theorem zsa {Y:Cx} {xe:Value->Shared->Prop} {pins:List (Addr×Obj)} {σ:St} {H:Hp} {s:Shared} (I:Inv Y pins σ H s) : Inv { Y with xe:=xe } pins σ H s :=
 ⟨⟨I.ok.mod,I.ok.kind,I.ok.glob,I.ok.blt,I.ok.above,I.ok.inj,I.ok.has,I.ok.cab,I.ok.hd,I.ok.frames,I.ok.stk,I.ok.exf,I.ok.bs,I.ok.bsz,I.ok.noex,I.ok.exfs,I.ok.funs,I.ok.frf⟩,I.os,I.bare,I.base,I.loc,I.cell,I.free,I.freeC,I.pin,I.hok,I.len⟩
theorem zr9 {Y:Cx} {xe:Value->Shared->Prop} {pins:List (Addr×Obj)} {σ:St} {H:Hp} {s:Shared} (I:Inv { Y with xe:=xe } pins σ H s) : Inv Y pins σ H s :=
 ⟨⟨I.ok.mod,I.ok.kind,I.ok.glob,I.ok.blt,I.ok.above,I.ok.inj,I.ok.has,I.ok.cab,I.ok.hd,I.ok.frames,I.ok.stk,I.ok.exf,I.ok.bs,I.ok.bsz,I.ok.noex,I.ok.exfs,I.ok.funs,I.ok.frf⟩,I.os,I.bare,I.base,I.loc,I.cell,I.free,I.freeC,I.pin,I.hok,I.len⟩
theorem PE.to0 {Y:Cx} {e:Expr} {t:TE} {xe:Value->Shared->Prop} (h:PE { Y with pn:=[],xe:=E00 } e t) : PE { Y with pn:=[],xe:=xe } e t:=fun pins s σ H Q I q =>
 wpAny_mono (h pins s σ H Q (zr9 (xe:=xe) I) q) (fun u s' ⟨v,H',I',r,q'⟩=>⟨v,H',zsa (xe:=xe) I',r,q'⟩) fun _ _ z=>z.elim
section
variable {X:Cx} {elt tg iter:Expr} {ifs:List Expr} {scope:Scope} {pos:Pos} {Nc:List Str} {k:Nat} {js:List Nat} {wi:TI} {g:TG} {tt:TT} {te:TE}
noncomputable abbrev zet (us:List Value) (n:Nat) : Obj:={ cls:=.type "list",data:=.seq us.toArray n }
theorem zwy {PX:Cx->Prop} {pins:List (Addr×Obj)} {σ:St} {H2:Hp} {s2:Shared} {it:Addr} {fp:List Addr} {tn:Nat->Heap->Prop} {J:It} {cl:List (Str×Addr)} {Q:VK} {RR:Value->Addr->Result->Shared->Prop} {E:Value->Shared->Prop}
  (hc:X.calm=true) (ck:zht scope X.env.scope.names X.N Nc k js)
  (hg:∀ cl C ex s₂ H₂,PG (X.comp scope Nc cl C ex s₂ H₂) tg g) (ht:∀ cl C ex s₂ H₂,PTs (X.comp scope Nc cl C ex s₂ H₂) ifs tt) (he:∀ cl C ex s₂ H₂ xe,PX ((X.comp scope Nc cl C ex s₂ H₂).to [] xe)->PE ((X.comp scope Nc cl C ex s₂ H₂).to [] xe) elt te)
  (a1:∀ x c,cl.lookup x=some c->X.env.cells.lookup x=some c) (a2:∀ x,(x,NameKind.free)∈scope.names->∃ c,cl.lookup x=some c)
  (I2:Inv X pins σ H2 s2) (T:zg1 X.prog X.w X.K tg J fp it tn) (st2:tn 0 s2.heap) (f2:∀ b∈fp,zdx X pins H2 b) (hW:zm7 J g tt te (zeo k js σ) H2 Q)
  (hRR:∀ (D C:Addr) (s':Shared) (H':Hp),Inv X pins σ H' s'->(∃ m,s'.heap.Ns C m)->zdx X pins H' C->Q (.ref D) H'->RR (.ref D) C (.ok .next) s')
  (hPX:∀ D C,s2.heap.objs.size=D->D < C->(∀ b∈frs X.stack,b < D)->PX ((X.comp scope Nc cl C fp s2 H2).to [] (notedBy (model X.prog X.w) X.A (compEnvC scope cl C X.env) fun x s'=>RR (.ref D) C (.error x) s'))) :
  wpAny (model X.prog X.w) X.A (newList []) (fun acc s₃=>wpAny (model X.prog X.w) X.A (newFunctionEnv scope X.env.globals cl [] X.env.qual none .none (some X.env)) (fun cenv s₄ =>
   codeAny (model X.prog X.w) X.A (.compStart (.ListComp elt [⟨tg,iter,ifs,0⟩] scope pos) 0 (.ref it) acc { cenv with scope:=relabel scope X.env }) (RR acc cenv.locals) s₄) E s₃) E s2:=by
 obtain ⟨W,⟨m0,w0⟩,turn⟩:=hW;refine wpAny_newObj_type (wpAny_newFunctionEnv ck.nocell (by intro y hy; simp at hy) (fun h₁ hns₁ hsb₁=>?_) ck.kind);dsimp only at hns₁ hsb₁ ⊢;generalize hP : s2.heap.push { cls:=.type "list",dict:=none,data:=.seq ([] : List Value).toArray }=P at hns₁ hsb₁ ⊢;generalize hD : s2.heap.objs.size=D at hP hns₁ hsb₁ ⊢;have hCs : P.objs.size=D + 1:=by rw [<- hP,Heap.size_push,hD]
 generalize hC : P.objs.size=C at hCs hns₁ hsb₁ ⊢;have hDC' : D < C:=by rw [hCs]; exact Nat.lt_succ_self _
 have hDC : D≠C:=Nat.ne_of_lt hDC';have below : ∀ b o,s2.heap.get? b=some o->b < D:=fun b o e=>hD ▸ Heap.lt_size e
 have old : ∀ b o,s2.heap.get? b=some o->h₁.get? b=some o:=fun b o e=>by
  have hb:=below b o e;exact hsb₁.extBut b o (Nat.ne_of_lt (Nat.lt_trans hb hDC')) (Heap.get?_push_of_some _ (hP ▸ Heap.get?_push_of_some _ e))
 have hDo : h₁.get? D=some (zet [] 0):=hsb₁.extBut _ _ hDC (Heap.get?_push_of_some _ (by rw [<- hP,<- hD]; exact Heap.get?_push_size _ rfl));have Hn : ∀ b,D<=b->H2 b=none:=fun b hb=>I2.hok.fresh (by omega);have fpo : ∀ b∈fp,b < D:=fun b hb=>by obtain ⟨o,e,_⟩:=T.obj 0 _ st2 b hb; exact below b o e
 have clo : ∀ x c,cl.lookup x=some c->c < D:=fun x c e=>by
  obtain ⟨v,o,ho,_⟩:=I2.cell x c (a1 x c e);exact below c o ho
 have stko : ∀ b∈frs X.stack,b < D:=fun b hb=>by
  obtain ⟨_,o,ho,_⟩:=I2.stack.mem hb;exact below b o ho
 let Y : Cx:=X.comp scope Nc cl C fp s2 H2
 have yk : Y.Ok:=by
  refine ⟨I2.ok.mod,ck.kind,I2.ok.glob,I2.ok.blt,?_,?_,?_,?_,I2.ok.hd,I2.ok.frames,.inl rfl,?_,I2.bs,?_,?_,?_,I2.stack,I2.stkFree⟩
  ·show s2.heap.objs.size<=C;omega
  ·exact fun x y c h1 h2=>I2.ok.inj x y c (a1 x c h1) (a1 y c h2)
  ·intro x hx
   have : (x,NameKind.free)∈scope.names\/(x,NameKind.cell)∈scope.names:=by
    rcases hx with hx | hx
    ·exact zo1 (.inl rfl) hx
    ·exact zo1 (.inr rfl) hx
   rcases this with z | z
   ·exact a2 x z
   ·exact absurd rfl (ck.nocell _ z)
  ·exact fun x c z=>nomatch z
  ·intro b hb;refine ⟨?_,fun x c e=>?_⟩
   ·exact Nat.ne_of_lt (Nat.lt_trans (fpo b hb) hDC')
   ·exact (f2 b hb).2.2.2.2.1 x c (a1 x c e)
  ·exact Nat.le_trans I2.ok.bsz I2.sz
  ·intro b o e hb
   rcases (f2 b hb).2.2.2.1 with z | z
   ·exact I2.ok.noex b o e z
   ·exact absurd (Nat.lt_of_lt_of_le (Heap.lt_size e) (Nat.le_trans I2.ok.bsz z)) (Nat.lt_irrefl _)
  ·intro b hb z
   rcases List.mem_cons.mp (I2.stkSub b z) with e | e
   ·exact (f2 b hb).2.1 e
   ·exact (f2 b hb).2.2.1 e
 have I4 : Inv Y [(D,zet [] 0)] (zeo k js σ) H2 { s2 with heap:=h₁,toks:=s2.toks + ([] : List (Str×Value)).length }:=by
  refine ⟨yk,rfl,I2.bare,Un.kept old,⟨_,hns₁,fun i x v e1 e2 e3=>?_⟩,fun x c e=>?_,Hn C (by omega),fun x c e=>I2.freeC x c (a1 x c e),fun p hp=>?_,I2.hok.kept old,?_⟩
  ·have e1 : Nc[i]?=some x:=e1;unfold zeo at e2
   have hik : k<=i:=by
    rcases Nat.lt_or_ge i k with z | z
    ·rw [List.getElem?_append_left (by simpa using z),List.getElem?_replicate] at e2;simp [z] at e2
    ·exact z
   rw [List.getElem?_append_right (by simpa using hik),List.getElem?_map] at e2;simp only [List.length_replicate] at e2
   cases q : js[i - k]? with
   | none=>rw [q] at e2; cases e2
   | some j =>
    rw [q] at e2;obtain ⟨x',q1,q2,q3⟩:=ck.at' _ _ q;rw [show k + (i - k)=i by omega,e1] at q1;cases q1;have e2 : (σ[j]?).getD none=some v:=Option.some.inj e2
    have e2' : σ[j]?=some (some v):=by
     cases z : σ[j]? with
     | none=>rw [z] at e2; cases e2
     | some y=>rw [z] at e2; rw [show y=some v from e2]
    have hmem : (x,NameKind.free)∈scope.names:=by
     have : ∀ l : List (Str×NameKind),l.lookup x=some .free->(x,NameKind.free)∈l:=by
      intro l
      induction l with
      | nil=>intro z; cases z
      | cons a l ih =>
       intro z;obtain ⟨n,kk⟩:=a;rw [List.lookup_cons] at z
       cases hb : x==n with
       | true =>
        rw [hb] at z;cases z
        rw [eq_of_beq hb]; exact List.mem_cons_self
       | false=>rw [hb] at z; exact List.mem_cons_of_mem _ (ih z)
     exact this _ q3
    have hout : X.env.kindOf x=some .cell\/X.env.kindOf x=some .free:=ck.free _ hmem rfl;obtain ⟨m,hn,hl⟩:=I2.loc
    have vis : Vis X.env.scope x:=by
     rcases hout with z | z
     ·exact .inr (.inl z)
     ·exact .inr (.inr z)
    obtain ⟨u,r,l⟩:=hl j x v q2 e2' vis;refine ⟨u,r,.inr ⟨zo7 q3,?_⟩⟩
    rcases l with ⟨z,_⟩ | ⟨_,c,hcl,hcell⟩
    ·rcases hout with y | y <;> (rw [y] at z; cases z)
    ·obtain ⟨c',hc'⟩:=a2 x hmem;have:=a1 x c' hc';rw [hcl] at this;cases this;exact ⟨c,hc',hcell.keeps old⟩
  ·obtain ⟨v,z⟩:=I2.cell x c (a1 x c e);exact ⟨v,z.keeps old⟩
  ·have hp : p∈[(D,zet [] 0)]:=(List.mem_append.mp hp).elim (fun z=>nomatch (show p∈([] : List (Addr×Obj)) from z)) id;have hp : p=(D,zet [] 0):=List.mem_singleton.mp hp;subst hp;refine ⟨hDo,Hn D (Nat.le_refl _),hDC,fun z=>?_,fun v z=>by cases z⟩;exact absurd (stko D z) (Nat.lt_irrefl _)
  ·show (zeo k js σ).length=Nc.length;rw [ck.len];simp [zeo]
 have st1 : tn 0 h₁:=T.keep 0 _ _ st2 fun b _ o e=>old b o e
 have fpY : ∀ {H':Hp} {p:List (Addr×Obj)},(∀ q∈p,q.1=D)->(∀ b∈fp,H' b=none)->∀ b∈fp,zdx Y p H' b:=fun {H' p} hp hn b hb=>by
  refine ⟨hn b hb,(yk.exf b hb).1,yk.exfs b hb,.inl hb,fun x c e=>(yk.exf b hb).2 x c e,fun q hq=>?_⟩;have hq : q∈p:=(List.mem_append.mp hq).elim (fun z=>nomatch (show q∈([] : List (Addr×Obj)) from z)) id;rw [hp q hq];exact Nat.ne_of_gt (fpo b hb)
 let xe : Value->Shared->Prop:=notedBy (model X.prog X.w) X.A (compEnvC scope cl C X.env) fun x s'=>RR (.ref D) C (.error x) s'
 have hp : PX (Y.to [] xe):=hPX D C hD hDC' stko
 have loop : codeAny (model X.prog X.w) X.A (.compLoop (.ListComp elt [⟨tg,iter,ifs,0⟩] scope pos) 0 (.ref it) (.ref D) (compEnvC scope cl C X.env)) (RR (.ref D) C) { s2 with heap:=h₁,toks:=s2.toks + ([] : List (Str×Value)).length }:=by
  refine zwv (fun n s'=>∃ i ys us nn σ' H',Inv Y [(D,zet us nn)] σ' H' s'/\tn i s'.heap/\(∀ b∈fp,H' b=none)/\zak ys us/\W i n ys σ' H') ?_ m0
   ⟨0,[],[],0,zeo k js σ,H2,I4,st1,fun b hb=>(f2 b hb).1,.nil,w0⟩
  rintro n s3 ⟨i,ys,us,nn,σ3,H3,I3,st3,fr3,rv,w3⟩
  have one : ∀ q∈[(D,zet us nn)],q.1=D:=fun q hq=>by
   have : q=(D,zet us nn):=by simpa using hq
   rw [this]
  rcases turn i n ys σ3 H3 w3 with ⟨stop,hz,qn⟩ | ⟨go,hz,N,hN,step⟩
  ·refine thn (T.done Y rfl rfl rfl hc i _ s3 σ3 H3 _ I3 (fpY one fr3) st3 stop) fun r s4 ⟨hr,I5⟩=>?_;subst hr;show RR (.ref D) C (.ok .next) s4;obtain ⟨pD,nD,_,_,_⟩:=I5.pin (D,zet us nn) (by simp);have bs : Un (frs X.stack) fp H2 H3 s2.heap s4.heap:=I5.base;have h2D : ∀ b o,H2 b=some o->b≠D:=fun b o e z=>by rw [z,Hn D (Nat.le_refl _)] at e; cases e
   have I6 : Inv X pins σ (upd H3 D (.lst ys)) s4:=by
    refine I2.call' (ch:=fp) I5.os ⟨bs.keep,bs.slot,fun b o e n hx=>?_,bs.there,fun b xs e=>?_,fun b o u e=>?_,fun b ps e=>?_⟩ (fun b u e=>?_) I5.bare fun b hb=>?_
    ·rw [zar (Nat.ne_of_lt (below b o e))];exact bs.free b o e n hx
    ·rw [zar (h2D b _ e)]; exact bs.tups b xs e
    ·rw [zar (h2D b _ e)]; exact bs.frzs b o u e
    ·rw [zar (h2D b _ e)]; exact bs.tbls b ps e
    ·by_cases hb : b=D
     ·subst hb;rw [zbb] at e;cases e;exact ⟨hz,us,nn,rv,pD⟩
     ·rw [zar hb] at e;exact (I5.hok b u e).stay (fun c v _ q=>q) (fun c q=>by rw [zar (zcg q nD)]; exact q) fun c xs q=>by rw [zar (zcg q nD)]; exact q
    ·obtain ⟨_,f1,_,f3,f4,f5⟩:=f2 b hb;exact ⟨f3,f1,f4,f5⟩
   obtain ⟨m,hn,_⟩:=I5.loc;refine hRR D C s4 _ I6 ⟨m,hn⟩ (I2.fpOk (by omega) ?_) (qn D (Hn D (Nat.le_refl _)) nD);rw [zar hDC.symm];exact I5.free
  ·refine thn (T.item Y rfl rfl rfl hc i _ s3 σ3 H3 _ I3 (fpY one fr3) st3 go) fun r s4 ⟨u,hr,h4⟩=>?_;subst hr;refine thn h4 fun _ s5 ⟨x,H5,I5,r5,y5,st5,fr5⟩=>?_;have I5':=I5.pinned (fpY one fr5) (T.obj _ _ st5);refine wpAny_mono (hg cl C fp s2 H2 _ s5 σ3 H5 x u _ I5' r5 (step x H5 y5)) (fun _ s6 ⟨σ6,H6,I6,q6⟩=>?_) fun _ _ z=>z.elim;refine wpAny_mono (ht cl C fp s2 H2 _ s6 σ6 H6 _ I6 q6) (fun b s7 ⟨H7,I7,q7⟩=>?_) fun _ _ z=>z.elim
   have kp : ∀ {H8:Hp} {s8:Shared},Inv Y ([(D,zet us nn)]++zkc fp s5.heap) σ6 H8 s8->tn (i + 1) s8.heap/\(∀ b∈fp,H8 b=none):=fun {H8 s8} I8=>by
    refine ⟨T.keep _ _ _ st5 fun b hb o e=>(I8.pin (b,o) (List.mem_append_right _ (List.mem_append_right _ (zly hb e)))).1,fun b hb=>?_⟩;obtain ⟨o,e,d⟩:=T.obj _ _ st5 b hb;exact (I8.pin (b,o) (List.mem_append_right _ (List.mem_append_right _ (zly hb e)))).2.1
   cases b with
   | false =>
    rw [if_neg Bool.false_ne_true] at q7 ⊢;obtain ⟨m',hm,w7⟩:=hN _ _ _ q7;obtain ⟨st7,fr7⟩:=kp I7
    exact ⟨m',hm,i + 1,ys,us,nn,σ6,H7,I7.unpinned,st7,fr7,rv,w7⟩
   | true =>
    rw [if_pos rfl] at q7 ⊢;refine thn (he cl C fp s2 H2 xe hp _ s7 σ6 H7 _ (zsa I7) q7) fun uy s8 ⟨y,H8,I8',r8,q8⟩=>?_;have I8:=zr9 I8';obtain ⟨m',hm,w8⟩:=hN _ _ _ q8;obtain ⟨st8,fr8⟩:=kp I8;obtain ⟨pD,nD,pC,pF,_⟩:=I8.pin (D,zet us nn) (by simp);have hl:=rv.length
    refine wpAny_list_append_plain (items:=us.toArray) ⟨nn,pD⟩ (fun h' hl' sb=>?_) (by simp only [List.size_toArray] <;> omega)
    obtain ⟨n',e'⟩:=hl';have I8n : Inv Y [] σ6 H8 s8:=I8.pins_of (fun _ z=>nomatch z)
    have I9 : Inv Y [] σ6 H8 { s8 with heap:=h' }:=I8n.turned (t':=s8.toks) (it:=D) (fun b o hb e=>(sb.2 b hb).trans e) nD pC (.inr (by show s2.heap.objs.size<=D; omega)) (fun x c e=>Nat.ne_of_lt (clo x c e)) (fun p hp=>nomatch hp)
    refine ⟨m',hm,i + 1,ys++[y],us++[uy],n',σ6,H8,I9.pins_of (fun p hp=>?_),?_,fr8,rv.append (.cons r8 .nil),w8⟩
    ·have hp : p=(D,zet (us++[uy]) n'):=by simpa using hp
     subst hp;refine ⟨?_,nD,pC,pF,fun v z=>by cases z⟩;have e2 : h'.get? D=some { cls:=.type "list",data:=.seq (us.toArray.push uy) n' }:=e';show h'.get? D=some { cls:=.type "list",data:=.seq (us++[uy]).toArray n' };rw [e2];simp
    ·exact T.keep _ _ _ st8 fun b hb o e=>(sb.2 b (Nat.ne_of_lt (fpo b hb))).trans e
 exact codeAny_compStart_list loop (T.self X.A 0 _ _ _ st1 loop)
theorem zqj {pins:List (Addr×Obj)} {σ:St} {H2:Hp} {s2:Shared} {it:Addr} {fp:List Addr} {tn:Nat->Heap->Prop} {J:It} {cl:List (Str×Addr)} {Q:VK} {RR:Value->Addr->Result->Shared->Prop} {E:Value->Shared->Prop}
  (hc:X.calm=true) (ck:zht scope X.env.scope.names X.N Nc k js)
  (hg:∀ cl C ex s₂ H₂,PG (X.comp scope Nc cl C ex s₂ H₂) tg g) (ht:∀ cl C ex s₂ H₂,PTs (X.comp scope Nc cl C ex s₂ H₂) ifs tt) (he:∀ cl C ex s₂ H₂,PE (X.comp scope Nc cl C ex s₂ H₂) elt te)
  (a1:∀ x c,cl.lookup x=some c->X.env.cells.lookup x=some c) (a2:∀ x,(x,NameKind.free)∈scope.names->∃ c,cl.lookup x=some c)
  (I2:Inv X pins σ H2 s2) (T:zg1 X.prog X.w X.K tg J fp it tn) (st2:tn 0 s2.heap) (f2:∀ b∈fp,zdx X pins H2 b) (hW:zm7 J g tt te (zeo k js σ) H2 Q)
  (hRR:∀ (D C:Addr) (s':Shared) (H':Hp),Inv X pins σ H' s'->(∃ m,s'.heap.Ns C m)->zdx X pins H' C->Q (.ref D) H'->RR (.ref D) C (.ok .next) s') :
  wpAny (model X.prog X.w) X.A (newList []) (fun acc s₃=>wpAny (model X.prog X.w) X.A (newFunctionEnv scope X.env.globals cl [] X.env.qual none .none (some X.env)) (fun cenv s₄ =>
   codeAny (model X.prog X.w) X.A (.compStart (.ListComp elt [⟨tg,iter,ifs,0⟩] scope pos) 0 (.ref it) acc { cenv with scope:=relabel scope X.env }) (RR acc cenv.locals) s₄) E s₃) E s2 :=
 zwy (PX:=fun _=>True) hc ck hg ht (fun cl C ex s₂ H₂ xe _=>PE.to0 (he cl C ex s₂ H₂)) a1 a2 I2 T st2 f2 hW hRR fun _ _ _ _ _=>trivial
theorem z3z (k:Nat) (js:List Nat) (Nc:List Str) (hc:X.calm=true) (hi:PI X tg iter wi)
  (hg:∀ cl C ex s₂ H₂,PG (X.comp scope Nc cl C ex s₂ H₂) tg g) (ht:∀ cl C ex s₂ H₂,PTs (X.comp scope Nc cl C ex s₂ H₂) ifs tt) (he:∀ cl C ex s₂ H₂,PE (X.comp scope Nc cl C ex s₂ H₂) elt te)
  (ck:zg6 scope X.env.scope.names X.N Nc k js=true:=by rfl) (hs:∀ x,foldedSetIterable iter X.env x=pure x:=by intro _; rfl) :
  PE X (.ListComp elt [⟨tg,iter,ifs,0⟩] scope pos) (zpk k js wi g tt te):=by
 intro pins s σ H Q I h;have ck:=zht.of ck;rw [eval_ListComp];obtain ⟨cl,hcl,a1,a2⟩:=zqi (scope:=scope) (env:=X.env) fun x hx e=>I.ok.has x.1 (ck.free x hx e);refine wpAny_comprehension_free (use:=none) rfl hs hcl ck.kind ck.loc (thn (hi pins s σ H _ I h) fun v s1 h1=>thn h1 fun itv s2 h2=>?_);obtain ⟨it,fp,tn,J,H2,e,I2,T,st2,f2,hW⟩:=h2;subst e;refine zqj (RR:=fun acc C=>compPost (model X.prog X.w) X.A X.xe none (EP X pins σ Q) acc C) hc ck hg ht he a1 a2 I2 T st2 f2 hW fun D C s' H' I' ⟨m,hn⟩ fC q=>?_;obtain ⟨f0,f1,_,f3,f4,f5⟩:=fC;exact ⟨m,hn,fun h' hs'=>⟨.ref D,H',I'.turned (t':=s'.toks) (fun b o hb e=>(hs'.2 b hb).trans e) f0 f1 f3 f4 f5,rfl,q⟩⟩
theorem zue {i:Nat} {x:Str} {pos' spos:Pos} (k:Nat) (js:List Nat) (Nc:List Str) (hN:X.N.Nodup) (hi':X.N[i]?=some x) (hx:Loc X.env.scope x) (hc:X.calm=true) (hi:PI X tg iter wi)
  (hg:∀ cl C ex s₂ H₂,PG (X.comp scope Nc cl C ex s₂ H₂) tg g) (ht:∀ cl C ex s₂ H₂,PTs (X.comp scope Nc cl C ex s₂ H₂) ifs tt) (he:∀ cl C ex s₂ H₂,PE (X.comp scope Nc cl C ex s₂ H₂) elt te)
  (hsw:swapsWith (.ListComp elt [⟨tg,iter,ifs,0⟩] scope pos) (some (.Name x pos')) spos.line X.env=pure true:=by rfl)
  (ck:zg6 scope X.env.scope.names X.N Nc k js=true:=by rfl) (hs:∀ x,foldedSetIterable iter X.env x=pure x:=by intro _; rfl)
  (hf:X.fn x=true\/X.env.scope.names.lookup x=some .local:=by first | exact .inl rfl | exact .inr rfl | assumption) :
  PS X (.Assign [.Name x pos'] (.ListComp elt [⟨tg,iter,ifs,0⟩] scope pos) spos) (zjg (zpk k js wi g tt te) (zhd i)):=by
 intro pins s σ H D I h;have ck:=zht.of ck;rw [exec_Assign_Name_used _ _ _ _ hsw];refine wpAny_bind (wpAny_standAt (wpAny_bind ?_))
 show wpAny _ X.A (do let _ <- comprehension (.ListComp elt [⟨tg,iter,ifs,0⟩] scope pos) scope X.env _ (newList []) false (eval iter X.env) (some (assign (.Name x pos') X.env))) _ _ s
 obtain ⟨cl,hcl,a1,a2⟩:=zqi (scope:=scope) (env:=X.env) fun x hx e=>I.ok.has x.1 (ck.free x hx e)
 refine wpAny_bind (wpAny_mono (wpAny_comprehension_free (use:=some (assign (.Name x pos') X.env)) (Q:=fun _ s'=>SP X pins D .next s') rfl hs hcl ck.kind ck.loc
  (thn (hi pins s σ H _ I h) fun v s1 h1=>thn h1 fun itv s2 h2=>?_)) (fun _ s' hq=>wpAny_pure (wpAny_pure hq)) fun _ _ e=>e)
 obtain ⟨it,fp,tn,J,H2,e,I2,T,st2,f2,hW⟩:=h2;subst e;refine zqj (RR:=fun acc C=>compPost (model X.prog X.w) X.A X.xe (some (assign (.Name x pos') X.env)) (fun _ s'=>SP X pins D .next s') acc C) hc ck hg ht he a1 a2 I2 T st2 f2 hW fun D' C s' H' I' ⟨m,hn⟩ fC q=>?_;obtain ⟨f0,f1,f2',f3,f4,f5⟩:=fC;show wpAny _ X.A (assign (.Name x pos') X.env (.ref D')) _ _ _;refine wpAny_assign_Name (zva (v:=.ref D') I' hN hi' hx rfl (fun s'' I'' ⟨a,sb,ha⟩=>?_) hf)
 have hCa : C≠a:=by
  rcases ha with z | z
  ·rw [z]; exact f1
  ·exact (f4 x a z).symm
 exact ⟨m,hn.sameBut sb hCa,fun h' hs'=>⟨_,H',I''.turned (t':=s''.toks) (fun b o hb e=>(hs'.2 b hb).trans e) f0 f1 f3 f4 f5,q⟩⟩
end
section
variable {K:PySem.W.Frag} {g:TG} {tt:TT} {te:TE} {σ0:St} {H1:Hp} {Q:VK}
end
section
variable {X:Cx}
theorem zt0 : OpR X (compareOp .Is) (fun x y H Q=>∃ b,y=.bl b/\(x=.non\/∃ c,x=.bl c)/\Q (.bl (decide (x=.bl b))) H):=by
 intro pins s σ H x y v u Q I rx ry h;obtain ⟨b,rfl,hx,q⟩:=h;cases ry
 rcases hx with rfl | ⟨c,rfl⟩
 ·cases rx
  exact wpAny_is_plain rfl (zbd I q (by cases b <;> rfl))
 ·cases rx
  exact wpAny_is_plain rfl (zbd I q (by cases b <;> cases c <;> rfl))
theorem zt1 : OpR X (compareOp .IsNot) (fun x y H Q=>∃ b,y=.bl b/\(x=.non\/∃ c,x=.bl c)/\Q (.bl (!decide (x=.bl b))) H):=by
 intro pins s σ H x y v u Q I rx ry h;obtain ⟨b,rfl,hx,q⟩:=h;cases ry
 rcases hx with rfl | ⟨c,rfl⟩
 ·cases rx
  exact wpAny_isNot_plain rfl (zbd I q (by cases b <;> rfl))
 ·cases rx
  exact wpAny_isNot_plain rfl (zbd I q (by cases b <;> cases c <;> rfl))
theorem zwq (hc:X.calm=true) : zc9 X (.builtin "sum") (fun xs H Q=>∃ (p:Addr) (ns:List Int),xs=[.ref p]/\SqL X.K H p (ns.map V.int)/\Q (.int ns.sum) H):=by
 intro pins s σ H xs us Q I r h;obtain ⟨p,ns,rfl,hq,q⟩:=h;obtain ⟨u,rfl,rx⟩:=zji r;cases rx;obtain ⟨its,r',pl,hz⟩:=I.list hq;have hi : IntsAre its ns:=zzm r';obtain ⟨xs,e⟩:=hi.allInts.items;refine sum_intListG (I.ok.hd hc) (xs:=xs) (by rw [<- e]; exact pl.isList) fun h' tk t' hk=>?_
 have es : preSum (numAt xs) xs.size=ns.sum:=by
  rw [preSum_eq,List.take_of_length_le (by simp),<- nums_intItems,<- e];show (numsOf its).sum=ns.sum;rw [hi.numsOf]
 rw [es];exact ⟨.int ns.sum,H,I.kept hk,⟨_,rfl⟩,q⟩
theorem zwl : zc9 X (.builtin "isinstance") (fun xs H Q=>∃ x T t b,xs=[x,.ty T]/\zdm X.K H x t/\PySem.W.kitOne X.K t (.type T)=some b/\Q (.bl b) H):=by
 intro pins s σ H xs us Q I r h;obtain ⟨x,T,t,b,rfl,ty,e,q⟩:=h;obtain ⟨u,w',rfl,rx,rc⟩:=z75 r;cases (show w'=Value.type T from rc);exact zzw I rx ty e fun tk=>⟨.bl b,H,I.tok tk,rfl,q⟩
theorem PE.or {e:Expr} {t t':TE} (h:PE X e t) (h':PE X e t') : PE X e (fun σ H Q=>t σ H Q\/t' σ H Q):=by
 intro pins s σ H Q I q
 rcases q with q | q
 ·exact h pins s σ H Q I q
 ·exact h' pins s σ H Q I q
end
theorem Paired.at' {α β : Type} {F:α->β->Prop} : ∀ {l₁:List α} {l₂:List β} {i:Nat} {a:α} {b:β},Paired F l₁ l₂->l₁[i]?=some a->l₂[i]?=some b->F a b
 | _,_,_,_,_,.nil,e,_=>by simp at e
 | _,_,0,_,_,.cons r _,e,e'=>by simp at e e'; subst e e'; exact r
 | _,_,i + 1,a,b,.cons _ t,e,e'=>Paired.at' (i:=i) t (by simpa using e) (by simpa using e')
theorem zak.at' {xs:List V} {us:List Value} {i:Nat} {u:Value} (r:zak xs us) (e:us[i]?=some u) : ∃ x,xs[i]?=some x/\zaq x u:=by
 have hl:=r.length;have hi : i < xs.length:=by have:=(List.getElem?_eq_some_iff.mp e).1; omega
 refine ⟨xs[i],by simp [hi],?_⟩;obtain ⟨u',e',r'⟩:=r.get (i:=i) (x:=xs[i]) (by simp [hi]);rw [e] at e'; cases e'; exact r'
section
variable {X:Cx} {pins:List (Addr×Obj)} {σ:St} {H:Hp} {s:Shared}
end
theorem zig {env:Env} {k':NameKind} (hk:k'≠.free) : ∀ {names:List (Str×NameKind)} {x:Str},names.lookup x=some k' ->
  (names.map fun (n,k)=>if (k==NameKind.free && env.scope.kind==.function && env.kindOf n==some .cell) then (n,NameKind.cell) else (n,k)).lookup x=some k'
 | [],_,h=>by simp at h
 | (n,k)::r,x,h=>by
  have ih:=@zig env k' hk r x;rw [List.map_cons];show List.lookup x ((if (k==NameKind.free && env.scope.kind==.function && env.kindOf n==some .cell)=true then (n,NameKind.cell) else (n,k))::_)=_;rw [List.lookup_cons] at h
  cases hx : x==n with
  | true =>
   rw [hx] at h;have e : k=k':=Option.some.inj h;subst e;have hf : (k==NameKind.free)=false:=by simpa using hk
   rw [hf,Bool.false_and,Bool.false_and,if_neg Bool.false_ne_true,List.lookup_cons,hx]
  | false =>
   rw [hx] at h;split
   ·rw [List.lookup_cons,hx]; exact ih h
   ·rw [List.lookup_cons,hx]; exact ih h
theorem z76 {env:Env} {scope:Scope} {x:Str} (h:Vis scope x) : Vis (relabel scope env) x:=by
 rcases h with h | h | h
 ·exact .inl (zig (by decide) h)
 ·exact .inr (.inl (zig (by decide) h))
 ·rcases zo7 (env:=env) h with z | z
  ·exact .inr (.inl z)
  ·exact .inr (.inr z)
section
variable {X:Cx} {scope:Scope} {Nc:List Str} {cl:List (Str×Addr)} {C:Addr} {ex:List Addr} {s₂:Shared} {H₂:Hp}
theorem pvc (i:Nat) {x:Str} {pos:Pos} (hN:Nc[i]?=some x:=by rfl) (hv:Vis scope x:=by first | exact Or.inl rfl | exact Or.inr (Or.inl rfl) | exact Or.inr (Or.inr rfl)) (hd:(x==("__debug__" : Str))=false:=by decide)
  (hcd:(x==("__classdict__" : Str))=false:=by decide) : PE (X.comp scope Nc cl C ex s₂ H₂) (.Name x pos) (zdg i):=zif hN (z76 hv) hd hcd
theorem pgc (i:Nat) {x:Str} {pos:Pos} (hN:Nc.Nodup:=by decide +kernel) (hi:Nc[i]?=some x:=by rfl) (hl:scope.names.lookup x=some .local:=by rfl) : PG (X.comp scope Nc cl C ex s₂ H₂) (.Name x pos) (zhd i) :=
 zt9 (X:=X.comp scope Nc cl C ex s₂ H₂) hN hi (.inl (zig (by decide) hl)) (.inr (zig (by decide) hl))
theorem glc {x:Str} (h:scope.names.lookup x=some .globalImplicit) : Gl (X.comp scope Nc cl C ex s₂ H₂) x:=zig (env:=X.env) (by decide) h
end
theorem zbz {H:Hp} {p:Addr} {o:HO} (h:H p=none) : zaf H (upd H p o):=fun b u e=>by rw [zar (zcg e h)]; exact e
theorem zaf.tup {K:PySem.W.Frag} {H H':Hp} {a:Addr} {xs:List V} (e:zaf H H') (h:SqT K H a xs) : SqT K H' a xs:=by
 rcases h with (h | ⟨o,h⟩) | h
 ·exact .inl (.inl (e _ _ h))
 ·exact .inl (.inr ⟨o,e _ _ h⟩)
 ·exact .inr h
noncomputable def zem (p:Addr) (H H':Hp) : Prop:=∀ b o,H b=some o->b≠p->H' b=some o
theorem zem.refl (p:Addr) (H:Hp) : zem p H H:=fun _ _ h _=>h
theorem zem.trans {p:Addr} {H H1 H2:Hp} (a:zem p H H1) (b:zem p H1 H2) : zem p H H2:=fun c o h n=>b c o (a c o h n) n
theorem zaf.grow {p:Addr} {H H':Hp} (a:zaf H H') : zem p H H':=fun c o h _=>a c o h
theorem zem.same {p:Addr} {H H':Hp} (a:zem p H H') (h:H p=none) : zaf H H':=fun c o e=>a c o e (zcg e h)
theorem zem.seq {K:PySem.W.Frag} {p:Addr} {H H':Hp} {a:Addr} {xs:List V} (e:zem p H H') (n:a≠p) (h:SqL K H a xs) : SqL K H' a xs:=by
 rcases h with (h | ⟨o,h⟩) | h
 ·exact .inl (.inl (e _ _ h n))
 ·exact .inl (.inr ⟨o,e _ _ h n⟩)
 ·exact .inr h
noncomputable def zjp (K:PySem.W.Frag) (H:Hp) (L:Addr) (its:List (Int×Int)) : Prop :=
 ∃ zs : List (Addr×Int×Int),SqL K H L (zs.map fun z=>V.ref z.1)/\(∀ z∈zs,SqT K H z.1 [.int z.2.1,.int z.2.2])/\its=zs.map (·.2)/\zs.length<=1000
theorem zaf.items {K:PySem.W.Frag} {H H':Hp} {L:Addr} {its:List (Int×Int)} (e:zaf H H') (h:zjp K H L its) : zjp K H' L its:=by
 obtain ⟨zs,h1,h2,h3,h4⟩:=h;exact ⟨zs,e.seq h1,fun z hz=>e.tup (h2 z hz),h3,h4⟩
noncomputable def InR (n:Nat) (its:List (Int×Int)) : Prop:=∀ z∈its,0<=z.1/\z.1 < (n:Int)
noncomputable def zhr (p:Option Bool->Bool) (es:List (Option Bool)) (its:List (Int×Int)) : Int:=((its.filter fun z=>p (es.getD z.1.toNat none)).map (·.2)).sum
inductive Prt where
 | inn (t:Int) | out (t:Int) | least (k:Int) (its:List (Int×Int)) | most (k:Int) (its:List (Int×Int))
noncomputable def Prt.InR (n:Nat) : Prt->Prop
 | .inn t=>0<=t/\t < (n:Int)
 | .out t=>0<=t/\t < (n:Int)
 | .least _ its=>L2.InR n its
 | .most _ its=>L2.InR n its
noncomputable def zv3 (K:PySem.W.Frag) (H:Hp) (p:Addr) : Prt->Prop
 | .inn t=>SqT K H p [.str "in",.int t]
 | .out t=>SqT K H p [.str "out",.int t]
 | .least k its=>∃ L,SqT K H p [.str "least",.int k,.ref L]/\zjp K H L its
 | .most k its=>∃ L,SqT K H p [.str "most",.int k,.ref L]/\zjp K H L its
noncomputable def bs (l:List Bool) : List (Option Bool):=l.map some
noncomputable def Prt.holds (rs ws:List Bool) : Prt->Bool
 | .inn t=>(rs.getD t.toNat false)
 | .out t=>!(ws.getD t.toNat false)
 | .least k its=>decide (k<=zhr (·==some true) (bs rs) its)
 | .most k its=>decide (zhr (·==some true) (bs ws) its<=k)
section
variable {X:Cx} {pins:List (Addr×Obj)} {σ:St} {H:Hp} {s:Shared} {h':Heap}
theorem Inv.turnedMany {t':Nat} {ch:List Addr} (I:Inv X pins σ H s) (k:∀ b o,b∉ch->s.heap.get? b=some o->h'.get? b=some o) (hf:∀ b∈ch,zdx X pins H b) : Inv X pins σ H { s with heap:=h',toks:=t' }:=by
 refine I.step (g':=s.gens) (d':=s.drawn) (ch:=ch) (fun b hb=>?_) (fun b o _ _ hc e _=>k b o hc e) (fun b o _ _ hc e _=>⟨o.slots,k b o hc e⟩) (fun _ _ _ _ n=>n)
  (fun b o hc e=>⟨o,k b o hc e⟩) (fun _ _ e=>e) (fun _ _ _ e=>e) (fun b ps e=>⟨#[],by rw [e]; simp⟩) (fun m hm=>?_) (fun b u e=>?_) I.bare
 ·obtain ⟨_,f1,_,f3,f4,f5⟩:=hf b hb;exact ⟨f3,f1,f4,f5⟩
 ·obtain ⟨o,es,ep,ho,r⟩:=hm;exact ⟨o,es,ep,k _ o (fun z=>(hf _ z).2.1 rfl) ho,r⟩
 ·refine (I.hok b u e).stay (fun c v hc q=>k c v (fun z=>?_) q) (fun _ q=>q) fun _ _ q=>q;have hn:=(hf c z).1
  rcases hc with y | y
  ·rw [y,e] at hn; cases hn
  ·rw [hn] at y; cases y
theorem Inv.track {p:Addr} {o:HO} (I:Inv X pins σ H s) (f:zdx X pins H p) (ob:zbv X.prog X.w (upd H p o) s.heap p o) : Inv X pins σ (upd H p o) s:=by
 obtain ⟨f0,f1,f2,f3,f4,f5⟩:=f;have ne : ∀ b u,H b=some u->b≠p:=fun b u e=>zcg e f0;have one : ∀ b : Addr,b∉[p]->b≠p:=fun b hb z=>hb (by rw [z]; simp)
 refine I.step (g':=s.gens) (d':=s.drawn) (t':=s.toks) (h':=s.heap) (ch:=[p]) (fun b hb=>?_) (fun b o _ _ hc e _=>e) (fun b o _ _ hc e _=>⟨o.slots,e⟩) (fun b o hc e n=>?_)
  (fun b o hc e=>⟨o,e⟩) (fun b xs e=>?_) (fun b o u e=>?_) (fun b ps e=>⟨#[],?_⟩) (fun m hm=>hm) (fun b u e=>?_) I.bare
 ·have e : b=p:=by simpa using hb
  subst e;exact ⟨f3,f1,f4,f5⟩
 ·rw [zar (one b hc)]; exact n
 ·rw [zar (ne b _ e)]; exact e
 ·rw [zar (ne b _ e)]; exact e
 ·rw [zar (ne b _ e),e]; simp
 ·by_cases hb : b=p
  ·subst hb;rw [zbb] at e;cases e;exact ob
  ·rw [zar hb] at e;exact (I.hok b u e).stay (fun c v _ q=>q) (fun c q=>by rw [zar (ne c _ q)]; exact q) fun c xs q=>by rw [zar (ne c _ q)]; exact q
end
section
variable {X:Cx} {elts:List Expr} {kx:Nat} {tpos:Pos}
end
noncomputable def ze7 (p:Int->Bool) (its:List (Int×Int)) : Int:=((its.filter fun z=>p z.1).map (·.2)).sum
theorem zps (p:Option Bool->Bool) (es:List (Option Bool)) (its:List (Int×Int)) : zhr p es its=ze7 (fun t=>p (es.getD t.toNat none)) its:=rfl
theorem z8c (p q:Int->Bool) (its:List (Int×Int)) : ze7 p (its.filter fun z=>q z.1)=ze7 (fun t=>p t && q t) its:=by
 unfold ze7;rw [List.filter_filter]
noncomputable def Prt.lost (es:List (Option Bool)) (ws:List Bool) : Prt->Bool
 | .inn t=>(es.getD t.toNat none==some false) || ws.getD t.toNat false
 | .out t=>es.getD t.toNat none==some true
 | .least k its=>decide (ze7 (fun t=>!(es.getD t.toNat none==some false) && !(ws.getD t.toNat false)) its < k)
 | .most k its=>decide (k < zhr (·==some true) es its)
noncomputable def zkw (L:Addr) (its:List (Int×Int)) (vs:List V) : Prt->Prop
 | .inn t=>vs=[.str "in",.int t]
 | .out t=>vs=[.str "out",.int t]
 | .least k i=>vs=[.str "least",.int k,.ref L]/\i=its
 | .most k i=>vs=[.str "most",.int k,.ref L]/\i=its
theorem zkw.at {K:PySem.W.Frag} {H:Hp} {L p:Addr} {its:List (Int×Int)} {vs:List V} {r:Prt} (t:zkw L its vs r) (hp:H p=some (.tup vs)) (hL:zjp K H L its) : zv3 K H p r:=by
 cases r with
 | inn t'=>cases t; exact SqT.of hp
 | out t'=>cases t; exact SqT.of hp
 | least k i=>obtain ⟨rfl,rfl⟩:=t; exact ⟨L,SqT.of hp,hL⟩
 | most k i=>obtain ⟨rfl,rfl⟩:=t; exact ⟨L,SqT.of hp,hL⟩
structure zmw (Hb:Hp) (r L:Addr) (its:List (Int×Int)) (n:Nat) (rows:List (Addr×List V×Prt)) (H:Hp) : Prop where
 same : zaf Hb H
 lst : H r=some (.lst (rows.map fun z=>V.ref z.1))
 all : ∀ z∈rows,H z.1=some (.tup z.2.1)/\zkw L its z.2.1 z.2.2/\z.2.2.InR n
theorem zmw.more {Hb H:Hp} {r L:Addr} {its:List (Int×Int)} {n:Nat} {rows:List (Addr×List V×Prt)} (R:zmw Hb r L its n rows H) (hr:Hb r=none) {p:Addr} (hp:H p=none) {vs:List V} {pr:Prt} (ht:zkw L its vs pr) (hin:pr.InR n) :
  (upd H p (.tup vs)) r=some (.lst (rows.map fun z=>V.ref z.1))/\zmw Hb r L its n (rows++[(p,vs,pr)]) (upd (upd H p (.tup vs)) r (.lst (rows.map (fun z=>V.ref z.1)++[.ref p]))) /\
  (∀ b o,H b=some o->b≠r->(upd (upd H p (.tup vs)) r (.lst (rows.map (fun z=>V.ref z.1)++[.ref p]))) b=some o):=by
 have nrp : r≠p:=zcg R.lst hp;refine ⟨by rw [zar nrp]; exact R.lst,⟨fun b o e=>?_,?_,fun z hz'=>?_⟩,fun b o e nb=>?_⟩
 ·rw [zar (zcg e hr),zar (zcg (R.same _ _ e) hp)];exact R.same _ _ e
 ·rw [zbb,List.map_append];rfl
 ·rcases List.mem_append.mp hz' with hz' | hz'
  ·obtain ⟨h1,h2⟩:=R.all z hz';refine ⟨?_,h2⟩;rw [zar (zov h1 R.lst (by intro e; cases e)),zar (zcg h1 hp)];exact h1
  ·have : z=(p,vs,pr):=by simpa using hz'
   subst this;refine ⟨?_,ht,hin⟩;rw [zar nrp.symm,zbb]
 ·rw [zar nb,zar (zcg e hp)];exact e
inductive D where
 | non
 | bl (b:Bool)
 | int (i:Int)
 | str (x:Str)
 | lst (xs:List D)
 | tup (xs:List D)
 | kl (xs:List D)
 | kt (xs:List D)
 | dic (ks:List Key) (xs:List D)
 | ins (c:Str) (ns:List Str) (xs:List D)
 | kd (ks:List Key) (xs:List D)
 | any
 deriving Inhabited
set_option genInjectivity false in
structure Gc where
 K : PySem.W.Frag
 cl : Str->Addr
mutual
noncomputable def Rep (G:Gc) (H:Hp) : D->V->Prop
 | .non,v=>v=.non
 | .bl b,v=>v=.bl b
 | .int i,v=>v=.int i
 | .str x,v=>v=.str x
 | .lst ds,v=>∃ a vs,v=.ref a/\H a=some (.lst vs)/\zae G H ds vs
 | .tup ds,v=>∃ a vs,v=.ref a/\H a=some (.tup vs)/\zae G H ds vs
 | .kl ds,v=>∃ a vs,v=.ref a/\SqL G.K H a vs/\zae G H ds vs
 | .kt ds,v=>∃ a vs,v=.ref a/\SqT G.K H a vs/\zae G H ds vs
 | .dic ks ds,v=>∃ a vs,v=.ref a/\H a=some (.dK (ks.zip vs))/\ks.length=vs.length/\zae G H ds vs
 | .ins c ns ds,v=>∃ a dx vs,v=.ref a/\H a=some (.ins (G.cl c) dx (ns.zip vs))/\ns.length=vs.length/\zae G H ds vs
 | .kd ks ds,v=>∃ a od vs,v=.ref a/\H a=some (.frz od (.dK (ks.zip vs)))/\ks.length=vs.length/\zae G H ds vs
 | .any,v=>∃ a,v=.ref a
noncomputable def zae (G:Gc) (H:Hp) : List D->List V->Prop
 | [],vs=>vs=[]
 | d::ds,vs=>∃ v r,vs=v::r/\Rep G H d v/\zae G H ds r
end
section
variable {G:Gc} {H H' Hf Hf':Hp}
mutual
theorem Rep.upM (s:zaf H H') : ∀ (d:D) (v:V),Rep G H d v->Rep G H' d v
 | .non,_,h=>h
 | .bl _,_,h=>h
 | .int _,_,h=>h
 | .str _,_,h=>h
 | .lst ds,_,⟨a,vs,e,q,r⟩=>⟨a,vs,e,s _ _ q,zae.upM s ds vs r⟩
 | .tup ds,_,⟨a,vs,e,q,r⟩=>⟨a,vs,e,s _ _ q,zae.upM s ds vs r⟩
 | .kl ds,_,⟨a,vs,e,q,r⟩=>⟨a,vs,e,s.seq q,zae.upM s ds vs r⟩
 | .kt ds,_,⟨a,vs,e,q,r⟩=>⟨a,vs,e,s.tup q,zae.upM s ds vs r⟩
 | .dic _ ds,_,⟨a,vs,e,q,l,r⟩=>⟨a,vs,e,s _ _ q,l,zae.upM s ds vs r⟩
 | .ins _ _ ds,_,⟨a,dx,vs,e,q,l,r⟩=>⟨a,dx,vs,e,s _ _ q,l,zae.upM s ds vs r⟩
 | .kd _ ds,_,⟨a,od,vs,e,q,l,r⟩=>⟨a,od,vs,e,s _ _ q,l,zae.upM s ds vs r⟩
 | .any,_,h=>h
theorem zae.upM (s:zaf H H') : ∀ (ds:List D) (vs:List V),zae G H ds vs->zae G H' ds vs
 | [],_,h=>h
 | d::ds,_,⟨v,r,e,h1,h2⟩=>⟨v,r,e,Rep.upM s d v h1,zae.upM s ds r h2⟩
end
theorem Rep.up {d:D} {v:V} (r:Rep G H d v) (s:zaf H H') : Rep G H' d v:=Rep.upM s d v r
theorem zae.up {ds:List D} {vs:List V} (r:zae G H ds vs) (s:zaf H H') : zae G H' ds vs:=zae.upM s ds vs r
theorem zae.nil : zae G H [] []:=rfl
theorem zae.cons {d:D} {ds:List D} {v:V} {vs:List V} (h:Rep G H d v) (t:zae G H ds vs) : zae G H (d::ds) (v::vs):=⟨v,vs,rfl,h,t⟩
theorem zae.length : ∀ {ds:List D} {vs:List V},zae G H ds vs->ds.length=vs.length
 | [],_,h=>by cases (show _=[] from h); rfl
 | d::ds,_,⟨v,r,e,_,h⟩=>by subst e; simp [zae.length h]
theorem zae.append : ∀ {ds es:List D} {vs us:List V},zae G H ds vs->zae G H es us->zae G H (ds++es) (vs++us)
 | [],_,_,_,h,t=>by cases (show _=[] from h); exact t
 | d::ds,_,_,_,⟨v,r,e,h1,h2⟩,t=>by subst e; exact ⟨v,r++_,rfl,h1,zae.append h2 t⟩
theorem zae.get : ∀ {ds:List D} {vs:List V} {i:Nat} {d:D},zae G H ds vs->ds[i]?=some d->∃ v,vs[i]?=some v/\Rep G H d v
 | [],_,_,_,_,e=>by simp at e
 | d::ds,_,0,_,⟨v,r,e,h1,_⟩,e'=>by subst e; simp at e'; subst e'; exact ⟨v,rfl,h1⟩
 | d::ds,_,i + 1,d',⟨v,r,e,_,h2⟩,e'=>by
  subst e;obtain ⟨u,a,b⟩:=zae.get (i:=i) (d:=d') h2 (by simpa using e');exact ⟨u,by simpa using a,b⟩
theorem zae.get' : ∀ {ds:List D} {vs:List V} {i:Nat} {v:V},zae G H ds vs->vs[i]?=some v->∃ d,ds[i]?=some d/\Rep G H d v:=fun {ds vs i v} h e=>by
 have hl:=h.length;have hi : i < ds.length:=by have:=(List.getElem?_eq_some_iff.mp e).1; omega
 obtain ⟨u,a,b⟩:=h.get (i:=i) (d:=ds[i]) (by simp [hi]);rw [e] at a; cases a;exact ⟨ds[i],by simp [hi],b⟩
theorem zae.ints : ∀ (ns:List Int),zae G H (ns.map D.int) (ns.map V.int)
 | []=>rfl
 | n::ns=>⟨_,_,rfl,rfl,zae.ints ns⟩
theorem zae.take : ∀ {ds:List D} {vs:List V} (n:Nat),zae G H ds vs->zae G H (ds.take n) (vs.take n)
 | _,_,0,_=>rfl
 | [],_,n + 1,h=>by cases (show _=[] from h); rfl
 | d::ds,_,n + 1,⟨v,r,e,h1,h2⟩=>by subst e; exact ⟨v,r.take n,rfl,h1,zae.take n h2⟩
theorem zae.drop : ∀ {ds:List D} {vs:List V} (n:Nat),zae G H ds vs->zae G H (ds.drop n) (vs.drop n)
 | _,_,0,h=>h
 | [],_,n + 1,h=>by cases (show _=[] from h); rfl
 | d::ds,_,n + 1,⟨v,r,e,h1,h2⟩=>by subst e; exact zae.drop n h2
theorem zae.set : ∀ {ds:List D} {vs:List V} (i:Nat) {d:D} {v:V},zae G H ds vs->Rep G H d v->zae G H (ds.set i d) (vs.set i v)
 | [],_,_,_,_,h,_=>by cases (show _=[] from h); exact .nil
 | e::ds,_,0,_,_,⟨v,r,e',_,h2⟩,q=>by subst e'; exact ⟨_,r,rfl,q,h2⟩
 | e::ds,_,i + 1,_,_,⟨v,r,e',h1,h2⟩,q=>by subst e'; exact ⟨v,r.set i _,rfl,h1,zae.set i h2 q⟩
end
noncomputable def zea : HO->Bool
 | .tup _=>true
 | _=>false
structure Ext (Hf H Hf' H':Hp) : Prop where
 f : zaf Hf Hf'
 h : zaf H H'
 s : zaf Hf' H'
 n : ∀ l o,H l=some o->zea o=false->Hf' l=Hf l
section
variable {Hf H Hf1 H1 Hf2 H2:Hp} {p:Addr} {o:HO}
theorem Ext.refl (s:zaf Hf H) : Ext Hf H Hf H:=⟨zaf.refl _,zaf.refl _,s,fun _ _ _ _=>rfl⟩
theorem Ext.trans (a:Ext Hf H Hf1 H1) (b:Ext Hf1 H1 Hf2 H2) : Ext Hf H Hf2 H2:=⟨a.f.trans b.f,a.h.trans b.h,b.s,fun l o e t=>(b.n l o (a.h l o e) t).trans (a.n l o e t)⟩
theorem Ext.new (s:zaf Hf H) (h:H p=none) : Ext Hf H (upd Hf p o) (upd H p o) :=
 ⟨zbz (s.free h),zbz h,fun b u e=>by
  by_cases hb : b=p
  ·subst hb; rw [zbb] at e ⊢; exact e
  ·rw [zar hb] at e ⊢; exact s b u e,fun l u e _=>by rw [zar (zcg e h)]⟩
theorem Ext.tmp (s:zaf Hf H) (h:H p=none) : Ext Hf H Hf (upd H p o):=⟨zaf.refl _,zbz h,s.trans (zbz h),fun _ _ _ _=>rfl⟩
theorem Ext.grow (s:zaf Hf H) (g:zaf H H1) : Ext Hf H Hf H1:=⟨zaf.refl _,g,s.trans g,fun _ _ _ _=>rfl⟩
theorem Ext.fix (a:Ext Hf H Hf1 H1) (hn:H p=none) (hf:Hf1 p=none) (hp:H1 p=some o) : Ext Hf H (upd Hf1 p o) H1 :=
 ⟨a.f.trans (zbz hf),a.h,fun b u e=>by
  by_cases hb : b=p
  ·subst hb; rw [zbb] at e; rw [hp]; exact e
  ·rw [zar hb] at e; exact a.s b u e,fun l u e t=>by rw [zar (zcg e hn)]; exact a.n l u e t⟩
end
inductive O where
 | fz (d:D)
 | lst (xs:List O)
 | tup (xs:List O)
 | dic (ks:List Key) (xs:List O)
 | ins (c:Str) (ns:List Str) (xs:List O)
 | jnk (n:Nat)
 | dT (ks:List (List Key)) (xs:List O)
 | at (l:Addr) (o:O)
 | any
 deriving Inhabited
mutual
noncomputable def OT (G:Gc) (Hf H:Hp) : O->V->List Addr->Prop
 | .fz d,v,fp=>Rep G Hf d v/\fp=[]
 | .lst os,v,fp=>∃ a vs fs,v=.ref a/\H a=some (.lst vs)/\OTs G Hf H os vs fs/\fp=a::fs
 | .tup os,v,fp=>∃ a vs,v=.ref a/\H a=some (.tup vs)/\OTs G Hf H os vs fp
 | .dic ks os,v,fp=>∃ a vs fs,v=.ref a/\H a=some (.dK (ks.zip vs))/\ks.length=vs.length/\OTs G Hf H os vs fs/\fp=a::fs
 | .ins c ns os,v,fp=>∃ a dx vs fs,v=.ref a/\H a=some (.ins (G.cl c) dx (ns.zip vs))/\ns.length=vs.length/\OTs G Hf H os vs fs/\fp=a::fs
 | .jnk n,v,fp=>∃ a vs,v=.ref a/\H a=some (.lst vs)/\vs.length<=n/\fp=[a]
 | .dT ks os,v,fp=>∃ a vs fs,v=.ref a/\H a=some (.dT (ks.zip vs))/\ks.length=vs.length/\OTs G Hf H os vs fs/\fp=a::fs
 | .at l o,v,fp=>v=.ref l/\OT G Hf H o v fp
 | .any,_,fp=>fp=[]
noncomputable def OTs (G:Gc) (Hf H:Hp) : List O->List V->List Addr->Prop
 | [],vs,fp=>vs=[]/\fp=[]
 | o::os,vs,fp=>∃ v r f1 f2,vs=v::r/\OT G Hf H o v f1/\OTs G Hf H os r f2/\fp=f1++f2
end
mutual
noncomputable def O.toD : O->D
 | .fz d=>d
 | .lst os=>.lst (O.toDs os)
 | .tup os=>.tup (O.toDs os)
 | .dic ks os=>.dic ks (O.toDs os)
 | .ins c ns os=>.ins c ns (O.toDs os)
 | .at _ o=>o.toD
 | .jnk _=>.non
 | .dT _ _=>.any
 | .any=>.non
noncomputable def O.toDs : List O->List D
 | []=>[]
 | o::os=>o.toD::O.toDs os
end
mutual
noncomputable def O.kn : O->Bool
 | .fz _=>true
 | .lst os=>O.kns os
 | .tup os=>O.kns os
 | .dic _ os=>O.kns os
 | .ins _ _ os=>O.kns os
 | .at _ o=>o.kn
 | .jnk _=>false
 | .dT _ _=>true
 | .any=>false
noncomputable def O.kns : List O->Bool
 | []=>true
 | o::os=>o.kn && O.kns os
end
section
variable {G:Gc} {Hf H Hf' H':Hp}
mutual
theorem OT.frameM (f:zaf Hf Hf') : ∀ (o:O) (v:V) (fp:List Addr),OT G Hf H o v fp->(∀ b u,H b=some u->(zea u=true\/b∈fp)->H' b=some u)->OT G Hf' H' o v fp
 | .fz d,_,_,h,_=>⟨h.1.up f,h.2⟩
 | .lst os,_,fp,⟨a,vs,fs,e,q,r,ef⟩,k=>⟨a,vs,fs,e,k _ _ q (.inr (by rw [ef]; exact List.mem_cons_self)),OTs.frameM f os vs fs r (fun b u hb hm=>k b u hb (hm.imp_right fun z=>by rw [ef]; exact List.mem_cons_of_mem _ z)),ef⟩
 | .tup os,_,fp,⟨a,vs,e,q,r⟩,k=>⟨a,vs,e,k _ _ q (.inl rfl),OTs.frameM f os vs fp r k⟩
 | .dic ks os,_,fp,⟨a,vs,fs,e,q,z,r,ef⟩,k=>⟨a,vs,fs,e,k _ _ q (.inr (by rw [ef]; exact List.mem_cons_self)),z,OTs.frameM f os vs fs r (fun b u hb hm=>k b u hb (hm.imp_right fun z=>by rw [ef]; exact List.mem_cons_of_mem _ z)),ef⟩
 | .ins c ns os,_,fp,⟨a,dx,vs,fs,e,q,z,r,ef⟩,k=>⟨a,dx,vs,fs,e,k _ _ q (.inr (by rw [ef]; exact List.mem_cons_self)),z,OTs.frameM f os vs fs r (fun b u hb hm=>k b u hb (hm.imp_right fun z=>by rw [ef]; exact List.mem_cons_of_mem _ z)),ef⟩
 | .jnk n,_,fp,⟨a,vs,e,q,z,ef⟩,k=>⟨a,vs,e,k _ _ q (.inr (by rw [ef]; exact List.mem_cons_self)),z,ef⟩
 | .dT ks os,_,fp,⟨a,vs,fs,e,q,z,r,ef⟩,k=>⟨a,vs,fs,e,k _ _ q (.inr (by rw [ef]; exact List.mem_cons_self)),z,OTs.frameM f os vs fs r (fun b u hb hm=>k b u hb (hm.imp_right fun z=>by rw [ef]; exact List.mem_cons_of_mem _ z)),ef⟩
 | .at _ o,v,fp,⟨e,r⟩,k=>⟨e,OT.frameM f o v fp r k⟩
 | .any,_,_,h,_=>h
theorem OTs.frameM (f:zaf Hf Hf') : ∀ (os:List O) (vs:List V) (fp:List Addr),OTs G Hf H os vs fp->(∀ b u,H b=some u->(zea u=true\/b∈fp)->H' b=some u)->OTs G Hf' H' os vs fp
 | [],_,_,h,_=>h
 | o::os,_,fp,⟨v,r,f1,f2,e,h1,h2,ef⟩,k=>⟨v,r,f1,f2,e,OT.frameM f o v f1 h1 (fun b u hb hm=>k b u hb (hm.imp_right fun z=>by rw [ef]; exact List.mem_append_left _ z)),OTs.frameM f os r f2 h2 (fun b u hb hm=>k b u hb (hm.imp_right fun z=>by rw [ef]; exact List.mem_append_right _ z)),ef⟩
end
theorem OT.frame {o:O} {v:V} {fp:List Addr} (h:OT G Hf H o v fp) (f:zaf Hf Hf') (k:∀ b u,H b=some u->(zea u=true\/b∈fp)->H' b=some u) : OT G Hf' H' o v fp:=OT.frameM f o v fp h k
theorem OT.up {o:O} {v:V} {fp:List Addr} (h:OT G Hf H o v fp) (f:zaf Hf Hf') (s:zaf H H') : OT G Hf' H' o v fp:=h.frame f fun b u e _=>s b u e
theorem zmu {α β : Type} : ∀ {ks:List α} {vs us:List β},ks.length=vs.length->ks.length=us.length->ks.zip vs=ks.zip us->vs=us
 | [],[],[],_,_,_=>rfl
 | k::ks,v::vs,u::us,h1,h2,e=>by
  rw [List.zip_cons_cons,List.zip_cons_cons] at e
  injection e with e1 e2
  injection e1 with _ e3
  rw [e3,zmu (by simpa using h1) (by simpa using h2) e2]
 | [],_::_,_,h,_,_=>by cases h
 | [],[],_::_,_,h,_=>by cases h
 | _::_,[],_,h,_,_=>by cases h
 | _::_,_::_,[],_,h,_=>by cases h
mutual
theorem OT.funM : ∀ (o:O) (v:V) (f f':List Addr),OT G Hf H o v f->OT G Hf' H o v f'->f=f'
 | .fz d,_,_,_,h,h'=>h.2.trans h'.2.symm
 | .lst os,_,_,_,⟨a,vs,fs,e,q,r,ef⟩,⟨a',vs',fs',e',q',r',ef'⟩=>by
  subst e ef ef';cases e';rw [q] at q';cases q'
  rw [OTs.funM os vs fs fs' r r']
 | .tup os,_,f,f',⟨a,vs,e,q,r⟩,⟨a',vs',e',q',r'⟩=>by
  subst e;cases e';rw [q] at q';cases q'
  exact OTs.funM os vs f f' r r'
 | .dic ks os,_,_,_,⟨a,vs,fs,e,q,z,r,ef⟩,⟨a',vs',fs',e',q',z',r',ef'⟩=>by
  subst e ef ef';cases e';rw [q] at q';have:=zmu z z' (HO.dK.inj (Option.some.inj q'));subst this
  rw [OTs.funM os vs fs fs' r r']
 | .ins c ns os,_,_,_,⟨a,dx,vs,fs,e,q,z,r,ef⟩,⟨a',dx',vs',fs',e',q',z',r',ef'⟩=>by
  subst e ef ef';cases e';rw [q] at q';have:=zmu z z' (HO.ins.inj (Option.some.inj q')).2.2;subst this
  rw [OTs.funM os vs fs fs' r r']
 | .jnk n,_,_,_,⟨a,vs,e,q,z,ef⟩,⟨a',vs',e',q',z',ef'⟩=>by
  subst e ef ef';cases e'
  rfl
 | .dT ks os,_,_,_,⟨a,vs,fs,e,q,z,r,ef⟩,⟨a',vs',fs',e',q',z',r',ef'⟩=>by
  subst e ef ef';cases e';rw [q] at q';have:=zmu z z' (HO.dT.inj (Option.some.inj q'));subst this
  rw [OTs.funM os vs fs fs' r r']
 | .at _ o,v,f,f',h,h'=>OT.funM o v f f' h.2 h'.2
 | .any,_,_,_,h,h'=>(show _=[] from h).trans (show _=[] from h').symm
theorem OTs.funM : ∀ (os:List O) (vs:List V) (f f':List Addr),OTs G Hf H os vs f->OTs G Hf' H os vs f'->f=f'
 | [],_,_,_,h,h'=>h.2.trans h'.2.symm
 | o::os,_,_,_,⟨v,r,f1,f2,e,h1,h2,ef⟩,⟨v',r',f1',f2',e',h1',h2',ef'⟩=>by
  subst e ef ef';cases e';rw [OT.funM o v f1 f1' h1 h1',OTs.funM os r f2 f2' h2 h2']
end
mutual
theorem OT.memM : ∀ (o:O) (v:V) (f:List Addr),OT G Hf H o v f->∀ a∈f,∃ u,H a=some u/\zea u=false
 | .fz d,_,_,h,a,ha=>by rw [h.2] at ha; cases ha
 | .lst os,_,_,⟨a,vs,fs,e,q,r,ef⟩,b,hb=>by
  subst ef
  rcases List.mem_cons.mp hb with z | z
  ·subst z; exact ⟨_,q,rfl⟩
  ·exact OTs.memM os vs fs r b z
 | .tup os,_,f,⟨a,vs,e,q,r⟩,b,hb=>OTs.memM os vs f r b hb
 | .dic ks os,_,_,⟨a,vs,fs,e,q,z,r,ef⟩,b,hb=>by
  subst ef
  rcases List.mem_cons.mp hb with z | z
  ·subst z; exact ⟨_,q,rfl⟩
  ·exact OTs.memM os vs fs r b z
 | .ins c ns os,_,_,⟨a,dx,vs,fs,e,q,z,r,ef⟩,b,hb=>by
  subst ef
  rcases List.mem_cons.mp hb with z | z
  ·subst z; exact ⟨_,q,rfl⟩
  ·exact OTs.memM os vs fs r b z
 | .jnk n,_,_,⟨a,vs,e,q,z,ef⟩,b,hb=>by
  subst ef;rw [List.mem_singleton.mp hb]
  exact ⟨_,q,rfl⟩
 | .dT ks os,_,_,⟨a,vs,fs,e,q,z,r,ef⟩,b,hb=>by
  subst ef
  rcases List.mem_cons.mp hb with z | z
  ·subst z; exact ⟨_,q,rfl⟩
  ·exact OTs.memM os vs fs r b z
 | .at _ o,v,f,h,a,ha=>OT.memM o v f h.2 a ha
 | .any,_,_,h,a,ha=>by rw [show _=[] from h] at ha; cases ha
theorem OTs.memM : ∀ (os:List O) (vs:List V) (f:List Addr),OTs G Hf H os vs f->∀ a∈f,∃ u,H a=some u/\zea u=false
 | [],_,_,h,a,ha=>by rw [h.2] at ha; cases ha
 | o::os,_,_,⟨v,r,f1,f2,e,h1,h2,ef⟩,a,ha=>by
  subst ef
  rcases List.mem_append.mp ha with z | z
  ·exact OT.memM o v f1 h1 a z
  ·exact OTs.memM os r f2 h2 a z
end
mutual
theorem OT.repM (s:zaf Hf H) : ∀ (o:O) (v:V) (f:List Addr),o.kn=true->OT G Hf H o v f->Rep G H o.toD v
 | .fz d,_,_,_,h=>by rw [O.toD]; exact h.1.up s
 | .lst os,_,_,hk,⟨a,vs,fs,e,q,r,ef⟩=>by rw [O.kn] at hk; rw [O.toD]; exact ⟨a,vs,e,q,OTs.repM s os vs fs hk r⟩
 | .tup os,_,f,hk,⟨a,vs,e,q,r⟩=>by rw [O.kn] at hk; rw [O.toD]; exact ⟨a,vs,e,q,OTs.repM s os vs f hk r⟩
 | .dic ks os,_,_,hk,⟨a,vs,fs,e,q,z,r,ef⟩=>by rw [O.kn] at hk; rw [O.toD]; exact ⟨a,vs,e,q,z,OTs.repM s os vs fs hk r⟩
 | .ins c ns os,_,_,hk,⟨a,dx,vs,fs,e,q,z,r,ef⟩=>by rw [O.kn] at hk; rw [O.toD]; exact ⟨a,dx,vs,e,q,z,OTs.repM s os vs fs hk r⟩
 | .at _ o,v,f,hk,h=>by rw [O.kn] at hk; rw [O.toD]; exact OT.repM s o v f hk h.2
 | .jnk _,_,_,hk,_=>by rw [O.kn] at hk; cases hk
 | .dT _ _,_,_,_,⟨a,_,_,e,_⟩=>by rw [O.toD]; exact ⟨a,e⟩
 | .any,_,_,hk,_=>by rw [O.kn] at hk; cases hk
theorem OTs.repM (s:zaf Hf H) : ∀ (os:List O) (vs:List V) (f:List Addr),O.kns os=true->OTs G Hf H os vs f->zae G H (O.toDs os) vs
 | [],_,_,_,h=>by rw [O.toDs]; exact h.1
 | o::os,_,_,hk,⟨v,r,f1,f2,e,h1,h2,ef⟩=>by
  rw [O.kns,Bool.and_eq_true] at hk;rw [O.toDs];exact ⟨v,r,e,OT.repM s o v f1 hk.1 h1,OTs.repM s os r f2 hk.2 h2⟩
end
theorem OT.rep {o:O} {v:V} {f:List Addr} (h:OT G Hf H o v f) (s:zaf Hf H) (hk:o.kn=true) : Rep G H o.toD v:=OT.repM s o v f hk h
theorem OTs.fz : ∀ {ds:List D} {vs:List V},zae G Hf ds vs->OTs G Hf H (ds.map .fz) vs []
 | [],_,h=>⟨h,rfl⟩
 | d::ds,_,⟨v,r,e,h1,h2⟩=>⟨v,r,[],[],e,⟨h1,rfl⟩,OTs.fz h2,rfl⟩
theorem z7s (ds:List D) : O.toDs (ds.map .fz)=ds:=by
 induction ds with
 | nil=>rfl
 | cons d ds ih=>rw [List.map_cons,O.toDs,O.toD,ih]
end
inductive Sl where
 | no
 | im (d:D)
 | own (xs:List D)
 | ownd (ks:List Key) (xs:List D)
 | obj (c:Str) (ns:List Str) (xs:List D)
 | pin (l:Addr) (xs:List D)
 | pind (l:Addr) (ks:List Key) (xs:List D)
 | pino (l:Addr) (c:Str) (ns:List Str) (xs:List D)
 | deep (o:O)
 | val (u:V)
noncomputable def Sl.isOwn : Sl->Bool
 | .own _=>true
 | .ownd _ _=>true
 | .obj _ _ _=>true
 | .pin _ _=>true
 | .pind _ _ _=>true
 | .pino _ _ _ _=>true
 | _=>false
noncomputable def Sl.calm : Sl->Bool
 | .no=>true
 | .im _=>true
 | _=>false
noncomputable def zdk (G:Gc) (Hf H:Hp) (l:Addr) : Sl->Prop
 | .own ds=>∃ vs,H l=some (.lst vs)/\zae G Hf ds vs
 | .ownd ks ds=>∃ vs,H l=some (.dK (ks.zip vs))/\ks.length=vs.length/\zae G Hf ds vs
 | .obj c ns ds=>∃ dx vs,H l=some (.ins (G.cl c) dx (ns.zip vs))/\ns.length=vs.length/\zae G Hf ds vs
 | .pin l0 ds=>l=l0/\∃ vs,H l=some (.lst vs)/\zae G Hf ds vs
 | .pind l0 ks ds=>l=l0/\∃ vs,H l=some (.dK (ks.zip vs))/\ks.length=vs.length/\zae G Hf ds vs
 | .pino l0 c ns ds=>l=l0/\∃ dx vs,H l=some (.ins (G.cl c) dx (ns.zip vs))/\ns.length=vs.length/\zae G Hf ds vs
 | _=>False
theorem zdk.there {G:Gc} {Hf H:Hp} {l:Addr} {s:Sl} (h:zdk G Hf H l s) : ∃ o,H l=some o:=by
 cases s with
 | own ds=>obtain ⟨vs,h,_⟩:=h; exact ⟨_,h⟩
 | ownd ks ds=>obtain ⟨vs,h,_⟩:=h; exact ⟨_,h⟩
 | obj c ns ds=>obtain ⟨dx,vs,h,_⟩:=h; exact ⟨_,h⟩
 | pin l0 ds=>obtain ⟨_,vs,h,_⟩:=h; exact ⟨_,h⟩
 | pind l0 ks ds=>obtain ⟨_,vs,h,_⟩:=h; exact ⟨_,h⟩
 | pino l0 c ns ds=>obtain ⟨_,dx,vs,h,_⟩:=h; exact ⟨_,h⟩
 | _=>exact h.elim
theorem zdk.there2 {G:Gc} {Hf H:Hp} {l:Addr} {s:Sl} (h:zdk G Hf H l s) : ∃ o,H l=some o/\zea o=false:=by
 cases s with
 | own ds=>obtain ⟨vs,h,_⟩:=h; exact ⟨_,h,rfl⟩
 | ownd ks ds=>obtain ⟨vs,h,_⟩:=h; exact ⟨_,h,rfl⟩
 | obj c ns ds=>obtain ⟨dx,vs,h,_⟩:=h; exact ⟨_,h,rfl⟩
 | pin l0 ds=>obtain ⟨_,vs,h,_⟩:=h; exact ⟨_,h,rfl⟩
 | pind l0 ks ds=>obtain ⟨_,vs,h,_⟩:=h; exact ⟨_,h,rfl⟩
 | pino l0 c ns ds=>obtain ⟨_,dx,vs,h,_⟩:=h; exact ⟨_,h,rfl⟩
 | _=>exact h.elim
theorem zdk.up {G:Gc} {Hf H Hf' H':Hp} {l:Addr} {s:Sl} (h:zdk G Hf H l s) (f:zaf Hf Hf') (e:∀ o,H l=some o->H' l=some o) : zdk G Hf' H' l s:=by
 cases s with
 | own ds=>obtain ⟨vs,h,r⟩:=h; exact ⟨vs,e _ h,r.up f⟩
 | ownd ks ds=>obtain ⟨vs,h,z,r⟩:=h; exact ⟨vs,e _ h,z,r.up f⟩
 | obj c ns ds=>obtain ⟨dx,vs,h,z,r⟩:=h; exact ⟨dx,vs,e _ h,z,r.up f⟩
 | pin l0 ds=>obtain ⟨q,vs,h,r⟩:=h; exact ⟨q,vs,e _ h,r.up f⟩
 | pind l0 ks ds=>obtain ⟨q,vs,h,z,r⟩:=h; exact ⟨q,vs,e _ h,z,r.up f⟩
 | pino l0 c ns ds=>obtain ⟨q,dx,vs,h,z,r⟩:=h; exact ⟨q,dx,vs,e _ h,z,r.up f⟩
 | _=>exact h.elim
noncomputable def zdl (G:Gc) (H0 Hf H:Hp) (v:Option V) : Sl->Prop
 | .no=>True
 | .im d=>∃ u,v=some u/\Rep G Hf d u
 | .deep o=>∃ u fp,v=some u/\OT G Hf H o u fp/\fp.Nodup/\∀ a∈fp,H0 a=none/\Hf a=none
 | .val u=>v=some u
 | s=>∃ l,v=some (.ref l)/\H0 l=none/\Hf l=none/\zdk G Hf H l s
theorem zdl.own {G:Gc} {H0 Hf H:Hp} {v:Option V} {s:Sl} (hs:s.isOwn=true) (h:zdl G H0 Hf H v s) : ∃ l,v=some (.ref l)/\H0 l=none/\Hf l=none/\zdk G Hf H l s:=by
 cases s <;> first | exact h | cases hs
theorem zdl.ofOwn {G:Gc} {H0 Hf H:Hp} {v:Option V} {s:Sl} (hs:s.isOwn=true) (h:∃ l,v=some (.ref l)/\H0 l=none/\Hf l=none/\zdk G Hf H l s) : zdl G H0 Hf H v s:=by
 cases s <;> first | exact h | cases hs
noncomputable def Holds (G:Gc) (Hf H:Hp) (s:Sl) (v:V) (a:Addr) : Prop:=match s with
 | .deep o=>∃ fp,OT G Hf H o v fp/\a∈fp
 | s=>s.isOwn=true/\v=.ref a
theorem Holds.own {G:Gc} {Hf H:Hp} {s:Sl} {v:V} {a:Addr} (hs:s.isOwn=true) : Holds G Hf H s v a↔v=.ref a:=by
 cases s <;> first | exact ⟨fun h=>h.2,fun h=>⟨rfl,h⟩⟩ | cases hs
theorem Holds.calm {G:Gc} {Hf H:Hp} {s:Sl} {v:V} {a:Addr} (h:Holds G Hf H s v a) (hs:s.calm=true) : False:=by
 cases s <;> first | exact Bool.noConfusion h.1 | cases hs
theorem zdl.back {G:Gc} {H0 Hf H Hf' H':Hp} {s:Sl} {v:V} {a:Addr} (q:zdl G H0 Hf H (some v) s) (k:∀ o fp,s=.deep o->OT G Hf H o v fp->OT G Hf' H' o v fp) (h:Holds G Hf' H' s v a) : Holds G Hf H s v a:=by
 cases s with
 | deep o =>
  obtain ⟨u,fp,e,r,_⟩:=q;cases e;obtain ⟨fp',r',ha⟩:=h;have:=OT.funM o v fp fp' (k o fp rfl r) r';subst this
  exact ⟨fp,r,ha⟩
 | _=>exact h
theorem zdl.there {G:Gc} {H0 Hf H:Hp} {s:Sl} {v:V} {a:Addr} (q:zdl G H0 Hf H (some v) s) (h:Holds G Hf H s v a) : ∃ o,H a=some o/\zea o=false:=by
 cases hs : s.isOwn with
 | true =>
  obtain ⟨l,e,_,_,ho⟩:=q.own hs;have e2:=(Holds.own hs).mp h;cases e;cases e2
  exact ho.there2
 | false =>
  cases s with
  | deep o =>
   obtain ⟨fp,r,ha⟩:=h
   exact OT.memM o v fp r a ha
  | _=>first | exact Bool.noConfusion h.1 | cases hs
structure zah (G:Gc) (Hf0 H0 Hf H:Hp) (σ:St) (ρ:List Sl) : Prop where
 ext : Ext Hf0 H0 Hf H
 len : σ.length=ρ.length
 at' : ∀ (i:Nat) (v:Option V) (s:Sl),σ[i]?=some v->ρ[i]?=some s->zdl G H0 Hf H v s
 dj : ∀ (i j:Nat) (s t:Sl) (v w:V) (a:Addr),ρ[i]?=some s->ρ[j]?=some t->σ[i]?=some (some v)->σ[j]?=some (some w)->Holds G Hf H s v a->Holds G Hf H t w a->i=j
section
variable {G:Gc} {Hf0 H0 Hf H Hf' H':Hp} {σ:St} {ρ:List Sl}
theorem zah.sub (h:zah G Hf0 H0 Hf H σ ρ) : zaf Hf H:=h.ext.s
theorem zah.inj (h:zah G Hf0 H0 Hf H σ ρ) (i j:Nat) (s t:Sl) (l:Addr) (a:ρ[i]?=some s) (b:ρ[j]?=some t) (hs:s.isOwn=true) (ht:t.isOwn=true) (c:σ[i]?=some (some (.ref l))) (d:σ[j]?=some (some (.ref l))) : i=j :=
 h.dj i j s t _ _ l a b c d ((Holds.own hs).mpr rfl) ((Holds.own ht).mpr rfl)
theorem zah.re {Hf0' H0':Hp} {ρ':List Sl} (h:zah G Hf0 H0 Hf H σ ρ) (x:Ext Hf0' H0' Hf' H') (hl:ρ'.length=ρ.length) (ha:∀ (i:Nat) (v:Option V) (s:Sl),σ[i]?=some v->ρ'[i]?=some s->zdl G H0' Hf' H' v s)
  (hd:∀ (i:Nat) (s:Sl) (v:V) (a:Addr),ρ'[i]?=some s->σ[i]?=some (some v)->Holds G Hf' H' s v a->∃ t,ρ[i]?=some t/\Holds G Hf H t v a) : zah G Hf0' H0' Hf' H' σ ρ' :=
 ⟨x,h.len.trans hl.symm,ha,fun i j s t v w a b c e f p q=>by
  obtain ⟨s0,b0,p0⟩:=hd i s v a b e p;obtain ⟨t0,c0,q0⟩:=hd j t w a c f q;exact h.dj i j s0 t0 v w a b0 c0 e f p0 q0⟩
theorem zah.step (h:zah G Hf0 H0 Hf H σ ρ) (e:Ext Hf H Hf' H') : zah G Hf0 H0 Hf' H' σ ρ:=by
 refine h.re (h.ext.trans e) rfl (fun i v s a b=>?_) fun i s v a b c d=>⟨s,b,(h.at' i _ s c b).back (fun o fp _ r=>r.up e.f e.h) d⟩;have q:=h.at' i v s a b
 cases hs : s.isOwn with
 | true =>
  obtain ⟨l,e1,e2,e3,e4⟩:=q.own hs;obtain ⟨o,ho,ht⟩:=e4.there2
  exact .ofOwn hs ⟨l,e1,e2,by rw [e.n l o ho ht]; exact e3,e4.up e.f fun o ho=>e.h _ _ ho⟩
 | false =>
  cases s with
  | no=>trivial
  | im d=>obtain ⟨u,e1,r⟩:=q; exact ⟨u,e1,r.up e.f⟩
  | val u=>exact q
  | deep o =>
   obtain ⟨u,fp,e1,r,n,z⟩:=q;refine ⟨u,fp,e1,r.up e.f e.h,n,fun a ha=>⟨(z a ha).1,?_⟩⟩;obtain ⟨oo,ho,ht⟩:=OT.memM o u fp r a ha;rw [e.n a oo ho ht]
   exact (z a ha).2
  | _=>cases hs
theorem zah.slot {i:Nat} {s:Sl} (h:zah G Hf0 H0 Hf H σ ρ) (e:ρ[i]?=some s) : ∃ v,σ[i]?=some v/\zdl G H0 Hf H v s:=by
 have hi : i < σ.length:=by rw [h.len]; exact (List.getElem?_eq_some_iff.mp e).1
 exact ⟨σ[i],by simp [hi],h.at' i _ s (by simp [hi]) e⟩
theorem zah.imm {i:Nat} {d:D} (h:zah G Hf0 H0 Hf H σ ρ) (e:ρ[i]?=some (.im d)) : ∃ v,σ[i]?=some (some v)/\Rep G Hf d v:=by
 obtain ⟨v,e1,u,e2,r⟩:=h.slot e;subst e2;exact ⟨u,e1,r⟩
theorem zah.ownAt {i:Nat} {s:Sl} (hs:s.isOwn=true) (h:zah G Hf0 H0 Hf H σ ρ) (e:ρ[i]?=some s) : ∃ l,σ[i]?=some (some (.ref l))/\H0 l=none/\Hf l=none/\zdk G Hf H l s:=by
 obtain ⟨v,e1,q⟩:=h.slot e;obtain ⟨l,e2,q2⟩:=q.own hs;rw [e2] at e1;exact ⟨l,e1,q2⟩
theorem zck {α : Type} {l:List α} {i j:Nat} {x y:α} (h:(l.set i x)[j]?=some y) : (j=i/\y=x/\i < l.length)\/(j≠i/\l[j]?=some y):=by
 by_cases hj : j=i
 ·subst hj;left;have hi : j < l.length:=by have:=(List.getElem?_eq_some_iff.mp h).1; simpa using this
  rw [List.getElem?_set_self hi] at h;exact ⟨rfl,(Option.some.inj h).symm,hi⟩
 ·right;rw [List.getElem?_set_ne (Ne.symm hj)] at h;exact ⟨hj,h⟩
theorem zah.setIm {i:Nat} {d:D} {v:V} (h:zah G Hf0 H0 Hf H σ ρ) (r:Rep G Hf d v) : zah G Hf0 H0 Hf H (σ.set i (some v)) (ρ.set i (.im d)):=by
 refine ⟨h.ext,by simpa using h.len,fun j u s a b=>?_,fun j k s t u w l a b c d' p q=>?_⟩
 ·rcases zck b with ⟨e,e',_⟩ | ⟨e,b⟩
  ·subst e e'
   rcases zck a with ⟨_,e',_⟩ | ⟨e,_⟩
   ·subst e'; exact ⟨v,rfl,r⟩
   ·exact absurd rfl e
  ·rcases zck a with ⟨e',_⟩ | ⟨_,a⟩
   ·exact absurd e' e
   ·exact h.at' j u s a b
 ·rcases zck a with ⟨e,e',_⟩ | ⟨e,a⟩
  ·subst e'; exact (p.calm rfl).elim
  ·rcases zck b with ⟨e2,e',_⟩ | ⟨e2,b⟩
   ·subst e'; exact (q.calm rfl).elim
   ·rcases zck c with ⟨e',_⟩ | ⟨_,c⟩
    ·exact absurd e' e
    ·rcases zck d' with ⟨e',_⟩ | ⟨_,d'⟩
     ·exact absurd e' e2
     ·exact h.dj j k s t u w l a b c d' p q
theorem zah.setNew {i:Nat} {u:V} {s:Sl} (h:zah G Hf0 H0 Hf H σ ρ) (e:Ext Hf H Hf' H') (ho:zdl G H0 Hf' H' (some u) s) (hn:∀ a,Holds G Hf' H' s u a->H a=none) :
  zah G Hf0 H0 Hf' H' (σ.set i (some u)) (ρ.set i s):=by
 have h':=h.step e
 have no : ∀ (j:Nat) (t:Sl) (w:V) (a:Addr),ρ[j]?=some t->σ[j]?=some (some w)->Holds G Hf' H' t w a->Holds G Hf' H' s u a->False:=fun j t w a b c p q=>by
  have p0:=(h.at' j _ t c b).back (fun o fp _ r=>r.up e.f e.h) p;obtain ⟨o,ho,_⟩:=(h.at' j _ t c b).there p0;rw [hn a q] at ho; cases ho
 refine ⟨h'.ext,by simpa using h.len,fun j w t a b=>?_,fun j k t t' v w l a b c d' p q=>?_⟩
 ·rcases zck b with ⟨e,e',_⟩ | ⟨e,b⟩
  ·subst e e'
   rcases zck a with ⟨_,e',_⟩ | ⟨e,_⟩
   ·subst e'; exact ho
   ·exact absurd rfl e
  ·rcases zck a with ⟨e',_⟩ | ⟨_,a⟩
   ·exact absurd e' e
   ·exact h'.at' j w t a b
 ·rcases zck a with ⟨e1,e1',_⟩ | ⟨e1,a⟩
  ·rcases zck b with ⟨e2,e2',_⟩ | ⟨e2,b⟩
   ·rw [e1,e2]
   ·rcases zck c with ⟨_,e',_⟩ | ⟨e',_⟩
    ·cases e';rw [e1'] at p
     rcases zck d' with ⟨e',_⟩ | ⟨_,d'⟩
     ·exact absurd e' e2
     ·exact (no k t' w l b d' q p).elim
    ·exact absurd e1 e'
  ·rcases zck c with ⟨e',_⟩ | ⟨_,c⟩
   ·exact absurd e' e1
   ·rcases zck b with ⟨e2,e2',_⟩ | ⟨e2,b⟩
    ·rcases zck d' with ⟨_,e',_⟩ | ⟨e',_⟩
     ·cases e';rw [e2'] at q;exact (no j t v l a c p q).elim
     ·exact absurd e2 e'
    ·rcases zck d' with ⟨e',_⟩ | ⟨_,d'⟩
     ·exact absurd e' e2
     ·exact h'.dj j k t t' v w l a b c d' p q
theorem zah.setOwn {i:Nat} {l:Addr} {s:Sl} (hs:s.isOwn=true) (h:zah G Hf0 H0 Hf H σ ρ) (e:Ext Hf H Hf' H') (hn:H l=none) (hf:Hf' l=none) (ho:zdk G Hf' H' l s) :
  zah G Hf0 H0 Hf' H' (σ.set i (some (.ref l))) (ρ.set i s) :=
 h.setNew e (.ofOwn hs ⟨l,rfl,h.ext.h.free hn,hf,ho⟩) fun a p=>by cases (Holds.own hs).mp p; exact hn
theorem zah.chg {i:Nat} {s s':Sl} {v:V} (h:zah G Hf0 H0 Hf H σ ρ) (e:ρ[i]?=some s) (el:σ[i]?=some (some v)) (k:∀ b u,H b=some u->Holds G Hf H s v b\/H' b=some u) (ho:zdl G H0 Hf H' (some v) s')
  (hh:∀ a,Holds G Hf H' s' v a->Holds G Hf H s v a\/∀ (j:Nat) (t:Sl) (w:V),ρ[j]?=some t->σ[j]?=some (some w)->Holds G Hf H t w a->False) : zah G Hf0 H0 Hf H' σ (ρ.set i s'):=by
 have q:=h.at' i _ s el e
 have gone : ∀ b,Holds G Hf H s v b->H0 b=none/\Hf b=none:=fun b p=>by
  cases hs : s.isOwn with
  | true =>
   obtain ⟨l,e1,h0,hf,_⟩:=q.own hs;have e2:=(Holds.own hs).mp p;cases e1;cases e2
   exact ⟨h0,hf⟩
  | false =>
   cases s with
   | deep o =>
    obtain ⟨u,fp,e1,r,n,z⟩:=q;cases e1;obtain ⟨fp',r',ha⟩:=p;have:=OT.funM o v fp fp' r r';subst this
    exact z b ha
   | _=>first | exact Bool.noConfusion p.1 | cases hs
 have fr : ∀ (j:Nat) (t:Sl) (w:V),j≠i->ρ[j]?=some t->σ[j]?=some (some w)->∀ o fp,t=.deep o->OT G Hf H o w fp->OT G Hf H' o w fp:=fun j t w hj b c o fp et r=>by
  subst et;refine r.frame (zaf.refl _) fun x u hx hm=>?_
  rcases k x u hx with z | z
  ·rcases hm with hm | hm
   ·obtain ⟨o',ho',ht'⟩:=q.there z;rw [hx] at ho';cases ho';rw [hm] at ht';cases ht'
   ·exact absurd (h.dj j i _ s w v x b e c el ⟨fp,r,hm⟩ z) hj
  ·exact z
 refine ⟨⟨h.ext.f,fun b u e=>?_,fun b u e=>?_,h.ext.n⟩,by simpa using h.len,fun j u t a b=>?_,fun j j' t t' w w' a b c b' c' p p'=>?_⟩
 ·rcases k b u (h.ext.h b u e) with z | z
  ·rw [(gone b z).1] at e; cases e
  ·exact z
 ·rcases k b u (h.ext.s b u e) with z | z
  ·rw [(gone b z).2] at e; cases e
  ·exact z
 ·rcases zck b with ⟨e',e2,_⟩ | ⟨en,b⟩
  ·subst e' e2;rw [el] at a; cases a;exact ho
  ·have q':=h.at' j u t a b
   cases ht : t.isOwn with
   | false =>
    cases t with
    | no=>trivial
    | im d=>exact q'
    | val u=>exact q'
    | deep o =>
     obtain ⟨w,fp,e1,r,n,z⟩:=q';subst e1
     exact ⟨w,fp,rfl,fr j _ w en b a o fp rfl r,n,z⟩
    | _=>cases ht
   | true =>
    obtain ⟨l2,e2,e3,e4,q2⟩:=q'.own ht;subst e2;refine .ofOwn ht ⟨l2,rfl,e3,e4,q2.up (zaf.refl _) fun o' ho'=>?_⟩
    rcases k l2 o' ho' with z | z
    ·exact absurd (h.dj j i t s _ v l2 b e a el ((Holds.own ht).mpr rfl) z) en
    ·exact z
 ·have old : ∀ (j:Nat) (t:Sl) (w:V),(ρ.set i s')[j]?=some t->σ[j]?=some (some w)->Holds G Hf H' t w a->(j=i/\∀ (j:Nat) (t:Sl) (w:V),ρ[j]?=some t->σ[j]?=some (some w)->Holds G Hf H t w a->False)\/∃ t0,ρ[j]?=some t0/\Holds G Hf H t0 w a:=fun j t w b y p=>by
   rcases zck b with ⟨e',e2,_⟩ | ⟨en,b⟩
   ·rw [e2] at p;rw [e',el] at y;cases y;rw [e']
    rcases hh a p with z | z
    ·exact .inr ⟨s,e,z⟩
    ·exact .inl ⟨rfl,z⟩
   ·exact .inr ⟨t,b,(h.at' j _ t y b).back (fr j t w en b y) p⟩
  rcases old j t w b b' p with ⟨z1,z2⟩ | ⟨t0,z1,z2⟩
  ·rcases old j' t' w' c c' p' with ⟨y1,y2⟩ | ⟨t1,y1,y2⟩
   ·rw [z1,y1]
   ·exact (z2 j' t1 w' y1 c' y2).elim
  ·rcases old j' t' w' c c' p' with ⟨y1,y2⟩ | ⟨t1,y1,y2⟩
   ·exact (y2 j t0 w z1 b' z2).elim
   ·exact h.dj j j' t0 t1 w w' a z1 y1 b' c' z2 y2
theorem zah.chgX {i:Nat} {s s':Sl} {v:V} {H1:Hp} (h:zah G Hf0 H0 Hf H σ ρ) (x:Ext Hf H Hf' H1) (e:ρ[i]?=some s) (el:σ[i]?=some (some v)) (k:∀ b u,H1 b=some u->Holds G Hf H s v b\/H' b=some u) (ho:zdl G H0 Hf' H' (some v) s')
  (hh:∀ a,Holds G Hf' H' s' v a->Holds G Hf H s v a\/H a=none) : zah G Hf0 H0 Hf' H' σ (ρ.set i s'):=by
 have up : ∀ b,Holds G Hf H s v b->Holds G Hf' H1 s v b:=fun b p=>by
  cases s with
  | deep o=>obtain ⟨fp,r,hb⟩:=p; exact ⟨fp,r.up x.f x.h,hb⟩
  | _=>exact p
 refine (h.step x).chg e el (fun b u hb=>(k b u hb).imp_left (up b)) ho fun a p=>?_
 rcases hh a p with z | z
 ·exact .inl (up a z)
 ·refine .inr fun j t w b c q=>?_;obtain ⟨o,ho,_⟩:=(h.at' j _ t c b).there ((h.at' j _ t c b).back (fun o fp _ r=>r.up x.f x.h) q);rw [z] at ho;cases ho
theorem zah.mutd {i:Nat} {l:Addr} {s s':Sl} {o:HO} (hs:s.isOwn=true) (hs':s'.isOwn=true) (h:zah G Hf0 H0 Hf H σ ρ) (e:ρ[i]?=some s) (el:σ[i]?=some (some (.ref l))) (ho:zdk G Hf (upd H l o) l s') :
  zah G Hf0 H0 Hf (upd H l o) σ (ρ.set i s'):=by
 obtain ⟨l',e1,h0,hf,q⟩:=h.ownAt hs e;rw [el] at e1; cases e1;refine h.chg e el (fun b u hb=>?_) (.ofOwn hs' ⟨l,rfl,h0,hf,ho⟩) fun a p=>.inl ?_
 ·by_cases hl : b=l
  ·subst hl; exact .inl ((Holds.own hs).mpr rfl)
  ·exact .inr (by rw [zar hl]; exact hb)
 ·exact (Holds.own hs).mpr ((Holds.own hs').mp p)
theorem zah.fixd {i:Nat} {l:Addr} {s:Sl} {d:D} {o:HO} (hs:s.isOwn=true) (h:zah G Hf0 H0 Hf H σ ρ) (e:ρ[i]?=some s) (el:σ[i]?=some (some (.ref l))) (ho:H l=some o) (hr:Rep G (upd Hf l o) d (.ref l)) :
  zah G Hf0 H0 (upd Hf l o) H σ (ρ.set i (.im d)):=by
 obtain ⟨l',e1,h0,hf,q⟩:=h.ownAt hs e;rw [el] at e1; cases e1;refine h.re (h.ext.fix h0 hf ho) (by simp) (fun j u t a b=>?_) fun j t v a b c p=>?_
 ·rcases zck b with ⟨e,e',_⟩ | ⟨en,b⟩
  ·subst e e';rw [el] at a; cases a;exact ⟨_,rfl,hr⟩
  ·have q:=h.at' j u t a b
   cases ht : t.isOwn with
   | false =>
    cases t with
    | no=>trivial
    | im d=>obtain ⟨u',e1,r⟩:=q; exact ⟨u',e1,r.up (zbz hf)⟩
    | val u'=>exact q
    | deep o =>
     obtain ⟨w,fp,e1,r,n,z⟩:=q;subst e1;refine ⟨w,fp,rfl,r.up (zbz hf) (zaf.refl _),n,fun x hx=>⟨(z x hx).1,?_⟩⟩;rw [zar (fun y=>?_)]
     ·exact (z x hx).2
     ·subst y
      exact en (h.dj j i _ s w _ x b e a el ⟨fp,r,hx⟩ ((Holds.own hs).mpr rfl))
    | _=>cases ht
   | true =>
    obtain ⟨l2,e2,e3,e4,q2⟩:=q.own ht;subst e2;refine .ofOwn ht ⟨l2,rfl,e3,?_,q2.up (zbz hf) fun o' ho'=>ho'⟩;rw [zar (fun z=>?_)]
    ·exact e4
    ·subst z;exact en (h.inj j i t s l2 b e ht hs a el)
 ·rcases zck b with ⟨_,e',_⟩ | ⟨_,b⟩
  ·subst e'; exact (p.calm rfl).elim
  ·exact ⟨t,b,(h.at' j _ t c b).back (fun o fp _ r=>r.up (zbz hf) (zaf.refl _)) p⟩
end
section
variable {X:Cx} {e:Expr}
theorem PE.imp {t t':TE} (h:PE X e t) (i:∀ σ H Q,t' σ H Q->t σ H Q) : PE X e t':=fun pins s σ H Q I q=>h pins s σ H Q I (i σ H Q q)
theorem PT.imp {t t':TT} (h:PT X e t) (i:∀ σ H Q,t' σ H Q->t σ H Q) : PT X e t':=fun pins s σ H Q I q=>h pins s σ H Q I (i σ H Q q)
theorem PW.imp {t t':TT} (h:PW X e t) (i:∀ σ H Q,t' σ H Q->t σ H Q) : PW X e t':=fun wh pins s σ H Q I q=>h wh pins s σ H Q I (i σ H Q q)
theorem PA.imp {es:List Expr} {t t':TA} (h:PA X es t) (i:∀ σ H Q,t' σ H Q->t σ H Q) : PA X es t':=fun pos pins s σ H Q I q=>h pos pins s σ H Q I (i σ H Q q)
theorem PS.imp {st:Stmt} {t t':TS} (h:PS X st t) (i:∀ E σ H,t' E σ H->t E σ H) : PS X st t':=fun pins s σ H E I q=>h pins s σ H E I (i E σ H q)
theorem PSs.imp {st:List Stmt} {t t':TS} (h:PSs X st t) (i:∀ E σ H,t' E σ H->t E σ H) : PSs X st t':=fun pins s σ H E I q=>h pins s σ H E I (i E σ H q)
theorem PG.imp {t t':TG} (h:PG X e t) (i:∀ v σ H Q,t' v σ H Q->t v σ H Q) : PG X e t':=fun pins s σ H v u Q I r q=>h pins s σ H v u Q I r (i v σ H Q q)
theorem PGs.imp {es:List Expr} {t t':TGs} (h:PGs X es t) (i:∀ v σ H Q,t' v σ H Q->t v σ H Q) : PGs X es t':=fun pins s σ H v u Q I r q=>h pins s σ H v u Q I r (i v σ H Q q)
theorem PI.imp {tg:Expr} {t t':TI} (h:PI X tg e t) (i:∀ σ H R,t' σ H R->t σ H R) : PI X tg e t':=fun pins s σ H R I q=>h pins s σ H R I (i σ H R q)
theorem PTs.imp {ifs:List Expr} {t t':TT} (h:PTs X ifs t) (i:∀ σ H Q,t' σ H Q->t σ H Q) : PTs X ifs t':=fun pins s σ H Q I q=>h pins s σ H Q I (i σ H Q q)
theorem OpR.imp {f:Value->Value->Sem Value} {r r':R2} (h:OpR X f r) (i:∀ x y H Q,r' x y H Q->r x y H Q) : OpR X f r':=fun pins s σ H x y v u Q I rx ry q=>h pins s σ H x y v u Q I rx ry (i x y H Q q)
theorem zc9.imp {f:Value} {r r':List V->Hp->VK->Prop} (h:zc9 X f r) (i:∀ xs H Q,r' xs H Q->r xs H Q) : zc9 X f r':=fun pins s σ H xs us Q I rx q=>h pins s σ H xs us Q I rx (i xs H Q q)
end
noncomputable abbrev Gx (c:Str->Addr) (X:Cx) : Gc:=⟨X.K,c⟩
noncomputable def tD (G:Gc) (f:List Sl->Option D) : TE:=fun σ H Q=>∃ Hf0 H0 Hf ρ d,zah G Hf0 H0 Hf H σ ρ/\f ρ=some d/\∀ v Hf' H',Ext Hf H Hf' H'->Rep G Hf' d v->Q v H'
noncomputable def tDB (G:Gc) (f:List Sl->Option D) : TE:=fun σ H Q=>∃ Hf0 H0 Hf ρ d,zah G Hf0 H0 Hf H σ ρ/\f ρ=some d/\∀ v Hf' H',Ext Hf H Hf' H'->Rep G H' d v->Q v H'
noncomputable def tDC (G:Gc) (f:List Sl->Option (List D)) : TE:=fun σ H Q=>∃ Hf0 H0 Hf ρ ds,zah G Hf0 H0 Hf H σ ρ/\f ρ=some ds/\∀ a vs Hf' H',Ext Hf H Hf' H'->(SqL G.K H' a vs\/SqT G.K H' a vs)->zae G Hf' ds vs->Q (.ref a) H'
noncomputable def tDO (G:Gc) (f:List Sl->Option (List D)) : TE:=fun σ H Q=>∃ Hf0 H0 Hf ρ ds,zah G Hf0 H0 Hf H σ ρ/\f ρ=some ds /\
 ∀ l vs Hf' H',Ext Hf H Hf' H'->H l=none->Hf' l=none->H' l=some (.lst vs)->zae G Hf' ds vs->Q (.ref l) H'
noncomputable def tDA (G:Gc) (f:List Sl->Option (List D)) : TA:=fun σ H Q=>∃ Hf0 H0 Hf ρ ds,zah G Hf0 H0 Hf H σ ρ/\f ρ=some ds/\∀ vs Hf' H',Ext Hf H Hf' H'->zae G Hf' ds vs->Q vs H'
noncomputable def z66 (G:Gc) (f:List Sl->Option (List D)) : TA:=fun σ H Q=>∃ Hf0 H0 Hf ρ ds,zah G Hf0 H0 Hf H σ ρ/\f ρ=some ds/\∀ vs Hf' H',Ext Hf H Hf' H'->zae G H' ds vs->Q vs H'
noncomputable def tDT (G:Gc) (f:List Sl->Option Bool) : TT:=fun σ H Q=>∃ Hf0 H0 Hf ρ b,zah G Hf0 H0 Hf H σ ρ/\f ρ=some b/\∀ Hf' H',Ext Hf H Hf' H'->Q b H'
noncomputable def DE (c:Str->Addr) (X:Cx) (e:Expr) (f:List Sl->Option D) : Prop:=PE X e (tD (Gx c X) f)
noncomputable def DB (c:Str->Addr) (X:Cx) (e:Expr) (f:List Sl->Option D) : Prop:=PE X e (tDB (Gx c X) f)
noncomputable def DC (c:Str->Addr) (X:Cx) (e:Expr) (f:List Sl->Option (List D)) : Prop:=PE X e (tDC (Gx c X) f)
noncomputable def DO (c:Str->Addr) (X:Cx) (e:Expr) (f:List Sl->Option (List D)) : Prop:=PE X e (tDO (Gx c X) f)
structure DA (c:Str->Addr) (X:Cx) (es:List Expr) (f:List Sl->Option (List D)) : Prop where
 pa : PA X es (tDA (Gx c X) f)
 len : ∀ ρ ds,f ρ=some ds->ds.length=es.length
structure DAB (c:Str->Addr) (X:Cx) (es:List Expr) (f:List Sl->Option (List D)) : Prop where
 pa : PA X es (z66 (Gx c X) f)
 len : ∀ ρ ds,f ρ=some ds->ds.length=es.length
noncomputable def DT (c:Str->Addr) (X:Cx) (e:Expr) (f:List Sl->Option Bool) : Prop:=PT X e (tDT (Gx c X) f)
noncomputable def DW (c:Str->Addr) (X:Cx) (e:Expr) (f:List Sl->Option Bool) : Prop:=PW X e (tDT (Gx c X) f)
noncomputable def D.scalar : D->Bool
 | .non=>true
 | .bl _=>true
 | .int _=>true
 | .str _=>true
 | _=>false
theorem Rep.sc {G:Gc} {H H':Hp} {d:D} {v:V} (hs:d.scalar=true) (r:Rep G H d v) : Rep G H' d v:=by
 cases d <;> first | exact r | cases hs
noncomputable def zgr : D->Option (List D)
 | .lst xs=>some xs
 | .tup xs=>some xs
 | .kl xs=>some xs
 | .kt xs=>some xs
 | _=>none
theorem zmj {G:Gc} {H:Hp} {d:D} {v:V} {ds:List D} (e:zgr d=some ds) (r:Rep G H d v) : ∃ a vs,v=.ref a/\(SqL G.K H a vs\/SqT G.K H a vs)/\zae G H ds vs:=by
 cases d with
 | lst xs=>cases e; obtain ⟨a,vs,e1,q,r⟩:=r; exact ⟨a,vs,e1,.inl (SqL.of q),r⟩
 | tup xs=>cases e; obtain ⟨a,vs,e1,q,r⟩:=r; exact ⟨a,vs,e1,.inr (SqT.of q),r⟩
 | kl xs=>cases e; obtain ⟨a,vs,e1,q,r⟩:=r; exact ⟨a,vs,e1,.inl q,r⟩
 | kt xs=>cases e; obtain ⟨a,vs,e1,q,r⟩:=r; exact ⟨a,vs,e1,.inr q,r⟩
 | _=>cases e
theorem zpj {K:PySem.W.Frag} {H H':Hp} (s:zaf H H') {a:Addr} {vs:List V} (h:SqL K H a vs\/SqT K H a vs) : SqL K H' a vs\/SqT K H' a vs:=h.imp s.seq s.tup
noncomputable def za2 (f:List Sl->Option (List D)) (ρ:List Sl) : Option D:=(f ρ).map .lst
noncomputable def zbo (f:List Sl->Option (List D)) (ρ:List Sl) : Option D:=(f ρ).map .tup
noncomputable def zbn (f:List Sl->Option D) (ρ:List Sl) : Option (List D):=(f ρ).bind zgr
noncomputable def zb8 (f g:List Sl->Option D) (ρ:List Sl) : Option D:=(f ρ).or (g ρ)
section
variable {c:Str->Addr} {X:Cx} {e a b:Expr} {es:List Expr} {pos:Pos}
theorem DE.db {f:List Sl->Option D} (h:DE c X e f) : DB c X e f:=PE.imp h fun σ H Q q_=>by
 obtain ⟨Hf0,H0,Hf,ρ,d,st,ef,k⟩:=q_;exact (⟨Hf0,H0,Hf,ρ,d,st,ef,fun v Hf' H' x r=>k v Hf' H' x (r.up x.s)⟩)
theorem DE.dc {f:List Sl->Option D} (h:DE c X e f) : DC c X e (zbn f):=PE.imp h fun σ H Q q_=>by
 obtain ⟨Hf0,H0,Hf,ρ,ds,st,ef,k⟩:=q_;unfold zbn at ef
 cases ed : f ρ with
 | none=>rw [ed] at ef; cases ef
 | some d =>
  rw [ed] at ef;refine ⟨Hf0,H0,Hf,ρ,d,st,ed,fun v Hf' H' x r=>?_⟩;obtain ⟨a,vs,e1,q,rs⟩:=zmj ef r;subst e1;exact k a vs Hf' H' x (zpj x.s q) rs
theorem DO.de {f:List Sl->Option (List D)} (h:DO c X e f) : DE c X e (za2 f):=PE.imp h fun σ H Q q_=>by
 obtain ⟨Hf0,H0,Hf,ρ,d,st,ef,k⟩:=q_;unfold za2 at ef
 cases ed : f ρ with
 | none=>rw [ed] at ef; cases ef
 | some ds =>
  rw [ed] at ef;have ef : D.lst ds=d:=Option.some.inj ef;subst ef;exact ⟨Hf0,H0,Hf,ρ,ds,st,ed,fun l vs Hf' H' x hn hf hl r=>k _ (upd Hf' l (.lst vs)) H' (x.fix hn hf hl) ⟨l,vs,rfl,zbb,r.up (zbz hf)⟩⟩
theorem DO.dc {f:List Sl->Option (List D)} (h:DO c X e f) : DC c X e f:=PE.imp h fun σ H Q q_=>by
 obtain ⟨Hf0,H0,Hf,ρ,ds,st,ef,k⟩:=q_;exact (
 ⟨Hf0,H0,Hf,ρ,ds,st,ef,fun l vs Hf' H' x hn hf hl r=>k l vs Hf' H' x (.inl (SqL.of hl)) r⟩)
theorem DB.sc {f:List Sl->Option D} (h:DB c X e f) (hs:∀ ρ d,f ρ=some d->d.scalar=true) : DE c X e f:=PE.imp h fun σ H Q q_=>by
 obtain ⟨Hf0,H0,Hf,ρ,d,st,ef,k⟩:=q_;exact (
 ⟨Hf0,H0,Hf,ρ,d,st,ef,fun v Hf' H' x r=>k v Hf' H' x (r.sc (hs ρ d ef))⟩)
theorem DE.orE {f g:List Sl->Option D} (h:DE c X e f) (h':DE c X e g) : DE c X e (zb8 f g):=fun pins s σ H Q I q_=>by
 obtain ⟨Hf0,H0,Hf,ρ,d,st,ef,k⟩:=q_;unfold zb8 at ef
 cases ed : f ρ with
 | some d' =>
  rw [ed] at ef;cases ef
  exact h pins s σ H Q I ⟨Hf0,H0,Hf,ρ,_,st,ed,k⟩
 | none =>
  rw [ed] at ef;exact h' pins s σ H Q I ⟨Hf0,H0,Hf,ρ,d,st,ef,k⟩
noncomputable def zab (i:Nat) (ρ:List Sl) : Option D:=match ρ[i]? with
 | some (.im d)=>some d
 | _=>none
noncomputable def zew (i:Nat) (ρ:List Sl) : Option D:=match ρ[i]? with
 | some (.im d)=>some d
 | some (.own xs)=>some (.lst xs)
 | some (.ownd ks xs)=>some (.dic ks xs)
 | some (.deep o)=>if o.kn then some o.toD else none
 | _=>none
noncomputable def zag (i:Nat) (ρ:List Sl) : Option (List D):=match ρ[i]? with
 | some (.im d)=>zgr d
 | some (.own xs)=>some xs
 | _=>none
theorem zs6 {i:Nat} {ρ:List Sl} {d:D} (h:zab i ρ=some d) : ρ[i]?=some (.im d):=by
 unfold zab at h
 cases e : ρ[i]? with
 | none=>rw [e] at h; cases h
 | some s=>rw [e] at h; cases s <;> cases h; rfl
theorem zqw {i:Nat} (h:PE X e (zdg i)) : DE c X e (zab i):=PE.imp h fun σ H Q q_=>by
 obtain ⟨Hf0,H0,Hf,ρ,d,st,ef,k⟩:=q_;obtain ⟨v,e1,r⟩:=st.imm (zs6 ef);exact ⟨v,e1,k v Hf H (Ext.refl st.sub) r⟩
theorem zqu {i:Nat} (h:PE X e (zdg i)) : DC c X e (zag i):=PE.imp h fun σ H Q q_=>by
 obtain ⟨Hf0,H0,Hf,ρ,ds,st,ef,k⟩:=q_;unfold zag at ef
 cases es : ρ[i]? with
 | none=>rw [es] at ef; cases ef
 | some s =>
  rw [es] at ef
  cases s with
  | im d =>
   obtain ⟨v,e1,r⟩:=st.imm es;obtain ⟨a,vs,e2,q,rs⟩:=zmj ef r;subst e2
   exact ⟨_,e1,k a vs Hf H (Ext.refl st.sub) (zpj st.sub q) rs⟩
  | own xs =>
   cases ef;obtain ⟨l,e1,_,_,vs,q,r⟩:=st.ownAt rfl es
   exact ⟨_,e1,k l vs Hf H (Ext.refl st.sub) (.inl (SqL.of q)) r⟩
  | _=>cases ef
theorem zxq {i:Nat} (h:PE X e (zdg i)) : DB c X e (zew i):=PE.imp h fun σ H Q q_=>by
 obtain ⟨Hf0,H0,Hf,ρ,d,st,ef,k⟩:=q_;unfold zew at ef
 cases es : ρ[i]? with
 | none=>rw [es] at ef; cases ef
 | some s =>
  rw [es] at ef
  cases s with
  | im d =>
   cases ef;obtain ⟨v,e1,r⟩:=st.imm es
   exact ⟨_,e1,k v Hf H (Ext.refl st.sub) (r.up st.sub)⟩
  | own xs =>
   cases ef;obtain ⟨l,e1,_,_,vs,q,r⟩:=st.ownAt rfl es
   exact ⟨_,e1,k _ Hf H (Ext.refl st.sub) ⟨l,vs,rfl,q,r.up st.sub⟩⟩
  | ownd ks xs =>
   cases ef;obtain ⟨l,e1,_,_,vs,q,z,r⟩:=st.ownAt rfl es
   exact ⟨_,e1,k _ Hf H (Ext.refl st.sub) ⟨l,vs,rfl,q,z,r.up st.sub⟩⟩
  | deep o =>
   replace ef : (if o.kn=true then some o.toD else none)=some d:=ef;split at ef
   ·rename_i hk;cases ef;obtain ⟨v,e1,u,fp,e2,r,_⟩:=st.slot es;subst e2;exact ⟨_,e1,k _ Hf H (Ext.refl st.sub) (r.rep st.sub hk)⟩
   ·cases ef
  | _=>cases ef
theorem zk5 {v:V} {d:D} (h:PE X e (tC v)) (r:∀ G H,Rep G H d v) : DE c X e (fun _=>some d):=PE.imp h fun σ H Q q_=>by
 obtain ⟨Hf0,H0,Hf,ρ,d',st,ef,k⟩:=q_;cases ef;exact k v Hf H (Ext.refl st.sub) (r _ _)
theorem zad {i:Int} {j} : DE c X (.Constant (.int i) j pos) (fun _=>some (.int i)):=zk5 z32 fun _ _=>rfl
theorem zbf {i:Bool} {j} : DE c X (.Constant (.bool i) j pos) (fun _=>some (.bl i)):=zk5 z3v fun _ _=>rfl
theorem zeq {j} : DE c X (.Constant .none j pos) (fun _=>some .non):=zk5 z34 fun _ _=>rfl
theorem zbr {i:Str} {j} : DE c X (.Constant (.str i) j pos) (fun _=>some (.str i)):=zk5 z4a fun _ _=>rfl
theorem dv (i:Nat) {x:Str} (hN:X.N[i]?=some x:=by rfl) (hv:Vis X.env.scope x:=by first | exact Or.inl rfl | exact Or.inr (Or.inl rfl) | exact Or.inr (Or.inr rfl)) (hd:(x==("__debug__" : Str))=false:=by decide)
  (hcd:(x==("__classdict__" : Str))=false:=by decide) : DE c X (.Name x pos) (zab i):=zqw (zif hN hv hd hcd)
theorem dvC (i:Nat) {x:Str} (hN:X.N[i]?=some x:=by rfl) (hv:Vis X.env.scope x:=by first | exact Or.inl rfl | exact Or.inr (Or.inl rfl) | exact Or.inr (Or.inr rfl)) (hd:(x==("__debug__" : Str))=false:=by decide)
  (hcd:(x==("__classdict__" : Str))=false:=by decide) : DC c X (.Name x pos) (zag i):=zqu (zif hN hv hd hcd)
theorem dvB (i:Nat) {x:Str} (hN:X.N[i]?=some x:=by rfl) (hv:Vis X.env.scope x:=by first | exact Or.inl rfl | exact Or.inr (Or.inl rfl) | exact Or.inr (Or.inr rfl)) (hd:(x==("__debug__" : Str))=false:=by decide)
  (hcd:(x==("__classdict__" : Str))=false:=by decide) : DB c X (.Name x pos) (zew i):=zxq (zif hN hv hd hcd)
noncomputable def zaa (f:List Sl->Option D) (g:List Sl->Option (List D)) (ρ:List Sl) : Option (List D):=(f ρ).bind fun d=>(g ρ).map fun ds=>d::ds
theorem zlr {f:List Sl->Option D} {g:List Sl->Option (List D)} {ρ:List Sl} {ds:List D} (h:zaa f g ρ=some ds) : ∃ d r,f ρ=some d/\g ρ=some r/\ds=d::r:=by
 unfold zaa at h
 cases e1 : f ρ with
 | none=>rw [e1] at h; cases h
 | some d =>
  cases e2 : g ρ with
  | none=>rw [e1,e2] at h; cases h
  | some r=>rw [e1,e2] at h; cases h; exact ⟨d,r,rfl,rfl,rfl⟩
theorem zaj : DA c X [] (fun _=>some []):=⟨PA.imp zdf fun σ H Q ⟨Hf0,H0,Hf,ρ,ds,st,ef,k⟩=>by cases ef; exact k [] Hf H (Ext.refl st.sub) rfl,fun ρ ds h=>by cases h; rfl⟩
theorem zac {f:List Sl->Option D} {g:List Sl->Option (List D)} (ha:DE c X e f) (hr:DA c X es g) (hs:starEach (e::es) X.env=(false,eval e X.env)::starEach es X.env:=by rfl) : DA c X (e::es) (zaa f g):=by
 refine ⟨PA.imp (zde ha hr.pa hs) fun σ H Q ⟨Hf0,H0,Hf,ρ,ds,st,ef,k⟩=>?_,fun ρ ds h=>?_⟩
 ·obtain ⟨d,r,e1,e2,rfl⟩:=zlr ef;exact ⟨Hf0,H0,Hf,ρ,d,st,e1,fun v Hf1 H1 x1 r1=>⟨Hf0,H0,Hf1,ρ,r,st.step x1,e2,fun vs Hf2 H2 x2 r2=>k _ Hf2 H2 (x1.trans x2) (.cons (r1.up x2.f) r2)⟩⟩
 ·obtain ⟨d,r,e1,e2,rfl⟩:=zlr h;simp [hr.len ρ r e2]
theorem zc5 : DAB c X [] (fun _=>some []):=⟨PA.imp zdf fun σ H Q ⟨Hf0,H0,Hf,ρ,ds,st,ef,k⟩=>by cases ef; exact k [] Hf H (Ext.refl st.sub) rfl,fun ρ ds h=>by cases h; rfl⟩
theorem zb3 {f:List Sl->Option D} {g:List Sl->Option (List D)} (ha:DB c X e f) (hr:DAB c X es g) (hs:starEach (e::es) X.env=(false,eval e X.env)::starEach es X.env:=by rfl) : DAB c X (e::es) (zaa f g):=by
 refine ⟨PA.imp (zde ha hr.pa hs) fun σ H Q ⟨Hf0,H0,Hf,ρ,ds,st,ef,k⟩=>?_,fun ρ ds h=>?_⟩
 ·obtain ⟨d,r,e1,e2,rfl⟩:=zlr ef;exact ⟨Hf0,H0,Hf,ρ,d,st,e1,fun v Hf1 H1 x1 r1=>⟨Hf0,H0,Hf1,ρ,r,st.step x1,e2,fun vs Hf2 H2 x2 r2=>k _ Hf2 H2 (x1.trans x2) (.cons (r1.up x2.h) r2)⟩⟩
 ·obtain ⟨d,r,e1,e2,rfl⟩:=zlr h;simp [hr.len ρ r e2]
theorem zbp {f:List Sl->Option (List D)} (h:DA c X es f) (hz:es.length<=1000:=by exact Nat.le_of_ble_eq_true rfl) : DO c X (.List es pos) f:=PE.imp (zo3 h.pa) fun σ H Q q_=>by
 obtain ⟨Hf0,H0,Hf,ρ,ds,st,ef,k⟩:=q_;exact (
 ⟨Hf0,H0,Hf,ρ,ds,st,ef,fun vs Hf' H' x r=>⟨by
  rw [<- r.length,h.len ρ ds ef];exact Nat.le_of_lt (zpi hz),fun p hp=>k p vs Hf' (upd H' p (.lst vs)) (x.trans (Ext.tmp x.s hp)) (x.h.free hp) (x.s.free hp) zbb r⟩⟩)
theorem zcj {f:List Sl->Option (List D)} {k':Nat} (h:DA c X es f) (hz:es.length<=1000:=by exact Nat.le_of_ble_eq_true rfl) : DE c X (.Tuple es k' pos) (zbo f):=PE.imp (z4b h.pa) fun σ H Q q_=>by
 obtain ⟨Hf0,H0,Hf,ρ,d,st,ef,k⟩:=q_;unfold zbo at ef
 cases ed : f ρ with
 | none=>rw [ed] at ef; cases ef
 | some ds =>
  rw [ed] at ef;have ef : D.tup ds=d:=Option.some.inj ef;subst ef
  exact ⟨Hf0,H0,Hf,ρ,ds,st,ed,fun vs Hf' H' x r=>⟨by
   rw [<- r.length,h.len ρ ds ed];exact Nat.le_of_lt (zpi hz),fun p hp=>k _ (upd Hf' p (.tup vs)) (upd H' p (.tup vs)) (x.trans (Ext.new x.s hp)) ⟨p,vs,rfl,zbb,r.up (zbz (x.s.free hp))⟩⟩⟩
noncomputable def rD (G:Gc) (m:D->D->Option D) : R2:=fun vx vy H Q=>∃ Hf x y d,zaf Hf H/\Rep G Hf x vx/\Rep G Hf y vy/\m x y=some d/\∀ v Hf' H',Ext Hf H Hf' H'->Rep G Hf' d v->Q v H'
noncomputable abbrev OpD (c:Str->Addr) (X:Cx) (f:Value->Value->Sem Value) (m:D->D->Option D) : Prop:=OpR X f (rD (Gx c X) m)
noncomputable def m2 (m:D->D->Option D) (f g:List Sl->Option D) (ρ:List Sl) : Option D:=(f ρ).bind fun x=>(g ρ).bind fun y=>m x y
theorem zs2 {m:D->D->Option D} {f g:List Sl->Option D} {ρ:List Sl} {d:D} (h:m2 m f g ρ=some d) : ∃ x y,f ρ=some x/\g ρ=some y/\m x y=some d:=by
 unfold m2 at h
 cases e1 : f ρ with
 | none=>rw [e1] at h; cases h
 | some x =>
  cases e2 : g ρ with
  | none=>rw [e1,e2] at h; cases h
  | some y=>rw [e1,e2] at h; exact ⟨x,y,rfl,rfl,h⟩
theorem two {m:D->D->Option D} {f g:List Sl->Option D} {r:R2} {σ:St} {H:Hp} {Q:VK} (hr:∀ x y H Q,rD (Gx c X) m x y H Q->r x y H Q) (h:tD (Gx c X) (m2 m f g) σ H Q) : tOp r (tD (Gx c X) f) (tD (Gx c X) g) σ H Q:=by
 obtain ⟨Hf0,H0,Hf,ρ,d,st,ef,k⟩:=h;obtain ⟨x,y,e1,e2,e3⟩:=zs2 ef;exact ⟨Hf0,H0,Hf,ρ,x,st,e1,fun v Hf1 H1 x1 r1=>⟨Hf0,H0,Hf1,ρ,y,st.step x1,e2,fun u Hf2 H2 x2 r2=>hr _ _ _ _ ⟨Hf2,x,y,d,x2.s,r1.up x2.f,r2,e3,fun w Hf3 H3 x3 r3=>k w Hf3 H3 ((x1.trans x2).trans x3) r3⟩⟩⟩
theorem zvm {m:D->D->Option D} {f g:List Sl->Option D} {r:R2} {σ:St} {H:Hp} {Q:VK} (hr:∀ x y H Q,rD (Gx c X) m x y H Q->r x y H Q) (hs:∀ x y d,m x y=some d->d.scalar=true) (h:tD (Gx c X) (m2 m f g) σ H Q) : tOp r (tDB (Gx c X) f) (tDB (Gx c X) g) σ H Q:=by
 obtain ⟨Hf0,H0,Hf,ρ,d,st,ef,k⟩:=h;obtain ⟨x,y,e1,e2,e3⟩:=zs2 ef
 exact ⟨Hf0,H0,Hf,ρ,x,st,e1,fun v Hf1 H1 x1 r1=>⟨Hf0,H0,Hf1,ρ,y,st.step x1,e2,fun u Hf2 H2 x2 r2=>hr _ _ _ _ ⟨H2,x,y,d,zaf.refl _,r1.up x2.h,r2,e3,fun w Hf3 H3 x3 r3 =>
  k w Hf2 H3 ((x1.trans x2).trans (Ext.grow x2.s x3.h)) (r3.sc (hs _ _ _ e3))⟩⟩⟩
theorem zau {op:Operator} {m:D->D->Option D} {f g:List Sl->Option D} (ho:OpD c X (binaryOp op) m) (ha:DE c X a f) (hb:DE c X b g) : DE c X (.BinOp a op b pos) (m2 m f g) :=
 PE.imp (zt8 ho ha hb) fun _ _ _ h=>two (fun _ _ _ _ h=>h) h
theorem zdo {op:CmpOp} {m:D->D->Option D} {f g:List Sl->Option D} (ho:OpD c X (compareOp op) m) (hs:∀ x y d,m x y=some d->d.scalar=true) (ha:DB c X a f) (hb:DB c X b g) (hm:behindInMarks op b=false:=by first | exact ztk _ | rfl) :
  DE c X (.Compare a [op] [b] pos) (m2 m f g):=PE.imp (z3y ho ha hb hm) fun _ _ _ h=>zvm (fun _ _ _ _ h=>h) hs h
noncomputable def mB (f:List Sl->Option D) (ρ:List Sl) : Option Bool:=(f ρ).bind fun d=>match d with
 | .bl b=>some b
 | _=>none
theorem zj2 {f:List Sl->Option D} {ρ:List Sl} {b:Bool} (h:mB f ρ=some b) : f ρ=some (.bl b):=by
 unfold mB at h
 cases e : f ρ with
 | none=>rw [e] at h; cases h
 | some d=>rw [e] at h; cases d <;> cases h; rfl
theorem zbq {op:CmpOp} {m:D->D->Option D} {f g:List Sl->Option D} (ho:OpD c X (compareOp op) m) (hs:∀ x y d,m x y=some d->d.scalar=true) (ha:DB c X a f) (hb:DB c X b g) (hm:behindInMarks op b=false:=by first | exact ztk _ | rfl) :
  DT c X (.Compare a [op] [b] pos) (mB (m2 m f g)):=PT.imp (z40 ho ha hb hm) fun σ H Q q_=>by
 obtain ⟨Hf0,H0,Hf,ρ,b,st,ef,k⟩:=q_;exact (
 zvm (fun _ _ _ _ h=>h) hs ⟨Hf0,H0,Hf,ρ,.bl b,st,zj2 ef,fun v Hf' H' x r=>⟨b,r,k Hf' H' x⟩⟩)
noncomputable def zpm : D->Option Bool
 | .non=>some false
 | .bl b=>some b
 | .int i=>some (i != 0)
 | .str x=>if x.length<=16777216 then some ((x.length : Int) != 0) else none
 | .lst xs=>some (!xs.isEmpty)
 | .tup xs=>some (!xs.isEmpty)
 | .kl xs=>some (!xs.isEmpty)
 | .kt xs=>some (!xs.isEmpty)
 | .dic ks _=>some (!ks.isEmpty)
 | _=>none
theorem zae.empty {G:Gc} {H:Hp} {ds:List D} {vs:List V} (r:zae G H ds vs) : ds.isEmpty=vs.isEmpty:=by
 cases ds with
 | nil=>cases (show vs=[] from r); rfl
 | cons d ds=>obtain ⟨v,r',e,_⟩:=r; subst e; rfl
theorem z8l {α β : Type} {ks:List α} {vs:List β} (h:ks.length=vs.length) : (ks.zip vs).isEmpty=ks.isEmpty:=by
 cases ks <;> cases vs <;> first | rfl | cases h
theorem z7w {G:Gc} {H:Hp} {d:D} {v:V} {b:Bool} (e:zpm d=some b) (r:Rep G H d v) : zmy G.K v H b:=by
 cases d with
 | non=>cases e; cases r; rfl
 | bl x=>cases e; cases r; rfl
 | int i=>cases e; cases r; rfl
 | str x =>
  cases r;replace e : (if x.length<=16777216 then some ((x.length : Int) != 0) else none)=some b:=e;split at e
  ·rename_i hl;cases e;exact ⟨by rw [sizeLine_eq]; exact hl,rfl⟩
  ·cases e
 | lst xs=>cases e; obtain ⟨a,vs,e1,q,r⟩:=r; subst e1; exact .inl ⟨vs,SqL.of q,by rw [r.empty]⟩
 | tup xs=>cases e; obtain ⟨a,vs,e1,q,r⟩:=r; subst e1; exact .inr (.inl ⟨vs,SqT.of q,by rw [r.empty]⟩)
 | kl xs=>cases e; obtain ⟨a,vs,e1,q,r⟩:=r; subst e1; exact .inl ⟨vs,q,by rw [r.empty]⟩
 | kt xs=>cases e; obtain ⟨a,vs,e1,q,r⟩:=r; subst e1; exact .inr (.inl ⟨vs,q,by rw [r.empty]⟩)
 | dic ks xs=>cases e; obtain ⟨a,vs,e1,q,l,r⟩:=r; subst e1; exact .inr (.inr ⟨_,q,by rw [z8l l]⟩)
 | ins _ _ _=>cases e
 | kd _ _=>cases e
 | any=>cases e
noncomputable def zcf (f:List Sl->Option D) (ρ:List Sl) : Option Bool:=(f ρ).bind zpm
theorem zcy {f:List Sl->Option D} (ha:DB c X a f) (he:∀ whole,isTrue a X.env whole=(do let v <- whole; standAt a.pos; holding [v] (truthy v)):=by intro _; rfl) : DT c X a (zcf f) :=
 PT.imp (z42 ha he) fun σ H Q q_=>by
  obtain ⟨Hf0,H0,Hf,ρ,b,st,ef,k⟩:=q_;unfold zcf at ef
  cases ed : f ρ with
  | none=>rw [ed] at ef; cases ef
  | some d =>
   rw [ed] at ef;exact ⟨Hf0,H0,Hf,ρ,d,st,ed,fun v Hf' H' x r=>⟨b,z7w ef r,k Hf' H' x⟩⟩
noncomputable def zdj (f g:List Sl->Option Bool) (ρ:List Sl) : Option Bool:=(f ρ).bind fun b=>if b then g ρ else some false
noncomputable def mOr (f g:List Sl->Option Bool) (ρ:List Sl) : Option Bool:=(f ρ).bind fun b=>if b then some true else g ρ
noncomputable def zdt (f:List Sl->Option Bool) (ρ:List Sl) : Option Bool:=(f ρ).map not
theorem DW.dt {f:List Sl->Option Bool} (h:DW c X e f) : DT c X e f:=PW.pt h
theorem zjy {f:List Sl->Option Bool} (h:DT c X a f) : DW c X (.BoolOp .And [a] pos) f:=z5a h
theorem zh3 {f:List Sl->Option Bool} (h:DT c X a f) : DW c X (.BoolOp .Or [a] pos) f:=z5c h
theorem zh2 {f g:List Sl->Option Bool} {rest:List Expr} (h:DT c X a f) (h':DW c X (.BoolOp .And (b::rest) pos) g) : DW c X (.BoolOp .And (a::b::rest) pos) (zdj f g):=PW.imp (z49 h h') fun σ H Q q_=>by
 obtain ⟨Hf0,H0,Hf,ρ,b,st,ef,k⟩:=q_;unfold zdj at ef
 cases e1 : f ρ with
 | none=>rw [e1] at ef; cases ef
 | some x =>
  rw [e1] at ef;refine ⟨Hf0,H0,Hf,ρ,x,st,e1,fun Hf1 H1 x1=>?_⟩
  cases x with
  | true=>rw [if_pos rfl]; exact ⟨Hf0,H0,Hf1,ρ,b,st.step x1,ef,fun Hf2 H2 x2=>k Hf2 H2 (x1.trans x2)⟩
  | false=>cases ef; rw [if_neg Bool.false_ne_true]; exact k Hf1 H1 x1
theorem zhc {f g:List Sl->Option Bool} {rest:List Expr} (h:DT c X a f) (h':DW c X (.BoolOp .Or (b::rest) pos) g) : DW c X (.BoolOp .Or (a::b::rest) pos) (mOr f g):=PW.imp (z5b h h') fun σ H Q q_=>by
 obtain ⟨Hf0,H0,Hf,ρ,b,st,ef,k⟩:=q_;unfold mOr at ef
 cases e1 : f ρ with
 | none=>rw [e1] at ef; cases ef
 | some x =>
  rw [e1] at ef;refine ⟨Hf0,H0,Hf,ρ,x,st,e1,fun Hf1 H1 x1=>?_⟩
  cases x with
  | false=>rw [if_neg Bool.false_ne_true]; exact ⟨Hf0,H0,Hf1,ρ,b,st.step x1,ef,fun Hf2 H2 x2=>k Hf2 H2 (x1.trans x2)⟩
  | true=>cases ef; rw [if_pos rfl]; exact k Hf1 H1 x1
theorem zfe {f:List Sl->Option Bool} (h:DT c X a f) : DT c X (.UnaryOp .Not a pos) (zdt f):=PT.imp (z41 h) fun σ H Q q_=>by
 obtain ⟨Hf0,H0,Hf,ρ,b,st,ef,k⟩:=q_;unfold zdt at ef
 cases e1 : f ρ with
 | none=>rw [e1] at ef; cases ef
 | some x =>
  rw [e1] at ef;cases ef;exact ⟨Hf0,H0,Hf,ρ,x,st,e1,fun Hf1 H1 x1=>k Hf1 H1 x1⟩
noncomputable def zkm (f g:List Sl->Option D) (ρ:List Sl) : Option D:=(mB f ρ).bind fun b=>if b then g ρ else some (.bl false)
noncomputable def vOr (f g:List Sl->Option D) (ρ:List Sl) : Option D:=(mB f ρ).bind fun b=>if b then some (.bl true) else g ρ
noncomputable def zkn (f:List Sl->Option D) (ρ:List Sl) : Option D:=(mB f ρ).map fun b=>.bl (!b)
theorem zng {f:List Sl->Option D} {op} (h:DE c X a f) : DE c X (.BoolOp op [a] pos) f:=z36 h
theorem zxs {f g:List Sl->Option D} {rest:List Expr} (h:DE c X a f) (h':DE c X (.BoolOp .And (b::rest) pos) g) : DE c X (.BoolOp .And (a::b::rest) pos) (zkm f g):=PE.imp (z3u h h') fun σ H Q q_=>by
 obtain ⟨Hf0,H0,Hf,ρ,d,st,ef,k⟩:=q_;unfold zkm at ef
 cases e1 : mB f ρ with
 | none=>rw [e1] at ef; cases ef
 | some x =>
  rw [e1] at ef;refine ⟨Hf0,H0,Hf,ρ,.bl x,st,zj2 e1,fun v Hf1 H1 x1 r1=>⟨x,r1,?_⟩⟩
  cases x with
  | true=>rw [if_pos rfl]; exact ⟨Hf0,H0,Hf1,ρ,d,st.step x1,ef,fun v Hf2 H2 x2 r2=>k v Hf2 H2 (x1.trans x2) r2⟩
  | false=>cases ef; rw [if_neg Bool.false_ne_true]; exact k _ Hf1 H1 x1 rfl
theorem zqx {f g:List Sl->Option D} {rest:List Expr} (h:DE c X a f) (h':DE c X (.BoolOp .Or (b::rest) pos) g) : DE c X (.BoolOp .Or (a::b::rest) pos) (vOr f g):=PE.imp (z37 h h') fun σ H Q q_=>by
 obtain ⟨Hf0,H0,Hf,ρ,d,st,ef,k⟩:=q_;unfold vOr at ef
 cases e1 : mB f ρ with
 | none=>rw [e1] at ef; cases ef
 | some x =>
  rw [e1] at ef;refine ⟨Hf0,H0,Hf,ρ,.bl x,st,zj2 e1,fun v Hf1 H1 x1 r1=>⟨x,r1,?_⟩⟩
  cases x with
  | false=>rw [if_neg Bool.false_ne_true]; exact ⟨Hf0,H0,Hf1,ρ,d,st.step x1,ef,fun v Hf2 H2 x2 r2=>k v Hf2 H2 (x1.trans x2) r2⟩
  | true=>cases ef; rw [if_pos rfl]; exact k _ Hf1 H1 x1 rfl
theorem zxt {f:List Sl->Option D} (h:DE c X a f) : DE c X (.UnaryOp .Not a pos) (zkn f):=PE.imp (z35 h) fun σ H Q q_=>by
 obtain ⟨Hf0,H0,Hf,ρ,d,st,ef,k⟩:=q_;unfold zkn at ef
 cases e1 : mB f ρ with
 | none=>rw [e1] at ef; cases ef
 | some x =>
  rw [e1] at ef;cases ef;exact ⟨Hf0,H0,Hf,ρ,.bl x,st,zj2 e1,fun v Hf1 H1 x1 r1=>⟨x,r1,k _ Hf1 H1 x1 rfl⟩⟩
end
noncomputable instance {i j:Int} : Decidable (zjn i j):=by unfold zjn; infer_instance
noncomputable instance {i j:Int} : Decidable (zhs i j):=by unfold zhs; infer_instance
noncomputable instance {i j:Int} : Decidable (zgx i j):=by unfold zgx; infer_instance
noncomputable def dI (C:Int->Int->Prop) [∀ i j,Decidable (C i j)] (g:Int->Int->D) : D->D->Option D
 | .int i,.int j=>if C i j then some (g i j) else none
 | _,_=>none
noncomputable def dI0 (g:Int->Int->D) : D->D->Option D
 | .int i,.int j=>some (g i j)
 | _,_=>none
noncomputable def zb2 : D->D->Option D
 | .int i,.int j=>some (.int (i + j))
 | .str a,.str b=>if a.length + b.length<=16777216 then some (.str (a++b)) else none
 | .lst a,.lst b=>if a.length + b.length<=16777216 then some (.lst (a++b)) else none
 | _,_=>none
noncomputable abbrev zga : D->D->Option D:=dI0 fun i j=>.int (i - j)
noncomputable abbrev zxc : D->D->Option D:=dI zgx fun i j=>.int (i * j)
noncomputable abbrev zfv : D->D->Option D:=dI zjn fun i j=>.int (i / j)
noncomputable abbrev za9 : D->D->Option D:=dI (fun _ j=>0 < j) fun i j=>.int (i % j)
noncomputable abbrev znd : D->D->Option D:=dI zhs fun i j=>.int (i ^ j.toNat)
noncomputable abbrev zxj : D->D->Option D:=dI (fun _ j=>0<=j) fun i j=>.int (i / 2 ^ j.toNat)
noncomputable abbrev zw5 : D->D->Option D:=dI0 fun i j=>.int (Builtin.bitAnd i j)
noncomputable abbrev dLt : D->D->Option D:=dI0 fun i j=>.bl (decide (i < j))
noncomputable abbrev dLe : D->D->Option D:=dI0 fun i j=>.bl (decide (i<=j))
noncomputable abbrev dGt : D->D->Option D:=dI0 fun i j=>.bl (decide (j < i))
noncomputable abbrev dGe : D->D->Option D:=dI0 fun i j=>.bl (decide (j<=i))
section
variable {c:Str->Addr} {X:Cx}
theorem zl1 {f:Value->Value->Sem Value} {C:Int->Int->Prop} [∀ i j,Decidable (C i j)] {g:Int->Int->V} {gd:Int->Int->D} (h:OpR X f (rI C g)) (hg:∀ G H i j,Rep G H (gd i j) (g i j)) : OpD c X f (dI C gd):=by
 rintro pins s σ H vx vy v u Q I rx ry ⟨Hf,x,y,d,s0,r1,r2,e,k⟩;unfold dI at e;split at e
 ·split at e
  ·rename_i hc;cases e;exact h pins s σ H vx vy v u Q I rx ry ⟨_,_,r1,r2,hc,k _ Hf H (Ext.refl s0) (hg _ _ _ _)⟩
  ·cases e
 ·cases e
theorem zka {f:Value->Value->Sem Value} {g:Int->Int->V} {gd:Int->Int->D} (h:OpR X f (rI0 g)) (hg:∀ G H i j,Rep G H (gd i j) (g i j)) : OpD c X f (dI0 gd):=by
 rintro pins s σ H vx vy v u Q I rx ry ⟨Hf,x,y,d,s0,r1,r2,e,k⟩;unfold dI0 at e;split at e
 ·cases e;exact h pins s σ H vx vy v u Q I rx ry ⟨_,_,r1,r2,k _ Hf H (Ext.refl s0) (hg _ _ _ _)⟩
 ·cases e
theorem zei : OpD c X (binaryOp .Add) zb2:=by
 rintro pins s σ H vx vy v u Q I rx ry ⟨Hf,x,y,d,s0,r1,r2,e,k⟩;unfold zb2 at e;split at e
 ·cases e;exact z28 pins s σ H vx vy v u Q I rx ry ⟨_,_,r1,r2,k _ Hf H (Ext.refl s0) rfl⟩
 ·split at e
  ·rename_i hl;cases e;exact z29 pins s σ H vx vy v u Q I rx ry ⟨_,_,r1,r2,by rw [sizeLine_eq]; exact hl,k _ Hf H (Ext.refl s0) rfl⟩
  ·cases e
 ·split at e
  ·rename_i hl;cases e;obtain ⟨a,vs,e1,q1,r1⟩:=r1;obtain ⟨b,us,e2,q2,r2⟩:=r2
   exact ztz pins s σ H vx vy v u Q I rx ry ⟨a,b,vs,us,e1,e2,s0 _ _ q1,s0 _ _ q2,by rw [sizeLine_eq,<- r1.length,<- r2.length]; exact hl,
    fun p hp=>k _ (upd Hf p (.lst (vs++us))) (upd H p (.lst (vs++us))) (Ext.new s0 hp) ⟨p,_,rfl,zbb,(r1.append r2).up (zbz (s0.free hp))⟩⟩
  ·cases e
 ·cases e
theorem zo0 : OpD c X (binaryOp .Sub) zga:=zka z3n fun _ _ _ _=>rfl
theorem zho : OpD c X (binaryOp .FloorDiv) zfv:=zl1 z3b fun _ _ _ _=>rfl
theorem zbu : OpD c X (binaryOp .Mod) za9:=zl1 z3i fun _ _ _ _=>rfl
theorem z16 : OpD c X (binaryOp .Pow) znd:=zl1 z3m fun _ _ _ _=>rfl
theorem zl2 : OpD c X (compareOp .Lt) dLt:=zka z3h fun _ _ _ _=>rfl
theorem z15 : OpD c X (compareOp .LtE) dLe:=zka z3g fun _ _ _ _=>rfl
theorem zj9 : OpD c X (compareOp .Gt) dGt:=zka z3d fun _ _ _ _=>rfl
theorem z13 : OpD c X (compareOp .GtE) dGe:=zka z3c fun _ _ _ _=>rfl
theorem zmf {g:Int->Int->D} (hg:∀ i j,(g i j).scalar=true) : ∀ x y d,dI0 g x y=some d->d.scalar=true:=by
 intro x y d e;unfold dI0 at e;split at e
 ·cases e; exact hg _ _
 ·cases e
theorem zmi : ∀ x y d,dLt x y=some d->d.scalar=true:=zmf fun _ _=>rfl
theorem z6j : ∀ x y d,dLe x y=some d->d.scalar=true:=zmf fun _ _=>rfl
theorem zki : ∀ x y d,dGt x y=some d->d.scalar=true:=zmf fun _ _=>rfl
theorem z6h : ∀ x y d,dGe x y=some d->d.scalar=true:=zmf fun _ _=>rfl
noncomputable def m1 (m:D->Option D) (f:List Sl->Option D) (ρ:List Sl) : Option D:=(f ρ).bind m
noncomputable def zsd : D->Bool
 | .non=>true
 | _=>false
theorem zse {G:Gc} {H:Hp} {x:D} {v:V} (r:Rep G H x v) : decide (v=.non)=zsd x:=by
 cases x with
 | non=>cases r; rfl
 | bl b=>cases r; rfl
 | int i=>cases r; rfl
 | str x=>cases r; rfl
 | lst _=>obtain ⟨a,_,e,_⟩:=r; subst e; rfl
 | tup _=>obtain ⟨a,_,e,_⟩:=r; subst e; rfl
 | kl _=>obtain ⟨a,_,e,_⟩:=r; subst e; rfl
 | kt _=>obtain ⟨a,_,e,_⟩:=r; subst e; rfl
 | dic _ _=>obtain ⟨a,_,e,_⟩:=r; subst e; rfl
 | ins _ _ _=>obtain ⟨a,_,_,e,_⟩:=r; subst e; rfl
 | kd _ _=>obtain ⟨a,_,_,e,_⟩:=r; subst e; rfl
 | any=>obtain ⟨a,e⟩:=r; subst e; rfl
noncomputable def isD (x y:D) : Option Bool:=match y with
 | .non=>some (zsd x)
 | .bl b=>match x with
  | .non=>some false
  | .bl a=>some (a==b)
  | _=>none
 | _=>none
noncomputable def dIs (x y:D) : Option D:=(isD x y).map .bl
noncomputable def zec (x y:D) : Option D:=(isD x y).map fun b=>.bl (!b)
theorem zgm : OpD c X (compareOp .Is) dIs:=by
 rintro pins s σ H vx vy v u Q I rx ry ⟨Hf,x,y,d,s0,r1,r2,e,k⟩;unfold dIs isD at e
 cases y with
 | non =>
  cases e
  exact z3f pins s σ H vx vy v u Q I rx ry ⟨r2,by rw [zse r1]; exact k _ Hf H (Ext.refl s0) rfl⟩
 | bl b =>
  cases x with
  | non=>cases e; cases r1; exact zt0 pins s σ H _ vy v u Q I rx ry ⟨b,r2,.inl rfl,k _ Hf H (Ext.refl s0) rfl⟩
  | bl a=>cases e; cases r1; exact zt0 pins s σ H _ vy v u Q I rx ry ⟨b,r2,.inr ⟨a,rfl⟩,by rw [zju]; exact k _ Hf H (Ext.refl s0) rfl⟩
  | _=>cases e
 | _=>cases e
theorem zie : OpD c X (compareOp .IsNot) zec:=by
 rintro pins s σ H vx vy v u Q I rx ry ⟨Hf,x,y,d,s0,r1,r2,e,k⟩;unfold zec isD at e
 cases y with
 | non =>
  cases e
  exact z3l pins s σ H vx vy v u Q I rx ry ⟨r2,by rw [zse r1]; exact k _ Hf H (Ext.refl s0) rfl⟩
 | bl b =>
  cases x with
  | non=>cases e; cases r1; exact zt1 pins s σ H _ vy v u Q I rx ry ⟨b,r2,.inl rfl,k _ Hf H (Ext.refl s0) rfl⟩
  | bl a=>cases e; cases r1; exact zt1 pins s σ H _ vy v u Q I rx ry ⟨b,r2,.inr ⟨a,rfl⟩,by rw [zju]; exact k _ Hf H (Ext.refl s0) rfl⟩
  | _=>cases e
 | _=>cases e
theorem zkj {x:Option Bool} {g:Bool->Bool} : ∀ d,x.map (fun b=>D.bl (g b))=some d->d.scalar=true:=by
 intro d e
 cases x with
 | none=>cases e
 | some b=>cases e; rfl
theorem zgq : ∀ x y d,dIs x y=some d->d.scalar=true:=fun _ _ d e=>zkj (g:=id) d e
theorem zjf : ∀ x y d,zec x y=some d->d.scalar=true:=fun _ _ d e=>zkj (g:=not) d e
noncomputable def eqF : D->D->Bool
 | .non,.non=>true
 | .bl a,.bl b=>a==b
 | .int a,.int b=>a==b
 | .str a,.str b=>a==b
 | _,_=>false
noncomputable def zcp (f:D->D->Option Bool) : List D->List D->Option Bool
 | [],[]=>some true
 | x::xs,y::ys=>(f x y).bind fun b=>(zcp f xs ys).map fun r=>b && r
 | _,_=>some false
noncomputable def zoo : D->D->Bool
 | .bl _,.int _=>true
 | .int _,.bl _=>true
 | _,_=>false
noncomputable def zk6 (f:D->D->Option Bool) : D->D->Option Bool
 | .lst xs,.lst ys=>if xs.length=ys.length then zcp f xs ys else some false
 | .tup xs,.tup ys=>if xs.length=ys.length then zcp f xs ys else none
 | x,y=>if x.scalar && y.scalar && !zoo x y then some (eqF x y) else none
noncomputable def deq : Nat->D->D->Option Bool
 | 0,_,_=>none
 | n + 1,x,y=>zk6 (deq n) x y
noncomputable def dEq (x y:D) : Option D:=(deq 20 x y).map .bl
noncomputable def dNe (x y:D) : Option D:=(deq 20 x y).map fun b=>.bl (!b)
theorem zc3 : ∀ x y d,dEq x y=some d->d.scalar=true:=fun _ _ d e=>zkj (g:=id) d e
theorem zuy : ∀ x y d,dNe x y=some d->d.scalar=true:=fun _ _ d e=>zkj (g:=not) d e
theorem zq1 {f:D->D->Option Bool} {x y:D} {xs ys:List D} {b:Bool} (h:zcp f (x::xs) (y::ys)=some b) : ∃ b1 b2,f x y=some b1/\zcp f xs ys=some b2/\b=(b1 && b2):=by
 unfold zcp at h
 cases e1 : f x y with
 | none=>rw [e1] at h; cases h
 | some b1 =>
  cases e2 : zcp f xs ys with
  | none=>rw [e1,e2] at h; cases h
  | some b2=>rw [e1,e2] at h; cases h; exact ⟨b1,b2,rfl,rfl,rfl⟩
theorem zg9 {f:D->D->Option Bool} : ∀ {xs ys:List D} {b:Bool},xs.length=ys.length->zcp f xs ys=some b->∃ e : Nat->Bool,(∀ j x y,xs[j]?=some x->ys[j]?=some y->f x y=some (e j))/\(List.range xs.length).all e=b
 | [],[],b,_,h=>by cases h; exact ⟨fun _=>true,fun j x y e=>by simp at e,rfl⟩
 | x::xs,y::ys,b,hl,h=>by
  obtain ⟨b1,b2,h1,h2,rfl⟩:=zq1 h;obtain ⟨e,he,ha⟩:=zg9 (by simpa using hl) h2
  refine ⟨fun j=>match j with | 0=>b1 | j + 1=>e j,fun j x' y' ex ey=>?_,?_⟩
  ·cases j with
   | zero=>simp at ex ey; subst ex ey; exact h1
   | succ j=>exact he j x' y' (by simpa using ex) (by simpa using ey)
  ·rw [List.length_cons,List.range_succ_eq_map,List.all_cons,List.all_map,<- ha]
   rfl
 | [],_::_,_,hl,_=>by cases hl
 | _::_,[],_,hl,_=>by cases hl
theorem zld {G:Gc} {H:Hp} {x y:D} {v u:V} (hs:(x.scalar && y.scalar && !zoo x y)=true) (r1:Rep G H x v) (r2:Rep G H y u) : zdd v=true/\zdd u=true/\eqV v u=eqF x y/\zpg v u=true/\decide (v=u)=eqF x y:=by
 cases x <;> first
  | (cases hs; done)
  | (cases y <;> first
   | (cases hs; done)
   | (cases r1; cases r2; refine ⟨rfl,rfl,rfl,rfl,?_⟩; first | exact zju | exact znh | exact zni | rfl))
theorem zk7 {n:Nat} {x y:D} {b:Bool} (hs:¬ (∃ xs ys,x=.lst xs/\y=.lst ys)/\¬ (∃ xs ys,x=.tup xs/\y=.tup ys)) (h:deq (n + 1) x y=some b) : (x.scalar && y.scalar && !zoo x y)=true/\b=eqF x y:=by
 replace h : zk6 (deq n) x y=some b:=h;unfold zk6 at h;split at h
 ·exact absurd ⟨_,_,rfl,rfl⟩ hs.1
 ·exact absurd ⟨_,_,rfl,rfl⟩ hs.2
 ·split at h
  ·rename_i hc;cases h;exact ⟨hc,rfl⟩
  ·cases h
theorem zq3 {G:Gc} {H:Hp} : ∀ (n:Nat) {x y:D} {b:Bool} {v:V},deq n x y=some b->Rep G H x v->Rep G H y v->b=true:=by
 intro n
 induction n with
 | zero=>intro x y b v h; cases h
 | succ n ih =>
  have all : ∀ (xs ys:List D) (vs:List V) (b:Bool),zae G H xs vs->zae G H ys vs->zcp (deq n) xs ys=some b->b=true:=by
   intro xs
   induction xs with
   | nil =>
    intro ys vs b r1 r2 h;cases (show vs=[] from r1);have : ys=[]:=List.length_eq_zero_iff.mp r2.length;subst this
    cases h; rfl
   | cons x xs ihx =>
    intro ys vs b r1 r2 h;obtain ⟨v,r,e,h1,h2⟩:=r1;subst e
    cases ys with
    | nil=>cases (show v::r=[] from r2)
    | cons y ys =>
     obtain ⟨v',r',e,h1',h2'⟩:=r2;cases e;obtain ⟨b1,b2,e1,e2,rfl⟩:=zq1 h;rw [ih e1 h1 h1',ihx ys _ b2 h2 h2' e2];rfl
  intro x y b v h r1 r2
  by_cases hl : ∃ xs ys,x=.lst xs/\y=.lst ys
  ·obtain ⟨xs,ys,rfl,rfl⟩:=hl;obtain ⟨a,vs,e,q,r1⟩:=r1;obtain ⟨a',vs',e',q',r2⟩:=r2;subst e; cases e';rw [q] at q'; cases q';have hlen : xs.length=ys.length:=r1.length.trans r2.length.symm;replace h : (if xs.length=ys.length then zcp (deq n) xs ys else some false)=some b:=h;rw [if_pos hlen] at h;exact all xs ys vs b r1 r2 h
  ·by_cases ht : ∃ xs ys,x=.tup xs/\y=.tup ys
   ·obtain ⟨xs,ys,rfl,rfl⟩:=ht;obtain ⟨a,vs,e,q,r1⟩:=r1;obtain ⟨a',vs',e',q',r2⟩:=r2;subst e; cases e';rw [q] at q'; cases q';have hlen : xs.length=ys.length:=r1.length.trans r2.length.symm;replace h : (if xs.length=ys.length then zcp (deq n) xs ys else none)=some b:=h;rw [if_pos hlen] at h;exact all xs ys vs b r1 r2 h
   ·obtain ⟨hs,rfl⟩:=zk7 ⟨hl,ht⟩ h;obtain ⟨_,_,_,_,e⟩:=zld hs r1 r2;rw [<- e];exact decide_eq_true rfl
section
variable {pins:List (Addr×Obj)} {σ:St} {H:Hp} {s:Shared}
theorem zh4 {G:Gc} {xs ys:List D} {vs us:List V} {its its2:List Value} {n:Nat} {A:Around} {e:Nat->Bool} (r1:zae G H xs vs) (r2:zae G H ys us) (r:zak vs its) (r':zak us its2)
  (he:∀ j x y,xs[j]?=some x->ys[j]?=some y->deq n x y=some (e j))
  (ih:∀ {x y:D} {b:Bool} {v u:V} {w w':Value},deq n x y=some b->Rep G H x v->Rep G H y u->zaq v w->zaq u w'->SeqAt.EqAt A s w w' b) :
  ∀ j (h1:j < its.toArray.size) (h2:j < its2.toArray.size),SeqAt.EqAt A s its.toArray[j] its2.toArray[j] (e j):=fun j h1 h2=>by
 have h1' : j < its.length:=by simpa using h1
 have h2' : j < its2.length:=by simpa using h2
 obtain ⟨v,ev,rv⟩:=r.at' (i:=j) (u:=its[j]) (by simp [h1']);obtain ⟨u,eu,ru⟩:=r'.at' (i:=j) (u:=its2[j]) (by simp [h2']);obtain ⟨x,ex,rx⟩:=r1.get' ev;obtain ⟨y,ey,ry⟩:=r2.get' eu;exact ih (he j x y ex ey) rx ry rv ru
theorem zq2 (I:Inv X pins σ H s) : ∀ (n:Nat) {A:Around} {x y:D} {b:Bool} {v u:V} {w w':Value},A.units + n < cLine->deq n x y=some b->Rep (Gx c X) H x v->Rep (Gx c X) H y u->zaq v w->zaq u w'->SeqAt.EqAt A s w w' b:=by
 intro n
 induction n with
 | zero=>intro A x y b v u w w' _ h; cases h
 | succ n ih =>
  intro A x y b v u w w' hu h r1 r2 rv ru;have hin : ∀ {x y:D} {b:Bool} {v u:V} {w w':Value},deq n x y=some b->Rep (Gx c X) H x v->Rep (Gx c X) H y u->zaq v w->zaq u w'->SeqAt.EqAt A.in1 s w w' b:=fun h a b c d=>ih (by rw [Around.in1_units]; omega) h a b c d
  by_cases hl : ∃ xs ys,x=.lst xs/\y=.lst ys
  ·obtain ⟨xs,ys,rfl,rfl⟩:=hl;obtain ⟨a,vs,e,q,rs1⟩:=id r1;obtain ⟨a',vs',e',q',rs2⟩:=id r2;subst e e';cases rv; cases ru
   by_cases hab : a=a'
   ·subst hab;have:=zq3 (n + 1) h (show Rep (Gx c X) H (.lst xs) (.ref a) from ⟨a,vs,rfl,q,rs1⟩) ⟨a,vs',rfl,q',rs2⟩;subst this;exact SeqAt.EqAt.same _
   ·refine SeqAt.EqAt.of_refs hab ?_;obtain ⟨its,rr,pl,hz⟩:=I.list (SqL.of (K:=X.K) q);obtain ⟨its2,rr2,pl2,hz2⟩:=I.list (SqL.of (K:=X.K) q');have l1:=rr.length;have l2:=rr2.length;have l3:=rs1.length;have l4:=rs2.length;replace h : (if xs.length=ys.length then zcp (deq n) xs ys else some false)=some b:=h;split at h
    ·rename_i hlen;obtain ⟨ee,he,ha⟩:=zg9 hlen h;have:=SeqAt.RcAt.lists (A:=A) (s:=s) pl.isList pl2.isList (by simp only [List.size_toArray]; omega) (by omega) (zh4 (A:=A.in1) (s:=s) rs1 rs2 rr rr2 he hin);rw [List.size_toArray,<- l1,<- l3,ha] at this;exact this
    ·rename_i hlen;cases h;exact SeqAt.RcAt.lists_lengths (A:=A) (s:=s) pl.isList pl2.isList (by simp only [List.size_toArray,bne_iff_ne,ne_eq]; omega) (by omega)
  ·by_cases ht : ∃ xs ys,x=.tup xs/\y=.tup ys
   ·obtain ⟨xs,ys,rfl,rfl⟩:=ht;obtain ⟨a,vs,e,q,rs1⟩:=id r1;obtain ⟨a',vs',e',q',rs2⟩:=id r2;subst e e';cases rv; cases ru
    by_cases hab : a=a'
    ·subst hab;have:=zq3 (n + 1) h (show Rep (Gx c X) H (.tup xs) (.ref a) from ⟨a,vs,rfl,q,rs1⟩) ⟨a,vs',rfl,q',rs2⟩;subst this;exact SeqAt.EqAt.same _
    ·refine SeqAt.EqAt.of_refs hab ?_;obtain ⟨its,rr,pl,hz⟩:=I.tuple (SqT.of (K:=X.K) q);obtain ⟨its2,rr2,pl2,hz2⟩:=I.tuple (SqT.of (K:=X.K) q');have l1:=rr.length;have l2:=rr2.length;have l3:=rs1.length;have l4:=rs2.length;replace h : (if xs.length=ys.length then zcp (deq n) xs ys else none)=some b:=h;split at h
     ·rename_i hlen;obtain ⟨ee,he,ha⟩:=zg9 hlen h;have:=SeqAt.RcAt.tuples (A:=A) (s:=s) (show s.heap.IsTuple a its.toArray from pl) (show s.heap.IsTuple a' its2.toArray from pl2) (by omega) (zh4 (A:=A.in1) (s:=s) rs1 rs2 rr rr2 he hin);have hsz : its.toArray.size=its2.toArray.size:=by simp only [List.size_toArray]; omega
      rw [<- hsz,Nat.min_self,beq_self_eq_true,Bool.and_true,List.size_toArray,<- l1,<- l3,ha] at this;exact this
     ·cases h
   ·obtain ⟨hs,rfl⟩:=zk7 ⟨hl,ht⟩ h;obtain ⟨f1,f2,e,_,_⟩:=zld hs r1 r2;rw [<- e];exact zrj rv ru f1 f2
end
theorem zc1 (hu:X.A.units + 64 < cLine) : OpD c X (compareOp .Eq) dEq:=by
 rintro pins s σ H v u w w' Q I rv ru ⟨Hf,x,y,d,s0,r1,r2,e,k⟩;unfold dEq at e
 cases h : deq 20 x y with
 | none=>rw [h] at e; cases e
 | some b =>
  rw [h] at e;cases e;have q0:=k (.bl b) Hf H (Ext.refl s0) rfl;have fin : EP X pins σ Q (.bool b) s:=⟨.bl b,H,I,rfl,q0⟩;have r1:=r1.up s0;have r2:=r2.up s0;have hin : ∀ {x y:D} {b:Bool} {v u:V} {w w':Value},deq 19 x y=some b->Rep (Gx c X) H x v->Rep (Gx c X) H y u->zaq v w->zaq u w'->SeqAt.EqAt X.A.in1 s w w' b:=fun h a b c d=>zq2 I 19 (by rw [Around.in1_units]; omega) h a b c d
  by_cases hl : ∃ xs ys,x=.lst xs/\y=.lst ys
  ·obtain ⟨xs,ys,rfl,rfl⟩:=hl;obtain ⟨a,vs,e,q,rs1⟩:=id r1;obtain ⟨a',vs',e',q',rs2⟩:=id r2;subst e e';cases rv; cases ru;obtain ⟨its,rr,pl,hz⟩:=I.list (SqL.of (K:=X.K) q);obtain ⟨its2,rr2,pl2,hz2⟩:=I.list (SqL.of (K:=X.K) q');have l1:=rr.length;have l2:=rr2.length;have l3:=rs1.length;have l4:=rs2.length;replace h : (if xs.length=ys.length then zcp (deq 19) xs ys else some false)=some b:=h;split at h
   ·rename_i hlen;obtain ⟨ee,he,ha⟩:=zg9 hlen h;refine SeqAt.eq_listAt pl.isList pl2.isList (by simp only [List.size_toArray]; omega) (by omega) (zh4 rs1 rs2 rr rr2 he hin) ?_;rw [List.size_toArray,<- l1,<- l3,ha];exact fin
   ·rename_i hlen;cases h;exact SeqAt.eq_list_lengthsAt pl.isList pl2.isList (by simp only [List.size_toArray,bne_iff_ne,ne_eq]; omega) (by omega) fin
  ·by_cases ht : ∃ xs ys,x=.tup xs/\y=.tup ys
   ·obtain ⟨xs,ys,rfl,rfl⟩:=ht;obtain ⟨a,vs,e,q,rs1⟩:=id r1;obtain ⟨a',vs',e',q',rs2⟩:=id r2;subst e e';cases rv; cases ru;obtain ⟨its,rr,pl,hz⟩:=I.tuple (SqT.of (K:=X.K) q);obtain ⟨its2,rr2,pl2,hz2⟩:=I.tuple (SqT.of (K:=X.K) q');have l1:=rr.length;have l2:=rr2.length;have l3:=rs1.length;have l4:=rs2.length;replace h : (if xs.length=ys.length then zcp (deq 19) xs ys else none)=some b:=h;split at h
    ·rename_i hlen;obtain ⟨ee,he,ha⟩:=zg9 hlen h;refine SeqAt.eq_tupleAt (show s.heap.IsTuple a its.toArray from pl) (show s.heap.IsTuple a' its2.toArray from pl2) (by omega) (zh4 rs1 rs2 rr rr2 he hin) ?_;have hsz : its.toArray.size=its2.toArray.size:=by simp only [List.size_toArray]; omega
     rw [<- hsz,Nat.min_self,beq_self_eq_true,Bool.and_true,List.size_toArray,<- l1,<- l3,ha];exact fin
    ·cases h
   ·obtain ⟨hs,rfl⟩:=zk7 ⟨hl,ht⟩ h;obtain ⟨_,_,_,hsc,e⟩:=zld hs r1 r2;exact z3a pins s σ H v u w w' Q I rv ru ⟨hsc,by rw [e]; exact q0⟩
theorem ztr (hu:X.A.units + 64 < cLine) : OpD c X (compareOp .NotEq) dNe:=by
 rintro pins s σ H v u w w' Q I rv ru ⟨Hf,x,y,d,s0,r1,r2,e,k⟩;unfold dNe at e
 cases h : deq 20 x y with
 | none=>rw [h] at e; cases e
 | some b =>
  rw [h] at e;cases e;have q0:=k (.bl (!b)) Hf H (Ext.refl s0) rfl;have fin : EP X pins σ Q (.bool (!b)) s:=⟨.bl (!b),H,I,rfl,q0⟩;have r1:=r1.up s0;have r2:=r2.up s0;have hin : ∀ {x y:D} {b:Bool} {v u:V} {w w':Value},deq 19 x y=some b->Rep (Gx c X) H x v->Rep (Gx c X) H y u->zaq v w->zaq u w'->SeqAt.EqAt X.A.in1 s w w' b:=fun h a b c d=>zq2 I 19 (by rw [Around.in1_units]; omega) h a b c d
  by_cases hl : ∃ xs ys,x=.lst xs/\y=.lst ys
  ·obtain ⟨xs,ys,rfl,rfl⟩:=hl;obtain ⟨a,vs,e,q,rs1⟩:=id r1;obtain ⟨a',vs',e',q',rs2⟩:=id r2;subst e e';cases rv; cases ru;obtain ⟨its,rr,pl,hz⟩:=I.list (SqL.of (K:=X.K) q);obtain ⟨its2,rr2,pl2,hz2⟩:=I.list (SqL.of (K:=X.K) q');have l1:=rr.length;have l2:=rr2.length;have l3:=rs1.length;have l4:=rs2.length;replace h : (if xs.length=ys.length then zcp (deq 19) xs ys else some false)=some b:=h;split at h
   ·rename_i hlen;obtain ⟨ee,he,ha⟩:=zg9 hlen h;refine SeqAt.RcNeAt.lists (A:=X.A) (s:=s) pl.isList pl2.isList (by simp only [List.size_toArray]; omega) (by omega) (zh4 rs1 rs2 rr rr2 he hin) X.prog X.w X.xe _ ?_;rw [List.size_toArray,<- l1,<- l3,ha];exact fin
   ·rename_i hlen;cases h;exact SeqAt.RcNeAt.lists_lengths (A:=X.A) (s:=s) pl.isList pl2.isList (by simp only [List.size_toArray,bne_iff_ne,ne_eq]; omega) (by omega) X.prog X.w X.xe _ fin
  ·by_cases ht : ∃ xs ys,x=.tup xs/\y=.tup ys
   ·obtain ⟨xs,ys,rfl,rfl⟩:=ht;obtain ⟨a,vs,e,q,rs1⟩:=id r1;obtain ⟨a',vs',e',q',rs2⟩:=id r2;subst e e';cases rv; cases ru;obtain ⟨its,rr,pl,hz⟩:=I.tuple (SqT.of (K:=X.K) q);obtain ⟨its2,rr2,pl2,hz2⟩:=I.tuple (SqT.of (K:=X.K) q');have l1:=rr.length;have l2:=rr2.length;have l3:=rs1.length;have l4:=rs2.length;replace h : (if xs.length=ys.length then zcp (deq 19) xs ys else none)=some b:=h;split at h
    ·rename_i hlen;obtain ⟨ee,he,ha⟩:=zg9 hlen h;refine SeqAt.RcNeAt.tuples (A:=X.A) (s:=s) (show s.heap.IsTuple a its.toArray from pl) (show s.heap.IsTuple a' its2.toArray from pl2) (by omega) (zh4 rs1 rs2 rr rr2 he hin) X.prog X.w X.xe _ ?_;have hsz : its.toArray.size=its2.toArray.size:=by simp only [List.size_toArray]; omega
     rw [<- hsz,Nat.min_self,beq_self_eq_true,Bool.and_true,List.size_toArray,<- l1,<- l3,ha];exact fin
    ·cases h
   ·obtain ⟨hs,rfl⟩:=zk7 ⟨hl,ht⟩ h;obtain ⟨_,_,_,hsc,e⟩:=zld hs r1 r2;exact z3k pins s σ H v u w w' Q I rv ru ⟨hsc,by rw [e]; exact q0⟩
noncomputable def eqX : D->D->Bool
 | .non,.non=>true
 | .bl a,.bl b=>a==b
 | .bl a,.int b=>(if a then 1 else 0)==b
 | .int a,.bl b=>a==(if b then 1 else 0)
 | .int a,.int b=>a==b
 | .str a,.str b=>a==b
 | _,_=>false
noncomputable def inD (x y:D) : Option Bool:=(zgr y).bind fun ds=>if x.scalar && ds.all D.scalar then some (ds.any fun d=>eqX d x) else none
noncomputable def dIn (x y:D) : Option D:=(inD x y).map .bl
theorem z6i : ∀ x y d,dIn x y=some d->d.scalar=true:=fun _ _ d e=>zkj (g:=id) d e
theorem zyk {G:Gc} {H:Hp} {x y:D} {v u:V} (hx:x.scalar=true) (hy:y.scalar=true) (r1:Rep G H x v) (r2:Rep G H y u) : zdd v=true/\zdd u=true/\eqV v u=eqX x y:=by
 cases x <;> first
  | (cases hx; done)
  | (cases y <;> first
   | (cases hy; done)
   | (cases r1; cases r2; exact ⟨rfl,rfl,rfl⟩))
theorem zr5 {G:Gc} {H:Hp} {x:D} {v:V} (hx:x.scalar=true) (r:Rep G H x v) : ∀ {ds:List D} {vs:List V},ds.all D.scalar=true->zae G H ds vs->vs.all zdd=true/\inV v vs=ds.any fun d=>eqX d x
 | [],_,_,h=>by cases (show _=[] from h); exact ⟨rfl,rfl⟩
 | d::ds,_,ha,⟨u,r',e,h1,h2⟩=>by
  subst e;rw [List.all_cons,Bool.and_eq_true] at ha;obtain ⟨f1,f2,e⟩:=zyk ha.1 hx h1 r;obtain ⟨g1,g2⟩:=zr5 hx r ha.2 h2;refine ⟨by rw [List.all_cons,f1,g1]; rfl,?_⟩;unfold inV at g2 ⊢;rw [List.any_cons,List.any_cons,e,g2]
theorem zzi {G:Gc} {H:Hp} {x y:D} {v u:V} {b:Bool} (e:inD x y=some b) (r1:Rep G H x v) (r2:Rep G H y u) : ∃ p vs,u=.ref p/\(SqL G.K H p vs\/SqT G.K H p vs)/\zdd v=true/\vs.all zdd=true/\inV v vs=b:=by
 unfold inD at e
 cases es : zgr y with
 | none=>rw [es] at e; cases e
 | some ds =>
  rw [es] at e;replace e : (if (x.scalar && ds.all D.scalar)=true then some (ds.any fun d=>eqX d x) else none)=some b:=e;split at e
  ·rename_i hc;cases e;rw [Bool.and_eq_true] at hc;obtain ⟨a,vs,e1,q,r⟩:=zmj es r2;obtain ⟨g1,g2⟩:=zr5 hc.1 r1 hc.2 r
   have f : zdd v=true:=by cases x <;> first | (cases r1; rfl) | (cases hc.1)
   exact ⟨a,vs,e1,q,f,g1,g2⟩
  ·cases e
theorem z14 : OpD c X (compareOp .In) dIn:=by
 rintro pins s σ H v u w w' Q I rv ru ⟨Hf,x,y,d,s0,r1,r2,e,k⟩;unfold dIn at e
 cases h : inD x y with
 | none=>rw [h] at e; cases e
 | some b =>
  rw [h] at e;cases e;obtain ⟨p,vs,e1,q,f1,f2,e2⟩:=zzi h (r1.up s0) (r2.up s0);refine z3e pins s σ H v u w w' Q I rv ru ⟨p,vs,e1,q,f1,f2,?_⟩;rw [if_neg Bool.false_ne_true,e2];exact k _ Hf H (Ext.refl s0) rfl
end
section
variable {c:Str->Addr} {X:Cx} {e a b o:Expr} {es:List Expr} {pos p apos:Pos}
theorem zwg {G:Gc} {H:Hp} {ds:List D} {vs:List V} {i:Int} {d:D} (h:atI ds i=some d) (r:zae G H ds vs) : ∃ v,atI vs i=some v/\Rep G H d v:=by
 unfold atI at h ⊢;rw [<- r.length]
 cases e : ixN ds.length i with
 | none=>rw [e] at h; cases h
 | some j =>
  rw [e] at h;exact r.get h
noncomputable def ixD (ds:List D) : D->Option D
 | .int k=>atI ds k
 | _=>none
noncomputable def mIx (f:List Sl->Option (List D)) (g:List Sl->Option D) (ρ:List Sl) : Option D:=(f ρ).bind fun ds=>(g ρ).bind fun i=>ixD ds i
theorem zal {f:List Sl->Option (List D)} {g:List Sl->Option D} (ha:DC c X a f) (hb:DE c X b g) (hs:zpy b:=by exact fun _ _=>rfl) : DE c X (.Subscript a b pos) (mIx f g) :=
 PE.imp (z33 (zz4.or zz5) ha hb hs) fun σ H Q q_=>by
  obtain ⟨Hf0,H0,Hf,ρ,d,st,ef,k⟩:=q_;unfold mIx at ef
  cases e1 : f ρ with
  | none=>rw [e1] at ef; cases ef
  | some ds =>
   cases e2 : g ρ with
   | none=>rw [e1,e2] at ef; cases ef
   | some i =>
    rw [e1,e2] at ef;replace ef : ixD ds i=some d:=ef
    cases i with
    | int n =>
     replace ef : atI ds n=some d:=ef;refine ⟨Hf0,H0,Hf,ρ,ds,st,e1,fun l vs Hf1 H1 x1 q r=>⟨Hf0,H0,Hf1,ρ,.int n,st.step x1,e2,fun u Hf2 H2 x2 r2=>?_⟩⟩;cases (show u=V.int n from r2);obtain ⟨v,ev,rv⟩:=zwg ef r;have fin:=k v Hf2 H2 (x1.trans x2) (rv.up x2.f)
     rcases q with q | q
     ·exact .inl ⟨l,vs,n,v,rfl,rfl,x2.h.seq q,ev,fin⟩
     ·exact .inr ⟨l,vs,n,v,rfl,rfl,x2.h.tup q,ev,fin⟩
    | _=>cases ef
noncomputable def zg8 (xs:List D) (lo hi:Option Int) : List D:=(xs.drop (HT.sIx xs.length 0 lo)).take (HT.sIx xs.length xs.length hi - HT.sIx xs.length 0 lo)
noncomputable def lsD : D->Option (List D)
 | .lst xs=>some xs
 | .kl xs=>some xs
 | _=>none
theorem zh8 {G:Gc} {H:Hp} {d:D} {v:V} {ds:List D} (e:lsD d=some ds) (r:Rep G H d v) : ∃ a vs,v=.ref a/\SqL G.K H a vs/\zae G H ds vs:=by
 cases d with
 | lst xs=>cases e; obtain ⟨a,vs,e1,q,r⟩:=r; exact ⟨a,vs,e1,SqL.of q,r⟩
 | kl xs=>cases e; obtain ⟨a,vs,e1,q,r⟩:=r; exact ⟨a,vs,e1,q,r⟩
 | _=>cases e
noncomputable def z7a (G:Gc) (f:List Sl->Option (Option Int)) : TO:=fun σ H Q=>∃ Hf0 H0 Hf ρ i,zah G Hf0 H0 Hf H σ ρ/\f ρ=some i/\∀ Hf' H',Ext Hf H Hf' H'->Q i H'
noncomputable def DPt (c:Str->Addr) (X:Cx) (e:Option Expr) (f:List Sl->Option (Option Int)) : Prop:=PO X e (z7a (Gx c X) f)
theorem zq7 : DPt c X none (fun _=>some none):=fun pins s σ H Q I q_=>by
 obtain ⟨Hf0,H0,Hf,ρ,i,st,ef,k⟩:=q_;exact (z4q pins s σ H Q I (by cases ef; exact k Hf H (Ext.refl st.sub)))
noncomputable def mPt (f:List Sl->Option D) (ρ:List Sl) : Option (Option Int):=(f ρ).bind fun d=>match d with
 | .int i=>some (some i)
 | _=>none
theorem zh0 {f:List Sl->Option D} (h:DE c X e f) : DPt c X (some e) (mPt f):=fun pins s σ H Q I q_=>by
 obtain ⟨Hf0,H0,Hf,ρ,i,st,ef,k⟩:=q_
 exact (z4r h pins s σ H Q I (by
 unfold mPt at ef
 cases e1 : f ρ with
 | none=>rw [e1] at ef; cases ef
 | some d =>
  rw [e1] at ef
  cases d with
  | int n=>cases ef; exact ⟨Hf0,H0,Hf,ρ,.int n,st,e1,fun v Hf' H' x r=>⟨n,r,k Hf' H' x⟩⟩
  | _=>cases ef))
noncomputable def mSl (f:List Sl->Option D) (l h:List Sl->Option (Option Int)) (ρ:List Sl) : Option (List D):=(f ρ).bind fun d=>(lsD d).bind fun ds=>(l ρ).bind fun lo=>(h ρ).map fun hi=>zg8 ds lo hi
theorem zw3 {G:Gc} {H:Hp} {ds:List D} {vs:List V} (r:zae G H ds vs) (lo hi:Option Int) : zae G H (zg8 ds lo hi) (zf9 vs lo hi):=by
 unfold zg8 zf9;rw [r.length];exact (r.drop _).take _
theorem zk9 {f:List Sl->Option D} {l h:List Sl->Option (Option Int)} {lo hi:Option Expr} {p2:Pos} (ha:DE c X e f) (hl:DPt c X lo l) (hh:DPt c X hi h) : DO c X (.Subscript e (.Slice lo hi none p2) pos) (mSl f l h) :=
 PE.imp (z38 z6v ha hl hh) fun σ H Q q_=>by
  obtain ⟨Hf0,H0,Hf,ρ,rs,st,ef,k⟩:=q_;unfold mSl at ef
  cases e1 : f ρ with
  | none=>rw [e1] at ef; cases ef
  | some d =>
   cases e2 : lsD d with
   | none=>rw [e1] at ef; replace ef : (lsD d).bind _=_:=ef; rw [e2] at ef; cases ef
   | some ds =>
    cases e3 : l ρ with
    | none=>rw [e1] at ef; replace ef : (lsD d).bind _=_:=ef; rw [e2,e3] at ef; cases ef
    | some lo' =>
     cases e4 : h ρ with
     | none=>rw [e1] at ef; replace ef : (lsD d).bind _=_:=ef; rw [e2,e3,e4] at ef; cases ef
     | some hi' =>
      rw [e1] at ef;replace ef : (lsD d).bind _=_:=ef;rw [e2,e3,e4] at ef;cases ef;refine ⟨Hf0,H0,Hf,ρ,d,st,e1,fun v Hf1 H1 x1 r1=>⟨Hf0,H0,Hf1,ρ,lo',st.step x1,e3,fun Hf2 H2 x2=>⟨Hf0,H0,Hf2,ρ,hi',(st.step x1).step x2,e4,fun Hf3 H3 x3=>?_⟩⟩⟩;obtain ⟨a,vs,ea,q,r⟩:=zh8 e2 r1;subst ea;have x:=(x1.trans x2).trans x3;have y:=(x2.trans x3);refine ⟨a,vs,rfl,(x1.s.trans y.h).seq q,fun p hp=>?_⟩;exact k p (zf9 vs lo' hi') Hf3 (upd H3 p (.lst (zf9 vs lo' hi'))) (x.trans (Ext.tmp x.s hp)) (x.h.free hp) (x.s.free hp) zbb (zw3 (r.up y.f) _ _)
noncomputable def rCD (G:Gc) (m:List D->Option D) : List V->Hp->VK->Prop:=fun vs H Q=>∃ Hf ds d,zaf Hf H/\zae G Hf ds vs/\m ds=some d/\∀ v Hf' H',Ext Hf H Hf' H'->Rep G Hf' d v->Q v H'
noncomputable abbrev zkq (c:Str->Addr) (X:Cx) (f:Value) (m:List D->Option D) : Prop:=zc9 X f (rCD (Gx c X) m)
noncomputable def zay (m:List D->Option D) (f:List Sl->Option (List D)) (ρ:List Sl) : Option D:=(f ρ).bind m
theorem zoa {m:List D->Option D} {f:List Sl->Option (List D)} {ρ:List Sl} {d:D} (h:zay m f ρ=some d) : ∃ ds,f ρ=some ds/\m ds=some d:=by
 unfold zay at h
 cases e : f ρ with
 | none=>rw [e] at h; cases h
 | some ds=>rw [e] at h; exact ⟨ds,rfl,h⟩
theorem zd1 {m:List D->Option D} {f:List Sl->Option (List D)} {x:Str} {id:String} (hc:zkq c X (.builtin id) m) (hs:∀ ds d,m ds=some d->d.scalar=true) (hg:Gl X x) (hm:X.mg x=none) (hv:bootBuiltins x=some (.builtin id)) (ha:DAB c X (e::es) f) (hn:x ≠ "__name__":=by decide) (hdb:(x==("__debug__" : Str))=false:=by decide)
  (he:starEach (e::es) X.env=(false,eval e X.env)::starEach es X.env:=by rfl) (hpl:(backTo pos (starEach es X.env)).any (·.1)=false:=by rfl) :
  DE c X (.Call (.Name x p) (e::es) [] pos) (zay m f):=PE.imp (zt3 hc hg hm hv ha.pa hn hdb he hpl) fun σ H Q q_=>by
 obtain ⟨Hf0,H0,Hf,ρ,d,st,ef,k⟩:=q_;obtain ⟨ds,e1,e2⟩:=zoa ef;exact ⟨Hf0,H0,Hf,ρ,ds,st,e1,fun vs Hf' H' x r=>⟨H',ds,d,zaf.refl _,r,e2,fun v Hf2 H2 x2 r2=>k v Hf' H2 (x.trans (Ext.grow x.s x2.h)) (r2.sc (hs _ _ e2))⟩⟩
noncomputable def zfg : List D->Option D
 | [.lst xs]=>some (.int xs.length)
 | [.tup xs]=>some (.int xs.length)
 | [.kl xs]=>some (.int xs.length)
 | [.kt xs]=>some (.int xs.length)
 | [.str x]=>if x.length<=16777216 then some (.int x.length) else none
 | _=>none
theorem zae.one {G:Gc} {H:Hp} {d:D} {vs:List V} (r:zae G H [d] vs) : ∃ v,vs=[v]/\Rep G H d v:=by
 obtain ⟨v,r',e,h,q⟩:=r;cases (show r'=[] from q);exact ⟨v,e,h⟩
theorem zae.two {G:Gc} {H:Hp} {d d':D} {vs:List V} (r:zae G H [d,d'] vs) : ∃ v v',vs=[v,v']/\Rep G H d v/\Rep G H d' v':=by
 obtain ⟨v,r',e,h,q⟩:=r;obtain ⟨v',e',h'⟩:=q.one;subst e';exact ⟨v,v',e,h,h'⟩
theorem zk1 : zkq c X (.builtin "len") zfg:=by
 rintro pins s σ H vs us Q I rv ⟨Hf,ds,d,s0,r,e,k⟩
 have sq : ∀ (d0:D) (xs:List D),ds=[d0]->zgr d0=some xs->d=.int xs.length->wpAny (model X.prog X.w) X.A (call (.builtin "len") us) (EP X pins σ Q) X.xe s:=fun d0 xs ed es e0=>by
  subst ed e0;obtain ⟨v,e1,r1⟩:=r.one;subst e1;obtain ⟨a,ws,e2,q,rs⟩:=zmj es r1;subst e2;refine zwm pins s σ H _ us Q I rv ⟨a,ws,rfl,zpj s0 q,?_⟩;rw [<- rs.length];exact k _ Hf H (Ext.refl s0) rfl
 unfold zfg at e;split at e
 ·cases e; exact sq _ _ rfl rfl rfl
 ·cases e; exact sq _ _ rfl rfl rfl
 ·cases e; exact sq _ _ rfl rfl rfl
 ·cases e; exact sq _ _ rfl rfl rfl
 ·split at e
  ·rename_i hl;cases e;obtain ⟨v,e1,r1⟩:=r.one;subst e1;exact zwn pins s σ H _ us Q I rv ⟨_,by rw [show v=V.str _ from r1],by rw [sizeLine_eq]; exact hl,k _ Hf H (Ext.refl s0) rfl⟩
  ·cases e
 ·cases e
theorem zmh : ∀ ds d,zfg ds=some d->d.scalar=true:=by
 intro ds d e;unfold zfg at e
 split at e <;> first | (cases e; done) | (cases e; rfl) | (split at e <;> first | (cases e; done) | (cases e; rfl))
noncomputable def zds : List D->Option (List Int)
 | []=>some []
 | .int i::ds=>(zds ds).map fun r=>i::r
 | _=>none
theorem zr8 {G:Gc} {H:Hp} : ∀ {ds:List D} {ns:List Int} {vs:List V},zds ds=some ns->zae G H ds vs->vs=ns.map V.int
 | [],_,_,e,r=>by cases e; exact r
 | .int i::ds,_,_,e,⟨v,r',e',h1,h2⟩=>by
  subst e'
  cases es : zds ds with
  | none=>rw [zds,es] at e; cases e
  | some ns =>
   rw [zds,es] at e;cases e;rw [zr8 es h2,show v=V.int i from h1]
   rfl
 | .non::_,_,_,e,_=>by cases e
 | .bl _::_,_,_,e,_=>by cases e
 | .str _::_,_,_,e,_=>by cases e
 | .lst _::_,_,_,e,_=>by cases e
 | .tup _::_,_,_,e,_=>by cases e
 | .kl _::_,_,_,e,_=>by cases e
 | .kt _::_,_,_,e,_=>by cases e
 | .dic _ _::_,_,_,e,_=>by cases e
 | .ins _ _ _::_,_,_,e,_=>by cases e
theorem zzn (ns:List Int) : zds (ns.map D.int)=some ns:=by
 induction ns with
 | nil=>rfl
 | cons n ns ih=>rw [List.map_cons,zds,ih]; rfl
noncomputable def zd9 : List D->Option D
 | [d]=>(lsD d).bind fun ds=>(zds ds).map fun ns=>.int ns.sum
 | _=>none
theorem zjt (hc:X.calm=true) : zkq c X (.builtin "sum") zd9:=by
 rintro pins s σ H vs us Q I rv ⟨Hf,ds,d,s0,r,e,k⟩;unfold zd9 at e;split at e
 ·rename_i d0
  cases e1 : lsD d0 with
  | none=>rw [e1] at e; cases e
  | some xs =>
   cases e2 : zds xs with
   | none=>rw [e1] at e; replace e : (zds xs).map _=_:=e; rw [e2] at e; cases e
   | some ns =>
    rw [e1] at e;replace e : (zds xs).map _=_:=e;rw [e2] at e;cases e;obtain ⟨v,ev,r1⟩:=r.one;subst ev;obtain ⟨a,ws,ea,q,rs⟩:=zh8 e1 r1;subst ea;refine zwq hc pins s σ H _ us Q I rv ⟨a,ns,rfl,?_,k _ Hf H (Ext.refl s0) rfl⟩;rw [<- zr8 e2 rs];exact s0.seq q
 ·cases e
theorem zkk : ∀ ds d,zd9 ds=some d->d.scalar=true:=by
 intro ds d e;unfold zd9 at e;split at e
 ·rename_i d0
  cases e1 : lsD d0 with
  | none=>rw [e1] at e; cases e
  | some xs =>
   rw [e1] at e;replace e : (zds xs).map _=_:=e
   cases e2 : zds xs with
   | none=>rw [e2] at e; cases e
   | some ns=>rw [e2] at e; cases e; rfl
 ·cases e
theorem zjw {f:List Sl->Option (List D)} {x:Str} (hx:bootBuiltins x=some (.type "list")) (hg:Gl X x) (hm:X.mg x=none) (ha:DC c X e f) (hs:starEach [e] X.env=(false,eval e X.env)::starEach [] X.env:=by rfl) (hn:x ≠ "__name__":=by decide) (hdb:(x==("__debug__" : Str))=false:=by decide)
  (hpl:(backTo pos (starEach [] X.env)).any (·.1)=false:=by rfl) : DO c X (.Call (.Name x p) [e] [] pos) f :=
 PE.imp (z3x zwo hg hm hx (zde ha zdf hs) hn hdb hs hpl) fun σ H Q q_=>by
 obtain ⟨Hf0,H0,Hf,ρ,ds,st,ef,k⟩:=q_
 exact (
  ⟨Hf0,H0,Hf,ρ,ds,st,ef,fun a vs Hf' H' x q r=>⟨a,vs,rfl,q,fun l hl=>k l vs Hf' (upd H' l (.lst vs)) (x.trans (Ext.tmp x.s hl)) (x.h.free hl) (x.s.free hl) zbb r⟩⟩)
noncomputable def tyN : D->Option String
 | .non=>some "NoneType"
 | .bl _=>some "bool"
 | .int _=>some "int"
 | .str _=>some "str"
 | .lst _=>some "list"
 | .tup _=>some "tuple"
 | .dic _ _=>some "dict"
 | _=>none
noncomputable def zny (T:String) (d:D) : Option D:=(tyN d).map fun t=>.bl (t==T || (t == "bool" && T == "int"))
theorem z73 {G:Gc} {H:Hp} {d:D} {v:V} {t:String} (e:tyN d=some t) (r:Rep G H d v) : zdm G.K H v (.type t):=by
 cases d with
 | non=>cases e; cases r; exact .non
 | bl b=>cases e; cases r; exact .bl b
 | int i=>cases e; cases r; exact .int i
 | str x=>cases e; cases r; exact .str x
 | lst xs=>cases e; obtain ⟨a,vs,e1,q,r⟩:=r; subst e1; exact .lst q
 | tup xs=>cases e; obtain ⟨a,vs,e1,q,r⟩:=r; subst e1; exact .tup q
 | dic ks xs=>cases e; obtain ⟨a,vs,e1,q,l,r⟩:=r; subst e1; exact .dK q
 | _=>cases e
noncomputable def zku (K:PySem.W.Frag) (T:String) : Prop:=∀ t∈["NoneType","bool","int","str","list","tuple","dict"],PySem.W.kitOne K (.type t) (.type T)=some (t==T || (t == "bool" && T == "int"))
theorem z71 {d:D} {t:String} (e:tyN d=some t) : t∈["NoneType","bool","int","str","list","tuple","dict"]:=by
 cases d <;> first | (cases e; decide) | cases e
noncomputable def zj4 (T:String) (f:List Sl->Option D) (ρ:List Sl) : Option D:=(f ρ).bind (zny T)
theorem znf {f:List Sl->Option D} {T:String} {q1:Pos} {y:Str} (hk:zku X.K T) (hg:Gl X "isinstance") (hm:X.mg "isinstance"=none) (hy:bootBuiltins y=some (.type T)) (hgy:Gl X y) (hmy:X.mg y=none) (ha:DB c X e f)
  (hs:starEach [e,.Name y q1] X.env=(false,eval e X.env)::starEach [.Name y q1] X.env:=by rfl) (hs2:starEach [.Name y q1] X.env=(false,eval (.Name y q1) X.env)::starEach [] X.env:=by rfl)
  (hn:y ≠ "__name__":=by decide) (hdb:(y==("__debug__" : Str))=false:=by decide) (hpl:(backTo pos (starEach [.Name y q1] X.env)).any (·.1)=false:=by rfl) :
  DE c X (.Call (.Name "isinstance" p) [e,.Name y q1] [] pos) (zj4 T f) :=
 PE.imp (zt3 zwl hg hm boot_isinstance (zde ha (zde (z3w (v:=.ty T) hgy hmy hy rfl hn hdb) zdf hs2) hs) (by decide) (by decide) hs hpl) fun σ H Q q_=>by
  obtain ⟨Hf0,H0,Hf,ρ,d,st,ef,k⟩:=q_;unfold zj4 at ef
  cases e1 : f ρ with
  | none=>rw [e1] at ef; cases ef
  | some x =>
   rw [e1] at ef;replace ef : zny T x=some d:=ef;unfold zny at ef
   cases e2 : tyN x with
   | none=>rw [e2] at ef; cases ef
   | some t =>
    rw [e2] at ef;cases ef;exact ⟨Hf0,H0,Hf,ρ,x,st,e1,fun v Hf' H' x1 r=>⟨v,T,.type t,_,rfl,z73 e2 r,hk t (z71 e2),k _ Hf' H' x1 rfl⟩⟩
end
noncomputable def tDG (G:Gc) (g:D->List Sl->Option (List Sl)) : TG:=fun v σ H Q=>∃ Hf0 H0 Hf ρ d ρ',zah G Hf0 H0 Hf H σ ρ/\Rep G Hf d v/\g d ρ=some ρ'/\∀ σ',zah G Hf0 H0 Hf H σ' ρ'->Q σ' H
noncomputable def z67 (G:Gc) (g:List D->List Sl->Option (List Sl)) : TGs:=fun vs σ H Q=>∃ Hf0 H0 Hf ρ ds ρ',zah G Hf0 H0 Hf H σ ρ/\zae G Hf ds vs/\g ds ρ=some ρ'/\∀ σ',zah G Hf0 H0 Hf H σ' ρ'->Q σ' H
structure DG (c:Str->Addr) (X:Cx) (tg:Expr) (k:Nat) (g:D->List Sl->Option (List Sl)) : Prop where
 pg : PG X tg (tDG (Gx c X) g)
 len : ∀ d ρ ρ',g d ρ=some ρ'->ρ'.length=ρ.length
 keep : ∀ d ρ ρ' i,g d ρ=some ρ'->k<=i->ρ'[i]?=ρ[i]?
structure DGs (c:Str->Addr) (X:Cx) (tg:List Expr) (k:Nat) (g:List D->List Sl->Option (List Sl)) : Prop where
 pg : PGs X tg (z67 (Gx c X) g)
 len : ∀ d ρ ρ',g d ρ=some ρ'->ρ'.length=ρ.length
 keep : ∀ d ρ ρ' i,g d ρ=some ρ'->k<=i->ρ'[i]?=ρ[i]?
 many : ∀ ds ρ ρ',g ds ρ=some ρ'->ds.length=tg.length
section
variable {c:Str->Addr} {X:Cx} {e:Expr} {es:List Expr} {pos:Pos}
noncomputable def zaw (i:Nat) (d:D) (ρ:List Sl) : Option (List Sl):=some (ρ.set i (.im d))
theorem zq4 {i k:Nat} (h:PG X e (zhd i)) (hk:i < k) : DG c X e k (zaw i) :=
 ⟨PG.imp h fun v σ H Q ⟨Hf0,H0,Hf,ρ,d,ρ',st,r,eg,q⟩=>by cases eg; exact q _ (st.setIm r),fun d ρ ρ' h=>by cases h; simp,fun d ρ ρ' j h hj=>by
  cases h;rw [List.getElem?_set_ne (by omega)]⟩
theorem zcx (i k:Nat) {x:Str} (hN:X.N.Nodup) (hk:i < k:=by decide) (hi:X.N[i]?=some x:=by rfl) (hx:Loc X.env.scope x:=by first | exact Or.inl rfl | exact Or.inr rfl) (hf:X.fn x=true\/X.env.scope.names.lookup x=some .local:=by first | exact .inl rfl | exact .inr rfl) : DG c X (.Name x pos) k (zaw i) :=
 zq4 (zt9 hN hi hx hf) hk
noncomputable def zd3 (ds:List D) (ρ:List Sl) : Option (List Sl):=match ds with
 | []=>some ρ
 | _=>none
noncomputable def zbx (g:D->List Sl->Option (List Sl)) (h:List D->List Sl->Option (List Sl)) (ds:List D) (ρ:List Sl) : Option (List Sl):=match ds with
 | d::ds=>(g d ρ).bind fun ρ1=>h ds ρ1
 | []=>none
theorem zfd {k:Nat} : DGs c X [] k zd3:=by
 refine ⟨PGs.imp z4g fun vs σ H Q ⟨Hf0,H0,Hf,ρ,ds,ρ',st,r,eg,q⟩=>?_,fun d ρ ρ' h=>?_,fun d ρ ρ' i h _=>?_,fun d ρ ρ' h=>?_⟩
 ·cases ds with
  | nil=>cases eg; exact ⟨r,q _ st⟩
  | cons d ds=>cases eg
 ·cases d with
  | nil=>cases h; rfl
  | cons a b=>cases h
 ·cases d with
  | nil=>cases h; rfl
  | cons a b=>cases h
 ·cases d with
  | nil=>cases h; rfl
  | cons a b=>cases h
theorem zlh {g:D->List Sl->Option (List Sl)} {h:List D->List Sl->Option (List Sl)} {ds:List D} {ρ ρ':List Sl} (e:zbx g h ds ρ=some ρ') : ∃ d r ρ1,ds=d::r/\g d ρ=some ρ1/\h r ρ1=some ρ':=by
 cases ds with
 | nil=>cases e
 | cons d r =>
  replace e : (g d ρ).bind _=_:=e
  cases e1 : g d ρ with
  | none=>rw [e1] at e; cases e
  | some ρ1=>rw [e1] at e; exact ⟨d,r,ρ1,rfl,e1,e⟩
theorem zcq {k:Nat} {g:D->List Sl->Option (List Sl)} {h:List D->List Sl->Option (List Sl)} (h1:DG c X e k g) (h2:DGs c X es k h) (hs:(assignEach (e::es) X.env).map (·.2)=assign e X.env::(assignEach es X.env).map (·.2):=by rfl) : DGs c X (e::es) k (zbx g h):=by
 refine ⟨PGs.imp (z4f h1.pg h2.pg hs) fun vs σ H Q ⟨Hf0,H0,Hf,ρ,ds,ρ',st,r,eg,q⟩=>?_,fun d ρ ρ' h=>?_,fun d ρ ρ' i h hi=>?_,fun d ρ ρ' h=>?_⟩
 ·obtain ⟨d,dr,ρ1,rfl,e1,e2⟩:=zlh eg;obtain ⟨v,vr,ev,rv,rr⟩:=r;exact ⟨v,vr,ev,Hf0,H0,Hf,ρ,d,ρ1,st,rv,e1,fun σ1 st1=>⟨Hf0,H0,Hf,ρ1,dr,ρ',st1,rr,e2,q⟩⟩
 ·obtain ⟨d,dr,ρ1,rfl,e1,e2⟩:=zlh h;rw [h2.len _ _ _ e2,h1.len _ _ _ e1]
 ·obtain ⟨d,dr,ρ1,rfl,e1,e2⟩:=zlh h;rw [h2.keep _ _ _ _ e2 hi,h1.keep _ _ _ _ e1 hi]
 ·obtain ⟨d,dr,ρ1,rfl,e1,e2⟩:=zlh h;rw [List.length_cons,List.length_cons,h2.many _ _ _ e2]
noncomputable def tpD : D->Option (List D)
 | .tup xs=>some xs
 | .kt xs=>some xs
 | _=>none
theorem zvk {G:Gc} {H:Hp} {d:D} {v:V} {ds:List D} (e:tpD d=some ds) (r:Rep G H d v) : ∃ a vs,v=.ref a/\SqT G.K H a vs/\zae G H ds vs:=by
 cases d with
 | tup xs=>cases e; obtain ⟨a,vs,e1,q,r⟩:=r; exact ⟨a,vs,e1,SqT.of q,r⟩
 | kt xs=>cases e; obtain ⟨a,vs,e1,q,r⟩:=r; exact ⟨a,vs,e1,q,r⟩
 | _=>cases e
noncomputable def zdi (g:List D->List Sl->Option (List Sl)) (d:D) (ρ:List Sl) : Option (List Sl):=(tpD d).bind fun ds=>g ds ρ
theorem znt {g:List D->List Sl->Option (List Sl)} {d:D} {ρ ρ':List Sl} (h:zdi g d ρ=some ρ') : ∃ ds,tpD d=some ds/\g ds ρ=some ρ':=by
 unfold zdi at h
 cases e : tpD d with
 | none=>rw [e] at h; cases h
 | some ds=>rw [e] at h; exact ⟨ds,rfl,h⟩
theorem zfc {k:Nat} {g:List D->List Sl->Option (List Sl)} {kk:Nat} (hc:X.calm=true) (h:DGs c X es k g) (hn:(assignEach es X.env).length=es.length:=by rfl) (hst:(assignEach es X.env).findIdx? (·.1)=none:=by rfl) : DG c X (.Tuple es kk pos) k (zdi g):=by
 refine ⟨PG.imp (z4e hc h.pg hn hst) fun v σ H Q ⟨Hf0,H0,Hf,ρ,d,ρ',st,r,eg,q⟩=>?_,fun d ρ ρ' h'=>?_,fun d ρ ρ' i h' hi=>?_⟩
 ·obtain ⟨ds,e1,e2⟩:=znt eg;obtain ⟨a,vs,ea,qa,ra⟩:=zvk e1 r;exact ⟨a,vs,ea,st.sub.tup qa,by rw [<- ra.length]; exact h.many _ _ _ e2,Hf0,H0,Hf,ρ,ds,ρ',st,ra,e2,q⟩
 ·obtain ⟨ds,e1,e2⟩:=znt h';exact h.len _ _ _ e2
 ·obtain ⟨ds,e1,e2⟩:=znt h';exact h.keep _ _ _ _ e2 hi
end
noncomputable def zjq (G:Gc) (Hf:Hp) (J:It) (ds:List D) : Prop:=∀ Hf' H',zaf Hf Hf'->zaf Hf' H'->∀ i : Nat,
 (∀ d,ds[i]?=some d->J.go i H'/\∀ x H2,J.yld i H' x H2->∃ Hf2,Ext Hf' H' Hf2 H2/\Rep G Hf2 d x)/\(i=ds.length->J.stop i H')
noncomputable def zmv (G:Gc) (Hf H:Hp) (J:It) (ds:List D) : Prop:=∀ Hf' H',Ext Hf H Hf' H'->∀ i : Nat,
 (∀ d,ds[i]?=some d->J.go i H'/\∀ x H2,J.yld i H' x H2->∃ Hf2,Ext Hf' H' Hf2 H2/\Rep G Hf2 d x)/\(i=ds.length->J.stop i H')
theorem zjq.toE {G:Gc} {Hf H:Hp} {J:It} {ds:List D} (h:zjq G Hf J ds) : zmv G Hf H J ds:=fun Hf' H' x i=>h Hf' H' x.f x.s i
noncomputable def tDI (G:Gc) (f:List Sl->Option (List D)) : TI:=fun σ H R=>∃ Hf0 H0 Hf ρ ds,zah G Hf0 H0 Hf H σ ρ/\f ρ=some ds/\∀ J Hf' H',Ext Hf H Hf' H'->zjq G Hf' J ds->R J H'
noncomputable def zvd (G:Gc) (f:List Sl->Option (List D)) : TI:=fun σ H R=>∃ Hf0 H0 Hf ρ ds,zah G Hf0 H0 Hf H σ ρ/\f ρ=some ds/\∀ J Hf' H',Ext Hf H Hf' H'->zmv G Hf' H' J ds->R J H'
noncomputable def DI (c:Str->Addr) (X:Cx) (tg iter:Expr) (f:List Sl->Option (List D)) : Prop:=PI X tg iter (tDI (Gx c X) f)
noncomputable def DIe (c:Str->Addr) (X:Cx) (tg iter:Expr) (f:List Sl->Option (List D)) : Prop:=PI X tg iter (zvd (Gx c X) f)
section
variable {c:Str->Addr} {X:Cx} {tg e a b:Expr} {es:List Expr} {pos p:Pos}
theorem DI.de {f:List Sl->Option (List D)} (h:DI c X tg e f) : DIe c X tg e f:=PI.imp h fun σ H R q_=>by
 obtain ⟨Hf0,H0,Hf,ρ,ds,st,ef,k⟩:=q_;exact (⟨Hf0,H0,Hf,ρ,ds,st,ef,fun J Hf' H' x i=>k J Hf' H' x i.toE⟩)
theorem zz0 {G:Gc} {Hf H:Hp} {ds:List D} {l:Addr} {vs:List V} (q:SqL G.K H l vs) (r:zae G Hf ds vs) : zmv G Hf H (Itl G.K l) ds:=fun Hf' H' xx i=>by
 have q' : SqL G.K H' l vs:=xx.h.seq q;refine ⟨fun d ed=>?_,fun ei=>⟨vs,q',by rw [<- r.length,ei]; exact Nat.le_refl _⟩⟩;obtain ⟨v,ev,rv⟩:=r.get ed;refine ⟨⟨vs,v,q',ev⟩,fun x H2 ⟨e2,y⟩=>?_⟩;subst e2;have:=y vs q';rw [ev] at this;cases this;exact ⟨Hf',Ext.refl xx.s,rv.up xx.f⟩
theorem zz3 {G:Gc} {Hf:Hp} {ds:List D} {l:Addr} {vs:List V} (q:SqT G.K Hf l vs) (r:zae G Hf ds vs) : zjq G Hf (Itt G.K l) ds:=fun Hf' H' f s i=>by
 have q' : SqT G.K H' l vs:=(f.trans s).tup q;refine ⟨fun d ed=>?_,fun ei=>⟨vs,q',by rw [<- r.length,ei]; exact Nat.le_refl _⟩⟩;obtain ⟨v,ev,rv⟩:=r.get ed;refine ⟨⟨vs,v,q',ev⟩,fun x H2 ⟨e2,y⟩=>?_⟩;subst e2;have:=y vs q';rw [ev] at this;cases this;exact ⟨Hf',Ext.refl s,rv.up f⟩
theorem zb6 {f:List Sl->Option D} (h:DE c X e f) : DI c X tg e (zbn f):=fun pins s σ H R I q_=>by
 obtain ⟨Hf0,H0,Hf,ρ,ds,st,ef,k⟩:=q_;unfold zbn at ef
 cases e1 : f ρ with
 | none=>rw [e1] at ef; cases ef
 | some d =>
  rw [e1] at ef;replace ef : zgr d=some ds:=ef;have un : ∀ {l:Addr} {H':Hp} {us vs:List V},SqL X.K H' l us->SqL X.K H' l vs->us=vs\/True:=fun _ _=>.inr trivial
  cases e2 : lsD d with
  | some ds' =>
   have : ds'=ds:=by cases d <;> first | (cases e2; done) | (cases e2; cases ef; rfl)
   subst this;refine zua h pins s σ H R I ⟨Hf0,H0,Hf,ρ,d,st,e1,fun v Hf' H' x r=>?_⟩;obtain ⟨a,vs,ea,q,rs⟩:=zh8 e2 r
   exact ⟨a,ea,⟨vs,x.s.seq q⟩,k _ Hf' H' x fun Hf2 H2 f2 s2 i=>by
    have q' : SqL X.K H2 a vs:=(f2.trans s2).seq q;refine ⟨fun d ed=>?_,fun ei=>⟨vs,q',by rw [<- rs.length,ei]; exact Nat.le_refl _⟩⟩;obtain ⟨v,ev,rv⟩:=rs.get ed;refine ⟨⟨vs,v,q',ev⟩,fun x H3 ⟨e3,y⟩=>?_⟩;subst e3;have:=y vs q';rw [ev] at this;cases this
    exact ⟨Hf2,Ext.refl s2,rv.up f2⟩⟩
  | none =>
   have e3 : tpD d=some ds:=by cases d <;> first | (cases e2; done) | (cases ef; done) | (cases ef; rfl)
   refine z4j h pins s σ H R I ⟨Hf0,H0,Hf,ρ,d,st,e1,fun v Hf' H' x r=>?_⟩;obtain ⟨a,vs,ea,q,rs⟩:=zvk e3 r;exact ⟨a,ea,⟨vs,x.s.tup q⟩,k _ Hf' H' x (zz3 q rs)⟩
noncomputable def rng (lo:Int) (n:Nat) : List D:=(List.range n).map fun (i:Nat)=>.int (lo + i)
theorem zz1 {G:Gc} {Hf:Hp} {lo:Int} {n:Nat} : zjq G Hf (Itr lo n) (rng lo n):=fun Hf' H' f s i=>by
 refine ⟨fun d ed=>?_,fun ei=>?_⟩
 ·unfold rng at ed;rw [List.getElem?_map] at ed
  cases e : (List.range n)[i]? with
  | none=>rw [e] at ed; cases ed
  | some j =>
   rw [e] at ed;obtain ⟨hi,ej⟩:=List.getElem?_eq_some_iff.mp e;rw [List.length_range] at hi;rw [List.getElem_range] at ej;subst ej;cases ed;exact ⟨hi,fun x H2 ⟨e2,y⟩=>by subst e2; exact ⟨Hf',Ext.refl s,y⟩⟩
 ·unfold rng at ei;rw [List.length_map,List.length_range] at ei;exact Nat.le_of_eq ei.symm
noncomputable def zpa : List D->Option (List D)
 | [.int j]=>if -(2 ^ 62)<=j/\j < 2 ^ 62 then some (rng 0 j.toNat) else none
 | [.int i,.int j]=>if -(2 ^ 62)<=i/\i < 2 ^ 62/\-(2 ^ 62)<=j/\j < 2 ^ 62 then some (rng i (j - i).toNat) else none
 | _=>none
noncomputable def zeg (f:List Sl->Option (List D)) (ρ:List Sl) : Option (List D):=(f ρ).bind zpa
theorem zhy {f:List Sl->Option (List D)} (hg:Gl X "range") (hm:X.mg "range"=none) (ha:DA c X [a] f) (hs:starEach [a] X.env=[(false,eval a X.env)]:=by rfl) : DI c X tg (.Call (.Name "range" p) [a] [] pos) (zeg f) :=
 PI.imp (z4i hg hm ha.pa hs) fun σ H R q_=>by
  obtain ⟨Hf0,H0,Hf,ρ,ds,st,ef,k⟩:=q_;unfold zeg at ef
  cases e1 : f ρ with
  | none=>rw [e1] at ef; cases ef
  | some as =>
   rw [e1] at ef;replace ef : zpa as=some ds:=ef;have hl:=ha.len ρ as e1;refine ⟨Hf0,H0,Hf,ρ,as,st,e1,fun vs Hf' H' x r=>?_⟩;unfold zpa at ef;split at ef
   ·split at ef
    ·rename_i j hj;cases ef;obtain ⟨v,ev,rv⟩:=r.one;cases (show v=V.int j from rv);exact ⟨j,ev,hj.1,hj.2,k _ Hf' H' x zz1⟩
    ·cases ef
   ·cases hl
   ·cases ef
end
noncomputable def zcw (k:Nat) (js:List Nat) (ρ:List Sl) : List Sl:=List.replicate k .no++js.map fun j=>(ρ[j]?).getD .no
section
variable {G:Gc} {Hf0 H0 Hf H:Hp} {σ:St} {ρ:List Sl}
theorem zah.weak {ρ':List Sl} (h:zah G Hf0 H0 Hf H σ ρ) (hl:ρ'.length=ρ.length) (hw:∀ (i:Nat) (s:Sl),ρ'[i]?=some s->s=.no\/ρ[i]?=some s) : zah G Hf0 H0 Hf H σ ρ':=by
 refine h.re h.ext hl (fun i v s a b=>?_) fun i s v a b c p=>?_
 ·rcases hw i s b with e | e
  ·subst e; trivial
  ·exact h.at' i v s a e
 ·rcases hw i s b with e | e
  ·subst e; exact (p.calm rfl).elim
  ·exact ⟨s,e,p⟩
theorem zmb {α : Type} {k:Nat} {x:α} {l:List α} {i:Nat} {y:α} (h:(List.replicate k x++l)[i]?=some y) : (i < k/\y=x)\/(k<=i/\l[i - k]?=some y):=by
 by_cases hi : i < k
 ·left;rw [List.getElem?_append_left (by simpa using hi),List.getElem?_replicate,if_pos hi] at h;exact ⟨hi,(Option.some.inj h).symm⟩
 ·right;rw [List.getElem?_append_right (by simpa using Nat.le_of_not_lt hi),List.length_replicate] at h;exact ⟨Nat.le_of_not_lt hi,h⟩
theorem zid {α β : Type} {f:α->β} {l:List α} {i:Nat} {y:β} (h:(l.map f)[i]?=some y) : ∃ x,l[i]?=some x/\y=f x:=by
 rw [List.getElem?_map] at h
 cases e : l[i]? with
 | none=>rw [e] at h; cases h
 | some x=>rw [e] at h; exact ⟨x,rfl,(Option.some.inj h).symm⟩
theorem z1y {js:List Nat} (h:js.Nodup) {i j x:Nat} (a:js[i]?=some x) (b:js[j]?=some x) : i=j:=by
 obtain ⟨h1,e1⟩:=List.getElem?_eq_some_iff.mp a;obtain ⟨h2,e2⟩:=List.getElem?_eq_some_iff.mp b;exact (List.getElem_inj h).mp (e1.trans e2.symm)
theorem zah.comp (k:Nat) {js:List Nat} (h:zah G Hf0 H0 Hf H σ ρ) (hj:js.Nodup) : zah G Hf0 H0 Hf H (zeo k js σ) (zcw k js ρ):=by
 have own : ∀ (i:Nat) (s:Sl),(zcw k js ρ)[i]?=some s->s.calm=false->∃ j,k<=i/\js[i - k]?=some j/\ρ[j]?=some s:=fun i s a hs=>by
  rcases zmb a with ⟨_,e⟩ | ⟨hi,a⟩
  ·subst e; cases hs
  ·obtain ⟨j,ej,es⟩:=zid a
   cases e : ρ[j]? with
   | none=>rw [e] at es; subst es; cases hs
   | some t=>rw [e] at es; replace es : s=t:=es; subst es; exact ⟨j,hi,ej,e⟩
 have val : ∀ (i:Nat) (v:Option V) (j:Nat),(zeo k js σ)[i]?=some v->k<=i->js[i - k]?=some j->v=(σ[j]?).getD none:=fun i v j a hi ej=>by
  rcases zmb a with ⟨hi',_⟩ | ⟨_,a⟩
  ·omega
  ·obtain ⟨j',ej',es⟩:=zid a;rw [ej] at ej'; cases ej';exact es
 refine ⟨h.ext,by simp [zeo,zcw],fun i v s a b=>?_,fun i j s t y z l a b c d p q=>?_⟩
 ·rcases zmb b with ⟨_,e⟩ | ⟨hi,b⟩
  ·subst e; trivial
  ·obtain ⟨j,ej,es⟩:=zid b;have ev:=val i v j a hi ej
   cases e : ρ[j]? with
   | none=>rw [e] at es; subst es; trivial
   | some t =>
    rw [e] at es;replace es : s=t:=es;subst es;obtain ⟨u,eu,q⟩:=h.slot e;rw [eu] at ev;replace ev : v=u:=ev;subst ev;exact q
 ·have hs : s.calm=false:=by
   cases hc : s.calm with
   | true=>exact (p.calm hc).elim
   | false=>rfl
  have ht : t.calm=false:=by
   cases hc : t.calm with
   | true=>exact (q.calm hc).elim
   | false=>rfl
  obtain ⟨i',hi,ei,e1⟩:=own i s a hs;obtain ⟨j',hj',ej,e2⟩:=own j t b ht;have v1:=val i _ i' c hi ei;have v2:=val j _ j' d hj' ej;obtain ⟨u1,eu1,_⟩:=h.slot e1;obtain ⟨u2,eu2,_⟩:=h.slot e2;rw [eu1] at v1;rw [eu2] at v2;replace v1 : some y=u1:=v1;replace v2 : some z=u2:=v2;subst v1 v2;have:=h.dj i' j' s t y z l e1 e2 eu1 eu2 p q;subst this;have:=z1y hj ei ej;omega
end
noncomputable def zdn (h:D->Option (Option D)) : List D->Option (List D)
 | []=>some []
 | d::ds=>(h d).bind fun o=>(zdn h ds).map fun r=>match o with
  | some y=>y::r
  | none=>r
theorem zww {h:D->Option (Option D)} {d:D} {ds r:List D} (e:zdn h (d::ds)=some r) : ∃ o r',h d=some o/\zdn h ds=some r'/\r=(match o with | some y=>y::r' | none=>r'):=by
 unfold zdn at e
 cases e1 : h d with
 | none=>rw [e1] at e; cases e
 | some o =>
  cases e2 : zdn h ds with
  | none=>rw [e1,e2] at e; cases e
  | some r' =>
   rw [e1,e2] at e;cases e;refine ⟨o,r',rfl,rfl,?_⟩
   cases o <;> rfl
noncomputable def zd7 (g:D->List Sl->Option (List Sl)) (ft:List Sl->Option Bool) (fe:List Sl->Option D) (ρ:List Sl) (d:D) : Option (Option D):=(g d ρ).bind fun ρ1=>(ft ρ1).bind fun b=>if b then (fe ρ1).map some else some none
noncomputable def zbh (k:Nat) (js:List Nat) (fi:List Sl->Option (List D)) (g:D->List Sl->Option (List Sl)) (ft:List Sl->Option Bool) (fe:List Sl->Option D) (ρ:List Sl) : Option (List D) :=
 (fi ρ).bind fun ds=>if ds.length<=16777216 then zdn (zd7 g ft fe (zcw k js ρ)) ds else none
theorem zra {α : Type} {l:List α} {i:Nat} (h:i < l.length) : ∃ x,l[i]?=some x/\l.drop i=x::l.drop (i + 1):=⟨l[i],by simp [h],(List.drop_eq_getElem_cons h)⟩
noncomputable def DTs (c:Str->Addr) (X:Cx) (ifs:List Expr) (f:List Sl->Option Bool) : Prop:=PTs X ifs (tDT (Gx c X) f)
section
variable {c:Str->Addr} {X:Cx} {elt tg iter e:Expr} {ifs:List Expr} {scope:Scope} {pos:Pos} {Nc:List Str} {k:Nat} {js:List Nat}
 {fi:List Sl->Option (List D)} {g:D->List Sl->Option (List Sl)} {ft:List Sl->Option Bool} {fe:List Sl->Option D}
theorem zd2 : DTs c X [] (fun _=>some true):=PTs.imp z43 fun σ H Q q_=>by
 obtain ⟨Hf0,H0,Hf,ρ,b,st,ef,k⟩:=q_;exact (by cases ef; exact k Hf H (Ext.refl st.sub))
theorem zhb {f:List Sl->Option Bool} (h:DT c X e f) : DTs c X [e] f:=z44 h
theorem zna {G:Gc} (hj:js.Nodup) (hk:∀ d ρ ρ' i,g d ρ=some ρ'->k<=i->ρ'[i]?=ρ[i]?) (hlen:∀ d ρ ρ',g d ρ=some ρ'->ρ'.length=ρ.length) {σ:St} {H:Hp} {Q:VK} (h:tDO G (zbh k js fi g ft fe) σ H Q) :
  zpk k js (zvd G fi) (tDG G g) (tDT G ft) (tD G fe) σ H Q:=by
 obtain ⟨Hf0,H0,Hf,ρ,rs,st,ef,kq⟩:=h;unfold zbh at ef
 cases e1 : fi ρ with
 | none=>rw [e1] at ef; cases ef
 | some ds =>
  rw [e1] at ef;replace ef : (if ds.length<=16777216 then zdn (zd7 g ft fe (zcw k js ρ)) ds else none)=some rs:=ef
  by_cases hz : ds.length<=16777216
  ·rw [if_pos hz] at ef;refine ⟨Hf0,H0,Hf,ρ,ds,st,e1,fun J Hf1 H1 x1 it=>?_⟩
   refine ⟨fun i m ys σ' H'=>m=ds.length - i/\i<=ds.length/\∃ Hf' as rest,Ext Hf1 H1 Hf' H'/\zah G Hf0 H0 Hf' H' σ' (zcw k js ρ)/\zae G Hf' as ys/\zdn (zd7 g ft fe (zcw k js ρ)) (ds.drop i)=some rest/\rs=as++rest/\as.length<=i,
    ⟨ds.length,rfl,Nat.zero_le _,Hf1,[],rs,Ext.refl x1.s,(st.step x1).comp k hj,rfl,ef,rfl,Nat.le_refl _⟩,?_⟩
   rintro i m ys σ' H' ⟨rfl,hi,Hf',as,rest,x2,st2,ra,ec,er,hal⟩;have hys : ys.length<=sizeLine:=by rw [sizeLine_eq,<- ra.length]; omega
   obtain ⟨it1,it2⟩:=it Hf' H' x2 i
   by_cases hlt : i < ds.length
   ·obtain ⟨d,ed,edr⟩:=zra hlt;obtain ⟨go,yl⟩:=it1 d ed
    refine .inr ⟨go,hys,fun ys' σ2 H2=>ds.length - (i + 1)=ds.length - (i + 1)/\i + 1<=ds.length/\∃ Hf' as rest,Ext Hf1 H1 Hf' H2/\zah G Hf0 H0 Hf' H2 σ2 (zcw k js ρ)/\zae G Hf' as ys'/\zdn (zd7 g ft fe (zcw k js ρ)) (ds.drop (i + 1))=some rest/\rs=as++rest/\as.length<=i + 1,
     fun ys' σ2 H2 w=>⟨ds.length - (i + 1),by omega,w⟩,fun x H2 y=>?_⟩
    obtain ⟨Hf2,x3,rx⟩:=yl x H2 y;rw [edr] at ec;obtain ⟨o,r',eo,ec',erest⟩:=zww ec;unfold zd7 at eo
    cases eg : g d (zcw k js ρ) with
    | none=>rw [eg] at eo; cases eo
    | some ρ1 =>
     rw [eg] at eo;replace eo : (ft ρ1).bind _=_:=eo
     cases et : ft ρ1 with
     | none=>rw [et] at eo; cases eo
     | some b =>
      rw [et] at eo;replace eo : (if b=true then (fe ρ1).map some else some none)=some o:=eo;refine ⟨Hf0,H0,Hf2,zcw k js ρ,d,ρ1,st2.step x3,rx,eg,fun σ3 st3=>⟨Hf0,H0,Hf2,ρ1,b,st3,et,fun Hf4 H4 x4=>?_⟩⟩
      have back : ∀ {Hf5 H5:Hp},zah G Hf0 H0 Hf5 H5 σ3 ρ1->zah G Hf0 H0 Hf5 H5 σ3 (zcw k js ρ):=fun {Hf5 H5} s5=>s5.weak (hlen _ _ _ eg).symm fun j s hs=>by
       rcases zmb hs with ⟨_,e⟩ | ⟨hj',_⟩
       ·exact .inl e
       ·exact .inr (by rw [hk _ _ _ _ eg hj']; exact hs)
      cases b with
      | true =>
       rw [if_pos rfl] at eo;refine zsg ?_
       cases ee : fe ρ1 with
       | none=>rw [ee] at eo; cases eo
       | some y' =>
        rw [ee] at eo;cases eo;refine ⟨Hf0,H0,Hf4,ρ1,y',st3.step x4,ee,fun v Hf5 H5 x5 r5=>?_⟩;have x:=(x3.trans x4).trans x5;refine ⟨rfl,hlt,Hf5,as++[y'],r',x2.trans x,back ((st3.step x4).step x5),(ra.up x.f).append (.cons r5 .nil),ec',?_,by rw [List.length_append,List.length_singleton]; omega⟩;rw [er,erest,List.append_assoc]
        rfl
      | false =>
       rw [if_neg Bool.false_ne_true] at eo;refine zsf ?_;cases eo;have x:=x3.trans x4;exact ⟨rfl,hlt,Hf4,as,r',x2.trans x,back (st3.step x4),ra.up x.f,ec',by rw [er,erest],by omega⟩
   ·have ei : i=ds.length:=by omega
    subst ei;refine .inl ⟨it2 rfl,hys,fun l h1 h2=>?_⟩;rw [List.drop_eq_nil_of_le (Nat.le_refl _)] at ec;cases ec;rw [List.append_nil] at er;subst er;have x:=x1.trans x2;exact kq l ys Hf' (upd H' l (.lst ys)) (x.trans (Ext.tmp x.s h2)) (x.h.free h2) (x.s.free h2) zbb ra
  ·rw [if_neg hz] at ef;cases ef
theorem zdp (k:Nat) (js:List Nat) (Nc:List Str) (hc:X.calm=true) (hi:DIe c X tg iter fi) (hg:∀ cl C ex s₂ H₂,DG c (X.comp scope Nc cl C ex s₂ H₂) tg k g) (ht:∀ cl C ex s₂ H₂,DTs c (X.comp scope Nc cl C ex s₂ H₂) ifs ft)
  (he:∀ cl C ex s₂ H₂,DE c (X.comp scope Nc cl C ex s₂ H₂) elt fe) (ck:zg6 scope X.env.scope.names X.N Nc k js=true:=by rfl) (hs:∀ x,foldedSetIterable iter X.env x=pure x:=by intro _; rfl) (hj:js.Nodup:=by decide) :
  DO c X (.ListComp elt [⟨tg,iter,ifs,0⟩] scope pos) (zbh k js fi g ft fe) :=
 PE.imp (z3z (g:=tDG (Gx c X) g) (tt:=tDT (Gx c X) ft) (te:=tD (Gx c X) fe) k js Nc hc hi (fun cl C ex s₂ H₂=>(hg cl C ex s₂ H₂).pg) ht he ck hs) fun σ H Q h =>
  zna hj (hg [] 0 [] X.s₀ X.H₀).keep (hg [] 0 [] X.s₀ X.H₀).len h
end
section
variable {c:Str->Addr} {X:Cx} {tg:Expr} {scope:Scope} {Nc:List Str} {cl:List (Str×Addr)} {C:Addr} {ex:List Addr} {s₂:Shared} {H₂:Hp}
theorem dvc (i:Nat) {x:Str} {pos:Pos} (hN:Nc[i]?=some x:=by rfl) (hv:Vis scope x:=by first | exact Or.inl rfl | exact Or.inr (Or.inl rfl) | exact Or.inr (Or.inr rfl)) (hd:(x==("__debug__" : Str))=false:=by decide)
  (hcd:(x==("__classdict__" : Str))=false:=by decide) : DE c (X.comp scope Nc cl C ex s₂ H₂) (.Name x pos) (zab i):=zqw (pvc i hN hv hd hcd)
theorem zed (i:Nat) {x:Str} {pos:Pos} (hN:Nc[i]?=some x:=by rfl) (hv:Vis scope x:=by first | exact Or.inl rfl | exact Or.inr (Or.inl rfl) | exact Or.inr (Or.inr rfl)) (hd:(x==("__debug__" : Str))=false:=by decide)
  (hcd:(x==("__classdict__" : Str))=false:=by decide) : DC c (X.comp scope Nc cl C ex s₂ H₂) (.Name x pos) (zag i):=zqu (pvc i hN hv hd hcd)
theorem dgc (i k:Nat) {x:Str} {pos:Pos} (hk:i < k:=by decide) (hN:Nc.Nodup:=by decide +kernel) (hi:Nc[i]?=some x:=by rfl) (hl:scope.names.lookup x=some .local:=by rfl) : DG c (X.comp scope Nc cl C ex s₂ H₂) (.Name x pos) k (zaw i) :=
 zq4 (pgc i hN hi hl) hk
end
inductive Fl where
 | nx (ρ:List Sl)
 | bk (ρ:List Sl)
 | ct (ρ:List Sl)
 | rt (d:D)
 | rtO (ds:List D)
 | rtS (d:D) (ρ:List Sl)
 | rtT (o:O)
noncomputable def zks (G:Gc) (Hf0 H0 Hf:Hp) (E:zf4) : Fl->Prop
 | .nx ρ'=>∀ σ' Hf' H',zaf Hf Hf'->zah G Hf0 H0 Hf' H' σ' ρ'->E.nx σ' H'
 | .bk ρ'=>∀ σ' Hf' H',zaf Hf Hf'->zah G Hf0 H0 Hf' H' σ' ρ'->E.bk σ' H'
 | .ct ρ'=>∀ σ' Hf' H',zaf Hf Hf'->zah G Hf0 H0 Hf' H' σ' ρ'->E.ct σ' H'
 | .rt d=>∀ v Hf' H',Ext Hf0 H0 Hf' H'->Rep G Hf' d v->E.rt v H'
 | .rtO ds=>∀ l vs Hf' H',Ext Hf0 H0 Hf' H'->H0 l=none->Hf' l=none->H' l=some (.lst vs)->zae G Hf' ds vs->E.rt (.ref l) H'
 | .rtS d ρ=>∀ v σ' Hf' H',zah G Hf0 H0 Hf' H' σ' ρ->Rep G Hf' d v->E.rt v H'
 | .rtT o=>∀ u fp Hf' H',Ext Hf0 H0 Hf' H'->OT G Hf' H' o u fp->fp.Nodup->(∀ a∈fp,H0 a=none/\Hf' a=none)->E.rt u H'
noncomputable def tDS (G:Gc) (F:List Sl->Option Fl) : TS:=fun E σ H=>∃ Hf0 H0 Hf ρ o,zah G Hf0 H0 Hf H σ ρ/\F ρ=some o/\zks G Hf0 H0 Hf E o
noncomputable def DS (c:Str->Addr) (X:Cx) (st:Stmt) (F:List Sl->Option Fl) : Prop:=PS X st (tDS (Gx c X) F)
noncomputable def DSs (c:Str->Addr) (X:Cx) (st:List Stmt) (F:List Sl->Option Fl) : Prop:=PSs X st (tDS (Gx c X) F)
noncomputable def zbt (ρ:List Sl) : Option Fl:=some (.nx ρ)
noncomputable def zam (F F':List Sl->Option Fl) (ρ:List Sl) : Option Fl:=(F ρ).bind fun o=>match o with
 | .nx ρ'=>F' ρ'
 | o=>some o
noncomputable def zbg (t:List Sl->Option Bool) (F F':List Sl->Option Fl) (ρ:List Sl) : Option Fl:=(t ρ).bind fun b=>if b then F ρ else F' ρ
noncomputable def zbj (i:Nat) (f:List Sl->Option D) (ρ:List Sl) : Option Fl:=(f ρ).map fun d=>.nx (ρ.set i (.im d))
noncomputable def zcz (i:Nat) (f:List Sl->Option (List D)) (ρ:List Sl) : Option Fl:=(f ρ).map fun d=>.nx (ρ.set i (.own d))
noncomputable def za3 (f:List Sl->Option D) (ρ:List Sl) : Option Fl:=(f ρ).map .rt
noncomputable def zev (f:List Sl->Option (List D)) (ρ:List Sl) : Option Fl:=(f ρ).map .rtO
noncomputable def zef (i:Nat) (ρ:List Sl) : Option Fl:=match ρ[i]? with
 | some (.im d)=>some (.rt d)
 | some (.own xs)=>some (.rtO xs)
 | _=>none
noncomputable def zfj (g:D->List Sl->Option (List Sl)) (F:List Sl->Option Fl) : List D->List Sl->Option Fl
 | [],ρ=>some (.nx ρ)
 | d::ds,ρ=>(g d ρ).bind fun ρ1=>(F ρ1).bind fun o=>match o with
  | .nx ρ2=>zfj g F ds ρ2
  | .ct ρ2=>zfj g F ds ρ2
  | .bk ρ2=>some (.nx ρ2)
  | .rt d=>some (.rt d)
  | .rtO d=>some (.rtO d)
  | .rtS d ρ2=>some (.rtS d ρ2)
  | .rtT o=>some (.rtT o)
noncomputable def zct (fi:List Sl->Option (List D)) (g:D->List Sl->Option (List Sl)) (F:List Sl->Option Fl) (ρ:List Sl) : Option Fl:=(fi ρ).bind fun ds=>zfj g F ds ρ
noncomputable def zex (t:List Sl->Option Bool) (F:List Sl->Option Fl) : Nat->List Sl->Option Fl
 | 0,_=>none
 | n + 1,ρ=>(t ρ).bind fun b=>if b then (F ρ).bind fun o=>match o with
   | .nx ρ2=>zex t F n ρ2
   | .ct ρ2=>zex t F n ρ2
   | .bk ρ2=>some (.nx ρ2)
   | .rt d=>some (.rt d)
   | .rtO d=>some (.rtO d)
   | .rtS d ρ2=>some (.rtS d ρ2)
   | .rtT o=>some (.rtT o)
  else some (.nx ρ)
noncomputable def zlf (i:Nat) (ρ:List Sl) : List Sl:=match ρ[i]? with
 | some (.own xs)=>ρ.set i (.im (.lst xs))
 | some (.ownd ks xs)=>ρ.set i (.im (.dic ks xs))
 | some (.obj c ns xs)=>ρ.set i (.im (.ins c ns xs))
 | _=>ρ
noncomputable def zeu (i:Nat) (F:List Sl->Option Fl) (ρ:List Sl) : Option Fl:=F (zlf i ρ)
noncomputable def zd4 (i:Nat) (f:List Sl->Option D) (ρ:List Sl) : Option Fl:=(f ρ).bind fun d=>match ρ[i]? with
 | some (.own xs)=>if xs.length < 16777216 then some (.nx (ρ.set i (.own (xs++[d])))) else none
 | _=>none
section
variable {c:Str->Addr} {X:Cx} {st:Stmt} {sts a b:List Stmt} {e cd tg iter:Expr} {pos:Pos} {F F':List Sl->Option Fl}
theorem zb1 : DSs c X [] zbt:=PSs.imp zug fun E σ H q_=>by
 obtain ⟨Hf0,H0,Hf,ρ,o,so,ef,k⟩:=q_;exact (by cases ef; exact k σ Hf H (zaf.refl _) so)
theorem zks.up {G:Gc} {Hf0 H0 Hf Hf':Hp} {E:zf4} {o:Fl} (h:zks G Hf0 H0 Hf E o) (s:zaf Hf Hf') : zks G Hf0 H0 Hf' E o:=by
 cases o with
 | nx ρ=>exact fun σ' Hf2 H2 s2 q=>h σ' Hf2 H2 (s.trans s2) q
 | bk ρ=>exact fun σ' Hf2 H2 s2 q=>h σ' Hf2 H2 (s.trans s2) q
 | ct ρ=>exact fun σ' Hf2 H2 s2 q=>h σ' Hf2 H2 (s.trans s2) q
 | rt d=>exact h
 | rtO d=>exact h
 | rtS d ρ=>exact h
 | rtT o=>exact h
theorem zao (h1:DS c X st F) (h2:DSs c X sts F') : DSs c X (st::sts) (zam F F'):=PSs.imp (zuf h1 h2) fun E σ H q_=>by
 obtain ⟨Hf0,H0,Hf,ρ,o,so,ef,k⟩:=q_;unfold zam at ef
 cases e1 : F ρ with
 | none=>rw [e1] at ef; cases ef
 | some o1 =>
  rw [e1] at ef;refine ⟨Hf0,H0,Hf,ρ,o1,so,e1,?_⟩
  cases o1 with
  | nx ρ1=>exact fun σ1 Hf1 H1 s1 so1=>⟨Hf0,H0,Hf1,ρ1,o,so1,ef,k.up s1⟩
  | bk ρ1=>cases ef; exact k
  | ct ρ1=>cases ef; exact k
  | rt d=>cases ef; exact k
  | rtO d=>cases ef; exact k
  | rtS d ρ1=>cases ef; exact k
  | rtT o'=>cases ef; exact k
theorem zan (h1:DS c X st F) : DSs c X [st] F:=z4y h1
theorem zbw {t:List Sl->Option Bool} (hc:DT c X cd t) (ha:DSs c X a F) (hb:DSs c X b F') : DS c X (.If cd a b pos) (zbg t F F'):=PS.imp (z4w hc ha hb) fun E σ H q_=>by
 obtain ⟨Hf0,H0,Hf,ρ,o,so,ef,k⟩:=q_;unfold zbg at ef
 cases e1 : t ρ with
 | none=>rw [e1] at ef; cases ef
 | some x =>
  rw [e1] at ef;refine ⟨Hf0,H0,Hf,ρ,x,so,e1,fun Hf1 H1 x1=>?_⟩
  cases x with
  | true=>rw [if_pos rfl]; exact ⟨Hf0,H0,Hf1,ρ,o,so.step x1,ef,k.up x1.f⟩
  | false=>rw [if_neg Bool.false_ne_true]; exact ⟨Hf0,H0,Hf1,ρ,o,so.step x1,ef,k.up x1.f⟩
theorem zrc {te:TE} {i:Nat} {f:List Sl->Option D} (hp:PS X st (zjg te (zhd i))) (hi:∀ σ H Q,tD (Gx c X) f σ H Q->te σ H Q) : DS c X st (zbj i f):=PS.imp hp fun E σ H q_=>by
 obtain ⟨Hf0,H0,Hf,ρ,o,so,ef,k⟩:=q_;unfold zbj at ef
 cases e1 : f ρ with
 | none=>rw [e1] at ef; cases ef
 | some d =>
  rw [e1] at ef;cases ef;exact hi _ _ _ ⟨Hf0,H0,Hf,ρ,d,so,e1,fun v Hf' H' x r=>k _ Hf' H' x.f ((so.step x).setIm r)⟩
theorem zrb {te:TE} {i:Nat} {f:List Sl->Option (List D)} (hp:PS X st (zjg te (zhd i))) (hi:∀ σ H Q,tDO (Gx c X) f σ H Q->te σ H Q) : DS c X st (zcz i f):=PS.imp hp fun E σ H q_=>by
 obtain ⟨Hf0,H0,Hf,ρ,o,so,ef,k⟩:=q_;unfold zcz at ef
 cases e1 : f ρ with
 | none=>rw [e1] at ef; cases ef
 | some d =>
  rw [e1] at ef;cases ef;exact hi _ _ _ ⟨Hf0,H0,Hf,ρ,d,so,e1,fun l vs Hf' H' x hn hf hl r=>k _ Hf' H' x.f (so.setOwn (s:=.own d) rfl x hn hf ⟨vs,hl,r⟩)⟩
theorem zcd (i:Nat) {x:Str} {f:List Sl->Option D} {pos':Pos} (hN:X.N.Nodup) (he:DE c X e f) (hi:X.N[i]?=some x:=by rfl) (hx:Loc X.env.scope x:=by first | exact Or.inl rfl | exact Or.inr rfl) (hs:swapsWith e (some (.Name x pos')) pos.line X.env=pure false:=by rfl) (hf:X.fn x=true\/X.env.scope.names.lookup x=some .local:=by first | exact .inl rfl | exact .inr rfl) :
  DS c X (.Assign [.Name x pos'] e pos) (zbj i f):=zrc (zud hN hi hx he hs hf) fun _ _ _ h=>h
theorem zgf (i:Nat) {x:Str} {f:List Sl->Option (List D)} {pos':Pos} (hN:X.N.Nodup) (he:DO c X e f) (hi:X.N[i]?=some x:=by rfl) (hx:Loc X.env.scope x:=by first | exact Or.inl rfl | exact Or.inr rfl) (hs:swapsWith e (some (.Name x pos')) pos.line X.env=pure false:=by rfl) (hf:X.fn x=true\/X.env.scope.names.lookup x=some .local:=by first | exact .inl rfl | exact .inr rfl) :
  DS c X (.Assign [.Name x pos'] e pos) (zcz i f):=zrb (zud hN hi hx he hs hf) fun _ _ _ h=>h
theorem z69 {G:Gc} {f:List Sl->Option (List D)} {σ:St} {H:Hp} {Q:VK} (h:tD G (za2 f) σ H Q) : tDO G f σ H Q:=by
 obtain ⟨Hf0,H0,Hf,ρ,d,st,ef,k⟩:=h;unfold za2 at ef
 cases ed : f ρ with
 | none=>rw [ed] at ef; cases ef
 | some ds =>
  rw [ed] at ef;have ef : D.lst ds=d:=Option.some.inj ef;subst ef;exact ⟨Hf0,H0,Hf,ρ,ds,st,ed,fun l vs Hf' H' x hn hf hl r=>k _ (upd Hf' l (.lst vs)) H' (x.fix hn hf hl) ⟨l,vs,rfl,zbb,r.up (zbz hf)⟩⟩
theorem znn (i:Nat) {x:Str} {pos' spos:Pos} {elt:Expr} {ifs:List Expr} {scope:Scope} {fi:List Sl->Option (List D)} {g:D->List Sl->Option (List Sl)} {ft:List Sl->Option Bool} {fe:List Sl->Option D} (k:Nat) (js:List Nat) (Nc:List Str) (hN:X.N.Nodup) (hc:X.calm=true) (hi:DIe c X tg iter fi)
  (hg:∀ cl C ex s₂ H₂,DG c (X.comp scope Nc cl C ex s₂ H₂) tg k g) (ht:∀ cl C ex s₂ H₂,DTs c (X.comp scope Nc cl C ex s₂ H₂) ifs ft) (he:∀ cl C ex s₂ H₂,DE c (X.comp scope Nc cl C ex s₂ H₂) elt fe)
  (hi':X.N[i]?=some x:=by rfl) (hx:Loc X.env.scope x:=by first | exact Or.inl rfl | exact Or.inr rfl)
  (hsw:swapsWith (.ListComp elt [⟨tg,iter,ifs,0⟩] scope pos) (some (.Name x pos')) spos.line X.env=pure true:=by rfl)
  (ck:zg6 scope X.env.scope.names X.N Nc k js=true:=by rfl) (hs:∀ x,foldedSetIterable iter X.env x=pure x:=by intro _; rfl) (hj:js.Nodup:=by decide)
  (hf:X.fn x=true\/X.env.scope.names.lookup x=some .local:=by first | exact .inl rfl | exact .inr rfl) :
  DS c X (.Assign [.Name x pos'] (.ListComp elt [⟨tg,iter,ifs,0⟩] scope pos) spos) (zcz i (zbh k js fi g ft fe)) :=
 zrb (zue (g:=tDG (Gx c X) g) (tt:=tDT (Gx c X) ft) (te:=tD (Gx c X) fe) k js Nc hN hi' hx hc hi (fun cl C ex s₂ H₂=>(hg cl C ex s₂ H₂).pg) ht he hsw ck hs hf) fun σ H Q h=>zna hj (hg [] 0 [] X.s₀ X.H₀).keep (hg [] 0 [] X.s₀ X.H₀).len h
theorem zno (i:Nat) {x:Str} {pos' spos:Pos} {elt:Expr} {ifs:List Expr} {scope:Scope} {fi:List Sl->Option (List D)} {g:D->List Sl->Option (List Sl)} {ft:List Sl->Option Bool} {fe:List Sl->Option D} (k:Nat) (js:List Nat) (Nc:List Str) (hN:X.N.Nodup) (hc:X.calm=true) (hi:DIe c X tg iter fi)
  (hg:∀ cl C ex s₂ H₂,DG c (X.comp scope Nc cl C ex s₂ H₂) tg k g) (ht:∀ cl C ex s₂ H₂,DTs c (X.comp scope Nc cl C ex s₂ H₂) ifs ft) (he:∀ cl C ex s₂ H₂,DE c (X.comp scope Nc cl C ex s₂ H₂) elt fe)
  (hi':X.N[i]?=some x:=by rfl) (hx:Loc X.env.scope x:=by first | exact Or.inl rfl | exact Or.inr rfl)
  (hsw:swapsWith (.ListComp elt [⟨tg,iter,ifs,0⟩] scope pos) (some (.Name x pos')) spos.line X.env=pure true:=by rfl)
  (ck:zg6 scope X.env.scope.names X.N Nc k js=true:=by rfl) (hs:∀ x,foldedSetIterable iter X.env x=pure x:=by intro _; rfl) (hj:js.Nodup:=by decide)
  (hf:X.fn x=true\/X.env.scope.names.lookup x=some .local:=by first | exact .inl rfl | exact .inr rfl) :
  DS c X (.Assign [.Name x pos'] (.ListComp elt [⟨tg,iter,ifs,0⟩] scope pos) spos) (zbj i (za2 (zbh k js fi g ft fe))) :=
 zrc (zue (g:=tDG (Gx c X) g) (tt:=tDT (Gx c X) ft) (te:=tD (Gx c X) fe) k js Nc hN hi' hx hc hi (fun cl C ex s₂ H₂=>(hg cl C ex s₂ H₂).pg) ht he hsw ck hs hf) fun σ H Q h=>zna hj (hg [] 0 [] X.s₀ X.H₀).keep (hg [] 0 [] X.s₀ X.H₀).len (z69 h)
theorem za6 {f:List Sl->Option D} (he:DE c X e f) : DS c X (.Return (some e) pos) (za3 f):=PS.imp (zl9 he) fun E σ H q_=>by
 obtain ⟨Hf0,H0,Hf,ρ,o,so,ef,k⟩:=q_;unfold za3 at ef
 cases e1 : f ρ with
 | none=>rw [e1] at ef; cases ef
 | some d =>
  rw [e1] at ef;cases ef;exact ⟨Hf0,H0,Hf,ρ,d,so,e1,fun v Hf' H' x r=>k v Hf' H' (so.ext.trans x) r⟩
noncomputable def zhn (f:List Sl->Option D) (ρ:List Sl) : Option Fl:=(f ρ).map fun d=>.rtS d ρ
theorem zyb {f:List Sl->Option D} (he:DE c X e f) : DS c X (.Return (some e) pos) (zhn f):=PS.imp (zl9 he) fun E σ H q_=>by
 obtain ⟨Hf0,H0,Hf,ρ,o,so,ef,k⟩:=q_;unfold zhn at ef
 cases e1 : f ρ with
 | none=>rw [e1] at ef; cases ef
 | some d =>
  rw [e1] at ef;cases ef;exact ⟨Hf0,H0,Hf,ρ,d,so,e1,fun v Hf' H' x r=>k v σ Hf' H' (so.step x) r⟩
theorem zge {f:List Sl->Option (List D)} (he:DO c X e f) : DS c X (.Return (some e) pos) (zev f):=PS.imp (zl9 he) fun E σ H q_=>by
 obtain ⟨Hf0,H0,Hf,ρ,o,so,ef,k⟩:=q_;unfold zev at ef
 cases e1 : f ρ with
 | none=>rw [e1] at ef; cases ef
 | some d =>
  rw [e1] at ef;cases ef;exact ⟨Hf0,H0,Hf,ρ,d,so,e1,fun l vs Hf' H' x hn hf hl r=>k l vs Hf' H' (so.ext.trans x) (so.ext.h.free hn) hf hl r⟩
theorem zyc {i:Nat} (he:PE X e (zdg i)) : DS c X (.Return (some e) pos) (zef i):=PS.imp (zl9 he) fun E σ H q_=>by
 obtain ⟨Hf0,H0,Hf,ρ,o,so,ef,k⟩:=q_;unfold zef at ef
 cases es : ρ[i]? with
 | none=>rw [es] at ef; cases ef
 | some s =>
  rw [es] at ef
  cases s with
  | im d =>
   cases ef;obtain ⟨v,e1,r⟩:=so.imm es
   exact ⟨_,e1,k v Hf H so.ext r⟩
  | own xs =>
   cases ef;obtain ⟨l,e1,h0,hf,vs,q,r⟩:=so.ownAt rfl es
   exact ⟨_,e1,k l vs Hf H so.ext h0 hf q r⟩
  | _=>cases ef
theorem zjx (i:Nat) {x:Str} {p:Pos} (hN:X.N[i]?=some x:=by rfl) (hv:Vis X.env.scope x:=by first | exact Or.inl rfl | exact Or.inr (Or.inl rfl) | exact Or.inr (Or.inr rfl)) (hd:(x==("__debug__" : Str))=false:=by decide)
  (hcd:(x==("__classdict__" : Str))=false:=by decide) : DS c X (.Return (some (.Name x p)) pos) (zef i):=zyc (zif hN hv hd hcd)
theorem zdr {fi:List Sl->Option (List D)} {g:D->List Sl->Option (List Sl)} {kk:Nat} (hp:PassesOwn (model X.prog X.w) X.A X.env X.xe) (hc:X.calm=true) (hi:DI c X tg iter fi) (hg:DG c X tg kk g) (hb:DSs c X a F) (hs:∀ x,foldedSetIterable iter X.env x=pure x:=by intro _; rfl) :
  DS c X (.For tg iter a [] pos) (zct fi g F):=PS.imp (z4v hp hc hi hg.pg hb hs) fun E σ H q_=>by
 obtain ⟨Hf0,H0,Hf,ρ,o,so,ef,k⟩:=q_;unfold zct at ef
 cases e1 : fi ρ with
 | none=>rw [e1] at ef; cases ef
 | some ds =>
  rw [e1] at ef;replace ef : zfj g F ds ρ=some o:=ef;refine ⟨Hf0,H0,Hf,ρ,ds,so,e1,fun J Hf1 H1 x1 it=>?_⟩;refine ⟨fun i m σ' H'=>m=ds.length - i/\i<=ds.length/\∃ Hf' ρ',zah (Gx c X) Hf0 H0 Hf' H' σ' ρ'/\zaf Hf1 Hf'/\zfj g F (ds.drop i) ρ'=some o,⟨ds.length,rfl,Nat.zero_le _,Hf1,ρ,so.step x1,zaf.refl _,ef⟩,?_⟩;rintro i m σ' H' ⟨rfl,hi',Hf',ρ',so',s1,em⟩;obtain ⟨it1,it2⟩:=it Hf' H' s1 so'.sub i
  by_cases hlt : i < ds.length
  ·obtain ⟨d,ed,edr⟩:=zra hlt;obtain ⟨go,yl⟩:=it1 d ed;rw [edr] at em;unfold zfj at em;refine .inr ⟨go,fun σ2 H2=>ds.length - (i + 1)=ds.length - (i + 1)/\i + 1<=ds.length/\∃ Hf' ρ',zah (Gx c X) Hf0 H0 Hf' H2 σ2 ρ'/\zaf Hf1 Hf'/\zfj g F (ds.drop (i + 1)) ρ'=some o,fun σ2 H2 w=>⟨ds.length - (i + 1),by omega,w⟩,fun x H2 y=>?_⟩;obtain ⟨Hf2,x2,rx⟩:=yl x H2 y
   cases eg : g d ρ' with
   | none=>rw [eg] at em; cases em
   | some ρ1 =>
    rw [eg] at em;replace em : (F ρ1).bind _=_:=em
    cases eF : F ρ1 with
    | none=>rw [eF] at em; cases em
    | some o1 =>
     rw [eF] at em;refine ⟨Hf0,H0,Hf2,ρ',d,ρ1,so'.step x2,rx,eg,fun σ3 so3=>⟨Hf0,H0,Hf2,ρ1,o1,so3,eF,?_⟩⟩;have sf:=s1.trans x2.f
     cases o1 with
     | nx ρ2=>exact fun σ4 Hf4 H4 s4 so4=>⟨rfl,hlt,Hf4,ρ2,so4,sf.trans s4,em⟩
     | ct ρ2=>exact fun σ4 Hf4 H4 s4 so4=>⟨rfl,hlt,Hf4,ρ2,so4,sf.trans s4,em⟩
     | bk ρ2=>cases em; exact fun σ4 Hf4 H4 s4 so4=>k σ4 Hf4 H4 ((x1.f.trans sf).trans s4) so4
     | rt d=>cases em; exact k
     | rtO d=>cases em; exact k
     | rtS d ρ2=>cases em; exact k
     | rtT o'=>cases em; exact k
  ·have ei : i=ds.length:=by omega
   subst ei;rw [List.drop_eq_nil_of_le (Nat.le_refl _)] at em;cases em;exact .inl ⟨it2 rfl,k σ' Hf' H' (x1.f.trans s1) so'⟩
theorem zrd (n:Nat) {t:List Sl->Option Bool} (hp:PassesOwn (model X.prog X.w) X.A X.env X.xe) (hc:DT c X cd t) (hb:DSs c X a F) : DS c X (.While cd a [] pos) (zex t F n):=PS.imp (z4x hp hc hb) fun E σ H q_=>by
 obtain ⟨Hf0,H0,Hf,ρ,o,so,ef,k⟩:=q_;refine ⟨fun m σ' H'=>∃ Hf' ρ',zah (Gx c X) Hf0 H0 Hf' H' σ' ρ'/\zaf Hf Hf'/\zex t F m ρ'=some o,⟨n,Hf,ρ,so,zaf.refl _,ef⟩,?_⟩;rintro m σ' H' ⟨Hf',ρ',so',s1,em⟩
 cases m with
 | zero=>cases em
 | succ m =>
  unfold zex at em
  cases et : t ρ' with
  | none=>rw [et] at em; cases em
  | some b =>
   rw [et] at em;replace em : (if b=true then (F ρ').bind _ else some (.nx ρ'))=some o:=em;refine ⟨Hf0,H0,Hf',ρ',b,so',et,fun Hf2 H2 x2=>?_⟩
   cases b with
   | false =>
    rw [if_neg Bool.false_ne_true] at em;refine zsf ?_;cases em
    exact k σ' Hf2 H2 (s1.trans x2.f) (so'.step x2)
   | true =>
    rw [if_pos rfl] at em;refine zsg ?_
    cases eF : F ρ' with
    | none=>rw [eF] at em; cases em
    | some o1 =>
     rw [eF] at em;refine ⟨fun σ3 H3=>∃ Hf' ρ',zah (Gx c X) Hf0 H0 Hf' H3 σ3 ρ'/\zaf Hf Hf'/\zex t F m ρ'=some o,fun σ3 H3 w=>⟨m,Nat.lt_succ_self _,w⟩,Hf0,H0,Hf2,ρ',o1,so'.step x2,eF,?_⟩;have sf:=s1.trans x2.f
     cases o1 with
     | nx ρ2=>exact fun σ4 Hf4 H4 s4 so4=>⟨Hf4,ρ2,so4,sf.trans s4,em⟩
     | ct ρ2=>exact fun σ4 Hf4 H4 s4 so4=>⟨Hf4,ρ2,so4,sf.trans s4,em⟩
     | bk ρ2=>cases em; exact fun σ4 Hf4 H4 s4 so4=>k σ4 Hf4 H4 (sf.trans s4) so4
     | rt d=>cases em; exact k
     | rtO d=>cases em; exact k
     | rtS d ρ2=>cases em; exact k
     | rtT o'=>cases em; exact k
theorem zyq {G:Gc} {i:Nat} {E:zf4} {σ:St} {H:Hp} (h:tDS G (zeu i F) E σ H) : tDS G F E σ H:=by
 obtain ⟨Hf0,H0,Hf,ρ,o,so,ef,k⟩:=h;unfold zeu zlf at ef;split at ef
 ·rename_i xs es;obtain ⟨l,e1,h0,hf,vs,q,r⟩:=so.ownAt rfl es;exact ⟨Hf0,H0,_,_,o,so.fixd (d:=.lst xs) rfl es e1 q ⟨l,vs,rfl,zbb,r.up (zbz hf)⟩,ef,k.up (zbz hf)⟩
 ·rename_i ks xs es;obtain ⟨l,e1,h0,hf,vs,q,z,r⟩:=so.ownAt rfl es;exact ⟨Hf0,H0,_,_,o,so.fixd (d:=.dic ks xs) rfl es e1 q ⟨l,vs,rfl,zbb,z,r.up (zbz hf)⟩,ef,k.up (zbz hf)⟩
 ·rename_i c' ns xs es;obtain ⟨l,e1,h0,hf,dx,vs,q,z,r⟩:=so.ownAt rfl es;exact ⟨Hf0,H0,_,_,o,so.fixd (d:=.ins c' ns xs) rfl es e1 q ⟨l,dx,vs,rfl,zbb,z,r.up (zbz hf)⟩,ef,k.up (zbz hf)⟩
 ·exact ⟨Hf0,H0,Hf,ρ,o,so,ef,k⟩
theorem zha (i:Nat) (h:DS c X st F) : DS c X st (zeu i F):=PS.imp h fun _ _ _=>zyq
theorem zgc {i:Nat} {f:List Sl->Option D} (h:PS X st (zmq (tBM X.K "list" zma (zdg i) (zmp (tD (Gx c X) f) zjh)))) : DS c X st (zd4 i f):=PS.imp h fun E σ H q_=>by
 obtain ⟨Hf0,H0,Hf,ρ,o,so,ef,k⟩:=q_;unfold zd4 at ef
 cases e1 : f ρ with
 | none=>rw [e1] at ef; cases ef
 | some d =>
  rw [e1] at ef
  replace ef : (match ρ[i]? with | some (.own xs)=>if xs.length < 16777216 then some (Fl.nx (ρ.set i (.own (xs++[d])))) else none | _=>none)=some o:=ef
  split at ef
  ·rename_i xs es;split at ef
   ·rename_i hl;cases ef;obtain ⟨l,e2,h0,hf,vs,q,r⟩:=so.ownAt rfl es;refine ⟨_,e2,.inl ⟨rfl,_,SqL.of q⟩,Hf0,H0,Hf,ρ,d,so,e1,fun v Hf' H' x r'=>?_⟩;have so':=so.step x;have q':=x.h _ _ q;refine ⟨l,vs,v,rfl,rfl,q',by rw [sizeLine_eq,<- r.length]; exact hl,k σ Hf' _ x.f (so'.mutd (s:=.own xs) (s':=.own (xs++[d])) rfl rfl es e2 ⟨vs++[v],zbb,(r.up x.f).append (.cons r' .nil)⟩)⟩
   ·cases ef
  ·cases ef
end
noncomputable def zo8 : Fl->Option D
 | .rt d=>some d
 | .rtO ds=>some (.lst ds)
 | .rtS d _=>some d
 | .nx _=>some .non
 | _=>none
noncomputable def zdh (n:Nat) (ds:List D) : List Sl:=ds.map .im++List.replicate (n - ds.length) .no
noncomputable def za7 (n:Nat) (F:List Sl->Option Fl) (ds:List D) : Option D:=(F (zdh n ds)).bind zo8
noncomputable def zii (n:Nat) (F:List Sl->Option Fl) (ds:List D) : Option (List D):=(F (zdh n ds)).bind fun o=>match o with
 | .rtO ds=>some ds
 | _=>none
noncomputable def spD (G:Gc) (n:Nat) (m:List D->Option D) : Sp:=fun vs H Q _=>∃ Hf ds d,zaf Hf H/\zae G Hf ds vs/\ds.length=n/\m ds=some d/\∀ v Hf' H',Ext Hf H Hf' H'->Rep G Hf' d v->Q v H'
noncomputable def spO (G:Gc) (n:Nat) (m:List D->Option (List D)) : Sp:=fun vs H Q _=>∃ Hf ds rs,zaf Hf H/\zae G Hf ds vs/\ds.length=n/\m ds=some rs /\
 ∀ l us Hf' H',Ext Hf H Hf' H'->H l=none->Hf' l=none->H' l=some (.lst us)->zae G Hf' rs us->Q (.ref l) H'
theorem zah.start {G:Gc} {Hf H:Hp} {N:List Str} {ds:List D} {vs:List V} (s0:zaf Hf H) (r:zae G Hf ds vs) : zah G Hf H Hf H (start N vs) (zdh N.length ds):=by
 have hl:=r.length
 have im : ∀ (i:Nat) (s:Sl),(zdh N.length ds)[i]?=some s->s=.no\/∃ d,ds[i]?=some d/\s=.im d:=fun i s b=>by
  unfold zdh at b
  by_cases hi : i < ds.length
  ·rw [List.getElem?_append_left (by simpa using hi)] at b;obtain ⟨d,ed,es⟩:=zid b;exact .inr ⟨d,ed,es⟩
  ·rw [List.getElem?_append_right (by simpa using Nat.le_of_not_lt hi)] at b;obtain ⟨_,e⟩:=List.getElem?_eq_some_iff.mp b;rw [List.getElem_replicate] at e;exact .inl e.symm
 refine ⟨Ext.refl s0,by simp [L2.start,zdh,hl],fun i v s a b=>?_,fun i j s t v w l a b c d p q=>?_⟩
 ·rcases im i s b with e | ⟨d,ed,es⟩
  ·subst e; trivial
  ·subst es;obtain ⟨u,eu,ru⟩:=r.get ed;refine ⟨u,?_,ru⟩;have hi : i < vs.length:=(List.getElem?_eq_some_iff.mp eu).1;unfold L2.start at a;rw [List.getElem?_append_left (by simpa using hi),List.getElem?_map,eu] at a;exact (Option.some.inj a).symm
 ·rcases im i s a with e | ⟨d,ed,es⟩
  ·subst e; exact (p.calm rfl).elim
  ·subst es; exact (p.calm rfl).elim
section
variable {P:Program} {w:World} {K:PySem.W.Frag} {mg:Str->Option Value} {base:Heap} {c:Str->Addr}
theorem zbi {x qual:Str} {st:Stmt} {f:Addr} {fd:FuncData} {N ps:List Str} {k:Nat} {F:List Sl->Option Fl} (Fn:Fun K x qual st f fd) (S:za1 N ps (zai st))
  (h:∀ (cdv:Value) (A:Around) (outer:List Env) (s:Shared) (H:Hp) (E:XK),za5 k (A.deeper (envOfC qual (zai st) s.heap.objs.size f cdv))->DSs c (zfb CX0 P w K mg base N qual (zai st) f cdv A outer s H E).nox (zaz st) F) :
  zap P w K mg base CX0 (k + 1) f fd ps (spD ⟨K,c⟩ ps.length (za7 N.length F)):=by
 refine Fn.ok S (fun vs H Q E q_=>by obtain ⟨Hf,ds,d,s0,r,hl,_⟩:=q_; rw [<- r.length]; exact hl) fun cdv A outer s H vs Q E hr q_=>?_;obtain ⟨Hf,ds,d,s0,r,hl,e,kq⟩:=q_;refine ⟨_,h cdv A outer s H E hr,?_⟩;unfold za7 at e
 cases eF : F (zdh N.length ds) with
 | none=>rw [eF] at e; cases e
 | some o =>
  rw [eF] at e;replace e : zo8 o=some d:=e;refine ⟨Hf,H,Hf,_,o,zah.start s0 r,eF,?_⟩
  cases o with
  | nx ρ=>cases e; exact fun σ' Hf' H' _ so=>kq _ Hf' H' so.ext rfl
  | bk ρ=>cases e
  | ct ρ=>cases e
  | rt d=>cases e; exact kq
  | rtO rs=>cases e; exact fun l vs Hf' H' x hn hf hl r=>kq _ (upd Hf' l (.lst vs)) H' (x.fix hn hf hl) ⟨l,vs,rfl,zbb,r.up (zbz hf)⟩
  | rtS d ρ=>cases e; exact fun v σ' Hf' H' so r=>kq v Hf' H' so.ext r
  | rtT o=>cases e
theorem zrq {x qual:Str} {st:Stmt} {f:Addr} {fd:FuncData} {N ps:List Str} {k:Nat} {F:List Sl->Option Fl} (Fn:Fun K x qual st f fd) (S:za1 N ps (zai st))
  (h:∀ (cdv:Value) (A:Around) (outer:List Env) (s:Shared) (H:Hp) (E:XK),za5 k (A.deeper (envOfC qual (zai st) s.heap.objs.size f cdv))->DSs c (zfb CX0 P w K mg base N qual (zai st) f cdv A outer s H E).nox (zaz st) F) :
  zap P w K mg base CX0 (k + 1) f fd ps (spO ⟨K,c⟩ ps.length (zii N.length F)):=by
 refine Fn.ok S (fun vs H Q E q_=>by obtain ⟨Hf,ds,d,s0,r,hl,_⟩:=q_; rw [<- r.length]; exact hl) fun cdv A outer s H vs Q E hr q_=>?_;obtain ⟨Hf,ds,rs,s0,r,hl,e,kq⟩:=q_;refine ⟨_,h cdv A outer s H E hr,?_⟩;unfold zii at e
 cases eF : F (zdh N.length ds) with
 | none=>rw [eF] at e; cases e
 | some o =>
  rw [eF] at e;refine ⟨Hf,H,Hf,_,o,zah.start s0 r,eF,?_⟩
  cases o with
  | rtO rs'=>cases e; exact kq
  | _=>cases e
end
section
variable {c:Str->Addr} {X:Cx} {k:Nat} {f C:Addr} {fd:FuncData} {ps:List Str} {x:Str} {p pos apos:Pos} {e o:Expr} {es:List Expr} {fa:List Sl->Option (List D)}
theorem zcc {m:List D->Option D} (F:zap X.prog X.w X.K X.mg X.base CX0 k f fd ps (spD (Gx c X) ps.length m)) (hr:za5 k X.A) (hg:Gl X x) (hm:X.mg x=some (.ref f)) (hk:PySem.W.keepIn X.K (.ref f)=true) (hb:zav X.K fd ps []) (ha:DA c X (e::es) fa)
  (hl:(e::es).length=ps.length:=by rfl) (hdb:(x==("__debug__" : Str))=false:=by decide) (he:starEach (e::es) X.env=(false,eval e X.env)::starEach es X.env:=by rfl) (hpl:(backTo pos (starEach es X.env)).any (·.1)=false:=by rfl) :
  DE c X (.Call (.Name x p) (e::es) [] pos) (zay m fa):=PE.imp (zl8 F hr hg hm hk hb .nil zfm ha.pa hdb he hpl) fun σ H Q q_=>by
 obtain ⟨Hf0,H0,Hf,ρ,d,st,ef,kq⟩:=q_;obtain ⟨ds,e1,e2⟩:=zoa ef;refine ⟨Hf0,H0,Hf,ρ,ds,st,e1,fun vs Hf' H' x r=>?_⟩;dsimp only;rw [List.append_nil];exact ⟨Hf',ds,d,x.s,r,(ha.len ρ ds e1).trans hl,e2,fun v Hf2 H2 x2 r2=>kq v Hf2 H2 (x.trans x2) r2⟩
noncomputable def zh9 (m:List D->Option (List D)) (f:List Sl->Option (List D)) (ρ:List Sl) : Option (List D):=(f ρ).bind m
theorem zq6 {m:List D->Option (List D)} (F:zap X.prog X.w X.K X.mg X.base CX0 k f fd ps (spO (Gx c X) ps.length m)) (hr:za5 k X.A) (hg:Gl X x) (hm:X.mg x=some (.ref f)) (hk:PySem.W.keepIn X.K (.ref f)=true) (hb:zav X.K fd ps []) (ha:DA c X (e::es) fa)
  (hl:(e::es).length=ps.length:=by rfl) (hdb:(x==("__debug__" : Str))=false:=by decide) (he:starEach (e::es) X.env=(false,eval e X.env)::starEach es X.env:=by rfl) (hpl:(backTo pos (starEach es X.env)).any (·.1)=false:=by rfl) :
  DO c X (.Call (.Name x p) (e::es) [] pos) (zh9 m fa):=PE.imp (zl8 F hr hg hm hk hb .nil zfm ha.pa hdb he hpl) fun σ H Q q_=>by
 obtain ⟨Hf0,H0,Hf,ρ,rs,st,ef,kq⟩:=q_;unfold zh9 at ef
 cases e1 : fa ρ with
 | none=>rw [e1] at ef; cases ef
 | some ds =>
  rw [e1] at ef;refine ⟨Hf0,H0,Hf,ρ,ds,st,e1,fun vs Hf' H' x r=>?_⟩;dsimp only;rw [List.append_nil];exact ⟨Hf',ds,rs,x.s,r,(ha.len ρ ds e1).trans hl,ef,fun l us Hf2 H2 x2 hn hf hl' r2=>kq l us Hf2 H2 (x.trans x2) (x.h.free hn) hf hl' r2⟩
noncomputable def zia (m:List D->Option D) (f:List Sl->Option (List D)) (ρ:List Sl) : Option D:=(f ρ).bind fun ds=>(m ds).bind fun d=>if d.scalar then some d else none
theorem zqv {m:List D->Option D} (F:zap X.prog X.w X.K X.mg X.base CX0 k f fd ps (spD (Gx c X) ps.length m)) (hr:za5 k X.A) (hg:Gl X x) (hm:X.mg x=some (.ref f)) (hk:PySem.W.keepIn X.K (.ref f)=true) (hb:zav X.K fd ps []) (ha:DAB c X (e::es) fa)
  (hl:(e::es).length=ps.length:=by rfl) (hdb:(x==("__debug__" : Str))=false:=by decide) (he:starEach (e::es) X.env=(false,eval e X.env)::starEach es X.env:=by rfl) (hpl:(backTo pos (starEach es X.env)).any (·.1)=false:=by rfl) :
  DE c X (.Call (.Name x p) (e::es) [] pos) (zia m fa):=PE.imp (zl8 F hr hg hm hk hb .nil zfm ha.pa hdb he hpl) fun σ H Q q_=>by
 obtain ⟨Hf0,H0,Hf,ρ,d,st,ef,kq⟩:=q_;unfold zia at ef
 cases e1 : fa ρ with
 | none=>rw [e1] at ef; cases ef
 | some ds =>
  rw [e1] at ef;replace ef : (m ds).bind _=_:=ef
  cases e2 : m ds with
  | none=>rw [e2] at ef; cases ef
  | some d' =>
   rw [e2] at ef;replace ef : (if d'.scalar=true then some d' else none)=some d:=ef;split at ef
   ·rename_i hs;cases ef;refine ⟨Hf0,H0,Hf,ρ,ds,st,e1,fun vs Hf' H' x r=>?_⟩;dsimp only;rw [List.append_nil];exact ⟨H',ds,_,zaf.refl _,r,(ha.len ρ ds e1).trans hl,e2,fun v Hf2 H2 x2 r2=>kq v Hf' H2 (x.trans (Ext.grow x.s x2.h)) (r2.sc hs)⟩
   ·cases ef
end
theorem zs1 {G:Gc} {H:Hp} {f:Str} {d:D} : ∀ {ns:List Str} {ds:List D} {vs:List V},(ns.zip ds).lookup f=some d->zae G H ds vs->∃ v,(ns.zip vs).lookup f=some v/\Rep G H d v
 | [],_,_,e,_=>by simp at e
 | n::ns,[],_,e,_=>by simp at e
 | n::ns,x::ds,_,e,⟨v,r,ev,h1,h2⟩=>by
  subst ev;rw [List.zip_cons_cons,List.lookup_cons] at e;rw [List.zip_cons_cons,List.lookup_cons]
  cases hf : f==n with
  | true=>rw [hf] at e; cases e; exact ⟨v,rfl,h1⟩
  | false=>rw [hf] at e; exact zs1 e h2
theorem zj1 {f:Str} : ∀ {ns:List Str} {vs:List V},ns.contains f=false->(ns.zip vs).lookup f=none
 | [],_,_=>by simp
 | n::ns,[],_=>by simp
 | n::ns,v::vs,h=>by
  rw [List.contains_cons,Bool.or_eq_false_iff] at h;rw [List.zip_cons_cons,List.lookup_cons,h.1];exact zj1 h.2
noncomputable def zrn (cn f:Str) : D->Option D
 | .ins c' ns ds=>if c'=cn then (ns.zip ds).lookup f else none
 | _=>none
noncomputable def zd5 (cn f:Str) (m:List Sl->Option D) (ρ:List Sl) : Option D:=(m ρ).bind (zrn cn f)
noncomputable def zbl (cn f:Str) (m:List D->Option D) (fo:List Sl->Option D) (fa:List Sl->Option (List D)) (ρ:List Sl) : Option D:=(fo ρ).bind fun d=>match d with
 | .ins c' ns ds=>if c'=cn/\ns.contains f=false then (fa ρ).bind fun as=>m (.ins c' ns ds::as) else none
 | _=>none
section
variable {c:Str->Addr} {X:Cx} {k:Nat} {f C:Addr} {fd:FuncData} {ps:List Str} {x fl cn:Str} {p pos apos:Pos} {e o:Expr} {es:List Expr} {fo:List Sl->Option D} {fa:List Sl->Option (List D)}
theorem zep (cn:Str) (hc:Cls X.K (c cn)) (hn:zbc X.K (c cn) fl) (ho:DE c X o fo) (hb:attributeBase o fl X.env (eval o X.env)=eval o X.env:=by rfl) : DE c X (.Attribute o fl pos) (zd5 cn fl fo) :=
 PE.imp (zt4 ho hb) fun σ H Q q_=>by
  obtain ⟨Hf0,H0,Hf,ρ,d,st,ef,k⟩:=q_;unfold zd5 at ef
  cases e1 : fo ρ with
  | none=>rw [e1] at ef; cases ef
  | some y =>
   rw [e1] at ef;replace ef : zrn cn fl y=some d:=ef
   cases y with
   | ins c' ns ds =>
    replace ef : (if c'=cn then (ns.zip ds).lookup fl else none)=some d:=ef;split at ef
    ·rename_i hcc;subst hcc;refine ⟨Hf0,H0,Hf,ρ,_,st,e1,fun v Hf' H' x r=>?_⟩;obtain ⟨a,dx,vs,ev,q,hl,rs⟩:=r;obtain ⟨u,eu,ru⟩:=zs1 ef rs;exact ⟨a,c c',dx,ns.zip vs,u,ev,x.s _ _ q,hc,hn,eu,k u Hf' H' x ru⟩
    ·cases ef
   | _=>cases ef
theorem zk4 {m:List D->Option D} {pl:Sem Bool} (cn:Str) (ho:DE c X o fo) (hc:Cls X.K (c cn)) (hm:zbe X.K (c cn) fl f) (F:zap X.prog X.w X.K X.mg X.base CX0 k f fd ps (spD (Gx c X) ps.length m)) (hr:za5 k X.A) (hb:zav X.K fd ps []) (ha:DA c X (e::es) fa)
  (hl:(e::es).length + 1=ps.length:=by rfl)
  (hst:starEach (e::es) X.env=(false,eval e X.env)::starEach es X.env:=by rfl) (hpl:(backTo pos (starEach es X.env)).any (·.1)=false:=by rfl)
  (ht:eval (.Call (.Attribute o fl apos) (e::es) [] pos) X.env=(do
   let ov <- eval o X.env
   standAt apos.atName
   let (f,first) <- holding [ov] (getMethod ov fl pl)
   callWith pos f first (backTo pos (starEach (e::es) X.env)) (backToKw pos (keywordEach [] X.env))):=by rfl) :
  DE c X (.Call (.Attribute o fl apos) (e::es) [] pos) (zbl cn fl m fo fa):=PE.imp (zt6 ho hc hm F hr hb .nil zfm ha.pa hst hpl ht) fun σ H Q q_=>by
 obtain ⟨Hf0,H0,Hf,ρ,d,st,ef,kq⟩:=q_;unfold zbl at ef
 cases e1 : fo ρ with
 | none=>rw [e1] at ef; cases ef
 | some y =>
  rw [e1] at ef
  cases y with
  | ins c' ns ds =>
   replace ef : (if c'=cn/\ns.contains fl=false then (fa ρ).bind fun as=>m (.ins c' ns ds::as) else none)=some d:=ef;split at ef
   ·rename_i hcc;obtain ⟨rfl,hno⟩:=hcc
    cases e2 : fa ρ with
    | none=>rw [e2] at ef; cases ef
    | some as =>
     rw [e2] at ef;replace ef : m (.ins c' ns ds::as)=some d:=ef;refine ⟨Hf0,H0,Hf,ρ,_,st,e1,fun v Hf' H' x r=>?_⟩;obtain ⟨a,dx,vs,ev,q,hlen,rs⟩:=id r;refine ⟨a,dx,ns.zip vs,ev,x.s _ _ q,zj1 hno,Hf0,H0,Hf',ρ,as,st.step x,e2,fun ws Hf2 H2 x2 r2=>?_⟩;dsimp only;rw [List.append_nil];exact ⟨Hf2,.ins c' ns ds::as,d,x2.s,.cons (r.up x2.f) r2,by rw [List.length_cons,ha.len ρ as e2]; exact hl,ef,fun u Hf3 H3 x3 r3=>kq u Hf3 H3 ((x.trans x2).trans x3) r3⟩
   ·cases ef
  | _=>cases ef
theorem zgb {m:List D->Option D} {pl:Sem Bool} (cn:Str) (ho:DE c X o fo) (hc:Cls X.K (c cn)) (hm:zbe X.K (c cn) fl f) (F:zap X.prog X.w X.K X.mg X.base CX0 k f fd ps (spD (Gx c X) ps.length m)) (hr:za5 k X.A) (hb:zav X.K fd ps [])
  (hl:1=ps.length:=by rfl)
  (ht:eval (.Call (.Attribute o fl apos) [] [] pos) X.env=(do
   let ov <- eval o X.env
   standAt apos.atName
   let (f,first) <- holding [ov] (getMethod ov fl pl)
   callWith pos f first (backTo pos (starEach [] X.env)) (backToKw pos (keywordEach [] X.env))):=by rfl) :
  DE c X (.Call (.Attribute o fl apos) [] [] pos) (zbl cn fl m fo fun _=>some []):=PE.imp (zt7 ho hc hm F hr hb .nil zfm ht) fun σ H Q q_=>by
 obtain ⟨Hf0,H0,Hf,ρ,d,st,ef,kq⟩:=q_;unfold zbl at ef
 cases e1 : fo ρ with
 | none=>rw [e1] at ef; cases ef
 | some y =>
  rw [e1] at ef
  cases y with
  | ins c' ns ds =>
   replace ef : (if c'=cn/\ns.contains fl=false then (some []).bind fun as=>m (.ins c' ns ds::as) else none)=some d:=ef;split at ef
   ·rename_i hcc;obtain ⟨rfl,hno⟩:=hcc;replace ef : m [.ins c' ns ds]=some d:=ef;refine ⟨Hf0,H0,Hf,ρ,_,st,e1,fun v Hf' H' x r=>?_⟩;obtain ⟨a,dx,vs,ev,q,hlen,rs⟩:=id r;refine ⟨a,dx,ns.zip vs,ev,x.s _ _ q,zj1 hno,?_⟩;exact ⟨Hf',[.ins c' ns ds],d,x.s,.cons r .nil,hl,ef,fun u Hf3 H3 x3 r3=>kq u Hf3 H3 (x.trans x3) r3⟩
   ·cases ef
  | _=>cases ef
end
noncomputable def zj3 : List (Str×(List Sl->Option D))->List Sl->List Str->List D->Option (List Str×List D)
 | [],_,ns,ds=>some (ns,ds)
 | (f,m)::r,ρ,ns,ds=>(m ρ).bind fun d=>if ns.contains f then none else zj3 r ρ (ns++[f]) (ds++[d])
noncomputable def z7e (G:Gc) (cn:Str) (fs:List (Str×(List Sl->Option D))) : TS:=fun E σ H=>∃ x dx Hf0 H0 Hf ρ ns us ds r,σ[0]?=some (some (.ref x))/\(∀ s∈ρ,Sl.calm s=true)/\zah G Hf0 H0 Hf H σ ρ/\H0 x=none/\Hf x=none /\
 H x=some (.ins (G.cl cn) dx (ns.zip us))/\ns.length=us.length/\ns.length + fs.length<=900/\zae G Hf ds us/\zj3 fs ρ ns ds=some r /\
 ∀ us' Hf' H',Ext Hf0 H0 Hf' H'->Hf' x=none->H' x=some (.ins (G.cl cn) dx (r.1.zip us'))->r.1.length=us'.length->zae G Hf' r.2 us'->E.nx σ H'
noncomputable def DSI (c:Str->Addr) (X:Cx) (cn:Str) (sts:List Stmt) (fs:List (Str×(List Sl->Option D))) : Prop:=PSs X sts (z7e (Gx c X) cn fs)
theorem zkd {f:Str} {v:V} : ∀ {ns:List Str} {us:List V},ns.length=us.length->ns.contains f=false->zby f v (ns.zip us)=(ns++[f]).zip (us++[v])
 | [],[],_,_=>rfl
 | n::ns,u::us,hl,h=>by
  rw [List.contains_cons,Bool.or_eq_false_iff] at h;have h1 : ¬ (n=f):=fun z=>by rw [z,beq_self_eq_true] at h; cases h.1
  rw [List.zip_cons_cons]
  unfold zby
  first
   | (rw [if_neg h1,zkd (by simpa using hl) h.2]; rfl)
   | (rw [if_neg (fun z=>h1 (Eq.symm z)),zkd (by simpa using hl) h.2]; rfl)
   | (rw [if_neg (by simpa using h1),zkd (by simpa using hl) h.2]; rfl)
   | (rw [if_neg (by simpa using fun z=>h1 (Eq.symm z)),zkd (by simpa using hl) h.2]; rfl)
 | [],_::_,hl,_=>by cases hl
 | _::_,[],hl,_=>by cases hl
section
variable {c:Str->Addr} {X:Cx} {cn fl:Str} {e o:Expr} {sts:List Stmt} {pos pos':Pos} {m:List Sl->Option D} {fs:List (Str×(List Sl->Option D))}
theorem zla : DSI c X cn [] []:=PSs.imp zug fun E σ H q=>by
 obtain ⟨x,dx,Hf0,H0,Hf,ρ,ns,us,ds,r,e0,no,so,h0,hf,hx,hl,hz,rd,em,k⟩:=q;cases em;exact k us Hf H so.ext hf hx hl rd
theorem zh1 (hc:Cls X.K (c cn)) (hn:zbc X.K (c cn) fl) (ho:PE X o (zdg 0)) (he:DE c X e m) (h:DSI c X cn sts fs) (hs:swapsWith e (some (.Attribute o fl pos')) pos.line X.env=pure false:=by rfl) :
  DSI c X cn (.Assign [.Attribute o fl pos'] e pos::sts) ((fl,m)::fs):=PSs.imp (zuf (zf2 ho he hs) h) fun E σ H q=>by
 obtain ⟨x,dx,Hf0,H0,Hf,ρ,ns,us,ds,r,e0,no,so,h0,hf,hx,hl,hz,rd,em,k⟩:=q;unfold zj3 at em
 cases e1 : m ρ with
 | none=>rw [e1] at em; cases em
 | some d =>
  rw [e1] at em;replace em : (if ns.contains fl=true then none else zj3 fs ρ (ns++[fl]) (ds++[d]))=some r:=em;split at em
  ·cases em
  ·rename_i hnc;have hnc : ns.contains fl=false:=by simpa using hnc
   refine ⟨Hf0,H0,Hf,ρ,d,so,e1,fun v Hf' H' xx rv=>⟨_,e0,x,c cn,dx,ns.zip us,rfl,xx.h _ _ hx,hc,hn,?_,?_⟩⟩
   ·have h1:=List.length_zip (l₁:=ns) (l₂:=us);rw [List.length_cons] at hz;omega
   ·have hf' : Hf' x=none:=by rw [xx.n _ _ hx rfl]; exact hf
    have so':=so.step xx
    have so2 : zah (Gx c X) Hf0 H0 Hf' (upd H' x (.ins (c cn) dx (zby fl v (ns.zip us)))) σ ρ:=by
     refine so'.re ⟨so'.ext.f,fun b u e=>?_,fun b u e=>?_,so'.ext.n⟩ rfl (fun i w s a b=>?_) fun i s w a b _ p=>(p.calm (no s (List.mem_of_getElem? b))).elim
     ·rw [zar (zcg e h0)]; exact so'.ext.h b u e
     ·rw [zar (zcg e hf')]; exact so'.ext.s b u e
     ·have hs:=no s (List.mem_of_getElem? b);have q:=so'.at' i w s a b
      cases s with
      | no=>trivial
      | im d=>exact q
      | _=>cases hs
    refine ⟨x,dx,Hf0,H0,Hf',ρ,ns++[fl],us++[v],ds++[d],r,e0,no,so2,h0,hf',?_,by rw [List.length_append,List.length_append,hl]; rfl,by rw [List.length_cons] at hz; rw [List.length_append,List.length_singleton]; omega,(rd.up xx.f).append (.cons rv .nil),em,k⟩;rw [zbb,zkd hl hnc]
end
noncomputable def del (H:Hp) (x:Addr) : Hp:=fun b=>if b=x then none else H b
theorem zq0 {H:Hp} {x:Addr} : del H x x=none:=if_pos rfl
theorem zqz {H:Hp} {x b:Addr} (h:b≠x) : del H x b=H b:=if_neg h
noncomputable def zkf (n:Nat) (fs:List (Str×(List Sl->Option D))) (as:List D) : Option (List Str×List D):=zj3 fs (.no::(as.map .im++List.replicate (n - 1 - as.length) .no)) [] []
noncomputable def spI (G:Gc) (cn:Str) (n:Nat) (m:List D->Option (List Str×List D)) : Sp:=fun vs H Q _=>∃ x dx Hf as vs' r,vs=.ref x::vs'/\H x=some (.ins (G.cl cn) dx [])/\Hf x=none/\zaf Hf H/\zae G Hf as vs'/\as.length + 1=n/\m as=some r /\
 ∀ us Hf' H',Ext Hf (del H x) Hf' H'->Hf' x=none->H' x=some (.ins (G.cl cn) dx (r.1.zip us))->r.1.length=us.length->zae G Hf' r.2 us->Q .non H'
section
variable {P:Program} {w:World} {K:PySem.W.Frag} {mg:Str->Option Value} {base:Heap} {c:Str->Addr}
theorem zlg {x qual cn:Str} {st:Stmt} {f:Addr} {fd:FuncData} {N ps:List Str} {k:Nat} {fs:List (Str×(List Sl->Option D))} (Fn:Fun K x qual st f fd) (S:za1 N ps (zai st))
  (h:∀ (cdv:Value) (A:Around) (outer:List Env) (s:Shared) (H:Hp) (E:XK),za5 k (A.deeper (envOfC qual (zai st) s.heap.objs.size f cdv))->DSI c (zfb CX0 P w K mg base N qual (zai st) f cdv A outer s H E).nox cn (zaz st) fs)
  (hz:fs.length<=900:=by decide) : zap P w K mg base CX0 (k + 1) f fd ps (spI ⟨K,c⟩ cn ps.length (zkf N.length fs)):=by
 refine Fn.ok S (fun vs H Q E q=>by obtain ⟨x,dx,Hf,as,vs',r,ev,_,_,_,ra,hl,_⟩:=q; subst ev; rw [List.length_cons,<- ra.length]; exact hl) fun cdv A outer s H vs Q E hr q=>⟨_,h cdv A outer s H E hr,?_⟩;obtain ⟨x,dx,Hf,as,vs',r,ev,hx,hf,s0,ra,hl,e,kq⟩:=q;subst ev;have la:=ra.length
 have im : ∀ (i:Nat) (s:Sl),(Sl.no::(as.map Sl.im++List.replicate (N.length - 1 - as.length) .no))[i]?=some s->s=.no\/∃ d j,i=j + 1/\as[j]?=some d/\s=.im d:=fun i s b=>by
  cases i with
  | zero=>left; simpa using b.symm
  | succ i =>
   rw [List.getElem?_cons_succ] at b
   by_cases hi : i < as.length
   ·rw [List.getElem?_append_left (by simpa using hi)] at b;obtain ⟨d,ed,es⟩:=zid b;exact .inr ⟨d,i,rfl,ed,es⟩
   ·rw [List.getElem?_append_right (by simpa using Nat.le_of_not_lt hi)] at b;obtain ⟨_,e⟩:=List.getElem?_eq_some_iff.mp b;rw [List.getElem_replicate] at e;exact .inl e.symm
 have no : ∀ s∈(Sl.no::(as.map Sl.im++List.replicate (N.length - 1 - as.length) .no)),Sl.calm s=true:=fun s hs=>by
  obtain ⟨i,hi⟩:=List.getElem?_of_mem hs
  rcases im i s hi with e | ⟨d,_,_,_,e⟩ <;> (subst e; rfl)
 refine ⟨x,dx,Hf,del H x,Hf,_,[],[],[],r,rfl,no,⟨⟨zaf.refl _,fun b o e=>?_,s0,fun _ _ _ _=>rfl⟩,?_,fun i v s a b=>?_,fun i j s t v w l a b _ _ p _=>?_⟩,zq0,hf,hx,rfl,by simpa using hz,rfl,e,fun us Hf' H' xx h1 h2 h3 h4=>kq us Hf' H' xx h1 h2 h3 h4⟩
 ·by_cases hb : b=x
  ·subst hb; rw [zq0] at e; cases e
  ·rw [zqz hb] at e; exact e
 ·unfold L2.start;simp only [List.length_append,List.length_map,List.length_cons,List.length_replicate];omega
 ·rcases im i s b with e | ⟨d,j,ei,ed,es⟩
  ·subst e; trivial
  ·subst es ei;obtain ⟨u,eu,ru⟩:=ra.get ed;refine ⟨u,?_,ru⟩;have hi : j < vs'.length:=(List.getElem?_eq_some_iff.mp eu).1;unfold L2.start at a;rw [List.map_cons,List.cons_append,List.getElem?_cons_succ,List.getElem?_append_left (by simpa using hi),List.getElem?_map,eu] at a;exact (Option.some.inj a).symm
 ·exact (p.calm (no s (List.mem_of_getElem? a))).elim
end
section
variable {c:Str->Addr} {X:Cx} {k:Nat} {f:Addr} {fd:FuncData} {ps:List Str} {x cn:Str} {p pos:Pos} {e:Expr} {es:List Expr} {fa:List Sl->Option (List D)}
noncomputable def zgi (cn:Str) (m:List D->Option (List Str×List D)) (fa:List Sl->Option (List D)) (ρ:List Sl) : Option D:=(fa ρ).bind fun as=>(m as).map fun r=>.ins cn r.1 r.2
theorem zhw {m:List D->Option (List Str×List D)} (cn:Str) (M:Mk X.K (c cn) f) (F:zap X.prog X.w X.K X.mg X.base CX0 k f fd ps (spI (Gx c X) cn ps.length m)) (hr:za5 (k + 1) X.A) (hg:Gl X x) (hm:X.mg x=some (.ref (c cn))) (hb:zav X.K fd ps []) (ha:DA c X (e::es) fa)
  (hl:(e::es).length + 1=ps.length:=by rfl) (hdb:(x==("__debug__" : Str))=false:=by decide) (he:starEach (e::es) X.env=(false,eval e X.env)::starEach es X.env:=by rfl) (hpl:(backTo pos (starEach es X.env)).any (·.1)=false:=by rfl) :
  DE c X (.Call (.Name x p) (e::es) [] pos) (zgi cn m fa):=PE.imp (zt5 M F hr hg hm hb .nil zfm ha.pa hdb he hpl) fun σ H Q q_=>by
 obtain ⟨Hf0,H0,Hf,ρ,d,st,ef,kq⟩:=q_;unfold zgi at ef
 cases e1 : fa ρ with
 | none=>rw [e1] at ef; cases ef
 | some as =>
  rw [e1] at ef;replace ef : (m as).map _=_:=ef
  cases e2 : m as with
  | none=>rw [e2] at ef; cases ef
  | some r =>
   rw [e2] at ef;cases ef;refine ⟨Hf0,H0,Hf,ρ,as,st,e1,fun vs Hf' H' xx rv y dx ny ndx nex=>?_⟩
   try dsimp only
   rw [List.append_nil];have hy : (upd H' dx (.own y)) y=none:=by rw [zar nex.symm]; exact ny
   have s1 : zaf H' (upd H' dx (.own y)):=zbz ndx;have s2:=s1.trans (zbz (o:=.ins (c cn) dx []) hy)
   have s3 : zaf H' (del (upd (upd H' dx (.own y)) y (.ins (c cn) dx [])) y):=fun b u q=>by
    have:=zcg q ny;rw [zqz this];exact s2 b u q
   refine ⟨y,dx,Hf',as,vs,r,rfl,zbb,xx.s.free ny,xx.s.trans s2,rv,by rw [ha.len ρ as e1]; exact hl,e2,fun us Hf2 H2 x2 hf2 hy2 hlen r2=>⟨rfl,?_⟩⟩;have x3 : Ext Hf' H' Hf2 H2:=⟨x2.f,s3.trans x2.h,x2.s,fun l u q t=>x2.n l u (s3 l u q) t⟩;exact kq _ _ H2 ((xx.trans x3).fix (xx.h.free ny) hf2 hy2) ⟨y,dx,us,rfl,zbb,hlen,r2.up (zbz hf2)⟩
end
theorem zgs {F F':List Sl->Option Fl} {ρ ρ':List Sl} {r:Option Fl} (h:F ρ=some (.nx ρ')) (h':F' ρ'=r) : zam F F' ρ=r:=by
 unfold zam;rw [h];exact h'
theorem zmk {F F':List Sl->Option Fl} {ρ:List Sl} {d:D} (h:F ρ=some (.rt d)) : zam F F' ρ=some (.rt d):=by
 unfold zam;rw [h];rfl
theorem zli {t:List Sl->Option Bool} {F F':List Sl->Option Fl} {ρ:List Sl} {r:Option Fl} (h:t ρ=some true) (h':F ρ=r) : zbg t F F' ρ=r:=by
 unfold zbg;rw [h];exact h'
theorem zhf {t:List Sl->Option Bool} {F F':List Sl->Option Fl} {ρ:List Sl} {r:Option Fl} (h:t ρ=some false) (h':F' ρ=r) : zbg t F F' ρ=r:=by
 unfold zbg;rw [h];exact h'
theorem zu1 {i:Nat} {f:List Sl->Option D} {ρ:List Sl} {d:D} (h:f ρ=some d) : zbj i f ρ=some (.nx (ρ.set i (.im d))):=by
 unfold zbj;rw [h];rfl
theorem z6l {i:Nat} {f:List Sl->Option (List D)} {ρ:List Sl} {d:List D} (h:f ρ=some d) : zcz i f ρ=some (.nx (ρ.set i (.own d))):=by
 unfold zcz;rw [h];rfl
theorem zdu {f:List Sl->Option D} {ρ:List Sl} {d:D} (h:f ρ=some d) : za3 f ρ=some (.rt d):=by
 unfold za3;rw [h];rfl
theorem zdv {n:Nat} {F:List Sl->Option Fl} {ds:List D} {d:D} (h:F (zdh n ds)=some (.rt d)) : za7 n F ds=some d:=by
 unfold za7;rw [h];rfl
theorem zpc {n:Nat} {F:List Sl->Option Fl} {ds:List D} {d:List D} (h:F (zdh n ds)=some (.rtO d)) : za7 n F ds=some (.lst d):=by
 unfold za7;rw [h];rfl
theorem zbk {m:List D->Option D} {f:List Sl->Option (List D)} {ρ:List Sl} {ds:List D} {d:D} (h:f ρ=some ds) (h':m ds=some d) : zay m f ρ=some d:=by
 unfold zay;rw [h];exact h'
theorem zm8 {α : Type} {h:D->Option (Option D)} (f:α->D) (p:α->Bool) (q:α->D) : ∀ (xs:List α),(∀ x∈xs,h (f x)=some (if p x then some (q x) else none))->zdn h (xs.map f)=some ((xs.filter p).map q)
 | [],_=>rfl
 | x::xs,hh=>by
  rw [List.map_cons];unfold zdn;rw [hh x List.mem_cons_self,zm8 f p q xs fun y hy=>hh y (List.mem_cons_of_mem _ hy)]
  cases hp : p x with
  | true=>rw [List.filter_cons_of_pos hp]; rfl
  | false=>rw [List.filter_cons_of_neg (by rw [hp]; exact Bool.false_ne_true)]; rfl
theorem zwx {α : Type} {h:D->Option (Option D)} (f:α->D) (q:α->D) (xs:List α) (hh:∀ x∈xs,h (f x)=some (some (q x))) : zdn h (xs.map f)=some (xs.map q):=by
 have:=zm8 (h:=h) f (fun _=>true) q xs fun x hx=>(hh x hx).trans rfl;rw [this,List.filter_eq_self.mpr fun _ _=>rfl]
theorem zg7 {α : Type} {k:Nat} {js:List Nat} {fi:List Sl->Option (List D)} {g:D->List Sl->Option (List Sl)} {ft:List Sl->Option Bool} {fe:List Sl->Option D} {ρ:List Sl} (xs:List α) (f:α->D) (p:α->Bool) (q:α->D)
  (hi:fi ρ=some (xs.map f)) (hz:xs.length<=16777216) (hh:∀ x∈xs,zd7 g ft fe (zcw k js ρ) (f x)=some (if p x then some (q x) else none)) : zbh k js fi g ft fe ρ=some ((xs.filter p).map q):=by
 unfold zbh;rw [hi];show (if (xs.map f).length<=16777216 then _ else none)=_;rw [List.length_map,if_pos hz];exact zm8 f p q xs hh
theorem zfu {α : Type} {k:Nat} {js:List Nat} {fi:List Sl->Option (List D)} {g:D->List Sl->Option (List Sl)} {ft:List Sl->Option Bool} {fe:List Sl->Option D} {ρ:List Sl} (xs:List α) (f:α->D) (q:α->D)
  (hi:fi ρ=some (xs.map f)) (hz:xs.length<=16777216) (hh:∀ x∈xs,zd7 g ft fe (zcw k js ρ) (f x)=some (some (q x))) : zbh k js fi g ft fe ρ=some (xs.map q):=by
 unfold zbh;rw [hi];show (if (xs.map f).length<=16777216 then _ else none)=_;rw [List.length_map,if_pos hz];exact zwx f q xs hh
theorem z5o (lo:Int) (n:Nat) : rng lo n=(List.range n).map fun (i:Nat)=>D.int (lo + i):=rfl
theorem zvb {ns:List Int} : zd9 [.lst (ns.map D.int)]=some (.int ns.sum):=by
 unfold zd9 lsD;show (zds (ns.map D.int)).map _=_;rw [zzn];rfl
theorem zb5 {α : Type} {f:α->D} {xs:List α} {i:Int} (h0:0<=i) (h1:i < xs.length) : ∃ x,xs[i.toNat]?=some x/\atI (xs.map f) i=some (f x):=by
 have hl : i.toNat < xs.length:=by omega
 refine ⟨xs[i.toNat],by simp [hl],?_⟩;have:=zwf (xs:=xs.map f) (j:=i.toNat) (v:=f xs[i.toNat]) (by simp [hl]);rw [show ((i.toNat : Nat) : Int)=i by omega] at this;exact this
theorem zm1 {α : Type} {f:α->D} {xs:List α} {i:Int} (d:α) (h0:0<=i) (h1:i < xs.length) : atI (xs.map f) i=some (f (xs.getD i.toNat d)):=by
 obtain ⟨x,e1,e2⟩:=zb5 (f:=f) h0 h1;rw [e2,List.getD_eq_getElem?_getD,e1];rfl
noncomputable def zch : Nat->D->Prop
 | 0,_=>False
 | n + 1,d=>match d with
  | .lst xs=>∀ x∈xs,zch n x
  | .tup xs=>∀ x∈xs,zch n x
  | d=>d.scalar=true
theorem znk {f:D->D->Option Bool} : ∀ (xs:List D),(∀ x∈xs,f x x=some true)->zcp f xs xs=some true
 | [],_=>rfl
 | x::xs,h=>by
  unfold zcp;rw [h x List.mem_cons_self,znk xs fun y hy=>h y (List.mem_cons_of_mem _ hy)];rfl
theorem zk8 : ∀ (n:Nat) (d:D),zch n d->deq n d d=some true
 | 0,_,h=>h.elim
 | n + 1,d,h=>by
  show zk6 (deq n) d d=some true
  cases d with
  | lst xs =>
   show (if xs.length=xs.length then zcp (deq n) xs xs else some false)=_;rw [if_pos rfl]
   exact znk xs fun x hx=>zk8 n x (h x hx)
  | tup xs =>
   show (if xs.length=xs.length then zcp (deq n) xs xs else none)=_;rw [if_pos rfl]
   exact znk xs fun x hx=>zk8 n x (h x hx)
  | non=>rfl
  | bl b=>show some (b==b)=_; rw [beq_self_eq_true]
  | int b=>show some (b==b)=_; rw [beq_self_eq_true]
  | str b=>show some (b==b)=_; rw [beq_self_eq_true]
  | _=>cases h
theorem zch.mono : ∀ (n:Nat) (d:D),zch n d->zch (n + 1) d
 | 0,_,h=>h.elim
 | n + 1,d,h=>by
  cases d with
  | lst xs=>exact fun x hx=>zch.mono n x (h x hx)
  | tup xs=>exact fun x hx=>zch.mono n x (h x hx)
  | _=>exact h
theorem zch.le {n m:Nat} {d:D} (h:zch n d) (hm:n<=m) : zch m d:=by
 induction hm with
 | refl=>exact h
 | step _ ih=>exact zch.mono _ _ ih
theorem zxb {d:D} (h:zch 20 d) : dEq d d=some (.bl true):=by
 unfold dEq;rw [zk8 20 d h];rfl
theorem zxg {d:D} (h:zch 20 d) : dNe d d=some (.bl false):=by
 unfold dNe;rw [zk8 20 d h];rfl
theorem zw9 (i j:Int) : dEq (.int i) (.int j)=some (.bl (i==j)):=rfl
theorem znc (i j:Str) : dEq (.str i) (.str j)=some (.bl (i==j)):=rfl
theorem zw8 (i j:Bool) : dEq (.bl i) (.bl j)=some (.bl (i==j)):=rfl
theorem zxf (i j:Int) : dNe (.int i) (.int j)=some (.bl (!(i==j))):=rfl
theorem zxh (i j:Str) : dNe (.str i) (.str j)=some (.bl (!(i==j))):=rfl
theorem zbm {m:D->D->Option D} {f g:List Sl->Option D} {ρ:List Sl} {x y d:D} (h1:f ρ=some x) (h2:g ρ=some y) (h3:m x y=some d) : m2 m f g ρ=some d:=by
 unfold m2;rw [h1,h2];exact h3
theorem zc8 {f:List Sl->Option D} {ρ:List Sl} {b:Bool} (h:f ρ=some (.bl b)) : mB f ρ=some b:=by
 unfold mB;rw [h];rfl
theorem zd6 {f:List Sl->Option D} {ρ:List Sl} {d:D} {b:Bool} (h:f ρ=some d) (h':zpm d=some b) : zcf f ρ=some b:=by
 unfold zcf;rw [h];exact h'
theorem zgj {f:List Sl->Option Bool} {ρ:List Sl} {b:Bool} (h:f ρ=some b) : zdt f ρ=some (!b):=by
 unfold zdt;rw [h];rfl
theorem zs3 {f g:List Sl->Option Bool} {ρ:List Sl} {r:Option Bool} (h:f ρ=some true) (h':g ρ=r) : zdj f g ρ=r:=by
 unfold zdj;rw [h];exact h'
theorem zn9 {f g:List Sl->Option Bool} {ρ:List Sl} (h:f ρ=some false) : zdj f g ρ=some false:=by
 unfold zdj;rw [h];rfl
theorem zs5 {f g:List Sl->Option Bool} {ρ:List Sl} (h:f ρ=some true) : mOr f g ρ=some true:=by
 unfold mOr;rw [h];rfl
theorem zic {f g:List Sl->Option Bool} {ρ:List Sl} {r:Option Bool} (h:f ρ=some false) (h':g ρ=r) : mOr f g ρ=r:=by
 unfold mOr;rw [h];exact h'
theorem zlq {f g:List Sl->Option Bool} {ρ:List Sl} {a b:Bool} (h:f ρ=some a) (h':g ρ=some b) : zdj f g ρ=some (a && b):=by
 cases a with
 | true=>exact zs3 h h'
 | false=>exact zn9 h
theorem z0v {f g:List Sl->Option Bool} {ρ:List Sl} {a b:Bool} (h:f ρ=some a) (h':g ρ=some b) : mOr f g ρ=some (a || b):=by
 cases a with
 | true=>exact zs5 h
 | false=>exact zic h h'
theorem zvn {f g:List Sl->Option D} {ρ:List Sl} {a b:Bool} (h:f ρ=some (.bl a)) (h':g ρ=some (.bl b)) : zkm f g ρ=some (.bl (a && b)):=by
 unfold zkm;rw [zc8 h]
 cases a with
 | true=>exact h'
 | false=>rfl
theorem zpn {f g:List Sl->Option D} {ρ:List Sl} {a b:Bool} (h:f ρ=some (.bl a)) (h':g ρ=some (.bl b)) : vOr f g ρ=some (.bl (a || b)):=by
 unfold vOr;rw [zc8 h]
 cases a with
 | true=>rfl
 | false=>exact h'
theorem zvo {f:List Sl->Option D} {ρ:List Sl} {a:Bool} (h:f ρ=some (.bl a)) : zkn f ρ=some (.bl (!a)):=by
 unfold zkn;rw [zc8 h];rfl
theorem zas {f:List Sl->Option D} {g:List Sl->Option (List D)} {ρ:List Sl} {d:D} {ds:List D} (h:f ρ=some d) (h':g ρ=some ds) : zaa f g ρ=some (d::ds):=by
 unfold zaa;rw [h,h'];rfl
theorem ze6 {f:List Sl->Option (List D)} {ρ:List Sl} {ds:List D} (h:f ρ=some ds) : zbo f ρ=some (.tup ds):=by
 unfold zbo;rw [h];rfl
theorem zb4 {f:List Sl->Option (List D)} {ρ:List Sl} {ds:List D} (h:f ρ=some ds) : za2 f ρ=some (.lst ds):=by
 unfold za2;rw [h];rfl
theorem za0 {f:List Sl->Option (List D)} {g:List Sl->Option D} {ρ:List Sl} {ds:List D} {i:Int} {r:Option D} (h:f ρ=some ds) (h':g ρ=some (.int i)) (h2:atI ds i=r) : mIx f g ρ=r:=by
 unfold mIx;rw [h,h'];exact h2
theorem zhv {C:Int->Int->Prop} [∀ i j,Decidable (C i j)] {g:Int->Int->D} {i j:Int} (h:C i j) : dI C g (.int i) (.int j)=some (g i j):=by
 show (if C i j then some (g i j) else none)=_;rw [if_pos h]
theorem zwc {i:Nat} {f:List Sl->Option D} {ρ:List Sl} {d:D} {xs:List D} (h:f ρ=some d) (h':ρ[i]?=some (.own xs)) (hl:xs.length < 16777216) : zd4 i f ρ=some (.nx (ρ.set i (.own (xs++[d])))):=by
 unfold zd4;rw [h]
 show (match ρ[i]? with | some (.own xs)=>if xs.length < 16777216 then some (Fl.nx (ρ.set i (.own (xs++[d])))) else none | _=>none)=_
 rw [h'];show (if xs.length < 16777216 then _ else none)=_;rw [if_pos hl]
theorem zfq {g:D->List Sl->Option (List Sl)} {ft:List Sl->Option Bool} {fe:List Sl->Option D} {ρ ρ1:List Sl} {d y:D} {b:Bool} (h1:g d ρ=some ρ1) (h2:ft ρ1=some b) (h3:b=true->fe ρ1=some y) : zd7 g ft fe ρ d=some (if b then some y else none):=by
 unfold zd7;rw [h1];show (ft ρ1).bind _=_;rw [h2];show (if b=true then (fe ρ1).map some else some none)=_
 cases b with
 | true=>rw [h3 rfl]; rfl
 | false=>rfl
theorem zek {g:D->List Sl->Option (List Sl)} {ft:List Sl->Option Bool} {fe:List Sl->Option D} {ρ ρ1:List Sl} {d y:D} (h1:g d ρ=some ρ1) (h2:ft ρ1=some true) (h3:fe ρ1=some y) : zd7 g ft fe ρ d=some (some y):=zfq h1 h2 fun _=>h3
theorem ze4 {f:List Sl->Option D} {ρ:List Sl} {d:D} {ds:List D} (h:f ρ=some d) (h':zgr d=some ds) : zbn f ρ=some ds:=by
 unfold zbn;rw [h];exact h'
theorem zf1 {f g:List Sl->Option D} {ρ:List Sl} {d:D} (h:f ρ=some d) : zb8 f g ρ=some d:=by
 unfold zb8;rw [h];rfl
theorem zc2 {f g:List Sl->Option D} {ρ:List Sl} {r:Option D} (h:f ρ=none) (h':g ρ=r) : zb8 f g ρ=r:=by
 unfold zb8;rw [h];exact h'
theorem zih {f:List Sl->Option (List D)} {ρ:List Sl} {n:Int} (h:f ρ=some [.int n]) (h0:0<=n) (h1:n < 2 ^ 62) : zeg f ρ=some ((List.range n.toNat).map fun (i:Nat)=>D.int i):=by
 unfold zeg;rw [h];show (if -(2 ^ 62)<=n/\n < 2 ^ 62 then some (rng 0 n.toNat) else none)=_;rw [if_pos ⟨by omega,h1⟩,z5o]
 congr 1
 refine List.map_congr_left fun i _=>?_;rw [Int.zero_add]
theorem zeh {cn f:Str} {m:List D->Option D} {fo:List Sl->Option D} {fa:List Sl->Option (List D)} {ρ:List Sl} {ns:List Str} {ds as:List D} (h:fo ρ=some (.ins cn ns ds)) (hn:ns.contains f=false) (h':fa ρ=some as) : zbl cn f m fo fa ρ=m (.ins cn ns ds::as):=by
 unfold zbl;rw [h];show (if cn=cn/\ns.contains f=false then (fa ρ).bind fun as=>m (.ins cn ns ds::as) else none)=_;rw [if_pos ⟨rfl,hn⟩,h'];rfl
theorem zc0 {cn f c':Str} {m:List D->Option D} {fo:List Sl->Option D} {fa:List Sl->Option (List D)} {ρ:List Sl} {ns:List Str} {ds:List D} (h:fo ρ=some (.ins c' ns ds)) (hn:c'≠cn) : zbl cn f m fo fa ρ=none:=by
 unfold zbl;rw [h];show (if c'=cn/\ns.contains f=false then (fa ρ).bind fun as=>m (.ins c' ns ds::as) else none)=_;rw [if_neg fun z=>hn z.1]
noncomputable def itD (z:Int×Int) : D:=.tup [.int z.1,.int z.2]
noncomputable def shD : Option Bool->D
 | none=>.non
 | some b=>.bl b
noncomputable def InN (n:Nat) (its:List (Int×Int)) : Prop:=∀ z∈its,0<=z.1/\z.1 < (n:Int)/\0<=z.2
theorem z4k (bs:List Bool) : zch 2 (.lst (bs.map D.bl)):=fun x hx=>by
 obtain ⟨b,_,rfl⟩:=List.mem_map.mp hx;exact rfl
theorem z4p (bs:List (Option Bool)) : zch 2 (.lst (bs.map shD)):=fun x hx=>by
 obtain ⟨b,_,rfl⟩:=List.mem_map.mp hx
 cases b <;> exact rfl
theorem z4m (z:Int×Int) : zch 2 (itD z):=fun x hx=>by
 simp only [List.mem_cons,List.not_mem_nil,or_false] at hx
 rcases hx with rfl | rfl <;> exact rfl
theorem zuc (its:List (Int×Int)) : zch 3 (.lst (its.map itD)):=fun x hx=>by
 obtain ⟨z,_,rfl⟩:=List.mem_map.mp hx;exact z4m z
theorem zft {es:List (Option Bool)} {i:Int} (h0:0<=i) (h1:i < es.length) : atI (es.map shD) i=some (shD (es.getD i.toNat none)):=zm1 none h0 h1
theorem zg2 {es:List Bool} {i:Int} (h0:0<=i) (h1:i < es.length) : atI (es.map D.bl) i=some (.bl (es.getD i.toNat false)):=zm1 false h0 h1
theorem zhg (e:Option Bool) (b:Bool) : dIs (shD e) (.bl b)=some (.bl (e==some b)):=by
 cases e with
 | none=>rfl
 | some c=>cases b <;> cases c <;> rfl
theorem znz (e:Option Bool) (b:Bool) : zec (shD e) (.bl b)=some (.bl (!(e==some b))):=by
 cases e with
 | none=>rfl
 | some c=>cases b <;> cases c <;> rfl
noncomputable def Prt.toD : Prt->D
 | .inn t=>.tup [.str "in",.int t]
 | .out t=>.tup [.str "out",.int t]
 | .least k its=>.tup [.str "least",.int k,.lst (its.map itD)]
 | .most k its=>.tup [.str "most",.int k,.lst (its.map itD)]
noncomputable def Prt.obj : Prt->D
 | .inn t=>.ins "In" ["thing"] [.int t]
 | .out t=>.ins "Out" ["thing"] [.int t]
 | .least k its=>.ins "Least" ["bound","pieces"] [.int k,.lst (its.map itD)]
 | .most k its=>.ins "Most" ["bound","pieces"] [.int k,.lst (its.map itD)]
noncomputable def Prt.Ok (n:Nat) : Prt->Prop
 | .inn t=>0<=t/\t < (n:Int)
 | .out t=>0<=t/\t < (n:Int)
 | .least _ its=>InN n its/\its.length<=100000
 | .most _ its=>InN n its/\its.length<=100000
theorem z4n (p:Prt) : zch 4 p.toD:=by
 cases p with
 | inn t=>intro x hx; simp only [List.mem_cons,List.not_mem_nil,or_false] at hx; rcases hx with rfl | rfl <;> exact rfl
 | out t=>intro x hx; simp only [List.mem_cons,List.not_mem_nil,or_false] at hx; rcases hx with rfl | rfl <;> exact rfl
 | least k its =>
  intro x hx;simp only [List.mem_cons,List.not_mem_nil,or_false] at hx
  rcases hx with rfl | rfl | rfl
  ·exact rfl
  ·exact rfl
  ·exact zuc its
 | most k its =>
  intro x hx;simp only [List.mem_cons,List.not_mem_nil,or_false] at hx
  rcases hx with rfl | rfl | rfl
  ·exact rfl
  ·exact rfl
  ·exact zuc its
theorem z8d (p:Int->Bool) (its:List (Int×Int)) : ((its.filter fun z=>p z.1).map fun z=>D.int z.2)=((its.filter fun z=>p z.1).map (·.2)).map D.int:=by
 rw [List.map_map];rfl
theorem zmo (p:Int->Bool) (its:List (Int×Int)) : zd9 [.lst ((its.filter fun z=>p z.1).map fun z=>D.int z.2)]=some (.int (ze7 p its)):=by
 rw [z8d,zvb];rfl
theorem zqc : ∀ {bs:List Bool} {us:List Value},zak (bs.map V.bl) us->us=bs.map Value.bool
 | [],_,.nil=>rfl
 | b::bs,_,.cons r t=>by
  rw [zqc t];cases (show _=Value.bool b from r);rfl
theorem z5h (bs:List Bool) : ((List.range bs.length).any fun i=>(bs[i]?).getD false)=bs.any id:=by
 rw [Bool.eq_iff_iff,List.any_eq_true,List.any_eq_true];constructor
 ·rintro ⟨i,hi,e⟩;have hi':=List.mem_range.mp hi;simp only [List.getElem?_eq_getElem hi',Option.getD_some] at e;exact ⟨_,List.getElem_mem hi',e⟩
 ·rintro ⟨b,hb,e⟩;obtain ⟨i,hi,rfl⟩:=List.getElem_of_mem hb;exact ⟨i,List.mem_range.mpr hi,by simp only [List.getElem?_eq_getElem hi,Option.getD_some]; exact e⟩
section
variable {c:Str->Addr} {X:Cx}
theorem z0a {h h':Heap} {o:Obj} (hk:∀ b x,b∉[h.objs.size]->(h.push o).get? b=some x->h'.get? b=some x) : ∀ b x,h.get? b=some x->h'.get? b=some x :=
 fun b x e=>hk b x (fun hm=>by rw [List.mem_singleton.mp hm] at e; exact Nat.lt_irrefl _ (Heap.lt_size e)) (Heap.get?_push_of_some _ e)
theorem zwk (hc:X.calm=true) : zc9 X (.builtin "any") (fun xs H Q=>∃ (p:Addr) (bs:List Bool),xs=[.ref p]/\SqL X.K H p (bs.map V.bl)/\Q (.bl (bs.any id)) H):=by
 intro pins s σ H xs us Q I r h;obtain ⟨l,bs,rfl,hq,q⟩:=h;obtain ⟨u,rfl,rx⟩:=zji r;cases rx;obtain ⟨its,r',pl,hz⟩:=I.list hq;have e:=zqc r';subst e;have hl:=pl.isList;have hlt : l < s.heap.objs.size:=by obtain ⟨_,e,_⟩:=hl; exact Heap.lt_size e
 refine call_any_walk (wpAny_pyIter_list hl ?_)
 refine ⟨s.heap.objs.size,[s.heap.objs.size,l],[s.heap.objs.size],(bs.map Value.bool).toArray.size,_,_,fun i=>(bs[i]?).getD false,rfl,Walks.list (A:=X.A.in1) (I.ok.hd hc) _ l (Nat.ne_of_lt hlt) (bs.map Value.bool).toArray,
  ⟨⟨_,Heap.get?_push_size _ rfl,rfl,rfl⟩,hl.push _⟩,fun i v s' Q' E' hP hQ=>?_,fun h' tk hk=>?_⟩
 ·have hP' : (bs.map Value.bool)[i]?=some v:=by simpa using hP
  obtain ⟨b,e,rfl⟩:=zid hP';simp only [e,Option.getD_some] at hQ;exact wpAny_truthy_bool hQ
 ·have e : ((List.range (bs.map Value.bool).toArray.size).any fun i=>(bs[i]?).getD false)=bs.any id:=by
   rw [List.size_toArray,List.length_map]; exact z5h bs
  rw [e];exact ⟨.bl (bs.any id),H,I.kept (z0a hk),rfl,q⟩
noncomputable def zd0 : List D->Option (List Bool)
 | []=>some []
 | .bl b::ds=>(zd0 ds).map fun r=>b::r
 | _=>none
theorem zqa : ∀ {ds:List D} {bs:List Bool},zd0 ds=some bs->ds=bs.map D.bl
 | [],_,e=>by cases e; rfl
 | .bl b::ds,_,e=>by
  unfold zd0 at e
  cases es : zd0 ds with
  | none=>rw [es] at e; cases e
  | some r=>rw [es] at e; cases e; rw [zqa es]; rfl
 | .int _::_,_,e=>by cases e
 | .non::_,_,e=>by cases e
 | .str _::_,_,e=>by cases e
 | .lst _::_,_,e=>by cases e
 | .tup _::_,_,e=>by cases e
 | .kl _::_,_,e=>by cases e
 | .kt _::_,_,e=>by cases e
 | .dic _ _::_,_,e=>by cases e
 | .ins _ _ _::_,_,e=>by cases e
theorem zqb (bs:List Bool) : zd0 (bs.map D.bl)=some bs:=by
 induction bs with
 | nil=>rfl
 | cons n ns ih=>rw [List.map_cons,zd0,ih]; rfl
theorem zae.bls {G:Gc} {H:Hp} : ∀ {bs:List Bool} {vs:List V},zae G H (bs.map D.bl) vs->vs=bs.map V.bl
 | [],_,h=>h
 | b::bs,_,⟨v,r,e,h1,h2⟩=>by
  subst e;rw [zae.bls h2,show v=V.bl b from h1];rfl
noncomputable def zp0 : List D->Option D
 | [d]=>(lsD d).bind fun ds=>(zd0 ds).map fun bs=>.bl (bs.all id)
 | _=>none
noncomputable def zfs : List D->Option D
 | [d]=>(lsD d).bind fun ds=>(zd0 ds).map fun bs=>.bl (bs.any id)
 | _=>none
theorem zqf {f:List Bool->D} {ds:List D} {d:D} (e:(match ds with | [d]=>(lsD d).bind fun ds=>(zd0 ds).map f | _=>none)=some d) : ∃ d0 xs bs,ds=[d0]/\lsD d0=some xs/\xs=bs.map D.bl/\d=f bs:=by
 split at e
 ·rename_i d0
  cases e1 : lsD d0 with
  | none=>rw [e1] at e; cases e
  | some xs =>
   rw [e1] at e;replace e : (zd0 xs).map f=some d:=e
   cases e2 : zd0 xs with
   | none=>rw [e2] at e; cases e
   | some bs=>rw [e2] at e; cases e; exact ⟨d0,xs,bs,rfl,e1,zqa e2,rfl⟩
 ·cases e
theorem zk0 (hc:X.calm=true) : zkq c X (.builtin "any") zfs:=by
 rintro pins s σ H vs us Q I rv ⟨Hf,ds,d,s0,r,e,k⟩;obtain ⟨d0,xs,bs,rfl,e1,rfl,rfl⟩:=zqf e;obtain ⟨v,ev,r1⟩:=r.one;subst ev;obtain ⟨a,ws,ea,q,rs⟩:=zh8 e1 r1;subst ea;refine zwk hc pins s σ H _ us Q I rv ⟨a,bs,rfl,?_,k _ Hf H (Ext.refl s0) rfl⟩;rw [<- rs.bls];exact s0.seq q
theorem zmg : ∀ ds d,zfs ds=some d->d.scalar=true:=fun ds d e=>by
 obtain ⟨d0,xs,bs,rfl,e1,rfl,rfl⟩:=zqf e;rfl
theorem zv7 (bs:List Bool) : zp0 [.lst (bs.map D.bl)]=some (.bl (bs.all id)):=by
 show (zd0 (bs.map D.bl)).map _=_;rw [zqb];rfl
theorem zm0 (bs:List Bool) : zfs [.lst (bs.map D.bl)]=some (.bl (bs.any id)):=by
 show (zd0 (bs.map D.bl)).map _=_;rw [zqb];rfl
end
inductive Wrd where
 | make | may | never
 deriving DecidableEq
noncomputable def Wrd.s : Wrd->Str
 | .make=>"make"
 | .may=>"may"
 | .never=>"never"
structure Rul where
 w : Wrd
 hd : Int
 ps : List Prt
noncomputable def Rul.hdD (r:Rul) : D:=match r.w with
 | .never=>.non
 | _=>.int r.hd
noncomputable def Rul.toD (r:Rul) : D:=.tup [.str r.w.s,r.hdD,.lst (r.ps.map Prt.toD)]
structure Rul.Ok (n:Nat) (r:Rul) : Prop where
 hd : r.w≠.never->0<=r.hd/\r.hd < (n:Int)
 ps : ∀ p∈r.ps,p.Ok n
 len : r.ps.length<=100000
theorem z4o (r:Rul) : zch 6 r.toD:=by
 intro x hx;simp only [List.mem_cons,List.not_mem_nil,or_false] at hx
 rcases hx with rfl | rfl | rfl
 ·exact rfl
 ·unfold Rul.hdD
  cases r.w <;> exact rfl
 ·intro x hx;obtain ⟨p,_,rfl⟩:=List.mem_map.mp hx;exact z4n p
noncomputable def Rul.bodyLost (r:Rul) (es:List (Option Bool)) (ws:List Bool) : Bool:=r.ps.any fun p=>p.lost es ws
theorem zs7 {α : Type} (f:α->Bool) (xs:List α) : (xs.map fun x=>D.bl (f x))=(xs.map f).map D.bl:=by
 rw [List.map_map];rfl
theorem all_map (f:Prt->Bool) (xs:List Prt) : zp0 [.lst (xs.map fun x=>D.bl (f x))]=some (.bl (xs.all f)):=by
 rw [zs7,zv7,List.all_map];rfl
theorem any_map (f:Prt->Bool) (xs:List Prt) : zfs [.lst (xs.map fun x=>D.bl (f x))]=some (.bl (xs.any f)):=by
 rw [zs7,zm0,List.any_map];rfl
theorem zpt {p q:Int->Bool} : ∀ {its:List (Int×Int)},(∀ z∈its,0<=z.2/\(p z.1=true->q z.1=true))->ze7 p its<=ze7 q its
 | [],_=>Int.le_refl _
 | z::its,h=>by
  have ih:=zpt (its:=its) fun y hy=>h y (List.mem_cons_of_mem _ hy);obtain ⟨h0,h1⟩:=h z List.mem_cons_self;unfold ze7 at ih ⊢
  cases hp : p z.1 with
  | true =>
   have hq:=h1 hp;rw [List.filter_cons_of_pos (by simpa using hp),List.filter_cons_of_pos (by simpa using hq),List.map_cons,List.map_cons,List.sum_cons,List.sum_cons]
   omega
  | false =>
   rw [List.filter_cons_of_neg (by simp [hp])]
   cases hq : q z.1 with
   | true =>
    rw [List.filter_cons_of_pos (by simpa using hq),List.map_cons,List.sum_cons]
    omega
   | false =>
    rw [List.filter_cons_of_neg (by simp [hq])];exact ih
structure zkt (es es':List (Option Bool)) : Prop where
 len : es'.length=es.length
 at' : ∀ i,es.getD i none=none\/es'.getD i none=es.getD i none
structure zjr (ws ws':List Bool) : Prop where
 len : ws'.length=ws.length
 at' : ∀ i,ws.getD i false=true->ws'.getD i false=true
theorem zkt.refl (es:List (Option Bool)) : zkt es es:=⟨rfl,fun _=>.inr rfl⟩
theorem zjr.refl (ws:List Bool) : zjr ws ws:=⟨rfl,fun _ h=>h⟩
theorem Prt.Ok.le {n m:Nat} {p:Prt} (h:p.Ok n) (e:m=n) : p.Ok m:=e ▸ h
theorem z0p {es es':List (Option Bool)} {ws ws':List Bool} {p:Prt} (f:zkt es es') (g:zjr ws ws') (h:p.Ok es.length) (s:p.lost es ws=true) : p.lost es' ws'=true:=by
 have key : ∀ {i:Nat} {b:Bool},(es.getD i none==some b)=true->(es'.getD i none==some b)=true:=fun {i b} e=>by
  rcases f.at' i with z | z
  ·rw [z] at e; cases b <;> cases e
  ·rw [z]; exact e
 cases p with
 | inn t =>
  have s : ((es.getD t.toNat none==some false) || ws.getD t.toNat false)=true:=s;show ((es'.getD t.toNat none==some false) || ws'.getD t.toNat false)=true;rw [Bool.or_eq_true] at s ⊢
  exact s.imp key (g.at' _)
 | out t=>exact key s
 | least k its =>
  have s : ze7 (fun t=>!(es.getD t.toNat none==some false) && !(ws.getD t.toNat false)) its < k:=of_decide_eq_true s;refine decide_eq_true (Int.lt_of_le_of_lt (zpt fun z hz=>⟨(h.1 z hz).2.2,fun e=>?_⟩) s);rw [Bool.and_eq_true] at e ⊢;refine ⟨?_,?_⟩
  ·cases q : (es.getD z.1.toNat none==some false) with
   | false=>rfl
   | true=>rw [key q] at e; exact e.1
  ·cases q : ws.getD z.1.toNat false with
   | false=>rfl
   | true=>rw [g.at' _ q] at e; exact e.2
 | most k its =>
  have s : k < zhr (·==some true) es its:=of_decide_eq_true s;refine decide_eq_true (Int.lt_of_lt_of_le s ?_);rw [zps,zps];exact zpt fun z hz=>⟨(h.1 z hz).2.2,fun e=>key e⟩
noncomputable def Ite (K : PySem.W.Frag) (l : Addr) : It :=
  ⟨fun i H => ∃ xs x, SqL K H l xs/\xs[i]? = some x,
   fun i H v H' => ∃ p x, v = .ref p/\H p = none/\H' = upd H p (.tup [.int i, x])/\(∀ xs, SqL K H l xs->xs[i]? = some x),
   fun i H => ∃ xs, SqL K H l xs/\xs.length<=i⟩
theorem z7x {P:Program} {w:World} {K:PySem.W.Frag} {elts:List Expr} {kx:Nat} {pos:Pos} (e it l:Addr) (ne:e≠it) :
  zg1 P w K (.Tuple elts kx pos) (Ite K l) [e,it] e (fun i h=>(∃ old,IsEnum h e it (i:Int) old)/\h.IsListIter it l i) where
 mem:=by simp
 obj:=fun i h st b hb=>by
  obtain ⟨⟨old,he⟩,⟨o1,e1,_,d1⟩⟩:=st;simp only [List.mem_cons,List.not_mem_nil,or_false] at hb
  rcases hb with rfl | rfl
  ·exact ⟨_,he,fun v q=>by cases q⟩
  ·exact ⟨o1,e1,fun v q=>by rw [d1] at q; cases q⟩
 keep:=fun i h h' st k=>by
  obtain ⟨⟨old,he⟩,h1⟩:=st;exact ⟨⟨old,k e (by simp) _ he⟩,h1.at fun o q=>k it (by simp) o q⟩
 item:=by
  intro X hP hw hK hc i pins s σ H E I hf st hg;subst hP hw hK;obtain ⟨⟨old,he⟩,h1⟩:=st;obtain ⟨xs,x,q1,hx⟩:=hg;obtain ⟨its1,r1,p1,z1⟩:=I.list q1;obtain ⟨u1,e1,ru1⟩:=r1.get hx;refine wpAny_pyNext_enum_item he h1 p1.isList (x:=u1) (by simpa using e1) ne fun h' a1 a3 a5 a6 a7=>⟨_,rfl,?_⟩
  refine wpAny_letOwnedTupleGo_enum (s:={ s with heap:=h',toks:=s.toks + 1 }) a1 fun h'' b1 b2=>?_
  have lt : ∀ b∈[e,it],b < s.heap.objs.size:=fun b hb=>by
   simp only [List.mem_cons,List.not_mem_nil,or_false] at hb
   rcases hb with rfl | rfl
   ·exact Heap.lt_size he
   ·obtain ⟨o,e,_⟩:=h1; exact Heap.lt_size e
  have kk : ∀ b o,b∉[e,it]->s.heap.get? b=some o->h''.get? b=some o:=fun b o hb e=>by
   simp only [List.mem_cons,List.not_mem_nil,or_false,not_or] at hb;obtain ⟨n1,n2⟩:=hb;exact (b2.2 b n1).trans (a7 b o n1 n2 e)
  have fr : H s.heap.objs.size=none:=I.hok.fresh (Nat.le_refl _)
  have I1 : Inv X pins σ H { s with heap:=h'',toks:=s.toks + 1 }:=I.turnedMany (t':=s.toks + 1) kk hf
  have hp : h''.get? s.heap.objs.size=some { cls:=.type "tuple",data:=.seq #[.int i s.toks,u1] }:=(b2.2 _ (Nat.ne_of_gt (lt e (by simp)))).trans a5
  have I2 : Inv X pins σ (upd H s.heap.objs.size (.tup [.int i,x])) { s with heap:=h'',toks:=s.toks + 1 } :=
   I1.track (I.fpOk (Nat.le_refl _) fr) ⟨(by show 2<=sizeLine; decide),[.int i s.toks,u1],.cons ⟨s.toks,rfl⟩ (.cons ru1 .nil),⟨_,hp,rfl,_,rfl⟩⟩
  refine ⟨.ref s.heap.objs.size,_,I2,rfl,⟨_,x,rfl,fr,rfl,fun xs' h=>by rw [I.list_inj h q1]; exact hx⟩,⟨⟨u1,?_⟩,?_⟩,fun b hb=>?_⟩
  ·have : ((i + 1 : Nat) : Int)=(i:Int) + 1:=by push_cast; rfl
   rw [this]; exact b1
  ·exact a3.at fun o q=>(b2.2 it (Ne.symm ne)).trans q
  ·rw [zar (Nat.ne_of_lt (lt b hb))];exact (hf b hb).1
 done:=by
  intro X hP hw hK hc i pins s σ H E I hf st hg;subst hP hw hK;obtain ⟨⟨old,he⟩,h1⟩:=st;obtain ⟨xs,q1,hend⟩:=hg;obtain ⟨its1,r1,p1,z1⟩:=I.list q1;have l1':=r1.length;refine wpAny_pyNext_enum_end (I.ok.hd hc) he h1 p1.isList (by simp; omega) fun h' kk=>⟨rfl,I.turnedMany (t':=s.toks) (ch:=[e,it]) (fun b o hb q=>?_) hf⟩;simp only [List.mem_cons,List.not_mem_nil,or_false,not_or] at hb;exact kk b o hb.2 q
 self:=fun _ _ _ _ _ st h=>by obtain ⟨⟨old,he⟩,_⟩:=st; exact wpAny_pyIter_enum he h
section
variable {X:Cx} {elts:List Expr} {kx:Nat} {tpos:Pos}
noncomputable def zzc (K:PySem.W.Frag) (ta:TA) : TI:=fun σ H R=>ta σ H fun vs H1=>∃ l,vs=[.ref l]/\(∃ xs,SqL K H1 l xs)/\R (Ite K l) H1
theorem z4h {a:Expr} {ta:TA} {p pos:Pos} (hg:Gl X "enumerate") (hm:X.mg "enumerate"=none) (ha:PA X [a] ta) (hs:starEach [a] X.env=[(false,eval a X.env)]:=by rfl) :
  PI X (.Tuple elts kx tpos) (.Call (.Name "enumerate" p) [a] [] pos) (zzc X.K ta):=by
 intro pins s σ H R I h;refine Call_ (zhk I hg hm boot_enumerate (PyProof.Rows.callWith_type1 (thn (ha pos pins s σ H _ I h) fun us s1 ⟨vs,H1,I1,r1,q1⟩=>?_) (by rw [hs]; rfl) (by rfl)));obtain ⟨l,e,⟨xs,h1⟩,q⟩:=q1;subst e;obtain ⟨u,rfl,ru⟩:=zji r1;cases ru;obtain ⟨its1,r1,p1,z1⟩:=I1.list h1;refine call_enumerate_list p1.isList fun h' a1 a4 a6 a7=>?_;refine wpAny_pyIter_enum a1 ?_
 have I2 : Inv X pins σ H1 { s1 with heap:=h' }:=I1.kept (t':=s1.toks) a7
 refine ⟨_,[s1.heap.objs.size + 1,s1.heap.objs.size],_,_,H1,rfl,I2,z7x _ _ _ (Nat.succ_ne_self _),⟨⟨_,a1⟩,a4⟩,fun b hb=>?_,q⟩;simp only [List.mem_cons,List.not_mem_nil,or_false] at hb
 have hle : s1.heap.objs.size<=b:=by
  rcases hb with rfl | rfl
  ·exact Nat.le_add_right _ _
  ·exact Nat.le_refl _
 exact I1.fpOk hle (I1.hok.fresh hle)
end
noncomputable def zfl : Nat->List D->List D
 | _,[]=>[]
 | i,x::xs=>.tup [.int i,x]::zfl (i + 1) xs
theorem ztp : ∀ (i:Nat) (xs:List D),(zfl i xs).length=xs.length
 | _,[]=>rfl
 | i,x::xs=>by rw [zfl,List.length_cons,List.length_cons,ztp]
theorem zoy : ∀ (k:Nat) (xs:List D) (i:Nat),(zfl k xs)[i]?=(xs[i]?).map fun x=>.tup [.int (k + i : Nat),x]
 | _,[],_=>rfl
 | k,x::xs,0=>rfl
 | k,x::xs,i + 1=>by rw [zfl,List.getElem?_cons_succ,List.getElem?_cons_succ,zoy (k + 1) xs i,show k + 1 + i=k + (i + 1) by omega]
noncomputable def znp : List D->Option (List D)
 | [x]=>(lsD x).map (zfl 0)
 | _=>none
noncomputable def zfi (f:List Sl->Option (List D)) (ρ:List Sl) : Option (List D):=(f ρ).bind znp
section
variable {c:Str->Addr} {X:Cx} {a:Expr} {pos p:Pos}
theorem znl {f:List Sl->Option (List D)} {elts:List Expr} {kx:Nat} {tpos:Pos} (hg:Gl X "enumerate") (hm:X.mg "enumerate"=none) (ha:DA c X [a] f) (hs:starEach [a] X.env=[(false,eval a X.env)]:=by rfl) :
  DI c X (.Tuple elts kx tpos) (.Call (.Name "enumerate" p) [a] [] pos) (zfi f) :=
 PI.imp (z4h hg hm ha.pa hs) fun σ H R q_=>by
  obtain ⟨Hf0,H0,Hf,ρ,ds,st,ef,k⟩:=q_;unfold zfi at ef
  cases e1 : f ρ with
  | none=>rw [e1] at ef; cases ef
  | some as =>
   rw [e1] at ef;replace ef : znp as=some ds:=ef;refine ⟨Hf0,H0,Hf,ρ,as,st,e1,fun vs Hf' H' x r=>?_⟩;unfold znp at ef;split at ef
   ·rename_i dx
    cases ex : lsD dx with
    | none=>rw [ex] at ef; cases ef
    | some xs =>
     rw [ex] at ef;cases ef;obtain ⟨v,ev,rv⟩:=r.one;obtain ⟨l1,w1,el1,q1,r1⟩:=zh8 ex rv;subst el1;refine ⟨l1,ev,⟨w1,x.s.seq q1⟩,k _ Hf' H' x fun Hf2 H2 f2 s2 i=>?_⟩;have g1 : SqL X.K H2 l1 w1:=(f2.trans s2).seq q1;have h1:=r1.length;refine ⟨fun d ed=>?_,fun ei=>⟨w1,g1,by rw [ztp] at ei; omega⟩⟩;rw [zoy] at ed
     cases hx : xs[i]? with
     | none=>rw [hx] at ed; cases ed
     | some x' =>
      rw [hx] at ed;cases ed;obtain ⟨u1,eu1,ru1⟩:=r1.get hx;refine ⟨⟨w1,u1,g1,eu1⟩,fun z H3 ⟨pp,z1,ez,hp,eh,y1⟩=>?_⟩;subst ez eh;have a1:=y1 w1 g1;rw [eu1] at a1; cases a1;exact ⟨upd Hf2 pp (.tup [.int i,u1]),Ext.new s2 hp,pp,[.int i,u1],rfl,zbb,.cons (by rw [Nat.zero_add]; rfl) (.cons (ru1.up (f2.trans (zbz (s2.free hp)))) .nil)⟩
   ·cases ef
end
noncomputable def zr0 (ks:List Key) (k:Key) : Bool:=ks.any fun j=>decide (j=k)
noncomputable def zo6 {α : Type} (ks:List Key) (xs:List α) (k:Key) (x:α) : List α:=if zr0 ks k=true then List.zipWith (fun j y=>if j=k then x else y) ks xs else xs++[x]
theorem zae.zipW {G:Gc} {H:Hp} {k:Key} {d:D} {v:V} (q:Rep G H d v) : ∀ {ks:List Key} {ds:List D} {vs:List V},zae G H ds vs->zae G H (List.zipWith (fun j y=>if j=k then d else y) ks ds) (List.zipWith (fun j y=>if j=k then v else y) ks vs)
 | [],_,_,_=>.nil
 | _::_,[],_,h=>by cases (show _=[] from h); exact .nil
 | j::ks,x::ds,_,⟨u,r,e,h1,h2⟩=>by
  subst e;rw [List.zipWith_cons_cons,List.zipWith_cons_cons];refine .cons ?_ (zae.zipW q h2)
  by_cases e : j=k
  ·rw [if_pos e,if_pos e]; exact q
  ·rw [if_neg e,if_neg e]; exact h1
theorem zae.put {G:Gc} {H:Hp} {k:Key} {ks:List Key} {d:D} {v:V} {ds:List D} {vs:List V} (r:zae G H ds vs) (q:Rep G H d v) : zae G H (zo6 ks ds k d) (zo6 ks vs k v):=by
 unfold zo6
 by_cases e : zr0 ks k=true
 ·rw [if_pos e,if_pos e]; exact r.zipW q
 ·rw [if_neg e,if_neg e]; exact r.append (.cons q .nil)
section
variable {c:Str->Addr} {X:Cx} {st:Stmt} {e a b i' value:Expr} {pos pos' p':Pos}
end
noncomputable def zfz (i:Nat) (fk fv:List Sl->Option D) (ρ:List Sl) : Option Fl:=(fv ρ).bind fun d=>(fk ρ).bind fun x=>match x with
 | .int k=>(match ρ[i]? with
  | some (.own xs)=>(ixN xs.length k).map fun j=>.nx (ρ.set i (.own (xs.set j d)))
  | _=>none)
 | _=>none
section
variable {c:Str->Addr} {X:Cx} {st:Stmt} {e a b i' value:Expr} {pos pos':Pos}
theorem zya {i:Nat} {fk fv:List Sl->Option D} (hp:PS X st (zjg (tD (Gx c X) fv) (zru (zdg i) (tD (Gx c X) fk) zuj))) : DS c X st (zfz i fk fv):=PS.imp hp fun E σ H q_=>by
 obtain ⟨Hf0,H0,Hf,ρ,o,so,ef,k⟩:=q_;unfold zfz at ef
 cases e1 : fv ρ with
 | none=>rw [e1] at ef; cases ef
 | some d =>
  rw [e1] at ef
  cases e2 : fk ρ with
  | none=>rw [e2] at ef; cases ef
  | some x =>
   rw [e2] at ef
   obtain ⟨ky,rfl⟩ : ∃ ky,x=.int ky:=by cases x <;> first | exact ⟨_,rfl⟩ | cases ef
   replace ef : (match ρ[i]? with | some (.own xs)=>(ixN xs.length ky).map fun j=>Fl.nx (ρ.set i (.own (xs.set j d))) | _=>none)=some o:=ef
   split at ef
   ·rename_i xs es
    cases ej : ixN xs.length ky with
    | none=>rw [ej] at ef; cases ef
    | some j =>
     rw [ej] at ef;cases ef;refine ⟨Hf0,H0,Hf,ρ,d,so,e1,fun v Hf1 H1 x1 r1=>?_⟩;have so1:=so.step x1;obtain ⟨l,el,h0,hf,vs,q,r⟩:=so1.ownAt rfl es;refine ⟨_,el,Hf0,H0,Hf1,ρ,.int ky,so1,e2,fun y Hf2 H2 x2 r2=>?_⟩;have so2:=so1.step x2;have q2:=x2.h _ _ q;refine ⟨l,vs,ky,j,rfl,r2,q2,by rw [<- r.length]; exact ej,?_⟩;exact k σ Hf2 _ (x1.f.trans x2.f) (so2.mutd (s:=.own xs) (s':=.own (xs.set j d)) rfl rfl es el ⟨vs.set j v,zbb,(r.up x2.f).set j (r1.up x2.f)⟩)
   ·cases ef
theorem znm {i:Nat} {fk fv:List Sl->Option D} (ho:PE X e (zdg i)) (hk:DE c X i' fk) (hv:DE c X value fv) (hs:swapsWithSole [.Subscript e i' pos'] value pos.line X.env=pure false:=by rfl) (hw:swappedStores [.Subscript e i' pos'] value X.env=pure none:=by rfl)
  (h1:(assignEach [.Subscript e i' pos'] X.env).map (·.2)=[assign (.Subscript e i' pos') X.env]:=by rfl)
  (ha:∀ v,assign (.Subscript e i' pos') X.env v=(do
   let ov <- holding [v] (eval e X.env)
   let iv <- holding [v,ov] (eval i' X.env)
   standAt pos'
   holding [v,ov,iv] (setItem ov iv v)
   release [v,ov,iv] []):=by intro _; rfl) :
  DS c X (.Assign [.Subscript e i' pos'] value pos) (zfz i fk fv):=zya (z4t hv (z4d ho hk z6o ha) hs hw h1)
end
section
variable {c:Str->Addr} {X:Cx}
open Classical in
end
noncomputable def Ris (xs:Array Nat) : Prop:=xs.toList.Pairwise (· < ·)
theorem zuo {xs:Array Nat} (h:Ris xs) {a b j:Nat} (hab:a < b) (hb:b < xs.size) : xs.getD a j < xs.getD b j:=by
 have h1:=List.pairwise_iff_getElem.mp h a b (by simpa using Nat.lt_trans hab hb) (by simpa using hb) hab;rw [Array.getD,Array.getD,dif_pos (Nat.lt_trans hab hb),dif_pos hb]
 simpa using h1
theorem zo9 {xs:Array Nat} (h:Ris xs) {a b j:Nat} (hab:a<=b) (hb:b < xs.size) : xs.getD a j<=xs.getD b j:=by
 rcases Nat.eq_or_lt_of_le hab with e | e
 ·subst e; exact Nat.le_refl _
 ·exact Nat.le_of_lt (zuo h e hb)
theorem zm2 {xs:Array Nat} {j:Nat} (h:Ris xs) : ∀ (fuel lo hi:Nat),lo<=hi->hi<=xs.size->hi - lo<=fuel->(∀ i,i < lo->xs.getD i j < j)->(∀ i,hi<=i->i < xs.size->¬ xs.getD i j < j) ->
  SetTable.below.go xs j fuel lo hi<=xs.size/\(∀ i,i < SetTable.below.go xs j fuel lo hi->xs.getD i j < j)/\∀ i,SetTable.below.go xs j fuel lo hi<=i->i < xs.size->¬ xs.getD i j < j
 | 0,lo,hi,h1,h2,h3,h4,h5=>by
  have e : lo=hi:=by omega
  subst e
  exact ⟨h2,h4,h5⟩
 | fuel + 1,lo,hi,h1,h2,h3,h4,h5=>by
  unfold SetTable.below.go
  by_cases hl : lo < hi
  ·rw [if_pos hl]
   by_cases hm : xs.getD ((lo + hi) / 2) j < j
   ·simp only [hm,if_true];refine zm2 h fuel ((lo + hi) / 2 + 1) hi (by omega) h2 (by omega) (fun i hi'=>?_) h5;exact Nat.lt_of_le_of_lt (zo9 h (by omega) (by omega)) hm
   ·simp only [hm,if_false];refine zm2 h fuel lo ((lo + hi) / 2) (by omega) (by omega) (by omega) h4 fun i hi' hs hc=>?_;exact hm (Nat.lt_of_le_of_lt (zo9 h hi' hs) hc)
  ·rw [if_neg hl];have e : lo=hi:=by omega
   subst e;exact ⟨h2,h4,h5⟩
theorem zm3 {xs:Array Nat} (h:Ris xs) (j:Nat) : SetTable.below xs j<=xs.size/\(∀ i,i < SetTable.below xs j->xs.getD i j < j)/\∀ i,SetTable.below xs j<=i->i < xs.size->¬ xs.getD i j < j :=
 zm2 h xs.size 0 xs.size (Nat.zero_le _) (Nat.le_refl _) (by omega) (fun i hi=>by omega) fun i hi hs=>by omega
theorem zwi {xs:Array Nat} (h:Ris xs) {i:Nat} (hi:i < xs.size) : SetTable.below xs (xs[i] + 1)=i + 1:=by
 obtain ⟨h1,h2,h3⟩:=zm3 h (xs[i] + 1);have e : xs.getD i (xs[i] + 1)=xs[i]:=by rw [Array.getD,dif_pos hi]; rfl
 by_cases hlt : SetTable.below xs (xs[i] + 1)<=i
 ·exact absurd (by rw [e]; omega) (h3 i hlt hi)
 ·by_cases hgt : i + 1 < SetTable.below xs (xs[i] + 1)
  ·have a:=h2 (i + 1) hgt;have b:=zuo h (j:=xs[i] + 1) (show i < i + 1 by omega) (by omega);rw [e] at b;omega
  ·omega
theorem zwj {xs:Array Nat} (h:Ris xs) : SetTable.below xs 0=0:=by
 obtain ⟨h1,h2,h3⟩:=zm3 h 0
 by_cases e : 0 < SetTable.below xs 0
 ·have:=h2 0 e; omega
 ·omega
theorem z5m {xs:Array Nat} (h:Ris xs) {j:Nat} (hn:xs[SetTable.below xs j]?≠some j) : Ris (SetTable.insertAt xs (SetTable.below xs j) j):=by
 obtain ⟨h1,h2,h3⟩:=zm3 h j;unfold Ris SetTable.insertAt;have g : ∀ i,(hi:i < xs.size)->xs.getD i j=xs[i]:=fun i hi=>by rw [Array.getD,dif_pos hi]; rfl
 rw [Array.toList_append,Array.toList_push,Array.toList_extract,Array.toList_extract];simp only [List.extract_eq_drop_take,Nat.sub_zero,List.drop_zero]
 have hlt : ∀ x∈xs.toList.take (SetTable.below xs j),x < j:=fun x hx=>by
  obtain ⟨i,hi,e⟩:=List.mem_take_iff_getElem.mp hx;have hi' : i < SetTable.below xs j:=by omega
  have:=h2 i hi';rw [g i (by omega)] at this;rw [<- e]
  simpa using this
 have hgt : ∀ x∈xs.toList.drop (SetTable.below xs j),j < x:=fun x hx=>by
  obtain ⟨i,hi,e⟩:=List.mem_drop_iff_getElem.mp hx;have hs : SetTable.below xs j + i < xs.size:=by simpa [Nat.add_comm] using hi
  have a:=h3 (SetTable.below xs j + i) (by omega) hs;rw [g _ hs] at a;have ex : x=xs[SetTable.below xs j + i]:=by rw [<- e]; simp
  rw [ex]
  rcases Nat.lt_or_ge j xs[SetTable.below xs j + i] with q | q
  ·exact q
  ·exfalso;have ej : xs[SetTable.below xs j + i]=j:=by omega
   have hb : SetTable.below xs j < xs.size:=by omega
   have b:=zo9 h (j:=j) (show SetTable.below xs j<=SetTable.below xs j + i by omega) hs;rw [g _ hs,g _ hb,ej] at b;have c:=h3 (SetTable.below xs j) (Nat.le_refl _) hb;rw [g _ hb] at c;exact hn (by rw [Array.getElem?_eq_getElem hb]; congr 1; omega)
 have ed : List.take (xs.size - SetTable.below xs j) (List.drop (SetTable.below xs j) xs.toList)=List.drop (SetTable.below xs j) xs.toList:=List.take_of_length_le (by simp);rw [ed];refine List.pairwise_append.mpr ⟨List.pairwise_append.mpr ⟨List.Pairwise.sublist (List.take_sublist _ _) h,by simp,fun a ha b hb=>?_⟩,List.Pairwise.sublist (List.drop_sublist _ _) h,fun a ha b hb=>?_⟩
 ·have : b=j:=by simpa using hb
  subst this; exact hlt a ha
 ·rcases List.mem_append.mp ha with ha | ha
  ·exact Nat.lt_trans (hlt a ha) (hgt b hb)
  ·have : a=j:=by simpa using ha
   subst this; exact hgt b hb
theorem z5n (n:Nat) : Ris (Array.range n):=by
 unfold Ris;rw [Array.toList_range];exact List.pairwise_lt_range
theorem zu6 {t:SetTable} {j:Nat} (h:t.slot j=.empty\/t.slot j=.dummy) : t.place[SetTable.below t.place j]?≠some j:=fun e=>by
 have : t.slot j=.live (SetTable.below t.place j):=by
  unfold SetTable.slot;simp only [e,beq_self_eq_true,if_true]
 rw [this] at h
 rcases h with h | h <;> cases h
theorem zo5 {t:SetTable} {h:Int} : ∀ (fuel:Nat) (p:SetTable.Probe) {j:Nat} {d:Option Nat},(∀ d',p.dummy=some d'->t.place[SetTable.below t.place d']?≠some d')->SetTable.probe.go t (fun _=>h + 1) h fuel p=some (.empty j d) ->
  t.place[SetTable.below t.place j]?≠some j/\∀ d',d=some d'->t.place[SetTable.below t.place d']?≠some d'
 | 0,_,_,_,_,e=>by cases e
 | fuel + 1,p,j,d,hd,e=>by
  unfold SetTable.probe.go at e;split at e
  ·rename_i hs;cases e;exact ⟨zu6 (.inl hs),hd⟩
  ·rename_i hs;refine zo5 fuel _ (fun d' q=>?_) e
   have : d'=p.j:=by
    unfold SetTable.advance at q;split at q
    ·exact (Option.some.inj q).symm
    ·exact (Option.some.inj q).symm
   subst this;exact zu6 (.inr hs)
  ·rename_i i hs;split at e
   ·cases e
   ·refine zo5 fuel _ (fun d' q=>hd d' ?_) e;unfold SetTable.advance at q
    split at q <;> exact q
theorem zyu {t:SetTable} {h:Int} {j:Nat} {w:Bool} (e:t.freeSlot h=some (j,w)) : t.place[SetTable.below t.place j]?≠some j:=by
 unfold SetTable.freeSlot at e;split at e
 ·rename_i j' d hp;obtain ⟨h1,h2⟩:=zo5 _ _ (fun d' q=>by cases q) hp
  cases d with
  | none=>cases e; exact h1
  | some d'=>cases e; exact h2 _ rfl
 ·cases e
theorem zmn (t:SetTable) (n:Nat) : Ris (t.standIn n).place/\(t.standIn n).led=t.led:=⟨z5n n,rfl⟩
theorem z3o {t:SetTable} (n:Nat) (h:Ris t.place) : Ris (t.orStandIn n).place/\(t.orStandIn n).led=t.led:=by
 unfold SetTable.orStandIn;split
 ·exact ⟨h,rfl⟩
 ·exact zmn t n
theorem z0h {t:SetTable} (es:Array (Int×Value)) (h:Int) (x:Value) (hr:Ris t.place) : Ris (layNew t es h x).2.1.place/\(layNew t es h x).2.1.led=t.led:=by
 unfold layNew;split
 ·rename_i slot wd hf;exact z3o (t:=(t.put slot).1) _ (z5m hr (zyu hf))
 ·exact zmn t _
theorem z0d {mask finger moves:Nat} {led plain:Bool} {hashes:Array Int} {t':SetTable} {order:Array Nat} (e:SetTable.laid mask finger moves led plain hashes=some (t',order)) : Ris t'.place/\t'.led=led:=by
 unfold SetTable.laid at e
 cases ho : SetTable.layClean mask hashes with
 | none=>rw [ho] at e; cases e
 | some owner =>
  rw [ho] at e;cases e;refine ⟨?_,rfl⟩;unfold Ris;show List.Pairwise _ (List.map _ _);rw [List.pairwise_map,List.pairwise_filterMap];refine List.Pairwise.imp (fun {a b} hab=>?_) List.pairwise_lt_range;intro p hp q hq
  cases ha : owner.getD a none with
  | none=>rw [ha] at hp; cases hp
  | some ka =>
   cases hb : owner.getD b none with
   | none=>rw [hb] at hq; cases hq
   | some kb=>rw [ha] at hp; rw [hb] at hq; cases hp; cases hq; exact hab
theorem z5j {t:SetTable} (es:Array (Int×Value)) (wanted:Nat) : Ris (relayAll t es wanted).2.1.place/\(relayAll t es wanted).2.1.led=t.led:=by
 unfold relayAll;split
 ·rename_i t' order hl;have hr : Ris t'.place/\t'.led=t.led:=z0d hl;dsimp only;split
  ·exact hr
  ·exact zmn t _
 ·exact zmn t _
noncomputable def zco (P:Program) (w:World) (h:Heap) (a:Addr) (led:Bool) (S:Int->Bool) (n:Nat) : Prop :=
 ∃ o ents ep tb,h.get? a=some o/\o.ExactSet/\o.data=.set ents ep tb/\ElemsOf (intKind P w) ents.toList/\(∀ k,S k=true↔∃ e∈ents.toList,(intKind P w).is k e.2=true)
  /\ ents.size < scanBound/\tb.fits ents.size=true/\ents.size=n/\Ris tb.place/\tb.led=led
section
variable {P:Program} {w:World} {A:Around} {E:Value->Shared->Prop} {s:Shared}
theorem zco.stay {h h':Heap} {a:Addr} {led:Bool} {S:Int->Bool} {n:Nat} (q:zco P w h a led S n) (k:∀ o,h.get? a=some o->h'.get? a=some o) : zco P w h' a led S n:=by
 obtain ⟨o,ents,ep,tb,ho,r⟩:=q;exact ⟨o,ents,ep,tb,k o ho,r⟩
theorem zco.congr {h:Heap} {a:Addr} {led:Bool} {S S':Int->Bool} {n n':Nat} (q:zco P w h a led S n) (e:∀ k,S k=S' k) (en:n=n') : zco P w h a led S' n':=by
 have : S=S':=funext e;subst this en;exact q
theorem zuz {h:Heap} {a:Addr} {o:Obj} {ents ents':Array (Int×Value)} {ep:Nat} {tb tb':SetTable} {led:Bool} {S:Int->Bool} (ho:h.get? a=some o) (hex:o.ExactSet) (hd:o.data=.set ents ep tb)
  (hel:ElemsOf (intKind P w) ents'.toList) (hm:∀ k,S k=true↔∃ e∈ents'.toList,(intKind P w).is k e.2=true) (hb:ents'.size < scanBound) (hf:tb'.fits ents'.size=true) (hr:Ris tb'.place) (hled:tb'.led=led) :
  (h.update a (Obj.putSet ents' tb')).get? a=some { o with data:=.set ents' (ep + 1) tb' }/\zco P w (h.update a (Obj.putSet ents' tb')) a led S ents'.size:=by
 have g1:=(SetOf_store (knd:=intKind P w) ho hex hd hel hm hb hf).1;exact ⟨g1,_,ents',ep + 1,tb',g1,hex,rfl,hel,hm,hb,hf,rfl,hr,hled⟩
theorem zpz {g:Bool->Sem Unit} (hg:∀ (b:Bool) (s₁:Shared) (Q':Unit->Shared->Prop),Q' () s₁->wpAny (model P w) A (g b) Q' E s₁) {a:Addr} {o:Obj} {ents ents1:Array (Int×Value)} {ep:Nat} {tb tb1:SetTable} {led:Bool} {S:Int->Bool}
  (ho:s.heap.get? a=some o) (hex:o.ExactSet) (hd:o.data=.set ents ep tb) (hel:ElemsOf (intKind P w) ents1.toList) (hm:∀ k,S k=true↔∃ e∈ents1.toList,(intKind P w).is k e.2=true)
  (hb:ents1.size < scanBound) (hf:tb1.fits ents1.size=true) (hr:Ris tb1.place) (hled:tb1.led=led) {dm:Bool} {R:Option Bool->Shared->Prop}
  (h:∀ h',Heap.SameBut a s.heap h'->zco P w h' a led S ents1.size->R (some true) { s with heap:=h' }) :
  wpAny (model P w) A (do
    storeSet a ents1 tb1
    if (!dm && tb1.tooFull)=true then do
      g (relayAll tb1 ents1 (SetTable.grown ents1.size)).2.2
      storeSet a (relayAll tb1 ents1 (SetTable.grown ents1.size)).1 (relayAll tb1 ents1 (SetTable.grown ents1.size)).2.1
      pure (some true)
     else pure (some true)) R E s:=by
 refine wpAny_bind (wpAny_storeSet_of ho hd ?_ (fits_of_scanBound hb));obtain ⟨ho1,q1⟩:=zuz (P:=P) (w:=w) ho hex hd hel hm hb hf hr hled;have sb:=Heap.SameBut.update s.heap a (Obj.putSet ents1 tb1);split
 ·have pp:=relayAll_perm tb1 ents1 (SetTable.grown ents1.size);have ff:=relayAll_fits tb1 ents1 (SetTable.grown ents1.size);have rr:=z5j (t:=tb1) ents1 (SetTable.grown ents1.size);generalize relayAll tb1 ents1 (SetTable.grown ents1.size)=z at pp ff rr ⊢;obtain ⟨ents2,tb2,gv⟩:=z;dsimp only at pp ff rr ⊢;have zz : ents2.size=ents1.size:=by rw [<- Array.length_toList,pp.length_eq,Array.length_toList]
  refine wpAny_bind (hg _ _ _ (wpAny_bind (wpAny_storeSet_of ho1 rfl ?_ (fits_of_scanBound (by rw [zz]; exact hb)))));have q2:=(zuz (P:=P) (w:=w) (led:=led) (S:=S) ho1 hex rfl (hel.perm pp) (fun k=>(hm k).trans ⟨fun ⟨e,he,q⟩=>⟨e,pp.mem_iff.mpr he,q⟩,fun ⟨e,he,q⟩=>⟨e,pp.mem_iff.mp he,q⟩⟩) (by rw [zz]; exact hb) ff rr.1 (rr.2.trans hled)).2;rw [zz] at q2;exact wpAny_pure (h _ (sb.trans (Heap.SameBut.update _ a _)) q2)
 ·exact wpAny_pure (h _ sb q1)
theorem zv5 {a:Addr} {led:Bool} {S:Int->Bool} {n:Nat} {k:Int} {x:Value} {Q:Bool->Shared->Prop} (hk:(intKind P w).is k x=true) (hx:x.scannable=true) (q:zco P w s.heap a led S n) (room:n + 1 < scanBound)
  (h:∀ h',Heap.SameBut a s.heap h'->zco P w h' a led (fun k'=>S k' || decide (k'=k)) (if S k then n else n + 1)->Q (!S k) { s with heap:=h' }) : wpAny (model P w) A (setAddHashed a x ((intKind P w).hash k)) Q E s:=by
 obtain ⟨o,ents,ep,tb,ho,hex,hd,hel,hm,hb,hf,hn,hr,hled⟩:=q;unfold setAddHashed setAddHashedIn;refine wpAny_holding (wpAny_bind (wpAny_setState_of ho hd hf ?_));dsimp only;rw [byScan_of hx hb hel,if_pos rfl];unfold setAddByScan;refine wpAny_bind (wpAny_bind (wpAny_rule (wpAny_bind (wpAny_setScan_of hk ho hd hf hel ?_))))
 cases hi : List.findIdx? (fun e=>(intKind P w).is k e.2) ents.toList with
 | some j =>
  dsimp only;obtain ⟨hj,pj,_⟩:=List.findIdx?_eq_some_iff_getElem.mp hi;have sk : S k=true:=(hm k).mpr ⟨ents.toList[j],List.getElem_mem hj,pj⟩;refine wpAny_pure (wpAny_pure ?_)
  have es : s={ s with heap:=s.heap }:=by cases s; rfl
  have fin:=h s.heap (Heap.SameBut.refl a s.heap) ⟨o,ents,ep,tb,ho,hex,hd,hel,fun k'=>by
   rw [Bool.or_eq_true,decide_eq_true_eq,<- hm k'];exact ⟨fun z=>z.elim id (fun e=>e ▸ sk),.inl⟩,hb,hf,by rw [sk]; exact hn,hr,hled⟩
  rw [sk] at fin;rw [es]
  exact fin
 | none =>
  dsimp only
  have sk : S k=false:=by
   cases hs : S k with
   | false=>rfl
   | true =>
    obtain ⟨e,he,pe⟩:=(hm k).mp hs;have:=List.findIdx?_eq_none_iff.mp hi e he;rw [pe] at this;cases this
  have gw : ∀ (b:Bool) (s₁:Shared) (Q':Unit->Shared->Prop),Q' () s₁->wpAny (model P w) A (match b with | true=>rule "set.scan.the-table-gave-way" | false=>pure ()) Q' E s₁ :=
   fun b s₁ Q' hq=>by cases b <;> first | exact wpAny_pure hq | exact wpAny_rule hq
  have pp:=layNew_perm tb ents ((intKind P w).hash k) x;have ff:=layNew_fits tb ents ((intKind P w).hash k) x;have rr:=z0h ents ((intKind P w).hash k) x hr;generalize layNew tb ents ((intKind P w).hash k) x=z at pp ff rr ⊢;obtain ⟨ents1,tb1,dm,gv⟩:=z;dsimp only at pp ff rr ⊢;rw [Array.toList_push] at pp;have z1 : ents1.size=n + 1:=by rw [<- Array.length_toList,pp.length_eq,List.length_append,Array.length_toList,hn]; rfl
  have fin : ∀ h',Heap.SameBut a s.heap h'->zco P w h' a led (fun k'=>S k' || decide (k'=k)) ents1.size->Q true { s with heap:=h' }:=fun h' sb q'=>by
   have:=h h' sb;rw [sk] at this;rw [z1] at q';exact this q'
  refine wpAny_bind (gw _ _ _ ?_);split
  ·refine wpAny_bind ?_;rw [hashByValue_scannable 8 hx];refine wpAny_pure (zpz (led:=led) (S:=fun k'=>S k' || decide (k'=k)) ?_ ho hex hd ((hel.push hk hx).perm pp) (mem_push_iff hk hm pp) (by rw [z1]; exact room) ?_ ?_ ?_ fun h' sb q'=>?_)
   ·exact fun b s₁ Q' hq=>by cases b <;> first | exact wpAny_pure hq | exact wpAny_rule hq
   ·split
    ·exact ff
    ·exact SetTable.fits_plain_off ff
   ·split
    ·exact rr.1
    ·exact rr.1
   ·split
    ·exact rr.2.trans hled
    ·exact rr.2.trans hled
   ·dsimp only;exact wpAny_pure (fin h' sb q')
  ·refine wpAny_bind (wpAny_pure ?_);simp only [↓reduceIte];refine zpz (led:=led) (S:=fun k'=>S k' || decide (k'=k)) ?_ ho hex hd ((hel.push hk hx).perm pp) (mem_push_iff hk hm pp) (by rw [z1]; exact room) ff rr.1 (rr.2.trans hled) fun h' sb q'=>?_
   ·exact fun b s₁ Q' hq=>by cases b <;> first | exact wpAny_pure hq | exact wpAny_rule hq
   ·dsimp only;exact wpAny_pure (fin h' sb q')
end
set_option maxRecDepth 100000
noncomputable def zcs (w:World) : Bool:=!(w.params.followText "set-order")
section
variable {P:Program} {w:World} {A:Around} {R:Result->Shared->Prop} {I:Addr} {fp wr:List Addr} {G:Array GenState->Array GenState->Prop} {n:Nat} {Pv:Nat->Value->Prop} {St:Nat->Shared->Prop}
theorem z74 (W:WalksS P w A.in1 I fp wr G n Pv St) (S:Addr) (hS:S∉fp) {led:Bool} (val:Nat->Int) (hv:∀ i v,Pv i v->∃ t,v=.int (val i) t) (hb:n + 1 < scanBound) :
  ∀ (k i:Nat) (s:Shared),n - i=k->i<=n->St i s->zco P w s.heap S led (fun j=>(firstMet val i).any (·==j)) (firstMet val i).length ->
   (∀ s',Moved (S::wr) G s s'->zco P w s'.heap S led (fun j=>(firstMet val n).any (·==j)) (firstMet val n).length->R (.ok (.ret .none)) s') ->
   codeAny (model P w) A (.builtin "set.update.loop" ⟨[.ref S,.ref I],[]⟩) R s:=by
 have hw : S∉wr:=fun h=>hS (W.sub _ h);have sub : ∀ b∈wr,b∈S::wr:=fun b h=>List.mem_cons_of_mem _ h;intro k
 induction k with
 | zero =>
  intro i s hk hi st q fin;obtain rfl : i=n:=by omega
  refine codeAny_builtin F.entry_set_update_loop ?_;rw [Around.under_plainId F.plain_set_update_loop _];show wpAny _ A.in1 (pyNext (.ref I) >>= _) _ _ s;refine wpAny_bind (W.done s _ _ st fun s' m=>?_);show wpAny _ A.in1 (ret Value.none) _ _ s'
  exact wpAny_pure (fin s' (m.mono sub) (q.stay fun o e=>m.heap S o hw e))
 | succ k ih =>
  intro i s hk hi st q fin;have lt : i < n:=by omega
  refine codeAny_builtin F.entry_set_update_loop ?_;rw [Around.under_plainId F.plain_set_update_loop _];show wpAny _ A.in1 (pyNext (.ref I) >>= _) _ _ s;refine wpAny_bind (W.item i s _ _ lt st fun v s' hP st' m=>?_);obtain ⟨t,rfl⟩:=hv i v hP;have q1:=q.stay fun o e=>m.heap S o hw e;show wpAny _ A.in1 (holding [Value.int (val i) t] (setAdd S (.int (val i) t)) >>= _) _ _ s';refine wpAny_bind (wpAny_holding ?_);unfold setAdd;refine wpAny_holding (wpAny_bind ((intKind P w).pyHash (k:=val i) (intKind_is _ _ _ _) ?_));have room : (firstMet val i).length + 1 < scanBound:=by have:=firstMet_length_le val i; omega
  refine zv5 (s:={ s' with toks:=s'.toks + 1 }) (k:=val i) (intKind_is _ _ _ _) rfl q1 room fun h' sb q2=>?_
  have q3 : zco P w h' S led (fun j=>(firstMet val (i + 1)).any (·==j)) (firstMet val (i + 1)).length:=q2.congr (fun j=>by rw [firstMet_succ,step_any]) (by rw [firstMet_succ,step_length]);refine wpAny_pure ⟨plainId_quiet F.plain_set_update_loop _,ih (i + 1) _ (by omega) lt (W.frame _ s' _ _ st' (Nat.le_succ _) fun b hb' o e=>?_) q3 fun s2 m2 q4=>?_⟩
  ·rw [sb.2 b fun h=>hS (by rw [<- h]; exact hb')]; exact e
  ·refine fin s2 (Moved.trans W.gtrans ((m.mono sub).then_heap (Nat.le_succ _) fun b o hb' e=>?_) m2) q4;rw [sb.2 b fun h=>hb' (by rw [h]; exact List.mem_cons_self)]; exact e
end
section
variable {P:Program} {w:World} {A:Around} {E:Value->Shared->Prop} {s:Shared}
noncomputable abbrev zez (led:Bool) : Obj:={ cls:=.type "set",dict:=none,data:=.set #[] 0 (.fresh 0 0 led) }
theorem z6q (a:Value) {Q:Value->Shared->Prop} (h:Q (.ref s.heap.objs.size) { s with heap:=s.heap.push (zez (zcs w)) }) :
  codeAny (model P w) A (.call (.builtin "set.__new__") ⟨[.type "set",a],[]⟩) (wants Q E) s:=by
 refine codeAny_of_tree ?_
 show wpAny _ A.in1 (do checkBuiltinCall "set.__new__" ⟨[.type "set",a],[]⟩; again (.builtin "set.__new__" ⟨[.type "set",a],[]⟩)) _ _ s
 refine wpAny_bind (wpAny_of_eq (F.newCall_set_1 a) (wpAny_pure ⟨plainId_quiet F.plain_set_new _,codeAny_builtin F.entry_set_new ?_⟩));rw [Around.under_plainId F.plain_set_new _];unfold Builtin.«set.__new__» Builtin.Frozenset.newClass;have hsub:=sub_set_self;obtain ⟨hp,g,d,tk,os⟩:=s;dsimp only
 wp_walk
 refine wpAny_askSetting (wpAny_pure ?_);dsimp only;simp only [newObj];refine wpAny_bind (wpAny_alloc (wpAny_pure ?_));exact wpAny_pure h
theorem z1x (h:Heap) (led:Bool) : zco P w (h.push (zez led)) h.objs.size led (fun _=>false) 0 :=
 ⟨_,#[],0,_,Heap.get?_push_size _ rfl,⟨rfl,rfl,rfl⟩,rfl,fun e he=>by simp at he,fun k=>by simp,by decide,rfl,rfl,by unfold Ris; simp [SetTable.fresh],rfl⟩
end
set_option maxRecDepth 100000
section
variable {P:Program} {w:World} {A:Around} {E:Value->Shared->Prop} {s:Shared}
set_option maxHeartbeats 8000000 in
theorem zwp {l:Addr} {items:Array Value} {ns:List Int} {Q:Value->Shared->Prop} (hh:A.handled=none) (hl:s.heap.IsList l items) (hi:IntsAre items.toList ns) (hb:items.size + 1 < scanBound)
  (h:∀ (h':Heap) (tk:Nat),zco P w h' s.heap.objs.size (zcs w) (fun j=>(firstMet (fun i=>ns.getD i 0) items.size).any (·==j)) (firstMet (fun i=>ns.getD i 0) items.size).length ->
   (∀ b o,b < s.heap.objs.size->s.heap.get? b=some o->h'.get? b=some o)->s.toks<=tk->Q (.ref s.heap.objs.size) { s with heap:=h',toks:=tk }) :
  wpAny (model P w) A (call (.type "set") [.ref l]) Q E s:=by
 obtain ⟨c,tl,hmro⟩:=F.called_set.mro;have hmade:=F.called_set.made;have hsub:=F.called_set.sub;refine wpAny_call (codeAny_of_tree ?_);show wpAny _ _ (callAny (.type "set") _) _ _ _;refine wpAny_pure ⟨Code.quiet_builtin _ (by decide +kernel),codeAny_builtin F.entry_type_call ?_⟩;rw [Around.under_plain (weight_type_call_type "set" [.ref l] []) rfl];have h1:=F.called_set.notType;have h2:=F.called_set.canCreate;have hct:=F.typeCall_set_1 (.ref l)
 repeat (any_goals (first | assumption | wp_step))
 refine codeAny_mono (z6q (.ref l) (E:=E) (Q:=fun ob s₁=>ob=.ref s.heap.objs.size/\s₁={ s with heap:=s.heap.push (zez (zcs w)) }) ⟨rfl,rfl⟩) fun r s₁ hr=>?_
 cases r with
 | error e=>exact hr
 | ok fl =>
  cases fl with
  | ret ob =>
   obtain ⟨rfl,rfl⟩:=hr;have g0 : (s.heap.push (zez (zcs w))).get? s.heap.objs.size=some (zez (zcs w)):=Heap.get?_push_size _ rfl
   have hT : Shared.TypeIs { s with heap:=s.heap.push (zez (zcs w)) } (.ref s.heap.objs.size) "set":=⟨_,g0,rfl⟩
   have hli:=F.called_set.init.lookup;have hbi:=F.called_set.init.bind (.ref s.heap.objs.size)
   repeat (any_goals (first | assumption | wp_step))
   refine codeAny_mono (codeAny_call_builtin (R:=wants (fun r s₂=>r=.none/\∃ h' tk,s₂={ s with heap:=h',toks:=tk }/\s.toks<=tk /\
     zco P w h' s.heap.objs.size (zcs w) (fun j=>(firstMet (fun i=>ns.getD i 0) items.size).any (·==j)) (firstMet (fun i=>ns.getD i 0) items.size).length /\
     (∀ b o,b < s.heap.objs.size->s.heap.get? b=some o->h'.get? b=some o)) E) F.called_set.init.plain F.entry_set_init (check_set_init_1 hT ?_)) fun r₂ s₂ hr₂=>?_
   ·obtain ⟨⟨oc,od,odt,os⟩,hol,hcl,nl,hdl⟩:=hl;simp only at hcl hdl;subst hcl hdl;have hol' : (s.heap.push (zez (zcs w))).get? l=some { cls:=.type "list",dict:=od,data:=.seq items nl,slots:=os }:=Heap.get?_push_of_some _ hol;have k1:=F.sub_list_set;have k2:=F.sub_list_frozenset;have k3 : (Value.type "list" == Value.type "dict")=false:=by decide
    have hl1 : (s.heap.push (zez (zcs w))).IsList l items:=⟨_,hol',rfl,nl,rfl⟩;unfold Builtin.«set.__init__» noKeywords Builtin.Frozenset.updateFrom;generalize hPI : pyIter=PI
    wp_walk
    subst hPI;refine wpAny_pyIter_list hl1 (wpAny_bind (wpAny_runValue ?_));have lt : l < s.heap.objs.size:=Heap.lt_size hol;have hh3 : A.in1.in1.in1.handled=none:=by simp [hh]
    have ne1 : l≠(s.heap.push (zez (zcs w))).objs.size:=by rw [Heap.size_push]; exact Nat.ne_of_lt (Nat.lt_succ_of_lt lt)
    have nin : s.heap.objs.size∉[(s.heap.push (zez (zcs w))).objs.size,l]:=by
     rw [Heap.size_push];simp only [List.mem_cons,List.not_mem_nil,or_false,not_or];exact ⟨Nat.ne_of_lt (Nat.lt_succ_self _),Nat.ne_of_gt lt⟩
    have hv : ∀ (i:Nat) (v:Value),items[i]?=some v->∃ t,v=.int ((fun i=>ns.getD i 0) i) t:=fun i v hv=>IntsAre.int_at hi i v (by rw [Array.getElem?_toList]; exact hv);refine z74 (led:=zcs w) ((Walks.list hh3 _ l ne1 items).toS) s.heap.objs.size nin (fun i=>ns.getD i 0) hv hb (items.size - 0) 0 _ (by omega) (Nat.zero_le _) ⟨⟨_,Heap.get?_push_size _ rfl,rfl,rfl⟩,(hl1.push _)⟩ ?hS0 ?hR
    case hS0=>exact ((z1x (P:=P) (w:=w) s.heap (zcs w)).stay fun o e=>Heap.get?_push_of_some _ e).congr (fun _=>rfl) rfl
    case hR =>
     intro s' hm hS';obtain ⟨h',g',d',tk',os'⟩:=s';have eg : g'=s.gens:=hm.gens;have ed : d'=s.drawn:=hm.drawn;have eo : os'=s.os:=hm.os;subst eg ed eo;show wpAny _ _ _ _ _ _;refine wpAny_pure ?_;show wpAny _ _ (ret Value.none) _ _ _;refine wpAny_pure ⟨rfl,h',tk',rfl,hm.toks,hS',fun b o hb' e=>?_⟩;have n2 : b≠(s.heap.push (zez (zcs w))).objs.size:=by rw [Heap.size_push]; exact Nat.ne_of_lt (Nat.lt_succ_of_lt hb')
     refine hm.heap b o ?_ (Heap.get?_push_of_some _ (Heap.get?_push_of_some _ e));simp only [List.mem_cons,List.not_mem_nil,or_false,not_or];exact ⟨Nat.ne_of_lt hb',n2⟩
   ·cases r₂ with
    | error e=>exact hr₂
    | ok fl₂ =>
     cases fl₂ with
     | ret r =>
      obtain ⟨rfl,h',tk,rfl,htk,q',kk⟩:=hr₂
      repeat (any_goals (first | assumption | wp_step))
      exact h _ _ q' kk htk
     | _=>exact hr₂.elim
  | _=>exact hr.elim
end
set_option maxRecDepth 100000
theorem znq {α : Type} : ∀ (l:List α) (i:Nat) (x:α),l[i]?=some x->(x::l.eraseIdx i).Perm l
 | [],_,_,h=>by simp at h
 | y::l,0,x,h=>by simp at h; subst h; simp
 | y::l,i + 1,x,h=>by
  have:=znq l i x (by simpa using h);rw [List.eraseIdx_cons_succ];exact (List.Perm.swap y x _).trans (List.Perm.cons y this)
theorem zub {α : Type} (next:Nat->Nat) : ∀ (fuel k:Nat) (left:List α) (out:Array α),left.length=fuel->(pickOrder.go next fuel k left out).toList.Perm (out.toList++left)
 | 0,k,left,out,h=>by
  obtain rfl : left=[]:=List.length_eq_zero_iff.mp h;unfold pickOrder.go
  simp
 | fuel + 1,k,left,out,h=>by
  unfold pickOrder.go
  have hlt : next k % left.length < left.length:=Nat.mod_lt _ (by omega)
  have hx : left[next k % left.length]?=some left[next k % left.length]:=List.getElem?_eq_getElem hlt;rw [hx];dsimp only
  refine (zub next fuel (k + 1) _ _ (by rw [List.length_eraseIdx_of_lt hlt]; omega)).trans ?_
  rw [Array.toList_push,List.append_assoc];exact List.Perm.append_left _ (znq left _ _ hx)
theorem zo4 {α : Type} (next:Nat->Nat) (xs:Array α) : (pickOrder next xs).toList.Perm xs.toList:=by
 have:=zub next xs.size 0 xs.toList #[] (by simp)
 simpa [pickOrder] using this
section
variable {P:Program} {w:World} {A:Around} {E:Value->Shared->Prop}
theorem zwt {src:Source} {n:Nat} {s:Shared} {Q:Nat->Shared->Prop} (hn:n≠0) (h:∀ i,i < n->Q i { s with drawn:=s.drawn.bump src }) : wpAny (model P w) A (choose src n) Q E s:=fun Γ p hΓ =>
 ⟨hn,h _ (Nat.mod_lt _ (Nat.pos_of_ne_zero hn))⟩
theorem zq8 {α : Type} : ∀ (n:Nat) (xs:List α) {s:Shared} {Q:List α->Shared->Prop},xs.length=n->(∀ ys d,ys.Perm xs->Q ys { s with drawn:=d })->wpAny (model P w) A (drawOrder n xs) Q E s
 | 0,xs,s,Q,hl,h=>by
  obtain rfl : xs=[]:=List.length_eq_zero_iff.mp hl;unfold drawOrder;have:=h [] s.drawn (List.Perm.refl _)
  exact wpAny_pure (by cases s; exact this)
 | n + 1,[],s,Q,hl,h=>by cases hl
 | n + 1,x::xs,s,Q,hl,h=>by
  unfold drawOrder;refine wpAny_bind (zwt (by simp) fun i hi=>?_);have hx : (x::xs)[i]?=some ((x::xs)[i]):=List.getElem?_eq_getElem hi;rw [hx];dsimp only;refine wpAny_bind (zq8 n _ (by rw [List.length_eraseIdx_of_lt hi]; omega) fun ys d hp=>wpAny_pure ?_);exact h _ d ((List.Perm.cons _ hp).trans (znq _ _ _ hx))
end
set_option maxRecDepth 100000
theorem zej : Slot "set_iterator" "__next__" "set_iterator.__next__" :=
 .of (owner:="set_iterator") (n:="__next__") (by rw [typeLookup_type,builtinLookup_eq_fast]; kernel_rfl) (by decide +kernel) (by decide +kernel) (by decide +kernel) (by first | exact .inl (by decide +kernel) | exact .inr (by decide +kernel)) (by rw [isSubtype_type]; kernel_rfl)
theorem zlc : entryFor table "set_iterator.__next__"=some Builtin.«set_iterator.__next__»:=entryFor_of_fast (by kernel_rfl)
theorem zkx (a:Value) : argsOk "set_iterator.__next__" ⟨[a],[]⟩:=by unfold argsOk; kernel_rfl
theorem zu7 : Slot "set_iterator" "__iter__" "set_iterator.__iter__" :=
 .of (owner:="set_iterator") (n:="__iter__") (by rw [typeLookup_type,builtinLookup_eq_fast]; kernel_rfl) (by decide +kernel) (by decide +kernel) (by decide +kernel) (by first | exact .inl (by decide +kernel) | exact .inr (by decide +kernel)) (by rw [isSubtype_type]; kernel_rfl)
theorem zyi : entryFor table "set_iterator.__iter__"=some Builtin.«dict_keyiterator.__iter__» :=
 entryFor_alias (id':="dict_keyiterator.__iter__") (by kernel_rfl) (by first | rfl | decide +kernel | (unfold String.splitOn; simp +decide [String.splitOnAux])) (by decide +kernel) (by kernel_rfl)
theorem zwe (a:Value) : argsOk "set_iterator.__iter__" ⟨[a],[]⟩:=by unfold argsOk; kernel_rfl
noncomputable abbrev zdz (h:Heap) (I:Addr) (first:Value) (i:Nat) (a:Addr) (n ep:Nat) : Prop :=
 h.get? I=some { cls:=.type "set_iterator",dict:=none,data:=.fields #[first,rawInt i,.ref a,rawInt n,rawInt ep],slots:=#[] }
section
variable {P:Program} {w:World} {A:Around} {E:Value->Shared->Prop} {s:Shared}
theorem zu3 {I a:Addr} {slot slot' i n ep:Nat} {o:Obj} {ents:Array (Int×Value)} {tb:SetTable} {v:Value} {Q:Option Value->Shared->Prop} (hI:zdz s.heap I (rawInt slot) i a n ep) (ho:s.heap.get? a=some o) (hd:o.data=.set ents ep tb) (hf:tb.fits ents.size=true) (hn:ents.size=n)
  (hN:∀ (A':Around) (E':Value->Shared->Prop) (R:Option (Value×Nat)->Shared->Prop),R (some (v,slot')) s->wpAny (model P w) A' (setNext a slot i ep) R E' s)
  (hQ:∀ h',zdz h' I (rawInt slot') (i + 1) a n ep->Heap.SameBut I s.heap h'->Q (some v) { s with heap:=h' }) : wpAny (model P w) A (pyNext (.ref I)) Q E s:=by
 have hT : s.TypeIs (.ref I) "set_iterator":=⟨_,hI,rfl⟩;unfold pyNext;refine wpAny_bind (wpAny_attempt (wpAny_callSpecial?_slot (name:=Str.ofString "__next__") hT zej (wpAny_call_entry zej hT zlc ?_ (zkx _))));show wpAny _ _ (fieldsOf (.ref I) >>= _) _ _ s;refine wpAny_bind (wpAny_fieldsOf hI rfl ?_);show wpAny _ _ (setEntries a >>= _) _ _ s;refine wpAny_bind (wpAny_setEntries_of ho hd hf ?_);have e1 : (((ents.size : Nat) : Int) != (n:Int))=false:=by rw [hn]; simp
 show wpAny _ _ (if (((ents.size : Nat) : Int) != (n:Int))=true then _ else _) _ _ s;rw [e1,if_neg Bool.false_ne_true];show wpAny _ _ (setNext a ((slot:Nat) : Int).toNat ((i:Nat) : Int).toNat ((ep:Nat) : Int).toNat >>= _) _ _ s;rw [Int.toNat_natCast,Int.toNat_natCast,Int.toNat_natCast];refine wpAny_bind (hN _ _ _ ?_);refine wpAny_bind (wpAny_setField_rec hI (by simp) fun h1 g1 s1=>?_);refine wpAny_bind (wpAny_setField_rec g1 (by simp) fun h2 g2 s2=>wpAny_pure ⟨v,rfl,wpAny_pure (hQ h2 ?_ (Heap.SameBut.trans s1 s2))⟩);show h2.get? I=_;rw [g2];simp [rawInt]
theorem zu2 {I a:Addr} {slot i n ep:Nat} {o:Obj} {ents:Array (Int×Value)} {tb:SetTable} {Q:Option Value->Shared->Prop} (hh:A.handled=none) (hI:zdz s.heap I (rawInt slot) i a n ep) (ho:s.heap.get? a=some o) (hd:o.data=.set ents ep tb) (hf:tb.fits ents.size=true) (hn:ents.size=n)
  (hN:∀ (A':Around) (E':Value->Shared->Prop) (R:Option (Value×Nat)->Shared->Prop),R none s->wpAny (model P w) A' (setNext a slot i ep) R E' s)
  (hQ:∀ h',Heap.ExtBut I s.heap h'->Q none { s with heap:=h' }) : wpAny (model P w) A (pyNext (.ref I)) Q E s:=by
 have hT : s.TypeIs (.ref I) "set_iterator":=⟨_,hI,rfl⟩;unfold pyNext;refine wpAny_bind (wpAny_attempt (wpAny_callSpecial?_slot (name:=Str.ofString "__next__") hT zej (wpAny_call_entry zej hT zlc ?_ (zkx _))));show wpAny _ _ (fieldsOf (.ref I) >>= _) _ _ s;refine wpAny_bind (wpAny_fieldsOf hI rfl ?_);show wpAny _ _ (setEntries a >>= _) _ _ s;refine wpAny_bind (wpAny_setEntries_of ho hd hf ?_);have e1 : (((ents.size : Nat) : Int) != (n:Int))=false:=by rw [hn]; simp
 show wpAny _ _ (if (((ents.size : Nat) : Int) != (n:Int))=true then _ else _) _ _ s;rw [e1,if_neg Bool.false_ne_true];show wpAny _ _ (setNext a ((slot:Nat) : Int).toNat ((i:Nat) : Int).toNat ((ep:Nat) : Int).toNat >>= _) _ _ s;rw [Int.toNat_natCast,Int.toNat_natCast,Int.toNat_natCast];refine wpAny_bind (hN _ _ _ ?_);refine wpAny_bind (wpAny_setField_rec hI (by simp) fun h1 g1 s1=>?_);show wpAny _ _ (newExc (.type "StopIteration") [] >>= _) _ _ _;refine wpAny_bind ?_;simp only [newExc,newTuple];refine wpAny_bind (wpAny_newObj_type ?_ (by size_fits))
 refine wpAny_bind (m:=firstArgMember _ _) (wpAny_of_eq (a:=Value.none) (by first | rfl | (simp only [firstArgMember]; rfl)) ?_)
 refine wpAny_newObj_type ?_ (by size_fits);simp only [raiseNew];refine wpAny_bind (wpAny_handled ?_);rw [show A.in1.handled=none from hh];refine wpAny_bind (wpAny_pure (wpAny_throw ?_));refine wpAny_bind (wpAny_isInstance (T:="StopIteration") (b:=true) ⟨_,Heap.get?_push_size _ rfl,rfl⟩ isSubtype_stop ?_);exact wpAny_pure (hQ _ ((s1.extBut.push _).push _))
theorem z6u {I a T:Addr} {i n ep pl:Nat} {o:Obj} {ents:Array (Int×Value)} {tb:SetTable} {pls:Array Value} {hx:Int} {v:Value} {Q:Option Value->Shared->Prop} (hI:zdz s.heap I (.ref T) i a n ep) (ho:s.heap.get? a=some o) (hd:o.data=.set ents ep tb) (hf:tb.fits ents.size=true) (hn:ents.size=n)
  (hT:s.heap.get? T=some { cls:=.type "tuple",data:=.seq pls }) (hp:pls[i]?=some (rawInt pl)) (he:ents[pl]?=some (hx,v))
  (hQ:∀ h',zdz h' I (.ref T) (i + 1) a n ep->Heap.SameBut I s.heap h'->Q (some v) { s with heap:=h' }) : wpAny (model P w) A (pyNext (.ref I)) Q E s:=by
 have hTy : s.TypeIs (.ref I) "set_iterator":=⟨_,hI,rfl⟩;unfold pyNext;refine wpAny_bind (wpAny_attempt (wpAny_callSpecial?_slot (name:=Str.ofString "__next__") hTy zej (wpAny_call_entry zej hTy zlc ?_ (zkx _))));show wpAny _ _ (fieldsOf (.ref I) >>= _) _ _ s;refine wpAny_bind (wpAny_fieldsOf hI rfl ?_);show wpAny _ _ (setEntries a >>= _) _ _ s;refine wpAny_bind (wpAny_setEntries_of ho hd hf ?_);have e1 : (((ents.size : Nat) : Int) != (n:Int))=false:=by rw [hn]; simp
 show wpAny _ _ (if (((ents.size : Nat) : Int) != (n:Int))=true then _ else _) _ _ s;rw [e1,if_neg Bool.false_ne_true];show wpAny _ _ (seqItems? (.ref T) >>= _) _ _ s;refine wpAny_bind (wpAny_seqItems hT rfl ?_)
 show wpAny _ _ (match pls[((i:Nat) : Int).toNat]? with | some (.int place _)=>_ | some _=>_ | none=>_) _ _ s
 rw [Int.toNat_natCast,hp];show wpAny _ _ (setNextDrawn a ((pl:Nat) : Int).toNat ((ep:Nat) : Int).toNat >>= _) _ _ s;rw [Int.toNat_natCast,Int.toNat_natCast];refine wpAny_bind ?_;unfold setNextDrawn;refine wpAny_bind (wpAny_setState_of ho hd hf ?_);dsimp only;rw [if_neg (by simp)];rw [he];refine wpAny_pure ?_;refine wpAny_bind (wpAny_setField_rec hI (by simp) fun h1 g1 s1=>wpAny_pure ⟨v,rfl,wpAny_pure (hQ h1 ?_ s1)⟩);show h1.get? I=_;rw [g1];simp [rawInt]
theorem z6t {I a T:Addr} {i n ep:Nat} {pls:Array Value} {o:Obj} {ents:Array (Int×Value)} {tb:SetTable} {Q:Option Value->Shared->Prop} (hh:A.handled=none) (hI:zdz s.heap I (.ref T) i a n ep) (ho:s.heap.get? a=some o) (hd:o.data=.set ents ep tb) (hf:tb.fits ents.size=true) (hn:ents.size=n)
  (hTu:s.heap.get? T=some { cls:=.type "tuple",data:=.seq pls }) (hp:pls[i]?=none)
  (hQ:∀ h',Heap.ExtBut I s.heap h'->Q none { s with heap:=h' }) : wpAny (model P w) A (pyNext (.ref I)) Q E s:=by
 have hT : s.TypeIs (.ref I) "set_iterator":=⟨_,hI,rfl⟩;unfold pyNext;refine wpAny_bind (wpAny_attempt (wpAny_callSpecial?_slot (name:=Str.ofString "__next__") hT zej (wpAny_call_entry zej hT zlc ?_ (zkx _))));show wpAny _ _ (fieldsOf (.ref I) >>= _) _ _ s;refine wpAny_bind (wpAny_fieldsOf hI rfl ?_);show wpAny _ _ (setEntries a >>= _) _ _ s;refine wpAny_bind (wpAny_setEntries_of ho hd hf ?_);have e1 : (((ents.size : Nat) : Int) != (n:Int))=false:=by rw [hn]; simp
 show wpAny _ _ (if (((ents.size : Nat) : Int) != (n:Int))=true then _ else _) _ _ s;rw [e1,if_neg Bool.false_ne_true];show wpAny _ _ (seqItems? (.ref T) >>= _) _ _ s;refine wpAny_bind (wpAny_seqItems hTu rfl ?_)
 show wpAny _ _ (match pls[((i:Nat) : Int).toNat]? with | some (.int place _)=>_ | some _=>_ | none=>_) _ _ s
 rw [Int.toNat_natCast,hp];refine wpAny_bind (wpAny_setField_rec hI (by simp) fun h0 g0 s0=>?_);refine wpAny_bind (wpAny_setField_rec g0 (by simp) fun h1 g1 s1=>?_);show wpAny _ _ (newExc (.type "StopIteration") [] >>= _) _ _ _;refine wpAny_bind ?_;simp only [newExc,newTuple];refine wpAny_bind (wpAny_newObj_type ?_ (by size_fits))
 refine wpAny_bind (m:=firstArgMember _ _) (wpAny_of_eq (a:=Value.none) (by first | rfl | (simp only [firstArgMember]; rfl)) ?_)
 refine wpAny_newObj_type ?_ (by size_fits);simp only [raiseNew];refine wpAny_bind (wpAny_handled ?_);rw [show A.in1.handled=none from hh];refine wpAny_bind (wpAny_pure (wpAny_throw ?_));refine wpAny_bind (wpAny_isInstance (T:="StopIteration") (b:=true) ⟨_,Heap.get?_push_size _ rfl,rfl⟩ isSubtype_stop ?_);exact wpAny_pure (hQ _ (((Heap.SameBut.trans s0 s1).extBut.push _).push _))
end
set_option maxRecDepth 100000
theorem zyh : entryFor table "set.__iter__"=some Builtin.«frozenset.__iter__» :=
 entryFor_alias (id':="frozenset.__iter__") (by kernel_rfl) (by first | rfl | decide +kernel | (unfold String.splitOn; simp +decide [String.splitOnAux])) (by decide +kernel) (by kernel_rfl)
noncomputable def zkl (pl:Array Nat) : Nat->Nat
 | 0=>0
 | i + 1=>pl.getD i 0 + 1
theorem zu5 {pl:Array Nat} {i:Nat} (hi:i < pl.size) : zkl pl (i + 1)=pl[i] + 1:=by
 show pl.getD i 0 + 1=_;simp [Array.getD,hi]
theorem zrp {α β : Type} {f:α->Option β} {g:α->β} : ∀ (l:List α),(∀ x∈l,f x=some (g x))->l.filterMap f=l.map g
 | [],_=>rfl
 | x::l,h=>by rw [List.filterMap_cons,h x List.mem_cons_self,List.map_cons,zrp l fun y hy=>h y (List.mem_cons_of_mem _ hy)]
theorem zp4 {pl:Array Nat} (h:Ris pl) : ∀ i,i<=pl.size->SetTable.below pl (zkl pl i)=i
 | 0,_=>zwj h
 | i + 1,hi=>by
  rw [zu5 (by omega)];exact zwi h (by omega)
section
variable {P:Program} {w:World} {A:Around} {E:Value->Shared->Prop} {s:Shared} {a:Addr} {o:Obj} {ents:Array (Int×Value)} {ep:Nat} {tb:SetTable}
theorem zky {Q:Bool->Shared->Prop} (h:Q (w.params.followText "set-order") s) : wpAny (model P w) A setsByText Q E s:=by
 unfold setsByText;exact wpAny_bind (wpAny_askSetting (wpAny_pure h))
theorem zth {slot i:Nat} {R:Option (Value×Nat)->Shared->Prop} (ho:s.heap.get? a=some o) (hd:o.data=.set ents ep tb) (hf:tb.fits ents.size=true) (ht:w.params.followText "set-order"=true)
  (h:R (((pickOrder (w.params.setOrder a ep) ents)[i]?).map fun e=>(e.2,slot)) s) : wpAny (model P w) A (setNext a slot i ep) R E s:=by
 unfold setNext;refine wpAny_bind (wpAny_setState_of ho hd hf ?_);dsimp only;refine wpAny_bind (zky ?_);rw [ht,if_pos rfl,if_neg (by simp)];refine wpAny_bind ?_;unfold setWalk;refine wpAny_bind (wpAny_setState_of ho hd hf ?_);dsimp only;refine wpAny_bind (zky ?_);rw [ht,if_pos rfl];refine wpAny_bind (wpAny_askSetting (wpAny_pure (wpAny_pure ?_)));exact h
theorem ztg {slot i:Nat} {R:Option (Value×Nat)->Shared->Prop} (ho:s.heap.get? a=some o) (hd:o.data=.set ents ep tb) (hf:tb.fits ents.size=true) (ht:w.params.followText "set-order"=false) (hw:(!tb.plain && decide (ents.size > 1))=false) (hled:tb.led=true)
  (h:R (match ents[SetTable.below tb.place slot]?,tb.place[SetTable.below tb.place slot]? with | some (_,x),some j=>some (x,j + 1) | _,_=>none) s) : wpAny (model P w) A (setNext a slot i ep) R E s:=by
 unfold setNext;refine wpAny_bind (wpAny_setState_of ho hd hf ?_);dsimp only;refine wpAny_bind (zky ?_);rw [ht,if_neg Bool.false_ne_true];show wpAny _ _ (if (!tb.plain && decide (ents.size > 1))=true then _ else _) _ _ s;rw [hw,if_neg Bool.false_ne_true];show wpAny _ _ ((if (!tb.led && !ents.isEmpty)=true then unsupported "set:maker-not-led" else pure ()) >>= _) _ _ s;rw [hled,Bool.not_true,Bool.false_and,if_neg Bool.false_ne_true];exact wpAny_bind (wpAny_pure (wpAny_pure h))
end
section
variable {P:Program} {w:World} {a I T:Addr} {o:Obj} {ents:Array (Int×Value)} {ep n:Nat} {tb:SetTable}
theorem zph {A:Around} {E:Value->Shared->Prop} {s:Shared} {first:Value} {i:Nat} {Q:Value->Shared->Prop} (hI:zdz s.heap I first i a n ep) (h:Q (.ref I) s) : wpAny (model P w) A (pyIter (.ref I)) Q E s:=by
 have hT : s.TypeIs (.ref I) "set_iterator":=⟨_,hI,rfl⟩;refine wpAny_pyIter_slot hT zu7 (wpAny_call_entry zu7 hT zyi ?_ (zwe _));show wpAny _ _ (ret (.ref I)) _ _ s;exact wpAny_pure ⟨_,rfl,"set_iterator",_,hT,zej.lookup,h⟩
theorem z8a {A:Around} (hh:A.handled=none) (ne:a≠I) (hd:o.data=.set ents ep tb) (hf:tb.fits ents.size=true) (hn:ents.size=n) (ht:w.params.followText "set-order"=true) :
  WalksS P w A I [I,a] [I] (fun x y=>y=x) n (fun i v=>((pickOrder (w.params.setOrder a ep) ents).toList.map (·.2))[i]?=some v) (fun i s=>zdz s.heap I (rawInt ((0 : Nat) : Int)) i a n ep/\s.heap.get? a=some o) where
 sub:=fun b hb=>by simp at hb; simp [hb]
 grefl:=fun _=>rfl
 gtrans:=fun _ _ _ h1 h2=>h2.trans h1
 frame:=fun i s h' tk st _ hk=>⟨hk I (by simp) _ st.1,hk a (by simp) _ st.2⟩
 item:=fun i s Q E hi st hQ=>by
  have hz : (pickOrder (w.params.setOrder a ep) ents).size=n:=by rw [<- Array.length_toList,(zo4 _ _).length_eq,Array.length_toList,hn]
  have hx : (pickOrder (w.params.setOrder a ep) ents)[i]?=some (pickOrder (w.params.setOrder a ep) ents)[i]:=Array.getElem?_eq_getElem (by omega);refine zu3 st.1 st.2 hd hf hn (v:=((pickOrder (w.params.setOrder a ep) ents)[i]'(by omega)).2) (slot':=0) (fun A' E' R r=>zth st.2 hd hf ht (by rw [hx]; exact r)) fun h' g sb=>?_;refine hQ _ _ (by rw [List.getElem?_map,Array.getElem?_toList,hx]; rfl) ⟨g,(sb.2 a ne).trans st.2⟩ ⟨fun b o' hb e=>(sb.2 b (fun h=>hb (by simp [h]))).trans e,rfl,rfl,rfl,Nat.le_refl _⟩
 done:=fun s Q E st hQ=>by
  have hz : (pickOrder (w.params.setOrder a ep) ents).size=n:=by rw [<- Array.length_toList,(zo4 _ _).length_eq,Array.length_toList,hn]
  have hx : (pickOrder (w.params.setOrder a ep) ents)[n]?=none:=Array.getElem?_eq_none (by omega);exact zu2 hh st.1 st.2 hd hf hn (fun A' E' R r=>zth st.2 hd hf ht (by rw [hx]; exact r)) fun h' eb=>hQ _ ⟨fun b o' hb e=>eb b o' (fun h=>hb (by simp [h])) e,rfl,rfl,rfl,Nat.le_refl _⟩
 self:=fun i s Q E st hQ=>zph st.1 hQ
theorem z79 {A:Around} (hh:A.handled=none) (ne:a≠I) (hd:o.data=.set ents ep tb) (hf:tb.fits ents.size=true) (hn:ents.size=n) (ht:w.params.followText "set-order"=false) (hw:(!tb.plain && decide (ents.size > 1))=false) (hled:tb.led=true) (hr:Ris tb.place) :
  WalksS P w A I [I,a] [I] (fun x y=>y=x) n (fun i v=>(ents.toList.map (·.2))[i]?=some v) (fun i s=>zdz s.heap I (rawInt ((zkl tb.place i : Nat) : Int)) i a n ep/\s.heap.get? a=some o) where
 sub:=fun b hb=>by simp at hb; simp [hb]
 grefl:=fun _=>rfl
 gtrans:=fun _ _ _ h1 h2=>h2.trans h1
 frame:=fun i s h' tk st _ hk=>⟨hk I (by simp) _ st.1,hk a (by simp) _ st.2⟩
 item:=fun i s Q E hi st hQ=>by
  have hz : tb.place.size=ents.size:=by simp only [SetTable.fits,Bool.and_eq_true,beq_iff_eq] at hf; exact hf.1
  have hb:=zp4 hr i (by omega);have hx : ents[i]?=some ents[i]:=Array.getElem?_eq_getElem (by omega);have hp : tb.place[i]?=some tb.place[i]:=Array.getElem?_eq_getElem (by omega);have es : zkl tb.place (i + 1)=tb.place[i]'(by omega) + 1:=zu5 (by omega);refine zu3 st.1 st.2 hd hf hn (v:=(ents[i]'(by omega)).2) (slot':=zkl tb.place (i + 1)) (fun A' E' R r=>ztg st.2 hd hf ht hw hled (by rw [hb,hx,hp]; rw [es] at r; exact r)) fun h' g sb=>?_;refine hQ _ _ (by rw [List.getElem?_map,Array.getElem?_toList,hx]; rfl) ⟨g,(sb.2 a ne).trans st.2⟩ ⟨fun b o' hb e=>(sb.2 b (fun h=>hb (by simp [h]))).trans e,rfl,rfl,rfl,Nat.le_refl _⟩
 done:=fun s Q E st hQ=>by
  have hz : tb.place.size=ents.size:=by simp only [SetTable.fits,Bool.and_eq_true,beq_iff_eq] at hf; exact hf.1
  have hb:=zp4 hr n (by omega);have hx : ents[n]?=none:=Array.getElem?_eq_none (by omega);exact zu2 hh st.1 st.2 hd hf hn (fun A' E' R r=>ztg st.2 hd hf ht hw hled (by rw [hb,hx]; exact r)) fun h' eb=>hQ _ ⟨fun b o' hb e=>eb b o' (fun h=>hb (by simp [h])) e,rfl,rfl,rfl,Nat.le_refl _⟩
 self:=fun i s Q E st hQ=>zph st.1 hQ
theorem z78 {A:Around} (hh:A.handled=none) (ne:a≠I) (nT:T≠I) (hd:o.data=.set ents ep tb) (hf:tb.fits ents.size=true) (hn:ents.size=n) {ord:List Nat} (hp:ord.Perm (List.range n)) :
  WalksS P w A I [I,a,T] [I] (fun x y=>y=x) n (fun i v=>(ord.filterMap fun j=>(ents[j]?).map (·.2))[i]?=some v)
   (fun i s=>zdz s.heap I (.ref T) i a n ep/\s.heap.get? a=some o/\s.heap.get? T=some { cls:=.type "tuple",data:=.seq (ord.map fun (j:Nat)=>rawInt j).toArray }) where
 sub:=fun b hb=>by simp at hb; simp [hb]
 grefl:=fun _=>rfl
 gtrans:=fun _ _ _ h1 h2=>h2.trans h1
 frame:=fun i s h' tk st _ hk=>⟨hk I (by simp) _ st.1,hk a (by simp) _ st.2.1,hk T (by simp) _ st.2.2⟩
 item:=fun i s Q E hi st hQ=>by
  have hl : ord.length=n:=by rw [hp.length_eq,List.length_range]
  have lt : ∀ j∈ord,j < ents.size:=fun j hj=>by rw [hn]; exact List.mem_range.mp (hp.mem_iff.mp hj)
  have hj : ord[i]?=some (ord[i]'(by omega)):=List.getElem?_eq_getElem (by omega);have hlt : ord[i]'(by omega) < ents.size:=lt _ (List.getElem_mem _);have hx : ents[ord[i]'(by omega)]?=some (ents[ord[i]'(by omega)]):=Array.getElem?_eq_getElem hlt
  have em : (ord.filterMap fun j=>(ents[j]?).map (·.2))=ord.map fun j=>((ents[j]?).map (·.2)).getD .none:=by
   refine zrp ord fun j hj=>?_;have : ents[j]?=some (ents[j]'(lt j hj)):=Array.getElem?_eq_getElem (lt j hj);rw [this];rfl
  refine z6u st.1 st.2.1 hd hf hn st.2.2 (pl:=ord[i]'(by omega)) (hx:=(ents[ord[i]'(by omega)]).1) (v:=(ents[ord[i]'(by omega)]).2) (by rw [List.getElem?_toArray,List.getElem?_map,hj]; rfl) hx fun h' g sb=>?_;refine hQ _ _ ?_ ⟨g,(sb.2 a ne).trans st.2.1,(sb.2 T nT).trans st.2.2⟩ ⟨fun b o' hb e=>(sb.2 b (fun h=>hb (by simp [h]))).trans e,rfl,rfl,rfl,Nat.le_refl _⟩;rw [em,List.getElem?_map,hj];simp only [Option.map_some,hx];rfl
 done:=fun s Q E st hQ=>by
  have hl : ord.length=n:=by rw [hp.length_eq,List.length_range]
  exact z6t hh st.1 st.2.1 hd hf hn st.2.2 (by rw [List.getElem?_toArray]; exact List.getElem?_eq_none (by simp; omega)) fun h' eb=>hQ _ ⟨fun b o' hb e=>eb b o' (fun h=>hb (by simp [h])) e,rfl,rfl,rfl,Nat.le_refl _⟩
 self:=fun i s Q E st hQ=>zph st.1 hQ
end
set_option maxRecDepth 100000
theorem zr6 {P:Program} {w:World} : ∀ (l:List (Int×Value)),ElemsOf (intKind P w) l->∃ ns : List Int,IntsAre (l.map (·.2)) ns/\∀ k,(∃ e∈l,(intKind P w).is k e.2=true)↔k∈ns
 | [],_=>⟨[],.nil,fun k=>by simp⟩
 | e::l,h=>by
  obtain ⟨ns,h1,h2⟩:=zr6 l h.tail;obtain ⟨⟨k,hk,_⟩,_⟩:=h.head;obtain ⟨t,et⟩:=Value.isInt_shape hk;refine ⟨k::ns,by rw [List.map_cons,et]; exact .cons k t h1,fun j=>?_⟩;rw [List.mem_cons,<- h2 j];constructor
  ·rintro ⟨x,hx,q⟩
   rcases List.mem_cons.mp hx with rfl | hx
   ·exact .inl ((intKind P w).inj _ _ _ q hk)
   ·exact .inr ⟨x,hx,q⟩
  ·rintro (rfl | ⟨x,hx,q⟩)
   ·exact ⟨e,List.mem_cons_self,hk⟩
   ·exact ⟨x,List.mem_cons_of_mem _ hx,q⟩
theorem zro {α : Type} (xs:List α) : ∀ (n k:Nat),k + n=xs.length->(List.range' k n).filterMap (fun j=>xs[j]?)=xs.drop k
 | 0,k,h=>by rw [List.range'_zero,List.filterMap_nil,List.drop_of_length_le (by omega)]
 | n + 1,k,h=>by
  rw [List.range'_succ,List.filterMap_cons,List.getElem?_eq_getElem (show k < xs.length by omega),zro xs n (k + 1) (by omega),List.drop_eq_getElem_cons (show k < xs.length by omega)]
theorem zys {α : Type} (xs:Array α) : (List.range xs.size).filterMap (fun j=>xs[j]?)=xs.toList:=by
 have:=zro xs.toList xs.size 0 (by simp);rw [List.drop_zero] at this;rw [List.range_eq_range',<- this];simp
section
variable {P:Program} {w:World} {A:Around} {E:Value->Shared->Prop} {s:Shared} {a:Addr}
theorem zz2 {S:Int->Bool} {n:Nat} {Q:Value->Shared->Prop} (q:zco P w s.heap a (zcs w) S n)
  (hQ:∀ (I:Addr) (fp:List Addr) (vals:List Value) (ns:List Int) (St:Nat->Shared->Prop) (h':Heap) (d':Drawn),(∀ A' : Around,A'.handled=none->WalksS P w A' I fp [I] (fun x y=>y=x) n (fun i v=>vals[i]?=some v) St) ->
   St 0 { s with heap:=h',drawn:=d' }->(∀ b o,s.heap.get? b=some o->h'.get? b=some o)->s.heap.objs.size<=I->I∈fp->(∀ b∈fp,b < h'.objs.size/\(b=a\/s.heap.objs.size<=b))->IntsAre vals ns->ns.length=n->(∀ k,S k=true↔k∈ns)->Q (.ref I) { s with heap:=h',drawn:=d' }) :
  wpAny (model P w) A (pyIter (.ref a)) Q E s:=by
 obtain ⟨o,ents,ep,tb,ho,hex,hd,hel,hm,hb,hf,hn,hr,hled⟩:=q;have hT : s.TypeIs (.ref a) "set":=⟨o,ho,hex.1⟩;have la : a < s.heap.objs.size:=Heap.lt_size ho
 have fin : ∀ (vs:List (Int×Value)),vs.Perm ents.toList->∃ ns,IntsAre (vs.map (·.2)) ns/\ns.length=n/\∀ k,S k=true↔k∈ns:=fun vs hp=>by
  obtain ⟨ns,h1,h2⟩:=zr6 vs (hel.perm hp);refine ⟨ns,h1,?_,fun k=>?_⟩
  ·rw [<- h1.length,List.length_map,hp.length_eq,Array.length_toList,hn]
  ·rw [hm k,<- h2 k];exact ⟨fun ⟨e,he,x⟩=>⟨e,hp.mem_iff.mpr he,x⟩,fun ⟨e,he,x⟩=>⟨e,hp.mem_iff.mp he,x⟩⟩
 refine wpAny_pyIter_slot hT F.slot_set_iter (wpAny_call_entry F.slot_set_iter hT zyh ?_ (F.args_set_iter_1 _));show wpAny _ _ (Builtin.Frozenset.sizeOf a >>= _) _ _ s;refine wpAny_bind ?_;unfold Builtin.Frozenset.sizeOf;refine wpAny_bind (wpAny_setEntries_of ho hd hf (wpAny_pure ?_));refine wpAny_bind ?_;unfold setDrawn;refine wpAny_bind (wpAny_setState_of ho hd hf ?_);dsimp only;refine wpAny_bind (zky (wpAny_pure ?_));show wpAny _ _ (if (!w.params.followText "set-order" && (!tb.plain && decide (ents.size > 1)))=true then _ else _) _ _ s
 cases ht : w.params.followText "set-order" with
 | true =>
  rw [Bool.not_true,Bool.false_and,if_neg Bool.false_ne_true];refine wpAny_bind (wpAny_pure (wpAny_bind (wpAny_setEpoch_of ho hd hf ?_)));refine wpAny_bind (wpAny_newObj_type ?_ (by size_fits));refine wpAny_pure ?_;obtain ⟨ns,i1,i2,i3⟩:=fin _ (zo4 (w.params.setOrder a ep) ents);have hI : zdz (s.heap.push { cls:=.type "set_iterator",dict:=none,data:=.fields #[rawInt ((0 : Nat) : Int),rawInt ((0 : Nat) : Int),.ref a,rawInt n,rawInt ep],slots:=#[] }) s.heap.objs.size (rawInt ((0 : Nat) : Int)) 0 a n ep:=Heap.get?_push_size _ rfl;rw [hn];refine ⟨_,rfl,"set_iterator",_,⟨_,hI,rfl⟩,zej.lookup,?_⟩;refine hQ s.heap.objs.size [s.heap.objs.size,a] _ ns _ _ s.drawn (fun A' hh=>z8a hh (Nat.ne_of_lt la) hd hf hn ht) ⟨hI,Heap.get?_push_of_some _ ho⟩ (fun b o' e=>Heap.get?_push_of_some _ e) (Nat.le_refl _) (by simp) (fun b hb'=>?_) i1 i2 i3;rw [Heap.size_push];simp only [List.mem_cons,List.not_mem_nil,or_false] at hb'
  rcases hb' with rfl | rfl
  ·exact ⟨Nat.lt_succ_self _,.inr (Nat.le_refl _)⟩
  ·exact ⟨Nat.lt_succ_of_lt la,.inl rfl⟩
 | false =>
  rw [Bool.not_false,Bool.true_and];have hled' : tb.led=true:=by rw [hled]; unfold zcs; rw [ht]; rfl
  cases hw : (!tb.plain && decide (ents.size > 1)) with
  | false =>
   rw [if_neg Bool.false_ne_true];refine wpAny_bind (wpAny_pure (wpAny_bind (wpAny_setEpoch_of ho hd hf ?_)));refine wpAny_bind (wpAny_newObj_type ?_ (by size_fits));refine wpAny_pure ?_;obtain ⟨ns,i1,i2,i3⟩:=fin _ (List.Perm.refl _);have hI : zdz (s.heap.push { cls:=.type "set_iterator",dict:=none,data:=.fields #[rawInt ((0 : Nat) : Int),rawInt ((0 : Nat) : Int),.ref a,rawInt n,rawInt ep],slots:=#[] }) s.heap.objs.size (rawInt ((0 : Nat) : Int)) 0 a n ep:=Heap.get?_push_size _ rfl;rw [hn];refine ⟨_,rfl,"set_iterator",_,⟨_,hI,rfl⟩,zej.lookup,?_⟩;refine hQ s.heap.objs.size [s.heap.objs.size,a] _ ns _ _ s.drawn (fun A' hh=>z79 hh (Nat.ne_of_lt la) hd hf hn ht hw hled' hr) ⟨hI,Heap.get?_push_of_some _ ho⟩ (fun b o' e=>Heap.get?_push_of_some _ e) (Nat.le_refl _) (by simp) (fun b hb'=>?_) i1 i2 i3;rw [Heap.size_push];simp only [List.mem_cons,List.not_mem_nil,or_false] at hb'
   rcases hb' with rfl | rfl
   ·exact ⟨Nat.lt_succ_self _,.inr (Nat.le_refl _)⟩
   ·exact ⟨Nat.lt_succ_of_lt la,.inl rfl⟩
  | true =>
   rw [if_pos rfl];refine wpAny_bind (zq8 _ _ (by rw [List.length_range]) fun ord d hp=>?_);rw [hn] at hp;have hsz : ((ord.map fun (i:Nat)=>rawInt i)).length<=sizeLine:=by rw [List.length_map,hp.length_eq,List.length_range]; exact fits_of_scanBound (by omega)
   refine wpAny_bind (wpAny_newTuple ?_ hsz)
   refine wpAny_bind (wpAny_setEpoch_of (s:={ s with heap:=s.heap.push { cls:=.type "tuple",data:=.seq (ord.map fun (i:Nat)=>rawInt i).toArray },drawn:=d }) (Heap.get?_push_of_some _ ho) hd hf ?_)
   refine wpAny_bind (wpAny_newObj_type ?_ (by size_fits));refine wpAny_pure ?_
   have pv : (ord.filterMap fun j=>ents[j]?).Perm ents.toList:=by
    have:=hp.filterMap fun j=>ents[j]?;rw [<- hn,zys] at this;exact this
   obtain ⟨ns,i1,i2,i3⟩:=fin _ pv;rw [List.map_filterMap] at i1
   have hI : zdz ((s.heap.push { cls:=.type "tuple",data:=.seq (ord.map fun (i:Nat)=>rawInt i).toArray }).push { cls:=.type "set_iterator",dict:=none,data:=.fields #[.ref s.heap.objs.size,rawInt ((0 : Nat) : Int),.ref a,rawInt n,rawInt ep],slots:=#[] })
     (s.heap.push { cls:=.type "tuple",data:=.seq (ord.map fun (i:Nat)=>rawInt i).toArray }).objs.size (.ref s.heap.objs.size) 0 a n ep:=Heap.get?_push_size _ rfl
   rw [hn];refine ⟨_,rfl,"set_iterator",_,⟨_,hI,rfl⟩,zej.lookup,?_⟩;have zI : (s.heap.push { cls:=.type "tuple",data:=.seq (ord.map fun (i:Nat)=>rawInt i).toArray }).objs.size=s.heap.objs.size + 1:=Heap.size_push ..;refine hQ _ [(s.heap.push { cls:=.type "tuple",data:=.seq (ord.map fun (i:Nat)=>rawInt i).toArray }).objs.size,a,s.heap.objs.size] _ ns _ _ d (fun A' hh=>z78 hh (by rw [zI]; exact Nat.ne_of_lt (Nat.lt_succ_of_lt la)) (by rw [zI]; exact Nat.ne_of_lt (Nat.lt_succ_self _)) hd hf hn hp) ⟨hI,Heap.get?_push_of_some _ (Heap.get?_push_of_some _ ho),Heap.get?_push_of_some _ (Heap.get?_push_size _ rfl)⟩ (fun b o' e=>Heap.get?_push_of_some _ (Heap.get?_push_of_some _ e)) (by rw [zI]; exact Nat.le_succ _) (by simp) (fun b hb'=>?_) i1 i2 i3;rw [Heap.size_push];simp only [List.mem_cons,List.not_mem_nil,or_false] at hb'
   rcases hb' with rfl | rfl | rfl
   ·exact ⟨Nat.lt_succ_self _,.inr (by rw [zI]; exact Nat.le_succ _)⟩
   ·exact ⟨by rw [zI]; exact Nat.lt_succ_of_lt (Nat.lt_succ_of_lt la),.inl rfl⟩
   ·exact ⟨by rw [zI]; exact Nat.lt_succ_of_lt (Nat.lt_succ_self _),.inr (Nat.le_refl _)⟩
end
set_option maxRecDepth 100000
theorem zzx {vals:List Value} {acc:Array Value} {n:Nat} (h:ItemsOf (fun i v=>vals[i]?=some v) acc n) (hl:vals.length=n) : acc.toList=vals:=by
 refine List.ext_getElem? fun i=>?_
 by_cases hi : i < n
 ·have e : acc[i]?=some (acc[i]'(by rw [h.1]; exact hi)):=Array.getElem?_eq_getElem _;rw [Array.getElem?_toList,e];exact (h.2 i _ e).symm
 ·rw [List.getElem?_eq_none (by rw [Array.length_toList,h.1]; omega),List.getElem?_eq_none (by omega)]
theorem z6m : typeLookup (.type "set") "__len__"=pure (some (.builtin "set.__len__")):=by rw [typeLookup_type,builtinLookup_eq_fast]; kernel_rfl
theorem z6n : splitId "set.__len__"=some ("set","__len__"):=by decide +kernel
section
variable {P:Program} {w:World} {A:Around} {E:Value->Shared->Prop} {s:Shared} {a:Addr}
theorem zwu {S:Int->Bool} {n:Nat} {Q:List Value->Shared->Prop} (hh:A.handled=none) (q:zco P w s.heap a (zcs w) S n) (hn:n<=sizeLine)
  (hQ:∀ (h':Heap) (d':Drawn) (tk:Nat) (vals:List Value) (ns:List Int),(∀ b o,s.heap.get? b=some o->h'.get? b=some o)->s.heap.objs.size<=h'.objs.size->s.toks<=tk->IntsAre vals ns->ns.length=n->(∀ k,S k=true↔k∈ns)->Q vals { s with heap:=h',drawn:=d',toks:=tk }) :
  wpAny (model P w) A (collect (.ref a)) Q E s:=by
 unfold collect;refine wpAny_bind (wpAny_runValue (codeAny_builtin PySem.F.entry_proto_collect ?_));rw [Around.under_plainId PySem.F.plain_proto_collect _];show wpAny _ A.in1 (newList [] >>= fun l=>again (.builtin "list.__iadd__" ⟨[l,.ref a],[]⟩)) _ _ s;refine wpAny_bind (wpAny_newObj_type ?_);refine wpAny_pure ⟨plainId_quiet PySem.F.plain_list_iadd _,codeAny_builtin PySem.F.entry_list_iadd ?_⟩;rw [Around.under_plainId PySem.F.plain_list_iadd _];show wpAny _ A.in1 (Builtin.List.listExtendWith (.ref s.heap.objs.size) (.ref a) (.ref s.heap.objs.size)) _ _ _;unfold Builtin.List.listExtendWith;obtain ⟨o,ents,ep,tb,ho,hex,rest⟩:=id q;have la : a < s.heap.objs.size:=Heap.lt_size ho;have q1 : zco P w (s.heap.push { cls:=.type "list",data:=.seq ([] : List Value).toArray }) a (zcs w) S n:=q.stay fun o e=>Heap.get?_push_of_some _ e
 have hT : Shared.TypeIs { s with heap:=s.heap.push { cls:=.type "list",data:=.seq ([] : List Value).toArray } } (.ref a) "set":=⟨o,Heap.get?_push_of_some _ ho,hex.1⟩
 refine wpAny_bind (wpAny_typeOf hT ?_);have k1 : Builtin.List.listSameRef (.ref s.heap.objs.size) (.ref a)=false:=by simp [Builtin.List.listSameRef,Nat.ne_of_gt la]
 have k2 : (Value.type "set" == Value.type "list")=false:=by decide
 have k3 : (Value.type "set" == Value.type "tuple")=false:=by decide
 simp only [k1,k2,k3,Bool.or_false,Bool.false_eq_true,if_false];refine wpAny_bind (zz2 q1 fun I fp vals ns St h1 d1 W st0 keep gI mI fpl i1 i2 i3=>?_)
 have hT1 : Shared.TypeIs { s with heap:=h1,drawn:=d1 } (.ref a) "set":=⟨o,keep _ _ (Heap.get?_push_of_some _ ho),hex.1⟩
 have zL : (s.heap.push { cls:=.type "list",data:=.seq ([] : List Value).toArray }).objs.size=s.heap.objs.size + 1:=Heap.size_push ..
 have nL : s.heap.objs.size∉fp:=fun hm=>by
  rcases (fpl _ hm).2 with e | e
  ·exact Nat.lt_irrefl _ (by rw [<- e] at la; exact la)
  ·rw [zL] at e; exact Nat.not_succ_le_self _ e
 refine wpAny_bind (wpAny_holding ?_);unfold Builtin.List.listLengthHint;refine wpAny_bind (wpAny_specialOf hT1 z6m ?_);dsimp only;rw [z6n];dsimp only;refine wpAny_bind (wpAny_isInstance hT1 sub_set_self ?_);simp only [Bool.not_true,Bool.false_eq_true,if_false];refine wpAny_bind (wpAny_typeOf hT1 (wpAny_pure ?_))
 show wpAny _ A.in1 (rule "list.extend.makes-room" >>= fun _=>Builtin.List.listTouch (.ref s.heap.objs.size) >>= fun _ =>
  again (.builtin "list.extend.loop" ⟨[.ref s.heap.objs.size,.ref I,.ref s.heap.objs.size],[]⟩)) _ _ _
 refine wpAny_bind (wpAny_rule ?_);have g1 : h1.get? s.heap.objs.size=some { cls:=.type "list",data:=.seq ([] : List Value).toArray }:=keep _ _ (Heap.get?_push_size _ rfl);refine wpAny_bind ?_;show wpAny _ A.in1 (updateSeq s.heap.objs.size (·.push .none) >>= fun _=>updateSeq s.heap.objs.size (·.pop)) _ _ _
 refine wpAny_bind (wpAny_updateSeq (s:={ s with heap:=h1,drawn:=d1 }) g1 rfl ?_)
 have g2:=Heap.get?_update_self (Obj.mapSeq (·.push Value.none)) g1 rfl
 refine wpAny_updateSeq (s:={ s with heap:=h1.update s.heap.objs.size (Obj.mapSeq (·.push Value.none)),drawn:=d1 }) g2 rfl ?_
 have g3:=Heap.get?_update_self (Obj.mapSeq (·.pop)) g2 rfl
 have oth : ∀ b o,b≠s.heap.objs.size->h1.get? b=some o->((h1.update s.heap.objs.size (Obj.mapSeq (·.push Value.none))).update s.heap.objs.size (Obj.mapSeq (·.pop))).get? b=some o :=
  fun b o hb e=>(Heap.get?_update_other _ _ (Ne.symm hb)).trans ((Heap.get?_update_other _ _ (Ne.symm hb)).trans e)
 have W1:=W A.in1 (by simp [hh])
 refine wpAny_pure ⟨plainId_quiet PySem.F.plain_extend_loop _,codeAny_extend_loopS W1 hn _ nL _ n 0 _ _ _ rfl (Nat.zero_le _)
  (W1.frame 0 ({ s with heap:=h1,drawn:=d1 } : Shared) _ s.toks st0 (Nat.le_refl _) fun b hb o e=>oth b o (fun h=>nL (h ▸ hb)) e) g3 (ItemsOf.nil _) fun s' acc' c' hm hS' hacc=>?_⟩
 show wpAny _ A (load s.heap.objs.size >>= _) _ _ s';refine wpAny_bind (wpAny_load hS' (wpAny_pure ?_));have lv : vals.length=n:=by rw [i1.length,i2]
 rw [zzx hacc lv];obtain ⟨h2,g',d',tk',os'⟩:=s';have eg : g'=s.gens:=hm.gens;have ed : d'=d1:=hm.drawn;have eo : os'=s.os:=hm.os;subst eg ed eo;refine hQ h2 d' tk' vals ns (fun b o' e=>?_) (Nat.le_of_lt (Heap.lt_size hS')) hm.toks i1 i2 i3;have lb : b < s.heap.objs.size:=Heap.lt_size e;refine hm.heap b o' ?_ (oth b o' (Nat.ne_of_lt lb) (keep _ _ (Heap.get?_push_of_some _ e)));simp only [List.mem_cons,List.not_mem_nil,or_false,not_or];exact ⟨Nat.ne_of_lt lb,Nat.ne_of_lt (Nat.lt_of_lt_of_le lb (Nat.le_trans (by rw [zL]; exact Nat.le_succ _) gI))⟩
theorem z6y {S:Int->Bool} {n:Nat} {Q:Value->Shared->Prop} (hh:A.handled=none) (q:zco P w s.heap a (zcs w) S n) (h64:n < 64)
  (hQ:∀ (p:Addr) (h':Heap) (d':Drawn) (tk e:Nat) (out:Array Value) (ns:List Int),(∀ b o,s.heap.get? b=some o->h'.get? b=some o)->s.heap.objs.size<=p->s.toks<=tk->h'.get? p=some (seqObj "list" out e)->IntsAre out.toList ns->ns.Pairwise (·<=·)->ns.length=n->(∀ k,S k=true↔k∈ns) ->
   Q (.ref p) { s with heap:=h',drawn:=d',toks:=tk }) : wpAny (model P w) A (call (.builtin "sorted") [.ref a]) Q E s:=by
 refine Calls.call_function_entry kind_sorted plain_sorted entry_sorted (args_sorted1 _) ?_;unfold Builtin.«sorted»;refine wpAny_bind (m:=checkCount "sorted" 1 1 _) (wpAny_pure ?_);refine wpAny_bind (zwu (by simp [hh]) q (by rw [sizeLine_eq]; omega) fun h1 d1 tk vals ns keep grow htk i1 i2 i3=>?_);refine wpAny_bind (wpAny_newList ?_ (by rw [i1.length,i2,sizeLine_eq]; omega));have g0 : (h1.push (seqObj "list" vals.toArray 0)).get? h1.objs.size=some (seqObj "list" vals.toArray 0):=Heap.get?_push_size _ rfl
 refine wpAny_bind (wpAny_holding (wpAny_call_entry (s:={ s with heap:=h1.push (seqObj "list" vals.toArray 0),drawn:=d1,toks:=tk }) slot_list_sort ⟨_,g0,rfl⟩ entry_list_sort (list_sort_tree g0 i1 (by rw [i1.length,i2]; exact h64) fun out ns' o1 o2 o3=>⟨_,rfl,?_⟩) (args_list_sort _)))
 obtain ⟨e,ge⟩:=sortedHeap_at (out:=out) g0;refine wpAny_pure ⟨_,rfl,hQ _ _ d1 tk e out ns' (fun b o eb=>?_) grow htk ge o1 o3 (by rw [o2.length_eq,i2]) fun k=>(i3 k).trans (o2.mem_iff).symm⟩;have lb : b < h1.objs.size:=Heap.lt_size (keep b o eb);rw [sortedHeap_old (Nat.ne_of_lt lb) (by rw [Heap.size_push]; exact Nat.lt_succ_of_lt lb)];exact Heap.get?_push_of_some _ (keep b o eb)
end
noncomputable def zfx (x:Int) : List Int->List Int
 | []=>[x]
 | y::r=>if x < y then x::y::r else if x=y then y::r else y::zfx x r
noncomputable def zbs (ns:List Int) : List Int:=ns.foldr zfx []
theorem zom (x k:Int) : ∀ l : List Int,k∈zfx x l↔k=x\/k∈l
 | []=>by simp [zfx]
 | y::r=>by
  unfold zfx;split
  ·simp
  ·split
   ·rename_i e; subst e; simp
   ·rw [List.mem_cons,zom x k r,List.mem_cons];constructor
    ·rintro (h | h | h)
     ·exact .inr (.inl h)
     ·exact .inl h
     ·exact .inr (.inr h)
    ·rintro (h | h | h)
     ·exact .inr (.inl h)
     ·exact .inl h
     ·exact .inr (.inr h)
theorem zun (x:Int) : ∀ l : List Int,l.Pairwise (· < ·)->(zfx x l).Pairwise (· < ·)
 | [],_=>by simp [zfx]
 | y::r,h=>by
  obtain ⟨h1,h2⟩:=List.pairwise_cons.mp h;unfold zfx;split
  ·rename_i hx;refine List.pairwise_cons.mpr ⟨fun k hk=>?_,h⟩
   rcases List.mem_cons.mp hk with e | hk
   ·subst e; exact hx
   ·exact Int.lt_trans hx (h1 k hk)
  ·split
   ·exact h
   ·rename_i a b;refine List.pairwise_cons.mpr ⟨fun k hk=>?_,zun x r h2⟩
    rcases (zom x k r).mp hk with e | hk
    ·subst e; omega
    ·exact h1 k hk
theorem zlz (k:Int) : ∀ l : List Int,k∈zbs l↔k∈l
 | []=>by simp [zbs]
 | x::l=>by
  show k∈zfx x (zbs l)↔_;rw [zom,zlz k l,List.mem_cons]
theorem zmc : ∀ l : List Int,(zbs l).Pairwise (· < ·)
 | []=>by simp [zbs]
 | x::l=>zun x _ (zmc l)
theorem zum : ∀ (l m:List Int),l.Pairwise (· < ·)->m.Pairwise (· < ·)->(∀ k,k∈l↔k∈m)->l=m
 | [],[],_,_,_=>rfl
 | [],y::m,_,_,h=>by have:=(h y).mpr List.mem_cons_self; simp at this
 | x::l,[],_,_,h=>by have:=(h x).mp List.mem_cons_self; simp at this
 | x::l,y::m,hl,hm,h=>by
  obtain ⟨l1,l2⟩:=List.pairwise_cons.mp hl;obtain ⟨m1,m2⟩:=List.pairwise_cons.mp hm
  have e : x=y:=by
   rcases List.mem_cons.mp ((h x).mp List.mem_cons_self) with e | hx
   ·exact e
   ·rcases List.mem_cons.mp ((h y).mpr List.mem_cons_self) with e | hy
    ·exact e.symm
    ·have:=m1 x hx; have:=l1 y hy; omega
  subst e;rw [zum l m l2 m2 fun k=>?_];constructor
  ·intro hk
   rcases List.mem_cons.mp ((h k).mp (List.mem_cons_of_mem _ hk)) with e | q
   ·have:=l1 k hk; omega
   ·exact q
  ·intro hk
   rcases List.mem_cons.mp ((h k).mpr (List.mem_cons_of_mem _ hk)) with e | q
   ·have:=m1 k hk; omega
   ·exact q
theorem zkb : ∀ (F L:List Int),F.Nodup->(∀ x∈F,x∈L)->L.length<=F.length->L.Perm F
 | [],L,_,_,h=>by
  obtain rfl : L=[]:=List.length_eq_zero_iff.mp (by simpa using h)
  exact .refl _
 | x::F,L,hn,hs,h=>by
  obtain ⟨n1,n2⟩:=List.nodup_cons.mp hn;have hx:=hs x List.mem_cons_self;have p:=List.perm_cons_erase hx;refine p.trans (List.Perm.cons x (zkb F (L.erase x) n2 (fun y hy=>?_) ?_))
  ·have ne : y≠x:=fun e=>by subst e; exact n1 hy
   exact (List.mem_erase_of_ne ne).mpr (hs y (List.mem_cons_of_mem _ hy))
  ·rw [List.length_erase_of_mem hx];simp at h;omega
theorem zle (val:Nat->Int) : ∀ i,(firstMet val i).Nodup
 | 0=>by rw [firstMet_zero]; exact List.nodup_nil
 | i + 1=>by
  rw [firstMet_succ];unfold step_dedup;split
  ·exact zle val i
  ·rename_i h;refine List.nodup_append.mpr ⟨zle val i,by simp,fun a ha b hb e=>?_⟩;have : b=val i:=by simpa using hb
   rw [e,this] at ha;exact h (List.any_eq_true.mpr ⟨_,ha,by simp⟩)
theorem zrm (ns:List Int) (k:Int) : (firstMet (fun i=>ns.getD i 0) ns.length).any (·==k)=true↔k∈ns:=by
 rw [firstMet_any]
 have e : (List.range ns.length).map (fun i=>ns.getD i 0)=ns:=by
  refine List.ext_getElem? fun i=>?_;rw [List.getElem?_map]
  by_cases hi : i < ns.length
  ·rw [List.getElem?_range hi];simp [List.getD_eq_getElem?_getD,hi]
  ·rw [List.getElem?_eq_none (by rw [List.length_range]; omega),List.getElem?_eq_none (by omega)];rfl
 rw [e,List.any_eq_true];exact ⟨fun ⟨x,hx,q⟩=>by have:=beq_iff_eq.mp q; exact this ▸ hx,fun h=>⟨k,h,by simp⟩⟩
theorem z7t {ns out:List Int} (hs:out.Pairwise (·<=·)) (hl:out.length=(firstMet (fun i=>ns.getD i 0) ns.length).length) (hm:∀ k,(firstMet (fun i=>ns.getD i 0) ns.length).any (·==k)=true↔k∈out) : out=zbs ns:=by
 have nd:=zle (fun i=>ns.getD i 0) ns.length;have p:=zkb _ out nd (fun x hx=>(hm x).mp (List.any_eq_true.mpr ⟨x,hx,by simp⟩)) (by omega);have nd' : out.Nodup:=p.nodup_iff.mpr nd
 have lt : out.Pairwise (· < ·):=by
  refine List.Pairwise.imp₂ (fun a b h1 h2=>?_) hs nd';exact Int.lt_iff_le_and_ne.mpr ⟨h1,h2⟩
 exact zum _ _ lt (zmc ns) fun k=>by rw [<- hm k,zrm,zlz]
theorem z60 (ns:List Int) : (zbs ns).length=(firstMet (fun i=>ns.getD i 0) ns.length).length:=by
 have nd:=zle (fun i=>ns.getD i 0) ns.length;have nd' : (zbs ns).Nodup:=(zmc ns).imp fun h=>Int.ne_of_lt h
 have m : ∀ x,x∈firstMet (fun i=>ns.getD i 0) ns.length↔x∈zbs ns:=fun x=>by
  refine Iff.trans ?_ (zlz x ns).symm;refine Iff.trans ?_ (zrm ns x);rw [List.any_eq_true];exact ⟨fun h=>⟨x,h,by simp⟩,fun ⟨y,hy,q⟩=>by have:=beq_iff_eq.mp q; exact this ▸ hy⟩
 rcases Nat.le_total (zbs ns).length (firstMet (fun i=>ns.getD i 0) ns.length).length with h | h
 ·exact (zkb _ _ nd (fun x hx=>(m x).mp hx) h).length_eq
 ·exact (zkb _ _ nd' (fun x hx=>(m x).mpr hx) h).length_eq.symm
section
variable {X:Cx} {pins:List (Addr×Obj)} {σ:St} {H:Hp} {s:Shared}
theorem Inv.draws (I:Inv X pins σ H s) (d':Drawn) : Inv X pins σ H { s with drawn:=d' }:=by
 refine I.step (g':=s.gens) (d':=d') (t':=s.toks) (h':=s.heap) (ch:=[]) (fun b hb=>by cases hb) (fun b o _ _ _ e _=>e) (fun b o _ _ _ e _=>⟨o.slots,e⟩) (fun _ _ _ _ n=>n)
  (fun b o _ e=>⟨o,e⟩) (fun _ _ e=>e) (fun _ _ _ e=>e) (fun b ps e=>⟨#[],by rw [e]; simp⟩) (fun m hm=>hm) I.hok I.bare
end
theorem zvr : ∀ {vs:List Value} {ns:List Int},IntsAre vs ns->zak (ns.map V.int) vs
 | _,_,.nil=>.nil
 | _,_,.cons n t h=>.cons ⟨t,rfl⟩ (zvr h)
theorem zr7 : ∀ {ns:List Int} {vs:List Value},zak (ns.map V.int) vs->IntsAre vs ns
 | [],_,.nil=>.nil
 | n::ns,_,.cons ⟨t,e⟩ h=>by subst e; exact .cons n t (zr7 h)
noncomputable def tSS (K:PySem.W.Frag) (te:TE) : TE:=fun σ H Q=>te σ H fun x H1=>∃ l ns,x=.ref l/\SqL K H1 l (ns.map V.int)/\ns.length < 4000/\(zbs ns).length < 64/\∀ p,H1 p=none->Q (.ref p) (upd H1 p (.lst ((zbs ns).map V.int)))
section
variable {X:Cx} {e:Expr} {te:TE} {p p2 pos pos2:Pos}
theorem z39 (hc:X.calm=true) (hgs:Gl X "sorted") (hms:X.mg "sorted"=none) (hgt:Gl X "set") (hmt:X.mg "set"=none) (he:PE X e te)
  (h1:starEach [.Call (.Name "set" p2) [e] [] pos2] X.env=(false,eval (.Call (.Name "set" p2) [e] [] pos2) X.env)::starEach [] X.env:=by rfl) (h2:starEach [e] X.env=(false,eval e X.env)::starEach [] X.env:=by rfl)
  (hpl:(backTo pos (starEach [] X.env)).any (·.1)=false:=by rfl) (hpl2:(backTo pos2 (starEach [] X.env)).any (·.1)=false:=by rfl) :
  PE X (.Call (.Name "sorted" p) [.Call (.Name "set" p2) [e] [] pos2] [] pos) (tSS X.K te):=by
 intro pins s σ H Q I h;refine wpAny_Call_Name_kw (zhk I hgs hms boot_sorted ?_);refine PyProof.Rows.callWith_builtin1 ?_ h1 hpl;rw [h1];show wpAny _ _ (spliced ((false,eval (.Call (.Name "set" p2) [e] [] pos2) X.env)::backTo pos (starEach [] X.env))) _ _ s;refine Calls.spliced_cons (wpAny_Call_Name_kw (zhk I hgt hmt boot_set ?_));refine PyProof.Rows.callWith_type1 ?_ h2 hpl2;rw [h2];show wpAny _ _ (spliced ((false,eval e X.env)::backTo pos2 (starEach [] X.env))) _ _ s;refine Calls.spliced_cons (thn (he pins s σ H _ I h) fun u s1 q_=>?_);obtain ⟨x,H1,I1,r1,l,ns,e1,hq,hb,h64,q⟩:=q_;subst e1;cases r1;refine wpAny_pure ?_;obtain ⟨its,rr,pl,hz⟩:=I1.list hq;have ii : IntsAre its ns:=zr7 rr;have zz : its.toArray.size=ns.length:=by rw [List.size_toArray,ii.length]
 refine zwp (items:=its.toArray) (ns:=ns) (I1.ok.hd hc) pl.isList (by simpa using ii) (by rw [zz]; unfold scanBound; omega) fun h' tk qs keep htk=>?_;rw [zz] at qs;refine wpAny_pure ?_;have lt : s1.heap.objs.size < h'.objs.size:=by obtain ⟨o,_,_,_,ho,_⟩:=id qs; exact Heap.lt_size ho
 refine z6y (s:={ s1 with heap:=h',toks:=tk }) (I1.ok.hd hc) qs (by rw [<- z60]; exact h64) fun pp h'' d'' tk'' ep out ns' keep2 gp htk2 ge o1 o3 o4 o5=>?_
 have en : ns'=zbs ns:=z7t o3 o4 o5;subst en;refine ⟨.ref pp,_,((I1.laid (h':=h'') (t':=tk'') (a:=pp) (o:=.lst ((zbs ns).map V.int)) (fun b u g=>keep2 _ _ (keep b u (Heap.lt_size g) g)) (Nat.le_trans (Nat.le_of_lt lt) gp) ?_).draws d''),rfl,q pp (I1.hok.fresh (Nat.le_trans (Nat.le_of_lt lt) gp))⟩;exact ⟨by rw [List.length_map,sizeLine_eq]; omega,out.toList,ep,zvr o1,by simpa using ge⟩
end
noncomputable def zsD : List D->Option (List Int)
 | []=>some []
 | .int i::r=>(zsD r).map (i::·)
 | _::_=>none
theorem zv0 : ∀ {ds:List D} {ns:List Int},zsD ds=some ns->ds=ns.map D.int
 | [],_,h=>by cases h; rfl
 | .int i::r,ns,h=>by
  replace h : (zsD r).map (i::·)=some ns:=h
  cases e : zsD r with
  | none=>rw [e] at h; cases h
  | some m=>rw [e] at h; cases h; rw [zv0 e]; rfl
 | .non::_,_,h=>by cases h
 | .bl _::_,_,h=>by cases h
 | .str _::_,_,h=>by cases h
 | .lst _::_,_,h=>by cases h
 | .tup _::_,_,h=>by cases h
 | .kl _::_,_,h=>by cases h
 | .kt _::_,_,h=>by cases h
 | .dic _ _::_,_,h=>by cases h
 | .ins _ _ _::_,_,h=>by cases h
theorem zvz : ∀ (ns:List Int),zsD (ns.map D.int)=some ns
 | []=>rfl
 | n::ns=>by show (zsD (ns.map D.int)).map (n::·)=_; rw [zvz ns]; rfl
theorem zul {G:Gc} {H:Hp} : ∀ {ns:List Int} {vs:List V},zae G H (ns.map D.int) vs->vs=ns.map V.int
 | [],_,h=>h
 | n::ns,_,⟨v,r,e,h1,h2⟩=>by rw [e,show v=V.int n from h1,zul h2]; rfl
noncomputable def zj5 (f:List Sl->Option D) (ρ:List Sl) : Option (List D):=(f ρ).bind fun d=>(lsD d).bind fun ds=>(zsD ds).bind fun ns=>if ns.length < 4000/\(zbs ns).length < 64 then some ((zbs ns).map .int) else none
section
variable {c:Str->Addr} {X:Cx} {e:Expr} {p p2 pos pos2:Pos}
theorem zx4 {f:List Sl->Option D} (hc:X.calm=true) (hgs:Gl X "sorted") (hms:X.mg "sorted"=none) (hgt:Gl X "set") (hmt:X.mg "set"=none) (ha:DE c X e f)
  (h1:starEach [.Call (.Name "set" p2) [e] [] pos2] X.env=(false,eval (.Call (.Name "set" p2) [e] [] pos2) X.env)::starEach [] X.env:=by rfl) (h2:starEach [e] X.env=(false,eval e X.env)::starEach [] X.env:=by rfl)
  (hpl:(backTo pos (starEach [] X.env)).any (·.1)=false:=by rfl) (hpl2:(backTo pos2 (starEach [] X.env)).any (·.1)=false:=by rfl) : DO c X (.Call (.Name "sorted" p) [.Call (.Name "set" p2) [e] [] pos2] [] pos) (zj5 f) :=
 PE.imp (z39 hc hgs hms hgt hmt ha h1 h2 hpl hpl2) fun σ H Q q_=>by
  obtain ⟨Hf0,H0,Hf,ρ,ds,st,ef,k⟩:=q_;unfold zj5 at ef
  cases e1 : f ρ with
  | none=>rw [e1] at ef; cases ef
  | some d =>
   rw [e1] at ef
   cases e2 : lsD d with
   | none=>rw [Option.bind_some,e2] at ef; cases ef
   | some xs =>
    rw [Option.bind_some,e2] at ef
    cases e3 : zsD xs with
    | none=>rw [Option.bind_some,e3] at ef; cases ef
    | some ns =>
     rw [Option.bind_some,e3,Option.bind_some] at ef;split at ef
     ·rename_i hl;cases ef;refine ⟨Hf0,H0,Hf,ρ,d,st,e1,fun v Hf' H' x r=>?_⟩;obtain ⟨l,vs,el,q,rs⟩:=zh8 e2 r;rw [zv0 e3] at rs;have ev:=zul rs;subst ev el;exact ⟨l,ns,rfl,x.s.seq q,hl.1,hl.2,fun pp hp=>k pp _ Hf' _ (x.trans (Ext.tmp x.s hp)) (x.h.free hp) (x.s.free hp) zbb (zae.ints _)⟩
     ·cases ef
noncomputable def zib (f g:List Sl->Option D) (ρ:List Sl) : Option (List D):=(f ρ).bind fun x=>(g ρ).bind fun y=>match x,y with
 | .lst a,.lst b=>if a.length + b.length<=16777216 then some (a++b) else none
 | _,_=>none
theorem z0t {f g:List Sl->Option D} {ρ:List Sl} {ds:List D} (h:zib f g ρ=some ds) : ∃ a b,f ρ=some (.lst a)/\g ρ=some (.lst b)/\a.length + b.length<=16777216/\ds=a++b:=by
 unfold zib at h
 cases e1 : f ρ with
 | none=>rw [e1] at h; cases h
 | some x =>
  cases e2 : g ρ with
  | none=>rw [e1,e2] at h; cases h
  | some y =>
   rw [e1,e2,Option.bind_some,Option.bind_some] at h;split at h
   ·split at h
    ·rename_i a b hl;cases h;exact ⟨a,b,rfl,rfl,hl,rfl⟩
    ·cases h
   ·cases h
theorem zx3 {a b:Expr} {f g:List Sl->Option D} (ha:DE c X a f) (hb:DE c X b g) : DO c X (.BinOp a .Add b pos) (zib f g):=PE.imp (zt8 ztz ha hb) fun σ H Q q_=>by
 obtain ⟨Hf0,H0,Hf,ρ,ds,st,ef,k⟩:=q_;obtain ⟨xs,ys,e1,e2,hl,rfl⟩:=z0t ef;refine ⟨Hf0,H0,Hf,ρ,_,st,e1,fun v Hf1 H1 x1 r1=>⟨Hf0,H0,Hf1,ρ,_,st.step x1,e2,fun u Hf2 H2 x2 r2=>?_⟩⟩;obtain ⟨l,vs,el,q1,s1⟩:=r1.up x2.f;obtain ⟨m,us,em,q2,s2⟩:=r2;subst el em;have x:=x1.trans x2;exact ⟨l,m,vs,us,rfl,rfl,x2.s _ _ q1,x2.s _ _ q2,by rw [sizeLine_eq,<- s1.length,<- s2.length]; exact hl,fun p hp=>k p _ Hf2 _ (x.trans (Ext.tmp x.s hp)) (x.h.free hp) (x.s.free hp) zbb (s1.append s2)⟩
end
noncomputable def wp (F:List Sl->Option Fl) (ρ:List Sl) (K:Fl->Prop) : Prop:=∃ o,F ρ=some o/\K o
noncomputable def zsm (F:List Sl->Option Fl) (K:Fl->Prop) : Fl->Prop
 | .nx ρ=>wp F ρ K
 | o=>K o
noncomputable def zn1 (J:List Sl->Prop) (K:Fl->Prop) : Fl->Prop
 | .nx ρ=>J ρ
 | .ct ρ=>J ρ
 | .bk ρ=>K (.nx ρ)
 | o=>K o
noncomputable def zlm (Q:D->Prop) (o:Fl) : Prop:=∃ d,zo8 o=some d/\Q d
theorem zat {F F':List Sl->Option Fl} {ρ:List Sl} {K:Fl->Prop} (h:wp F ρ (zsm F' K)) : wp (zam F F') ρ K:=by
 obtain ⟨o,e,k⟩:=h;unfold wp zam;rw [e]
 cases o with
 | nx ρ'=>exact k
 | _=>exact ⟨_,rfl,k⟩
theorem zcn {ρ:List Sl} {K:Fl->Prop} (h:K (.nx ρ)) : wp zbt ρ K:=⟨_,rfl,h⟩
theorem zcv {i:Nat} {f:List Sl->Option D} {ρ:List Sl} {d:D} {K:Fl->Prop} (h:f ρ=some d) (k:K (.nx (ρ.set i (.im d)))) : wp (zbj i f) ρ K:=⟨_,zu1 h,k⟩
theorem zfr {i:Nat} {f:List Sl->Option (List D)} {ρ:List Sl} {d:List D} {K:Fl->Prop} (h:f ρ=some d) (k:K (.nx (ρ.set i (.own d)))) : wp (zcz i f) ρ K:=⟨_,z6l h,k⟩
theorem ze8 {f:List Sl->Option D} {ρ:List Sl} {d:D} {K:Fl->Prop} (h:f ρ=some d) (k:K (.rt d)) : wp (za3 f) ρ K:=⟨_,zdu h,k⟩
theorem zvw {f:List Sl->Option (List D)} {ρ:List Sl} {d:List D} {K:Fl->Prop} (h:f ρ=some d) (k:K (.rtO d)) : wp (zev f) ρ K:=⟨_,by unfold zev; rw [h]; rfl,k⟩
theorem zca {t:List Sl->Option Bool} {F F':List Sl->Option Fl} {ρ:List Sl} {b:Bool} {K:Fl->Prop} (h:t ρ=some b) (kT:b=true->wp F ρ K) (kF:b=false->wp F' ρ K) : wp (zbg t F F') ρ K:=by
 unfold wp zbg;rw [h]
 cases b with
 | true=>exact kT rfl
 | false=>exact kF rfl
theorem zjk {i:Nat} {F:List Sl->Option Fl} {ρ ρ':List Sl} {K:Fl->Prop} (e:zlf i ρ=ρ') (h:wp F ρ' K) : wp (zeu i F) ρ K:=by
 subst e;exact h
theorem zgt {i:Nat} {f:List Sl->Option D} {ρ:List Sl} {d:D} {xs:List D} {K:Fl->Prop} (h:f ρ=some d) (h':ρ[i]?=some (.own xs)) (hl:xs.length < 16777216) (k:K (.nx (ρ.set i (.own (xs++[d]))))) : wp (zd4 i f) ρ K:=⟨_,zwc h h' hl,k⟩
theorem z47 {i:Nat} {fk fv:List Sl->Option D} {ρ:List Sl} {d:D} {xs:List D} {k:Int} (hv:fv ρ=some d) (hk:fk ρ=some (.int k)) (h':ρ[i]?=some (.own xs)) (h0:0<=k) (h1:k < xs.length) : zfz i fk fv ρ=some (.nx (ρ.set i (.own (xs.set k.toNat d)))):=by
 have e : ixN xs.length k=some k.toNat:=by
  unfold ixN;rw [if_pos h0,if_pos h1]
 unfold zfz;rw [hv,Option.bind_some,hk,Option.bind_some]
 show (match ρ[i]? with | some (.own xs)=>(ixN xs.length k).map fun j=>Fl.nx (ρ.set i (.own (xs.set j d))) | _=>none)=_
 rw [h'];show (ixN xs.length k).map _=_;rw [e];rfl
theorem zpu {i:Nat} {fk fv:List Sl->Option D} {ρ:List Sl} {d:D} {xs:List D} {k:Int} {K:Fl->Prop} (hv:fv ρ=some d) (hk:fk ρ=some (.int k)) (h':ρ[i]?=some (.own xs)) (h0:0<=k) (h1:k < xs.length) (q:K (.nx (ρ.set i (.own (xs.set k.toNat d))))) : wp (zfz i fk fv) ρ K:=⟨_,z47 hv hk h' h0 h1,q⟩
theorem zvu {α : Type} {g:D->List Sl->Option (List Sl)} {F:List Sl->Option Fl} {K:Fl->Prop} (f:α->D) (I:List α->List Sl->Prop) : ∀ (post pre:List α) (ρ:List Sl),I pre ρ ->
  (∀ pre' x post' ρ,pre++post=pre'++x::post'->I pre' ρ->∃ ρ1,g (f x) ρ=some ρ1/\wp F ρ1 (zn1 (I (pre'++[x])) K))->(∀ ρ',I (pre++post) ρ'->K (.nx ρ'))->wp (zfj g F (post.map f)) ρ K
 | [],pre,ρ,h,_,hk=>⟨_,rfl,hk ρ (by rw [List.append_nil]; exact h)⟩
 | x::post,pre,ρ,h,hs,hk=>by
  obtain ⟨ρ1,e1,o,e2,k2⟩:=hs pre x post ρ rfl h;unfold wp;rw [List.map_cons];unfold zfj;rw [e1,Option.bind_some,e2,Option.bind_some]
  have go : ∀ ρ2,I (pre++[x]) ρ2->wp (zfj g F (post.map f)) ρ2 K:=fun ρ2 h2 =>
   zvu f I post (pre++[x]) ρ2 h2 (by rw [List.append_assoc]; exact hs) (by rw [List.append_assoc]; exact hk)
  cases o with
  | nx ρ2=>exact go ρ2 k2
  | ct ρ2=>exact go ρ2 k2
  | bk ρ2=>exact ⟨_,rfl,k2⟩
  | rt d=>exact ⟨_,rfl,k2⟩
  | rtO d=>exact ⟨_,rfl,k2⟩
  | rtS d ρ2=>exact ⟨_,rfl,k2⟩
  | rtT o=>exact ⟨_,rfl,k2⟩
theorem zdw {α : Type} {fi:List Sl->Option (List D)} {g:D->List Sl->Option (List Sl)} {F:List Sl->Option Fl} {ρ:List Sl} {K:Fl->Prop} (xs:List α) (f:α->D) (I:List α->List Sl->Prop) (hi:fi ρ=some (xs.map f)) (h0:I [] ρ)
  (hs:∀ pre x post ρ,xs=pre++x::post->I pre ρ->∃ ρ1,g (f x) ρ=some ρ1/\wp F ρ1 (zn1 (I (pre++[x])) K)) (hk:∀ ρ',I xs ρ'->K (.nx ρ')) : wp (zct fi g F) ρ K:=by
 obtain ⟨o,e,k⟩:=zvu f I xs [] ρ h0 hs hk;refine ⟨o,?_,k⟩;unfold zct;rw [hi];exact e
theorem zpw {t:List Sl->Option Bool} {F:List Sl->Option Fl} {K:Fl->Prop} (I:Nat->List Sl->Prop) (hs:∀ m ρ,I m ρ->∃ b,t ρ=some b/\(b=true->wp F ρ (zn1 (fun ρ'=>∃ m',m' < m/\I m' ρ') K))/\(b=false->K (.nx ρ))) :
  ∀ (n m:Nat) (ρ:List Sl),I m ρ->m < n->wp (zex t F n) ρ K
 | 0,m,ρ,_,h=>absurd h (Nat.not_lt_zero _)
 | n + 1,m,ρ,h,hn=>by
  obtain ⟨b,e,kT,kF⟩:=hs m ρ h;unfold wp;unfold zex;rw [e,Option.bind_some]
  cases b with
  | false=>exact ⟨_,rfl,kF rfl⟩
  | true =>
   rw [if_pos rfl];obtain ⟨o,e2,k2⟩:=kT rfl;rw [e2,Option.bind_some]
   have go : ∀ ρ2,(∃ m',m' < m/\I m' ρ2)->wp (zex t F n) ρ2 K:=fun ρ2 q=>by
    obtain ⟨m',hm,h2⟩:=q;exact zpw I hs n m' ρ2 h2 (by omega)
   cases o with
   | nx ρ2=>exact go ρ2 k2
   | ct ρ2=>exact go ρ2 k2
   | bk ρ2=>exact ⟨_,rfl,k2⟩
   | rt d=>exact ⟨_,rfl,k2⟩
   | rtO d=>exact ⟨_,rfl,k2⟩
   | rtS d ρ2=>exact ⟨_,rfl,k2⟩
   | rtT o=>exact ⟨_,rfl,k2⟩
theorem zjl {n:Nat} {F:List Sl->Option Fl} {ds:List D} {Q:D->Prop} (h:wp F (zdh n ds) (zlm Q)) : ∃ d,za7 n F ds=some d/\Q d:=by
 obtain ⟨o,e,d,e',q⟩:=h;refine ⟨d,?_,q⟩;unfold za7;rw [e];exact e'
theorem zgv {n:Nat} {F:List Sl->Option Fl} {ds:List D} {r:D} (h:wp F (zdh n ds) (zlm fun d=>d=r)) : za7 n F ds=some r:=by
 obtain ⟨d,e,q⟩:=zjl h;rw [e,q]
theorem zc6 {Q:D->Prop} {d:D} (h:Q d) : zlm Q (.rt d):=⟨d,rfl,h⟩
theorem zh5 {Q:D->Prop} {d:List D} (h:Q (.lst d)) : zlm Q (.rtO d):=⟨.lst d,rfl,h⟩
theorem zkz {m:List D->Option D} {f:List Sl->Option (List D)} {ρ:List Sl} {ds:List D} {d:D} (h:f ρ=some ds) (h':m ds=some d) (hs:d.scalar=true) : zia m f ρ=some d:=by
 unfold zia;rw [h,Option.bind_some,h',Option.bind_some,if_pos hs]
theorem zk3 {i j:Int} (h:0 < j) : za9 (.int i) (.int j)=some (.int (i % j)):=zhv h
theorem zw7 {i j:Int} (h:zjn i j) : zfv (.int i) (.int j)=some (.int (i / j)):=zhv h
theorem zxe {i j:Int} (h:zgx i j) : zxc (.int i) (.int j)=some (.int (i * j)):=zhv h
theorem zxi {i j:Int} (h:zhs i j) : znd (.int i) (.int j)=some (.int (i ^ j.toNat)):=zhv h
theorem zxk {i j:Int} (h:0<=j) : zxj (.int i) (.int j)=some (.int (i / 2 ^ j.toNat)):=zhv h
theorem zw4 {i j:Int} : zb2 (.int i) (.int j)=some (.int (i + j)):=rfl
theorem zqr {i j:Int} : zga (.int i) (.int j)=some (.int (i - j)):=rfl
theorem zw6 {i j:Int} : zw5 (.int i) (.int j)=some (.int (Builtin.bitAnd i j)):=rfl
theorem zqp {i j:Int} : dLt (.int i) (.int j)=some (.bl (decide (i < j))):=rfl
theorem zqo {i j:Int} : dLe (.int i) (.int j)=some (.bl (decide (i<=j))):=rfl
theorem zk2 {i j:Int} : dGt (.int i) (.int j)=some (.bl (decide (j < i))):=rfl
theorem zqn {i j:Int} : dGe (.int i) (.int j)=some (.bl (decide (j<=i))):=rfl
theorem zlo {α : Type} (xs:List α) (f:α->D) : zfg [.lst (xs.map f)]=some (.int xs.length):=by
 show some (D.int ((xs.map f).length : Int))=_;rw [List.length_map]
theorem z0j {α : Type} (xs:List α) (f:α->D) : zfg [.kl (xs.map f)]=some (.int xs.length):=by
 show some (D.int ((xs.map f).length : Int))=_;rw [List.length_map]
theorem zqm {α : Type} (f:α->D) (xs:List α) (lo hi:Option Int) : zg8 (xs.map f) lo hi=((xs.drop (HT.sIx xs.length 0 lo)).take (HT.sIx xs.length xs.length hi - HT.sIx xs.length 0 lo)).map f:=by
 unfold zg8;rw [List.length_map,List.map_take,List.map_drop]
theorem zmm {α : Type} {f:List Sl->Option D} {l h:List Sl->Option (Option Int)} {ρ:List Sl} {g:α->D} {xs:List α} {lo hi:Option Int} (e:f ρ=some (.lst (xs.map g))) (e1:l ρ=some lo) (e2:h ρ=some hi) : mSl f l h ρ=some (((xs.drop (HT.sIx xs.length 0 lo)).take (HT.sIx xs.length xs.length hi - HT.sIx xs.length 0 lo)).map g):=by
 unfold mSl;rw [e,Option.bind_some];show (l ρ).bind (fun lo=>(h ρ).map fun hi=>zg8 (xs.map g) lo hi)=_;rw [e1,Option.bind_some,e2,<- zqm];rfl
theorem zu4 {α : Type} {f:List Sl->Option D} {l h:List Sl->Option (Option Int)} {ρ:List Sl} {g:α->D} {xs:List α} {lo hi:Option Int} (e:f ρ=some (.kl (xs.map g))) (e1:l ρ=some lo) (e2:h ρ=some hi) : mSl f l h ρ=some (((xs.drop (HT.sIx xs.length 0 lo)).take (HT.sIx xs.length xs.length hi - HT.sIx xs.length 0 lo)).map g):=by
 unfold mSl;rw [e,Option.bind_some];show (l ρ).bind (fun lo=>(h ρ).map fun hi=>zg8 (xs.map g) lo hi)=_;rw [e1,Option.bind_some,e2,<- zqm];rfl
theorem zxa {α : Type} (xs:List α) (f:α->D) : dEq (.lst (xs.map f)) (.lst [])=some (.bl xs.isEmpty):=by cases xs <;> rfl
theorem zqq {α : Type} (xs:List α) (f:α->D) : dNe (.lst (xs.map f)) (.lst [])=some (.bl (!xs.isEmpty)):=by cases xs <;> rfl
theorem z11 {α : Type} (g:α->D) (d:α) : ∀ (xs:List α),zfl 0 (xs.map g)=(List.range xs.length).map fun i=>D.tup [.int (i:Nat),g (xs.getD i d)]:=fun xs=>by
 refine List.ext_getElem? fun i=>?_;rw [zoy,List.getElem?_map,List.getElem?_map]
 by_cases h : i < xs.length
 ·rw [List.getElem?_eq_getElem h,List.getElem?_range h,Nat.zero_add];simp [h]
 ·rw [List.getElem?_eq_none (by omega),List.getElem?_eq_none (by rw [List.length_range]; omega)];rfl
theorem zri {α : Type} {f:List Sl->Option (List D)} {ρ:List Sl} {g:α->D} {xs:List α} (d:α) (e:f ρ=some [.lst (xs.map g)]) : zfi f ρ=some ((List.range xs.length).map fun i=>D.tup [.int (i:Nat),g (xs.getD i d)]):=by
 unfold zfi;rw [e,<- z11];rfl
theorem zs8 {α : Type} (f:α->Bool) (xs:List α) : (xs.map fun x=>D.bl (f x))=(xs.map f).map D.bl:=by
 rw [List.map_map];rfl
theorem z03 {α : Type} (f:α->Int) (xs:List α) : (xs.map fun x=>D.int (f x))=(xs.map f).map D.int:=by
 rw [List.map_map];rfl
noncomputable def kJ (J:List Sl->Prop) (o:Fl) : Prop:=∃ ρ',o=.nx ρ'/\J ρ'
theorem k_J {J:List Sl->Prop} {ρ:List Sl} (h:J ρ) : kJ J (.nx ρ):=⟨ρ,rfl,h⟩
theorem zvv {S F:List Sl->Option Fl} {ρ:List Sl} {K:Fl->Prop} (J:List Sl->Prop) (h:wp S ρ (kJ J)) (k:∀ ρ',J ρ'->wp F ρ' K) : wp (zam S F) ρ K:=by
 apply zat;obtain ⟨o,e,ρ',rfl,j⟩:=h;exact ⟨_,e,k ρ' j⟩
theorem z8j {i:Nat} {ρ:List Sl} {d:D} {K:Fl->Prop} (h:ρ[i]?=some (.im d)) (k:K (.rt d)) : wp (zef i) ρ K:=⟨_,by unfold zef; rw [h],k⟩
theorem zkp {i:Nat} {ρ:List Sl} {d:List D} {K:Fl->Prop} (h:ρ[i]?=some (.own d)) (k:K (.rtO d)) : wp (zef i) ρ K:=⟨_,by unfold zef; rw [h],k⟩
theorem zae.sc {G:Gc} {H H':Hp} : ∀ {ds:List D} {vs:List V},ds.all D.scalar=true->zae G H ds vs->zae G H' ds vs
 | [],_,_,h=>h
 | d::ds,_,hs,⟨v,r,e,h1,h2⟩=>by
  rw [List.all_cons,Bool.and_eq_true] at hs;exact ⟨v,r,e,h1.sc hs.1,zae.sc hs.2 h2⟩
section
variable {c:Str->Addr} {X:Cx} {e:Expr} {es:List Expr} {x:Str} {p pos:Pos} {k:Nat} {f:Addr} {fd:FuncData} {ps:List Str} {fa:List Sl->Option (List D)}
theorem zxo {m:List D->Option D} (F:zap X.prog X.w X.K X.mg X.base CX0 k f fd ps (spD (Gx c X) ps.length m)) (hr:za5 k X.A) (hg:Gl X x) (hm:X.mg x=some (.ref f)) (hk:PySem.W.keepIn X.K (.ref f)=true) (hb:zav X.K fd ps []) (ha:DAB c X (e::es) fa)
  (hl:(e::es).length=ps.length:=by rfl) (hdb:(x==("__debug__" : Str))=false:=by decide) (he:starEach (e::es) X.env=(false,eval e X.env)::starEach es X.env:=by rfl) (hpl:(backTo pos (starEach es X.env)).any (·.1)=false:=by rfl) :
  DB c X (.Call (.Name x p) (e::es) [] pos) (zay m fa):=PE.imp (zl8 F hr hg hm hk hb .nil zfm ha.pa hdb he hpl) fun σ H Q q_=>by
 obtain ⟨Hf0,H0,Hf,ρ,d,st,ef,kq⟩:=q_;obtain ⟨ds,e1,e2⟩:=zoa ef;refine ⟨Hf0,H0,Hf,ρ,ds,st,e1,fun vs Hf' H' x r=>?_⟩;dsimp only;rw [List.append_nil];exact ⟨H',ds,d,zaf.refl _,r,(ha.len ρ ds e1).trans hl,e2,fun v Hf2 H2 x2 r2=>kq v Hf' H2 (x.trans (Ext.grow x.s x2.h)) (r2.up x2.s)⟩
theorem zxp {f:List Sl->Option (List D)} (h:DAB c X es f) (hz:es.length<=1000:=by exact Nat.le_of_ble_eq_true rfl) : DB c X (.List es pos) (za2 f):=PE.imp (zo3 h.pa) fun σ H Q q_=>by
 obtain ⟨Hf0,H0,Hf,ρ,d,st,ef,k⟩:=q_;unfold za2 at ef
 cases ed : f ρ with
 | none=>rw [ed] at ef; cases ef
 | some ds =>
  rw [ed] at ef;have ef : D.lst ds=d:=Option.some.inj ef;subst ef
  exact ⟨Hf0,H0,Hf,ρ,ds,st,ed,fun vs Hf' H' x r=>⟨by
   rw [<- r.length,h.len ρ ds ed];exact Nat.le_of_lt (zpi hz),fun p hp=>k _ Hf' (upd H' p (.lst vs)) (x.trans (Ext.tmp x.s hp)) ⟨p,vs,rfl,zbb,r.up (zbz hp)⟩⟩⟩
noncomputable def zhl (m m':D->D->Option D) (f g h:List Sl->Option D) (ρ:List Sl) : Option D:=(f ρ).bind fun x=>(g ρ).bind fun y=>(m x y).bind fun z=>match z with
 | .bl true=>(h ρ).bind fun w=>m' y w
 | .bl false=>some (.bl false)
 | _=>none
theorem z0u {m m':D->D->Option D} {f g h:List Sl->Option D} {ρ:List Sl} {d:D} (e:zhl m m' f g h ρ=some d) : ∃ x y b,f ρ=some x/\g ρ=some y/\m x y=some (.bl b)/\(b=false->d=.bl false)/\(b=true->∃ w,h ρ=some w/\m' y w=some d):=by
 unfold zhl at e
 cases e1 : f ρ with
 | none=>rw [e1] at e; cases e
 | some x =>
  cases e2 : g ρ with
  | none=>rw [e1,e2] at e; cases e
  | some y =>
   rw [e1,e2,Option.bind_some,Option.bind_some] at e
   cases e3 : m x y with
   | none=>rw [e3] at e; cases e
   | some z =>
    rw [e3,Option.bind_some] at e
    cases z with
    | bl b =>
     cases b with
     | false =>
      have e : some (D.bl false)=some d:=e
      exact ⟨x,y,false,rfl,rfl,e3,fun _=>(Option.some.inj e).symm,fun q=>by cases q⟩
     | true =>
      have e : (h ρ).bind (fun w=>m' y w)=some d:=e
      cases e4 : h ρ with
      | none=>rw [e4] at e; cases e
      | some w=>rw [e4] at e; exact ⟨x,y,true,rfl,rfl,e3,fun q=>(by cases q),fun _=>⟨w,rfl,e⟩⟩
    | _=>cases e
theorem zyd {a b c':Expr} {op op':CmpOp} {m m':D->D->Option D} {f g h:List Sl->Option D} (ho:OpD c X (compareOp op) m) (hs:∀ x y d,m x y=some d->d.scalar=true) (ho':OpD c X (compareOp op') m') (hs':∀ x y d,m' x y=some d->d.scalar=true) (ha:DB c X a f) (hb:DB c X b g) (hc:DB c X c' h)
  (hm:lastMarks [op,op'] [b,c']=false:=by with_unfolding_all rfl) : DT c X (.Compare a [op,op'] [b,c'] pos) (mB (zhl m m' f g h)):=PT.imp (z4z ho ho' ha hb hc hm) fun σ H Q q_=>by
 obtain ⟨Hf0,H0,Hf,ρ,d,st,ef,k⟩:=q_;obtain ⟨x,y,b',e1,e2,e3,eF,eT⟩:=z0u (zj2 ef);refine ⟨Hf0,H0,Hf,ρ,x,st,e1,fun v Hf1 H1 x1 r1=>⟨Hf0,H0,Hf1,ρ,y,st.step x1,e2,fun u Hf2 H2 x2 r2=>⟨H2,x,y,.bl b',zaf.refl _,r1.up x2.h,r2,e3,fun z Hf3 H3 x3 r3=>⟨b',r3,?_⟩⟩⟩⟩;have x23 : Ext Hf2 H2 Hf2 H3:=Ext.grow x2.s x3.h;have st3 : zah (Gx c X) Hf0 H0 Hf2 H3 σ ρ:=(st.step (x1.trans x2)).step x23
 cases b' with
 | false =>
  rw [if_neg Bool.false_ne_true];have : d=false:=D.bl.inj (eF rfl);subst this
  exact ⟨false,rfl,k Hf2 H3 ((x1.trans x2).trans x23)⟩
 | true =>
  rw [if_pos rfl];obtain ⟨w,e4,e5⟩:=eT rfl;exact ⟨Hf0,H0,Hf2,ρ,w,st3,e4,fun w' Hf4 H4 x4 r4=>⟨H4,y,w,.bl d,zaf.refl _,r2.up (x3.h.trans x4.h),r4,e5,fun q Hf5 H5 x5 r5=>⟨d,r5,k Hf4 H5 (((x1.trans x2).trans x23).trans (x4.trans (Ext.grow x4.s x5.h)))⟩⟩⟩
end
theorem zm6 {m:List D->Option (List D)} {f:List Sl->Option (List D)} {ρ:List Sl} {ds rs:List D} (h:f ρ=some ds) (h':m ds=some rs) : zh9 m f ρ=some rs:=by
 unfold zh9;rw [h,Option.bind_some,h']
theorem zup {n:Nat} {F:List Sl->Option Fl} {ds rs:List D} (h:F (zdh n ds)=some (.rtO rs)) : zii n F ds=some rs:=by
 unfold zii;rw [h];rfl
theorem zws {m m':D->D->Option D} {f g h:List Sl->Option D} {ρ:List Sl} {x y w:D} {b b':Bool} (e1:f ρ=some x) (e2:g ρ=some y) (e3:m x y=some (.bl b)) (e4:h ρ=some w) (e5:m' y w=some (.bl b')) : zhl m m' f g h ρ=some (.bl (b && b')):=by
 unfold zhl;rw [e1,Option.bind_some,e2,Option.bind_some,e3,Option.bind_some]
 cases b with
 | false=>rfl
 | true =>
  show (h ρ).bind (fun w=>m' y w)=_;rw [e4];exact e5
theorem zp9 {k:Int} {n:Nat} (h:k.natAbs < 2 ^ n) : Builtin.Int.intBits k<=n:=by
 unfold Builtin.Int.intBits;split
 ·exact Nat.zero_le _
 ·rename_i hk;have : k.natAbs≠0:=fun z=>hk (by rw [Int.natAbs_eq_zero.mp z]; rfl);exact (Nat.log2_lt this).mpr h
noncomputable def ze9 (i j:Int) : Prop:=zgx i j\/(i.natAbs < 2 ^ 200/\j.natAbs < 2 ^ 200)
theorem ze9.ok {i j:Int} (h:ze9 i j) : IntMulOk i j:=by
 rcases h with h | ⟨h1,h2⟩
 ·exact h.ok
 ·have a:=zp9 h1;have b:=zp9 h2;unfold IntMulOk
  have : Builtin.Int.intTooBig (Builtin.Int.intBits i + Builtin.Int.intBits j)=false:=by
   unfold Builtin.Int.intTooBig;have c : (400 : Int)<=bitsLine:=by decide
   exact decide_eq_false (by omega)
  rw [this,Bool.and_false];exact Bool.false_ne_true
noncomputable instance {i j:Int} : Decidable (ze9 i j):=by unfold ze9; infer_instance
noncomputable abbrev zcb : D->D->Option D:=dI ze9 fun i j=>.int (i * j)
section
variable {c:Str->Addr} {X:Cx}
theorem z3j : OpR X (binaryOp .Mult) (rI ze9 fun i j=>.int (i * j)):=opI fun _ _ _ _ _ _ _ hc q=>mul_int q hc.ok
theorem ze1 : OpD c X (binaryOp .Mult) zcb:=zl1 z3j fun _ _ _ _=>rfl
end
theorem zxd {i j:Int} (h:ze9 i j) : zcb (.int i) (.int j)=some (.int (i * j)):=zhv h
noncomputable def zhx (H:Hp) (l:Addr) : Hp:=fun a=>if a=l then none else H a
theorem zxy {H:Hp} {l:Addr} : zhx H l l=none:=by unfold zhx; rw [if_pos rfl]
theorem zxx {H:Hp} {l a:Addr} (h:a≠l) : zhx H l a=H a:=by unfold zhx; rw [if_neg h]
section
variable {P:Program} {w:World} {K:PySem.W.Frag} {mg:Str->Option Value} {base:Heap} {c:Str->Addr}
end
noncomputable def tDX (G:Gc) (f:List Sl->Option (D×List Sl)) : TE:=fun σ H Q=>∃ Hf0 H0 Hf ρ d ρ',zah G Hf0 H0 Hf H σ ρ/\f ρ=some (d,ρ')/\∀ v Hf' H',zaf Hf Hf'->zah G Hf0 H0 Hf' H' σ ρ'->Rep G Hf' d v->Q v H'
noncomputable def DX (c:Str->Addr) (X:Cx) (e:Expr) (f:List Sl->Option (D×List Sl)) : Prop:=PE X e (tDX (Gx c X) f)
section
variable {c:Str->Addr} {X:Cx} {k:Nat} {f C:Addr} {fd:FuncData} {ps:List Str} {x:Str} {p pos apos:Pos} {e o tg iter:Expr} {es:List Expr} {fa ga:List Sl->Option (List D)} {i:Nat}
end
open Classical in
section
variable {P:Program} {w:World} {K:PySem.W.Frag} {mg:Str->Option Value} {base:Heap} {c:Str->Addr}
end
theorem zah.giveS {G:Gc} {Hf0 H0 Hf H:Hp} {σ:St} {ρ:List Sl} {i:Nat} {l:Addr} {s:Sl} (hs:s.isOwn=true) (h:zah G Hf0 H0 Hf H σ ρ) (e:ρ[i]?=some s) (el:σ[i]?=some (some (.ref l))) : zah G Hf0 H0 Hf (zhx H l) σ (ρ.set i .no):=by
 refine h.chg e el (fun b u hb=>?_) trivial fun a p=>(p.calm rfl).elim
 by_cases hl : b=l
 ·subst hl; exact .inl ((Holds.own hs).mpr rfl)
 ·exact .inr (by rw [zxx hl]; exact hb)
theorem zah.back {G:Gc} {Hf0 H0 Hf H Hf' H':Hp} {σ:St} {ρ:List Sl} {i:Nat} {l:Addr} {s s':Sl} (hs:s.isOwn=true) (hs':s'.isOwn=true) (h:zah G Hf0 H0 Hf H σ ρ) (e:ρ[i]?=some s) (el:σ[i]?=some (some (.ref l))) (x:Ext Hf (zhx H l) Hf' H') (hf:Hf' l=none) (ho:zdk G Hf' H' l s') : zah G Hf0 H0 Hf' H' σ (ρ.set i s'):=by
 have:=(h.giveS hs e el).setOwn (i:=i) (l:=l) hs' x zxy hf ho;rw [List.set_set] at this
 have e2 : σ.set i (some (.ref l))=σ:=by
  apply List.ext_getElem?;intro j
  by_cases hj : i=j
  ·subst hj;rw [List.getElem?_set_self (List.getElem?_eq_some_iff.mp el).1,el]
  ·rw [List.getElem?_set_ne hj]
 rw [e2] at this;exact this
section
variable {c:Str->Addr} {X:Cx} {k n0:Nat} {f:Addr} {fd:FuncData} {ps:List Str} {x:Str} {p pos pos':Pos} {e:Expr} {es:List Expr} {fa:List Sl->Option (List D×List D)} {i:Nat}
open Classical in
noncomputable def zgh (f:List Sl->Option (D×List Sl)) (ρ:List Sl) : Option Fl:=(f ρ).map fun p=>.nx p.2
theorem zx5 {f:List Sl->Option (D×List Sl)} (he:DX c X e f) (hs:swapsWith e none pos.line X.env=pure false:=by rfl) : DS c X (.Expr e pos) (zgh f):=PS.imp (ze3 he hs) fun E σ H q_=>by
 obtain ⟨Hf0,H0,Hf,ρ,o,so,ef,k⟩:=q_;unfold zgh at ef
 cases e1 : f ρ with
 | none=>rw [e1] at ef; cases ef
 | some p =>
  rw [e1] at ef;cases ef;exact ⟨Hf0,H0,Hf,ρ,p.1,p.2,so,e1,fun v Hf' H' s so' r=>k σ Hf' H' s so'⟩
end
theorem zvt {f:List Sl->Option (D×List Sl)} {ρ ρ':List Sl} {d:D} {K:Fl->Prop} (h:f ρ=some (d,ρ')) (k:K (.nx ρ')) : wp (zgh f) ρ K:=⟨_,by unfold zgh; rw [h]; rfl,k⟩
theorem zvx {f:List Sl->Option D} {ρ:List Sl} {d:D} {K:Fl->Prop} (h:f ρ=some d) (k:K (.rtS d ρ)) : wp (zhn f) ρ K:=⟨_,by unfold zhn; rw [h]; rfl,k⟩
noncomputable def Fre (B Hf:Hp) (fp:List Addr) : Prop:=fp.Nodup/\∀ a∈fp,B a=none/\Hf a=none
theorem Fre.nil {B Hf:Hp} : Fre B Hf []:=⟨.nil,fun _ h=>nomatch h⟩
theorem Fre.one {B Hf:Hp} {l:Addr} (h:B l=none) (h':Hf l=none) : Fre B Hf [l]:=⟨List.nodup_cons.mpr ⟨List.not_mem_nil,List.nodup_nil⟩,fun a ha=>by rw [List.mem_singleton.mp ha]; exact ⟨h,h'⟩⟩
theorem Fre.imp {B B' Hf:Hp} {fp:List Addr} (h:Fre B Hf fp) (k:∀ a,B a=none->B' a=none) : Fre B' Hf fp:=⟨h.1,fun a ha=>⟨k a (h.2 a ha).1,(h.2 a ha).2⟩⟩
noncomputable def bsH (b:Bool) (H0 H:Hp) : Hp:=bif b then H else H0
theorem zm5 {b:Bool} {H0 H:Hp} (s:zaf H0 H) {a:Addr} (h:H a=none) : bsH b H0 H a=none:=by
 cases b with
 | true=>exact h
 | false=>exact s.free h
noncomputable def tDZ (G:Gc) (b:Bool) (f:List Sl->Option O) : TE:=fun σ H Q=>∃ Hf0 H0 Hf ρ o,zah G Hf0 H0 Hf H σ ρ/\f ρ=some o/\∀ u fp Hf' H',Ext Hf H Hf' H'->OT G Hf' H' o u fp->Fre (bsH b H0 H) Hf' fp->Q u H'
noncomputable def DZ (c:Str->Addr) (X:Cx) (b:Bool) (e:Expr) (f:List Sl->Option O) : Prop:=PE X e (tDZ (Gx c X) b f)
noncomputable def zFz (f:List Sl->Option D) (ρ:List Sl) : Option O:=(f ρ).map .fz
noncomputable def zgw (f:List Sl->Option (List D)) (ρ:List Sl) : Option O:=(f ρ).map fun ds=>.lst (ds.map .fz)
theorem OTs.snoc {G:Gc} {Hf H:Hp} {o:O} {u:V} {fp:List Addr} (h:OT G Hf H o u fp) : ∀ {ds:List D} {vs:List V},zae G Hf ds vs->OTs G Hf H (ds.map .fz++[o]) (vs++[u]) fp
 | [],_,r=>by cases (show _=[] from r); exact ⟨u,[],fp,[],rfl,h,⟨rfl,rfl⟩,(List.append_nil _).symm⟩
 | d::ds,_,⟨v,r,e,h1,h2⟩=>by subst e; exact ⟨v,r++[u],[],fp,rfl,⟨h1,rfl⟩,OTs.snoc h h2,rfl⟩
section
variable {c:Str->Addr} {X:Cx} {b:Bool} {e o a a':Expr} {es:List Expr} {pos:Pos}
theorem zrh {f:List Sl->Option D} (h:DE c X e f) : DZ c X b e (zFz f):=PE.imp h fun σ H Q q_=>by
 obtain ⟨Hf0,H0,Hf,ρ,t,st,ef,k⟩:=q_;unfold zFz at ef
 cases ed : f ρ with
 | none=>rw [ed] at ef; cases ef
 | some d =>
  rw [ed] at ef;cases ef;exact ⟨Hf0,H0,Hf,ρ,d,st,ed,fun v Hf' H' x r=>k v [] Hf' H' x ⟨r,rfl⟩ .nil⟩
theorem zlb {f:List Sl->Option (List D)} (h:DO c X e f) : DZ c X b e (zgw f):=PE.imp h fun σ H Q q_=>by
 obtain ⟨Hf0,H0,Hf,ρ,t,st,ef,k⟩:=q_;unfold zgw at ef
 cases ed : f ρ with
 | none=>rw [ed] at ef; cases ef
 | some ds =>
  rw [ed] at ef;cases ef;exact ⟨Hf0,H0,Hf,ρ,ds,st,ed,fun l vs Hf' H' x hn hf hl r=>k _ [l] Hf' H' x ⟨l,vs,[],rfl,hl,OTs.fz r,rfl⟩ (.one (zm5 st.ext.h hn) hf)⟩
noncomputable def zB (f:List Sl->Option O) (ρ:List Sl) : Option D:=(f ρ).bind fun o=>if o.kn then some o.toD else none
theorem DZ.db {f:List Sl->Option O} (h:DZ c X true e f) : DB c X e (zB f):=PE.imp h fun σ H Q q_=>by
 obtain ⟨Hf0,H0,Hf,ρ,d,st,ef,k⟩:=q_;unfold zB at ef
 cases ed : f ρ with
 | none=>rw [ed] at ef; cases ef
 | some o =>
  rw [ed,Option.bind_some] at ef;split at ef
  ·rename_i hk;cases ef;exact ⟨Hf0,H0,Hf,ρ,o,st,ed,fun u fp Hf' H' x r _=>k u Hf' H' x (r.rep x.s hk)⟩
  ·cases ef
end
section
variable {P:Program} {w:World} {K:PySem.W.Frag} {mg:Str->Option Value} {base:Heap} {c:Str->Addr}
end
section
variable {G:Gc} {Hf Hf' H:Hp}
end
section
variable {c:Str->Addr} {X:Cx} {b:Bool} {k:Nat} {f:Addr} {fd:FuncData} {ps:List Str} {x:Str} {p pos:Pos} {e:Expr} {es:List Expr} {fa:List Sl->Option (List D)}
end
section
variable {c:Str->Addr} {X:Cx} {st:Stmt} {e:Expr} {pos:Pos}
theorem OTs.at : ∀ {G:Gc} {Hf H:Hp} {os:List O} {vs:List V} {fp:List Addr} {k:Nat} {o:O},OTs G Hf H os vs fp->os[k]?=some o->∃ v f,vs[k]?=some v/\OT G Hf H o v f/\∀ a∈f,a∈fp
 | _,_,_,[],_,_,_,_,_,e=>by simp at e
 | _,_,_,o::os,_,_,0,o',⟨v,r,f1,f2,e,h1,h2,ef⟩,e'=>by
  rw [List.getElem?_cons_zero] at e';cases e';subst e ef
  exact ⟨v,f1,rfl,h1,fun a ha=>List.mem_append_left _ ha⟩
 | _,_,_,o::os,_,_,k + 1,o',⟨v,r,f1,f2,e,h1,h2,ef⟩,e'=>by
  rw [List.getElem?_cons_succ] at e';subst e ef;obtain ⟨v',f,a,b,m⟩:=OTs.at h2 e';exact ⟨v',f,by rw [List.getElem?_cons_succ]; exact a,b,fun a ha=>List.mem_append_right _ (m a ha)⟩
end
theorem OTs.length {G:Gc} {Hf H:Hp} : ∀ {os:List O} {vs:List V} {fp:List Addr},OTs G Hf H os vs fp->os.length=vs.length
 | [],_,_,h=>by rw [h.1]; rfl
 | o::os,_,_,⟨v,r,f1,f2,e,h1,h2,ef⟩=>by subst e; simp [OTs.length h2]
theorem OTs.append {G:Gc} {Hf H:Hp} : ∀ {os ps:List O} {vs us:List V} {f g:List Addr},OTs G Hf H os vs f->OTs G Hf H ps us g->OTs G Hf H (os++ps) (vs++us) (f++g)
 | [],_,_,_,_,_,h,t=>by obtain ⟨a,b⟩:=h; subst a b; exact t
 | o::os,_,_,_,_,_,⟨v,r,f1,f2,e,h1,h2,ef⟩,t=>by subst e ef; exact ⟨v,r++_,f1,f2++_,rfl,h1,OTs.append h2 t,List.append_assoc _ _ _⟩
theorem OTs.one {G:Gc} {Hf H:Hp} {o:O} {v:V} {f:List Addr} (h:OT G Hf H o v f) : OTs G Hf H [o] [v] f:=⟨v,[],f,[],rfl,h,⟨rfl,rfl⟩,(List.append_nil _).symm⟩
theorem OTs.up {G:Gc} {Hf H Hf' H':Hp} {os:List O} {vs:List V} {fp:List Addr} (h:OTs G Hf H os vs fp) (f:zaf Hf Hf') (s:zaf H H') : OTs G Hf' H' os vs fp:=OTs.frameM f os vs fp h fun b u e _=>s b u e
theorem Fre.step {B Hf H Hf' H':Hp} {fs:List Addr} (z:Fre B Hf fs) (m:∀ a∈fs,∃ u,H a=some u/\zea u=false) (x:Ext Hf H Hf' H') : Fre B Hf' fs:=⟨z.1,fun a ha=>⟨(z.2 a ha).1,by
 obtain ⟨u,hu,ht⟩:=m a ha;rw [x.n a u hu ht];exact (z.2 a ha).2⟩⟩
section
variable {c:Str->Addr} {X:Cx} {elt tg iter e:Expr} {ifs:List Expr} {scope:Scope} {pos:Pos} {Nc:List Str} {k:Nat} {js:List Nat} {b:Bool}
 {fi:List Sl->Option (List D)} {g:D->List Sl->Option (List Sl)} {ft:List Sl->Option Bool} {fe:List Sl->Option O}
end
section
variable {c:Str->Addr} {X:Cx} {st:Stmt}
end
noncomputable def O.appd (o:O) (d:D) : Option O:=match o with
 | .lst xs=>if xs.length < 16777216 then some (.lst (xs++[.fz d])) else none
 | .jnk n=>if n < 16777216 then some (.jnk (n + 1)) else none
 | _=>none
theorem zp2 {G:Gc} {Hf H:Hp} {o o':O} {d:D} {v:V} {fk:List Addr} (h:o.appd d=some o') (r:OT G Hf H o v fk) : ∃ l us,v=.ref l/\H l=some (.lst us)/\us.length < 16777216/\l∈fk /\
  ∀ Hf' H' w,fk.Nodup->zaf Hf Hf'->(∀ b u,b≠l->H b=some u->H' b=some u)->H' l=some (.lst (us++[w]))->Rep G Hf' d w->OT G Hf' H' o' v fk:=by
 cases o with
 | lst xs =>
  replace h : (if xs.length < 16777216 then some (O.lst (xs++[.fz d])) else none)=some o':=h;split at h
  ·rename_i hl;cases h;obtain ⟨l,us,fs,e,q,rs,ef⟩:=r;subst e ef;refine ⟨l,us,rfl,q,by rw [<- rs.length]; exact hl,List.mem_cons_self,fun Hf' H' w n f k2 q' rw'=>?_⟩
   have o1 : OTs G Hf' H' xs us fs:=OTs.frameM f xs us fs rs fun b u hb hm=>k2 b u (fun z=>by
    subst z;rw [q] at hb;cases hb
    rcases hm with hm | hm
    ·cases hm
    ·exact (List.nodup_cons.mp n).1 hm) hb
   have o2:=o1.append (.one (o:=.fz d) (v:=w) (f:=[]) ⟨rw',rfl⟩);rw [List.append_nil] at o2;exact ⟨l,us++[w],fs,rfl,q',o2,rfl⟩
  ·cases h
 | jnk n =>
  replace h : (if n < 16777216 then some (O.jnk (n + 1)) else none)=some o':=h;split at h
  ·rename_i hl;cases h;obtain ⟨l,us,e,q,z,ef⟩:=r;subst e ef;exact ⟨l,us,rfl,q,by omega,List.mem_cons_self,fun Hf' H' w _ f k2 q' rw'=>⟨l,us++[w],rfl,q',by rw [List.length_append,List.length_singleton]; omega,rfl⟩⟩
  ·cases h
 | _=>cases h
section
variable {c:Str->Addr} {X:Cx} {st:Stmt}
end
section
variable {c:Str->Addr} {X:Cx} {b:Bool} {k:Nat} {f:Addr} {fd:FuncData} {ps:List Str} {fl cn:Str} {pos apos:Pos} {o e:Expr} {fo:List Sl->Option D}
noncomputable def zOr (f g:List Sl->Option O) (ρ:List Sl) : Option O:=(f ρ).or (g ρ)
theorem DZ.orE {f g:List Sl->Option O} (h:DZ c X b e f) (h':DZ c X b e g) : DZ c X b e (zOr f g):=fun pins s σ H Q I q_=>by
 obtain ⟨Hf0,H0,Hf,ρ,d,st,ef,k⟩:=q_;unfold zOr at ef
 cases ed : f ρ with
 | some d' =>
  rw [ed] at ef;cases ef
  exact h pins s σ H Q I ⟨Hf0,H0,Hf,ρ,_,st,ed,k⟩
 | none =>
  rw [ed] at ef;exact h' pins s σ H Q I ⟨Hf0,H0,Hf,ρ,d,st,ef,k⟩
end
noncomputable def zdc (H:Hp) (fp:List Addr) : Hp:=fun a=>if a∈fp then none else H a
theorem znj {H:Hp} {fp:List Addr} {a:Addr} (h:a∈fp) : zdc H fp a=none:=by unfold zdc; rw [if_pos h]
theorem zjv {H:Hp} {fp:List Addr} {a:Addr} (h:a∉fp) : zdc H fp a=H a:=by unfold zdc; rw [if_neg h]
theorem zxw {H:Hp} {fp:List Addr} : zaf (zdc H fp) H:=fun a o e=>by
 by_cases h : a∈fp
 ·rw [znj h] at e; cases e
 ·rw [zjv h] at e; exact e
theorem zus {F H:Hp} {fp:List Addr} (s:zaf F H) (h:∀ a∈fp,F a=none) : zaf F (zdc H fp):=fun a o e=>by
 rw [zjv (fun z=>by rw [h a z] at e; cases e)]; exact s a o e
section
variable {P:Program} {w:World} {K:PySem.W.Frag} {mg:Str->Option Value} {base:Heap} {c:Str->Addr}
end
section
variable {c:Str->Addr} {X:Cx} {k:Nat} {f:Addr} {fd:FuncData} {q x:Str} {p pos spos:Pos} {e:Expr}
end
noncomputable abbrev Xe:=List Sl->Option (D×List Sl)
noncomputable abbrev Xa:=List Sl->Option (List D×List Sl)
noncomputable def mX (f:List Sl->Option D) : Xe:=fun ρ=>(f ρ).map fun d=>(d,ρ)
noncomputable def zob : Xa:=fun ρ=>some ([],ρ)
noncomputable def zfy (f:Xe) (g:Xa) : Xa:=fun ρ=>(f ρ).bind fun p=>(g p.2).map fun q=>(p.1::q.1,q.2)
theorem z0w {f:List Sl->Option D} {ρ ρ':List Sl} {d:D} (h:mX f ρ=some (d,ρ')) : f ρ=some d/\ρ'=ρ:=by
 unfold mX at h
 cases e : f ρ with
 | none=>rw [e] at h; cases h
 | some d'=>rw [e] at h; cases h; exact ⟨rfl,rfl⟩
theorem zs4 {f:Xe} {g:Xa} {ρ ρ':List Sl} {ds:List D} (h:zfy f g ρ=some (ds,ρ')) : ∃ d r ρ1,f ρ=some (d,ρ1)/\g ρ1=some (r,ρ')/\ds=d::r:=by
 unfold zfy at h
 cases e1 : f ρ with
 | none=>rw [e1] at h; cases h
 | some p =>
  rw [e1,Option.bind_some] at h
  cases e2 : g p.2 with
  | none=>rw [e2] at h; cases h
  | some q=>rw [e2] at h; cases h; exact ⟨p.1,q.1,p.2,rfl,e2,rfl⟩
noncomputable def zvc (G:Gc) (f:Xa) : TA:=fun σ H Q=>∃ Hf0 H0 Hf ρ ds ρ',zah G Hf0 H0 Hf H σ ρ/\f ρ=some (ds,ρ')/\∀ vs Hf' H',zaf Hf Hf'->zah G Hf0 H0 Hf' H' σ ρ'->zae G Hf' ds vs->Q vs H'
structure DAX (c:Str->Addr) (X:Cx) (es:List Expr) (f:Xa) : Prop where
 pa : PA X es (zvc (Gx c X) f)
 len : ∀ ρ ds ρ',f ρ=some (ds,ρ')->ds.length=es.length
section
variable {c:Str->Addr} {X:Cx} {st:Stmt} {e a b:Expr} {es:List Expr} {pos pos' p:Pos}
theorem DE.dx {f:List Sl->Option D} (h:DE c X e f) : DX c X e (mX f):=PE.imp h fun σ H Q q_=>by
 obtain ⟨Hf0,H0,Hf,ρ,d,ρ',st,ef,k⟩:=q_;obtain ⟨e1,rfl⟩:=z0w ef;exact ⟨Hf0,H0,Hf,_,d,st,e1,fun v Hf' H' x r=>k v Hf' H' x.f (st.step x) r⟩
theorem zxn : DAX c X [] zob:=⟨PA.imp zdf fun σ H Q ⟨Hf0,H0,Hf,ρ,ds,ρ',st,ef,k⟩=>by cases ef; exact k [] Hf H (zaf.refl _) st rfl,fun ρ ds ρ' h=>by cases h; rfl⟩
theorem zqt {f:Xe} {g:Xa} (ha:DX c X e f) (hr:DAX c X es g) (hs:starEach (e::es) X.env=(false,eval e X.env)::starEach es X.env:=by rfl) : DAX c X (e::es) (zfy f g):=by
 refine ⟨PA.imp (zde ha hr.pa hs) fun σ H Q ⟨Hf0,H0,Hf,ρ,ds,ρ',st,ef,k⟩=>?_,fun ρ ds ρ' h=>?_⟩
 ·obtain ⟨d,r,ρ1,e1,e2,rfl⟩:=zs4 ef;exact ⟨Hf0,H0,Hf,ρ,d,ρ1,st,e1,fun v Hf1 H1 f1 st1 r1=>⟨Hf0,H0,Hf1,ρ1,r,ρ',st1,e2,fun vs Hf2 H2 f2 st2 r2=>k _ Hf2 H2 (f1.trans f2) st2 (.cons (r1.up f2) r2)⟩⟩
 ·obtain ⟨d,r,ρ1,e1,e2,rfl⟩:=zs4 h;simp [hr.len ρ1 r ρ' e2]
end
open Classical in
section
variable {c:Str->Addr} {X:Cx} {k:Nat} {f:Addr} {fd:FuncData} {ps:List Str} {x:Str} {p pos pos':Pos} {e:Expr} {es:List Expr} {fa:Xa} {i:Nat}
end
section
variable {c:Str->Addr} {X:Cx} {st:Stmt} {e a b:Expr} {pos pos' p:Pos} {as bs:List Stmt} {F F':List Sl->Option Fl}
end
section
variable {c:Str->Addr} {X:Cx} {e a b tg:Expr} {pos p:Pos}
end
open Classical in
section
variable {P:Program} {w:World} {K:PySem.W.Frag} {mg:Str->Option Value} {base:Heap} {c:Str->Addr}
end
open Classical in
section
variable {c:Str->Addr} {X:Cx} {k:Nat} {f:Addr} {fd:FuncData} {ps:List Str} {fl cn:Str} {ns:List Str} {p pos apos:Pos} {e o:Expr} {es:List Expr} {fa:Xa} {i:Nat} {m:Addr->List D->List D->Option (List D×D)}
theorem zx6 {st:Stmt} : DS c X st (fun _=>none):=fun pins s σ H E I q_=>by
 obtain ⟨Hf0,H0,Hf,ρ,o,so,ef,k⟩:=q_;cases ef
end
structure Foc (G:Gc) (Hf H:Hp) (o:O) (v:V) (fp:List Addr) (o1:O) (v1:V) (f1:List Addr) (R:O->O) : Prop where
 r : OT G Hf H o1 v1 f1
 n : f1.Nodup
 sub : ∀ a∈f1,a∈fp
 back : ∀ (Hf' H':Hp) (o2:O) (f2:List Addr),zaf Hf Hf'->(∀ b u,H b=some u->b∉f1->H' b=some u)->OT G Hf' H' o2 v1 f2 ->
  ∃ fp',OT G Hf' H' (R o2) v fp'/\(∀ a∈fp',a∈f2\/(a∈fp/\a∉f1))/\(f2.Nodup->(∀ a∈f2,a∈fp->a∈f1)->fp'.Nodup)
section
variable {G:Gc} {Hf H Hf' H':Hp}
theorem Foc.refl {o:O} {v:V} {fp:List Addr} (h:OT G Hf H o v fp) (n:fp.Nodup) : Foc G Hf H o v fp o v fp id :=
 ⟨h,n,fun _ h=>h,fun _ _ _ f2 _ _ q=>⟨f2,q,fun _ h=>.inl h,fun n _=>n⟩⟩
theorem Foc.trans {o o1 o2:O} {v v1 v2:V} {fp f1 f2:List Addr} {R R':O->O} (F:Foc G Hf H o v fp o1 v1 f1 R) (F':Foc G Hf H o1 v1 f1 o2 v2 f2 R') : Foc G Hf H o v fp o2 v2 f2 (fun x=>R (R' x)):=by
 refine ⟨F'.r,F'.n,fun a h=>F.sub a (F'.sub a h),fun Hf' H' o3 f3 s k h=>?_⟩;obtain ⟨f1',r1,m1,n1⟩:=F'.back Hf' H' o3 f3 s k h;obtain ⟨fp',r2,m2,n2⟩:=F.back Hf' H' (R' o3) f1' s (fun b u e hb=>k b u e fun z=>hb (F'.sub b z)) r1;refine ⟨fp',r2,fun a ha=>?_,fun nf hf=>n2 (n1 nf fun a ha hb=>hf a ha (F.sub a hb)) fun a ha hb=>?_⟩
 ·rcases m2 a ha with z | ⟨z,z'⟩
  ·rcases m1 a z with y | ⟨y,y'⟩
   ·exact .inl y
   ·exact .inr ⟨F.sub a y,y'⟩
  ·exact .inr ⟨z,fun y=>z' (F'.sub a y)⟩
 ·rcases m1 a ha with y | ⟨y,_⟩
  ·exact F'.sub a (hf a y hb)
  ·exact y
theorem ztm {o:O} {v:V} {f:List Addr} (h:OT G Hf H o v f) {b:Addr} {u:HO} (e:H b=some u) (t:zea u=true) : b∉f:=fun z=>by
 obtain ⟨u',hu,ht⟩:=OT.memM o v f h b z;rw [e] at hu;cases hu;rw [t] at ht;cases ht
theorem OTs.foc : ∀ {os:List O} {vs:List V} {fp:List Addr} {k:Nat} {o1:O},OTs G Hf H os vs fp->fp.Nodup->os[k]?=some o1->∃ v1 f1,vs[k]?=some v1/\OT G Hf H o1 v1 f1/\f1.Nodup/\(∀ a∈f1,a∈fp) /\
  ∀ (Hf' H':Hp) (o2:O) (v2:V) (f2:List Addr),zaf Hf Hf'->(∀ b u,H b=some u->(zea u=true\/b∈fp)->b∉f1->H' b=some u)->OT G Hf' H' o2 v2 f2 ->
  ∃ fp',OTs G Hf' H' (os.set k o2) (vs.set k v2) fp'/\(∀ a∈fp',a∈f2\/(a∈fp/\a∉f1))/\(f2.Nodup->(∀ a∈f2,a∈fp->a∈f1)->fp'.Nodup)
 | [],_,_,_,_,_,_,e=>by simp at e
 | o::os,_,_,0,o1,⟨v,r,f1,g,e,h1,h2,ef⟩,n,e'=>by
  rw [List.getElem?_cons_zero] at e';cases e';subst e ef;obtain ⟨n1,n2,dj⟩:=List.nodup_append.mp n;refine ⟨v,f1,rfl,h1,n1,fun a ha=>List.mem_append_left _ ha,fun Hf' H' o2 v2 f2 s k h=>⟨f2++g,?_,fun a ha=>?_,fun nf hf=>?_⟩⟩
  ·rw [List.set_cons_zero,List.set_cons_zero];refine ⟨v2,r,f2,g,rfl,h,OTs.frameM s os r g h2 fun b u hb hm=>k b u hb (hm.imp_right fun y=>List.mem_append_right _ y) fun z=>?_,rfl⟩
   rcases hm with t | t
   ·exact ztm h1 hb t z
   ·exact dj b z b t rfl
  ·rcases List.mem_append.mp ha with z | z
   ·exact .inl z
   ·exact .inr ⟨List.mem_append_right _ z,fun y=>dj a y a z rfl⟩
  ·exact List.nodup_append.mpr ⟨nf,n2,fun a ha b hb z=>by subst z; exact dj a (hf a ha (List.mem_append_right _ hb)) a hb rfl⟩
 | o::os,_,_,k + 1,o1,⟨v,r,f,g,e,h1,h2,ef⟩,n,e'=>by
  rw [List.getElem?_cons_succ] at e';subst e ef;obtain ⟨n1,n2,dj⟩:=List.nodup_append.mp n;obtain ⟨v1,f1,ev,q,nq,sb,bk⟩:=OTs.foc h2 n2 e';refine ⟨v1,f1,by rw [List.getElem?_cons_succ]; exact ev,q,nq,fun a ha=>List.mem_append_right _ (sb a ha),fun Hf' H' o2 v2 f2 s k h=>?_⟩;obtain ⟨g',r',m',n'⟩:=bk Hf' H' o2 v2 f2 s (fun b u hb hm=>k b u hb (hm.imp_right fun y=>List.mem_append_right _ y)) h;refine ⟨f++g',?_,fun a ha=>?_,fun nf hf=>?_⟩
  ·rw [List.set_cons_succ,List.set_cons_succ];refine ⟨v,_,f,g',rfl,h1.frame s fun b u hb hm=>k b u hb (hm.imp_right fun y=>List.mem_append_left _ y) fun z=>?_,r',rfl⟩
   rcases hm with t | t
   ·exact ztm q hb t z
   ·exact dj b t b (sb b z) rfl
  ·rcases List.mem_append.mp ha with z | z
   ·exact .inr ⟨List.mem_append_left _ z,fun y=>dj a z a (sb a y) rfl⟩
   ·rcases m' a z with y | ⟨y,y'⟩
    ·exact .inl y
    ·exact .inr ⟨List.mem_append_right _ y,y'⟩
  ·refine List.nodup_append.mpr ⟨n1,n' nf fun a ha hb=>hf a ha (List.mem_append_right _ hb),fun a ha b hb z=>?_⟩;subst z
   rcases m' a hb with y | ⟨y,_⟩
   ·exact dj a ha a (sb a (hf a y (List.mem_append_left _ ha))) rfl
   ·exact dj a ha a y rfl
theorem zml {α : Type} : ∀ {l:List α} {k:Nat} {x:α},l[k]?=some x->l.set k x=l
 | [],_,_,e=>by simp at e
 | _::_,0,_,e=>by simp at e; subst e; rfl
 | a::l,k + 1,x,e=>by rw [List.getElem?_cons_succ] at e; rw [List.set_cons_succ,zml e]
theorem Foc.root {o:O} {a:Addr} {u:HO} {os:List O} {vs:List V} {fs:List Addr} {k:Nat} {o1:O} {W:List O->O} (ha:H a=some u) (ht:zea u=false) (rs:OTs G Hf H os vs fs) (n:(a::fs).Nodup) (e:os[k]?=some o1)
  (mk:∀ Hf' H' os' fs',H' a=some u->OTs G Hf' H' os' vs fs'->os'.length=os.length->OT G Hf' H' (W os') (.ref a) (a::fs')) : ∃ v1 f1,vs[k]?=some v1/\Foc G Hf H o (.ref a) (a::fs) o1 v1 f1 (fun x=>W (os.set k x)):=by
 obtain ⟨na,nf⟩:=List.nodup_cons.mp n;obtain ⟨v1,f1,ev,q,nq,sb,bk⟩:=rs.foc nf e;refine ⟨v1,f1,ev,q,nq,fun b hb=>List.mem_cons_of_mem _ (sb b hb),fun Hf' H' o2 f2 s k' h=>?_⟩;obtain ⟨fs',r',m',n'⟩:=bk Hf' H' o2 v1 f2 s (fun b u hb _=>k' b u hb) h;rw [zml ev] at r';refine ⟨a::fs',mk Hf' H' _ fs' (k' a u ha fun z=>na (sb a z)) r' (by simp),fun b hb=>?_,fun nf2 hf=>List.nodup_cons.mpr ⟨fun z=>?_,n' nf2 fun b hb hc=>hf b hb (List.mem_cons_of_mem _ hc)⟩⟩
 ·rcases List.mem_cons.mp hb with z | z
  ·subst z; exact .inr ⟨List.mem_cons_self,fun y=>na (sb b y)⟩
  ·rcases m' b z with y | ⟨y,y'⟩
   ·exact .inl y
   ·exact .inr ⟨List.mem_cons_of_mem _ y,y'⟩
 ·rcases m' a z with y | ⟨y,_⟩
  ·exact na (sb a (hf a y List.mem_cons_self))
  ·exact na y
theorem Foc.at {l:Addr} {o:O} {v:V} {fp:List Addr} (h:OT G Hf H (.at l o) v fp) (n:fp.Nodup) : Foc G Hf H (.at l o) v fp o v fp (.at l) :=
 ⟨h.2,n,fun _ h=>h,fun _ _ _ f2 _ _ q=>⟨f2,⟨h.1,q⟩,fun _ h=>.inl h,fun n _=>n⟩⟩
theorem zah.foc {Hf0 H0 Hf' H1 H2:Hp} {σ:St} {ρ:List Sl} {i:Nat} {o o1 o2:O} {v v1:V} {fp f1 f2:List Addr} {R:O->O} (so:zah G Hf0 H0 Hf H σ ρ) (es:ρ[i]?=some (.deep o)) (e2:σ[i]?=some (some v)) (r:OT G Hf' H1 o v fp) (x:Ext Hf H Hf' H1) (F:Foc G Hf' H1 o v fp o1 v1 f1 R)
  (kk:∀ b u,H1 b=some u->b∉f1->H2 b=some u) (new:OT G Hf' H2 o2 v1 f2) (n2:f2.Nodup) (h2:∀ a∈f2,a∈f1\/(H a=none/\Hf' a=none)) : zah G Hf0 H0 Hf' H2 σ (ρ.set i (.deep (R o2))):=by
 have sl:=so.at' i _ _ e2 es;obtain ⟨v',fp0,e3,r0,n,z⟩:=sl;cases e3;have:=OT.funM o v fp fp0 r (r0.up x.f x.h);subst this;obtain ⟨fp',r',mem,nd⟩:=F.back Hf' H2 o2 f2 (zaf.refl _) kk new
 have old : ∀ a∈fp',a∈fp\/(H a=none/\Hf' a=none):=fun a ha=>by
  rcases mem a ha with y | ⟨y,_⟩
  ·rcases h2 a y with w | w
   ·exact .inl (F.sub a w)
   ·exact .inr w
  ·exact .inl y
 refine so.chgX x es e2 (fun b u hb=>?_) ⟨v,fp',rfl,r',nd n2 fun a ha hb=>?_,fun a ha=>?_⟩ fun a p=>?_
 ·by_cases h : b∈f1
  ·exact .inl ⟨fp,r0,F.sub b h⟩
  ·exact .inr (kk b u hb h)
 ·rcases h2 a ha with y | y
  ·exact y
  ·obtain ⟨u,hu,_⟩:=OT.memM o v fp r0 a hb;rw [y.1] at hu;cases hu
 ·rcases old a ha with y | y
  ·obtain ⟨u,hu,ht⟩:=OT.memM o v fp r0 a y;refine ⟨(z a y).1,?_⟩;rw [x.n a u hu ht];exact (z a y).2
  ·exact ⟨so.ext.h.free y.1,y.2⟩
 ·obtain ⟨fp'',r'',ha⟩:=p;have:=OT.funM _ _ _ _ r' r'';subst this
  rcases old a ha with y | y
  ·exact .inl ⟨fp,r0,y⟩
  ·exact .inr y.1
theorem zah.was {Hf0 H0 Hf' H1:Hp} {σ:St} {ρ:List Sl} {i:Nat} {o:O} {v:V} {fp:List Addr} (so:zah G Hf0 H0 Hf H σ ρ) (es:ρ[i]?=some (.deep o)) (e2:σ[i]?=some (some v)) (x:Ext Hf H Hf' H1) (r:OT G Hf' H1 o v fp) : ∀ a∈fp,H a≠none:=fun a ha=>by
 obtain ⟨v',fp0,e3,r0,n,z⟩:=so.at' i _ _ e2 es;cases e3;have:=OT.funM o v fp fp0 r (r0.up x.f x.h);subst this;obtain ⟨u,hu,_⟩:=OT.memM o v fp r0 a ha;rw [hu];exact fun z=>nomatch z
end
noncomputable def zn2 : D->Option Key
 | .int i=>some (.inl i)
 | .bl b=>some (.inl (cond b 1 0))
 | .str x=>some (.inr x)
 | _=>none
noncomputable def zjz : List D->Option (List Key)
 | []=>some []
 | d::ds=>(zn2 d).bind fun k=>(zjz ds).map (k::·)
noncomputable def zh6 : D->Option (List Key)
 | .tup ds=>zjz ds
 | _=>none
theorem z0b {G:Gc} {H:Hp} {d:D} {k:Key} {v:V} (h:zn2 d=some k) (r:Rep G H d v) : kR k v:=by
 cases d with
 | int i=>cases h; exact .inl r
 | bl b=>cases h; exact .inr ⟨b,r,rfl⟩
 | str x=>cases h; exact r
 | _=>cases h
theorem zsn {G:Gc} {H:Hp} : ∀ {ds:List D} {ks:List Key} {vs:List V},zjz ds=some ks->zae G H ds vs->KRs ks vs
 | [],_,_,h,r=>by cases h; cases (show _=[] from r); exact .nil
 | d::ds,ks,_,h,⟨v,r,e,h1,h2⟩=>by
  subst e;unfold zjz at h
  cases e1 : zn2 d with
  | none=>rw [e1] at h; cases h
  | some k =>
   rw [e1,Option.bind_some] at h
   cases e2 : zjz ds with
   | none=>rw [e2] at h; cases h
   | some ks'=>rw [e2] at h; cases h; exact .cons (z0b e1 h1) (zsn e2 h2)
theorem zsr {G:Gc} {H:Hp} {d:D} {k:List Key} {v:V} (h:zh6 d=some k) (r:Rep G H d v) : ∃ b,v=.ref b/\zc4 H b k:=by
 cases d with
 | tup ds=>obtain ⟨a,vs,e,q,rs⟩:=r; exact ⟨a,e,vs,q,zsn h rs⟩
 | _=>cases h
noncomputable def zax {α : Type} [DecidableEq α] (f:α) : List α->Option Nat
 | []=>none
 | n::ns=>if n=f then some 0 else (zax f ns).map (· + 1)
theorem zn0 {α : Type} [DecidableEq α] {f:α} : ∀ {ns:List α} {k:Nat},zax f ns=some k->k < ns.length
 | [],_,e=>by cases e
 | n::ns,k,e=>by
  unfold zax at e;split at e
  ·cases e; exact Nat.succ_pos _
  ·cases h : zax f ns with
   | none=>rw [h] at e; cases e
   | some j=>rw [h] at e; cases e; exact Nat.succ_lt_succ (zn0 h)
theorem zsk {α : Type} [DecidableEq α] {β : Type} {f:α} : ∀ {ns:List α} {k:Nat} (vs:List β),zax f ns=some k->(ns.zip vs).lookup f=vs[k]?
 | [],_,_,e=>by cases e
 | _::_,_,[],_=>by simp
 | n::ns,k,v::vs,e=>by
  unfold zax at e;rw [List.zip_cons_cons,List.lookup_cons];split at e
  ·rename_i h; subst h; cases e; rw [beq_self_eq_true]; rfl
  ·rename_i h;rw [beq_eq_false_iff_ne.mpr (Ne.symm h)]
   cases h' : zax f ns with
   | none=>rw [h'] at e; cases e
   | some j =>
    rw [h'] at e;cases e;rw [List.getElem?_cons_succ];exact zsk vs h'
theorem zll {α : Type} [DecidableEq α] {f:α} : ∀ {ns:List α} {k:Nat} (vs:List V),zax f ns=some k->zb9 (ns.zip vs) f=vs[k]?
 | [],_,_,e=>by cases e
 | _::_,_,[],_=>by simp [zvp]
 | n::ns,k,v::vs,e=>by
  unfold zax at e;rw [List.zip_cons_cons];split at e
  ·rename_i h; cases e; rw [zmr h]; rfl
  ·rename_i h;rw [zko h]
   cases h' : zax f ns with
   | none=>rw [h'] at e; cases e
   | some j =>
    rw [h'] at e;cases e;rw [List.getElem?_cons_succ];exact zll vs h'
theorem zlk {α : Type} [DecidableEq α] {f:α} : ∀ {ns:List α} (vs:List V),zax f ns=none->zb9 (ns.zip vs) f=none
 | [],_,_=>rfl
 | _::_,[],_=>by simp [zvp]
 | n::ns,v::vs,e=>by
  unfold zax at e;rw [List.zip_cons_cons];split at e
  ·cases e
  ·rename_i h;rw [zko h]
   cases h' : zax f ns with
   | none=>exact zlk vs h'
   | some j=>rw [h'] at e; cases e
theorem Foc.up {G:Gc} {Hf H Hf' H':Hp} {o o1:O} {v v1:V} {fp f1:List Addr} {R:O->O} (F:Foc G Hf H o v fp o1 v1 f1 R) (f:zaf Hf Hf') (s:zaf H H') : Foc G Hf' H' o v fp o1 v1 f1 R :=
 ⟨F.r.up f s,F.n,F.sub,fun Hf2 H2 o2 f2 s2 k h=>F.back Hf2 H2 o2 f2 (f.trans s2) (fun b u e hb=>k b u (s b u e) hb) h⟩
noncomputable abbrev Xp:=List Sl->Option (O×(O->O))
noncomputable def tDP (G:Gc) (i:Nat) (f:Xp) : TE:=fun σ H Q=>∃ Hf0 H0 Hf ρ o1 R,zah G Hf0 H0 Hf H σ ρ/\f ρ=some (o1,R) /\
 ∀ o v fp v1 f1 Hf' H',ρ[i]?=some (.deep o)->σ[i]?=some (some v)->Ext Hf H Hf' H'->OT G Hf' H' o v fp->Foc G Hf' H' o v fp o1 v1 f1 R->Q v1 H'
noncomputable def DP (c:Str->Addr) (X:Cx) (e:Expr) (i:Nat) (f:Xp) : Prop:=PE X e (tDP (Gx c X) i f)
noncomputable def zcl (i:Nat) : Xp:=fun ρ=>match ρ[i]? with
 | some (.deep (.at l o))=>some (o,.at l)
 | some (.deep o)=>some (o,id)
 | _=>none
noncomputable def O.fld (cn f:Str) : O->Option (O×(O->O))
 | .ins c ns os=>if c=cn then (zax f ns).bind fun k=>(os[k]?).map fun o1=>(o1,fun x=>.ins c ns (os.set k x)) else none
 | _=>none
noncomputable def zd8 (cn f:Str) (p:Xp) : Xp:=fun ρ=>(p ρ).bind fun q=>(q.1.fld cn f).map fun r=>(r.1,fun x=>q.2 (r.2 x))
noncomputable def O.key (k:List Key) : O->Option (O×(O->O))
 | .dT ks os=>(zax k ks).bind fun j=>(os[j]?).map fun o1=>(o1,fun x=>.dT ks (os.set j x))
 | _=>none
noncomputable def fzs : List O->Option (List D)
 | []=>some []
 | .fz d::os=>(fzs os).map (d::·)
 | _=>none
theorem zrt : ∀ (ds:List D),fzs (ds.map .fz)=some ds
 | []=>rfl
 | d::ds=>by rw [List.map_cons,fzs,zrt ds]; rfl
theorem zrs : ∀ {os:List O} {ds:List D},fzs os=some ds->os=ds.map .fz
 | [],_,h=>by cases h; rfl
 | o::os,ds,h=>by
  cases o with
  | fz d =>
   rw [fzs] at h
   cases e : fzs os with
   | none=>rw [e] at h; cases h
   | some ds'=>rw [e] at h; cases h; rw [List.map_cons,<- zrs e]
  | _=>cases h
theorem OTs.unfz {G:Gc} {Hf H:Hp} : ∀ {ds:List D} {vs:List V} {fs:List Addr},OTs G Hf H (ds.map .fz) vs fs->zae G Hf ds vs/\fs=[]
 | [],_,_,h=>⟨h.1,h.2⟩
 | d::ds,_,_,⟨v,r,f1,f2,e,h1,h2,ef⟩=>by
  obtain ⟨a,b⟩:=OTs.unfz h2;refine ⟨⟨v,r,e,h1.1,a⟩,?_⟩;rw [ef,h1.2,b]; rfl
noncomputable def pD (p:Xp) (ρ:List Sl) : Option D:=(p ρ).bind fun q=>match q.1 with
 | .fz d=>some d
 | _=>none
noncomputable def pB (p:Xp) (ρ:List Sl) : Option D:=(p ρ).bind fun q=>if q.1.kn then some q.1.toD else none
noncomputable def O.items : O->Option (List D)
 | .lst os=>fzs os
 | _=>none
noncomputable def pC (p:Xp) (ρ:List Sl) : Option (List D):=(p ρ).bind fun q=>q.1.items
noncomputable def tDL (G:Gc) (f:List Sl->Option (List D)) : TE:=fun σ H Q=>∃ Hf0 H0 Hf ρ ds,zah G Hf0 H0 Hf H σ ρ/\f ρ=some ds/\∀ a vs Hf' H',Ext Hf H Hf' H'->H' a=some (.lst vs)->zae G Hf' ds vs->Q (.ref a) H'
noncomputable def DL (c:Str->Addr) (X:Cx) (e:Expr) (f:List Sl->Option (List D)) : Prop:=PE X e (tDL (Gx c X) f)
theorem zci {α β : Type} {a:Option α} {f:α->Option β} {b:β} (h:a.bind f=some b) : ∃ x,a=some x/\f x=some b:=by
 cases a with
 | none=>cases h
 | some x=>exact ⟨x,rfl,h⟩
theorem zey {α β : Type} {a:Option α} {f:α->β} {b:β} (h:a.map f=some b) : ∃ x,a=some x/\f x=b:=by
 cases a with
 | none=>cases h
 | some x=>cases h; exact ⟨x,rfl,rfl⟩
section
variable {c:Str->Addr} {X:Cx} {e e' o:Expr} {pos apos:Pos} {i:Nat} {p:Xp}
theorem zdq (h:PE X e (zdg i)) : DP c X e i (zcl i):=PE.imp h fun σ H Q q_=>by
 obtain ⟨Hf0,H0,Hf,ρ,o1,R,so,ef,kq⟩:=q_
 have main : ∀ o,ρ[i]?=some (.deep o)->(∀ v fp,OT (Gx c X) Hf H o v fp->fp.Nodup->Foc (Gx c X) Hf H o v fp o1 v fp R)->zdg i σ H Q:=fun o es F=>by
  obtain ⟨v,e1,u,fp,e2,r,n,z⟩:=so.slot es;subst e2;exact ⟨u,e1,kq o u fp u fp Hf H es e1 (Ext.refl so.sub) r (F u fp r n)⟩
 unfold zcl at ef;split at ef
 ·rename_i l o es; cases ef; exact main _ es fun v fp r n=>Foc.at r n
 ·rename_i o _ es; cases ef; exact main _ es fun v fp r n=>Foc.refl r n
 ·cases ef
theorem zyr {cn f:Str} {o1 o2:O} {R:O->O} (h:o1.fld cn f=some (o2,R)) : ∃ ns os k,o1=.ins cn ns os/\zax f ns=some k/\os[k]?=some o2/\R=fun x=>.ins cn ns (os.set k x):=by
 cases o1 with
 | ins c ns os =>
  replace h : (if c=cn then (zax f ns).bind fun k=>(os[k]?).map fun o1=>(o1,fun x=>O.ins c ns (os.set k x)) else none)=some (o2,R):=h;split at h
  ·rename_i hc;subst hc;obtain ⟨k,e1,h⟩:=zci h;obtain ⟨o,e2,h⟩:=zey h;cases h;exact ⟨ns,os,k,rfl,e1,e2,rfl⟩
  ·cases h
 | _=>cases h
theorem Foc.fld {G:Gc} {Hf H:Hp} {o o1 o2:O} {v v1:V} {fp f1:List Addr} {R R':O->O} {cn f:Str} (F:Foc G Hf H o v fp o1 v1 f1 R) (h:o1.fld cn f=some (o2,R')) : ∃ (a dx:Addr) (ns:List Str) (vs:List V) (v2:V) (f2:List Addr),v1=.ref a/\H a=some (.ins (G.cl cn) dx (ns.zip vs))/\(ns.zip vs).lookup f=some v2/\Foc G Hf H o v fp o2 v2 f2 (fun x=>R (R' x)):=by
 obtain ⟨ns,os,k,rfl,e1,e2,rfl⟩:=zyr h;obtain ⟨a,dx,vs,fs,rfl,ha,hz,rs,rfl⟩:=F.r;obtain ⟨v2,f2,ev,F2⟩:=Foc.root (o:=.ins cn ns os) (W:=.ins cn ns) ha rfl rs F.n e2 fun Hf' H' os' fs' ha' r _=>⟨a,dx,vs,fs',rfl,ha',hz,r,rfl⟩;exact ⟨a,dx,ns,vs,v2,f2,rfl,ha,(zsk vs e1).trans ev,F.trans F2⟩
theorem zhz {fl:Str} (cn:Str) (hc:Cls X.K (c cn)) (hn:zbc X.K (c cn) fl) (ho:DP c X o i p) (hb:attributeBase o fl X.env (eval o X.env)=eval o X.env:=by rfl) : DP c X (.Attribute o fl pos) i (zd8 cn fl p):=PE.imp (zt4 ho hb) fun σ H Q q_=>by
 obtain ⟨Hf0,H0,Hf,ρ,o2,R,so,ef,kq⟩:=q_;obtain ⟨q,e1,ef⟩:=zci ef;obtain ⟨r,e2,ef⟩:=zey ef;cases ef;refine ⟨Hf0,H0,Hf,ρ,q.1,q.2,so,e1,fun t v fp v1 f1 Hf' H' es ev x rt F=>?_⟩;obtain ⟨a,dx,ns,vs,v2,f2,ea,ha,el,F2⟩:=F.fld e2;exact ⟨a,_,dx,_,v2,ea,ha,hc,hn,el,kq t v fp v2 f2 Hf' H' es ev x rt F2⟩
theorem zc4.same {H H':Hp} {b:Addr} {k:List Key} (h:zc4 H b k) (s:zaf H H') : zc4 H' b k:=h.up fun b xs e=>s _ _ e
theorem z0c {k:List Key} {o1 o2:O} {R:O->O} (h:o1.key k=some (o2,R)) : ∃ ks os j,o1=.dT ks os/\zax k ks=some j/\os[j]?=some o2/\R=fun x=>.dT ks (os.set j x):=by
 cases o1 with
 | dT ks os =>
  unfold O.key at h;obtain ⟨j,e1,h⟩:=zci h;obtain ⟨o,e2,h⟩:=zey h;cases h
  exact ⟨ks,os,j,rfl,e1,e2,rfl⟩
 | _=>cases h
theorem Foc.key {G:Gc} {Hf H:Hp} {o o1 o2:O} {v v1:V} {fp f1:List Addr} {R R':O->O} {k:List Key} (F:Foc G Hf H o v fp o1 v1 f1 R) (h:o1.key k=some (o2,R')) : ∃ a kvs v2 f2,v1=.ref a/\H a=some (.dT kvs)/\zb9 kvs k=some v2/\Foc G Hf H o v fp o2 v2 f2 (fun x=>R (R' x)):=by
 obtain ⟨ks,os,j,rfl,e1,e2,rfl⟩:=z0c h;obtain ⟨a,vs,fs,rfl,ha,hz,rs,rfl⟩:=F.r;obtain ⟨v2,f2,ev,F2⟩:=Foc.root (o:=.dT ks os) (W:=.dT ks) ha rfl rs F.n e2 fun Hf' H' os' fs' ha' r _=>⟨a,vs,fs',rfl,ha',hz,r,rfl⟩;exact ⟨a,ks.zip vs,v2,f2,rfl,ha,(zll vs e1).trans ev,F.trans F2⟩
theorem zxu (h:DP c X e i p) : DE c X e (pD p):=PE.imp h fun σ H Q q_=>by
 obtain ⟨Hf0,H0,Hf,ρ,d,so,ef,kq⟩:=q_;obtain ⟨q,e1,ef⟩:=zci ef;refine ⟨Hf0,H0,Hf,ρ,q.1,q.2,so,e1,fun t v fp v1 f1 Hf1 H1 es ev x rt F=>?_⟩
 cases h1 : q.1 with
 | fz d'=>rw [h1] at ef; cases ef; have r:=F.r; rw [h1] at r; exact kq _ _ _ x r.1
 | _=>rw [h1] at ef; cases ef
theorem zxr (h:DP c X e i p) : DB c X e (pB p):=PE.imp h fun σ H Q q_=>by
 obtain ⟨Hf0,H0,Hf,ρ,d,so,ef,kq⟩:=q_;obtain ⟨q,e1,ef⟩:=zci ef;split at ef
 ·rename_i hk;cases ef;exact ⟨Hf0,H0,Hf,ρ,q.1,q.2,so,e1,fun t v fp v1 f1 Hf1 H1 es ev x rt F=>kq _ _ _ x (F.r.rep x.s hk)⟩
 ·cases ef
theorem zzz {o1:O} {ds:List D} (h:o1.items=some ds) : o1=.lst (ds.map .fz):=by
 cases o1 with
 | lst os=>rw [zrs h]
 | _=>cases h
theorem zx2 (h:DP c X e i p) : DL c X e (pC p):=PE.imp h fun σ H Q q_=>by
 obtain ⟨Hf0,H0,Hf,ρ,ds,so,ef,kq⟩:=q_;obtain ⟨q,e1,ef⟩:=zci ef;refine ⟨Hf0,H0,Hf,ρ,q.1,q.2,so,e1,fun t v fp v1 f1 Hf1 H1 es ev x rt F=>?_⟩;have r:=F.r;rw [zzz ef] at r;obtain ⟨a,vs,fs,rfl,ha,rs,_⟩:=r;exact kq a vs Hf1 H1 x ha rs.unfz.1
theorem DL.dc {f:List Sl->Option (List D)} (h:DL c X e f) : DC c X e f:=PE.imp h fun σ H Q ⟨Hf0,H0,Hf,ρ,ds,st,ef,k⟩=>⟨Hf0,H0,Hf,ρ,ds,st,ef,fun l vs Hf' H' x hl r=>k l vs Hf' H' x (.inl (SqL.of hl)) r⟩
theorem DL.db {f:List Sl->Option (List D)} (h:DL c X e f) : DB c X e (za2 f):=PE.imp h fun σ H Q q_=>by
 obtain ⟨Hf0,H0,Hf,ρ,d,st,ef,k⟩:=q_;obtain ⟨ds,e1,ef⟩:=zey ef;cases ef;exact ⟨Hf0,H0,Hf,ρ,ds,st,e1,fun l vs Hf' H' x hl r=>k _ Hf' H' x ⟨l,vs,rfl,hl,r.up x.s⟩⟩
end
section
variable {G:Gc} {Hf H Hf' H':Hp}
theorem OTs.stay {os:List O} {us:List V} {fs:List Addr} {l:Addr} {u0:HO} (r:OTs G Hf H os us fs) (hl:H l=some u0) (ht:zea u0=false) (hn:l∉fs) (f:zaf Hf Hf') (s:∀ b u,b≠l->H b=some u->H' b=some u) : OTs G Hf' H' os us fs :=
 OTs.frameM f os us fs r fun b u hb hm=>s b u (fun z=>by
  subst z;rw [hl] at hb;cases hb
  rcases hm with t | t
  ·rw [t] at ht; cases ht
  ·exact hn t) hb
end
noncomputable def zl5 (i:Nat) (p:Xp) (f:List Sl->Option D) (ρ:List Sl) : Option Fl:=(p ρ).bind fun q=>(f ρ).bind fun d=>(q.1.appd d).map fun o2=>.nx (ρ.set i (.deep (q.2 o2)))
noncomputable def O.putNew (o x:O) (k:List Key) : Option O:=match o with
 | .dT ks os=>if zax k ks=none/\ks.length < 16777216 then some (.dT (ks++[k]) (os++[x])) else none
 | _=>none
noncomputable def zl6 (i:Nat) (p:Xp) (fk fv:List Sl->Option D) (ρ:List Sl) : Option Fl:=(fv ρ).bind fun d=>(p ρ).bind fun q=>(fk ρ).bind fun x=>(zh6 x).bind fun k=>(q.1.putNew (.fz d) k).map fun o2=>.nx (ρ.set i (.deep (q.2 o2)))
section
variable {c:Str->Addr} {X:Cx} {st:Stmt} {e e' o:Expr} {pos apos:Pos} {i:Nat} {p:Xp}
theorem zx8 {f:List Sl->Option D} (h:PS X st (zmq (tBM X.K "list" zma (tDP (Gx c X) i p) (zmp (tD (Gx c X) f) zjh)))) : DS c X st (zl5 i p f):=PS.imp h fun E σ H q_=>by
 obtain ⟨Hf0,H0,Hf,ρ,o,so,ef,kq⟩:=q_;obtain ⟨q,e1,ef⟩:=zci ef;obtain ⟨d,e2,ef⟩:=zci ef;obtain ⟨o2,e3,ef⟩:=zey ef;subst ef;refine ⟨Hf0,H0,Hf,ρ,q.1,q.2,so,e1,fun t v fp v1 f1 Hf1 H1 es ev x rt F=>?_⟩;obtain ⟨l,us,el,ql,hz,lm,next⟩:=zp2 e3 F.r;subst el;refine ⟨.inl ⟨rfl,_,SqL.of ql⟩,Hf0,H0,Hf1,ρ,d,so.step x,e2,fun w Hf2 H2 x2 r2=>?_⟩;refine ⟨l,us,w,rfl,rfl,x2.h _ _ ql,by rw [sizeLine_eq]; exact hz,kq σ Hf2 _ (x.trans x2).f ?_⟩
 exact so.foc es ev (rt.up x2.f x2.h) (x.trans x2) (F.up x2.f x2.h) (fun b u hb hn=>by rw [zar (fun z=>hn (by rw [z]; exact lm))]; exact hb)
  (next Hf2 _ w F.n x2.f (fun b u hb e=>by rw [zar hb]; exact x2.h b u e) zbb r2) F.n fun a ha=>.inl ha
theorem z46 {α : Type} [DecidableEq α] {k:α} {v:V} {ks:List α} {vs:List V} (hz:ks.length=vs.length) (h:zax k ks=none) : zcm (ks.zip vs) k v=(ks++[k]).zip (vs++[v]):=by
 unfold zcm;rw [zpo,zlk vs h,if_neg (by simp),List.zip_append hz];rfl
theorem zqs {G:Gc} {Hf H Hf' H':Hp} {ks:List (List Key)} {os:List O} {x:O} {k:List Key} {l:Addr} {f1 g:List Addr} {w:V} (r:OT G Hf H (.dT ks os) (.ref l) f1) (n:f1.Nodup) (hk:zax k ks=none) (f:zaf Hf Hf') (s:∀ b u,b≠l->H b=some u->H' b=some u) :
  ∃ kvs,H l=some (.dT kvs)/\kvs.length=ks.length/\zb9 kvs k=none/\l∈f1/\(H' l=some (.dT (zcm kvs k w))->OT G Hf' H' x w g->OT G Hf' H' (.dT (ks++[k]) (os++[x])) (.ref l) (f1++g)):=by
 obtain ⟨l',vs,fs,el,ql,hz,rs,rfl⟩:=r;cases el;refine ⟨ks.zip vs,ql,by rw [List.length_zip]; omega,zlk vs hk,List.mem_cons_self,fun hl rx=>⟨l,vs++[w],fs++g,rfl,?_,by simp [hz],?_,rfl⟩⟩
 ·rw [hl,z46 hz hk]
 ·exact (rs.stay ql rfl (List.nodup_cons.mp n).1 f s).append (.one rx)
theorem z45 {o1 o2 x:O} {k:List Key} (h:o1.putNew x k=some o2) : ∃ ks os,o1=.dT ks os/\zax k ks=none/\ks.length < 16777216/\o2=.dT (ks++[k]) (os++[x]):=by
 cases o1 with
 | dT ks os =>
  replace h : (if zax k ks=none/\ks.length < 16777216 then some (O.dT (ks++[k]) (os++[x])) else none)=some o2:=h;split at h
  ·rename_i hh; cases h; exact ⟨ks,os,rfl,hh.1,hh.2,rfl⟩
  ·cases h
 | _=>cases h
theorem zx9 {fk fv:List Sl->Option D} (hp:PS X st (zuq (tDP (Gx c X) i p) (tD (Gx c X) fk) (tD (Gx c X) fv))) : DS c X st (zl6 i p fk fv):=PS.imp hp fun E σ H q_=>by
 obtain ⟨Hf0,H0,Hf,ρ,o,so,ef,kq⟩:=q_;obtain ⟨d,e1,ef⟩:=zci ef;obtain ⟨q,e2,ef⟩:=zci ef;obtain ⟨y,e3,ef⟩:=zci ef;obtain ⟨k,e5,ef⟩:=zci ef;obtain ⟨o2,e4,ef⟩:=zey ef;subst ef;refine ⟨Hf0,H0,Hf,ρ,d,so,e1,fun w Hf1 H1 x1 r1=>⟨Hf0,H0,Hf1,ρ,q.1,q.2,so.step x1,e2,fun t v fp v1 f1 Hf2 H2 es ev x2 rt F=>⟨Hf0,H0,Hf2,ρ,y,(so.step x1).step x2,e3,fun z Hf3 H3 x3 r3=>?_⟩⟩⟩;obtain ⟨ks,os,h1,hk,hlt,rfl⟩:=z45 e4;have F3:=F.up x3.f x3.h;rw [h1] at F3;obtain ⟨b,rfl,tk⟩:=zsr e5 r3;obtain ⟨l,vs,fs,rfl,ql,hz,rs,ef⟩:=id F3.r;obtain ⟨kvs,ql',hkv,hv,lm,nw⟩:=zqs (Hf':=Hf3) (H':=upd H3 l (.dT (zcm (ks.zip vs) k w))) (w:=w) (x:=.fz d) (g:=[]) F3.r F3.n hk (zaf.refl _) fun b u hb e=>by rw [zar hb]; exact e
 rw [ql] at ql';cases ql';refine ⟨l,_,rfl,zgy.t ql (tk.same x3.s) (by rw [sizeLine_eq,hkv]; exact hlt),kq σ Hf3 _ ((x1.trans x2).trans x3).f ?_⟩
 exact (so.step x1).foc es ev (rt.up x3.f x3.h) (x2.trans x3) F3 (fun b u hb hn=>by rw [zar (fun z=>hn (by rw [z]; exact lm))]; exact hb)
  (nw zbb ⟨r1.up (x2.f.trans x3.f),rfl⟩) (by rw [List.append_nil]; exact F3.n) fun a ha=>.inl (by rw [List.append_nil] at ha; exact ha)
end
section
variable {prog:Program} {w:World} {K:Type} [DecidableEq K] {kn:HeapKind prog w K} {A:Around} {E:Value->Shared->Prop} {s:Shared}
theorem z6s {d b:Addr} {xs:List (K×Addr×Value)} {k:K} {dv:Value} {Q:Value->Shared->Prop} (hu:kn.room A) (hk:kn.is s.heap k b) (hm:s.heap.DictOfH kn d xs) (hz:xs.length<=sizeLine)
  (h1:∀ q,atKey xs k=some q->Q q.2 { s with toks:=s.toks + kn.draws k })
  (h2:atKey xs k=none->∀ h',h'.DictOfH kn d (storedH xs k b dv)->Heap.SameBut d s.heap h'->Q dv { s with heap:=h',toks:=s.toks + kn.draws k }) :
  wpAny (model prog w) A (dictSetDefault d (.ref b) dv) Q E s:=by
 obtain ⟨ob,ens,ep,go,hx,ed,el,all,nd⟩:=hm;unfold dictSetDefault
 try with_reducible refine wpAny_holding ?_
 refine wpAny_bind (kn.pyHash hu hk ?_)
 refine wpAny_bind (wpAny_dictFind_heap (s:={ s with toks:=s.toks + kn.draws k }) hu hk go ed el all nd (fun no=>?_) fun j q hj=>?_)
 ·have nk : k∉xs.map (·.1):=not_mem_keys_of_get no;have z : atKey xs k=none:=atKey_none_of_get no
  refine wpAny_bind (wpAny_rule (wpAny_bind (wpAny_updateDictKeys (hz:=by have e:=size_of_entries el; omega) (s:={ s with toks:=s.toks + kn.draws k }) go ed (wpAny_pure (h2 z _ ⟨_,_,ep + 1,Heap.get?_update_self _ go (Obj.isFreed_of_dict (Obj.data_mapDictKeys ed _)),
   hx.mapDictKeys _,Obj.data_mapDictKeys ed _,?_,?_,?_⟩ (Heap.SameBut.update ..))))))
  ·rw [storedH_new z]; simp [el,entryOfKey]
  ·rw [storedH_new z];intro y hy
   rcases List.mem_append.mp hy with hy | hy
   ·exact kn.keeps (all y hy) go ed (Heap.SameBut.update ..)
   ·rw [List.mem_singleton.mp hy]; exact kn.keeps hk go ed (Heap.SameBut.update ..)
  ·rw [storedH_new z,List.map_append,List.nodup_append];refine ⟨nd,List.nodup_cons.mpr ⟨List.not_mem_nil,List.nodup_nil⟩,fun y hy y' hy' e=>?_⟩;rw [List.map_cons,List.map_nil] at hy';rw [List.mem_singleton.mp hy'] at e;exact nk ((show y=k from e) ▸ hy)
 ·refine wpAny_bind (wpAny_dictEntries (s:={ s with toks:=s.toks + kn.draws k }) go ed ?_)
  rw [entry_at el j,hj];exact wpAny_bind (wpAny_rule (wpAny_pure (h1 q (atKey_of_get nd hj))))
theorem z1j (kn:HeapKind prog w K) (d b:Addr) (hd:(d==sysModules)=false) (dv:Value) :
  MeetsIn prog w (Builtin.«dict.setdefault» ⟨[.ref d,.ref b,dv],[]⟩) (fun A R s=>kn.room A.in1/\∃ k xs,kn.is s.heap k b/\s.heap.DictOfH kn d xs/\xs.length<=sizeLine /\
   (∀ q,atKey xs k=some q->R (.ok (.ret q.2)) { s with toks:=s.toks + kn.draws k }) /\
   (atKey xs k=none->∀ h',h'.DictOfH kn d (storedH xs k b dv)->Heap.SameBut d s.heap h'->R (.ok (.ret dv)) { s with heap:=h',toks:=s.toks + kn.draws k })) :=
 .of_wp fun A R s q_=>by
  obtain ⟨hu,k,xs,hk,hm,hz,h1,h2⟩:=q_;unfold Builtin.«dict.setdefault»;refine wpAny_bind ?_;unfold Builtin.Dict.keyAndDefault;refine wpAny_bind (wpAny_notOrdered_dict hm.typeIs ?_);show wpAny _ _ (pure (d,Value.ref b,some dv)) _ _ s;refine wpAny_pure ?_;show wpAny _ _ (if (d==sysModules)=true then _ else (dictSetDefault d (.ref b) dv >>= _)) _ _ s;rw [hd,if_neg (fun z=>nomatch z)];exact wpAny_bind (z6s hu hk hm hz (fun q hq=>wpAny_pure ⟨q.2,rfl,h1 q hq⟩) fun hn h' hm' hs'=>wpAny_pure ⟨dv,rfl,h2 hn h' hm' hs'⟩)
end
section
variable {X:Cx} {pins:List (Addr×Obj)} {σ:St} {H:Hp} {s:Shared} {a b:Addr} {z:V} {r:Value} {A:Around} {E:Value->Shared->Prop} {kvs:List (List Key×V)} {k:List Key}
theorem zxm {Q:Value->Shared->Prop} (hu:A.units + 1 < cLine) (I:Inv X pins σ H s) (e:H a=some (.dT kvs)) (tk:zc4 H b k) (rz:zaq z r)
  (h1:∀ v u s',zb9 kvs k=some v->Inv X pins σ H s'->zaq v u->Q u s') (h2:zb9 kvs k=none->kvs.length < sizeLine/\∀ s',Inv X pins σ (upd H a (.dT (zcm kvs k z))) s'->Q r s') :
  wpAny (model X.prog X.w) A (call (.builtin "dict.setdefault") [.ref a,.ref b,r]) Q E s:=by
 obtain ⟨hl,hd,xs,rel,dd⟩:=zre I.hok e;refine call_meetsIn PySem.F.slot_dict_setdefault dd.typeIs PySem.F.entry_dict_setdefault (PySem.F.args_dict_setdefault_3 _ _ _) (z1j (tupleKind (zgk X.prog X.w)) a b hd r) ⟨tupleKind_room_in1 hu,k,xs,zn5 I.hok tk,dd,by rw [<- Paired.length rel]; exact hl,fun q hq=>?_,fun hn h' dd' hs=>?_⟩
 ·have rv:=rel.val k;rw [hq] at rv
  cases hv : zb9 kvs k with
  | none=>rw [hv] at rv; exact rv.elim
  | some v=>rw [hv] at rv; exact h1 v q.2 _ hv (I.tok _) rv
 ·have hv : zb9 kvs k=none:=by
   have rv:=rel.val k;rw [hn] at rv
   cases hv : zb9 kvs k with
   | none=>rfl
   | some v=>rw [hv] at rv; exact rv.elim
  obtain ⟨hlt,hq⟩:=h2 hv;obtain ⟨q,es,ep,hq1,e2,e3,e4,_,e5⟩:=dd';have hl' : (zcm kvs k z).length<=sizeLine:=by have:=zn8 kvs k z; omega
  refine hq _ (zne I (by rw [e]; exact True.intro) hs ⟨q,hq1⟩ ⟨hl',hd,_,(rel.put k tk rz).keeps fun c ys ec=>?_,q,es,ep,hq1,e2,e3,e4,e5⟩);rw [zar (zov ec e (fun z=>nomatch z))];exact ec
end
noncomputable def zve (td ty tx:TE) : TE:=fun σ H Q=>td σ H fun x H1=>∃ a,x=.ref a/\IsD H1 a/\ty σ H1 fun y H2=>tx σ H2 fun z H3=>∃ kvs k b,H3 a=some (.dT kvs)/\y=.ref b/\zc4 H3 b k /\
 (∀ v,zb9 kvs k=some v->Q v H3)/\(zb9 kvs k=none->kvs.length < sizeLine/\Q z (upd H3 a (.dT (zcm kvs k z))))
section
variable {X:Cx} {o e f:Expr} {apos cpos:Pos} {td ty tx:TE}
theorem z31 (hu:X.A.units + 1 < cLine) (ho:PE X o td) (he:PE X e ty) (hf:PE X f tx) (m:M2 X o "setdefault" apos e f cpos) : PE X (.Call (.Attribute o "setdefault" apos) [e,f] [] cpos) (zve td ty tx):=by
 intro pins s σ H Q I h;refine wpAny_Call_method m.base m.few m.line PySem.F.plainAttrs_dict PySem.F.slot_dict_setdefault PySem.F.type_dict_setdefault (thn (ho pins s σ H _ I h) fun u s1 ⟨x,H1,I1,rx,a,ex,d,q1⟩=>?_);subst ex;obtain rfl : u=Value.ref a:=rx;obtain ⟨t1,t2,_⟩:=zzq I1 d;refine ⟨t1,t2,?_⟩;rw [m.trees]
 refine Calls.callWith_builtin rfl (Calls.evalArgs_plain (Calls.spliced_cons (thn (he pins s1 σ H1 _ I1 q1) fun iv s2 ⟨y,H2,I2,ry,q2⟩ =>
  Calls.spliced_cons (thn (hf pins s2 σ H2 _ I2 q2) fun fv s3 ⟨z,H3,I3,rz,kvs,k,b,ea,ey,tk,q3,q4⟩=>Calls.spliced_nil ?_))))
 subst ey;cases (show iv=Value.ref b from ry);exact zxm hu I3 ea tk rz (fun v u s4 hv I4 ru=>⟨v,H3,I4,ru,q3 v hv⟩) fun hn=>⟨(q4 hn).1,fun s4 I4=>⟨z,_,I4,rz,(q4 hn).2⟩⟩
end
noncomputable def O.apdK (o:O) (k:List Key) (d:D) : Option O:=match o with
 | .dT ks os=>match zax k ks with
  | some j=>(os[j]?).bind fun o1=>(o1.appd d).map fun o2=>.dT ks (os.set j o2)
  | none=>if ks.length < 16777216 then some (.dT (ks++[k]) (os++[.lst [.fz d]])) else none
 | _=>none
noncomputable def zl4 (i j:Nat) (p:Xp) (g:List Sl->Option D) (ρ:List Sl) : Option Fl:=(p ρ).bind fun q=>(g ρ).bind fun y=>(zh6 y).bind fun k=>(zab j ρ).bind fun d=>(q.1.apdK k d).map fun o2=>.nx (ρ.set i (.deep (q.2 o2)))
section
variable {c:Str->Addr} {X:Cx} {st:Stmt} {i:Nat} {p:Xp}
theorem zx7 {g:List Sl->Option D} {jv:Nat} (h:PS X st (zmq (tBM X.K "list" zma (zve (tDP (Gx c X) i p) (tD (Gx c X) g) (zvf zjh)) (zmp (zdg jv) zjh)))) : DS c X st (zl4 i jv p g):=PS.imp h fun E σ H q_=>by
 obtain ⟨Hf0,H0,Hf,ρ,o,so,ef,kq⟩:=q_;obtain ⟨q,e1,ef⟩:=zci ef;obtain ⟨y,e2,ef⟩:=zci ef;obtain ⟨k,e3,ef⟩:=zci ef;obtain ⟨d,e4,ef⟩:=zci ef;obtain ⟨o2,e5,ef⟩:=zey ef;subst ef;obtain ⟨w,ew,rw0⟩:=so.imm (zs6 e4);refine ⟨Hf0,H0,Hf,ρ,q.1,q.2,so,e1,fun t v fp v1 f1 Hf1 H1 es ev x rt F=>?_⟩
 cases h1 : q.1 with
 | dT ks os =>
  rw [h1] at e5 F;obtain ⟨a,vs,fs,rfl,ha,hz,rs,rfl⟩:=id F.r;refine ⟨a,rfl,.inr ⟨_,.inl ha⟩,Hf0,H0,Hf1,ρ,y,so.step x,e2,fun u Hf2 H2 x2 r2=>⟨Nat.zero_le _,fun l hl=>?_⟩⟩;obtain ⟨b,eb,tk⟩:=zsr e3 r2;subst eb;have x3 : Ext Hf2 H2 Hf2 (upd H2 l (.lst [])):=Ext.tmp x2.s hl;have x23:=x2.trans x3;have xa:=x.trans x23;have ha3:=x23.h _ _ ha;have F3:=F.up x23.f x23.h;have rt3:=rt.up x23.f x23.h;refine ⟨ks.zip vs,k,b,ha3,rfl,tk.same (x2.s.trans x3.h),fun v2 hv2=>?_,fun hn=>?_⟩
  ·cases hj : zax k ks with
   | none=>rw [zlk vs hj] at hv2; cases hv2
   | some j =>
    replace e5 : (match zax k ks with | some j=>(os[j]?).bind fun o1=>(o1.appd d).map fun o2=>O.dT ks (os.set j o2) | none=>if ks.length < 16777216 then some (.dT (ks++[k]) (os++[.lst [.fz d]])) else none)=some o2:=e5
    rw [hj] at e5;obtain ⟨ok,eo,e5⟩:=zci e5;obtain ⟨on,ea,e5⟩:=zey e5;subst e5;obtain ⟨v3,f3,ev3,F4⟩:=Foc.root (o:=.dT ks os) (W:=.dT ks) ha rfl rs F.n eo fun Hf' H' os' fs' ha' r _=>⟨a,vs,fs',rfl,ha',hz,r,rfl⟩;rw [zll vs hj,ev3] at hv2;cases hv2;have F5:=(F.trans F4).up x23.f x23.h;obtain ⟨l2,us,el,ql,hz2,lm,next⟩:=zp2 ea F5.r;subst el;refine ⟨.inl ⟨rfl,_,SqL.of ql⟩,w,ew,l2,us,w,rfl,rfl,ql,by rw [sizeLine_eq]; exact hz2,kq σ Hf2 _ xa.f ?_⟩
    have:=so.foc es ev rt3 xa F5 (H2:=upd (upd H2 l (.lst [])) l2 (.lst (us++[w]))) (fun b u hb hn=>by rw [zar (fun z=>hn (by rw [z]; exact lm))]; exact hb)
     (next Hf2 _ w F5.n (zaf.refl _) (fun b u hb e=>by rw [zar hb]; exact e) zbb (rw0.up xa.f)) F5.n fun a ha=>.inl ha
    exact this
  ·cases hj : zax k ks with
   | some j =>
    rw [zll vs hj] at hn;have:=zn0 hj;rw [List.getElem?_eq_none_iff] at hn
    omega
   | none =>
    replace e5 : (match zax k ks with | some j=>(os[j]?).bind fun o1=>(o1.appd d).map fun o2=>O.dT ks (os.set j o2) | none=>if ks.length < 16777216 then some (.dT (ks++[k]) (os++[.lst [.fz d]])) else none)=some o2:=e5
    rw [hj] at e5;replace e5 : (if ks.length < 16777216 then some (O.dT (ks++[k]) (os++[.lst [.fz d]])) else none)=some o2:=e5;split at e5
    ·rename_i hlt;cases e5;have nal : a≠l:=zcg (x2.h _ _ ha) hl
     have lf : ∀ g,g∈fp->g≠l:=fun g hg z=>by
      have:=so.was es ev x rt g hg;subst z;exact this ((x.h.trans x2.h).free hl)
     have hl4 : upd (upd H2 l (.lst [])) a (.dT (zcm (ks.zip vs) k (.ref l))) l=some (.lst []):=by rw [zar nal.symm,zbb]
     refine ⟨by rw [sizeLine_eq,List.length_zip]; omega,.inl ⟨rfl,_,SqL.of hl4⟩,w,ew,l,[],w,rfl,rfl,hl4,by rw [sizeLine_eq]; exact Nat.succ_pos _,kq σ Hf2 _ xa.f ?_⟩;have xb:=x.trans x2;have F2:=F.up x2.f x2.h
     have keep : ∀ b u,b≠a->H2 b=some u->upd (upd (upd H2 l (.lst [])) a (.dT (zcm (ks.zip vs) k (.ref l)))) l (.lst ([]++[w])) b=some u:=fun b u hb e=>by
      have nb:=zcg e hl;rw [zar nb,zar hb,zar nb]; exact e
     obtain ⟨kvs,ql',hkv,hv,lm,nw⟩:=zqs (Hf':=Hf2) (H':=upd (upd (upd H2 l (.lst [])) a (.dT (zcm (ks.zip vs) k (.ref l)))) l (.lst ([]++[w]))) (w:=.ref l) (x:=.lst [.fz d]) (g:=[l]) F2.r F2.n hj (zaf.refl _) keep;rw [x2.h _ _ ha] at ql';cases ql';refine so.foc es ev (rt.up x2.f x2.h) xb F2 (fun b u hb hn=>keep b u (fun z=>hn (by rw [z]; exact lm)) hb) (nw (by rw [zar nal,zbb]) ⟨l,[w],[],rfl,zbb,OTs.one (o:=.fz d) ⟨rw0.up xb.f,rfl⟩,rfl⟩) ?_ fun g hg=>?_
     ·exact List.nodup_append.mpr ⟨F2.n,List.nodup_cons.mpr ⟨List.not_mem_nil,List.nodup_nil⟩,fun g hg g' hg' z=>by rw [List.mem_singleton.mp hg'] at z; exact lf g (F2.sub g hg) z⟩
     ·rcases List.mem_append.mp hg with y | y
      ·exact .inl y
      ·rw [List.mem_singleton.mp y];exact .inr ⟨xb.h.free hl,xb.s.free hl⟩
    ·cases e5
 | _=>rw [h1] at e5; cases e5
end
theorem zui {f:Str} {v:V} : ∀ {ns:List Str} {vs:List V} {k:Nat},ns.length=vs.length->zax f ns=some k->zby f v (ns.zip vs)=ns.zip (vs.set k v)
 | [],_,_,_,h=>by cases h
 | _::_,[],_,hl,_=>by cases hl
 | n::ns,u::vs,k,hl,h=>by
  unfold zax at h;rw [List.zip_cons_cons]
  unfold zby
  split at h
  ·rename_i e; cases h; rw [if_pos e,List.set_cons_zero,List.zip_cons_cons]
  ·rename_i e;rw [if_neg e]
   cases h' : zax f ns with
   | none=>rw [h'] at h; cases h
   | some j =>
    rw [h'] at h;cases h;rw [List.set_cons_succ,List.zip_cons_cons,zui (by simpa using hl) h']
theorem zuh {f:Str} {v:V} : ∀ {ns:List Str} {vs:List V},ns.length=vs.length->zax f ns=none->zby f v (ns.zip vs)=(ns++[f]).zip (vs++[v])
 | [],[],_,_=>rfl
 | [],_::_,hl,_=>by cases hl
 | _::_,[],hl,_=>by cases hl
 | n::ns,u::vs,hl,h=>by
  unfold zax at h;rw [List.zip_cons_cons]
  unfold zby
  split at h
  ·cases h
  ·rename_i e;rw [if_neg e]
   cases h' : zax f ns with
   | none=>rw [List.cons_append,List.cons_append,List.zip_cons_cons,zuh (by simpa using hl) h']
   | some j=>rw [h'] at h; cases h
noncomputable def O.setF (o:O) (cn f:Str) (x:O) : Option O:=match o with
 | .ins c ns os=>if c=cn/\ns.length < 1000 then (match zax f ns with
  | some k=>some (.ins c ns (os.set k x))
  | none=>some (.ins c (ns++[f]) (os++[x]))) else none
 | _=>none
noncomputable def ze2 (i:Nat) (cn f:Str) (p:Xp) (g:List Sl->Option O) (ρ:List Sl) : Option Fl:=(g ρ).bind fun x=>(p ρ).bind fun q=>(q.1.setF cn f x).map fun o2=>.nx (ρ.set i (.deep (q.2 o2)))
theorem OTs.len {G:Gc} {Hf H:Hp} : ∀ {os:List O} {vs:List V} {fs:List Addr},OTs G Hf H os vs fs->os.length=vs.length
 | [],_,_,h=>by rw [h.1]; rfl
 | o::os,_,_,⟨v,r,f1,f2,e,_,h2,_⟩=>by subst e; simp [OTs.len h2]
section
variable {c:Str->Addr} {X:Cx} {st:Stmt} {e e' o:Expr} {pos apos:Pos} {i:Nat} {p:Xp}
theorem zgd {g:List Sl->Option O} {fl:Str} (cn:Str) (hc:Cls X.K (c cn)) (hn:zbc X.K (c cn) fl) (hp:PS X st (zur X.K (tDP (Gx c X) i p) (tDZ (Gx c X) true g) fl)) : DS c X st (ze2 i cn fl p g):=PS.imp hp fun E σ H q_=>by
 obtain ⟨Hf0,H0,Hf,ρ,o,so,ef,kq⟩:=q_;obtain ⟨x,e1,ef⟩:=zci ef;obtain ⟨q,e2,ef⟩:=zci ef;obtain ⟨o2,e3,ef⟩:=zey ef;subst ef;refine ⟨Hf0,H0,Hf,ρ,x,so,e1,fun u gp Hf1 H1 x1 rx fre=>⟨Hf0,H0,Hf1,ρ,q.1,q.2,so.step x1,e2,fun t v fp v1 f1 Hf2 H2 es ev x2 rt F=>?_⟩⟩;have x12:=x1.trans x2;have was:=so.was es ev x12 rt
 have hg : ∀ b∈gp,H b=none/\Hf2 b=none:=fun b hb=>by
  refine ⟨(fre.2 b hb).1,?_⟩;obtain ⟨w,hw,ht⟩:=OT.memM x u gp rx b hb;rw [x2.n b w hw ht];exact (fre.2 b hb).2
 have ng : ∀ b∈gp,b∉fp:=fun b hb hf=>was b hf (hg b hb).1
 cases h1 : q.1 with
 | ins c' ns os =>
  rw [h1] at e3 F
  replace e3 : (if c'=cn/\ns.length < 1000 then (match zax fl ns with
   | some k=>some (O.ins c' ns (os.set k x))
   | none=>some (.ins c' (ns++[fl]) (os++[x]))) else none)=some o2:=e3
  split at e3
  ·rename_i hcc;obtain ⟨rfl,hlt⟩:=hcc;obtain ⟨a,dx,vs,fs,rfl,ha,hz,rs,rfl⟩:=id F.r;obtain ⟨na,nfs⟩:=List.nodup_cons.mp F.n;have nag : a∉gp:=fun z=>ng a z (F.sub a List.mem_cons_self);refine ⟨a,_,dx,ns.zip vs,rfl,ha,hc,hn,by rw [List.length_zip]; omega,kq σ Hf2 _ x12.f ?_⟩;have keep : ∀ b w,b≠a->H2 b=some w->upd H2 a (.ins (c c') dx (zby fl u (ns.zip vs))) b=some w:=fun b w hb e=>by rw [zar hb]; exact e
   have rx2 : OT (Gx c X) Hf2 (upd H2 a (.ins (c c') dx (zby fl u (ns.zip vs)))) x u gp:=(rx.up x2.f x2.h).frame (zaf.refl _) fun b w hb hm=>keep b w (fun z=>by
    subst z;rw [ha] at hb;cases hb
    rcases hm with hm | hm
    ·cases hm
    ·exact nag hm) hb
   have kk : ∀ b w,H2 b=some w->b∉a::fs->upd H2 a (.ins (c c') dx (zby fl u (ns.zip vs))) b=some w:=fun b w hb hn=>keep b w (fun z=>hn (by rw [z]; exact List.mem_cons_self)) hb
   cases hk : zax fl ns with
   | some k =>
    rw [hk] at e3;cases e3;have hkl : k < os.length:=by rw [rs.len,<- hz]; exact zn0 hk
    obtain ⟨vk,fk,evk,_,_,sb,bk⟩:=rs.foc nfs (List.getElem?_eq_getElem hkl)
    obtain ⟨fs',r',m',n'⟩:=bk Hf2 _ x u gp (zaf.refl _) (fun b w hb hm _=>keep b w (fun z=>by
     subst z;rw [ha] at hb;cases hb
     rcases hm with hm | hm
     ·cases hm
     ·exact na hm) hb) rx2
    refine so.foc es ev rt x12 F kk (o2:=.ins c' ns (os.set k x)) (f2:=a::fs') ⟨a,dx,vs.set k u,fs',rfl,by rw [zbb,zui hz hk],by simp [hz],r',rfl⟩ (List.nodup_cons.mpr ⟨fun z=>?_,n' fre.1 fun b hb hf=>absurd (F.sub b (List.mem_cons_of_mem _ hf)) (ng b hb)⟩) fun b hb=>?_
    ·rcases m' a z with y | ⟨y,_⟩
     ·exact nag y
     ·exact na y
    ·rcases List.mem_cons.mp hb with z | z
     ·rw [z]; exact .inl List.mem_cons_self
     ·rcases m' b z with y | ⟨y,_⟩
      ·exact .inr (hg b y)
      ·exact .inl (List.mem_cons_of_mem _ y)
   | none =>
    rw [hk] at e3;cases e3;have r':=(rs.stay (H':=upd H2 a (.ins (c c') dx (zby fl u (ns.zip vs)))) ha rfl na (zaf.refl _) keep).append (.one rx2);refine so.foc es ev rt x12 F kk (o2:=.ins c' (ns++[fl]) (os++[x])) (f2:=a::(fs++gp)) ⟨a,dx,vs++[u],fs++gp,rfl,by rw [zbb,zuh hz hk],by simp [hz],r',rfl⟩ (List.nodup_cons.mpr ⟨fun z=>?_,List.nodup_append.mpr ⟨nfs,fre.1,fun b hb b' hb' z=>by subst z; exact ng b hb' (F.sub b (List.mem_cons_of_mem _ hb))⟩⟩) fun b hb=>?_
    ·rcases List.mem_append.mp z with y | y
     ·exact na y
     ·exact nag y
    ·rcases List.mem_cons.mp hb with z | z
     ·rw [z]; exact .inl List.mem_cons_self
     ·rcases List.mem_append.mp z with y | y
      ·exact .inl (List.mem_cons_of_mem _ y)
      ·exact .inr (hg b y)
  ·cases e3
 | _=>rw [h1] at e3; cases e3
end
noncomputable abbrev MTf:=Addr->List D->O->Option (O×D)
noncomputable def zf3 (G:Gc) (n:Nat) (m:MTf) : Sp:=fun vs H Q _=>∃ Hf ds o o' d l fp vs1,vs=.ref l::vs1/\zaf Hf H/\OT G Hf H o (.ref l) fp/\fp.Nodup/\(∀ a∈fp,Hf a=none)/\zae G Hf ds vs1/\1 + ds.length=n/\m l ds o=some (o',d) /\
 ∀ v Hf' H' fp',Ext Hf (zdc H fp) Hf' H'->OT G Hf' H' o' (.ref l) fp'->fp'.Nodup->(∀ a∈fp',zdc H fp a=none/\Hf' a=none)->Rep G Hf' d v->Q v H'
noncomputable def zjs (N:Nat) (l:Addr) (ds:List D) (o:O) : List Sl:=(zdh N (.non::ds)).set 0 (.deep (.at l o))
open Classical in
noncomputable def zhq (l:Addr) (ρ:List Sl) : Option O:=match (ρ[0]? : Option Sl) with
 | some (Sl.deep (.at l' o))=>if l'=l then some o else none
 | _=>none
theorem z7u {l:Addr} {ρ:List Sl} {o:O} (h:zhq l ρ=some o) : ρ[0]?=some (.deep (.at l o)):=by
 unfold zhq at h;split at h
 ·rename_i e;split at h
  ·rename_i q; subst q; cases h; exact e
  ·cases h
 ·cases h
theorem zvl {l:Addr} {ρ:List Sl} {o:O} (h:ρ[0]?=some (.deep (.at l o))) : zhq l ρ=some o:=by
 unfold zhq;rw [h];exact if_pos rfl
noncomputable def zgo (N:Nat) (F:List Sl->Option Fl) : MTf:=fun l ds o=>(F (zjs N l ds o)).bind fun r=>match r with
 | .nx ρ=>(zhq l ρ).map fun o'=>(o',.non)
 | .rtS d ρ=>(zhq l ρ).map fun o'=>(o',d)
 | _=>none
theorem zah.startMT {G:Gc} {Hf H:Hp} {N:List Str} {ds:List D} {o:O} {vs1:List V} {l:Addr} {fp:List Addr} (s0:zaf Hf H) (ro:OT G Hf H o (.ref l) fp) (n:fp.Nodup) (hf:∀ a∈fp,Hf a=none) (r:zae G Hf ds vs1) :
  zah G Hf (zdc H fp) Hf H (L2.start N (.ref l::vs1)) (zjs N.length l ds o):=by
 have st0:=zah.start (N:=N) (zus s0 hf) (.cons (d:=.non) (v:=.non) rfl r)
 exact st0.setNew (i:=0) (u:=.ref l) (s:=.deep (.at l o)) (Ext.grow (zus s0 hf) zxw) ⟨.ref l,fp,rfl,⟨rfl,ro⟩,n,fun a ha=>⟨znj ha,hf a ha⟩⟩ fun a p=>by
  obtain ⟨fp',r',ha⟩:=p;have:=OT.funM o _ fp fp' ro r'.2;subst this;exact znj ha
section
variable {P:Program} {w:World} {K:PySem.W.Frag} {mg:Str->Option Value} {base:Heap} {c:Str->Addr}
theorem znr {x qual:Str} {st:Stmt} {f:Addr} {fd:FuncData} {N ps:List Str} {k:Nat} {F:List Sl->Option Fl} (Fn:Fun K x qual st f fd) (S:za1 N ps (zai st))
  (h:∀ (cdv:Value) (A:Around) (outer:List Env) (s:Shared) (H:Hp) (E:XK),za5 k (A.deeper (envOfC qual (zai st) s.heap.objs.size f cdv))->DSs c (zfb CX0 P w K mg base N qual (zai st) f cdv A outer s H E).nox (zaz st) F) :
  zap P w K mg base CX0 (k + 1) f fd ps (zf3 ⟨K,c⟩ ps.length (zgo N.length F)):=by
 refine Fn.ok S (fun vs H Q E q_=>by obtain ⟨Hf,ds,o,o',d,l,fp,vs1,ev,s0,ro,n,hf,r,hn,_⟩:=q_; rw [ev,List.length_cons,<- r.length]; omega) fun cdv A outer s H vs Q E hr q_=>?_;obtain ⟨Hf,ds,o,o',d,l,fp,vs1,ev,s0,ro,n,hf,r,hn,e,kq⟩:=q_;refine ⟨_,h cdv A outer s H E hr,?_⟩;subst ev;unfold zgo at e
 cases eF : F (zjs N.length l ds o) with
 | none=>rw [eF] at e; cases e
 | some z =>
  rw [eF,Option.bind_some] at e;refine ⟨Hf,zdc H fp,Hf,_,z,zah.startMT s0 ro n hf r,eF,?_⟩
  have fin : ∀ (ρ:List Sl) (d':D),(zhq l ρ).map (fun o'=>(o',d'))=some (o',d)->∀ v σ' Hf' H',zah ⟨K,c⟩ Hf (zdc H fp) Hf' H' σ' ρ->Rep ⟨K,c⟩ Hf' d' v->Q v H':=fun ρ d' e v σ' Hf' H' so rv=>by
   obtain ⟨t,e1,e⟩:=zey e;cases e;obtain ⟨u,e2,u',fp',e3,rt,n',z'⟩:=so.slot (z7u e1);cases rt.1;exact kq v Hf' H' fp' so.ext rt.2 n' z' rv
  cases z with
  | nx ρ=>exact fun σ' Hf' H' _ so=>fin ρ .non e .non σ' Hf' H' so rfl
  | rtS d' ρ=>exact fun v σ' Hf' H' so rv=>fin ρ d' e v σ' Hf' H' so rv
  | _=>cases e
end
theorem zah.treeBack {G:Gc} {Hf0 H0 Hf H Hf' H':Hp} {σ:St} {ρ:List Sl} {i:Nat} {o o':O} {v:V} {fp fp':List Addr} (so:zah G Hf0 H0 Hf H σ ρ) (es:ρ[i]?=some (.deep o)) (ev:σ[i]?=some (some v)) (r:OT G Hf H o v fp) (x:Ext Hf (zdc H fp) Hf' H') (r':OT G Hf' H' o' v fp') (n':fp'.Nodup) (z':∀ a∈fp',zdc H fp a=none/\Hf' a=none) : zah G Hf0 H0 Hf' H' σ (ρ.set i (.deep o')):=by
 have s1 : zah G Hf0 H0 Hf (zdc H fp) σ (ρ.set i .no):=so.chg es ev (fun b y hb=>by
  by_cases hbl : b∈fp
  ·exact .inl ⟨fp,r,hbl⟩
  ·exact .inr (by rw [zjv hbl]; exact hb)) trivial fun a p=>(p.calm rfl).elim
 have s2:=s1.setNew (i:=i) (u:=v) (s:=.deep o') x ⟨v,fp',rfl,r',n',fun a ha=>⟨s1.ext.h.free (z' a ha).1,(z' a ha).2⟩⟩ fun a p=>by
  obtain ⟨g,r2,ha⟩:=p;have:=OT.funM o' v fp' g r' r2;subst this;exact (z' a ha).1
 rw [zml ev,List.set_set] at s2;exact s2
noncomputable def O.isIns (cn fl:Str) : O->Bool
 | .ins c ns _=>decide (c=cn) && !ns.contains fl
 | _=>false
theorem zsc {cn fl:Str} {o:O} (h:o.isIns cn fl=true) : ∃ ns os,o=.ins cn ns os/\ns.contains fl=false:=by
 cases o with
 | ins c ns os =>
  replace h : (decide (c=cn) && !ns.contains fl)=true:=h;rw [Bool.and_eq_true,decide_eq_true_eq,Bool.not_eq_true'] at h;obtain ⟨e,h⟩:=h;subst e
  exact ⟨ns,os,rfl,h⟩
 | _=>cases h
noncomputable def zhm (i:Nat) (cn fl:Str) (m:MTf) (f:Xa) : Xe:=fun ρ=>match ρ[i]? with
 | some (.deep (.at _ o0))=>if o0.isIns cn fl then (f ρ).bind fun p=>match p.2[i]? with
  | some (.deep (.at l o))=>(m l p.1 o).map fun q=>(q.2,p.2.set i (.deep (.at l q.1)))
  | _=>none else none
 | _=>none
open Classical in
section
variable {c:Str->Addr} {X:Cx} {k:Nat} {f:Addr} {fd:FuncData} {ps:List Str} {fl:Str} {p pos apos:Pos} {e o:Expr} {es:List Expr} {fa:Xa} {i:Nat} {m:MTf}
theorem z1m {σ:St} {H:Hp} {Q:VK} {t:TA} (cn:Str) (ht:∀ σ H Q,zvc (Gx c X) fa σ H Q->t σ H Q) (hn:∀ ρ ds ρ',fa ρ=some (ds,ρ')->1 + ds.length=ps.length) (q_:tDX (Gx c X) (zhm i cn fl m fa) σ H Q) : zpl (c cn) fl (zf3 (Gx c X) ps.length m) [] E0 (zdg i) t σ H Q:=by
 obtain ⟨Hf0,H0,Hf,ρ,d,ρ',st,ef,kq⟩:=q_;unfold zhm at ef;split at ef
 ·rename_i l0 o0 es0;split at ef
  ·rename_i hi;obtain ⟨ns,os,rfl,hno⟩:=zsc hi;obtain ⟨pp,e1,ef⟩:=zci ef;obtain ⟨ds,ρ1⟩:=pp;dsimp only at ef;split at ef
   ·rename_i l o1 es1;obtain ⟨q,e2,ef⟩:=zey ef;cases ef;obtain ⟨u,eu,u',fp,e3,rt,n,z⟩:=st.slot es0;subst e3;obtain ⟨el,a,dx,vs,fs,ea,ha,hz,rs,efp⟩:=rt;subst el;cases ea;refine ⟨_,eu,l0,dx,ns.zip vs,rfl,ha,zj1 hno,ht _ _ _ ⟨Hf0,H0,Hf,ρ,ds,ρ1,st,e1,fun us Hf' H' f1 st1 r=>?_⟩⟩;dsimp only;rw [List.append_nil];obtain ⟨w,ew,w',gp,e4,rt1,n1,z1⟩:=st1.slot es1;subst e4;rw [eu] at ew;cases ew;obtain ⟨el2,rt2⟩:=rt1;cases el2;exact ⟨Hf',ds,o1,q.1,q.2,l0,gp,us,rfl,st1.sub,rt2,n1,fun a ha=>(z1 a ha).2,r,hn _ _ _ e1,e2,fun v Hf3 H3 fp3 x3 r3 n3 z3 rv=>kq v Hf3 H3 (f1.trans x3.f) (st1.treeBack es1 eu ⟨rfl,rt2⟩ x3 ⟨rfl,r3⟩ n3 z3) rv⟩
   ·cases ef
  ·cases ef
 ·cases ef
theorem zyf {pl:Sem Bool} (cn:Str) (ho:PE X o (zdg i)) (hc:Cls X.K (c cn)) (hm:zbe X.K (c cn) fl f) (F:zap X.prog X.w X.K X.mg X.base CX0 k f fd ps (zf3 (Gx c X) ps.length m)) (hr:za5 k X.A) (hb:zav X.K fd ps []) (ha:DAX c X (e::es) fa)
  (hl:(e::es).length + 1=ps.length:=by rfl) (hst:starEach (e::es) X.env=(false,eval e X.env)::starEach es X.env:=by rfl) (hpl:(backTo pos (starEach es X.env)).any (·.1)=false:=by rfl)
  (ht:eval (.Call (.Attribute o fl apos) (e::es) [] pos) X.env=(do
   let ov <- eval o X.env
   standAt apos.atName
   let (f,first) <- holding [ov] (getMethod ov fl pl)
   callWith pos f first (backTo pos (starEach (e::es) X.env)) (backToKw pos (keywordEach [] X.env))):=by rfl) :
  DX c X (.Call (.Attribute o fl apos) (e::es) [] pos) (zhm i cn fl m fa):=PE.imp (zt6 ho hc hm F hr hb .nil zfm ha.pa hst hpl ht) fun σ H Q q_=>z1m cn (fun _ _ _ h=>h) (fun ρ ds ρ' h=>by have:=ha.len ρ ds ρ' h; omega) q_
end
open Classical in
noncomputable def zjm (cn:Str) (m:MTf) (fa:List Sl->Option (List D)) (ρ:List Sl) : Option O:=(fa ρ).bind fun ds=>if h : ∃ o,∀ l,m l ds (.ins cn [] [])=some (o,.non) then some h.choose else none
section
variable {c:Str->Addr} {X:Cx} {bb:Bool} {k:Nat} {f:Addr} {fd:FuncData} {ps:List Str} {x:Str} {p pos:Pos} {e:Expr} {es:List Expr} {fa:List Sl->Option (List D)} {m:MTf}
theorem z0y {G:Gc} {cn:Str} {σ:St} {H:Hp} {Q:VK} {t:TA} {C:Addr} (hC:C=G.cl cn) (ht:∀ σ H Q,tDA G fa σ H Q->t σ H Q) (hn:∀ ρ ds,fa ρ=some ds->1 + ds.length=ps.length) (q_:tDZ G bb (zjm cn m fa) σ H Q) : zvg C (zf3 G ps.length m) [] E0 t σ H Q:=by
 obtain ⟨Hf0,H0,Hf,ρ,o,st,ef,kq⟩:=q_;unfold zjm at ef;obtain ⟨ds,e1,ef⟩:=zci ef;split at ef
 ·rename_i hq;have e2:=hq.choose_spec;generalize hq.choose=o' at ef e2;cases ef;refine ht _ _ _ ⟨Hf0,H0,Hf,ρ,ds,st,e1,fun vs Hf1 H1 x1 r y dx ny ndx nex=>?_⟩
  try dsimp only
  rw [List.append_nil];subst hC;have hy : (upd H1 dx (.own y)) y=none:=by rw [zar nex.symm]; exact ny
  have s1 : zaf H1 (upd H1 dx (.own y)):=zbz ndx;have s2:=s1.trans (zbz (o:=.ins (G.cl cn) dx []) hy)
  have s3 : zaf H1 (zdc (upd (upd H1 dx (.own y)) y (.ins (G.cl cn) dx [])) [y]):=fun b u q=>by
   rw [zjv (fun z=>zcg q ny (List.mem_singleton.mp z))];exact s2 b u q
  refine ⟨Hf1,ds,.ins cn [] [],o,.non,y,[y],vs,rfl,x1.s.trans s2,⟨y,dx,[],[],rfl,zbb,rfl,⟨rfl,rfl⟩,rfl⟩,List.nodup_cons.mpr ⟨List.not_mem_nil,List.nodup_nil⟩,fun a ha=>by rw [List.mem_singleton.mp ha]; exact x1.s.free ny,r,hn ρ ds e1,e2 y,fun v Hf2 H2 fp2 x2 r2 n2 z2 rv=>⟨rv,?_⟩⟩;have x3 : Ext Hf1 H1 Hf2 H2:=⟨x2.f,s3.trans x2.h,x2.s,fun l u q t=>x2.n l u (s3 l u q) t⟩;exact kq _ fp2 Hf2 H2 (x1.trans x3) r2 ⟨n2,fun a ha=>⟨zm5 st.ext.h (x1.h.free (s3.free (z2 a ha).1)),(z2 a ha).2⟩⟩
 ·cases ef
theorem zyg (cn:Str) (M:Mk X.K (c cn) f) (F:zap X.prog X.w X.K X.mg X.base CX0 k f fd ps (zf3 (Gx c X) ps.length m)) (hr:za5 (k + 1) X.A) (hg:Gl X x) (hm:X.mg x=some (.ref (c cn))) (hb:zav X.K fd ps []) (ha:DA c X (e::es) fa)
  (hl:(e::es).length + 1=ps.length:=by rfl) (hdb:(x==("__debug__" : Str))=false:=by decide) (he:starEach (e::es) X.env=(false,eval e X.env)::starEach es X.env:=by rfl) (hpl:(backTo pos (starEach es X.env)).any (·.1)=false:=by rfl) :
  DZ c X bb (.Call (.Name x p) (e::es) [] pos) (zjm cn m fa):=PE.imp (zt5 M F hr hg hm hb .nil zfm ha.pa hdb he hpl) fun σ H Q q_=>z0y rfl (fun _ _ _ h=>h) (fun ρ ds h=>by have:=ha.len ρ ds h; omega) q_
end
theorem hu1 {u:Nat} (h:u + 64 < cLine) : u + 1 < cLine:=Nat.lt_of_le_of_lt (Nat.add_le_add_left (by decide) u) h
section
variable {c:Str->Addr} {X:Cx} {tg e a o:Expr} {pos p apos:Pos}
theorem zxz {f:List Sl->Option (List D)} (h:DL c X e f) : DIe c X tg e f:=PI.imp (zua h) fun σ H R q_=>by
 obtain ⟨Hf0,H0,Hf,ρ,ds,st,ef,k⟩:=q_;exact ⟨Hf0,H0,Hf,ρ,ds,st,ef,fun l vs Hf' H' x hl r=>⟨l,rfl,⟨vs,SqL.of hl⟩,k _ Hf' H' x (zz0 (SqL.of hl) r)⟩⟩
theorem zrg {bb:Bool} : DZ c X bb (.Dict [] [] pos) (fun _=>some (.dT [] [])):=PE.imp z30 fun σ H Q q_=>by
 obtain ⟨Hf0,H0,Hf,ρ,o,st,ef,k⟩:=q_;cases ef;intro l hl;exact k _ [l] Hf _ (Ext.tmp st.sub hl) ⟨l,[],[],rfl,zbb,rfl,⟨rfl,rfl⟩,rfl⟩ (.one (zm5 st.ext.h hl) (st.sub.free hl))
open Classical in
noncomputable def zj6 (cn fl:Str) (z:List Sl->Option O) (m:MTf) (ρ:List Sl) : Option D:=(z ρ).bind fun o=>if o.isIns cn fl then (if h:∃ q,∀ l,m l [] o=some q then some h.choose.2 else none) else none
theorem zxv {k:Nat} {f:Addr} {fd:FuncData} {ps:List Str} {fl:Str} {z:List Sl->Option O} {m:MTf} {pl:Sem Bool} (cn:Str) (ho:DZ c X true o z) (hc:Cls X.K (c cn)) (hm:zbe X.K (c cn) fl f) (F:zap X.prog X.w X.K X.mg X.base CX0 k f fd ps (zf3 (Gx c X) ps.length m)) (hr:za5 k X.A) (hb:zav X.K fd ps []) (hl:1=ps.length:=by rfl)
  (ht:eval (.Call (.Attribute o fl apos) [] [] pos) X.env=(do
   let ov <- eval o X.env
   standAt apos.atName
   let (f,first) <- holding [ov] (getMethod ov fl pl)
   callWith pos f first (backTo pos (starEach [] X.env)) (backToKw pos (keywordEach [] X.env))):=by rfl) :
  DE c X (.Call (.Attribute o fl apos) [] [] pos) (zj6 cn fl z m):=PE.imp (zt7 ho hc hm F hr hb .nil zfm ht) fun σ H Q q_=>by
 obtain ⟨Hf0,H0,Hf,ρ,d,st,ef,kq⟩:=q_;unfold zj6 at ef;obtain ⟨t,e1,ef⟩:=zci ef;split at ef
 ·rename_i hi;split at ef
  ·rename_i hq;have e2:=hq.choose_spec;generalize hq.choose=q at ef e2;cases ef;obtain ⟨ns,os,rfl,hno⟩:=zsc hi;refine ⟨Hf0,H0,Hf,ρ,_,st,e1,fun u fp Hf1 H1 x1 rt fre=>?_⟩;obtain ⟨l,dx,vs,fs,ea,ha,hz,rs,efp⟩:=id rt;subst ea;refine ⟨l,dx,ns.zip vs,rfl,ha,zj1 hno,?_⟩
   have s0 : zaf H (zdc H1 fp):=fun b w e=>by
    rw [zjv (fun z=>by rw [show H b=none from (fre.2 b z).1] at e; cases e)];exact x1.h b w e
   exact ⟨Hf1,[],.ins cn ns os,q.1,q.2,l,fp,[],rfl,x1.s,rt,fre.1,fun a ha=>(fre.2 a ha).2,.nil,hl,e2 l,fun v Hf2 H2 fp2 x2 r2 n2 z2 rv=>kq v Hf2 H2 ⟨x1.f.trans x2.f,s0.trans x2.h,x2.s,fun b w e t=>(x2.n b w (s0 b w e) t).trans (x1.n b w e t)⟩ rv⟩
  ·cases ef
 ·cases ef
end
end L2
namespace N_k32
open PySem PySem.Spec PyProof.Rows L2
local macro_rules | `(tactic| walk_at "sc")=>`(tactic| exact ⟨rfl,rfl,rfl,by decide +kernel,rfl,by decide +kernel,by decide +kernel⟩)
noncomputable def top (i:Nat) : Stmt:=PySem.Challenge.pw_standstill_k32_loose_is_greatest.main.body.getD i (.Pass ⟨0,0,0,0⟩)
noncomputable abbrev zi5 : Stmt:=top 2
noncomputable abbrev zix : Stmt:=top 9
noncomputable abbrev ziy : Stmt:=top 10
noncomputable abbrev zi9 : Stmt:=top 11
noncomputable abbrev zi6 : Stmt:=top 12
noncomputable abbrev zja : Stmt:=top 13
noncomputable abbrev s_1 : Stmt:=top 17
noncomputable abbrev zi0 : Stmt:=top 18
noncomputable abbrev zi1 : Stmt:=top 21
noncomputable abbrev zi7 : Stmt:=top 24
noncomputable abbrev zik : Stmt:=top 26
noncomputable abbrev s_3 : Stmt:=top 27
noncomputable abbrev zi2 : Stmt:=top 28
noncomputable abbrev ziz : Stmt:=top 29
noncomputable abbrev zi3 : Stmt:=top 30
noncomputable abbrev zil : Stmt:=top 31
noncomputable abbrev s_5 : Stmt:=top 32
noncomputable abbrev zi8 : Stmt:=top 33
noncomputable abbrev zim : Stmt:=top 34
noncomputable abbrev zi4 : Stmt:=top 35
noncomputable abbrev s_6 : Stmt:=top 36
noncomputable abbrev s_0 : Stmt:=top 37
noncomputable abbrev zjd : Stmt:=zcr (top 5) 0
noncomputable abbrev zin : Stmt:=zcr (top 5) 2
noncomputable abbrev zio : Stmt:=zcr (top 5) 3
noncomputable abbrev s_7 : Stmt:=zcr (top 5) 8
noncomputable abbrev zjb : Stmt:=zcr (top 6) 0
noncomputable abbrev ziq : Stmt:=zcr (top 6) 2
noncomputable abbrev zir : Stmt:=zcr (top 6) 3
noncomputable abbrev s_8 : Stmt:=zcr (top 6) 8
noncomputable abbrev zjc : Stmt:=zcr (top 7) 0
noncomputable abbrev zis : Stmt:=zcr (top 7) 2
noncomputable abbrev zit : Stmt:=zcr (top 7) 3
noncomputable abbrev s_9 : Stmt:=zcr (top 7) 8
noncomputable abbrev zje : Stmt:=zcr (top 8) 0
noncomputable abbrev ziu : Stmt:=zcr (top 8) 2
noncomputable abbrev ziv : Stmt:=zcr (top 8) 3
noncomputable abbrev zij : Stmt:=zcr (top 8) 8
noncomputable abbrev ziw : Stmt:=zcr (top 22) 0
noncomputable abbrev s_4 : Stmt:=zcr (top 22) 1
noncomputable abbrev s_2 : Stmt:=zcr (top 22) 9
theorem z55 : za1 ["truths"] ["truths"] (zai zi5):=by walk_at "sc"
theorem zuu : za1 ["told","word"] ["told"] (zai zix):=by walk_at "sc"
theorem z53 : za1 ["items"] ["items"] (zai ziy):=by walk_at "sc"
theorem z58 : za1 ["items","entries"] ["items","entries"] (zai zi9):=by walk_at "sc"
theorem z56 : za1 ["items","sheet"] ["items","sheet"] (zai zi6):=by walk_at "sc"
theorem z59 : za1 ["items","without"] ["items","without"] (zai zja):=by walk_at "sc"
theorem zut : za1 ["rule"] ["rule"] (zai s_1):=by walk_at "sc"
theorem zuv : za1 ["rule","guard"] ["rule"] (zai zi0):=by walk_at "sc"
theorem zuw : za1 ["body","sheet","without","part"] ["body","sheet","without"] (zai zi1):=by walk_at "sc"
theorem z57 : za1 ["plain","sheet"] ["plain","sheet"] (zai zi7):=by walk_at "sc"
theorem z5t : za1 ["_law_script","_law_k"] ["_law_script","_law_k"] (zai zik):=by walk_at "sc"
theorem zkh : za1 ["_law_cell","_law_many","_law_found","_law_number","_law_k"] ["_law_cell","_law_many"] (zai s_3):=by walk_at "sc"
theorem z54 : za1 ["_law_x"] ["_law_x"] (zai zi2):=by walk_at "sc"
theorem zme : za1 ["_law_xs","_law_many","_law_word","_law_items","_law_near"] ["_law_xs","_law_many"] (zai ziz):=by walk_at "sc"
theorem zpd : za1 ["_law_cell","_law_many","_law_calm","_law_xs","_law_parts"] ["_law_cell","_law_many","_law_calm"] (zai zi3):=by walk_at "sc"
theorem zkg : za1 ["_law_kind","_law_many","_law_rules","_law_k","_law_on","_law_part_here"] ["_law_kind","_law_many"] (zai zil):=by walk_at "sc"
theorem zgp : za1 ["_law_rules","_law_found","_law_word","_law_head","_law_parts","_law_mine","_law_part_here"] ["_law_rules"] (zai s_5):=by walk_at "sc"
theorem zux : za1 ["_law_part_here","_law_sheet","_law_without","_law_left"] ["_law_part_here","_law_sheet","_law_without"] (zai zi8):=by walk_at "sc"
theorem z5u : za1 ["_law_rule_here","_law_sheet","_law_without"] ["_law_rule_here","_law_sheet","_law_without"] (zai zim):=by walk_at "sc"
theorem zpe : za1 ["_law_found","_law_many","_law_k","_law_thing"] ["_law_found","_law_many"] (zai zi4):=by walk_at "sc"
theorem zhp : za1 ["_law_many","_law_rules","_law_sheet","_law_found","_law_mine","_law_rule_here","_law_left","_law_going"] ["_law_many","_law_rules","_law_sheet","_law_found"] (zai s_6):=by walk_at "sc"
theorem zfo : za1 ["_law_script","_law_hs","_law_many","_law_rules","_law_cell","_law_sheet","_law_turn","_law_handed","_law_found"] ["_law_script"] (zai s_0):=by walk_at "sc"
theorem z6c : za1 ["self","thing"] ["self","thing"] (zai zjd):=by walk_at "sc"
theorem z5v : za1 ["self"] ["self"] (zai zin):=by walk_at "sc"
theorem z5w : za1 ["self"] ["self"] (zai zio):=by walk_at "sc"
theorem z6e : za1 ["self","sheet","without"] ["self","sheet","without"] (zai s_7):=by walk_at "sc"
theorem z6a : za1 ["self","thing"] ["self","thing"] (zai zjb):=by walk_at "sc"
theorem z5x : za1 ["self"] ["self"] (zai ziq):=by walk_at "sc"
theorem z5y : za1 ["self"] ["self"] (zai zir):=by walk_at "sc"
theorem z6f : za1 ["self","sheet","without"] ["self","sheet","without"] (zai s_8):=by walk_at "sc"
theorem z6b : za1 ["self","bound","items"] ["self","bound","items"] (zai zjc):=by walk_at "sc"
theorem z5z : za1 ["self"] ["self"] (zai zis):=by walk_at "sc"
theorem z50 : za1 ["self"] ["self"] (zai zit):=by walk_at "sc"
theorem z6g : za1 ["self","sheet","without"] ["self","sheet","without"] (zai s_9):=by walk_at "sc"
theorem z6d : za1 ["self","bound","items"] ["self","bound","items"] (zai zje):=by walk_at "sc"
theorem z51 : za1 ["self"] ["self"] (zai ziu):=by walk_at "sc"
theorem z52 : za1 ["self"] ["self"] (zai ziv):=by walk_at "sc"
theorem z5s : za1 ["self","sheet","without"] ["self","sheet","without"] (zai zij):=by walk_at "sc"
theorem zmd : za1 ["self","plain","bars","sheet","rule","number","bar"] ["self","plain","bars","sheet"] (zai ziw):=by walk_at "sc"
theorem zpf : za1 ["self","why","guard","part","thing"] ["self","why","guard"] (zai s_4):=by walk_at "sc"
theorem zfp : za1 ["self","without","used","rest","going","before","unused","maker"] ["self"] (zai s_2):=by walk_at "sc"
set_option genInjectivity false
set_option genSizeOf false
structure Wa where
 f_31 : Addr
 fd_31 : FuncData
 f_23 : Addr
 fd_23 : FuncData
 f_24 : Addr
 fd_24 : FuncData
 f_35 : Addr
 fd_35 : FuncData
 f_32 : Addr
 fd_32 : FuncData
 f_36 : Addr
 fd_36 : FuncData
 f_1 : Addr
 fd_1 : FuncData
 f_26 : Addr
 fd_26 : FuncData
 f_27 : Addr
 fd_27 : FuncData
 f_33 : Addr
 fd_33 : FuncData
 f_11 : Addr
 fd_11 : FuncData
 f_3 : Addr
 fd_3 : FuncData
 f_28 : Addr
 fd_28 : FuncData
 f_25 : Addr
 fd_25 : FuncData
 f_29 : Addr
 fd_29 : FuncData
 f_12 : Addr
 fd_12 : FuncData
 f_5 : Addr
 fd_5 : FuncData
 f_34 : Addr
 fd_34 : FuncData
 f_13 : Addr
 fd_13 : FuncData
 f_30 : Addr
 fd_30 : FuncData
 f_6 : Addr
 fd_6 : FuncData
 f_0 : Addr
 fd_0 : FuncData
 f_39 : Addr
 fd_39 : FuncData
 f_14 : Addr
 fd_14 : FuncData
 f_15 : Addr
 fd_15 : FuncData
 f_7 : Addr
 fd_7 : FuncData
 f_37 : Addr
 fd_37 : FuncData
 f_16 : Addr
 fd_16 : FuncData
 f_17 : Addr
 fd_17 : FuncData
 f_8 : Addr
 fd_8 : FuncData
 f_38 : Addr
 fd_38 : FuncData
 f_18 : Addr
 fd_18 : FuncData
 f_19 : Addr
 fd_19 : FuncData
 f_9 : Addr
 fd_9 : FuncData
 f_40 : Addr
 fd_40 : FuncData
 f_20 : Addr
 fd_20 : FuncData
 f_21 : Addr
 fd_21 : FuncData
 f_10 : Addr
 fd_10 : FuncData
 f_22 : Addr
 fd_22 : FuncData
 f_4 : Addr
 fd_4 : FuncData
 f_2 : Addr
 fd_2 : FuncData
 C_In : Addr
 C_Out : Addr
 C_Least : Addr
 C_Most : Addr
 C_Spreading : Addr
structure Wd (K:PySem.W.Frag) (mg:Str->Option Value) (a:Wa) : Prop where
 F_31 : Fun K "numbers" "numbers" zi5 a.f_31 a.fd_31
 b_31 : zav K a.fd_31 ["truths"] []
 g_31 : mg "numbers"=some (.ref a.f_31)
 F_23 : Fun K "part_of" "part_of" zix a.f_23 a.fd_23
 b_23 : zav K a.fd_23 ["told"] []
 g_23 : mg "part_of"=some (.ref a.f_23)
 F_24 : Fun K "things_of" "things_of" ziy a.f_24 a.fd_24
 b_24 : zav K a.fd_24 ["items"] []
 g_24 : mg "things_of"=some (.ref a.f_24)
 F_35 : Fun K "worth_in" "worth_in" zi9 a.f_35 a.fd_35
 b_35 : zav K a.fd_35 ["items","entries"] []
 g_35 : mg "worth_in"=some (.ref a.f_35)
 F_32 : Fun K "worth_not_out" "worth_not_out" zi6 a.f_32 a.fd_32
 b_32 : zav K a.fd_32 ["items","sheet"] []
 g_32 : mg "worth_not_out"=some (.ref a.f_32)
 F_36 : Fun K "outside" "outside" zja a.f_36 a.fd_36
 b_36 : zav K a.fd_36 ["items","without"] []
 g_36 : mg "outside"=some (.ref a.f_36)
 F_1 : Fun K "body_of" "body_of" s_1 a.f_1 a.fd_1
 b_1 : zav K a.fd_1 ["rule"] []
 g_1 : mg "body_of"=some (.ref a.f_1)
 F_26 : Fun K "guard_of" "guard_of" zi0 a.f_26 a.fd_26
 b_26 : zav K a.fd_26 ["rule"] []
 g_26 : mg "guard_of"=some (.ref a.f_26)
 F_27 : Fun K "lost_part" "lost_part" zi1 a.f_27 a.fd_27
 b_27 : zav K a.fd_27 ["body","sheet","without"] []
 g_27 : mg "lost_part"=some (.ref a.f_27)
 F_33 : Fun K "loose" "loose" zi7 a.f_33 a.fd_33
 b_33 : zav K a.fd_33 ["plain","sheet"] []
 g_33 : mg "loose"=some (.ref a.f_33)
 F_11 : Fun K "_law_cell_at" "_law_cell_at" zik a.f_11 a.fd_11
 b_11 : zav K a.fd_11 ["_law_script","_law_k"] []
 g_11 : mg "_law_cell_at"=some (.ref a.f_11)
 F_3 : Fun K "_law_mixed" "_law_mixed" s_3 a.f_3 a.fd_3
 b_3 : zav K a.fd_3 ["_law_cell","_law_many"] []
 g_3 : mg "_law_mixed"=some (.ref a.f_3)
 F_28 : Fun K "_law_worth" "_law_worth" zi2 a.f_28 a.fd_28
 b_28 : zav K a.fd_28 ["_law_x"] []
 g_28 : mg "_law_worth"=some (.ref a.f_28)
 F_25 : Fun K "_law_part" "_law_part" ziz a.f_25 a.fd_25
 b_25 : zav K a.fd_25 ["_law_xs","_law_many"] []
 g_25 : mg "_law_part"=some (.ref a.f_25)
 F_29 : Fun K "_law_rule" "_law_rule" zi3 a.f_29 a.fd_29
 b_29 : zav K a.fd_29 ["_law_cell","_law_many","_law_calm"] []
 g_29 : mg "_law_rule"=some (.ref a.f_29)
 F_12 : Fun K "_law_ring" "_law_ring" zil a.f_12 a.fd_12
 b_12 : zav K a.fd_12 ["_law_kind","_law_many"] []
 g_12 : mg "_law_ring"=some (.ref a.f_12)
 F_5 : Fun K "_law_copy" "_law_copy" s_5 a.f_5 a.fd_5
 b_5 : zav K a.fd_5 ["_law_rules"] []
 g_5 : mg "_law_copy"=some (.ref a.f_5)
 F_34 : Fun K "_law_part_lost" "_law_part_lost" zi8 a.f_34 a.fd_34
 b_34 : zav K a.fd_34 ["_law_part_here","_law_sheet","_law_without"] []
 g_34 : mg "_law_part_lost"=some (.ref a.f_34)
 F_13 : Fun K "_law_holds_up" "_law_holds_up" zim a.f_13 a.fd_13
 b_13 : zav K a.fd_13 ["_law_rule_here","_law_sheet","_law_without"] []
 g_13 : mg "_law_holds_up"=some (.ref a.f_13)
 F_30 : Fun K "_law_is_set" "_law_is_set" zi4 a.f_30 a.fd_30
 b_30 : zav K a.fd_30 ["_law_found","_law_many"] []
 g_30 : mg "_law_is_set"=some (.ref a.f_30)
 F_6 : Fun K "_law_greatest" "_law_greatest" s_6 a.f_6 a.fd_6
 b_6 : zav K a.fd_6 ["_law_many","_law_rules","_law_sheet","_law_found"] []
 g_6 : mg "_law_greatest"=some (.ref a.f_6)
 F_0 : Fun K "law" "law" s_0 a.f_0 a.fd_0
 b_0 : zav K a.fd_0 ["_law_script"] []
 g_0 : mg "law"=some (.ref a.f_0)
 F_39 : Fun K "__init__" "In.__init__" zjd a.f_39 a.fd_39
 b_39 : zav K a.fd_39 ["self","thing"] []
 F_14 : Fun K "named" "In.named" zin a.f_14 a.fd_14
 b_14 : zav K a.fd_14 ["self"] []
 F_15 : Fun K "wants" "In.wants" zio a.f_15 a.fd_15
 b_15 : zav K a.fd_15 ["self"] []
 F_7 : Fun K "lost" "In.lost" s_7 a.f_7 a.fd_7
 b_7 : zav K a.fd_7 ["self","sheet","without"] []
 F_37 : Fun K "__init__" "Out.__init__" zjb a.f_37 a.fd_37
 b_37 : zav K a.fd_37 ["self","thing"] []
 F_16 : Fun K "named" "Out.named" ziq a.f_16 a.fd_16
 b_16 : zav K a.fd_16 ["self"] []
 F_17 : Fun K "wants" "Out.wants" zir a.f_17 a.fd_17
 b_17 : zav K a.fd_17 ["self"] []
 F_8 : Fun K "lost" "Out.lost" s_8 a.f_8 a.fd_8
 b_8 : zav K a.fd_8 ["self","sheet","without"] []
 F_38 : Fun K "__init__" "Least.__init__" zjc a.f_38 a.fd_38
 b_38 : zav K a.fd_38 ["self","bound","items"] []
 F_18 : Fun K "named" "Least.named" zis a.f_18 a.fd_18
 b_18 : zav K a.fd_18 ["self"] []
 F_19 : Fun K "wants" "Least.wants" zit a.f_19 a.fd_19
 b_19 : zav K a.fd_19 ["self"] []
 F_9 : Fun K "lost" "Least.lost" s_9 a.f_9 a.fd_9
 b_9 : zav K a.fd_9 ["self","sheet","without"] []
 F_40 : Fun K "__init__" "Most.__init__" zje a.f_40 a.fd_40
 b_40 : zav K a.fd_40 ["self","bound","items"] []
 F_20 : Fun K "named" "Most.named" ziu a.f_20 a.fd_20
 b_20 : zav K a.fd_20 ["self"] []
 F_21 : Fun K "wants" "Most.wants" ziv a.f_21 a.fd_21
 b_21 : zav K a.fd_21 ["self"] []
 F_10 : Fun K "lost" "Most.lost" zij a.f_10 a.fd_10
 b_10 : zav K a.fd_10 ["self","sheet","without"] []
 F_22 : Fun K "__init__" "Spreading.__init__" ziw a.f_22 a.fd_22
 b_22 : zav K a.fd_22 ["self","plain","bars","sheet"] []
 F_4 : Fun K "take_guard" "Spreading.take_guard" s_4 a.f_4 a.fd_4
 b_4 : zav K a.fd_4 ["self","why","guard"] []
 F_2 : Fun K "loose_marks" "Spreading.loose_marks" s_2 a.f_2 a.fd_2
 b_2 : zav K a.fd_2 ["self"] []
 g_In : mg "In"=some (.ref a.C_In)
 cl_In : Cls K a.C_In
 mk_In : Mk K a.C_In a.f_39
 na_In_thing : zbc K a.C_In "thing"
 m_14 : zbe K a.C_In "named" a.f_14
 m_15 : zbe K a.C_In "wants" a.f_15
 m_7 : zbe K a.C_In "lost" a.f_7
 g_Out : mg "Out"=some (.ref a.C_Out)
 cl_Out : Cls K a.C_Out
 mk_Out : Mk K a.C_Out a.f_37
 na_Out_thing : zbc K a.C_Out "thing"
 m_16 : zbe K a.C_Out "named" a.f_16
 m_17 : zbe K a.C_Out "wants" a.f_17
 m_8 : zbe K a.C_Out "lost" a.f_8
 g_Least : mg "Least"=some (.ref a.C_Least)
 cl_Least : Cls K a.C_Least
 mk_Least : Mk K a.C_Least a.f_38
 na_Least_bound : zbc K a.C_Least "bound"
 na_Least_pieces : zbc K a.C_Least "pieces"
 m_18 : zbe K a.C_Least "named" a.f_18
 m_19 : zbe K a.C_Least "wants" a.f_19
 m_9 : zbe K a.C_Least "lost" a.f_9
 g_Most : mg "Most"=some (.ref a.C_Most)
 cl_Most : Cls K a.C_Most
 mk_Most : Mk K a.C_Most a.f_40
 na_Most_bound : zbc K a.C_Most "bound"
 na_Most_pieces : zbc K a.C_Most "pieces"
 m_20 : zbe K a.C_Most "named" a.f_20
 m_21 : zbe K a.C_Most "wants" a.f_21
 m_10 : zbe K a.C_Most "lost" a.f_10
 g_Spreading : mg "Spreading"=some (.ref a.C_Spreading)
 cl_Spreading : Cls K a.C_Spreading
 mk_Spreading : Mk K a.C_Spreading a.f_22
 na_Spreading_sheet : zbc K a.C_Spreading "sheet"
 na_Spreading_steps : zbc K a.C_Spreading "steps"
 na_Spreading_bars : zbc K a.C_Spreading "bars"
 na_Spreading_guards : zbc K a.C_Spreading "guards"
 na_Spreading_watches : zbc K a.C_Spreading "watches"
 na_Spreading_waiting : zbc K a.C_Spreading "waiting"
 na_Spreading_makers : zbc K a.C_Spreading "makers"
 m_4 : zbe K a.C_Spreading "take_guard" a.f_4
 m_2 : zbe K a.C_Spreading "loose_marks" a.f_2
 kb9 : PySem.W.kitOne K (.type "NoneType") (.type "bool")=some false
 kb4 : PySem.W.kitOne K (.type "bool") (.type "bool")=some true
 ka4 : PySem.W.kitOne K (.type "int") (.type "bool")=some false
 ka2 : PySem.W.kitOne K (.type "str") (.type "bool")=some false
 kb1 : PySem.W.kitOne K (.type "list") (.type "bool")=some false
 kb6 : PySem.W.kitOne K (.type "tuple") (.type "bool")=some false
 ka9 : PySem.W.kitOne K (.type "dict") (.type "bool")=some false
 kb8 : PySem.W.kitOne K (.type "NoneType") (.type "int")=some false
 ka8 : PySem.W.kitOne K (.type "bool") (.type "int")=some true
 ka0 : PySem.W.kitOne K (.type "int") (.type "int")=some true
 ka1 : PySem.W.kitOne K (.type "str") (.type "int")=some false
 ka6 : PySem.W.kitOne K (.type "list") (.type "int")=some false
 kb5 : PySem.W.kitOne K (.type "tuple") (.type "int")=some false
 ka7 : PySem.W.kitOne K (.type "dict") (.type "int")=some false
 kc0 : PySem.W.kitOne K (.type "NoneType") (.type "list")=some false
 kb0 : PySem.W.kitOne K (.type "bool") (.type "list")=some false
 ka5 : PySem.W.kitOne K (.type "int") (.type "list")=some false
 ka3 : PySem.W.kitOne K (.type "str") (.type "list")=some false
 kb3 : PySem.W.kitOne K (.type "list") (.type "list")=some true
 kb7 : PySem.W.kitOne K (.type "tuple") (.type "list")=some false
 kb2 : PySem.W.kitOne K (.type "dict") (.type "list")=some false
 z_any : mg "any"=none
 z_bool : mg "bool"=none
 z_enumerate : mg "enumerate"=none
 z_int : mg "int"=none
 z_isinstance : mg "isinstance"=none
 z_len : mg "len"=none
 z_list : mg "list"=none
 z_range : mg "range"=none
 z_set : mg "set"=none
 z_sorted : mg "sorted"=none
 z_sum : mg "sum"=none
set_option genInjectivity true
set_option genSizeOf true
section
variable {P:Program} {w:World} {K:PySem.W.Frag} {mg:Str->Option Value} {base:Heap}
noncomputable def cl (a:Wa) : Str->Addr:=fun s=>if s="In" then a.C_In else if s="Out" then a.C_Out else if s="Least" then a.C_Least else if s="Most" then a.C_Most else if s="Spreading" then a.C_Spreading else 0
theorem zg3 {a:Wa} : cl a "In"=a.C_In:=by unfold cl; rw [if_pos rfl]
theorem zg5 {a:Wa} (W:Wd K mg a) : Cls K (cl a "In"):=by rw [zg3]; exact W.cl_In
theorem z1p {a:Wa} (W:Wd K mg a) : Mk K (cl a "In") a.f_39:=by rw [zg3]; exact W.mk_In
theorem zyz {a:Wa} (W:Wd K mg a) : mg "In"=some (.ref (cl a "In")):=by rw [zg3]; exact W.g_In
theorem zl0 {a:Wa} (W:Wd K mg a) : zbc K (cl a "In") "thing":=by rw [zg3]; exact W.na_In_thing
theorem z06 {a:Wa} (W:Wd K mg a) : zbe K (cl a "In") "named" a.f_14:=by rw [zg3]; exact W.m_14
theorem z07 {a:Wa} (W:Wd K mg a) : zbe K (cl a "In") "wants" a.f_15:=by rw [zg3]; exact W.m_15
theorem z05 {a:Wa} (W:Wd K mg a) : zbe K (cl a "In") "lost" a.f_7:=by rw [zg3]; exact W.m_7
theorem zg4 {a:Wa} : cl a "Out"=a.C_Out:=by unfold cl; rw [if_neg (by decide +kernel)]; rw [if_pos rfl]
theorem zhu {a:Wa} (W:Wd K mg a) : Cls K (cl a "Out"):=by rw [zg4]; exact W.cl_Out
theorem zta {a:Wa} (W:Wd K mg a) : Mk K (cl a "Out") a.f_37:=by rw [zg4]; exact W.mk_Out
theorem zrw {a:Wa} (W:Wd K mg a) : mg "Out"=some (.ref (cl a "Out")):=by rw [zg4]; exact W.g_Out
theorem zos {a:Wa} (W:Wd K mg a) : zbc K (cl a "Out") "thing":=by rw [zg4]; exact W.na_Out_thing
theorem z1f {a:Wa} (W:Wd K mg a) : zbe K (cl a "Out") "named" a.f_16:=by rw [zg4]; exact W.m_16
theorem z1g {a:Wa} (W:Wd K mg a) : zbe K (cl a "Out") "wants" a.f_17:=by rw [zg4]; exact W.m_17
theorem z1e {a:Wa} (W:Wd K mg a) : zbe K (cl a "Out") "lost" a.f_8:=by rw [zg4]; exact W.m_8
theorem zf5 {a:Wa} : cl a "Least"=a.C_Least:=by unfold cl; rw [if_neg (by decide +kernel)]; rw [if_neg (by decide +kernel)]; rw [if_pos rfl]
theorem zf7 {a:Wa} (W:Wd K mg a) : Cls K (cl a "Least"):=by rw [zf5]; exact W.cl_Least
theorem zs9 {a:Wa} (W:Wd K mg a) : Mk K (cl a "Least") a.f_38:=by rw [zf5]; exact W.mk_Least
theorem zrv {a:Wa} (W:Wd K mg a) : mg "Least"=some (.ref (cl a "Least")):=by rw [zf5]; exact W.g_Least
theorem ztb {a:Wa} (W:Wd K mg a) : zbc K (cl a "Least") "bound":=by rw [zf5]; exact W.na_Least_bound
theorem zoq {a:Wa} (W:Wd K mg a) : zbc K (cl a "Least") "pieces":=by rw [zf5]; exact W.na_Least_pieces
theorem z09 {a:Wa} (W:Wd K mg a) : zbe K (cl a "Least") "named" a.f_18:=by rw [zf5]; exact W.m_18
theorem z1a {a:Wa} (W:Wd K mg a) : zbe K (cl a "Least") "wants" a.f_19:=by rw [zf5]; exact W.m_19
theorem z08 {a:Wa} (W:Wd K mg a) : zbe K (cl a "Least") "lost" a.f_9:=by rw [zf5]; exact W.m_9
theorem zf6 {a:Wa} : cl a "Most"=a.C_Most:=by unfold cl; rw [if_neg (by decide +kernel)]; rw [if_neg (by decide +kernel)]; rw [if_neg (by decide +kernel)]; rw [if_pos rfl]
theorem zf8 {a:Wa} (W:Wd K mg a) : Cls K (cl a "Most"):=by rw [zf6]; exact W.cl_Most
theorem z1q {a:Wa} (W:Wd K mg a) : Mk K (cl a "Most") a.f_40:=by rw [zf6]; exact W.mk_Most
theorem zy0 {a:Wa} (W:Wd K mg a) : mg "Most"=some (.ref (cl a "Most")):=by rw [zf6]; exact W.g_Most
theorem ztc {a:Wa} (W:Wd K mg a) : zbc K (cl a "Most") "bound":=by rw [zf6]; exact W.na_Most_bound
theorem zor {a:Wa} (W:Wd K mg a) : zbc K (cl a "Most") "pieces":=by rw [zf6]; exact W.na_Most_pieces
theorem z1c {a:Wa} (W:Wd K mg a) : zbe K (cl a "Most") "named" a.f_20:=by rw [zf6]; exact W.m_20
theorem z1d {a:Wa} (W:Wd K mg a) : zbe K (cl a "Most") "wants" a.f_21:=by rw [zf6]; exact W.m_21
theorem z1b {a:Wa} (W:Wd K mg a) : zbe K (cl a "Most") "lost" a.f_10:=by rw [zf6]; exact W.m_10
theorem zeb {a:Wa} : cl a "Spreading"=a.C_Spreading:=by unfold cl; rw [if_neg (by decide +kernel)]; rw [if_neg (by decide +kernel)]; rw [if_neg (by decide +kernel)]; rw [if_neg (by decide +kernel)]; rw [if_pos rfl]
theorem zdb {a:Wa} (W:Wd K mg a) : Cls K (cl a "Spreading"):=by rw [zeb]; exact W.cl_Spreading
theorem z1r {a:Wa} (W:Wd K mg a) : Mk K (cl a "Spreading") a.f_22:=by rw [zeb]; exact W.mk_Spreading
theorem zy1 {a:Wa} (W:Wd K mg a) : mg "Spreading"=some (.ref (cl a "Spreading")):=by rw [zeb]; exact W.g_Spreading
theorem zou {a:Wa} (W:Wd K mg a) : zbc K (cl a "Spreading") "sheet":=by rw [zeb]; exact W.na_Spreading_sheet
theorem z1u {a:Wa} (W:Wd K mg a) : zbc K (cl a "Spreading") "steps":=by rw [zeb]; exact W.na_Spreading_steps
theorem z1t {a:Wa} (W:Wd K mg a) : zbc K (cl a "Spreading") "bars":=by rw [zeb]; exact W.na_Spreading_bars
theorem ztd {a:Wa} (W:Wd K mg a) : zbc K (cl a "Spreading") "guards":=by rw [zeb]; exact W.na_Spreading_guards
theorem ztf {a:Wa} (W:Wd K mg a) : zbc K (cl a "Spreading") "watches":=by rw [zeb]; exact W.na_Spreading_watches
theorem zte {a:Wa} (W:Wd K mg a) : zbc K (cl a "Spreading") "waiting":=by rw [zeb]; exact W.na_Spreading_waiting
theorem zot {a:Wa} (W:Wd K mg a) : zbc K (cl a "Spreading") "makers":=by rw [zeb]; exact W.na_Spreading_makers
theorem z1i {a:Wa} (W:Wd K mg a) : zbe K (cl a "Spreading") "take_guard" a.f_4:=by rw [zeb]; exact W.m_4
theorem z1h {a:Wa} (W:Wd K mg a) : zbe K (cl a "Spreading") "loose_marks" a.f_2:=by rw [zeb]; exact W.m_2
theorem zzs {a:Wa} (W:Wd K mg a) : zku K "bool":=fun t ht=>by
 simp only [List.mem_cons,List.not_mem_nil,or_false] at ht
 rcases ht with rfl | rfl | rfl | rfl | rfl | rfl | rfl
 ·exact W.kb9
 ·exact W.kb4
 ·exact W.ka4
 ·exact W.ka2
 ·exact W.kb1
 ·exact W.kb6
 ·exact W.ka9
theorem zzt {a:Wa} (W:Wd K mg a) : zku K "int":=fun t ht=>by
 simp only [List.mem_cons,List.not_mem_nil,or_false] at ht
 rcases ht with rfl | rfl | rfl | rfl | rfl | rfl | rfl
 ·exact W.kb8
 ·exact W.ka8
 ·exact W.ka0
 ·exact W.ka1
 ·exact W.ka6
 ·exact W.kb5
 ·exact W.ka7
theorem zzu {a:Wa} (W:Wd K mg a) : zku K "list":=fun t ht=>by
 simp only [List.mem_cons,List.not_mem_nil,or_false] at ht
 rcases ht with rfl | rfl | rfl | rfl | rfl | rfl | rfl
 ·exact W.kc0
 ·exact W.kb0
 ·exact W.ka5
 ·exact W.ka3
 ·exact W.kb3
 ·exact W.kb7
 ·exact W.kb2
end
noncomputable def b_11 : List Sl->Option Fl :=
 (zam (zbg (mB (m2 dLt (zab 1) (zay zfg (zaa (zab 0) (fun _=>some []))))) (za3 (mIx (zag 0) (zab 1))) zbt)
  (za3 (fun _=>some (.int 0))))
noncomputable def zj7 (as:List D) : Option D:=za7 2 b_11 as
noncomputable def b_5 : List Sl->Option Fl :=
 (zam (zcz 1 (fun _=>some []))
  (zam (zct (zbn (zab 0)) (zdi (zbx (zaw 2) (zbx (zaw 3) (zbx (zaw 4) zd3)))) (zam (zcz 5 (fun _=>some []))
  (zam (zct (zbn (zab 4)) (zaw 6) (zam (zbg (mB (m2 dEq (zay zfg (zaa (zab 6) (fun _=>some []))) (fun _=>some (.int 3)))) (zbj 6 (zbo (zaa (mIx (zag 6) (fun _=>some (.int 0))) (zaa (mIx (zag 6) (fun _=>some (.int 1))) (zaa (za2 (zbn (mIx (zag 6) (fun _=>some (.int 2))))) (fun _=>some [])))))) zbt)
  (zd4 5 (zab 6))))
  (zeu 5 (zd4 1 (zbo (zaa (zab 2) (zaa (zab 3) (zaa (zab 5) (fun _=>some []))))))))))
  (zef 1)))
noncomputable def m_5 (as:List D) : Option D:=za7 7 b_5 as
noncomputable def b_34 : List Sl->Option Fl :=
 (zam (zbg (mB (m2 dEq (mIx (zag 0) (fun _=>some (.int 0))) (fun _=>some (.str "in")))) (za3 (vOr (m2 dIs (mIx (zag 1) (mIx (zag 0) (fun _=>some (.int 1)))) (fun _=>some (.bl false))) (mIx (zag 2) (mIx (zag 0) (fun _=>some (.int 1)))))) zbt)
  (zam (zbg (mB (m2 dEq (mIx (zag 0) (fun _=>some (.int 0))) (fun _=>some (.str "out")))) (za3 (m2 dIs (mIx (zag 1) (mIx (zag 0) (fun _=>some (.int 1)))) (fun _=>some (.bl true)))) zbt)
  (zam (zbg (mB (m2 dEq (mIx (zag 0) (fun _=>some (.int 0))) (fun _=>some (.str "least")))) (zam (zbj 3 (za2 (zbh 2 [1,2] (zbn (mIx (zag 0) (fun _=>some (.int 2)))) (zdi (zbx (zaw 0) (zbx (zaw 1) zd3))) (zdj (mB (m2 zec (mIx (zag 2) (zab 0)) (fun _=>some (.bl false)))) (zdt (zcf (mIx (zag 3) (zab 0))))) (zab 1))))
  (za3 (m2 dLt (zay zd9 (zaa (zab 3) (fun _=>some []))) (mIx (zag 0) (fun _=>some (.int 1)))))) zbt)
  (za3 (m2 dGt (zay zd9 (zaa (za2 (zbh 2 [1] (zbn (mIx (zag 0) (fun _=>some (.int 2)))) (zdi (zbx (zaw 0) (zbx (zaw 1) zd3))) (mB (m2 dIs (mIx (zag 2) (zab 0)) (fun _=>some (.bl true)))) (zab 1))) (fun _=>some []))) (mIx (zag 0) (fun _=>some (.int 1))))))))
noncomputable def zoi (as:List D) : Option D:=za7 4 b_34 as
noncomputable def b_13 : List Sl->Option Fl :=
 (zam (zbg (mOr (mB (m2 dEq (mIx (zag 0) (fun _=>some (.int 0))) (fun _=>some (.str "never")))) (zdt (zcf (mIx (zag 2) (mIx (zag 0) (fun _=>some (.int 1))))))) (za3 (fun _=>some (.bl false))) zbt)
  (za3 (zkn (zay zfs (zaa (za2 (zbh 1 [1,2] (zbn (mIx (zag 0) (fun _=>some (.int 2)))) (zaw 0) (fun _=>some true) (zay zoi (zaa (zab 0) (zaa (zab 1) (zaa (zab 2) (fun _=>some []))))))) (fun _=>some []))))))
noncomputable def zls (as:List D) : Option D:=za7 3 b_13 as
noncomputable def b_30 : List Sl->Option Fl :=
 (zam (zbg (zdt (zcf (zj4 "list" (zab 0)))) (za3 (fun _=>some (.bl false))) zbt)
  (zam (zct (zfi (zaa (zab 0) (fun _=>some []))) (zdi (zbx (zaw 2) (zbx (zaw 3) zd3))) (zam (zbg (mOr (zdt (zcf (zj4 "int" (zab 3)))) (mOr (zcf (zj4 "bool" (zab 3))) (zdt (mB (zhl dLe dLt (fun _=>some (.int 0)) (zab 3) (zab 1)))))) (za3 (fun _=>some (.bl false))) zbt)
  (zbg (zdj (mB (m2 dGt (zab 2) (fun _=>some (.int 0)))) (mB (m2 dGe (mIx (zag 0) (m2 zga (zab 2) (fun _=>some (.int 1)))) (zab 3)))) (za3 (fun _=>some (.bl false))) zbt)))
  (za3 (fun _=>some (.bl true)))))
noncomputable def zof (as:List D) : Option D:=za7 4 b_30 as
noncomputable def b_6 : List Sl->Option Fl :=
 (zam (zbg (mOr (zdt (zcf (zay zof (zaa (zab 3) (zaa (zab 0) (fun _=>some [])))))) (zcf (zay zfs (zaa (za2 (zbh 1 [2] (zbn (zab 3)) (zaw 0) (fun _=>some true) (m2 dIs (mIx (zag 1) (zab 0)) (fun _=>some (.bl false))))) (fun _=>some []))))) (za3 (fun _=>some (.bl false))) zbt)
  (zam (zbj 4 (za2 (zbh 1 [3] (zeg (zaa (zab 0) (fun _=>some []))) (zaw 0) (fun _=>some true) (m2 dIn (zab 0) (zab 1)))))
  (zam (zbg (zcf (zay zfs (zaa (za2 (zbh 1 [2,4] (zbn (zab 1)) (zaw 0) (fun _=>some true) (zay zls (zaa (zab 0) (zaa (zab 1) (zaa (zab 2) (fun _=>some []))))))) (fun _=>some [])))) (za3 (fun _=>some (.bl false))) zbt)
  (zam (zcz 6 (zbh 1 [] (zbn (zab 2)) (zaw 0) (fun _=>some true) (m2 zec (zab 0) (fun _=>some (.bl false)))))
  (zam (zbj 7 (fun _=>some (.bl true)))
  (zam (zex (zcf (zab 7)) (zam (zbj 7 (fun _=>some (.bl false)))
  (zct (zbn (zab 1)) (zaw 5) (zbg (zdj (zcf (zia zls (zaa (zab 5) (zaa (zab 2) (zaa (zew 6) (fun _=>some [])))))) (zdt (zcf (mIx (zag 4) (mIx (zag 5) (fun _=>some (.int 1))))))) (zam (zfz 6 (mIx (zag 5) (fun _=>some (.int 1))) (fun _=>some (.bl false)))
  (zbj 7 (fun _=>some (.bl true)))) zbt))) 1000000000)
  (zeu 6 (za3 (m2 dEq (zab 6) (zab 4))))))))))
noncomputable def m_6 (as:List D) : Option D:=za7 8 b_6 as
noncomputable def b_3 : List Sl->Option Fl :=
 (zam (zcz 2 (fun _=>some []))
  (zam (zbj 3 (m2 zb2 (m2 zcb (m2 za9 (zab 0) (fun _=>some (.int 2305843009213693951))) (fun _=>some (.int 1315423911))) (fun _=>some (.int 48271))))
  (zam (zct (zeg (zaa (zab 1) (fun _=>some []))) (zaw 4) (zam (zbj 3 (m2 za9 (m2 zb2 (m2 zb2 (m2 zcb (zab 3) (m2 zb2 (zab 3) (fun _=>some (.int 69621)))) (m2 zcb (fun _=>some (.int 7)) (zab 4))) (fun _=>some (.int 1))) (fun _=>some (.int 2305843009213693951))))
  (zd4 2 (zab 3))))
  (zef 2))))
noncomputable def m_3 (as:List D) : Option D:=za7 5 b_3 as
noncomputable def b_12 : List Sl->Option Fl :=
 (zam (zcz 2 (fun _=>some []))
  (zam (zct (zeg (zaa (zab 1) (fun _=>some []))) (zaw 3) (zam (zbj 4 (m2 za9 (m2 zb2 (zab 3) (fun _=>some (.int 1))) (zab 1)))
  (zam (zbj 5 (mIx (zaa (fun _=>some .non) (zaa (zbo (zaa (fun _=>some (.str "in")) (zaa (zab 3) (fun _=>some [])))) (zaa (zbo (zaa (fun _=>some (.str "out")) (zaa (zab 3) (fun _=>some [])))) (zaa (zbo (zaa (fun _=>some (.str "least")) (zaa (fun _=>some (.int 2)) (zaa (za2 (zaa (zbo (zaa (zab 3) (zaa (fun _=>some (.int 2)) (fun _=>some [])))) (zaa (zbo (zaa (zab 4) (zaa (fun _=>some (.int 1)) (fun _=>some [])))) (fun _=>some [])))) (fun _=>some []))))) (zaa (zbo (zaa (fun _=>some (.str "most")) (zaa (fun _=>some (.int 0)) (zaa (za2 (zaa (zbo (zaa (zab 3) (zaa (fun _=>some (.int 1)) (fun _=>some [])))) (fun _=>some []))) (fun _=>some []))))) (fun _=>some [])))))) (zab 0)))
  (zbg (mB (m2 zec (zab 5) (fun _=>some .non))) (zd4 2 (zbo (zaa (mIx (zaa (fun _=>some (.str "make")) (zaa (fun _=>some (.str "may")) (fun _=>some []))) (m2 zfv (m2 za9 (m2 zcb (zab 3) (zab 0)) (fun _=>some (.int 5))) (fun _=>some (.int 4)))) (zaa (zab 4) (zaa (za2 (zaa (zab 5) (fun _=>some []))) (fun _=>some [])))))) zbt))))
  (zef 2)))
noncomputable def zoz (as:List D) : Option (List D):=zii 6 b_12 as
noncomputable def b_28 : List Sl->Option Fl :=
 (zam (zbg (mB (m2 dEq (m2 za9 (zab 0) (fun _=>some (.int 8))) (fun _=>some (.int 5)))) (za3 (m2 za9 (m2 zcb (m2 zcb (m2 zcb (zab 0) (zab 0)) (zab 0)) (zab 0)) (m2 znd (fun _=>some (.int 10)) (fun _=>some (.int 60))))) zbt)
  (za3 (mIx (zaa (fun _=>some (.int 1)) (zaa (fun _=>some (.int 1)) (zaa (fun _=>some (.int 2)) (zaa (fun _=>some (.int 0)) (zaa (fun _=>some (.int 3)) (zaa (fun _=>some (.int 1)) (zaa (fun _=>some (.int 1)) (zaa (fun _=>some (.int 2)) (fun _=>some []))))))))) (m2 za9 (m2 zfv (zab 0) (fun _=>some (.int 8))) (fun _=>some (.int 8))))))
noncomputable def zj8 (as:List D) : Option D:=za7 1 b_28 as
noncomputable def b_25 : List Sl->Option Fl :=
 (zam (zbj 2 (mIx (zaa (fun _=>some (.str "in")) (zaa (fun _=>some (.str "out")) (zaa (fun _=>some (.str "in")) (zaa (fun _=>some (.str "least")) (zaa (fun _=>some (.str "most")) (fun _=>some [])))))) (m2 za9 (mIx (zag 0) (fun _=>some (.int 0))) (fun _=>some (.int 5)))))
  (zam (zbg (mOr (mB (m2 dEq (zab 2) (fun _=>some (.str "in")))) (mB (m2 dEq (zab 2) (fun _=>some (.str "out"))))) (za3 (zbo (zaa (zab 2) (zaa (m2 za9 (mIx (zag 0) (fun _=>some (.int 1))) (zab 1)) (fun _=>some []))))) zbt)
  (zam (zbj 3 (za2 (zbh 1 [1,0] (zeg (zaa (m2 za9 (mIx (zag 0) (fun _=>some (.int 2))) (fun _=>some (.int 4))) (fun _=>some []))) (zaw 0) (fun _=>some true) (zbo (zaa (m2 za9 (mIx (zag 2) (m2 zb2 (fun _=>some (.int 4)) (m2 zcb (fun _=>some (.int 2)) (zab 0)))) (zab 1)) (zaa (zay zj8 (zaa (mIx (zag 2) (m2 zb2 (fun _=>some (.int 5)) (m2 zcb (fun _=>some (.int 2)) (zab 0)))) (fun _=>some []))) (fun _=>some [])))))))
  (zam (zbj 4 (zay zd9 (zaa (za2 (zbh 2 [] (zbn (za2 (mSl (zab 3) (fun _=>some none) (mPt (m2 za9 (mIx (zag 0) (fun _=>some (.int 3))) (fun _=>some (.int 5))))))) (zdi (zbx (zaw 0) (zbx (zaw 1) zd3))) (fun _=>some true) (zab 1))) (fun _=>some []))))
  (za3 (zbo (zaa (zab 2) (zaa (m2 zga (m2 zb2 (zab 4) (m2 za9 (m2 zfv (mIx (zag 0) (fun _=>some (.int 3))) (fun _=>some (.int 5))) (fun _=>some (.int 3)))) (fun _=>some (.int 1))) (zaa (zab 3) (fun _=>some []))))))))))
noncomputable def zlu (as:List D) : Option D:=za7 5 b_25 as
noncomputable def b_29 : List Sl->Option Fl :=
 (zam (zbj 3 (zay m_3 (zaa (zab 0) (zaa (fun _=>some (.int 33)) (fun _=>some [])))))
  (zam (zbg (mB (m2 dEq (zab 1) (fun _=>some (.int 0)))) (za3 (zbo (zaa (fun _=>some (.str "never")) (zaa (fun _=>some .non) (zaa (za2 (mSl (za2 (zaa (zbo (zaa (mIx (zaa (fun _=>some (.str "least")) (zaa (fun _=>some (.str "most")) (fun _=>some []))) (m2 za9 (mIx (zag 3) (fun _=>some (.int 0))) (fun _=>some (.int 2)))) (zaa (m2 zga (m2 za9 (mIx (zag 3) (fun _=>some (.int 1))) (fun _=>some (.int 3))) (fun _=>some (.int 1))) (zaa (za2 (fun _=>some [])) (fun _=>some []))))) (fun _=>some []))) (fun _=>some none) (mPt (m2 za9 (mIx (zag 3) (fun _=>some (.int 2))) (fun _=>some (.int 6)))))) (fun _=>some [])))))) zbt)
  (zam (zbj 4 (za2 (zbh 1 [1,3] (zeg (zaa (mIx (zaa (fun _=>some (.int 1)) (zaa (fun _=>some (.int 1)) (zaa (fun _=>some (.int 2)) (zaa (fun _=>some (.int 2)) (zaa (fun _=>some (.int 3)) (zaa (fun _=>some (.int 0)) (fun _=>some []))))))) (m2 za9 (mIx (zag 3) (fun _=>some (.int 0))) (fun _=>some (.int 6)))) (fun _=>some []))) (zaw 0) (fun _=>some true) (zay zlu (zaa (za2 (mSl (zab 2) (mPt (m2 zb2 (fun _=>some (.int 3)) (m2 zcb (fun _=>some (.int 10)) (zab 0)))) (mPt (m2 zb2 (fun _=>some (.int 13)) (m2 zcb (fun _=>some (.int 10)) (zab 0)))))) (zaa (zab 1) (fun _=>some [])))))))
  (zam (zbg (zdj (mB (m2 dEq (m2 za9 (mIx (zag 3) (fun _=>some (.int 1))) (fun _=>some (.int 8))) (fun _=>some (.int 0)))) (zdj (zdt (zcf (zab 2))) (mOr (mB (m2 dNe (zab 4) (za2 (fun _=>some [])))) (mB (m2 dEq (m2 za9 (mIx (zag 3) (fun _=>some (.int 2))) (fun _=>some (.int 4))) (fun _=>some (.int 0))))))) (za3 (zbo (zaa (fun _=>some (.str "never")) (zaa (fun _=>some .non) (zaa (zab 4) (fun _=>some [])))))) zbt)
  (za3 (zbo (zaa (mIx (zaa (fun _=>some (.str "make")) (zaa (fun _=>some (.str "may")) (fun _=>some []))) (m2 za9 (m2 zfv (mIx (zag 3) (fun _=>some (.int 1))) (fun _=>some (.int 8))) (fun _=>some (.int 2)))) (zaa (m2 za9 (m2 zfv (mIx (zag 3) (fun _=>some (.int 2))) (fun _=>some (.int 4))) (zab 1)) (zaa (zab 4) (fun _=>some []))))))))))
noncomputable def zoe (as:List D) : Option D:=za7 5 b_29 as
noncomputable def b_14 : List Sl->Option Fl :=
 (zev (zaa (zd5 "In" "thing" (zab 0)) (fun _=>some [])))
noncomputable def m_14 (as:List D) : Option D:=za7 1 b_14 as
noncomputable def b_15 : List Sl->Option Fl :=
 (za3 (fun _=>some (.bl true)))
noncomputable def m_15 (as:List D) : Option D:=za7 1 b_15 as
noncomputable def b_24 : List Sl->Option Fl :=
 (zev (zj5 (za2 (zbh 2 [] (zbn (zab 0)) (zdi (zbx (zaw 0) (zbx (zaw 1) zd3))) (fun _=>some true) (zab 0)))))
noncomputable def zlt (as:List D) : Option D:=za7 1 b_24 as
noncomputable def b_18 : List Sl->Option Fl :=
 (za3 (zay zlt (zaa (zd5 "Least" "pieces" (zab 0)) (fun _=>some []))))
noncomputable def m_18 (as:List D) : Option D:=za7 1 b_18 as
noncomputable def b_19 : List Sl->Option Fl :=
 (za3 (fun _=>some (.bl true)))
noncomputable def m_19 (as:List D) : Option D:=za7 1 b_19 as
noncomputable def b_20 : List Sl->Option Fl :=
 (za3 (zay zlt (zaa (zd5 "Most" "pieces" (zab 0)) (fun _=>some []))))
noncomputable def m_20 (as:List D) : Option D:=za7 1 b_20 as
noncomputable def b_21 : List Sl->Option Fl :=
 (za3 (fun _=>some (.bl false)))
noncomputable def m_21 (as:List D) : Option D:=za7 1 b_21 as
noncomputable def b_16 : List Sl->Option Fl :=
 (zev (zaa (zd5 "Out" "thing" (zab 0)) (fun _=>some [])))
noncomputable def m_16 (as:List D) : Option D:=za7 1 b_16 as
noncomputable def b_17 : List Sl->Option Fl :=
 (za3 (fun _=>some (.bl false)))
noncomputable def m_17 (as:List D) : Option D:=za7 1 b_17 as
noncomputable def b_4 : List Sl->Option Fl :=
 (zam (zl6 0 (zd8 "Spreading" "guards" (zcl 0)) (zab 1) (zab 2))
  (zam (zct (zbn (zab 2)) (zaw 3) (zct (zbn (zb8 (zbl "In" "named" m_14 (zab 3) fun _=>some []) (zb8 (zbl "Out" "named" m_16 (zab 3) fun _=>some []) (zb8 (zbl "Least" "named" m_18 (zab 3) fun _=>some []) (zbl "Most" "named" m_20 (zab 3) fun _=>some []))))) (zaw 4) (zl4 0 1 (zd8 "Spreading" "watches" (zcl 0)) (zbo (zaa (zab 4) (zaa (zb8 (zbl "In" "wants" m_15 (zab 3) fun _=>some []) (zb8 (zbl "Out" "wants" m_17 (zab 3) fun _=>some []) (zb8 (zbl "Least" "wants" m_19 (zab 3) fun _=>some []) (zbl "Most" "wants" m_21 (zab 3) fun _=>some [])))) (fun _=>some [])))))))
  (zl5 0 (zd8 "Spreading" "waiting" (zcl 0)) (zab 1))))
noncomputable def m_4 : MTf:=zgo 5 b_4
noncomputable def zr3 (as:List D) : Option (List Str×List D):=zkf 2 [("thing",(zab 1))] as
noncomputable def znw (as:List D) : Option (List Str×List D):=zkf 3 [("bound",(zab 1)),("pieces",(za2 (zag 2)))] as
noncomputable def zr4 (as:List D) : Option (List Str×List D):=zkf 3 [("bound",(zab 1)),("pieces",(za2 (zag 2)))] as
noncomputable def znx (as:List D) : Option (List Str×List D):=zkf 2 [("thing",(zab 1))] as
noncomputable def b_23 : List Sl->Option Fl :=
 (zam (zbj 1 (mIx (zag 0) (fun _=>some (.int 0))))
  (zam (zbg (mB (m2 dEq (zab 1) (fun _=>some (.str "in")))) (za3 (zgi "In" zr3 (zaa (mIx (zag 0) (fun _=>some (.int 1))) (fun _=>some [])))) zbt)
  (zam (zbg (mB (m2 dEq (zab 1) (fun _=>some (.str "out")))) (za3 (zgi "Out" znx (zaa (mIx (zag 0) (fun _=>some (.int 1))) (fun _=>some [])))) zbt)
  (zam (zbg (mB (m2 dEq (zab 1) (fun _=>some (.str "least")))) (za3 (zgi "Least" znw (zaa (mIx (zag 0) (fun _=>some (.int 1))) (zaa (mIx (zag 0) (fun _=>some (.int 2))) (fun _=>some []))))) zbt)
  (za3 (zgi "Most" zr4 (zaa (mIx (zag 0) (fun _=>some (.int 1))) (zaa (mIx (zag 0) (fun _=>some (.int 2))) (fun _=>some [])))))))))
noncomputable def zod (as:List D) : Option D:=za7 2 b_23 as
noncomputable def b_1 : List Sl->Option Fl :=
 (zev (zbh 1 [] (zbn (mIx (zag 0) (fun _=>some (.int 2)))) (zaw 0) (fun _=>some true) (zay zod (zaa (zab 0) (fun _=>some [])))))
noncomputable def m_1 (as:List D) : Option D:=za7 1 b_1 as
noncomputable def o_1 (as:List D) : Option (List D):=zii 1 b_1 as
noncomputable def b_26 : List Sl->Option Fl :=
 (zam (zbg (mB (m2 dEq (mIx (zag 0) (fun _=>some (.int 0))) (fun _=>some (.str "may")))) (zev (zaa (zgi "Least" znw (zaa (fun _=>some (.int 1)) (zaa (za2 (fun _=>some [])) (fun _=>some [])))) (fun _=>some []))) zbt)
  (zam (zcz 1 (zh9 o_1 (zaa (zab 0) (fun _=>some []))))
  (zam (zbg (mB (m2 dEq (mIx (zag 0) (fun _=>some (.int 0))) (fun _=>some (.str "make")))) (zd4 1 (zgi "Out" znx (zaa (mIx (zag 0) (fun _=>some (.int 1))) (fun _=>some [])))) zbt)
  (zef 1))))
noncomputable def zlv (as:List D) : Option D:=za7 2 b_26 as
noncomputable def b_22 : List Sl->Option Fl :=
 (zam (ze2 0 "Spreading" "sheet" (zcl 0) (zgw (zag 3)))
  (zam (ze2 0 "Spreading" "steps" (zcl 0) (zgw (fun _=>some [])))
  (zam (ze2 0 "Spreading" "bars" (zcl 0) (zgw (fun _=>some [])))
  (zam (ze2 0 "Spreading" "guards" (zcl 0) (fun _=>some (.dT [] [])))
  (zam (ze2 0 "Spreading" "watches" (zcl 0) (fun _=>some (.dT [] [])))
  (zam (ze2 0 "Spreading" "waiting" (zcl 0) (zgw (fun _=>some [])))
  (zam (ze2 0 "Spreading" "makers" (zcl 0) (zFz (za2 (zbh 1 [] (zbn (mIx (zag 1) (fun _=>some (.int 1)))) (zaw 0) (mB (m2 zec (mIx (zag 0) (fun _=>some (.int 1))) (fun _=>some .non))) (zbo (zaa (mIx (zag 0) (fun _=>some (.int 1))) (zaa (zay m_1 (zaa (zab 0) (fun _=>some []))) (fun _=>some []))))))))
  (zam (zct (zfi (zaa (mIx (zag 1) (fun _=>some (.int 1))) (fun _=>some []))) (zdi (zbx (zaw 5) (zbx (zaw 4) zd3))) (zgh (zhm 0 "Spreading" "take_guard" m_4 (zfy (mX (zbo (zaa (fun _=>some (.str "rule")) (zaa (zab 5) (fun _=>some []))))) (zfy (mX (zay zlv (zaa (zab 4) (fun _=>some [])))) zob)))))
  (zct (zbn (zab 2)) (zaw 6) (fun _=>none))))))))))
noncomputable def zoc : MTf:=zgo 7 b_22
noncomputable def b_7 : List Sl->Option Fl :=
 (za3 (vOr (m2 dIs (mIx (zag 1) (zd5 "In" "thing" (zab 0))) (fun _=>some (.bl false))) (mIx (zag 2) (zd5 "In" "thing" (zab 0)))))
noncomputable def m_7 (as:List D) : Option D:=za7 3 b_7 as
noncomputable def b_36 : List Sl->Option Fl :=
 (zev (zbh 1 [1] (zbn (zab 0)) (zaw 0) (zdt (zcf (mIx (zag 1) (mIx (zag 0) (fun _=>some (.int 0)))))) (zab 0)))
noncomputable def zok (as:List D) : Option D:=za7 2 b_36 as
noncomputable def b_32 : List Sl->Option Fl :=
 (za3 (zay zd9 (zaa (za2 (zbh 2 [1] (zbn (zab 0)) (zdi (zbx (zaw 0) (zbx (zaw 1) zd3))) (mB (m2 zec (mIx (zag 2) (zab 0)) (fun _=>some (.bl false)))) (zab 1))) (fun _=>some []))))
noncomputable def zlx (as:List D) : Option D:=za7 2 b_32 as
noncomputable def b_9 : List Sl->Option Fl :=
 (za3 (m2 dLt (zay zlx (zaa (zay zok (zaa (zd5 "Least" "pieces" (zab 0)) (zaa (zab 2) (fun _=>some [])))) (zaa (zab 1) (fun _=>some [])))) (zd5 "Least" "bound" (zab 0))))
noncomputable def m_9 (as:List D) : Option D:=za7 3 b_9 as
noncomputable def b_35 : List Sl->Option Fl :=
 (za3 (zay zd9 (zaa (za2 (zbh 2 [1] (zbn (zab 0)) (zdi (zbx (zaw 0) (zbx (zaw 1) zd3))) (mB (m2 dIs (mIx (zag 2) (zab 0)) (fun _=>some (.bl true)))) (zab 1))) (fun _=>some []))))
noncomputable def zoj (as:List D) : Option D:=za7 2 b_35 as
noncomputable def b_10 : List Sl->Option Fl :=
 (za3 (m2 dGt (zay zoj (zaa (zd5 "Most" "pieces" (zab 0)) (zaa (zab 1) (fun _=>some [])))) (zd5 "Most" "bound" (zab 0))))
noncomputable def m_10 (as:List D) : Option D:=za7 3 b_10 as
noncomputable def b_8 : List Sl->Option Fl :=
 (za3 (m2 dIs (mIx (zag 1) (zd5 "Out" "thing" (zab 0))) (fun _=>some (.bl true))))
noncomputable def m_8 (as:List D) : Option D:=za7 3 b_8 as
noncomputable def b_27 : List Sl->Option Fl :=
 (zam (zct (zbn (zab 0)) (zaw 3) (zbg (zcf (zb8 (zbl "In" "lost" m_7 (zab 3) (zaa (zab 1) (zaa (zab 2) (fun _=>some [])))) (zb8 (zbl "Out" "lost" m_8 (zab 3) (zaa (zab 1) (zaa (zab 2) (fun _=>some [])))) (zb8 (zbl "Least" "lost" m_9 (zab 3) (zaa (zab 1) (zaa (zab 2) (fun _=>some [])))) (zbl "Most" "lost" m_10 (zab 3) (zaa (zab 1) (zaa (zab 2) (fun _=>some [])))))))) (zef 3) zbt))
  (za3 (fun _=>some .non)))
noncomputable def zlw (as:List D) : Option D:=za7 4 b_27 as
noncomputable def b_2 : List Sl->Option Fl :=
 (zam (zcz 1 (zbh 1 [] (pC (zd8 "Spreading" "sheet" (zcl 0))) (zaw 0) (fun _=>some true) (m2 zec (zab 0) (fun _=>some (.bl false)))))
  (zam (zcz 2 (fun _=>some []))
  (zam (zbj 3 (pD (zd8 "Spreading" "makers" (zcl 0))))
  (zam (zbj 4 (fun _=>some (.bl true)))
  (zam (zex (zcf (zab 4)) (zam (zbj 5 (zay zfg (zaa (zew 2) (fun _=>some []))))
  (zam (zcz 6 (fun _=>some []))
  (zam (zct (zbn (zab 3)) (zaw 7) (zbg (zdj (zcf (mIx (zag 1) (mIx (zag 7) (fun _=>some (.int 0))))) (mB (m2 dIs (zay zlw (zaa (mIx (zag 7) (fun _=>some (.int 1))) (zaa (pB (zd8 "Spreading" "sheet" (zcl 0))) (zaa (zew 1) (fun _=>some []))))) (fun _=>some .non)))) (zam (zfz 1 (mIx (zag 7) (fun _=>some (.int 0))) (fun _=>some (.bl false)))
  (zd4 2 (zab 7))) (zd4 6 (zab 7))))
  (zam (zeu 6 (zbj 3 (zab 6)))
  (zbj 4 (zkm (m2 dGt (zay zfg (zaa (zew 2) (fun _=>some []))) (zab 5)) (zay zfs (zaa (zew 1) (fun _=>some []))))))))) 1000000000)
  (zam (zeu 2 (ze2 0 "Spreading" "makers" (zcl 0) (zFz (za2 (zib (zab 2) (zab 3))))))
  (zeu 1 (zhn (zab 1)))))))))
noncomputable def m_2 : MTf:=zgo 8 b_2
noncomputable def b_31 : List Sl->Option Fl :=
 (zev (zbh 2 [] (zfi (zaa (zab 0) (fun _=>some []))) (zdi (zbx (zaw 0) (zbx (zaw 1) zd3))) (zcf (zab 1)) (zab 0)))
noncomputable def zog (as:List D) : Option D:=za7 1 b_31 as
noncomputable def b_33 : List Sl->Option Fl :=
 (za3 (zay zog (zaa (zj6 "Spreading" "loose_marks" (zjm "Spreading" zoc (zaa (zab 0) (zaa (za2 (fun _=>some [])) (zaa (zab 1) (fun _=>some []))))) m_2) (fun _=>some []))))
noncomputable def zoh (as:List D) : Option D:=za7 2 b_33 as
noncomputable def b_0 : List Sl->Option Fl :=
 (zam (zbj 1 (zay m_3 (zaa (zay zj7 (zaa (zab 0) (zaa (fun _=>some (.int 0)) (fun _=>some [])))) (zaa (fun _=>some (.int 6)) (fun _=>some [])))))
  (zam (zbj 2 (m2 zfv (m2 zb2 (m2 za9 (mIx (zag 1) (fun _=>some (.int 0))) (fun _=>some (.int 26))) (fun _=>some (.int 2))) (fun _=>some (.int 3))))
  (zam (zbg (mB (m2 dEq (m2 za9 (mIx (zag 1) (fun _=>some (.int 1))) (fun _=>some (.int 4))) (fun _=>some (.int 1)))) (zbj 2 (m2 zb2 (fun _=>some (.int 1)) (m2 za9 (m2 zfv (mIx (zag 1) (fun _=>some (.int 1))) (fun _=>some (.int 4))) (fun _=>some (.int 30))))) zbt)
  (zam (zcz 3 (zh9 zoz (zaa (m2 za9 (mIx (zag 1) (fun _=>some (.int 2))) (fun _=>some (.int 5))) (zaa (zab 2) (fun _=>some [])))))
  (zam (zct (zbn (za2 (mSl (zab 0) (mPt (fun _=>some (.int 2))) (mPt (fun _=>some (.int 62)))))) (zaw 4) (zd4 3 (zay zoe (zaa (zab 4) (zaa (zab 2) (zaa (fun _=>some (.bl false)) (fun _=>some [])))))))
  (zam (zcz 5 (zbh 1 [] (zbn (zay m_3 (zaa (zay zj7 (zaa (zab 0) (zaa (fun _=>some (.int 1)) (fun _=>some [])))) (zaa (zab 2) (fun _=>some []))))) (zaw 0) (fun _=>some true) (mIx (zaa (fun _=>some (.bl true)) (zaa (fun _=>some (.bl false)) (zaa (fun _=>some .non) (zaa (fun _=>some .non) (zaa (fun _=>some .non) (fun _=>some [])))))) (m2 za9 (zab 0) (fun _=>some (.int 5))))))
  (zam (zct (zeg (zaa (fun _=>some (.int 2)) (fun _=>some []))) (zaw 6) (zam (zeu 3 (zbj 7 (za2 (zaa (zbo (zaa (zab 2) (zaa (zay m_5 (zaa (zab 3) (fun _=>some []))) (fun _=>some [])))) (zaa (za2 (zag 5)) (fun _=>some []))))))
  (zam (zbj 8 (zay zoh (zaa (mIx (zag 7) (fun _=>some (.int 0))) (zaa (mIx (zag 7) (fun _=>some (.int 1))) (fun _=>some [])))))
  (zam (zeu 3 (zbg (mOr (zdt (zcf (zia m_6 (zaa (zab 2) (zaa (zab 3) (zaa (zew 5) (zaa (zab 8) (fun _=>some [])))))))) (mB (m2 dNe (zab 7) (za2 (zaa (zbo (zaa (zab 2) (zaa (zab 3) (fun _=>some [])))) (zaa (zew 5) (fun _=>some []))))))) (za3 (fun _=>some (.bl false))) zbt))
  (zbg (mB (m2 dGt (zab 2) (fun _=>some (.int 0)))) (zfz 5 (m2 za9 (mIx (zag 1) (fun _=>some (.int 3))) (zab 2)) (mIx (zaa (fun _=>some (.bl true)) (zaa (fun _=>some (.bl false)) (zaa (fun _=>some .non) (fun _=>some [])))) (m2 za9 (mIx (zag 1) (fun _=>some (.int 4))) (fun _=>some (.int 3))))) zbt)))))
  (za3 (fun _=>some (.bl true))))))))))
noncomputable def m_0 (as:List D) : Option D:=za7 9 b_0 as
section
variable {P:Program} {w:World} {K:PySem.W.Frag} {mg:Str->Option Value} {base:Heap}
theorem zts {a:Wa} (W:Wd K mg a) : zap P w K mg base CX0 1 a.f_11 a.fd_11 ["_law_script","_law_k"] (spD ⟨K,cl a⟩ ["_law_script","_law_k"].length zj7) :=
 zbi (k:=0) (N:=["_law_script","_law_k"]) (F:=b_11) W.F_11 z5t fun cdv A outer s H E hr=>by
  unfold b_11;exact (zao (zbw (zbq zl2 zmi (DE.db (dv 1)) (DE.db (zd1 zk1 zmh rfl W.z_len PySem.boot_len (zb3 (DE.db (dv 0)) zc5)))) (zan (za6 (zal (dvC 0) (dv 1)))) zb1)
  (zan (za6 zad)))
theorem z23 {a:Wa} (W:Wd K mg a) : zap P w K mg base CX0 1 a.f_5 a.fd_5 ["_law_rules"] (spD ⟨K,cl a⟩ ["_law_rules"].length m_5) :=
 zbi (k:=0) (N:=["_law_rules","_law_found","_law_word","_law_head","_law_parts","_law_mine","_law_part_here"]) (F:=b_5) W.F_5 zgp fun cdv A outer s H E hr=>have hu:=hr.units; by
  unfold b_5;exact (zao (zgf 1 zgp.nd (zbp zaj))
  (zao (zdr PassesOwn.never rfl (zb6 (dv 0)) (zfc rfl (zcq (zcx 2 7 zgp.nd) (zcq (zcx 3 7 zgp.nd) (zcq (zcx 4 7 zgp.nd) zfd)))) (zao (zgf 5 zgp.nd (zbp zaj))
  (zao (zdr PassesOwn.never rfl (zb6 (dv 4)) (zcx 6 7 zgp.nd) (zao (zbw (zbq (zc1 hu) zc3 (DE.db (zd1 zk1 zmh rfl W.z_len PySem.boot_len (zb3 (DE.db (dv 6)) zc5))) (DE.db zad)) (zan (zcd 6 zgp.nd (zcj (zac (zal (dvC 6) zad) (zac (zal (dvC 6) zad) (zac (DO.de (zjw boot_list rfl W.z_list (DE.dc (zal (dvC 6) zad)))) zaj)))))) zb1)
  (zan (zgc (ze3 (zfn PySem.F.plainAttrs_list PySem.F.slot_list_append PySem.F.type_list_append zfk (pv 5) (zde (dv 6) zdf)))))))
  (zan (zha 5 (zgc (ze3 (zfn PySem.F.plainAttrs_list PySem.F.slot_list_append PySem.F.type_list_append zfk (pv 1) (zde (zcj (zac (dv 2) (zac (dv 3) (zac (dv 5) zaj)))) zdf)))))))))
  (zan (zjx 1))))
theorem z2x {a:Wa} (W:Wd K mg a) : zap P w K mg base CX0 1 a.f_34 a.fd_34 ["_law_part_here","_law_sheet","_law_without"] (spD ⟨K,cl a⟩ ["_law_part_here","_law_sheet","_law_without"].length zoi) :=
 zbi (k:=0) (N:=["_law_part_here","_law_sheet","_law_without","_law_left"]) (F:=b_34) W.F_34 zux fun cdv A outer s H E hr=>have hu:=hr.units; by
  unfold b_34;exact (zao (zbw (zbq (zc1 hu) zc3 (DE.db (zal (dvC 0) zad)) (DE.db zbr)) (zan (za6 (zqx (zdo zgm zgq (DE.db (zal (dvC 1) (zal (dvC 0) zad))) (DE.db zbf)) (zng (zal (dvC 2) (zal (dvC 0) zad)))))) zb1)
  (zao (zbw (zbq (zc1 hu) zc3 (DE.db (zal (dvC 0) zad)) (DE.db zbr)) (zan (za6 (zdo zgm zgq (DE.db (zal (dvC 1) (zal (dvC 0) zad))) (DE.db zbf)))) zb1)
  (zao (zbw (zbq (zc1 hu) zc3 (DE.db (zal (dvC 0) zad)) (DE.db zbr)) (zao (zno 3 2 [1,2] ["_law_thing","_law_worth_here","_law_sheet","_law_without"] zux.nd rfl (DI.de (zb6 (zal (dvC 0) zad))) (fun _ _ _ _ _=>(zfc rfl (zcq (dgc 0 2) (zcq (dgc 1 2) zfd)))) (fun _ _ _ _ _=>(zhb (DW.dt (zh2 (zbq zie zjf (DE.db (zal (zed 2) (dvc 0))) (DE.db zbf)) (zjy (zfe (zcy (DE.db (zal (zed 3) (dvc 0)))))))))) (fun _ _ _ _ _=>(dvc 1)))
  (zan (za6 (zdo zl2 zmi (DE.db (zd1 (zjt rfl) zkk rfl W.z_sum boot_sum (zb3 (DE.db (dv 3)) zc5))) (DE.db (zal (dvC 0) zad)))))) zb1)
  (zan (za6 (zdo zj9 zki (DE.db (zd1 (zjt rfl) zkk rfl W.z_sum boot_sum (zb3 (DE.db (DO.de (zdp 2 [1] ["_law_thing","_law_worth_here","_law_sheet"] rfl (DI.de (zb6 (zal (dvC 0) zad))) (fun _ _ _ _ _=>(zfc rfl (zcq (dgc 0 2) (zcq (dgc 1 2) zfd)))) (fun _ _ _ _ _=>(zhb (zbq zgm zgq (DE.db (zal (zed 2) (dvc 0))) (DE.db zbf)))) (fun _ _ _ _ _=>(dvc 1))))) zc5))) (DE.db (zal (dvC 0) zad))))))))
theorem ztt {a:Wa} (W:Wd K mg a) : zap P w K mg base CX0 2 a.f_13 a.fd_13 ["_law_rule_here","_law_sheet","_law_without"] (spD ⟨K,cl a⟩ ["_law_rule_here","_law_sheet","_law_without"].length zls) :=
 zbi (k:=1) (N:=["_law_rule_here","_law_sheet","_law_without"]) (F:=b_13) W.F_13 z5u fun cdv A outer s H E hr=>have hu:=hr.units; by
  unfold b_13;exact (zao (zbw (DW.dt (zhc (zbq (zc1 hu) zc3 (DE.db (zal (dvC 0) zad)) (DE.db zbr)) (zh3 (zfe (zcy (DE.db (zal (dvC 2) (zal (dvC 0) zad)))))))) (zan (za6 zbf)) zb1)
  (zan (za6 (zxt (zd1 (zk0 rfl) zmg rfl W.z_any boot_any (zb3 (DE.db (DO.de (zdp 1 [1,2] ["_law_part_here","_law_sheet","_law_without"] rfl (DI.de (zb6 (zal (dvC 0) zad))) (fun _ _ _ _ _=>(dgc 0 1)) (fun _ _ _ _ _=>zd2) (fun _ _ _ _ _=>(zcc (z2x W) (hr.mono (by decide)) (glc rfl) W.g_34 W.F_34.kp W.b_34 (zac (dvc 0) (zac (dvc 1) (zac (dvc 2) zaj)))))))) zc5))))))
theorem z2t {a:Wa} (W:Wd K mg a) : zap P w K mg base CX0 1 a.f_30 a.fd_30 ["_law_found","_law_many"] (spD ⟨K,cl a⟩ ["_law_found","_law_many"].length zof) :=
 zbi (k:=0) (N:=["_law_found","_law_many","_law_k","_law_thing"]) (F:=b_30) W.F_30 zpe fun cdv A outer s H E hr=>by
  unfold b_30;exact (zao (zbw (zfe (zcy (DE.db (znf (T:="list") (zzu W) rfl W.z_isinstance boot_list rfl W.z_list (DE.db (dv 0)))))) (zan (za6 zbf)) zb1)
  (zao (zdr PassesOwn.never rfl (znl rfl W.z_enumerate (zac (dv 0) zaj)) (zfc rfl (zcq (zcx 2 4 zpe.nd) (zcq (zcx 3 4 zpe.nd) zfd))) (zao (zbw (DW.dt (zhc (zfe (zcy (DE.db (znf (T:="int") (zzt W) rfl W.z_isinstance boot_int rfl W.z_int (DE.db (dv 3)))))) (zhc (zcy (DE.db (znf (T:="bool") (zzs W) rfl W.z_isinstance boot_bool rfl W.z_bool (DE.db (dv 3))))) (zh3 (zfe (zyd z15 z6j zl2 zmi (DE.db zad) (DE.db (dv 3)) (DE.db (dv 1)))))))) (zan (za6 zbf)) zb1)
  (zan (zbw (DW.dt (zh2 (zbq zj9 zki (DE.db (dv 2)) (DE.db zad)) (zjy (zbq z13 z6h (DE.db (zal (dvC 0) (zau zo0 (dv 2) zad))) (DE.db (dv 3)))))) (zan (za6 zbf)) zb1))))
  (zan (za6 zbf))))
theorem z24 {a:Wa} (W:Wd K mg a) : zap P w K mg base CX0 3 a.f_6 a.fd_6 ["_law_many","_law_rules","_law_sheet","_law_found"] (spD ⟨K,cl a⟩ ["_law_many","_law_rules","_law_sheet","_law_found"].length m_6) :=
 zbi (k:=2) (N:=["_law_many","_law_rules","_law_sheet","_law_found","_law_mine","_law_rule_here","_law_left","_law_going"]) (F:=b_6) W.F_6 zhp fun cdv A outer s H E hr=>have hu:=hr.units; by
  unfold b_6;exact (zao (zbw (DW.dt (zhc (zfe (zcy (DE.db (zcc (z2t W) (hr.mono (by decide)) rfl W.g_30 W.F_30.kp W.b_30 (zac (dv 3) (zac (dv 0) zaj)))))) (zh3 (zcy (DE.db (zd1 (zk0 rfl) zmg rfl W.z_any boot_any (zb3 (DE.db (DO.de (zdp 1 [2] ["_law_thing","_law_sheet"] rfl (DI.de (zb6 (dv 3))) (fun _ _ _ _ _=>(dgc 0 1)) (fun _ _ _ _ _=>zd2) (fun _ _ _ _ _=>(zdo zgm zgq (DE.db (zal (zed 1) (dvc 0))) (DE.db zbf)))))) zc5))))))) (zan (za6 zbf)) zb1)
  (zao (zcd 4 zhp.nd (DO.de (zdp 1 [3] ["_law_thing","_law_found"] rfl (DI.de (zhy rfl W.z_range (zac (dv 0) zaj))) (fun _ _ _ _ _=>(dgc 0 1)) (fun _ _ _ _ _=>zd2) (fun _ _ _ _ _=>(zdo z14 z6i (DE.db (dvc 0)) (DE.db (dvc 1)))))))
  (zao (zbw (zcy (DE.db (zd1 (zk0 rfl) zmg rfl W.z_any boot_any (zb3 (DE.db (DO.de (zdp 1 [2,4] ["_law_rule_here","_law_sheet","_law_mine"] rfl (DI.de (zb6 (dv 1))) (fun _ _ _ _ _=>(dgc 0 1)) (fun _ _ _ _ _=>zd2) (fun _ _ _ _ _=>(zcc (ztt W) (hr.mono (by decide)) (glc rfl) W.g_13 W.F_13.kp W.b_13 (zac (dvc 0) (zac (dvc 1) (zac (dvc 2) zaj)))))))) zc5)))) (zan (za6 zbf)) zb1)
  (zao (znn 6 1 [] ["_law_entry"] zhp.nd rfl (DI.de (zb6 (dv 2))) (fun _ _ _ _ _=>(dgc 0 1)) (fun _ _ _ _ _=>zd2) (fun _ _ _ _ _=>(zdo zie zjf (DE.db (dvc 0)) (DE.db zbf))))
  (zao (zcd 7 zhp.nd zbf)
  (zao (zrd 1000000000 PassesOwn.never (zcy (DE.db (dv 7))) (zao (zcd 7 zhp.nd zbf)
  (zan (zdr PassesOwn.never rfl (zb6 (dv 1)) (zcx 5 8 zhp.nd) (zan (zbw (DW.dt (zh2 (zcy (DE.db (zqv (ztt W) (hr.mono (by decide)) rfl W.g_13 W.F_13.kp W.b_13 (zb3 (DE.db (dv 5)) (zb3 (DE.db (dv 2)) (zb3 (dvB 6) zc5)))))) (zjy (zfe (zcy (DE.db (zal (dvC 4) (zal (dvC 5) zad)))))))) (zao (znm (pv 6) (zal (dvC 5) zad) zbf)
  (zan (zcd 7 zhp.nd zbf))) zb1))))))
  (zan (zha 6 (za6 (zdo (zc1 hu) zc3 (DE.db (dv 6)) (DE.db (dv 4))))))))))))
theorem zo2 {a:Wa} (W:Wd K mg a) : zap P w K mg base CX0 1 a.f_3 a.fd_3 ["_law_cell","_law_many"] (spD ⟨K,cl a⟩ ["_law_cell","_law_many"].length m_3) :=
 zbi (k:=0) (N:=["_law_cell","_law_many","_law_found","_law_number","_law_k"]) (F:=b_3) W.F_3 zkh fun cdv A outer s H E hr=>by
  unfold b_3;exact (zao (zgf 2 zkh.nd (zbp zaj))
  (zao (zcd 3 zkh.nd (zau zei (zau ze1 (zau zbu (dv 0) zad) zad) zad))
  (zao (zdr PassesOwn.never rfl (zhy rfl W.z_range (zac (dv 1) zaj)) (zcx 4 5 zkh.nd) (zao (zcd 3 zkh.nd (zau zbu (zau zei (zau zei (zau ze1 (dv 3) (zau zei (dv 3) zad)) (zau ze1 zad (dv 4))) zad) zad))
  (zan (zgc (ze3 (zfn PySem.F.plainAttrs_list PySem.F.slot_list_append PySem.F.type_list_append zfk (pv 2) (zde (dv 3) zdf)))))))
  (zan (zjx 2)))))
theorem z2a {a:Wa} (W:Wd K mg a) : zap P w K mg base CX0 1 a.f_12 a.fd_12 ["_law_kind","_law_many"] (spO ⟨K,cl a⟩ ["_law_kind","_law_many"].length zoz) :=
 zrq (k:=0) (N:=["_law_kind","_law_many","_law_rules","_law_k","_law_on","_law_part_here"]) (F:=b_12) W.F_12 zkg fun cdv A outer s H E hr=>by
  unfold b_12;exact (zao (zgf 2 zkg.nd (zbp zaj))
  (zao (zdr PassesOwn.never rfl (zhy rfl W.z_range (zac (dv 1) zaj)) (zcx 3 6 zkg.nd) (zao (zcd 4 zkg.nd (zau zbu (zau zei (dv 3) zad) (dv 1)))
  (zao (zcd 5 zkg.nd (zal (DO.dc (zbp (zac zeq (zac (zcj (zac zbr (zac (dv 3) zaj))) (zac (zcj (zac zbr (zac (dv 3) zaj))) (zac (zcj (zac zbr (zac zad (zac (DO.de (zbp (zac (zcj (zac (dv 3) (zac zad zaj))) (zac (zcj (zac (dv 4) (zac zad zaj))) zaj)))) zaj)))) (zac (zcj (zac zbr (zac zad (zac (DO.de (zbp (zac (zcj (zac (dv 3) (zac zad zaj))) zaj))) zaj)))) zaj))))))) (dv 0)))
  (zan (zbw (zbq zie zjf (DE.db (dv 5)) (DE.db zeq)) (zan (zgc (ze3 (zfn PySem.F.plainAttrs_list PySem.F.slot_list_append PySem.F.type_list_append zfk (pv 2) (zde (zcj (zac (zal (DO.dc (zbp (zac zbr (zac zbr zaj)))) (zau zho (zau zbu (zau ze1 (dv 3) (dv 0)) zad) zad)) (zac (dv 4) (zac (DO.de (zbp (zac (dv 5) zaj))) zaj)))) zdf))))) zb1)))))
  (zan (zjx 2))))
theorem z2r {a:Wa} (W:Wd K mg a) : zap P w K mg base CX0 1 a.f_28 a.fd_28 ["_law_x"] (spD ⟨K,cl a⟩ ["_law_x"].length zj8) :=
 zbi (k:=0) (N:=["_law_x"]) (F:=b_28) W.F_28 z54 fun cdv A outer s H E hr=>have hu:=hr.units; by
  unfold b_28;exact (zao (zbw (zbq (zc1 hu) zc3 (DE.db (zau zbu (dv 0) zad)) (DE.db zad)) (zan (za6 (zau zbu (zau ze1 (zau ze1 (zau ze1 (dv 0) (dv 0)) (dv 0)) (dv 0)) (zau z16 zad zad)))) zb1)
  (zan (za6 (zal (DO.dc (zbp (zac zad (zac zad (zac zad (zac zad (zac zad (zac zad (zac zad (zac zad zaj)))))))))) (zau zbu (zau zho (dv 0) zad) zad)))))
theorem z2o {a:Wa} (W:Wd K mg a) : zap P w K mg base CX0 2 a.f_25 a.fd_25 ["_law_xs","_law_many"] (spD ⟨K,cl a⟩ ["_law_xs","_law_many"].length zlu) :=
 zbi (k:=1) (N:=["_law_xs","_law_many","_law_word","_law_items","_law_near"]) (F:=b_25) W.F_25 zme fun cdv A outer s H E hr=>have hu:=hr.units; by
  unfold b_25;exact (zao (zcd 2 zme.nd (zal (DO.dc (zbp (zac zbr (zac zbr (zac zbr (zac zbr (zac zbr zaj))))))) (zau zbu (zal (dvC 0) zad) zad)))
  (zao (zbw (DW.dt (zhc (zbq (zc1 hu) zc3 (DE.db (dv 2)) (DE.db zbr)) (zh3 (zbq (zc1 hu) zc3 (DE.db (dv 2)) (DE.db zbr))))) (zan (za6 (zcj (zac (dv 2) (zac (zau zbu (zal (dvC 0) zad) (dv 1)) zaj))))) zb1)
  (zao (zno 3 1 [1,0] ["_law_k","_law_many","_law_xs"] zme.nd rfl (DI.de (zhy rfl W.z_range (zac (zau zbu (zal (dvC 0) zad) zad) zaj))) (fun _ _ _ _ _=>(dgc 0 1)) (fun _ _ _ _ _=>zd2) (fun _ _ _ _ _=>(zcj (zac (zau zbu (zal (zed 2) (zau zei zad (zau ze1 zad (dvc 0)))) (dvc 1)) (zac (zcc (z2r W) (hr.mono (by decide)) (glc rfl) W.g_28 W.F_28.kp W.b_28 (zac (zal (zed 2) (zau zei zad (zau ze1 zad (dvc 0)))) zaj)) zaj)))))
  (zao (zcd 4 zme.nd (zd1 (zjt rfl) zkk rfl W.z_sum boot_sum (zb3 (DE.db (DO.de (zdp 2 [] ["_law_thing","_law_worth_here"] rfl (DI.de (zb6 (DO.de (by refine zk9 ?a ?b ?c; (case a=>exact (dv 3)); (case b=>exact zq7); (case c=>exact (zh0 (zau zbu (zal (dvC 0) zad) zad))))))) (fun _ _ _ _ _=>(zfc rfl (zcq (dgc 0 2) (zcq (dgc 1 2) zfd)))) (fun _ _ _ _ _=>zd2) (fun _ _ _ _ _=>(dvc 1))))) zc5)))
  (zan (za6 (zcj (zac (dv 2) (zac (zau zo0 (zau zei (dv 4) (zau zbu (zau zho (zal (dvC 0) zad) zad) zad)) zad) (zac (dv 3) zaj))))))))))
theorem z2s {a:Wa} (W:Wd K mg a) : zap P w K mg base CX0 3 a.f_29 a.fd_29 ["_law_cell","_law_many","_law_calm"] (spD ⟨K,cl a⟩ ["_law_cell","_law_many","_law_calm"].length zoe) :=
 zbi (k:=2) (N:=["_law_cell","_law_many","_law_calm","_law_xs","_law_parts"]) (F:=b_29) W.F_29 zpd fun cdv A outer s H E hr=>have hu:=hr.units; by
  unfold b_29;refine (zao (zcd 3 zpd.nd (zcc (zo2 W) (hr.mono (by decide)) rfl W.g_3 W.F_3.kp W.b_3 (zac (dv 0) (zac zad zaj))))
  (zao (zbw (zbq (zc1 hu) zc3 (DE.db (dv 1)) (DE.db zad)) ?hole0 zb1)
  (zao (zno 4 1 [1,3] ["_law_k","_law_many","_law_xs"] zpd.nd rfl (DI.de (zhy rfl W.z_range (zac (zal (DO.dc (zbp (zac zad (zac zad (zac zad (zac zad (zac zad (zac zad zaj)))))))) (zau zbu (zal (dvC 3) zad) zad)) zaj))) (fun _ _ _ _ _=>(dgc 0 1)) (fun _ _ _ _ _=>zd2) (fun _ _ _ _ _=>(zcc (z2o W) (hr.mono (by decide)) (glc rfl) W.g_25 W.F_25.kp W.b_25 (zac (DO.de (by refine zk9 ?a ?b ?c; (case a=>exact (dvc 2)); (case b=>exact (zh0 (zau zei zad (zau ze1 zad (dvc 0))))); (case c=>exact (zh0 (zau zei zad (zau ze1 zad (dvc 0))))))) (zac (dvc 1) zaj)))))
  (zao (zbw (DW.dt (zh2 (zbq (zc1 hu) zc3 (DE.db (zau zbu (zal (dvC 3) zad) zad)) (DE.db zad)) (zh2 (zfe (zcy (DE.db (dv 2)))) (zjy (DW.dt (zhc (zbq (ztr hu) zuy (DE.db (dv 4)) (DE.db (DO.de (zbp zaj)))) (zh3 (zbq (zc1 hu) zc3 (DE.db (zau zbu (zal (dvC 3) zad) zad)) (DE.db zad))))))))) (zan (za6 (zcj (zac zbr (zac zeq (zac (dv 4) zaj)))))) zb1)
  (zan (za6 (zcj (zac (zal (DO.dc (zbp (zac zbr (zac zbr zaj)))) (zau zbu (zau zho (zal (dvC 3) zad) zad) zad)) (zac (zau zbu (zau zho (zal (dvC 3) zad) zad) (dv 1)) (zac (dv 4) zaj))))))))))
  (case hole0=>refine zan ?_; refine za6 ?_; refine zcj ?_; refine zac ?_ ?_; (focus exact zbr); refine zac ?_ ?_; (focus exact zeq); refine zac ?_ ?_; (focus (refine DO.de ?_; exact (by refine zk9 ?a ?b ?c; (case a=>exact (DO.de (zbp (zac (zcj (zac (zal (DO.dc (zbp (zac zbr (zac zbr zaj)))) (zau zbu (zal (dvC 3) zad) zad)) (zac (zau zo0 (zau zbu (zal (dvC 3) zad) zad) zad) (zac (DO.de (zbp zaj)) zaj)))) zaj)))); (case b=>exact zq7); (case c=>exact (zh0 (zau zbu (zal (dvC 3) zad) zad)))))); exact zaj)
theorem z2e {a:Wa} (W:Wd K mg a) : zap P w K mg base CX0 1 a.f_14 a.fd_14 ["self"] (spD ⟨K,cl a⟩ ["self"].length m_14) :=
 zbi (k:=0) (N:=["self"]) (F:=b_14) W.F_14 z5v fun cdv A outer s H E hr=>by
  unfold b_14;exact (zan (zge (zbp (zac (zep "In" (zg5 W) (zl0 W) (dv 0)) zaj))))
theorem z2f {a:Wa} (W:Wd K mg a) : zap P w K mg base CX0 1 a.f_15 a.fd_15 ["self"] (spD ⟨K,cl a⟩ ["self"].length m_15) :=
 zbi (k:=0) (N:=["self"]) (F:=b_15) W.F_15 z5w fun cdv A outer s H E hr=>by
  unfold b_15;exact (zan (za6 zbf))
theorem ztv {a:Wa} (W:Wd K mg a) : zap P w K mg base CX0 1 a.f_24 a.fd_24 ["items"] (spD ⟨K,cl a⟩ ["items"].length zlt) :=
 zbi (k:=0) (N:=["items"]) (F:=b_24) W.F_24 z53 fun cdv A outer s H E hr=>by
  unfold b_24;exact (zan (zge (zx4 rfl rfl W.z_sorted rfl W.z_set (DO.de (zdp 2 [] ["thing","worth"] rfl (DI.de (zb6 (dv 0))) (fun _ _ _ _ _=>(zfc rfl (zcq (dgc 0 2) (zcq (dgc 1 2) zfd)))) (fun _ _ _ _ _=>zd2) (fun _ _ _ _ _=>(dvc 0)))))))
theorem z2i {a:Wa} (W:Wd K mg a) : zap P w K mg base CX0 2 a.f_18 a.fd_18 ["self"] (spD ⟨K,cl a⟩ ["self"].length m_18) :=
 zbi (k:=1) (N:=["self"]) (F:=b_18) W.F_18 z5z fun cdv A outer s H E hr=>by
  unfold b_18;exact (zan (za6 (zcc (ztv W) (hr.mono (by decide)) rfl W.g_24 W.F_24.kp W.b_24 (zac (zep "Least" (zf7 W) (zoq W) (dv 0)) zaj))))
theorem z2j {a:Wa} (W:Wd K mg a) : zap P w K mg base CX0 1 a.f_19 a.fd_19 ["self"] (spD ⟨K,cl a⟩ ["self"].length m_19) :=
 zbi (k:=0) (N:=["self"]) (F:=b_19) W.F_19 z50 fun cdv A outer s H E hr=>by
  unfold b_19;exact (zan (za6 zbf))
theorem z2l {a:Wa} (W:Wd K mg a) : zap P w K mg base CX0 2 a.f_20 a.fd_20 ["self"] (spD ⟨K,cl a⟩ ["self"].length m_20) :=
 zbi (k:=1) (N:=["self"]) (F:=b_20) W.F_20 z51 fun cdv A outer s H E hr=>by
  unfold b_20;exact (zan (za6 (zcc (ztv W) (hr.mono (by decide)) rfl W.g_24 W.F_24.kp W.b_24 (zac (zep "Most" (zf8 W) (zor W) (dv 0)) zaj))))
theorem z2m {a:Wa} (W:Wd K mg a) : zap P w K mg base CX0 1 a.f_21 a.fd_21 ["self"] (spD ⟨K,cl a⟩ ["self"].length m_21) :=
 zbi (k:=0) (N:=["self"]) (F:=b_21) W.F_21 z52 fun cdv A outer s H E hr=>by
  unfold b_21;exact (zan (za6 zbf))
theorem z2g {a:Wa} (W:Wd K mg a) : zap P w K mg base CX0 1 a.f_16 a.fd_16 ["self"] (spD ⟨K,cl a⟩ ["self"].length m_16) :=
 zbi (k:=0) (N:=["self"]) (F:=b_16) W.F_16 z5x fun cdv A outer s H E hr=>by
  unfold b_16;exact (zan (zge (zbp (zac (zep "Out" (zhu W) (zos W) (dv 0)) zaj))))
theorem z2h {a:Wa} (W:Wd K mg a) : zap P w K mg base CX0 1 a.f_17 a.fd_17 ["self"] (spD ⟨K,cl a⟩ ["self"].length m_17) :=
 zbi (k:=0) (N:=["self"]) (F:=b_17) W.F_17 z5y fun cdv A outer s H E hr=>by
  unfold b_17;exact (zan (za6 zbf))
theorem z21 {a:Wa} (W:Wd K mg a) : zap P w K mg base CX0 3 a.f_4 a.fd_4 ["self","why","guard"] (zf3 ⟨K,cl a⟩ ["self","why","guard"].length m_4) :=
 znr (k:=2) (N:=["self","why","guard","part","thing"]) (F:=b_4) W.F_4 zpf fun cdv A outer s H E hr=>have hu:=hr.units; by
  unfold b_4;exact (zao (zx9 (z4u (hu1 hu) (zhz "Spreading" (zdb W) (ztd W) (zdq (pv 0))) (dv 1) (dv 2) rfl))
  (zao (zdr PassesOwn.never rfl (zb6 (dv 2)) (zcx 3 5 zpf.nd) (zan (zdr PassesOwn.never rfl (zb6 (DE.orE (zgb "In" (dv 3) (zg5 W) (z06 W) (z2e W) (hr.mono (by decide)) W.b_14) (DE.orE (zgb "Out" (dv 3) (zhu W) (z1f W) (z2g W) (hr.mono (by decide)) W.b_16) (DE.orE (zgb "Least" (dv 3) (zf7 W) (z09 W) (z2i W) (hr.mono (by decide)) W.b_18) (zgb "Most" (dv 3) (zf8 W) (z1c W) (z2l W) (hr.mono (by decide)) W.b_20))))) (zcx 4 5 zpf.nd) (zan (zx7 (ze3 (zfn PySem.F.plainAttrs_list PySem.F.slot_list_append PySem.F.type_list_append zfk (z31 (hu1 hu) (zhz "Spreading" (zdb W) (ztf W) (zdq (pv 0))) (zcj (zac (dv 4) (zac (DE.orE (zgb "In" (dv 3) (zg5 W) (z07 W) (z2f W) (hr.mono (by decide)) W.b_15) (DE.orE (zgb "Out" (dv 3) (zhu W) (z1g W) (z2h W) (hr.mono (by decide)) W.b_17) (DE.orE (zgb "Least" (dv 3) (zf7 W) (z1a W) (z2j W) (hr.mono (by decide)) W.b_19) (zgb "Most" (dv 3) (zf8 W) (z1d W) (z2m W) (hr.mono (by decide)) W.b_21)))) zaj))) (zo3 zdf) ⟨rfl,rfl,rfl,rfl⟩) (zde (pv 1) zdf))))))))
  (zan (zx8 (ze3 (zfn PySem.F.plainAttrs_list PySem.F.slot_list_append PySem.F.type_list_append zfk (zhz "Spreading" (zdb W) (zte W) (zdq (pv 0))) (zde (dv 1) zdf)))))))
theorem z20 {a:Wa} (W:Wd K mg a) : zap P w K mg base CX0 1 a.f_39 a.fd_39 ["self","thing"] (spI ⟨K,cl a⟩ "In" ["self","thing"].length zr3) :=
 zlg (k:=0) (N:=["self","thing"]) (cn:="In") W.F_39 z6c fun cdv A outer s H E hr=>(zh1 (zg5 W) (zl0 W) (pv 0) (dv 1) zla)
theorem ztx {a:Wa} (W:Wd K mg a) : zap P w K mg base CX0 1 a.f_38 a.fd_38 ["self","bound","items"] (spI ⟨K,cl a⟩ "Least" ["self","bound","items"].length znw) :=
 zlg (k:=0) (N:=["self","bound","items"]) (cn:="Least") W.F_38 z6b fun cdv A outer s H E hr=>(zh1 (zf7 W) (ztb W) (pv 0) (dv 1) (zh1 (zf7 W) (zoq W) (pv 0) (DO.de (zjw boot_list rfl W.z_list (dvC 2))) zla))
theorem z22 {a:Wa} (W:Wd K mg a) : zap P w K mg base CX0 1 a.f_40 a.fd_40 ["self","bound","items"] (spI ⟨K,cl a⟩ "Most" ["self","bound","items"].length zr4) :=
 zlg (k:=0) (N:=["self","bound","items"]) (cn:="Most") W.F_40 z6d fun cdv A outer s H E hr=>(zh1 (zf8 W) (ztc W) (pv 0) (dv 1) (zh1 (zf8 W) (zor W) (pv 0) (DO.de (zjw boot_list rfl W.z_list (dvC 2))) zla))
theorem ztw {a:Wa} (W:Wd K mg a) : zap P w K mg base CX0 1 a.f_37 a.fd_37 ["self","thing"] (spI ⟨K,cl a⟩ "Out" ["self","thing"].length znx) :=
 zlg (k:=0) (N:=["self","thing"]) (cn:="Out") W.F_37 z6a fun cdv A outer s H E hr=>(zh1 (zhu W) (zos W) (pv 0) (dv 1) zla)
theorem ztu {a:Wa} (W:Wd K mg a) : zap P w K mg base CX0 3 a.f_23 a.fd_23 ["told"] (spD ⟨K,cl a⟩ ["told"].length zod) :=
 zbi (k:=2) (N:=["told","word"]) (F:=b_23) W.F_23 zuu fun cdv A outer s H E hr=>have hu:=hr.units; by
  unfold b_23;exact (zao (zcd 1 zuu.nd (zal (dvC 0) zad))
  (zao (zbw (zbq (zc1 hu) zc3 (DE.db (dv 1)) (DE.db zbr)) (zan (za6 (zhw "In" (z1p W) (z20 W) (hr.mono (by decide)) rfl (zyz W) W.b_39 (zac (zal (dvC 0) zad) zaj)))) zb1)
  (zao (zbw (zbq (zc1 hu) zc3 (DE.db (dv 1)) (DE.db zbr)) (zan (za6 (zhw "Out" (zta W) (ztw W) (hr.mono (by decide)) rfl (zrw W) W.b_37 (zac (zal (dvC 0) zad) zaj)))) zb1)
  (zao (zbw (zbq (zc1 hu) zc3 (DE.db (dv 1)) (DE.db zbr)) (zan (za6 (zhw "Least" (zs9 W) (ztx W) (hr.mono (by decide)) rfl (zrv W) W.b_38 (zac (zal (dvC 0) zad) (zac (zal (dvC 0) zad) zaj))))) zb1)
  (zan (za6 (zhw "Most" (z1q W) (z22 W) (hr.mono (by decide)) rfl (zy0 W) W.b_40 (zac (zal (dvC 0) zad) (zac (zal (dvC 0) zad) zaj)))))))))
theorem z2c {a:Wa} (W:Wd K mg a) : zap P w K mg base CX0 4 a.f_1 a.fd_1 ["rule"] (spD ⟨K,cl a⟩ ["rule"].length m_1) :=
 zbi (k:=3) (N:=["rule"]) (F:=b_1) W.F_1 zut fun cdv A outer s H E hr=>by
  unfold b_1;exact (zan (zge (zdp 1 [] ["told"] rfl (DI.de (zb6 (zal (dvC 0) zad))) (fun _ _ _ _ _=>(dgc 0 1)) (fun _ _ _ _ _=>zd2) (fun _ _ _ _ _=>(zcc (ztu W) (hr.mono (by decide)) (glc rfl) W.g_23 W.F_23.kp W.b_23 (zac (dvc 0) zaj))))))
theorem z19 {a:Wa} (W:Wd K mg a) : zap P w K mg base CX0 4 a.f_1 a.fd_1 ["rule"] (spO ⟨K,cl a⟩ ["rule"].length o_1) :=
 zrq (k:=3) (N:=["rule"]) (F:=b_1) W.F_1 zut fun cdv A outer s H E hr=>by
  unfold b_1;exact (zan (zge (zdp 1 [] ["told"] rfl (DI.de (zb6 (zal (dvC 0) zad))) (fun _ _ _ _ _=>(dgc 0 1)) (fun _ _ _ _ _=>zd2) (fun _ _ _ _ _=>(zcc (ztu W) (hr.mono (by decide)) (glc rfl) W.g_23 W.F_23.kp W.b_23 (zac (dvc 0) zaj))))))
theorem z2p {a:Wa} (W:Wd K mg a) : zap P w K mg base CX0 5 a.f_26 a.fd_26 ["rule"] (spD ⟨K,cl a⟩ ["rule"].length zlv) :=
 zbi (k:=4) (N:=["rule","guard"]) (F:=b_26) W.F_26 zuv fun cdv A outer s H E hr=>have hu:=hr.units; by
  unfold b_26;exact (zao (zbw (zbq (zc1 hu) zc3 (DE.db (zal (dvC 0) zad)) (DE.db zbr)) (zan (zge (zbp (zac (zhw "Least" (zs9 W) (ztx W) (hr.mono (by decide)) rfl (zrv W) W.b_38 (zac zad (zac (DO.de (zbp zaj)) zaj))) zaj)))) zb1)
  (zao (zgf 1 zuv.nd (zq6 (z19 W) (hr.mono (by decide)) rfl W.g_1 W.F_1.kp W.b_1 (zac (dv 0) zaj)))
  (zao (zbw (zbq (zc1 hu) zc3 (DE.db (zal (dvC 0) zad)) (DE.db zbr)) (zan (zgc (ze3 (zfn PySem.F.plainAttrs_list PySem.F.slot_list_append PySem.F.type_list_append zfk (pv 1) (zde (zhw "Out" (zta W) (ztw W) (hr.mono (by decide)) rfl (zrw W) W.b_37 (zac (zal (dvC 0) zad) zaj)) zdf))))) zb1)
  (zan (zjx 1)))))
theorem z2n {a:Wa} (W:Wd K mg a) : zap P w K mg base CX0 6 a.f_22 a.fd_22 ["self","plain","bars","sheet"] (zf3 ⟨K,cl a⟩ ["self","plain","bars","sheet"].length zoc) :=
 znr (k:=5) (N:=["self","plain","bars","sheet","rule","number","bar"]) (F:=b_22) W.F_22 zmd fun cdv A outer s H E hr=>by
  unfold b_22;exact (zao (zgd "Spreading" (zdb W) (zou W) (zf2 (zdq (pv 0)) (zlb (zjw boot_list rfl W.z_list (dvC 3))) rfl))
  (zao (zgd "Spreading" (zdb W) (z1u W) (zf2 (zdq (pv 0)) (zlb (zbp zaj)) rfl))
  (zao (zgd "Spreading" (zdb W) (z1t W) (zf2 (zdq (pv 0)) (zlb (zbp zaj)) rfl))
  (zao (zgd "Spreading" (zdb W) (ztd W) (zf2 (zdq (pv 0)) zrg rfl))
  (zao (zgd "Spreading" (zdb W) (ztf W) (zf2 (zdq (pv 0)) zrg rfl))
  (zao (zgd "Spreading" (zdb W) (zte W) (zf2 (zdq (pv 0)) (zlb (zbp zaj)) rfl))
  (zao (zgd "Spreading" (zdb W) (zot W) (zf2 (zdq (pv 0)) (zrh (DO.de (zdp 1 [] ["rule"] rfl (DI.de (zb6 (zal (dvC 1) zad))) (fun _ _ _ _ _=>(dgc 0 1)) (fun _ _ _ _ _=>(zhb (zbq zie zjf (DE.db (zal (zed 0) zad)) (DE.db zeq)))) (fun _ _ _ _ _=>(zcj (zac (zal (zed 0) zad) (zac (zcc (z2c W) (hr.mono (by decide)) (glc rfl) W.g_1 W.F_1.kp W.b_1 (zac (dvc 0) zaj)) zaj))))))) rfl))
  (zao (zdr PassesOwn.never rfl (znl rfl W.z_enumerate (zac (zal (dvC 1) zad) zaj)) (zfc rfl (zcq (zcx 5 7 zmd.nd) (zcq (zcx 4 7 zmd.nd) zfd))) (zan (zx5 (zyf "Spreading" (pv 0) (zdb W) (z1i W) (z21 W) (hr.mono (by decide)) W.b_4 (zqt (DE.dx (zcj (zac zbr (zac (dv 5) zaj)))) (zqt (DE.dx (zcc (z2p W) (hr.mono (by decide)) rfl W.g_26 W.F_26.kp W.b_26 (zac (dv 4) zaj))) zxn))))))
  (zan (zdr PassesOwn.never rfl (zb6 (dv 2)) (zcx 6 7 zmd.nd) (zan zx6)))))))))))
theorem z25 {a:Wa} (W:Wd K mg a) : zap P w K mg base CX0 1 a.f_7 a.fd_7 ["self","sheet","without"] (spD ⟨K,cl a⟩ ["self","sheet","without"].length m_7) :=
 zbi (k:=0) (N:=["self","sheet","without"]) (F:=b_7) W.F_7 z6e fun cdv A outer s H E hr=>by
  unfold b_7;exact (zan (za6 (zqx (zdo zgm zgq (DE.db (zal (dvC 1) (zep "In" (zg5 W) (zl0 W) (dv 0)))) (DE.db zbf)) (zng (zal (dvC 2) (zep "In" (zg5 W) (zl0 W) (dv 0)))))))
theorem z2z {a:Wa} (W:Wd K mg a) : zap P w K mg base CX0 1 a.f_36 a.fd_36 ["items","without"] (spD ⟨K,cl a⟩ ["items","without"].length zok) :=
 zbi (k:=0) (N:=["items","without"]) (F:=b_36) W.F_36 z59 fun cdv A outer s H E hr=>by
  unfold b_36;exact (zan (zge (zdp 1 [1] ["item","without"] rfl (DI.de (zb6 (dv 0))) (fun _ _ _ _ _=>(dgc 0 1)) (fun _ _ _ _ _=>(zhb (zfe (zcy (DE.db (zal (zed 1) (zal (zed 0) zad))))))) (fun _ _ _ _ _=>(dvc 0)))))
theorem z2v {a:Wa} (W:Wd K mg a) : zap P w K mg base CX0 1 a.f_32 a.fd_32 ["items","sheet"] (spD ⟨K,cl a⟩ ["items","sheet"].length zlx) :=
 zbi (k:=0) (N:=["items","sheet"]) (F:=b_32) W.F_32 z56 fun cdv A outer s H E hr=>by
  unfold b_32;exact (zan (za6 (zd1 (zjt rfl) zkk rfl W.z_sum boot_sum (zb3 (DE.db (DO.de (zdp 2 [1] ["thing","worth","sheet"] rfl (DI.de (zb6 (dv 0))) (fun _ _ _ _ _=>(zfc rfl (zcq (dgc 0 2) (zcq (dgc 1 2) zfd)))) (fun _ _ _ _ _=>(zhb (zbq zie zjf (DE.db (zal (zed 2) (dvc 0))) (DE.db zbf)))) (fun _ _ _ _ _=>(dvc 1))))) zc5))))
theorem z27 {a:Wa} (W:Wd K mg a) : zap P w K mg base CX0 2 a.f_9 a.fd_9 ["self","sheet","without"] (spD ⟨K,cl a⟩ ["self","sheet","without"].length m_9) :=
 zbi (k:=1) (N:=["self","sheet","without"]) (F:=b_9) W.F_9 z6g fun cdv A outer s H E hr=>by
  unfold b_9;exact (zan (za6 (zdo zl2 zmi (DE.db (zcc (z2v W) (hr.mono (by decide)) rfl W.g_32 W.F_32.kp W.b_32 (zac (zcc (z2z W) (hr.mono (by decide)) rfl W.g_36 W.F_36.kp W.b_36 (zac (zep "Least" (zf7 W) (zoq W) (dv 0)) (zac (dv 2) zaj))) (zac (dv 1) zaj)))) (DE.db (zep "Least" (zf7 W) (ztb W) (dv 0))))))
theorem z2y {a:Wa} (W:Wd K mg a) : zap P w K mg base CX0 1 a.f_35 a.fd_35 ["items","entries"] (spD ⟨K,cl a⟩ ["items","entries"].length zoj) :=
 zbi (k:=0) (N:=["items","entries"]) (F:=b_35) W.F_35 z58 fun cdv A outer s H E hr=>by
  unfold b_35;exact (zan (za6 (zd1 (zjt rfl) zkk rfl W.z_sum boot_sum (zb3 (DE.db (DO.de (zdp 2 [1] ["thing","worth","entries"] rfl (DI.de (zb6 (dv 0))) (fun _ _ _ _ _=>(zfc rfl (zcq (dgc 0 2) (zcq (dgc 1 2) zfd)))) (fun _ _ _ _ _=>(zhb (zbq zgm zgq (DE.db (zal (zed 2) (dvc 0))) (DE.db zbf)))) (fun _ _ _ _ _=>(dvc 1))))) zc5))))
theorem z2d {a:Wa} (W:Wd K mg a) : zap P w K mg base CX0 2 a.f_10 a.fd_10 ["self","sheet","without"] (spD ⟨K,cl a⟩ ["self","sheet","without"].length m_10) :=
 zbi (k:=1) (N:=["self","sheet","without"]) (F:=b_10) W.F_10 z5s fun cdv A outer s H E hr=>by
  unfold b_10;exact (zan (za6 (zdo zj9 zki (DE.db (zcc (z2y W) (hr.mono (by decide)) rfl W.g_35 W.F_35.kp W.b_35 (zac (zep "Most" (zf8 W) (zor W) (dv 0)) (zac (dv 1) zaj)))) (DE.db (zep "Most" (zf8 W) (ztc W) (dv 0))))))
theorem z26 {a:Wa} (W:Wd K mg a) : zap P w K mg base CX0 1 a.f_8 a.fd_8 ["self","sheet","without"] (spD ⟨K,cl a⟩ ["self","sheet","without"].length m_8) :=
 zbi (k:=0) (N:=["self","sheet","without"]) (F:=b_8) W.F_8 z6f fun cdv A outer s H E hr=>by
  unfold b_8;exact (zan (za6 (zdo zgm zgq (DE.db (zal (dvC 1) (zep "Out" (zhu W) (zos W) (dv 0)))) (DE.db zbf))))
theorem z2q {a:Wa} (W:Wd K mg a) : zap P w K mg base CX0 3 a.f_27 a.fd_27 ["body","sheet","without"] (spD ⟨K,cl a⟩ ["body","sheet","without"].length zlw) :=
 zbi (k:=2) (N:=["body","sheet","without","part"]) (F:=b_27) W.F_27 zuw fun cdv A outer s H E hr=>by
  unfold b_27;exact (zao (zdr PassesOwn.never rfl (zb6 (dv 0)) (zcx 3 4 zuw.nd) (zan (zbw (zcy (DE.db (DE.orE (zk4 "In" (dv 3) (zg5 W) (z05 W) (z25 W) (hr.mono (by decide)) W.b_7 (zac (dv 1) (zac (dv 2) zaj))) (DE.orE (zk4 "Out" (dv 3) (zhu W) (z1e W) (z26 W) (hr.mono (by decide)) W.b_8 (zac (dv 1) (zac (dv 2) zaj))) (DE.orE (zk4 "Least" (dv 3) (zf7 W) (z08 W) (z27 W) (hr.mono (by decide)) W.b_9 (zac (dv 1) (zac (dv 2) zaj))) (zk4 "Most" (dv 3) (zf8 W) (z1b W) (z2d W) (hr.mono (by decide)) W.b_10 (zac (dv 1) (zac (dv 2) zaj)))))))) (zan (zjx 3)) zb1)))
  (zan (za6 zeq)))
theorem z2k {a:Wa} (W:Wd K mg a) : zap P w K mg base CX0 4 a.f_2 a.fd_2 ["self"] (zf3 ⟨K,cl a⟩ ["self"].length m_2) :=
 znr (k:=3) (N:=["self","without","used","rest","going","before","unused","maker"]) (F:=b_2) W.F_2 zfp fun cdv A outer s H E hr=>by
  unfold b_2;exact (zao (znn 1 1 [] ["entry"] zfp.nd rfl (zxz (zx2 (zhz "Spreading" (zdb W) (zou W) (zdq (pv 0))))) (fun _ _ _ _ _=>(dgc 0 1)) (fun _ _ _ _ _=>zd2) (fun _ _ _ _ _=>(zdo zie zjf (DE.db (dvc 0)) (DE.db zbf))))
  (zao (zgf 2 zfp.nd (zbp zaj))
  (zao (zcd 3 zfp.nd (zxu (zhz "Spreading" (zdb W) (zot W) (zdq (pv 0)))))
  (zao (zcd 4 zfp.nd zbf)
  (zao (zrd 1000000000 PassesOwn.never (zcy (DE.db (dv 4))) (zao (zcd 5 zfp.nd (zd1 zk1 zmh rfl W.z_len PySem.boot_len (zb3 (dvB 2) zc5)))
  (zao (zgf 6 zfp.nd (zbp zaj))
  (zao (zdr PassesOwn.never rfl (zb6 (dv 3)) (zcx 7 8 zfp.nd) (zan (zbw (DW.dt (zh2 (zcy (DE.db (zal (dvC 1) (zal (dvC 7) zad)))) (zjy (zbq zgm zgq (zxo (z2q W) (hr.mono (by decide)) rfl W.g_27 W.F_27.kp W.b_27 (zb3 (DE.db (zal (dvC 7) zad)) (zb3 (zxr (zhz "Spreading" (zdb W) (zou W) (zdq (pv 0)))) (zb3 (dvB 1) zc5)))) (DE.db zeq))))) (zao (znm (pv 1) (zal (dvC 7) zad) zbf)
  (zan (zgc (ze3 (zfn PySem.F.plainAttrs_list PySem.F.slot_list_append PySem.F.type_list_append zfk (pv 2) (zde (dv 7) zdf)))))) (zan (zgc (ze3 (zfn PySem.F.plainAttrs_list PySem.F.slot_list_append PySem.F.type_list_append zfk (pv 6) (zde (dv 7) zdf))))))))
  (zao (zha 6 (zcd 3 zfp.nd (dv 6)))
  (zan (zcd 4 zfp.nd (zxs (zdo zj9 zki (DE.db (zd1 zk1 zmh rfl W.z_len PySem.boot_len (zb3 (dvB 2) zc5))) (DE.db (dv 5))) (zng (zd1 (zk0 rfl) zmg rfl W.z_any boot_any (zb3 (dvB 1) zc5)))))))))))
  (zao (zha 2 (zgd "Spreading" (zdb W) (zot W) (zf2 (zdq (pv 0)) (zrh (DO.de (zx3 (dv 2) (dv 3)))) rfl)))
  (zan (zha 1 (zyb (dv 1))))))))))
theorem z2u {a:Wa} (W:Wd K mg a) : zap P w K mg base CX0 1 a.f_31 a.fd_31 ["truths"] (spD ⟨K,cl a⟩ ["truths"].length zog) :=
 zbi (k:=0) (N:=["truths"]) (F:=b_31) W.F_31 z55 fun cdv A outer s H E hr=>by
  unfold b_31;exact (zan (zge (zdp 2 [] ["thing","truth"] rfl (DI.de (znl rfl W.z_enumerate (zac (dv 0) zaj))) (fun _ _ _ _ _=>(zfc rfl (zcq (dgc 0 2) (zcq (dgc 1 2) zfd)))) (fun _ _ _ _ _=>(zhb (zcy (DE.db (dvc 1))))) (fun _ _ _ _ _=>(dvc 0)))))
theorem z2w {a:Wa} (W:Wd K mg a) : zap P w K mg base CX0 8 a.f_33 a.fd_33 ["plain","sheet"] (spD ⟨K,cl a⟩ ["plain","sheet"].length zoh) :=
 zbi (k:=7) (N:=["plain","sheet"]) (F:=b_33) W.F_33 z57 fun cdv A outer s H E hr=>by
  unfold b_33;exact (zan (za6 (zcc (z2u W) (hr.mono (by decide)) rfl W.g_31 W.F_31.kp W.b_31 (zac (zxv "Spreading" (zyg "Spreading" (z1r W) (z2n W) (hr.mono (by decide)) rfl (zy1 W) W.b_22 (zac (dv 0) (zac (DO.de (zbp zaj)) (zac (dv 1) zaj)))) (zdb W) (z1h W) (z2k W) (hr.mono (by decide)) W.b_2) zaj))))
theorem z2b {a:Wa} (W:Wd K mg a) : zap P w K mg base CX0 9 a.f_0 a.fd_0 ["_law_script"] (spD ⟨K,cl a⟩ ["_law_script"].length m_0) :=
 zbi (k:=8) (N:=["_law_script","_law_hs","_law_many","_law_rules","_law_cell","_law_sheet","_law_turn","_law_handed","_law_found"]) (F:=b_0) W.F_0 zfo fun cdv A outer s H E hr=>have hu:=hr.units; by
  unfold b_0;exact (zao (zcd 1 zfo.nd (zcc (zo2 W) (hr.mono (by decide)) rfl W.g_3 W.F_3.kp W.b_3 (zac (zcc (zts W) (hr.mono (by decide)) rfl W.g_11 W.F_11.kp W.b_11 (zac (dv 0) (zac zad zaj))) (zac zad zaj))))
  (zao (zcd 2 zfo.nd (zau zho (zau zei (zau zbu (zal (dvC 1) zad) zad) zad) zad))
  (zao (zbw (zbq (zc1 hu) zc3 (DE.db (zau zbu (zal (dvC 1) zad) zad)) (DE.db zad)) (zan (zcd 2 zfo.nd (zau zei zad (zau zbu (zau zho (zal (dvC 1) zad) zad) zad)))) zb1)
  (zao (zgf 3 zfo.nd (zq6 (z2a W) (hr.mono (by decide)) rfl W.g_12 W.F_12.kp W.b_12 (zac (zau zbu (zal (dvC 1) zad) zad) (zac (dv 2) zaj))))
  (zao (zdr PassesOwn.never rfl (zb6 (DO.de (by refine zk9 ?a ?b ?c; (case a=>exact (dv 0)); (case b=>exact (zh0 zad)); (case c=>exact (zh0 zad))))) (zcx 4 9 zfo.nd) (zan (zgc (ze3 (zfn PySem.F.plainAttrs_list PySem.F.slot_list_append PySem.F.type_list_append zfk (pv 3) (zde (zcc (z2s W) (hr.mono (by decide)) rfl W.g_29 W.F_29.kp W.b_29 (zac (dv 4) (zac (dv 2) (zac zbf zaj)))) zdf))))))
  (zao (znn 5 1 [] ["_law_x"] zfo.nd rfl (DI.de (zb6 (zcc (zo2 W) (hr.mono (by decide)) rfl W.g_3 W.F_3.kp W.b_3 (zac (zcc (zts W) (hr.mono (by decide)) rfl W.g_11 W.F_11.kp W.b_11 (zac (dv 0) (zac zad zaj))) (zac (dv 2) zaj))))) (fun _ _ _ _ _=>(dgc 0 1)) (fun _ _ _ _ _=>zd2) (fun _ _ _ _ _=>(zal (DO.dc (zbp (zac zbf (zac zbf (zac zeq (zac zeq (zac zeq zaj))))))) (zau zbu (dvc 0) zad))))
  (zao (zdr PassesOwn.never rfl (zhy rfl W.z_range (zac zad zaj)) (zcx 6 9 zfo.nd) (zao (zha 3 (zcd 7 zfo.nd (DO.de (zbp (zac (zcj (zac (dv 2) (zac (zcc (z23 W) (hr.mono (by decide)) rfl W.g_5 W.F_5.kp W.b_5 (zac (dv 3) zaj)) zaj))) (zac (DO.de (zjw boot_list rfl W.z_list (dvC 5))) zaj))))))
  (zao (zcd 8 zfo.nd (zcc (z2w W) (hr.mono (by decide)) rfl W.g_33 W.F_33.kp W.b_33 (zac (zal (dvC 7) zad) (zac (zal (dvC 7) zad) zaj))))
  (zao (zha 3 (zbw (DW.dt (zhc (zfe (zcy (DE.db (zqv (z24 W) (hr.mono (by decide)) rfl W.g_6 W.F_6.kp W.b_6 (zb3 (DE.db (dv 2)) (zb3 (DE.db (dv 3)) (zb3 (dvB 5) (zb3 (DE.db (dv 8)) zc5)))))))) (zh3 (zbq (ztr hu) zuy (DE.db (dv 7)) (zxp (zb3 (DE.db (zcj (zac (dv 2) (zac (dv 3) zaj)))) (zb3 (dvB 5) zc5))))))) (zan (za6 zbf)) zb1))
  (zan (zbw (zbq zj9 zki (DE.db (dv 2)) (DE.db zad)) (zan (znm (pv 5) (zau zbu (zal (dvC 1) zad) (dv 2)) (zal (DO.dc (zbp (zac zbf (zac zbf (zac zeq zaj))))) (zau zbu (zal (dvC 1) zad) zad)))) zb1))))))
  (zan (za6 zbf)))))))))
end
local macro_rules | `(tactic| walk_at "evS")=>`(tactic| first | decide | omega | assumption | exact ⟨by decide,by decide⟩ | exact ⟨by omega,by omega⟩ | exact .inl ⟨by decide,by decide⟩ | exact .inr ⟨by decide,by decide⟩ | exact .inl ⟨by omega,by omega⟩ | exact .inr ⟨by omega,by omega⟩ | exact ⟨by decide,by decide,by decide⟩)
local macro_rules | `(tactic| walk_at "evO")=>`(tactic| first | with_reducible exact zw4 | with_reducible exact zqr | with_reducible exact zqp | with_reducible exact zk2 | with_reducible exact zqo | with_reducible exact zqn | with_reducible exact zw9 _ _ | with_reducible exact zxf _ _ | ((with_reducible apply zk3); (focus walk_at "evS")) | ((with_reducible apply zw7); (focus walk_at "evS")) | ((with_reducible apply zxe); (focus walk_at "evS")) | ((with_reducible apply zxd); (focus first | assumption | exact .inl (by walk_at "evS") | exact .inr ⟨by omega,by omega⟩)) | ((with_reducible apply zxi); (focus walk_at "evS")) | ((with_reducible apply zxk); (focus walk_at "evS")) | with_reducible exact znc _ _ | with_reducible exact zxh _ _ | with_reducible exact zw8 _ _ | with_reducible exact zw6 | exact zxa _ _ | exact zqq _ _ | assumption | rfl)
local macro_rules | `(tactic| walk_at "ev")=>`(tactic| first
 | with_reducible assumption
 | ((with_reducible apply zbm); (focus walk_at "ev"); (focus walk_at "ev"); (focus walk_at "evO"))
 | ((with_reducible apply zc8); (focus walk_at "ev"))
 | ((with_reducible apply zd6); (focus walk_at "ev"); (focus first | assumption | rfl))
 | ((with_reducible apply zlq); (focus walk_at "ev"); (focus walk_at "ev"))
 | ((with_reducible apply z0v); (focus walk_at "ev"); (focus walk_at "ev"))
 | ((with_reducible apply zgj); (focus walk_at "ev"))
 | ((with_reducible apply zvn); (focus walk_at "ev"); (focus walk_at "ev"))
 | ((with_reducible apply zpn); (focus walk_at "ev"); (focus walk_at "ev"))
 | ((with_reducible apply zvo); (focus walk_at "ev"))
 | ((with_reducible apply zas); (focus walk_at "ev"); (focus walk_at "ev"))
 | ((with_reducible apply ze6); (focus walk_at "ev"))
 | ((with_reducible apply zb4); (focus walk_at "ev"))
 | ((with_reducible apply zbk); (focus walk_at "ev"); (focus first | with_reducible assumption | with_reducible exact zlo _ _ | assumption | exact zlo _ _ | exact z0j _ _ | rfl))
 | ((with_reducible apply zkz); (focus walk_at "ev"); (focus assumption); (focus rfl))
 | ((with_reducible apply za0); (focus walk_at "ev"); (focus walk_at "ev"); (focus first | assumption | rfl))
 | ((with_reducible apply zu4); (focus walk_at "ev"); (focus rfl); (focus rfl))
 | ((with_reducible apply zmm); (focus walk_at "ev"); (focus rfl); (focus rfl))
 | ((with_reducible apply ze4); (focus walk_at "ev"); (focus rfl))
 | rfl)
local macro_rules | `(tactic| walk_at "nrm")=>`(tactic| simp only [zsm,List.set_cons_succ,List.set_cons_zero])
local macro_rules | `(tactic| walk_at "set")=>`(tactic| (apply zat; (first | with_reducible apply zcv | with_reducible apply zfr); (focus walk_at "ev"); walk_at "nrm"))
local macro_rules | `(tactic| walk_at "if0")=>`(tactic| ((with_reducible first | apply zca | apply ze8); (focus walk_at "ev")))
theorem zqg (ns:List Int) (i:Int) (h0:0<=i) : ∃ v,zj7 [.kl (ns.map D.int),.int i]=some (.int v):=by
 by_cases h : i < ns.length
 ·obtain ⟨x,_,e⟩:=zb5 (f:=D.int) h0 h;refine ⟨x,zdv (zmk (zli (congrArg some (decide_eq_true ?_)) (zdu e)))⟩;rw [List.length_map];exact h
 ·refine ⟨0,zdv (zgs (zhf (congrArg some (decide_eq_false ?_)) rfl) rfl)⟩;rw [List.length_map];exact h
theorem p60 : (0 : Int) < 10 ^ (60 : Int).toNat:=by decide
theorem zw0 : zhs 10 60:=⟨by decide,by decide,by decide⟩
noncomputable def Nm (x:Int) : Prop:=0<=x/\x < 2305843009213693951
theorem zop (c n:Int) (n0:0<=n) (n1:n<=124) : ∃ d,m_3 [.int c,.int n]=some d/\∃ xs : List Int,d=.lst (xs.map D.int)/\(xs.length : Int)=n/\∀ x∈xs,Nm x:=by
 apply zjl;unfold b_3;show wp _ [.im (.int c),.im (.int n),.no,.no,.no] _;have a0 : 0<=c % 2305843009213693951:=Int.emod_nonneg _ (by decide);have a1 : c % 2305843009213693951 < 2305843009213693951:=Int.emod_lt_of_pos _ (by decide);walk_at "set";walk_at "set";apply zat
 refine zdw (List.range n.toNat) (fun (i:Nat)=>D.int i) (fun pre ρ=>∃ (xs:List Int) (y:Int) (v:Sl),ρ=[.im (.int c),.im (.int n),.own (xs.map D.int),.im (.int y),v]/\0<=y/\y < 2 ^ 100/\xs.length=pre.length/\∀ x∈xs,Nm x)
  (zih (by walk_at "ev") n0 (by omega)) ⟨[],_,.no,rfl,by omega,by omega,rfl,fun x hx=>nomatch hx⟩ ?_ ?_
 ·rintro pre i post ρ ex ⟨xs,y,v,rfl,y0,y1,hl,hx⟩
  have hpl : pre.length < n.toNat:=by
   have : pre.length < (List.range n.toNat).length:=by rw [ex]; simp
   simpa using this
  refine ⟨_,rfl,?_⟩;walk_at "nrm";generalize hz : (y * (y + 69621) + 7 * (i:Int) + 1) % 2305843009213693951=z;have z0 : 0<=z:=by rw [<- hz]; exact Int.emod_nonneg _ (by decide)
  have z1 : z < 2305843009213693951:=by rw [<- hz]; exact Int.emod_lt_of_pos _ (by decide)
  apply zat;refine zcv (by walk_at "ev") ?_;rw [hz];walk_at "nrm";refine zgt rfl rfl (by rw [List.length_map]; omega) ?_;refine ⟨xs++[z],z,.im (.int i),by rw [List.map_append]; rfl,z0,by omega,by rw [List.length_append,List.length_append,hl]; rfl,fun x hx'=>?_⟩
  rcases List.mem_append.mp hx' with h | h
  ·exact hx x h
  ·have : x=z:=by simpa using h
   subst this;exact ⟨z0,z1⟩
 ·rintro ρ ⟨xs,y,v,rfl,y0,y1,hl,hx⟩;rw [List.length_range] at hl;exact zkp rfl (zh5 ⟨xs,rfl,by omega,hx⟩)
theorem worth (x:Int) (hx:Nm x) : ∃ d,zj8 [.int x]=some d/\∃ w : Int,d=.int w/\0<=w:=by
 obtain ⟨x0,x1⟩:=hx;apply zjl;unfold b_28;show wp _ [.im (.int x)] _;have pw:=p60;have hcp:=zw0;have m1 : ze9 x x:=.inl (.inl ⟨by omega,by omega⟩);have m2 : ze9 (x * x) x:=.inl (.inr ⟨by omega,by omega⟩);have m3 : ze9 (x * x * x) x:=.inl (.inr ⟨by omega,by omega⟩);apply zat;walk_at "if0"
 ·intro _;walk_at "if0";exact zc6 ⟨_,rfl,Int.emod_nonneg _ (Int.ne_of_gt pw)⟩
 ·intro _;apply zcn;walk_at "nrm";obtain ⟨w,hw,ew⟩:=zb5 (f:=D.int) (xs:=[1,1,2,0,3,1,1,2]) (i:=x / 8 % 8) (Int.emod_nonneg _ (by decide)) (Int.emod_lt_of_pos _ (by decide));have w0 : ∀ x∈([1,1,2,0,3,1,1,2] : List Int),0<=x:=by decide
  walk_at "if0";exact zc6 ⟨w,rfl,w0 w (List.mem_of_getElem? hw)⟩
theorem zm9 {α β : Type} {k:Nat} {js:List Nat} {fi:List Sl->Option (List D)} {g:D->List Sl->Option (List Sl)} {ft:List Sl->Option Bool} {fe:List Sl->Option D} {ρ:List Sl} (xs:List α) (f:α->D) (q:β->D) (P:β->Prop)
  (hi:fi ρ=some (xs.map f)) (hz:xs.length<=16777216) (hh:∀ x∈xs,∃ z,P z/\zd7 g ft fe (zcw k js ρ) (f x)=some (some (q z))) : ∃ zs : List β,zbh k js fi g ft fe ρ=some (zs.map q)/\zs.length=xs.length/\∀ z∈zs,P z:=by
 have key : ∀ ys : List α,(∀ x∈ys,∃ z,P z/\zd7 g ft fe (zcw k js ρ) (f x)=some (some (q z)))->∃ zs : List β,zdn (zd7 g ft fe (zcw k js ρ)) (ys.map f)=some (zs.map q)/\zs.length=ys.length/\∀ z∈zs,P z:=by
  intro ys
  induction ys with
  | nil=>intro _; exact ⟨[],rfl,rfl,fun z hz=>nomatch hz⟩
  | cons y ys ih =>
   intro h;obtain ⟨z,pz,ez⟩:=h y List.mem_cons_self;obtain ⟨zs,e,l,p⟩:=ih fun x hx=>h x (List.mem_cons_of_mem _ hx);refine ⟨z::zs,?_,by rw [List.length_cons,List.length_cons,l],fun w hw=>?_⟩
   ·rw [List.map_cons];unfold zdn;rw [ez,e];rfl
   ·rcases List.mem_cons.mp hw with rfl | hw
    ·exact pz
    ·exact p w hw
 obtain ⟨zs,e,l,p⟩:=key xs hh;refine ⟨zs,?_,l,p⟩;unfold zbh;rw [hi];show (if (xs.map f).length<=16777216 then _ else none)=_;rw [List.length_map,if_pos hz];exact e
noncomputable def nmP : Prt->List Int
 | .inn t=>[t]
 | .out t=>[t]
 | .least _ its=>its.map (·.1)
 | .most _ its=>its.map (·.1)
theorem z1k {xs:List Int} {i:Nat} {x:Int} (h:∀ x∈xs,Nm x) (e:xs[i]?=some x) : Nm x:=h x (List.mem_of_getElem? e)
theorem zzy {ys:List Int} {n:Int} (hy:∀ y∈ys,Nm y) (n1:1<=n) {t:Nat} (ht:4 + 2 * t<=ys.length) (ht2:t<=100) {fi:List Sl->Option (List D)} {ρ:List Sl} {js:List Nat} (hi:fi ρ=some ((List.range t).map fun (i:Nat)=>D.int i)) (hj:zcw 1 js ρ=[.no,.im (.int n),.im (.lst (ys.map D.int))]) :
  ∃ its : List (Int×Int),zbh 1 js fi (zaw 0) (fun _=>some true) (zbo (zaa (m2 za9 (mIx (zag 2) (m2 zb2 (fun _=>some (.int 4)) (m2 zcb (fun _=>some (.int 2)) (zab 0)))) (zab 1)) (zaa (zay zj8 (zaa (mIx (zag 2) (m2 zb2 (fun _=>some (.int 5)) (m2 zcb (fun _=>some (.int 2)) (zab 0)))) (fun _=>some []))) (fun _=>some [])))) ρ=some (its.map itD)/\its.length=t/\InN n.toNat its:=by
 obtain ⟨its,e,l,p⟩:=zm9 (k:=1) (js:=js) (fi:=fi) (g:=zaw 0) (ft:=fun _=>some true) (fe:=(zbo (zaa (m2 za9 (mIx (zag 2) (m2 zb2 (fun _=>some (.int 4)) (m2 zcb (fun _=>some (.int 2)) (zab 0)))) (zab 1)) (zaa (zay zj8 (zaa (mIx (zag 2) (m2 zb2 (fun _=>some (.int 5)) (m2 zcb (fun _=>some (.int 2)) (zab 0)))) (fun _=>some []))) (fun _=>some []))))) (ρ:=ρ) (List.range t) (fun (i:Nat)=>D.int i) itD (fun z=>0<=z.1/\z.1 < (n.toNat : Int)/\0<=z.2) hi (by rw [List.length_range]; omega) fun i hi'=>by
  have hi':=List.mem_range.mp hi';obtain ⟨a,_,ea⟩:=zb5 (f:=D.int) (xs:=ys) (i:=4 + 2 * (i:Int)) (by omega) (by omega);obtain ⟨b,hb,eb⟩:=zb5 (f:=D.int) (xs:=ys) (i:=5 + 2 * (i:Int)) (by omega) (by omega);obtain ⟨d,ew,w,rfl,w0⟩:=worth b (z1k hy hb);have q0:=Int.emod_nonneg a (show n≠0 by omega);have q1:=Int.emod_lt_of_pos a (show 0 < n by omega);refine ⟨(a % n,w),⟨q0,by show a % n < _; omega,w0⟩,?_⟩;rw [hj];exact zek (y:=.tup [.int (a % n),.int w]) rfl rfl (by walk_at "ev")
 exact ⟨its,e,by rw [l,List.length_range],p⟩
theorem z1w {its:List (Int×Int)} {fi:List Sl->Option (List D)} {ρ:List Sl} (hi:fi ρ=some (its.map itD)) (hz:its.length<=1000) : zay zd9 (zaa (za2 (zbh 2 [] fi (zdi (zbx (zaw 0) (zbx (zaw 1) zd3))) (fun _=>some true) (zab 1))) (fun _=>some [])) ρ=some (.int (its.map (·.2)).sum):=by
 refine zbk (zas (zb4 (zfu its itD (fun z=>D.int z.2) hi (by omega) fun z _=>zek rfl rfl rfl)) rfl) ?_;rw [z03];exact zvb
theorem z3t (ys:List Int) (n:Int) (hl:10<=ys.length) (hy:∀ y∈ys,Nm y) (n1:1<=n) (n60:n<=60) : ∃ d,zlu [.lst (ys.map D.int),.int n]=some d/\∃ p : Prt,d=p.toD/\p.Ok n.toNat/\(nmP p).length<=3:=by
 apply zjl;unfold b_25;show wp _ [.im (.lst (ys.map D.int)),.im (.int n),.no,.no,.no] _;obtain ⟨a0,h0,e0⟩:=zb5 (f:=D.int) (xs:=ys) (i:=0) (by decide) (by omega);obtain ⟨a1,h1,e1⟩:=zb5 (f:=D.int) (xs:=ys) (i:=1) (by decide) (by omega);obtain ⟨a2,h2,e2⟩:=zb5 (f:=D.int) (xs:=ys) (i:=2) (by decide) (by omega);obtain ⟨a3,h3,e3⟩:=zb5 (f:=D.int) (xs:=ys) (i:=3) (by decide) (by omega);obtain ⟨wd,hwd,ew⟩:=zb5 (f:=D.str) (xs:=["in","out","in","least","most"]) (i:=a0 % 5) (Int.emod_nonneg _ (by decide)) (Int.emod_lt_of_pos _ (by decide));have hw2:=List.mem_of_getElem? hwd;simp only [List.mem_cons,List.not_mem_nil,or_false] at hw2;walk_at "set";apply zat;walk_at "if0"
 ·intro hb;have q0:=Int.emod_nonneg a1 (show n≠0 by omega);have q1:=Int.emod_lt_of_pos a1 (show 0 < n by omega);walk_at "if0";apply zc6
  rcases hw2 with rfl | rfl | rfl | rfl | rfl
  ·exact ⟨.inn (a1 % n),rfl,⟨q0,by omega⟩,by show 1<=3; decide⟩
  ·exact ⟨.out (a1 % n),rfl,⟨q0,by omega⟩,by show 1<=3; decide⟩
  ·exact ⟨.inn (a1 % n),rfl,⟨q0,by omega⟩,by show 1<=3; decide⟩
  ·exact Bool.noConfusion (show false=true from hb)
  ·exact Bool.noConfusion (show false=true from hb)
 ·intro hb;apply zcn;walk_at "nrm";have t0 : 0<=a2 % 4:=Int.emod_nonneg _ (by decide);have t1 : a2 % 4 < 4:=Int.emod_lt_of_pos _ (by decide);obtain ⟨its,ei,li,hin⟩:=zzy (ys:=ys) (n:=n) hy n1 (t:=(a2 % 4).toNat) (by omega) (by omega) (fi:=zeg (zaa (m2 za9 (mIx (zag 0) (fun _=>some (.int 2))) (fun _=>some (.int 4))) (fun _=>some []))) (ρ:=[.im (.lst (ys.map D.int)),.im (.int n),.im (.str wd),.no,.no]) (js:=[1,0]) (zih (by walk_at "ev") t0 (by omega)) rfl;apply zat;refine zcv (zb4 ei) ?_;walk_at "nrm";apply zat;refine zcv (z1w (ze4 (zb4 (zmm rfl rfl (hi:=some (a3 % 5)) (by unfold mPt; rw [show (m2 za9 (mIx (zag 0) (fun _=>some (.int 3))) (fun _=>some (.int 5))) [.im (.lst (ys.map D.int)),.im (.int n),.im (.str wd),.im (.lst (its.map itD)),.no]=some (.int (a3 % 5)) by walk_at "ev"]; rfl))) rfl) (by rw [List.length_take,List.length_drop]; omega)) ?_;walk_at "nrm";walk_at "if0";apply zc6;have h3' : (its.map (·.1)).length<=3:=by rw [List.length_map]; omega
  rcases hw2 with rfl | rfl | rfl | rfl | rfl
  ·exact Bool.noConfusion (show true=false from hb)
  ·exact Bool.noConfusion (show true=false from hb)
  ·exact Bool.noConfusion (show true=false from hb)
  ·exact ⟨.least _ its,rfl,⟨hin,by omega⟩,h3'⟩
  ·exact ⟨.most _ its,rfl,⟨hin,by omega⟩,h3'⟩
theorem zwr {f g:List Sl->Option D} {ρ:List Sl} {a b:List D} (h:f ρ=some (.lst a)) (h':g ρ=some (.lst b)) (hl:a.length + b.length<=16777216) : zib f g ρ=some (a++b):=by
 unfold zib;rw [h,h'];show (if a.length + b.length<=16777216 then some (a++b) else none)=_;rw [if_pos hl]
noncomputable def zjo (r:Rul) : Prop:=∀ p∈r.ps,(nmP p).length<=3
theorem znb {α : Type} {xs:List α} {a b:Nat} {x:α} (h:x∈(xs.drop a).take b) : x∈xs:=List.mem_of_mem_drop (List.mem_of_mem_take h)
theorem z5q (c n:Int) (n0:0<=n) (n60:n<=60) : ∃ d,zoe [.int c,.int n,.bl false]=some d/\∃ r : Rul,d=r.toD/\r.Ok n.toNat/\r.ps.length<=3/\zjo r:=by
 apply zjl;unfold b_29;show wp _ [.im (.int c),.im (.int n),.im (.bl false),.no,.no] _;obtain ⟨d,em,xs,rfl,hl,hx⟩:=zop c 33 (by decide) (by decide);have hl' : xs.length=33:=by omega
 obtain ⟨a0,h0,e0⟩:=zb5 (f:=D.int) (xs:=xs) (i:=0) (by decide) (by omega);obtain ⟨a1,h1,e1⟩:=zb5 (f:=D.int) (xs:=xs) (i:=1) (by decide) (by omega);obtain ⟨a2,h2,e2⟩:=zb5 (f:=D.int) (xs:=xs) (i:=2) (by decide) (by omega);walk_at "set";apply zat;walk_at "if0"
 ·intro hb;have hn : n=0:=by simpa using hb
  subst hn;obtain ⟨wd,hwd,ew⟩:=zb5 (f:=D.str) (xs:=["least","most"]) (i:=a0 % 2) (Int.emod_nonneg _ (by decide)) (Int.emod_lt_of_pos _ (by decide));have hw2:=List.mem_of_getElem? hwd;simp only [List.mem_cons,List.not_mem_nil,or_false] at hw2
  obtain ⟨p,ep,hp,hp3⟩ : ∃ p : Prt,p.toD=.tup [.str wd,.int (a1 % 3 - 1),.lst []]/\p.Ok 0/\(nmP p).length<=3:=by
   rcases hw2 with rfl | rfl
   ·exact ⟨.least (a1 % 3 - 1) [],rfl,⟨(fun z hz=>nomatch hz),by decide⟩,Nat.zero_le _⟩
   ·exact ⟨.most (a1 % 3 - 1) [],rfl,⟨(fun z hz=>nomatch hz),by decide⟩,Nat.zero_le _⟩
  have es : mSl (za2 (zaa (zbo (zaa (mIx (zaa (fun _=>some (.str "least")) (zaa (fun _=>some (.str "most")) (fun _=>some []))) (m2 za9 (mIx (zag 3) (fun _=>some (.int 0))) (fun _=>some (.int 2)))) (zaa (m2 zga (m2 za9 (mIx (zag 3) (fun _=>some (.int 1))) (fun _=>some (.int 3))) (fun _=>some (.int 1))) (zaa (za2 (fun _=>some [])) (fun _=>some []))))) (fun _=>some []))) (fun _=>some none) (mPt (m2 za9 (mIx (zag 3) (fun _=>some (.int 2))) (fun _=>some (.int 6)))) [.im (.int c),.im (.int 0),.im (.bl false),.im (.lst (xs.map D.int)),.no]=some ((([p].drop (HT.sIx [p].length 0 none)).take (HT.sIx [p].length [p].length (some (a2 % 6)) - HT.sIx [p].length 0 none)).map Prt.toD):=by
   refine zmm (xs:=[p]) (g:=Prt.toD) ?_ rfl ?_
   ·rw [List.map_cons,List.map_nil,ep];walk_at "ev"
   ·unfold mPt;rw [show (m2 za9 (mIx (zag 3) (fun _=>some (.int 2))) (fun _=>some (.int 6))) [.im (.int c),.im (.int 0),.im (.bl false),.im (.lst (xs.map D.int)),.no]=some (.int (a2 % 6)) by walk_at "ev"];rfl
  refine ze8 (ze6 (zas rfl (zas rfl (zas (zb4 es) rfl)))) (zc6 ⟨⟨.never,0,_⟩,rfl,⟨fun h=>absurd rfl h,fun q hq=>?_,?_⟩,?_,fun q hq=>?_⟩)
  ·have : q=p:=by simpa using znb hq
   rw [this];exact hp
  ·show (List.take _ (List.drop _ [p])).length<=_;rw [List.length_take,List.length_drop];show min _ (1 - _)<=_;omega
  ·show (List.take _ (List.drop _ [p])).length<=_;rw [List.length_take,List.length_drop];show min _ (1 - _)<=_;omega
  ·have : q=p:=by simpa using znb hq
   rw [this];exact hp3
 ·intro hb;have hn : n≠0:=by simpa using hb
  have n1 : 1<=n:=by omega
  apply zcn;walk_at "nrm";obtain ⟨t,ht,et⟩:=zb5 (f:=D.int) (xs:=[1,1,2,2,3,0]) (i:=a0 % 6) (Int.emod_nonneg _ (by decide)) (Int.emod_lt_of_pos _ (by decide))
  have t3 : 0<=t/\t<=3:=by
   have : ∀ x∈([1,1,2,2,3,0] : List Int),0<=x/\x<=3:=by decide
   exact this t (List.mem_of_getElem? ht)
  obtain ⟨ps,ep,lp,hp⟩:=zm9 (k:=1) (js:=[1,3]) (fi:=(zeg (zaa (mIx (zaa (fun _=>some (.int 1)) (zaa (fun _=>some (.int 1)) (zaa (fun _=>some (.int 2)) (zaa (fun _=>some (.int 2)) (zaa (fun _=>some (.int 3)) (zaa (fun _=>some (.int 0)) (fun _=>some []))))))) (m2 za9 (mIx (zag 3) (fun _=>some (.int 0))) (fun _=>some (.int 6)))) (fun _=>some [])))) (g:=zaw 0) (ft:=fun _=>some true) (fe:=(zay zlu (zaa (za2 (mSl (zab 2) (mPt (m2 zb2 (fun _=>some (.int 3)) (m2 zcb (fun _=>some (.int 10)) (zab 0)))) (mPt (m2 zb2 (fun _=>some (.int 13)) (m2 zcb (fun _=>some (.int 10)) (zab 0)))))) (zaa (zab 1) (fun _=>some []))))) (ρ:=[.im (.int c),.im (.int n),.im (.bl false),.im (.lst (xs.map D.int)),.no]) (List.range t.toNat) (fun (i:Nat)=>D.int i) Prt.toD (fun p=>p.Ok n.toNat/\(nmP p).length<=3) (zih (by walk_at "ev") t3.1 (by omega)) (by rw [List.length_range]; omega) fun i hi=>by
   have hi:=List.mem_range.mp hi
   have es : mSl (zab 2) (mPt (m2 zb2 (fun _=>some (.int 3)) (m2 zcb (fun _=>some (.int 10)) (zab 0)))) (mPt (m2 zb2 (fun _=>some (.int 13)) (m2 zcb (fun _=>some (.int 10)) (zab 0)))) [.im (.int i),.im (.int n),.im (.lst (xs.map D.int))]=some ((((xs.drop (HT.sIx xs.length 0 (some (3 + 10 * (i:Int)))))).take (HT.sIx xs.length xs.length (some (13 + 10 * (i:Int))) - HT.sIx xs.length 0 (some (3 + 10 * (i:Int))))).map D.int):=by
    refine zmm rfl ?_ ?_
    ·unfold mPt;rw [show (m2 zb2 (fun _=>some (.int 3)) (m2 zcb (fun _=>some (.int 10)) (zab 0))) [.im (.int i),.im (.int n),.im (.lst (xs.map D.int))]=some (.int (3 + 10 * (i:Int))) by walk_at "ev"];rfl
    ·unfold mPt;rw [show (m2 zb2 (fun _=>some (.int 13)) (m2 zcb (fun _=>some (.int 10)) (zab 0))) [.im (.int i),.im (.int n),.im (.lst (xs.map D.int))]=some (.int (13 + 10 * (i:Int))) by walk_at "ev"];rfl
   obtain ⟨d,ed,p,rfl,hp,hp3⟩:=z3t ((xs.drop (HT.sIx xs.length 0 (some (3 + 10 * (i:Int))))).take (HT.sIx xs.length xs.length (some (13 + 10 * (i:Int))) - HT.sIx xs.length 0 (some (3 + 10 * (i:Int))))) n (by
    rw [List.length_take,List.length_drop,show (3 + 10 * (i:Int))=((3 + 10 * i : Nat) : Int) by omega,show (13 + 10 * (i:Int))=((13 + 10 * i : Nat) : Int) by omega,HT.sIx_nat,HT.sIx_nat];omega) (fun y hy=>hx y (znb hy)) n1 n60
   exact ⟨p,⟨hp,hp3⟩,zek rfl rfl (zbk (zas (zb4 es) (zas rfl rfl)) ed)⟩
  rw [List.length_range] at lp;apply zat;refine zcv (zb4 ep) ?_;walk_at "nrm";have eN : (m2 dNe (zab 4) (za2 (fun _=>some []))) [.im (.int c),.im (.int n),.im (.bl false),.im (.lst (xs.map D.int)),.im (.lst (ps.map Prt.toD))]=some (.bl (!ps.isEmpty)):=zbm rfl rfl (zqq _ _);apply zat;walk_at "if0"
  ·intro _;walk_at "if0";exact zc6 ⟨⟨.never,0,ps⟩,rfl,⟨fun h=>absurd rfl h,fun p h=>(hp p h).1,by show ps.length<=_; omega⟩,by show ps.length<=3; omega,fun p h=>(hp p h).2⟩
  ·intro _;apply zcn;walk_at "nrm";obtain ⟨w,hw,ew⟩:=zb5 (f:=fun w : Wrd=>D.str w.s) (xs:=[.make,.may]) (i:=a1 / 8 % 2) (Int.emod_nonneg _ (by decide)) (Int.emod_lt_of_pos _ (by decide));have q0:=Int.emod_nonneg (a2 / 4) (show n≠0 by omega);have q1:=Int.emod_lt_of_pos (a2 / 4) (show 0 < n by omega);walk_at "if0";refine zc6 ⟨⟨w,a2 / 4 % n,ps⟩,?_,⟨fun _=>⟨q0,by show a2 / 4 % n < _; omega⟩,fun p h=>(hp p h).1,by show ps.length<=_; omega⟩,by show ps.length<=3; omega,fun p h=>(hp p h).2⟩;have hw2:=List.mem_of_getElem? hw;simp only [List.mem_cons,List.not_mem_nil,or_false] at hw2
   rcases hw2 with rfl | rfl <;> rfl
theorem z5l (kind k on n:Int) (hk:0<=kind) (hk5:kind < 5) (k0:0<=k) (k1:k < n) (o0:0<=on) (o1:on < n) : (atI [D.non,.tup [.str "in",.int k],.tup [.str "out",.int k],.tup [.str "least",.int 2,.lst [.tup [.int k,.int 2],.tup [.int on,.int 1]]],.tup [.str "most",.int 0,.lst [.tup [.int k,.int 1]]]] kind=some .non)\/∃ p : Prt,(p.Ok n.toNat/\(nmP p).length<=3)/\atI [D.non,.tup [.str "in",.int k],.tup [.str "out",.int k],.tup [.str "least",.int 2,.lst [.tup [.int k,.int 2],.tup [.int on,.int 1]]],.tup [.str "most",.int 0,.lst [.tup [.int k,.int 1]]]] kind=some p.toD:=by
 have : kind=0\/kind=1\/kind=2\/kind=3\/kind=4:=by omega
 rcases this with rfl | rfl | rfl | rfl | rfl
 ·exact .inl rfl
 ·exact .inr ⟨.inn k,⟨⟨k0,by omega⟩,by show 1<=3; decide⟩,rfl⟩
 ·exact .inr ⟨.out k,⟨⟨k0,by omega⟩,by show 1<=3; decide⟩,rfl⟩
 ·refine .inr ⟨.least 2 [(k,2),(on,1)],⟨⟨fun z hz=>?_,by show 2<=100000; decide⟩,by show 2<=3; decide⟩,rfl⟩;simp only [List.mem_cons,List.not_mem_nil,or_false] at hz
  rcases hz with rfl | rfl
  ·exact ⟨k0,by show k < _; omega,by show (0 : Int)<=2; decide⟩
  ·exact ⟨o0,by show on < _; omega,by show (0 : Int)<=1; decide⟩
 ·refine .inr ⟨.most 0 [(k,1)],⟨⟨fun z hz=>?_,by show 1<=100000; decide⟩,by show 1<=3; decide⟩,rfl⟩;have : z=(k,1):=by simpa using hz
  subst this;exact ⟨k0,by show k < _; omega,by show (0 : Int)<=1; decide⟩
theorem z5k (kind n:Int) (hk:0<=kind) (hk5:kind < 5) (n0:0<=n) (n60:n<=60) : ∃ rs : List Rul,zoz [.int kind,.int n]=some (rs.map Rul.toD)/\(∀ r∈rs,r.Ok n.toNat/\r.ps.length<=3/\zjo r)/\rs.length<=60:=by
 have h : wp b_12 (zdh 6 [.int kind,.int n]) (fun o=>∃ rs : List Rul,o=.rtO (rs.map Rul.toD)/\(∀ r∈rs,r.Ok n.toNat/\r.ps.length<=3/\zjo r)/\rs.length<=60):=by
  unfold b_12;show wp _ [.im (.int kind),.im (.int n),.no,.no,.no,.no] _;walk_at "set";apply zat
  refine zdw (List.range n.toNat) (fun (i:Nat)=>D.int i) (fun pre ρ=>∃ (rs:List Rul) (v3 v4 v5:Sl),ρ=[.im (.int kind),.im (.int n),.own (rs.map Rul.toD),v3,v4,v5]/\(∀ r∈rs,r.Ok n.toNat/\r.ps.length<=3/\zjo r)/\rs.length<=pre.length)
   (zih (by walk_at "ev") n0 (by omega)) ⟨[],.no,.no,.no,rfl,(fun z hz=>nomatch hz),Nat.le_refl _⟩ ?_ ?_
  ·rintro pre i post ρ ex ⟨rs,v3,v4,v5,rfl,hrs,hl⟩;have hi : i < n.toNat:=List.mem_range.mp (by rw [ex]; simp)
   have hpl : pre.length < n.toNat:=by
    have : pre.length < (List.range n.toNat).length:=by rw [ex]; simp
    simpa using this
   have hn : 0 < n:=by omega
   have q0:=Int.emod_nonneg ((i:Int) + 1) (show n≠0 by omega);have q1:=Int.emod_lt_of_pos ((i:Int) + 1) hn;refine ⟨_,rfl,?_⟩;walk_at "nrm";walk_at "set"
   rcases z5l kind i (((i:Int) + 1) % n) n hk hk5 (by omega) (by omega) q0 q1 with e | ⟨p,hp,e⟩
   ·apply zat;refine zcv (by walk_at "ev") ?_;walk_at "nrm";refine zca (b:=false) rfl (fun h=>by cases h) (fun _=>zcn ?_);exact ⟨rs,_,_,_,rfl,hrs,by rw [List.length_append]; exact Nat.le_succ_of_le hl⟩
   ·apply zat;refine zcv (by walk_at "ev") ?_;walk_at "nrm";clear e;have w0 : 0<=(i:Int) * kind % 5 / 4:=Int.ediv_nonneg (Int.emod_nonneg _ (by decide)) (by decide)
    have w1 : (i:Int) * kind % 5 / 4 < 2:=by
     have:=Int.emod_lt_of_pos ((i:Int) * kind) (show (0 : Int) < 5 by decide);omega
    obtain ⟨w,hw,ew⟩:=zb5 (f:=fun w : Wrd=>D.str w.s) (xs:=[.make,.may]) (i:=(i:Int) * kind % 5 / 4) w0 w1
    refine zca (b:=true) (zc8 (zbm rfl rfl (by cases p <;> rfl))) (fun _=>?_) (fun h=>by cases h)
    refine zgt (ze6 (zas (za0 (by walk_at "ev") (by walk_at "ev") ew) (zas rfl (zas (zb4 (zas rfl rfl)) rfl)))) rfl (by rw [List.length_map]; omega) ?_;have hw2:=List.mem_of_getElem? hw;simp only [List.mem_cons,List.not_mem_nil,or_false] at hw2;refine ⟨rs++[⟨w,((i:Int) + 1) % n,[p]⟩],.im (.int i),.im (.int (((i:Int) + 1) % n)),.im p.toD,?_,fun r hr=>?_,by rw [List.length_append,List.length_append]; exact Nat.add_le_add_right hl 1⟩
    ·rw [List.map_append]
     rcases hw2 with rfl | rfl <;> rfl
    ·rcases List.mem_append.mp hr with h | h
     ·exact hrs r h
     ·have : r=⟨w,((i:Int) + 1) % n,[p]⟩:=by simpa using h
      subst this;refine ⟨⟨fun _=>⟨q0,by show ((i:Int) + 1) % n < _; omega⟩,fun q hq=>?_,by show 1<=_; decide⟩,by show 1<=3; decide,fun q hq=>?_⟩
      ·have : q=p:=by simpa using hq
       subst this;exact hp.1
      ·have : q=p:=by simpa using hq
       subst this;exact hp.2
  ·rintro ρ ⟨rs,v3,v4,v5,rfl,hrs,hl⟩;rw [List.length_range] at hl;exact zkp rfl ⟨rs,rfl,hrs,by omega⟩
 obtain ⟨o,e,rs,rfl,hrs,hl⟩:=h;exact ⟨rs,zup e,hrs,hl⟩
noncomputable def inS (xs:List Int) (i:Nat) : Bool:=xs.any fun x=>x==(i:Int)
theorem zzh (xs:List Int) (i:Nat) : dIn (.int i) (.lst (xs.map D.int))=some (.bl (inS xs i)):=by
 unfold dIn inD;show Option.map D.bl (if ((D.int i).scalar && (xs.map D.int).all D.scalar)=true then some ((xs.map D.int).any fun d=>eqX d (.int i)) else none)=_;rw [if_pos (by rw [List.all_map]; exact (Bool.and_eq_true _ _).mpr ⟨rfl,List.all_eq_true.mpr fun _ _=>rfl⟩),List.any_map];rfl
noncomputable def zb7 (ws:List Bool) : List Int:=((List.range ws.length).filter fun i=>ws.getD i false).map fun (i:Nat)=>(i:Int)
theorem z0r (ws:List Bool) : (zb7 ws).length<=ws.length:=by
 unfold zb7;rw [List.length_map];have:=List.length_filter_le (fun i=>ws.getD i false) (List.range ws.length)
 rwa [List.length_range] at this
theorem zon (ws:List Bool) (i:Int) : i∈zb7 ws↔0<=i/\ws.getD i.toNat false=true:=by
 unfold zb7;rw [List.mem_map];constructor
 ·rintro ⟨j,hj,rfl⟩;obtain ⟨_,b⟩:=List.mem_filter.mp hj;exact ⟨by omega,by simpa using b⟩
 ·rintro ⟨h0,h⟩;refine ⟨i.toNat,List.mem_filter.mpr ⟨List.mem_range.mpr ?_,h⟩,by omega⟩
  by_cases hl : i.toNat < ws.length
  ·exact hl
  ·rw [List.getD_eq_getElem?_getD,List.getElem?_eq_none (by omega)] at h;cases h
theorem zzg (ws:List Bool) (i:Nat) : inS (zb7 ws) i=ws.getD i false:=by
 cases h : ws.getD i false with
 | true =>
  have : ((i:Nat) : Int)∈zb7 ws:=(zon ws i).mpr ⟨by omega,by simpa using h⟩
  exact List.any_eq_true.mpr ⟨_,this,by simp⟩
 | false =>
  refine List.any_eq_false.mpr fun x hx=>?_;obtain ⟨h0,h1⟩:=(zon ws x).mp hx;intro e;have e : x=(i:Int):=by simpa using e
  subst e;rw [Int.toNat_natCast] at h1;rw [h] at h1;cases h1
theorem z0s (ws:List Bool) : (zb7 ws).Pairwise (· < ·):=by
 unfold zb7;rw [List.pairwise_map];exact (List.pairwise_lt_range.filter _).imp fun h=>by omega
theorem zt2 (p:Prt) : zod [p.toD]=some p.obj:=by
 cases p <;> rfl
theorem z8e {es:List (Option Bool)} {its:List (Int×Int)} (h:InN es.length its) (hz:its.length<=100000) : zoj [.lst (its.map itD),.lst (es.map shD)]=some (.int (zhr (·==some true) es its)):=by
 refine zdv (zdu (zbk (zas (zb4 (zg7 its itD (fun z=>es.getD z.1.toNat none==some true) (fun z=>D.int z.2) rfl (by omega) fun z hz'=>?_)) rfl) (zmo (fun t=>es.getD t.toNat none==some true) its)));exact zfq rfl (zc8 (zbm (za0 rfl rfl (zft (h z hz').1 (h z hz').2.1)) rfl (zhg _ _))) fun _=>rfl
theorem z8f {es:List (Option Bool)} {its:List (Int×Int)} (h:InN es.length its) (hz:its.length<=100000) : zlx [.lst (its.map itD),.lst (es.map shD)]=some (.int (zhr (fun e=>!(e==some false)) es its)):=by
 refine zdv (zdu (zbk (zas (zb4 (zg7 its itD (fun z=>!(es.getD z.1.toNat none==some false)) (fun z=>D.int z.2) rfl (by omega) fun z hz'=>?_)) rfl) (zmo (fun t=>!(es.getD t.toNat none==some false)) its)));exact zfq rfl (zc8 (zbm (za0 rfl rfl (zft (h z hz').1 (h z hz').2.1)) rfl (znz _ _))) fun _=>rfl
theorem z3p {es:List (Option Bool)} {ws:List Bool} {its:List (Int×Int)} (h:InN es.length its) (hw:ws.length=es.length) (hz:its.length<=100000) :
  zok [.lst (its.map itD),.lst (ws.map D.bl)]=some (.lst ((its.filter fun z=>!(ws.getD z.1.toNat false)).map itD)):=by
 refine zpc (congrArg (Option.map Fl.rtO) (zg7 its itD (fun z=>!(ws.getD z.1.toNat false)) itD rfl (by omega) fun z hz'=>?_));have hb:=h z hz';exact zfq rfl (zgj (zd6 (za0 rfl rfl (zg2 hb.1 (by rw [hw]; exact hb.2.1))) rfl)) fun _=>rfl
theorem z0i {es:List (Option Bool)} {ws:List Bool} {its:List (Int×Int)} (h:InN es.length its) (hz:its.length<=100000) :
  zlx [.lst ((its.filter fun z=>!(ws.getD z.1.toNat false)).map itD),.lst (es.map shD)]=some (.int (ze7 (fun t=>!(es.getD t.toNat none==some false) && !(ws.getD t.toNat false)) its)):=by
 have hl:=List.length_filter_le (fun z:Int×Int=>!(ws.getD z.1.toNat false)) its;have hin : InN es.length (its.filter fun z=>!(ws.getD z.1.toNat false)):=fun z hz'=>h z (List.mem_filter.mp hz').1;refine (z8f hin (by omega)).trans ?_;rw [zps];exact congrArg (fun z=>some (D.int z)) (z8c (fun t=>!(es.getD t.toNat none==some false)) (fun t=>!(ws.getD t.toNat false)) its)
theorem z0o {es:List (Option Bool)} {ws:List Bool} (p:Prt) (h:p.Ok es.length) (hw:ws.length=es.length) : ∀ m,m=(match p with | .inn _=>m_7 | .out _=>m_8 | .least _ _=>m_9 | .most _ _=>m_10) ->
  m [p.obj,.lst (es.map shD),.lst (ws.map D.bl)]=some (.bl (p.lost es ws)):=by
 intro m e;subst e
 cases p with
 | inn t=>exact zdv (zdu (zpn (zbm (za0 rfl rfl (zft h.1 h.2)) rfl (zhg _ _)) (za0 rfl rfl (zg2 h.1 (by rw [hw]; exact h.2)))))
 | out t=>exact zdv (zdu (zbm (za0 rfl rfl (zft h.1 h.2)) rfl (zhg _ _)))
 | least k its=>exact zdv (zdu (zbm (zbk (zas (zbk rfl (z3p h.1 hw h.2)) (zas rfl rfl)) (z0i h.1 h.2)) rfl rfl))
 | most k its=>exact zdv (zdu (zbm (zbk rfl (z8e h.1 h.2)) rfl rfl))
theorem z0n {es:List (Option Bool)} {ws:List Bool} {fo:List Sl->Option D} {fa:List Sl->Option (List D)} {ρ:List Sl} (p:Prt) (h:p.Ok es.length) (hw:ws.length=es.length) (ho:fo ρ=some p.obj) (ha:fa ρ=some [.lst (es.map shD),.lst (ws.map D.bl)]) :
  zb8 (zbl "In" "lost" m_7 fo fa) (zb8 (zbl "Out" "lost" m_8 fo fa) (zb8 (zbl "Least" "lost" m_9 fo fa) (zbl "Most" "lost" m_10 fo fa))) ρ=some (.bl (p.lost es ws)):=by
 have hm:=z0o (ws:=ws) p h hw _ rfl
 cases p with
 | inn t=>exact zf1 ((zeh ho rfl ha).trans hm)
 | out t=>exact zc2 (zc0 ho (by decide)) (zf1 ((zeh ho rfl ha).trans hm))
 | least k its=>exact zc2 (zc0 ho (by decide)) (zc2 (zc0 ho (by decide)) (zf1 ((zeh ho rfl ha).trans hm)))
 | most k its=>exact zc2 (zc0 ho (by decide)) (zc2 (zc0 ho (by decide)) (zc2 (zc0 ho (by decide)) ((zeh ho rfl ha).trans hm)))
theorem zqe {n:Nat} (r:Rul) (h:r.Ok n) : m_1 [r.toD]=some (.lst (r.ps.map Prt.obj)) :=
 zpc (congrArg (Option.map Fl.rtO) (zfu r.ps Prt.toD Prt.obj rfl (by have:=h.len; omega) fun p _=>zek rfl rfl (zbk rfl (zt2 p))))
structure Spr where
 es : List (Option Bool)
 st : List D
 bs : List D
 gk : List (List Key)
 gd : List D
 ws : List (List Key×List D)
 wt : List D
 mks : D
noncomputable def lsO (ds:List D) : O:=.lst (ds.map .fz)
noncomputable def wsO (ws:List (List Key×List D)) : O:=.dT (ws.map (·.1)) (ws.map fun p=>lsO p.2)
noncomputable abbrev spN : List Str:=["sheet","steps","bars","guards","watches","waiting","makers"]
noncomputable def Spr.o (s:Spr) : O:=.ins "Spreading" spN [lsO (s.es.map shD),lsO s.st,lsO s.bs,.dT s.gk (s.gd.map .fz),wsO s.ws,lsO s.wt,.fz s.mks]
section
variable {l:Addr} {s:Spr} {ρ:List Sl}
theorem zrl : zd8 "Spreading" "sheet" (zcl 0) (.deep (.at l s.o)::ρ)=some (lsO (s.es.map shD),fun x=>.at l (.ins "Spreading" spN [x,lsO s.st,lsO s.bs,.dT s.gk (s.gd.map .fz),wsO s.ws,lsO s.wt,.fz s.mks])):=rfl
theorem zyl : zd8 "Spreading" "guards" (zcl 0) (.deep (.at l s.o)::ρ)=some (.dT s.gk (s.gd.map .fz),fun x=>.at l (.ins "Spreading" spN [lsO (s.es.map shD),lsO s.st,lsO s.bs,x,wsO s.ws,lsO s.wt,.fz s.mks])):=rfl
theorem zyo : zd8 "Spreading" "watches" (zcl 0) (.deep (.at l s.o)::ρ)=some (wsO s.ws,fun x=>.at l (.ins "Spreading" spN [lsO (s.es.map shD),lsO s.st,lsO s.bs,.dT s.gk (s.gd.map .fz),x,lsO s.wt,.fz s.mks])):=rfl
theorem zyn : zd8 "Spreading" "waiting" (zcl 0) (.deep (.at l s.o)::ρ)=some (lsO s.wt,fun x=>.at l (.ins "Spreading" spN [lsO (s.es.map shD),lsO s.st,lsO s.bs,.dT s.gk (s.gd.map .fz),wsO s.ws,x,.fz s.mks])):=rfl
theorem zym : zd8 "Spreading" "makers" (zcl 0) (.deep (.at l s.o)::ρ)=some (.fz s.mks,fun x=>.at l (.ins "Spreading" spN [lsO (s.es.map shD),lsO s.st,lsO s.bs,.dT s.gk (s.gd.map .fz),wsO s.ws,lsO s.wt,x])):=rfl
end
theorem z3r {p:Xp} {ρ:List Sl} {ds:List D} {R:O->O} (h:p ρ=some (lsO ds,R)) : pC p ρ=some ds:=by
 unfold pC;rw [h];exact zrt ds
theorem zst : ∀ (ds:List D),O.kns (ds.map .fz)=true
 | []=>by rw [List.map_nil,O.kns]
 | d::ds=>by rw [List.map_cons,O.kns,O.kn,zst ds]; rfl
theorem z3q {p:Xp} {ρ:List Sl} {ds:List D} {R:O->O} (h:p ρ=some (lsO ds,R)) : pB p ρ=some (.lst ds):=by
 unfold pB lsO at *;rw [h,Option.bind_some];dsimp only;rw [O.kn,zst,if_pos rfl,O.toD,z7s]
theorem z3s {p:Xp} {ρ:List Sl} {d:D} {R:O->O} (h:p ρ=some (.fz d,R)) : pD p ρ=some d:=by
 unfold pD;rw [h];rfl
theorem z8h {i:Nat} {p:Xp} {f:List Sl->Option D} {ρ:List Sl} {ds:List D} {d:D} {R:O->O} {K:Fl->Prop} (h:p ρ=some (lsO ds,R)) (hf:f ρ=some d) (hz:ds.length < 16777216) (k:K (.nx (ρ.set i (.deep (R (lsO (ds++[d]))))))) : wp (zl5 i p f) ρ K:=⟨_,by
 unfold zl5 lsO at *;rw [h,Option.bind_some,hf,Option.bind_some];show (if (ds.map O.fz).length < 16777216 then some (O.lst (ds.map .fz++[.fz d])) else none).map _=_;rw [if_pos (by rw [List.length_map]; exact hz),show ds.map O.fz++[.fz d]=(ds++[d]).map .fz by rw [List.map_append]; rfl];rfl,k⟩
theorem z8i {i:Nat} {p:Xp} {fk fv:List Sl->Option D} {ρ:List Sl} {ks:List (List Key)} {os:List O} {d y:D} {k:List Key} {R:O->O} {K:Fl->Prop} (hv:fv ρ=some d) (h:p ρ=some (.dT ks os,R)) (hk:fk ρ=some y) (hy:zh6 y=some k) (hn:zax k ks=none) (hz:ks.length < 16777216)
  (q:K (.nx (ρ.set i (.deep (R (.dT (ks++[k]) (os++[.fz d]))))))) : wp (zl6 i p fk fv) ρ K:=⟨_,by
 unfold zl6;rw [hv,Option.bind_some,h,Option.bind_some,hk,Option.bind_some,hy,Option.bind_some];show (if zax k ks=none/\ks.length < 16777216 then some (O.dT (ks++[k]) (os++[.fz d])) else none).map _=_;rw [if_pos ⟨hn,hz⟩];rfl,q⟩
noncomputable def zel (k:List Key) (y:D) : List (List Key×List D)->List (List Key×List D)
 | []=>[(k,[y])]
 | p::ws=>if p.1=k then (p.1,p.2++[y])::ws else p::zel k y ws
theorem zpp {k:List Key} {y:D} : ∀ {ws:List (List Key×List D)},zax k (ws.map (·.1))=none->zel k y ws=ws++[(k,[y])]
 | [],_=>rfl
 | p::ws,h=>by
  rw [List.map_cons] at h;unfold zax at h;split at h
  ·cases h
  ·rename_i e;unfold zel;rw [if_neg e]
   cases h' : zax k (ws.map (·.1)) with
   | none=>rw [zpp h']; rfl
   | some j=>rw [h'] at h; cases h
theorem zpq {k:List Key} {y:D} : ∀ {ws:List (List Key×List D)} {j:Nat},zax k (ws.map (·.1))=some j->∃ p,ws[j]?=some p/\p.1=k/\zel k y ws=ws.set j (p.1,p.2++[y])
 | [],_,h=>by cases h
 | p::ws,j,h=>by
  rw [List.map_cons] at h;unfold zax at h;split at h
  ·rename_i e;cases h;refine ⟨p,rfl,e,?_⟩;unfold zel;rw [if_pos e];rfl
  ·rename_i e
   cases h' : zax k (ws.map (·.1)) with
   | none=>rw [h'] at h; cases h
   | some i =>
    rw [h'] at h;cases h;obtain ⟨q,a,b,c⟩:=zpq (y:=y) h';refine ⟨q,by rw [List.getElem?_cons_succ]; exact a,b,?_⟩;unfold zel;rw [if_neg e,c];rfl
structure zb0 (c:Nat) (ws:List (List Key×List D)) : Prop where
 ln : ws.length<=c
 al : ∀ p∈ws,p.2.length<=c
theorem zb0.add {c:Nat} {ws:List (List Key×List D)} (h:zb0 c ws) (k:List Key) (y:D) : zb0 (c + 1) (zel k y ws):=by
 cases hj : zax k (ws.map (·.1)) with
 | none =>
  rw [zpp hj];refine ⟨by rw [List.length_append,List.length_singleton]; have:=h.ln; omega,fun p hp=>?_⟩
  rcases List.mem_append.mp hp with q | q
  ·have:=h.al p q; omega
  ·rw [List.mem_singleton.mp q]; exact Nat.succ_le_succ (Nat.zero_le _)
 | some j =>
  obtain ⟨p,e1,_,e2⟩:=zpq (y:=y) hj;rw [e2];refine ⟨by rw [List.length_set]; have:=h.ln; omega,fun q hq=>?_⟩
  rcases List.mem_or_eq_of_mem_set hq with z | z
  ·have:=h.al q z; omega
  ·rw [z];have:=h.al p (List.mem_of_getElem? e1);show (p.2++[y]).length<=_;rw [List.length_append,List.length_singleton]; omega
theorem zwa {ks:List (List Key)} {os:List O} {k:List Key} {d:D} (h:zax k ks=none) (hz:ks.length < 16777216) : (O.dT ks os).apdK k d=some (.dT (ks++[k]) (os++[.lst [.fz d]])):=by
 unfold O.apdK;dsimp only;rw [h];exact if_pos hz
theorem zwb {ks:List (List Key)} {os:List O} {k:List Key} {d:D} {j:Nat} {o1 o2:O} (h:zax k ks=some j) (h1:os[j]?=some o1) (h2:o1.appd d=some o2) : (O.dT ks os).apdK k d=some (.dT ks (os.set j o2)):=by
 unfold O.apdK;dsimp only;rw [h];dsimp only;rw [h1,Option.bind_some,h2];rfl
theorem zwd {ds:List D} {y:D} (h:ds.length < 16777216) : (lsO ds).appd y=some (lsO (ds++[y])):=by
 unfold lsO O.appd;dsimp only;rw [List.length_map,if_pos h,List.map_append];rfl
theorem zv9 {c:Nat} {ws:List (List Key×List D)} (h:zb0 c ws) (hc:c < 16777216) (k:List Key) (y:D) : (wsO ws).apdK k y=some (wsO (zel k y ws)):=by
 unfold wsO
 cases hj : zax k (ws.map (·.1)) with
 | none =>
  rw [zwa hj (by rw [List.length_map]; have:=h.ln; omega),zpp hj,List.map_append,List.map_append]
  rfl
 | some j =>
  obtain ⟨p,e1,_,e2⟩:=zpq (y:=y) hj;rw [zwb hj (o1:=lsO p.2) (by rw [List.getElem?_map,e1]; rfl) (zwd (by have:=h.al p (List.mem_of_getElem? e1); omega)),e2,List.map_set,List.map_set];dsimp only;rw [zml (l:=ws.map (·.1)) (k:=j) (x:=p.1) (by rw [List.getElem?_map,e1]; rfl)]
theorem z8g {c:Nat} {i j:Nat} {p:Xp} {g:List Sl->Option D} {ρ:List Sl} {ws:List (List Key×List D)} {y d:D} {k:List Key} {R:O->O} {K:Fl->Prop} (h:p ρ=some (wsO ws,R)) (hg:g ρ=some y) (hy:zh6 y=some k) (hj:zab j ρ=some d) (ok:zb0 c ws) (hc:c < 16777216) (q:K (.nx (ρ.set i (.deep (R (wsO (zel k d ws))))))) : wp (zl4 i j p g) ρ K:=⟨_,by
 unfold zl4;rw [h,Option.bind_some,hg,Option.bind_some,hy,Option.bind_some,hj,Option.bind_some];dsimp only;rw [zv9 ok hc];rfl,q⟩
theorem z1l {i:Nat} {cn fl:Str} {m:MTf} {f:Xa} {ρ ρ1:List Sl} {l:Addr} {o0 o o':O} {ds:List D} {d:D} (h:ρ[i]?=some (.deep (.at l o0))) (hi:o0.isIns cn fl=true) (hf:f ρ=some (ds,ρ1)) (h1:ρ1[i]?=some (.deep (.at l o))) (hm:m l ds o=some (o',d)) : zhm i cn fl m f ρ=some (d,ρ1.set i (.deep (.at l o'))):=by
 unfold zhm;rw [h];show (if o0.isIns cn fl=true then _ else none)=_;rw [if_pos hi,hf,Option.bind_some];dsimp only;rw [h1];show (m l ds o).map _=_;rw [hm];rfl
theorem z0x {cn:Str} {m:MTf} {fa:List Sl->Option (List D)} {ρ:List Sl} {ds:List D} {o:O} (h:fa ρ=some ds) (hm:∀ l,m l ds (.ins cn [] [])=some (o,.non)) : zjm cn m fa ρ=some o:=by
 unfold zjm;rw [h,Option.bind_some];have hx : ∃ o,∀ l,m l ds (.ins cn [] [])=some (o,.non):=⟨o,hm⟩;rw [dif_pos hx];have:=hx.choose_spec 0;rw [hm 0] at this;exact congrArg some (Prod.mk.inj (Option.some.inj this)).1.symm
theorem z7r {cn fl:Str} {z:List Sl->Option O} {m:MTf} {ρ:List Sl} {o o':O} {d:D} (h:z ρ=some o) (hi:o.isIns cn fl=true) (hm:∀ l,m l [] o=some (o',d)) : zj6 cn fl z m ρ=some d:=by
 unfold zj6;rw [h,Option.bind_some,if_pos hi];have hx : ∃ q,∀ l,m l [] o=some q:=⟨_,hm⟩;rw [dif_pos hx];have:=hx.choose_spec 0;rw [hm 0] at this;exact congrArg some (congrArg Prod.snd (Option.some.inj this)).symm
noncomputable def zsl (l:Addr) (Q:O->D->Prop) (r:Fl) : Prop:=match r with
 | .nx ρ=>∃ o,ρ[0]?=some (.deep (.at l o))/\Q o .non
 | .rtS d ρ=>∃ o,ρ[0]?=some (.deep (.at l o))/\Q o d
 | _=>False
theorem z8k {N:Nat} {F:List Sl->Option Fl} {l:Addr} {ds:List D} {o:O} {Q:O->D->Prop} (h:wp F (zjs N l ds o) (zsl l Q)) : ∃ o' d,zgo N F l ds o=some (o',d)/\Q o' d:=by
 obtain ⟨r,e,q⟩:=h;unfold zgo;rw [e,Option.bind_some]
 cases r with
 | nx ρ=>obtain ⟨o',e1,q⟩:=q; exact ⟨o',.non,by dsimp only; rw [zvl e1]; rfl,q⟩
 | rtS d ρ=>obtain ⟨o',e1,q⟩:=q; exact ⟨o',d,by dsimp only; rw [zvl e1]; rfl,q⟩
 | _=>exact q.elim
theorem zpv {N:Nat} {F:List Sl->Option Fl} {l:Addr} {ds:List D} {o o':O} {d:D} (h:wp F (zjs N l ds o) (zsl l fun x y=>x=o'/\y=d)) : zgo N F l ds o=some (o',d):=by
 obtain ⟨a,b,e,rfl,rfl⟩:=z8k h;exact e
theorem zvx {f:List Sl->Option D} {ρ:List Sl} {d:D} {K:Fl->Prop} (h:f ρ=some d) (k:K (.rtS d ρ)) : wp (zhn f) ρ K:=⟨_,by unfold zhn; rw [h]; rfl,k⟩
theorem zgu {i:Nat} {cn f:Str} {p:Xp} {g:List Sl->Option O} {ρ:List Sl} {x o2:O} {q:O×(O->O)} {K:Fl->Prop} (hg:g ρ=some x) (h:p ρ=some q) (hs:q.1.setF cn f x=some o2) (k:K (.nx (ρ.set i (.deep (q.2 o2))))) : wp (ze2 i cn f p g) ρ K:=⟨_,by
 unfold ze2;rw [hg,Option.bind_some,h,Option.bind_some,hs];rfl,k⟩
theorem zvt {f:Xe} {ρ ρ':List Sl} {d:D} {K:Fl->Prop} (h:f ρ=some (d,ρ')) (k:K (.nx ρ')) : wp (zgh f) ρ K:=⟨_,by unfold zgh; rw [h]; rfl,k⟩
theorem zmt {f:List Sl->Option (List D)} {ρ:List Sl} {ds:List D} (h:f ρ=some ds) : zgw f ρ=some (lsO ds):=by unfold zgw lsO; rw [h]; rfl
theorem zvy {f:List Sl->Option D} {ρ:List Sl} {d:D} (h:f ρ=some d) : zFz f ρ=some (.fz d):=by unfold zFz; rw [h]; rfl
theorem z61 {f:List Sl->Option D} {ρ:List Sl} {ns:List Int} (h:f ρ=some (.lst (ns.map D.int))) (h1:ns.length < 4000) (h2:(zbs ns).length < 64) : zj5 f ρ=some ((zbs ns).map D.int):=by
 unfold zj5;rw [h,Option.bind_some];show (zsD (ns.map D.int)).bind _=_;rw [zvz,Option.bind_some,if_pos ⟨h1,h2⟩]
theorem zu8 {n:Nat} {ns:List Int} (h:∀ x∈ns,0<=x/\x < (n:Int)) : (zbs ns).length<=n:=by
 have nd : (zbs ns).Nodup:=(zmc ns).imp fun h=>Int.ne_of_lt h
 by_cases hl : (zbs ns).length<=n
 ·exact hl
 ·have hs : ∀ x∈zbs ns,x∈(List.range n).map fun (i:Nat)=>(i:Int):=fun x hx=>by
   obtain ⟨a,b⟩:=h x ((zlz x ns).mp hx);exact List.mem_map.mpr ⟨x.toNat,List.mem_range.mpr (by omega),by omega⟩
  have p:=zkb (zbs ns) _ nd hs (by rw [List.length_map,List.length_range]; omega);have:=p.length_eq;rw [List.length_map,List.length_range] at this;omega
theorem zti {n : Nat} {p : Prt} (h : p.Ok n) : ∀ x∈nmP p, 0<=x/\x < (n : Int) := fun x hx => by
  cases p with
  | inn t => have : x = t := by simpa [nmP] using hx
             subst this; exact h
  | out t => have : x = t := by simpa [nmP] using hx
             subst this; exact h
  | least k its => obtain ⟨z, hz, rfl⟩ := List.mem_map.mp hx; exact ⟨(h.1 z hz).1, (h.1 z hz).2.1⟩
  | most k its => obtain ⟨z, hz, rfl⟩ := List.mem_map.mp hx; exact ⟨(h.1 z hz).1, (h.1 z hz).2.1⟩
noncomputable def nmL : Prt->List Int
 | .inn t=>[t]
 | .out t=>[t]
 | .least _ its=>zbs (its.map (·.1))
 | .most _ its=>zbs (its.map (·.1))
noncomputable def zpr : Prt->Bool
 | .inn _=>true
 | .out _=>false
 | .least _ _=>true
 | .most _ _=>false
theorem zow {n:Nat} {p:Prt} (h:p.Ok n) (hn:n<=60) : (nmL p).length < 64:=by
 cases p with
 | inn t=>show 1 < 64; decide
 | out t=>show 1 < 64; decide
 | least k its=>have:=zu8 (zti h); show (zbs (its.map (·.1))).length < 64; exact Nat.lt_of_le_of_lt this (by omega)
 | most k its=>have:=zu8 (zti h); show (zbs (its.map (·.1))).length < 64; exact Nat.lt_of_le_of_lt this (by omega)
theorem zvj {its:List (Int×Int)} (h1:its.length<=1000) (h2:(zbs (its.map (·.1))).length < 64) : zlt [.lst (its.map itD)]=some (.lst ((zbs (its.map (·.1))).map D.int)):=by
 refine zpc (congrArg (Option.map Fl.rtO) (z61 (zb4 ?_) (by rw [List.length_map]; omega) h2));rw [List.map_map];exact zfu its itD (fun z=>D.int z.1) rfl (by omega) fun z _=>zek rfl rfl rfl
theorem z1v {n:Nat} {fo:List Sl->Option D} {ρ:List Sl} (p:Prt) (h:p.Ok n) (hn:n<=60) (hf:(nmP p).length<=1000) (ho:fo ρ=some p.obj) :
  zb8 (zbl "In" "named" m_14 fo fun _=>some []) (zb8 (zbl "Out" "named" m_16 fo fun _=>some []) (zb8 (zbl "Least" "named" m_18 fo fun _=>some []) (zbl "Most" "named" m_20 fo fun _=>some []))) ρ=some (.lst ((nmL p).map D.int)):=by
 have hl:=zow h hn
 cases p with
 | inn t=>exact zf1 ((zeh ho rfl rfl).trans rfl)
 | out t=>exact zc2 (zc0 ho (by decide)) (zf1 ((zeh ho rfl rfl).trans rfl))
 | least k its =>
  have e:=zvj (its:=its) (by simpa [nmP] using hf) hl
  exact zc2 (zc0 ho (by decide)) (zc2 (zc0 ho (by decide)) (zf1 ((zeh ho rfl rfl).trans (zdv (zdu (zbk rfl e))))))
 | most k its =>
  have e:=zvj (its:=its) (by simpa [nmP] using hf) hl;exact zc2 (zc0 ho (by decide)) (zc2 (zc0 ho (by decide)) (zc2 (zc0 ho (by decide)) ((zeh ho rfl rfl).trans (zdv (zdu (zbk rfl e))))))
theorem z8b {fo:List Sl->Option D} {ρ:List Sl} (p:Prt) (ho:fo ρ=some p.obj) :
  zb8 (zbl "In" "wants" m_15 fo fun _=>some []) (zb8 (zbl "Out" "wants" m_17 fo fun _=>some []) (zb8 (zbl "Least" "wants" m_19 fo fun _=>some []) (zbl "Most" "wants" m_21 fo fun _=>some []))) ρ=some (.bl (zpr p)):=by
 cases p with
 | inn t=>exact zf1 ((zeh ho rfl rfl).trans rfl)
 | out t=>exact zc2 (zc0 ho (by decide)) (zf1 ((zeh ho rfl rfl).trans rfl))
 | least k its=>exact zc2 (zc0 ho (by decide)) (zc2 (zc0 ho (by decide)) (zf1 ((zeh ho rfl rfl).trans rfl)))
 | most k its=>exact zc2 (zc0 ho (by decide)) (zc2 (zc0 ho (by decide)) (zc2 (zc0 ho (by decide)) ((zeh ho rfl rfl).trans rfl)))
noncomputable abbrev Wss:=List (List Key×List D)
noncomputable def zl7 (t:Int) (b:Bool) : List Key:=[.inl t,.inl (cond b 1 0)]
noncomputable def zvs (y:D) (ws:Wss) (p:Prt) : Wss:=(nmL p).foldl (fun ws t=>zel (zl7 t (zpr p)) y ws) ws
noncomputable def zjj (y:D) (ps:List Prt) (ws:Wss) : Wss:=ps.foldl (zvs y) ws
theorem zb0.ts {c:Nat} {b:Bool} {y:D} : ∀ (ts:List Int) {ws:Wss},zb0 c ws->zb0 (c + ts.length) (ts.foldl (fun ws t=>zel (zl7 t b) y ws) ws)
 | [],_,h=>h
 | t::ts,ws,h=>by
  have:=zb0.ts (c:=c + 1) (b:=b) (y:=y) ts (h.add (zl7 t b) y);rw [List.length_cons,show c + (ts.length + 1)=c + 1 + ts.length by omega];exact this
theorem zb0.le {c c':Nat} {ws:Wss} (h:zb0 c ws) (hc:c<=c') : zb0 c' ws:=⟨Nat.le_trans h.ln hc,fun p hp=>Nat.le_trans (h.al p hp) hc⟩
noncomputable def PrK (n:Nat) (p:Prt) : Prop:=p.Ok n/\(nmP p).length<=1000
theorem zb0.prt {c n:Nat} {y:D} {p:Prt} {ws:Wss} (h:zb0 c ws) (hp:PrK n p) (hn:n<=60) : zb0 (c + 64) (zvs y ws p):=by
 have:=zow hp.1 hn;exact (zb0.ts (nmL p) h).le (by omega)
theorem zb0.reg {n:Nat} {y:D} (hn:n<=60) : ∀ {ps:List Prt} {c:Nat} {ws:Wss},(∀ p∈ps,PrK n p)->zb0 c ws->zb0 (c + 64 * ps.length) (zjj y ps ws)
 | [],_,_,_,h=>h
 | p::ps,c,ws,hp,h=>by
  have:=zb0.reg (y:=y) hn (ps:=ps) (fun q hq=>hp q (List.mem_cons_of_mem _ hq)) (h.prt (y:=y) (hp p List.mem_cons_self) hn);rw [List.length_cons,show c + 64 * (ps.length + 1)=c + 64 + 64 * ps.length by omega];exact this
noncomputable def zvi (s:Spr) (y:D) (k:List Key) (ps:List Prt) : Spr:={ s with gk:=s.gk++[k],gd:=s.gd++[.lst (ps.map Prt.obj)],ws:=zjj y ps s.ws,wt:=s.wt++[y] }
theorem zyv (ds:List D) (d:D) : ds.map O.fz++[.fz d]=(ds++[d]).map .fz:=by rw [List.map_append]; rfl
theorem z7q {n c:Nat} {l:Addr} {y:D} {k:List Key} (s:Spr) (ps:List Prt) (hy:zh6 y=some k) (hk:zax k s.gk=none) (hg:s.gk.length < 16777216) (hp:∀ p∈ps,PrK n p) (hn:n<=60) (hw:zb0 c s.ws) (hc:c + 64 * ps.length < 16777216) (hz:s.wt.length < 16777216) (hpl:ps.length<=100000) :
  m_4 l [y,.lst (ps.map Prt.obj)] s.o=some ((zvi s y k ps).o,.non):=by
 apply zpv;unfold b_4;show wp _ [.deep (.at l s.o),.im y,.im (.lst (ps.map Prt.obj)),.no,.no] _;apply zat;refine z8i rfl zyl rfl hy hk hg ?_;rw [zyv]
 show wp _ [.deep (.at l ({ s with gk:=s.gk++[k],gd:=s.gd++[.lst (ps.map Prt.obj)] } : Spr).o),.im y,.im (.lst (ps.map Prt.obj)),.no,.no] _
 apply zat
 refine zdw ps Prt.obj (fun pre ρ=>∃ v3 v4,ρ=[.deep (.at l ({ s with gk:=s.gk++[k],gd:=s.gd++[.lst (ps.map Prt.obj)],ws:=zjj y pre s.ws } : Spr).o),.im y,.im (.lst (ps.map Prt.obj)),v3,v4]) rfl ⟨_,_,rfl⟩ ?_ ?_
 ·rintro pre p post ρ ex ⟨v3,v4,rfl⟩;have hpm : p∈ps:=by rw [ex]; simp
  have hpk:=hp p hpm;have hpl' : pre.length < ps.length:=by rw [ex]; simp
  have okp : zb0 (c + 64 * pre.length) (zjj y pre s.ws):=zb0.reg hn (fun q hq=>hp q (by rw [ex]; simp [hq])) hw;have hnl:=zow hpk.1 hn;refine ⟨_,rfl,?_⟩;walk_at "nrm"
  refine zdw (nmL p) D.int (fun pr ρ=>∃ v4,ρ=[.deep (.at l ({ s with gk:=s.gk++[k],gd:=s.gd++[.lst (ps.map Prt.obj)],ws:=pr.foldl (fun ws t=>zel (zl7 t (zpr p)) y ws) (zjj y pre s.ws) } : Spr).o),.im y,.im (.lst (ps.map Prt.obj)),.im p.obj,v4]) (ze4 (z1v p hpk.1 hn hpk.2 rfl) rfl) ⟨_,rfl⟩ ?_ ?_
  ·rintro pr t po ρ ex2 ⟨v4,rfl⟩;have hpr : pr.length < (nmL p).length:=by rw [ex2]; simp
   refine ⟨_,rfl,?_⟩;walk_at "nrm";refine z8g zyo (ze6 (zas rfl (zas (z8b p rfl) rfl))) rfl rfl (zb0.ts pr okp) (by omega) ?_;refine ⟨.im (.int t),?_⟩;rw [List.foldl_append];rfl
  ·rintro ρ ⟨v4,rfl⟩;refine ⟨.im p.obj,v4,?_⟩;unfold zjj;rw [List.foldl_append];rfl
 ·rintro ρ ⟨v3,v4,rfl⟩;refine z8h zyn rfl hz ?_;exact ⟨_,rfl,rfl,rfl⟩
noncomputable def mkD (r:Rul) : D:=.tup [.int r.hd,.lst (r.ps.map Prt.obj)]
noncomputable def zf0 (rs:List Rul) : List Rul:=rs.filter fun r=>r.w != .never
noncomputable def grd (r:Rul) : List Prt:=match r.w with
 | .may=>[.least 1 []]
 | .make=>r.ps++[.out r.hd]
 | .never=>r.ps
structure RuK (n:Nat) (r:Rul) : Prop where
 ok : r.Ok n
 nm : ∀ p∈r.ps,(nmP p).length<=1000
 len : r.ps.length<=1000
theorem zrz {n:Nat} {r:Rul} (h:RuK n r) : ∀ p∈grd r,PrK n p:=fun p hp=>by
 obtain ⟨w,hd,ps⟩:=r
 cases w with
 | may =>
  have : p=.least 1 []:=by simpa [grd] using hp
  subst this
  exact ⟨⟨(fun z hz=>nomatch hz),Nat.zero_le _⟩,Nat.zero_le _⟩
 | make =>
  rcases List.mem_append.mp (show p∈ps++[Prt.out hd] from hp) with q | q
  ·exact ⟨h.ok.ps p q,h.nm p q⟩
  ·rw [List.mem_singleton.mp q]
   exact ⟨h.ok.hd (fun z=>by cases z),by show 1<=1000; decide⟩
 | never=>exact ⟨h.ok.ps p hp,h.nm p hp⟩
theorem zry {n:Nat} {r:Rul} (h:RuK n r) : (grd r).length<=1001:=by
 obtain ⟨w,hd,ps⟩:=r;have hl : ps.length<=1000:=h.len
 cases w with
 | may=>show 1<=1001; decide
 | make=>show (ps++[Prt.out hd]).length<=1001; rw [List.length_append,List.length_singleton]; omega
 | never=>show ps.length<=1001; omega
theorem zqd {n:Nat} (r:Rul) (h:r.Ok n) : o_1 [r.toD]=some (r.ps.map Prt.obj) :=
 zup (congrArg (Option.map Fl.rtO) (zfu r.ps Prt.toD Prt.obj rfl (by have:=h.len; omega) fun p _=>zek rfl rfl (zbk rfl (zt2 p))))
theorem zy6 {n:Nat} (r:Rul) (h:RuK n r) : zlv [r.toD]=some (.lst ((grd r).map Prt.obj)):=by
 have eb:=zqe r h.ok;have hl:=h.len;apply zgv;unfold b_26;obtain ⟨w,hd,ps⟩:=r
 cases w with
 | may =>
  show wp _ [.im (Rul.toD ⟨.may,hd,ps⟩),.no] _;apply zat;refine zca (b:=true) rfl (fun _=>?_) (fun z=>by cases z)
  first | exact zvw rfl (zh5 rfl) | exact ze8 rfl (zc6 rfl)
 | make =>
  show wp _ [.im (Rul.toD ⟨.make,hd,ps⟩),.no] _;apply zat;refine zca (b:=false) rfl (fun z=>by cases z) (fun _=>zcn ?_);walk_at "nrm";apply zat
  refine zfr (d:=ps.map Prt.obj) (by first | exact zm6 rfl (zqd ⟨.make,hd,ps⟩ h.ok) | exact eb) ?_
  walk_at "nrm";apply zat;refine zca (b:=true) rfl (fun _=>?_) (fun z=>by cases z);refine zgt (d:=(Prt.out hd).obj) rfl rfl (by rw [List.length_map]; show ps.length < _; have : ps.length<=1000:=hl; omega) ?_;walk_at "nrm";refine zkp rfl (zh5 ?_);show D.lst (ps.map Prt.obj++[(Prt.out hd).obj])=D.lst ((ps++[Prt.out hd]).map Prt.obj);rw [List.map_append]
  rfl
 | never =>
  show wp _ [.im (Rul.toD ⟨.never,hd,ps⟩),.no] _;apply zat;refine zca (b:=false) rfl (fun z=>by cases z) (fun _=>zcn ?_);walk_at "nrm";apply zat
  refine zfr (d:=ps.map Prt.obj) (by first | exact zm6 rfl (zqd ⟨.never,hd,ps⟩ h.ok) | exact eb) ?_
  walk_at "nrm";apply zat;refine zca (b:=false) rfl (fun z=>by cases z) (fun _=>zcn ?_);walk_at "nrm";exact zkp rfl (zh5 rfl)
noncomputable def zke (i:Nat) : D:=.tup [.str "rule",.int i]
noncomputable def zgn (i:Nat) : List Key:=[.inr "rule",.inl i]
theorem z5p {i j:Nat} (h:zgn i=zgn j) : i=j:=by
 unfold zgn at h;have h2:=List.cons.inj (List.cons.inj h).2;have:=Sum.inl.inj h2.1;omega
theorem zsj {α : Type} [DecidableEq α] {f:α} : ∀ {ns:List α},f∉ns->zax f ns=none
 | [],_=>rfl
 | n::ns,h=>by
  unfold zax;rw [if_neg (fun e=>h (by rw [e]; exact List.mem_cons_self)),zsj (fun q=>h (List.mem_cons_of_mem _ q))];rfl
noncomputable def sp0 (es:List (Option Bool)) (rs:List Rul) : Spr:=⟨es,[],[],[],[],[],[],.lst ((zf0 rs).map mkD)⟩
noncomputable def ze5 (s:Spr) (p:Nat×Rul) : Spr:=zvi s (zke p.1) (zgn p.1) (grd p.2)
structure SpK (n i c:Nat) (s:Spr) : Prop where
 gk : s.gk=(List.range i).map zgn
 gl : s.gd.length=i
 ws : zb0 c s.ws
 wt : s.wt=(List.range i).map zke
theorem SpK.step {n i c:Nat} {s:Spr} {r:Rul} (h:SpK n i c s) (hr:RuK n r) (hn:n<=60) : SpK n (i + 1) (c + 65000) (ze5 s (i,r)):=by
 refine ⟨?_,?_,?_,?_⟩
 ·show s.gk++[zgn i]=_;rw [List.range_succ,List.map_append,h.gk]; rfl
 ·show (s.gd++[_]).length=_;rw [List.length_append,h.gl]; rfl
 ·have:=zb0.reg (y:=zke i) hn (zrz hr) h.ws;have hl:=zry hr;exact this.le (by omega)
 ·show s.wt++[zke i]=_;rw [List.range_succ,List.map_append,h.wt]; rfl
theorem SpK.fresh {n i c:Nat} {s:Spr} (h:SpK n i c s) : zax (zgn i) s.gk=none:=zsj fun q=>by
 rw [h.gk] at q;obtain ⟨j,hj,e⟩:=List.mem_map.mp q;have:=z5p e;subst this;exact Nat.lt_irrefl _ (List.mem_range.mp hj)
noncomputable def ze0 : Nat->List Rul->List (Nat×Rul)
 | _,[]=>[]
 | i,r::rs=>(i,r)::ze0 (i + 1) rs
theorem zto : ∀ (i:Nat) (rs:List Rul),zfl i (rs.map Rul.toD)=(ze0 i rs).map fun p=>D.tup [.int p.1,p.2.toD]
 | _,[]=>rfl
 | i,r::rs=>by rw [List.map_cons,zfl,zto (i + 1) rs]; rfl
theorem zox : ∀ (i:Nat) (rs:List Rul) (j:Nat),(ze0 i rs)[j]?=(rs[j]?).map fun r=>(i + j,r)
 | _,[],_=>rfl
 | i,r::rs,0=>rfl
 | i,r::rs,j + 1=>by rw [ze0,List.getElem?_cons_succ,List.getElem?_cons_succ,zox (i + 1) rs j,show i + 1 + j=i + (j + 1) by omega]
theorem ztn {rs:List Rul} {pre post:List (Nat×Rul)} {p:Nat×Rul} (h:ze0 0 rs=pre++p::post) : p.1=pre.length/\p.2∈rs/\pre.length < rs.length:=by
 have h1 : (ze0 0 rs)[pre.length]?=some p:=by rw [h,List.getElem?_append_right (Nat.le_refl _),Nat.sub_self]; rfl
 rw [zox] at h1
 cases hr : rs[pre.length]? with
 | none=>rw [hr] at h1; cases h1
 | some r =>
  rw [hr] at h1;cases h1;exact ⟨Nat.zero_add _,List.mem_of_getElem? hr,(List.getElem?_eq_some_iff.mp hr).1⟩
noncomputable def pl0 (n:Int) (rs:List Rul) : D:=.tup [.int n,.lst (rs.map Rul.toD)]
theorem z1s {n:Nat} {rs:List Rul} {fi:List Sl->Option (List D)} {ρ:List Sl} (hi:fi ρ=some (rs.map Rul.toD)) (hok:∀ r∈rs,r.Ok n) (hz:rs.length<=1000) :
  zbh 1 [] fi (zaw 0) (mB (m2 zec (mIx (zag 0) (fun _=>some (.int 1))) (fun _=>some .non))) (zbo (zaa (mIx (zag 0) (fun _=>some (.int 1))) (zaa (zay m_1 (zaa (zab 0) (fun _=>some []))) (fun _=>some [])))) ρ=some ((zf0 rs).map mkD):=by
 refine zg7 rs Rul.toD (fun r=>r.w != .never) mkD hi (by omega) fun r hr=>?_;have eb:=zqe r (hok r hr);obtain ⟨w,hd,ps⟩:=r
 cases w with
 | never=>exact zfq rfl rfl fun z=>by cases z
 | make=>exact zfq rfl rfl fun _=>ze6 (zas rfl (zas (zbk rfl eb) rfl))
 | may=>exact zfq rfl rfl fun _=>ze6 (zas rfl (zas (zbk rfl eb) rfl))
theorem zqk {f:List Sl->Option D} {g:Xa} {ρ:List Sl} {d:D} {ds:List D} (h:f ρ=some d) (h':g ρ=some (ds,ρ)) : zfy (mX f) g ρ=some (d::ds,ρ):=by
 unfold zfy mX;rw [h];show (g ρ).map _=_;rw [h'];rfl
theorem zyj {f:List Sl->Option (List D)} {ρ:List Sl} {xs:List D} (h:f ρ=some [.lst xs]) : zfi f ρ=some (zfl 0 xs):=by
 unfold zfi;rw [h];rfl
noncomputable def spI (es:List (Option Bool)) (rs:List Rul) : Spr:=(ze0 0 rs).foldl ze5 (sp0 es rs)
theorem zrr : ∀ (ps:List (Nat×Rul)) (s:Spr),(ps.foldl ze5 s).es=s.es/\(ps.foldl ze5 s).mks=s.mks/\(ps.foldl ze5 s).st=s.st/\(ps.foldl ze5 s).bs=s.bs
 | [],s=>⟨rfl,rfl,rfl,rfl⟩
 | p::ps,s=>zrr ps (ze5 s p)
theorem z6z (es:List (Option Bool)) (rs:List Rul) : (spI es rs).es=es/\(spI es rs).mks=.lst ((zf0 rs).map mkD)/\(spI es rs).st=[]/\(spI es rs).bs=[]:=zrr _ _
theorem SpK.foldT {n:Nat} (hn:n<=60) {es:List (Option Bool)} {rs:List Rul} (hr:∀ r∈rs,RuK n r) : ∀ (k:Nat),k<=rs.length->SpK n k (65000 * k) (((ze0 0 rs).take k).foldl ze5 (sp0 es rs))
 | 0,_=>⟨rfl,rfl,⟨Nat.zero_le _,fun _ h=>nomatch h⟩,rfl⟩
 | k + 1,h=>by
  have hg : (ze0 0 rs)[k]?=some (k,rs[k]):=by rw [zox,List.getElem?_eq_getElem h]; simp
  have:=(SpK.foldT hn (es:=es) hr k (Nat.le_of_succ_le h)).step (hr rs[k] (List.getElem_mem h)) hn;rw [List.take_succ,hg,List.foldl_append,show 65000 * (k + 1)=65000 * k + 65000 by omega];exact this
theorem SpK.fold {n:Nat} (hn:n<=60) {es:List (Option Bool)} {rs:List Rul} (hr:∀ r∈rs,RuK n r) {pre post:List (Nat×Rul)} {p:Nat×Rul} (h:ze0 0 rs=pre++p::post) : SpK n pre.length (65000 * pre.length) (pre.foldl ze5 (sp0 es rs)):=by
 have:=SpK.foldT hn (es:=es) hr pre.length (Nat.le_of_lt (ztn h).2.2);rw [h,List.take_left' rfl] at this;exact this
theorem zzk {n:Nat} {l:Addr} {v:Int} {es:List (Option Bool)} {rs:List Rul} {bars:List D} {K:Fl->Prop} (hn:n<=60) (hr:∀ r∈rs,RuK n r) (hz:rs.length<=250)
  (k:∀ v4 v5,K (.nx [.deep (.at l (spI es rs).o),.im (pl0 v rs),.im (.lst bars),.im (.lst (es.map shD)),v4,v5,.no])) :
  wp (zct (zfi (zaa (mIx (zag 1) (fun _=>some (.int 1))) (fun _=>some []))) (zdi (zbx (zaw 5) (zbx (zaw 4) zd3))) (zgh (zhm 0 "Spreading" "take_guard" m_4 (zfy (mX (zbo (zaa (fun _=>some (.str "rule")) (zaa (zab 5) (fun _=>some []))))) (zfy (mX (zay zlv (zaa (zab 4) (fun _=>some [])))) zob)))))
   [.deep (.at l (sp0 es rs).o),.im (pl0 v rs),.im (.lst bars),.im (.lst (es.map shD)),.no,.no,.no] K:=by
 refine zdw (ze0 0 rs) (fun p=>D.tup [.int p.1,p.2.toD]) (fun pre ρ=>∃ v4 v5,ρ=[.deep (.at l (pre.foldl ze5 (sp0 es rs)).o),.im (pl0 v rs),.im (.lst bars),.im (.lst (es.map shD)),v4,v5,.no]) ?_ ⟨_,_,rfl⟩ ?_ ?_
 ·rw [<- zto];exact zyj (zas (za0 rfl rfl rfl) rfl)
 ·rintro pre p post ρ ex ⟨v4,v5,rfl⟩;obtain ⟨e1,e2,e3⟩:=ztn ex;have sk:=SpK.fold (es:=es) hn hr ex;have hrk:=hr p.2 e2;have hg:=zy6 p.2 hrk;have hgl:=zry hrk;have tg:=z7q (l:=l) (y:=zke p.1) (k:=zgn p.1) (pre.foldl ze5 (sp0 es rs)) (grd p.2) rfl (by rw [e1]; exact sk.fresh) (by rw [sk.gk,List.length_map,List.length_range]; omega) (zrz hrk) hn sk.ws (by omega) (by rw [sk.wt,List.length_map,List.length_range]; omega) (by omega);refine ⟨_,rfl,?_⟩;walk_at "nrm";refine zvt (z1l rfl rfl (zqk rfl (zqk (zbk rfl hg) rfl)) rfl tg) ?_;refine ⟨.im p.2.toD,.im (.int p.1),?_⟩;rw [List.foldl_append];rfl
 ·rintro ρ ⟨v4,v5,rfl⟩;exact k v4 v5
theorem zzj {n:Nat} {v:Int} {es:List (Option Bool)} {rs:List Rul} (hn:n<=60) (hr:∀ r∈rs,RuK n r) (hz:rs.length<=250) (l:Addr) : zoc l [pl0 v rs,.lst [],.lst (es.map shD)] (.ins "Spreading" [] [])=some ((spI es rs).o,.non):=by
 apply zpv;unfold b_22;show wp _ [.deep (.at l (.ins "Spreading" [] [])),.im (pl0 v rs),.im (.lst []),.im (.lst (es.map shD)),.no,.no,.no] _;apply zat;refine zgu (zmt (ds:=es.map shD) rfl) rfl rfl ?_;apply zat;refine zgu (zmt (ds:=[]) rfl) rfl rfl ?_;apply zat;refine zgu (zmt (ds:=[]) rfl) rfl rfl ?_;apply zat;refine zgu rfl rfl rfl ?_;apply zat;refine zgu rfl rfl rfl ?_;apply zat;refine zgu (zmt (ds:=[]) rfl) rfl rfl ?_;apply zat;refine zgu (zvy (zb4 (z1s (n:=n) (ze4 (za0 rfl rfl rfl) rfl) (fun r h=>(hr r h).ok) (by omega)))) rfl rfl ?_;show wp _ [.deep (.at l (sp0 es rs).o),.im (pl0 v rs),.im (.lst []),.im (.lst (es.map shD)),.no,.no,.no] _;apply zat;refine zzk hn hr hz fun v4 v5=>?_;show wp _ _ _;refine zdw ([] : List Nat) (fun _=>D.non) (fun _ ρ=>ρ=[.deep (.at l (spI es rs).o),.im (pl0 v rs),.im (.lst []),.im (.lst (es.map shD)),v4,v5,.no]) rfl rfl ?_ ?_
 ·rintro pre x post ρ ex;simp at ex
 ·rintro ρ rfl;exact ⟨_,rfl,rfl,rfl⟩
noncomputable def plD (n:Int) (rs:List Rul) : D:=.tup [.int n,.lst (rs.map Rul.toD)]
noncomputable def hup (es:List (Option Bool)) (wo:List Bool) (r:Rul) : Bool:=r.w != .never && (wo.getD r.hd.toNat false && !(r.bodyLost es wo))
theorem znv {r:Rul} (h:r.w≠.never) : atI [.str r.w.s,r.hdD,.lst (r.ps.map Prt.toD)] 1=some (.int r.hd):=by
 obtain ⟨w,hd,ps⟩:=r
 cases w <;> first | rfl | exact absurd rfl h
theorem zms {r:Rul} (h:r.w≠.never) : (r.w != .never)=true:=by
 obtain ⟨w,hd,ps⟩:=r
 cases w <;> first | rfl | exact absurd rfl h
theorem z0f {es:List (Option Bool)} {wo:List Bool} (p:Prt) (h:p.Ok es.length) (hw:wo.length=es.length) : zoi [p.toD,.lst (es.map shD),.lst (wo.map D.bl)]=some (.bl (p.lost es wo)):=by
 cases p with
 | inn t=>exact zdv (zmk (zli rfl (zdu (zpn (zbm (za0 rfl (za0 rfl rfl rfl) (zft h.1 h.2)) rfl (zhg _ _)) (za0 rfl (za0 rfl rfl rfl) (zg2 h.1 (by rw [hw]; exact h.2)))))))
 | out t=>exact zdv (zgs (zhf rfl rfl) (zmk (zli rfl (zdu (zbm (za0 rfl (za0 rfl rfl rfl) (zft h.1 h.2)) rfl (zhg _ _))))))
 | least k its =>
  refine zdv (zgs (zhf rfl rfl) (zgs (zhf rfl rfl) (zmk (zli rfl (zgs (zu1 (zb4 (zg7 its itD (fun z=>!(es.getD z.1.toNat none==some false) && !(wo.getD z.1.toNat false)) (fun z=>D.int z.2) (ze4 (za0 rfl rfl rfl) rfl) (by have:=h.2; omega) fun z hz=>?_))) (zdu (zbm (zbk rfl (zmo (fun t=>!(es.getD t.toNat none==some false) && !(wo.getD t.toNat false)) its)) (za0 rfl rfl rfl) rfl)))))));have hb:=h.1 z hz
  exact zfq rfl (zlq (zc8 (zbm (za0 rfl rfl (zft hb.1 hb.2.1)) rfl (znz _ _))) (zgj (zd6 (za0 rfl rfl (zg2 hb.1 (by rw [hw]; exact hb.2.1))) rfl))) fun _=>rfl
 | most k its =>
  refine zdv (zgs (zhf rfl rfl) (zgs (zhf rfl rfl) (zgs (zhf rfl rfl) (zdu (zbm (zbk (zas (zb4 (zg7 its itD (fun z=>es.getD z.1.toNat none==some true) (fun z=>D.int z.2) (ze4 (za0 rfl rfl rfl) rfl) (by have:=h.2; omega) fun z hz=>?_)) rfl) (zmo (fun t=>es.getD t.toNat none==some true) its)) (za0 rfl rfl rfl) rfl)))));have hb:=h.1 z hz;exact zfq rfl (zc8 (zbm (za0 rfl rfl (zft hb.1 hb.2.1)) rfl (zhg _ _))) fun _=>rfl
theorem zr1 {es:List (Option Bool)} {wo:List Bool} (r:Rul) (h:r.Ok es.length) (hw:wo.length=es.length) : zls [r.toD,.lst (es.map shD),.lst (wo.map D.bl)]=some (.bl (hup es wo r)):=by
 apply zgv;unfold b_13;show wp _ [.im r.toD,.im (.lst (es.map shD)),.im (.lst (wo.map D.bl))] _
 by_cases hn : r.w=.never
 ·apply zat;refine zca (b:=true) (zs5 (zc8 (zbm (za0 rfl rfl rfl) rfl (by rw [znc,hn]; rfl)))) (fun _=>ze8 rfl (zc6 ?_)) (fun z=>by cases z);unfold hup;rw [hn];rfl
 ·obtain ⟨h0,h1⟩:=h.hd hn
  have e0 : (r.w.s == "never")=false:=by
   obtain ⟨w,hd,ps⟩:=r
   cases w <;> first | rfl | exact absurd rfl hn
  apply zat;refine zca (b:=!(wo.getD r.hd.toNat false)) (zic (zc8 (zbm (za0 rfl rfl rfl) rfl (by rw [znc,e0]))) (zgj (zd6 (za0 rfl (za0 rfl rfl (znv hn)) (zg2 h0 (by omega))) rfl))) (fun z=>ze8 rfl (zc6 ?_)) (fun z=>zcn ?_)
  ·have z : wo.getD r.hd.toNat false=false:=by simpa using z
   unfold hup;rw [z,Bool.false_and,Bool.and_false]
  ·have z : wo.getD r.hd.toNat false=true:=by simpa using z
   walk_at "nrm";refine ze8 (zvo (zbk (zas (zb4 (zfu r.ps Prt.toD (fun p=>D.bl (p.lost es wo)) (ze4 (za0 rfl rfl rfl) rfl) (by have:=h.len; omega) fun p hp=>zek rfl rfl (zbk rfl (z0f p (h.ps p hp) hw)))) rfl) (any_map _ _))) (zc6 ?_);unfold hup;rw [z,zms hn,Bool.true_and,Bool.true_and];rfl
inductive zdy (rs:List Rul) (es:List (Option Bool)) (a:List Bool) : List Bool->Prop
 | refl : zdy rs es a a
 | step {b:List Bool} {r:Rul} : zdy rs es a b->r∈rs->hup es b r=true->zdy rs es a (b.set r.hd.toNat false)
theorem zhe (l:List Bool) (k j:Nat) : (l.set k false).getD j false=(l.getD j false && !(k==j)):=by
 rw [List.getD_eq_getElem?_getD,List.getD_eq_getElem?_getD]
 by_cases e : k=j
 ·subst e;rw [List.getElem?_set];simp
  split <;> rfl
 ·rw [List.getElem?_set_ne e];simp [e]
theorem zdy.len {rs:List Rul} {es:List (Option Bool)} {a b:List Bool} (h:zdy rs es a b) : b.length=a.length:=by
 induction h with
 | refl=>rfl
 | step _ _ _ ih=>rw [List.length_set,ih]
theorem zdy.sub {rs:List Rul} {es:List (Option Bool)} {a b:List Bool} (h:zdy rs es a b) (i:Nat) : b.getD i false=true->a.getD i false=true:=by
 induction h with
 | refl=>exact id
 | step _ _ _ ih =>
  rw [zhe];intro q;exact ih (by simpa using (Bool.and_eq_true _ _ ▸ q).1)
theorem zr2 {es:List (Option Bool)} {wo:List Bool} {r:Rul} (h:hup es wo r=true) : r.w≠.never/\wo.getD r.hd.toNat false=true/\r.bodyLost es wo=false:=by
 unfold hup at h;have : (r.w≠.never)/\(wo.getD r.hd.toNat false=true/\r.bodyLost es wo=false):=by simpa using h
 exact ⟨this.1,this.2.1,this.2.2⟩
theorem zzb {es:List (Option Bool)} {wo le:List Bool} {r:Rul} (hr:r.Ok es.length) (g:zjr le wo) (h:hup es wo r=true) (hl:le.getD r.hd.toNat false=true) : hup es le r=true:=by
 obtain ⟨a,b,c⟩:=zr2 h
 have c' : r.bodyLost es le=false:=by
  cases q : r.bodyLost es le with
  | false=>rfl
  | true =>
   obtain ⟨p,hp,lp⟩:=List.any_eq_true.mp q;have : r.bodyLost es wo=true:=List.any_eq_true.mpr ⟨p,hp,z0p (zkt.refl es) g (hr.ps p hp) lp⟩;rw [c] at this;cases this
 unfold hup;rw [zms a,hl,c'];rfl
theorem z4c {rs:List Rul} {es:List (Option Bool)} {a b le fin:List Bool} (hok:∀ r∈rs,r.Ok es.length) (h:zdy rs es a b) (hl:le.length=a.length) (h0:∀ i,le.getD i false=true->a.getD i false=true) (hf:∀ i,fin.getD i false=true->b.getD i false=true)
  (hs:∀ r∈rs,hup es le r=true->fin.getD r.hd.toNat false=true) : ∀ i,le.getD i false=true->b.getD i false=true:=by
 induction h with
 | refl=>exact h0
 | @step b r hp hr hh ih =>
  have hf' : ∀ i,fin.getD i false=true->b.getD i false=true:=fun i q=>by
   have:=hf i q;rw [zhe] at this
   simpa using (Bool.and_eq_true _ _ ▸ this).1
  have ih:=ih hf';intro i q;rw [zhe,ih i q,Bool.true_and]
  cases e : (r.hd.toNat==i) with
  | false=>rfl
  | true =>
   exfalso;have e : r.hd.toNat=i:=by simpa using e
   subst e;have w : zjr le b:=⟨by rw [hp.len,hl],ih⟩;have:=hf _ (hs r hr (zzb (hok r hr) w hh q));rw [zhe] at this;simp at this
noncomputable def ct (bs:List Bool) : Nat:=(bs.filter fun b=>b).length
theorem zw1 (bs:List Bool) : ct bs<=bs.length:=List.length_filter_le _ _
theorem zql : ∀ (bs:List Bool) (k:Nat),bs.getD k false=true->ct (bs.set k false) + 1=ct bs
 | [],k,h=>by simp at h
 | b::bs,0,h=>by
  have h : b=true:=h;subst h
  rfl
 | b::bs,k + 1,h=>by
  have ih:=zql bs k (by simpa using h)
  cases b with
  | false=>exact ih
  | true =>
   show (ct (bs.set k false) + 1) + 1=ct bs + 1;rw [ih]
theorem zu0 (bs:List Bool) (k:Nat) (b:Bool) : (bs.map D.bl).set k (.bl b)=(bs.set k b).map D.bl:=by rw [List.map_set]
noncomputable def zcu (es:List (Option Bool)) : List Bool:=es.map fun e=>!(e==some false)
theorem ztl {es:List (Option Bool)} {fi:List Sl->Option (List D)} {ρ:List Sl} (hi:fi ρ=some (es.map shD)) (hz:es.length<=1000) : zbh 1 [] fi (zaw 0) (fun _=>some true) (m2 zec (zab 0) (fun _=>some (.bl false))) ρ=some ((zcu es).map D.bl):=by
 unfold zcu;rw [<- zs8];exact zfu es shD (fun e=>D.bl (!(e==some false))) hi (by omega) fun e _=>zek rfl rfl (zbm rfl rfl (znz _ _))
theorem z10 (ws:List Bool) (h:ws.length<=60) : zog [.lst (ws.map D.bl)]=some (.lst ((zb7 ws).map D.int)):=by
 have e : (zb7 ws).map D.int=((List.range ws.length).filter fun i=>ws.getD i false).map fun (i:Nat)=>D.int i:=by
  unfold zb7;rw [List.map_map];rfl
 rw [e];apply zgv;unfold b_31;show wp _ [.im (.lst (ws.map D.bl))] _;refine zvw (zg7 (List.range ws.length) (fun i=>D.tup [.int (i:Nat),.bl (ws.getD i false)]) (fun i=>ws.getD i false) (fun (i:Nat)=>D.int i) (zri false (zas rfl rfl)) (by rw [List.length_range]; omega) fun i _=>zfq rfl rfl fun _=>rfl) (zh5 rfl)
noncomputable def ztq : Option Prt->D
 | some p=>p.obj
 | none=>.non
theorem z0q {es:List (Option Bool)} {wo:List Bool} (ps:List Prt) (h:∀ p∈ps,p.Ok es.length) (hw:wo.length=es.length) : zlw [.lst (ps.map Prt.obj),.lst (es.map shD),.lst (wo.map D.bl)]=some (ztq (ps.find? fun p=>p.lost es wo)):=by
 apply zgv;unfold b_27;show wp _ [.im (.lst (ps.map Prt.obj)),.im (.lst (es.map shD)),.im (.lst (wo.map D.bl)),.no] _;apply zat;refine zdw ps Prt.obj (fun pre ρ=>∃ v3,ρ=[.im (.lst (ps.map Prt.obj)),.im (.lst (es.map shD)),.im (.lst (wo.map D.bl)),v3]/\∀ p∈pre,p.lost es wo=false) rfl ⟨_,rfl,fun _ h=>nomatch h⟩ ?_ ?_
 ·rintro pre p post ρ ex ⟨v3,rfl,hpre⟩;have hp : p∈ps:=by rw [ex]; simp
  refine ⟨_,rfl,?_⟩;walk_at "nrm";refine zca (zd6 (z0n p (h p hp) hw rfl rfl) rfl) (fun z=>?_) (fun z=>zcn ?_)
  ·refine z8j (d:=p.obj) rfl (zc6 ?_);rw [ex,List.find?_append,List.find?_eq_none.mpr fun q hq=>by rw [hpre q hq]; exact Bool.false_ne_true,List.find?_cons_of_pos z];rfl
  ·refine ⟨.im p.obj,rfl,fun q hq=>?_⟩
   rcases List.mem_append.mp hq with y | y
   ·exact hpre q y
   ·rw [List.mem_singleton.mp y]; exact z
 ·rintro ρ ⟨v3,rfl,hpre⟩;refine ze8 (d:=.non) rfl (zc6 ?_);rw [List.find?_eq_none.mpr fun q hq=>by rw [hpre q hq]; exact Bool.false_ne_true];rfl
theorem z12 (x:Option Prt) : dIs (ztq x) .non=some (.bl x.isNone):=by
 cases x with
 | none=>rfl
 | some p=>cases p <;> rfl
theorem zyp {es:List (Option Bool)} {wo:List Bool} (r:Rul) : (r.ps.find? fun p=>p.lost es wo).isNone=!(r.bodyLost es wo):=by
 unfold Rul.bodyLost
 cases h : r.ps.any (fun p=>p.lost es wo) with
 | true =>
  obtain ⟨p,hp,hl⟩:=List.any_eq_true.mp h
  cases hf : r.ps.find? (fun p=>p.lost es wo) with
  | none=>exact absurd hl (List.find?_eq_none.mp hf p hp)
  | some q=>rfl
 | false=>rw [List.find?_eq_none.mpr fun p hp q=>by rw [List.any_eq_true.mpr ⟨p,hp,q⟩] at h; cases h]; rfl
noncomputable def zee (es:List (Option Bool)) (wo:List Bool) (r:Rul) : Bool:=wo.getD r.hd.toNat false && !(r.bodyLost es wo)
noncomputable abbrev zen:=List Bool×List Rul×List Rul
noncomputable def zba (es:List (Option Bool)) (a:zen) (r:Rul) : zen:=if zee es a.1 r then (a.1.set r.hd.toNat false,a.2.1++[r],a.2.2) else (a.1,a.2.1,a.2.2++[r])
noncomputable def zce (es:List (Option Bool)) (wo:List Bool) (us rest:List Rul) : zen:=rest.foldl (zba es) (wo,us,[])
noncomputable def zhj (es:List (Option Bool)) : Nat->List Bool->List Rul->List Rul->zen
 | 0,wo,us,rest=>(wo,us,rest)
 | k + 1,wo,us,rest=>if us.length < (zce es wo us rest).2.1.length/\(zce es wo us rest).1.any id=true then zhj es k (zce es wo us rest).1 (zce es wo us rest).2.1 (zce es wo us rest).2.2 else zce es wo us rest
noncomputable def zgg (es:List (Option Bool)) (ms:List Rul) : zen:=zhj es (ms.length + 1) (zcu es) [] ms
structure L3 (es:List (Option Bool)) (ms:List Rul) (a:zen) (q:List Rul) : Prop where
 len : a.1.length=es.length
 pe : zdy ms es (zcu es) a.1
 us : ∀ r∈a.2.1,a.1.getD r.hd.toNat false=false
 pm : (a.2.1++a.2.2++q).Perm ms
theorem L3.step {es:List (Option Bool)} {ms:List Rul} {a:zen} {q:List Rul} {r:Rul} (h:L3 es ms a (r::q)) (hw:∀ r∈ms,r.w≠.never) : L3 es ms (zba es a r) q:=by
 have hr : r∈ms:=h.pm.mem_iff.mp (by simp);unfold zba
 by_cases hh : zee es a.1 r=true
 ·rw [if_pos hh];refine ⟨by rw [List.length_set]; exact h.len,.step h.pe hr ?_,fun x hx=>?_,?_⟩
  ·unfold hup;rw [zms (hw r hr),Bool.true_and];exact hh
  ·show (a.1.set r.hd.toNat false).getD _ false=false;rw [zhe]
   rcases List.mem_append.mp hx with z | z
   ·rw [h.us x z]; rfl
   ·rw [List.mem_singleton.mp z]; simp
  ·refine List.Perm.trans ?_ h.pm;show (a.2.1++[r]++a.2.2++q).Perm _;rw [List.append_assoc,List.append_assoc,List.append_assoc];refine List.Perm.append_left _ ?_;show (r::(a.2.2++q)).Perm (a.2.2++r::q);exact List.perm_middle.symm
 ·rw [if_neg hh];refine ⟨h.len,h.pe,h.us,?_⟩;have : a.2.1++(a.2.2++[r])++q=a.2.1++a.2.2++r::q:=by simp
  show (a.2.1++(a.2.2++[r])++q).Perm ms;rw [this];exact h.pm
theorem L3.fold {es:List (Option Bool)} {ms:List Rul} (hw:∀ r∈ms,r.w≠.never) : ∀ {q:List Rul} {a:zen},L3 es ms a q->L3 es ms (q.foldl (zba es) a) []
 | [],_,h=>h
 | r::q,a,h=>L3.fold (q:=q) (a:=zba es a r) hw (h.step hw)
theorem zj0 {es:List (Option Bool)} : ∀ (q:List Rul) (a:zen),(q.foldl (zba es) a).2.1.length + (q.foldl (zba es) a).2.2.length=a.2.1.length + a.2.2.length + q.length/\a.2.1.length<=(q.foldl (zba es) a).2.1.length
 | [],a=>⟨by simp,Nat.le_refl _⟩
 | r::q,a=>by
  obtain ⟨h1,h2⟩:=zj0 q (zba es a r);rw [List.foldl_cons,h1];unfold zba at *
  split at h2 <;> rename_i hh
  ·rw [if_pos hh] at *;rw [List.length_append] at h2;refine ⟨by show (a.2.1++[r]).length + _ + _=_; rw [List.length_append,List.length_cons]; simp; omega,Nat.le_trans (Nat.le_add_right _ _) h2⟩
  ·rw [if_neg hh] at *;refine ⟨by show _ + (a.2.2++[r]).length + _=_; rw [List.length_append,List.length_cons]; simp; omega,h2⟩
theorem zsv {es:List (Option Bool)} : ∀ (q:List Rul) (a:zen),(q.foldl (zba es) a).2.1.length=a.2.1.length->(q.foldl (zba es) a).1=a.1/\(q.foldl (zba es) a).2.2=a.2.2++q/\∀ r∈q,zee es a.1 r=false
 | [],a,_=>⟨rfl,(List.append_nil _).symm,fun _ h=>nomatch h⟩
 | r::q,a,h=>by
  rw [List.foldl_cons] at h ⊢;have h2:=(zj0 (es:=es) q (zba es a r)).2
  by_cases hh : zee es a.1 r=true
  ·exfalso;have e : zba es a r=(a.1.set r.hd.toNat false,a.2.1++[r],a.2.2):=by unfold zba; rw [if_pos hh]
   rw [e] at h h2;have : (a.2.1++[r]).length=a.2.1.length + 1:=by simp
   rw [h] at h2;have h3 : (a.2.1++[r]).length<=a.2.1.length:=h2;omega
  ·have e : zba es a r=(a.1,a.2.1,a.2.2++[r]):=by unfold zba; rw [if_neg hh]
   rw [e] at h ⊢;obtain ⟨h3,h4,h5⟩:=zsv q _ h;refine ⟨h3,by rw [h4]; simp,fun x hx=>?_⟩
   rcases List.mem_cons.mp hx with z | z
   ·rw [z]; exact Bool.not_eq_true _ ▸ hh
   ·exact h5 x z
theorem zv8 {bs:List Bool} (h:bs.any id=false) (i:Nat) : bs.getD i false=false:=by
 rw [List.getD_eq_getElem?_getD]
 cases e : bs[i]? with
 | none=>rfl
 | some b =>
  cases b with
  | false=>rfl
  | true=>rw [List.any_eq_true.mpr ⟨true,List.mem_of_getElem? e,rfl⟩] at h; cases h
theorem zsu {es:List (Option Bool)} {ms:List Rul} (hw:∀ r∈ms,r.w≠.never) : ∀ (k:Nat) (wo:List Bool) (us rest:List Rul),L3 es ms (wo,us,[]) rest->rest.length < k->L3 es ms (zhj es k wo us rest) []/\∀ r∈ms,zee es (zhj es k wo us rest).1 r=false
 | 0,_,_,_,_,h=>absurd h (Nat.not_lt_zero _)
 | k + 1,wo,us,rest,h,hk=>by
  have h1 : L3 es ms (zce es wo us rest) []:=L3.fold hw h;have hl:=zj0 (es:=es) rest (wo,us,[]);unfold zhj;split
  ·rename_i hh;refine zsu hw k _ _ _ ⟨h1.len,h1.pe,h1.us,?_⟩ ?_
   ·have:=h1.pm;rw [List.append_nil] at this ⊢;exact this
   ·have : (zce es wo us rest).2.1.length + (zce es wo us rest).2.2.length=us.length + 0 + rest.length:=hl.1;have:=hh.1;omega
  ·rename_i hh;refine ⟨h1,fun r hr=>?_⟩
   cases ha : (zce es wo us rest).1.any id with
   | false=>unfold zee; rw [zv8 ha]; rfl
   | true =>
    have he : (zce es wo us rest).2.1.length=us.length:=by
     have : us.length<=(zce es wo us rest).2.1.length:=hl.2;have:=mt (fun z=>And.intro z ha) hh;omega
    obtain ⟨e1,e2,e3⟩:=zsv (es:=es) rest (wo,us,[]) he;have e1 : (zce es wo us rest).1=wo:=e1
    rcases List.mem_append.mp (h.pm.mem_iff.mpr hr) with z | z
    ·rw [List.append_nil] at z;rw [e1];unfold zee;rw [h.us r z];rfl
    ·rw [e1];exact e3 r z
theorem z0m {es:List (Option Bool)} {ms:List Rul} (hw:∀ r∈ms,r.w≠.never) : L3 es ms (zgg es ms) []/\∀ r∈ms,zee es (zgg es ms).1 r=false :=
 zsu hw _ _ _ _ ⟨by unfold zcu; rw [List.length_map],.refl,(fun _ h=>nomatch h),by simp⟩ (Nat.lt_succ_self _)
theorem z04 {l:Addr} {s:Spr} {ms:List Rul} (hm:s.mks=.lst (ms.map mkD)) (h60:s.es.length<=60) (hok:∀ r∈ms,r.Ok s.es.length) (hw:∀ r∈ms,r.w≠.never) (hz:ms.length<=1000) :
  m_2 l [] s.o=some (({ s with mks:=.lst (((zgg s.es ms).2.1++(zgg s.es ms).2.2).map mkD) } : Spr).o,.lst ((zgg s.es ms).1.map D.bl)):=by
 have hno : (zcu s.es).length=s.es.length:=by unfold zcu; rw [List.length_map]
 apply zpv;unfold b_2;show wp _ [.deep (.at l s.o),.no,.no,.no,.no,.no,.no,.no] _;apply zat;refine zfr (ztl (z3r zrl) (by omega)) ?_;walk_at "nrm";apply zat;refine zfr (d:=[]) rfl ?_;walk_at "nrm";apply zat;refine zcv (d:=.lst (ms.map mkD)) ((z3s zym).trans (by rw [hm])) ?_;walk_at "nrm";apply zat;refine zcv (d:=.bl true) rfl ?_;walk_at "nrm";apply zat;refine zpw (fun m ρ=>∃ (wo:List Bool) (us rest:List Rul) (g:Bool) (v5 v6 v7:Sl),ρ=[.deep (.at l s.o),.own (wo.map D.bl),.own (us.map mkD),.im (.lst (rest.map mkD)),.im (.bl g),v5,v6,v7]/\wo.length=s.es.length/\(us++rest).Perm ms/\(g=true->zhj s.es m wo us rest=zgg s.es ms/\rest.length < m)/\(g=false->(wo,us,rest)=zgg s.es ms)) ?_ _ (ms.length + 1) _ ⟨zcu s.es,[],ms,true,_,_,_,rfl,hno,List.Perm.refl _,fun _=>⟨rfl,Nat.lt_succ_self _⟩,fun z=>by cases z⟩ (by omega)
 ·rintro m ρ ⟨wo,us,rest,g,v5,v6,v7,rfl,hwl,hpm,hT,hF⟩;refine ⟨g,rfl,?_,?_⟩
  ·rintro rfl;obtain ⟨eL,hlt⟩:=hT rfl;have hul : us.length + rest.length=ms.length:=by have:=hpm.length_eq; rw [List.length_append] at this; exact this
   apply zat;refine zcv (d:=.int us.length) (zbk rfl (zlo us mkD)) ?_;walk_at "nrm";apply zat;refine zfr (d:=[]) rfl ?_;walk_at "nrm";apply zat;refine zdw rest mkD (fun pre ρ=>∃ (v7:Sl),ρ=[.deep (.at l s.o),.own ((pre.foldl (zba s.es) (wo,us,[])).1.map D.bl),.own ((pre.foldl (zba s.es) (wo,us,[])).2.1.map mkD),.im (.lst (rest.map mkD)),.im (.bl true),.im (.int us.length),.own ((pre.foldl (zba s.es) (wo,us,[])).2.2.map mkD),v7]/\(pre.foldl (zba s.es) (wo,us,[])).1.length=s.es.length) rfl ⟨_,rfl,hwl⟩ ?_ ?_
   ·rintro pre r post ρ ex ⟨v7,rfl,hl1⟩;have hrm : r∈ms:=hpm.mem_iff.mp (by rw [ex]; simp);have hr:=hok r hrm;obtain ⟨h0,h1⟩:=hr.hd (hw r hrm);have hpl : pre.length < rest.length:=by rw [ex]; simp
    have hln:=zj0 (es:=s.es) pre (wo,us,[]);have hln0 : (pre.foldl (zba s.es) (wo,us,[])).2.1.length + (pre.foldl (zba s.es) (wo,us,[])).2.2.length=us.length + 0 + pre.length:=hln.1;generalize hA : pre.foldl (zba s.es) (wo,us,[])=A at *;have el:=z0q (wo:=A.1) r.ps hr.ps hl1;refine ⟨_,rfl,?_⟩;walk_at "nrm"
    have ht : (zdj (zcf (mIx (zag 1) (mIx (zag 7) (fun _=>some (.int 0))))) (mB (m2 dIs (zay zlw (zaa (mIx (zag 7) (fun _=>some (.int 1))) (zaa (pB (zd8 "Spreading" "sheet" (zcl 0))) (zaa (zew 1) (fun _=>some []))))) (fun _=>some .non)))) [.deep (.at l s.o),.own (A.1.map D.bl),.own (A.2.1.map mkD),.im (.lst (rest.map mkD)),.im (.bl true),.im (.int us.length),.own (A.2.2.map mkD),.im (mkD r)]=some (zee s.es A.1 r):=by
     unfold zee;rw [<- zyp];exact zlq (zd6 (za0 rfl (za0 rfl rfl rfl) (zg2 h0 (by omega))) rfl) (zc8 (zbm (zbk (zas (za0 rfl rfl rfl) (zas (z3q zrl) (zas rfl rfl))) el) rfl (z12 _)))
    refine zca ht (fun z=>?_) (fun z=>?_)
    ·apply zat;refine zpu (k:=r.hd) (xs:=A.1.map D.bl) rfl (za0 rfl rfl rfl) rfl h0 (by rw [List.length_map]; omega) ?_;walk_at "nrm";refine zgt (d:=mkD r) rfl rfl (by rw [List.length_map]; omega) ?_;refine ⟨.im (mkD r),?_,?_⟩
     ·rw [List.foldl_append,hA];show _=[_,Sl.own ((zba s.es A r).1.map D.bl),.own ((zba s.es A r).2.1.map mkD),_,_,_,.own ((zba s.es A r).2.2.map mkD),_];unfold zba;rw [if_pos z,<- zu0];show _=[_,_,Sl.own ((A.2.1++[r]).map mkD),_,_,_,_,_];rw [List.map_append];rfl
     ·rw [List.foldl_append,hA];show (zba s.es A r).1.length=_;unfold zba;rw [if_pos z,List.length_set];exact hl1
    ·refine zgt (d:=mkD r) rfl rfl (by rw [List.length_map]; omega) ?_;have z' : ¬ zee s.es A.1 r=true:=by rw [z]; exact Bool.false_ne_true
     refine ⟨.im (mkD r),?_,?_⟩
     ·rw [List.foldl_append,hA];show _=[_,Sl.own ((zba s.es A r).1.map D.bl),.own ((zba s.es A r).2.1.map mkD),_,_,_,.own ((zba s.es A r).2.2.map mkD),_];unfold zba;rw [if_neg z'];show _=[_,_,_,_,_,_,Sl.own ((A.2.2++[r]).map mkD),_];rw [List.map_append];rfl
     ·rw [List.foldl_append,hA];show (zba s.es A r).1.length=_;unfold zba;rw [if_neg z'];exact hl1
   ·rintro ρ ⟨v7,rfl,hl1⟩;have hln:=zj0 (es:=s.es) rest (wo,us,[]);have hln0 : (zce s.es wo us rest).2.1.length + (zce s.es wo us rest).2.2.length=us.length + 0 + rest.length:=hln.1;have hge : us.length<=(zce s.es wo us rest).2.1.length:=hln.2;show wp _ [.deep (.at l s.o),.own ((zce s.es wo us rest).1.map D.bl),.own ((zce s.es wo us rest).2.1.map mkD),.im (.lst (rest.map mkD)),.im (.bl true),.im (.int us.length),.own ((zce s.es wo us rest).2.2.map mkD),v7] _;replace hl1 : (zce s.es wo us rest).1.length=s.es.length:=hl1
    have hpm2 : ((zce s.es wo us rest).2.1++(zce s.es wo us rest).2.2).Perm ms:=by
     have gen : ∀ (q:List Rul) (a:zen),((q.foldl (zba s.es) a).2.1++(q.foldl (zba s.es) a).2.2).Perm (a.2.1++a.2.2++q):=by
      intro q
      induction q with
      | nil=>intro a; simp
      | cons r q ih =>
       intro a;rw [List.foldl_cons];refine (ih _).trans ?_;unfold zba;split
       ·show (a.2.1++[r]++a.2.2++q).Perm _;rw [List.append_assoc,List.append_assoc,List.append_assoc];refine List.Perm.append_left _ ?_;show (r::(a.2.2++q)).Perm (a.2.2++r::q);exact List.perm_middle.symm
       ·show (a.2.1++(a.2.2++[r])++q).Perm _;rw [show a.2.1++(a.2.2++[r])++q=a.2.1++a.2.2++r::q by simp]
     refine (gen rest (wo,us,[])).trans ?_;show (us++[]++rest).Perm ms;rw [List.append_nil];exact hpm
    cases m with
    | zero=>exact absurd hlt (Nat.not_lt_zero _)
    | succ m =>
     unfold zhj at eL;generalize hA : zce s.es wo us rest=A at *;apply zat;refine zjk rfl ?_;refine zcv (d:=.lst (A.2.2.map mkD)) rfl ?_;walk_at "nrm";refine zcv (d:=.bl (decide ((us.length : Int) < A.2.1.length) && A.1.any id)) (zvn (zbm (zbk rfl (zlo A.2.1 mkD)) rfl zk2) (zbk rfl (zm0 A.1))) ?_
     by_cases hh : us.length < A.2.1.length/\A.1.any id=true
     ·rw [if_pos hh] at eL;have hg : (decide ((us.length : Int) < A.2.1.length) && A.1.any id)=true:=by rw [hh.2,decide_eq_true (by omega)]; rfl
      rw [hg];exact ⟨m,Nat.lt_succ_self _,A.1,A.2.1,A.2.2,true,_,_,_,rfl,hl1,hpm2,fun _=>⟨eL,by omega⟩,fun z=>by cases z⟩
     ·rw [if_neg hh] at eL
      have hg : (decide ((us.length : Int) < A.2.1.length) && A.1.any id)=false:=by
       cases ha : A.1.any id with
       | false=>exact Bool.and_false _
       | true =>
        have : ¬ us.length < A.2.1.length:=fun q=>hh ⟨q,ha⟩;rw [decide_eq_false (by omega)];rfl
      rw [hg];exact ⟨0,Nat.succ_pos _,A.1,A.2.1,A.2.2,false,_,_,_,rfl,hl1,hpm2,(fun z=>by cases z),fun _=>eL⟩
  ·rintro rfl;have eF:=hF rfl;have hul : us.length + rest.length=ms.length:=by have:=hpm.length_eq; rw [List.length_append] at this; exact this
   rw [<- eF];apply zat;refine zjk rfl ?_;refine zgu (zvy (zb4 (zwr (a:=us.map mkD) (b:=rest.map mkD) rfl rfl (by rw [List.length_map,List.length_map]; omega)))) rfl rfl ?_;rw [<- List.map_append]
   show wp _ [.deep (.at l ({ s with mks:=.lst ((us++rest).map mkD) } : Spr).o),.own (wo.map D.bl),.im (.lst (us.map mkD)),.im (.lst (rest.map mkD)),.im (.bl false),v5,v6,v7] _
   refine zjk rfl ?_;exact zvx (d:=.lst (wo.map D.bl)) rfl ⟨_,rfl,rfl,rfl⟩
theorem zwz (rs:List Rul) (hz:rs.length<=1000) (hp:∀ r∈rs,r.ps.length<=1000) : m_5 [.lst (rs.map Rul.toD)]=some (.lst (rs.map Rul.toD)):=by
 apply zgv;unfold b_5;show wp _ [.im (.lst (rs.map Rul.toD)),.no,.no,.no,.no,.no,.no] _;walk_at "set";apply zat;refine zdw rs Rul.toD (fun pre ρ=>∃ v2 v3 v4 v5 v6,ρ=[.im (.lst (rs.map Rul.toD)),.own (pre.map Rul.toD),v2,v3,v4,v5,v6]) rfl ⟨_,_,_,_,_,rfl⟩ ?_ ?_
 ·rintro pre r post ρ ex ⟨v2,v3,v4,v5,v6,rfl⟩;have hr : r∈rs:=by rw [ex]; simp
  have hpl : pre.length < rs.length:=by rw [ex]; simp
  have hp:=hp r hr;refine ⟨_,rfl,?_⟩;walk_at "nrm";apply zat;refine zfr (d:=[]) rfl ?_;walk_at "nrm";apply zat;refine zdw r.ps Prt.toD (fun pr ρ=>∃ v6,ρ=[.im (.lst (rs.map Rul.toD)),.own (pre.map Rul.toD),.im (.str r.w.s),.im r.hdD,.im (.lst (r.ps.map Prt.toD)),.own (pr.map Prt.toD),v6]) rfl ⟨_,rfl⟩ ?_ ?_
  ·rintro pr p po ρ ex2 ⟨v6,rfl⟩;have hpp : pr.length < r.ps.length:=by rw [ex2]; simp
   refine ⟨_,rfl,?_⟩;walk_at "nrm";refine zvv (fun ρ'=>ρ'=[.im (.lst (rs.map Rul.toD)),.own (pre.map Rul.toD),.im (.str r.w.s),.im r.hdD,.im (.lst (r.ps.map Prt.toD)),.own (pr.map Prt.toD),.im p.toD]) ?_ ?_
   ·cases p with
    | inn t=>exact zca (b:=false) rfl (fun z=>by cases z) (fun _=>zcn (k_J rfl))
    | out t=>exact zca (b:=false) rfl (fun z=>by cases z) (fun _=>zcn (k_J rfl))
    | least k its=>exact zca (b:=true) rfl (fun _=>zcv (ze6 (zas (za0 rfl rfl rfl) (zas (za0 rfl rfl rfl) (zas (zb4 (ze4 (za0 rfl rfl rfl) rfl)) rfl)))) (k_J rfl)) (fun z=>by cases z)
    | most k its=>exact zca (b:=true) rfl (fun _=>zcv (ze6 (zas (za0 rfl rfl rfl) (zas (za0 rfl rfl rfl) (zas (zb4 (ze4 (za0 rfl rfl rfl) rfl)) rfl)))) (k_J rfl)) (fun z=>by cases z)
   ·rintro ρ' rfl;refine zgt rfl rfl (by rw [List.length_map]; omega) ?_;exact ⟨.im p.toD,by rw [List.map_append]; rfl⟩
  ·rintro ρ ⟨v6,rfl⟩;refine zjk rfl ?_;refine zgt (ze6 (zas rfl (zas rfl (zas rfl rfl)))) rfl (by rw [List.length_map]; omega) ?_;exact ⟨.im (.str r.w.s),.im r.hdD,.im (.lst (r.ps.map Prt.toD)),.im (.lst (r.ps.map Prt.toD)),v6,by rw [List.map_append]; rfl⟩
 ·rintro ρ ⟨v2,v3,v4,v5,v6,rfl⟩;exact zkp rfl (zh5 rfl)
theorem zzv (xs:List Int) (n:Int) (hr:xs.Pairwise (· < ·)) (hb:∀ x∈xs,0<=x/\x < n) (hz:xs.length<=1000) : zof [.lst (xs.map D.int),.int n]=some (.bl true):=by
 apply zgv;unfold b_30;show wp _ [.im (.lst (xs.map D.int)),.im (.int n),.no,.no] _;apply zat;refine zca (b:=false) rfl (fun z=>by cases z) (fun _=>zcn ?_);walk_at "nrm";apply zat;refine zdw (List.range xs.length) (fun i=>D.tup [.int (i:Nat),.int (xs.getD i 0)]) (fun _ ρ=>∃ v2 v3,ρ=[.im (.lst (xs.map D.int)),.im (.int n),v2,v3]) (zri 0 (zas rfl rfl)) ⟨_,_,rfl⟩ ?_ ?_
 ·rintro pre i post ρ ex ⟨v2,v3,rfl⟩;have hi : i < xs.length:=List.mem_range.mp (by rw [ex]; simp)
  have hm : xs.getD i 0∈xs:=by
   rw [List.getD_eq_getElem?_getD,List.getElem?_eq_getElem hi];exact List.getElem_mem hi
  obtain ⟨b0,b1⟩:=hb _ hm;refine ⟨_,rfl,?_⟩;walk_at "nrm";apply zat;refine zca (b:=false) (zic rfl (zic rfl ?_)) (fun z=>by cases z) (fun _=>zcn ?_)
  ·refine (zgj (b:=true) (zc8 ?_));have : zhl dLe dLt (fun _=>some (.int 0)) (zab 3) (zab 1) [.im (.lst (xs.map D.int)),.im (.int n),.im (.int (i:Nat)),.im (.int (xs.getD i 0))]=some (.bl (decide ((0 : Int)<=xs.getD i 0) && decide (xs.getD i 0 < n))):=zws rfl rfl zqo rfl zqp;rw [decide_eq_true b0,decide_eq_true b1] at this;exact this
  walk_at "nrm"
  have e2 : zdj (mB (m2 dGt (zab 2) (fun _=>some (.int 0)))) (mB (m2 dGe (mIx (zag 0) (m2 zga (zab 2) (fun _=>some (.int 1)))) (zab 3))) [.im (.lst (xs.map D.int)),.im (.int n),.im (.int (i:Nat)),.im (.int (xs.getD i 0))]=some false:=by
   by_cases h0 : 0 < i
   ·have e:=zm1 (f:=D.int) (xs:=xs) (i:=(i:Int) - 1) 0 (by omega) (by omega)
    have lt : xs.getD ((i:Int) - 1).toNat 0 < xs.getD i 0:=by
     have hj : ((i:Int) - 1).toNat < xs.length:=by omega
     rw [List.getD_eq_getElem?_getD,List.getD_eq_getElem?_getD,List.getElem?_eq_getElem hi,List.getElem?_eq_getElem hj];exact List.pairwise_iff_getElem.mp hr _ _ hj hi (by omega)
    have : mB (m2 dGe (mIx (zag 0) (m2 zga (zab 2) (fun _=>some (.int 1)))) (zab 3)) [.im (.lst (xs.map D.int)),.im (.int n),.im (.int (i:Nat)),.im (.int (xs.getD i 0))]=some (decide (xs.getD i 0<=xs.getD ((i:Int) - 1).toNat 0)):=zc8 (zbm (za0 rfl (zbm rfl rfl zqr) e) rfl zqn);rw [decide_eq_false (by omega)] at this;exact (zlq (zc8 (zbm rfl rfl zk2)) this).trans (by rw [Bool.and_false])
   ·refine zn9 ?_;have : mB (m2 dGt (zab 2) (fun _=>some (.int 0))) [.im (.lst (xs.map D.int)),.im (.int n),.im (.int (i:Nat)),.im (.int (xs.getD i 0))]=some (decide ((0 : Int) < (i:Int))):=zc8 (zbm rfl rfl zk2);rw [decide_eq_false (by omega)] at this;exact this
  refine zca (b:=false) e2 (fun z=>by cases z) (fun _=>zcn ?_);exact ⟨_,_,rfl⟩
 ·rintro ρ ⟨v2,v3,rfl⟩;exact ze8 rfl (zc6 rfl)
theorem zp1 {α : Type} (f:α->Bool) (xs:List α) (h:∀ x∈xs,f x=false) : zfs [.lst (xs.map fun x=>D.bl (f x))]=some (.bl false):=by
 rw [zs8,zm0,List.any_map]
 congr 2
 exact List.any_eq_false.mpr fun x hx=>by show ¬ f x=true; rw [h x hx]; exact Bool.false_ne_true
theorem zsz {a b:List Bool} (hl:a.length=b.length) (h:∀ i,a.getD i false=b.getD i false) : a=b:=by
 refine List.ext_getElem? fun i=>?_;have:=h i;rw [List.getD_eq_getElem?_getD,List.getD_eq_getElem?_getD] at this
 by_cases hi : i < a.length
 ·rw [List.getElem?_eq_getElem hi,List.getElem?_eq_getElem (by omega)] at this ⊢
  simpa using this
 ·rw [List.getElem?_eq_none (by omega),List.getElem?_eq_none (by omega)]
theorem z1z (es:List (Option Bool)) (i:Nat) (h:(zcu es).getD i false=true) : i < es.length/\(es.getD i none==some false)=false:=by
 unfold zcu at h;rw [List.getD_eq_getElem?_getD,List.getElem?_map] at h
 by_cases hi : i < es.length
 ·refine ⟨hi,?_⟩;rw [List.getElem?_eq_getElem hi] at h;rw [List.getD_eq_getElem?_getD,List.getElem?_eq_getElem hi]
  simpa using h
 ·rw [List.getElem?_eq_none (by omega)] at h;cases h
theorem zy5 (n:Int) (rs:List Rul) (es:List (Option Bool)) (hn:(es.length : Int)=n) (n60:n<=60) (hz:rs.length<=1000) (hok:∀ r∈rs,r.Ok es.length) {wo:List Bool} (hp:zdy rs es (zcu es) wo) (hend:∀ r∈rs,hup es wo r=false) :
  m_6 [.int n,.lst (rs.map Rul.toD),.lst (es.map shD),.lst ((zb7 wo).map D.int)]=some (.bl true):=by
 have hno : (zcu es).length=es.length:=by unfold zcu; rw [List.length_map]
 have hl : wo.length=es.length:=by rw [hp.len,hno]
 have hll:=z0r wo
 have mem : ∀ t∈zb7 wo,0<=t/\t < (es.length : Int)/\(es.getD t.toNat none==some false)=false:=fun t ht=>by
  obtain ⟨h0,h1⟩:=(zon wo t).mp ht;obtain ⟨a,b⟩:=z1z es _ (hp.sub _ h1);exact ⟨h0,by omega,b⟩
 have es1:=zzv (zb7 wo) n (z0s wo) (fun t ht=>by have:=mem t ht; omega) (by omega);apply zgv;unfold b_6;show wp _ [.im (.int n),.im (.lst (rs.map Rul.toD)),.im (.lst (es.map shD)),.im (.lst ((zb7 wo).map D.int)),.no,.no,.no,.no] _;apply zat;refine zca (b:=false) (zic (zgj (b:=true) (zd6 (zbk rfl es1) rfl)) (zd6 (zbk (zas (zb4 (zfu (zb7 wo) D.int (fun t=>D.bl (es.getD t.toNat none==some false)) rfl (by omega) fun t ht=>?_)) rfl) (zp1 (fun t:Int=>es.getD t.toNat none==some false) _ fun t ht=>(mem t ht).2.2)) rfl)) (fun z=>by cases z) (fun _=>zcn ?_)
 ·have:=mem t ht;exact zek rfl rfl (zbm (za0 rfl rfl (zft this.1 this.2.1)) rfl (zhg _ _))
 walk_at "nrm";apply zat;refine zcv (d:=.lst (wo.map D.bl)) (zb4 ?_) ?_
 ·have e' : wo=(List.range n.toNat).map (inS (zb7 wo)):=by
   have hln : wo.length=n.toNat:=by omega
   refine zsz (by rw [List.length_map,List.length_range]; exact hln) fun i=>?_;rw [List.getD_eq_getElem?_getD (l:=List.map _ _),List.getElem?_map]
   by_cases hi : i < n.toNat
   ·rw [List.getElem?_range hi];show _=inS (zb7 wo) i;rw [zzg]
   ·have hi' : (List.range n.toNat).length<=i:=by rw [List.length_range]; omega
    have hw' : wo.length<=i:=by omega
    rw [List.getElem?_eq_none hi',List.getD_eq_getElem?_getD,List.getElem?_eq_none hw'];rfl
  have e : wo.map D.bl=(List.range n.toNat).map fun i=>D.bl (inS (zb7 wo) i):=by
   refine (congrArg (List.map D.bl) e').trans ?_;rw [List.map_map];rfl
  rw [e];exact zfu (List.range n.toNat) (fun (i:Nat)=>D.int i) (fun i=>D.bl (inS (zb7 wo) i)) (zih rfl (by omega) (by omega)) (by rw [List.length_range]; omega) fun i _=>zek rfl rfl (zbm rfl rfl (zzh _ _))
 walk_at "nrm";apply zat;refine zca (b:=false) (zd6 (zbk (zas (zb4 (zfu rs Rul.toD (fun r=>D.bl (hup es wo r)) rfl (by omega) fun r hr=>zek rfl rfl (zbk rfl (zr1 r (hok r hr) hl)))) rfl) (zp1 (hup es wo) rs hend)) rfl) (fun z=>by cases z) (fun _=>zcn ?_);walk_at "nrm";apply zat;refine zfr (ztl rfl (by omega)) ?_;walk_at "nrm";walk_at "set";apply zat;refine zpw (fun m ρ=>∃ (le:List Bool) (ch:Bool) (v5:Sl),ρ=[.im (.int n),.im (.lst (rs.map Rul.toD)),.im (.lst (es.map shD)),.im (.lst ((zb7 wo).map D.int)),.im (.lst (wo.map D.bl)),v5,.own (le.map D.bl),.im (.bl ch)]/\le.length=es.length/\(∀ i,le.getD i false=true->(zcu es).getD i false=true)/\(∀ i,wo.getD i false=true->le.getD i false=true)/\(ch=false->∀ r∈rs,hup es le r=true->wo.getD r.hd.toNat false=true)/\ct le + (if ch then 1 else 0)=m) ?_ _ (ct (zcu es) + 1) _ ⟨zcu es,true,.no,rfl,hno,fun i q=>q,hp.sub,(fun z=>by cases z),rfl⟩ (by have:=zw1 (zcu es); omega);rintro m ρ ⟨le,ch,v5,rfl,hll',hsub,hsup,hend',hm⟩;refine ⟨ch,rfl,?_,?_⟩
 ·rintro rfl;walk_at "set";refine zdw rs Rul.toD (fun pre ρ=>∃ (le':List Bool) (ch:Bool) (v5:Sl),ρ=[.im (.int n),.im (.lst (rs.map Rul.toD)),.im (.lst (es.map shD)),.im (.lst ((zb7 wo).map D.int)),.im (.lst (wo.map D.bl)),v5,.own (le'.map D.bl),.im (.bl ch)]/\le'.length=es.length/\(∀ i,le'.getD i false=true->(zcu es).getD i false=true)/\(∀ i,wo.getD i false=true->le'.getD i false=true)/\(ch=false->le'=le/\∀ r∈pre,hup es le r=true->wo.getD r.hd.toNat false=true)/\ct le' + (if ch then 1 else 0)<=ct le) rfl ⟨le,false,v5,rfl,hll',hsub,hsup,fun _=>⟨rfl,fun r hr=>nomatch hr⟩,Nat.le_refl _⟩ ?_ ?_
  ·rintro pre r post ρ ex ⟨le',ch,v5,rfl,hl',hsub',hsup',hch,hc⟩;have hrs : r∈rs:=by rw [ex]; simp
   have er:=zr1 (wo:=le') r (hok r hrs) hl';refine ⟨_,rfl,?_⟩;walk_at "nrm"
   cases hq : hup es le' r with
   | false =>
    rw [hq] at er;refine zca (b:=false) (zn9 (zd6 (zkz (zas rfl (zas rfl (zas rfl rfl))) er rfl) rfl)) (fun z=>by cases z) (fun _=>zcn ?_);refine ⟨le',ch,.im r.toD,rfl,hl',hsub',hsup',fun q=>?_,hc⟩;obtain ⟨e,hpre⟩:=hch q;refine ⟨e,fun r' hr' hh=>?_⟩
    rcases List.mem_append.mp hr' with h | h
    ·exact hpre r' h hh
    ·have : r'=r:=by simpa using h
     subst this;rw [<- e,hq] at hh
     cases hh
   | true =>
    rw [hq] at er;obtain ⟨a,b,_⟩:=zr2 hq;obtain ⟨h0,h1⟩:=(hok r hrs).hd a;refine zca (b:=!(wo.getD r.hd.toNat false)) (zs3 (zd6 (zkz (zas rfl (zas rfl (zas rfl rfl))) er rfl) rfl) (zgj (zd6 (za0 rfl (za0 rfl rfl (znv a)) (zg2 h0 (by omega))) rfl))) (fun z=>?_) (fun z=>?_)
    ·have z : wo.getD r.hd.toNat false=false:=by simpa using z
     have hcs:=zql le' r.hd.toNat b;apply zat;refine zpu (k:=r.hd) (xs:=le'.map D.bl) rfl (za0 rfl rfl (znv a)) rfl h0 (by rw [List.length_map]; omega) ?_;walk_at "nrm";refine zcv rfl ?_;refine ⟨le'.set r.hd.toNat false,true,.im r.toD,by rw [<- zu0]; rfl,by rw [List.length_set]; exact hl',fun i q=>?_,fun i q=>?_,(fun q=>by cases q),?_⟩
     ·rw [zhe] at q;exact hsub' i (Bool.and_eq_true _ _ ▸ q).1
     ·rw [zhe,hsup' i q,Bool.true_and]
      cases e : (r.hd.toNat==i) with
      | false=>rfl
      | true =>
       have e : r.hd.toNat=i:=by simpa using e
       subst e;rw [z] at q;cases q
     ·rw [if_pos rfl];have : ct le'<=ct le:=Nat.le_trans (Nat.le_add_right _ _) hc;omega
    ·have z : wo.getD r.hd.toNat false=true:=by simpa using z
     apply zcn;refine ⟨le',ch,.im r.toD,rfl,hl',hsub',hsup',fun q=>?_,hc⟩;obtain ⟨e,hpre⟩:=hch q;refine ⟨e,fun r' hr' hh=>?_⟩
     rcases List.mem_append.mp hr' with h | h
     ·exact hpre r' h hh
     ·have : r'=r:=by simpa using h
      subst this;exact z
  ·rintro ρ ⟨le',ch,v5,rfl,hl',hsub',hsup',hch,hc⟩;rw [if_pos rfl] at hm;exact ⟨_,by omega,le',ch,v5,rfl,hl',hsub',hsup',fun q=>by obtain ⟨e,hq⟩:=hch q; rw [e]; exact hq,rfl⟩
 ·rintro rfl;have hin:=z4c hok hp (by rw [hll',hno]) hsub (fun i q=>q) (hend' rfl)
  have e : le=wo:=by
   refine zsz (by omega) fun i=>?_
   cases q : wo.getD i false with
   | true=>exact hsup i q
   | false =>
    cases q' : le.getD i false with
    | false=>rfl
    | true =>
     have:=hin i q';rw [q] at this;cases this
  subst e;exact ze8 (zbm rfl rfl (zxb ((z4k le).le (by decide)))) (zc6 rfl)
theorem z0l (n:Int) (rs:List Rul) (es:List (Option Bool)) (hn:(es.length : Int)=n) (n60:n<=60) (hok:∀ r∈rs,RuK es.length r) (hz:rs.length<=250) : ∃ d,zoh [plD n rs,.lst (es.map shD)]=some d/\∃ wo : List Bool,d=.lst ((zb7 wo).map D.int)/\zdy rs es (zcu es) wo/\∀ r∈rs,hup es wo r=false:=by
 have h60 : es.length<=60:=by omega
 have hw : ∀ r∈zf0 rs,r.w≠.never:=fun r hr e=>by
  have:=(List.mem_filter.mp hr).2;rw [e] at this;cases this
 have hsub : ∀ r∈zf0 rs,r∈rs:=fun r hr=>(List.mem_filter.mp hr).1;have hml : (zf0 rs).length<=rs.length:=List.length_filter_le _ _;have e1:=z6z es rs;obtain ⟨h3,hend⟩:=z0m (es:=es) hw;have em : ∀ l,m_2 l [] (spI es rs).o=_:=fun l=>z04 (l:=l) (s:=spI es rs) (ms:=zf0 rs) e1.2.1 (by rw [e1.1]; exact h60) (fun r hr=>by rw [e1.1]; exact (hok r (hsub r hr)).ok) hw (by omega);rw [e1.1] at em;have en:=z10 (zgg es (zf0 rs)).1 (by rw [h3.len]; exact h60);apply zjl;unfold b_33;show wp _ [.im (plD n rs),.im (.lst (es.map shD))] _;refine ze8 (zbk (zas (z7r (z0x rfl (zzj h60 hok hz)) rfl em) rfl) en) (zc6 ⟨_,rfl,?_,fun r hr=>?_⟩)
 ·have gen : ∀ {a b:List Bool},zdy (zf0 rs) es a b->zdy rs es a b:=fun h=>by
   induction h with
   | refl=>exact .refl
   | step _ hr hh ih=>exact .step ih (hsub _ hr) hh
  exact gen h3.pe
 ·unfold hup
  by_cases hn : r.w=.never
  ·rw [hn]; rfl
  ·have:=hend r (List.mem_filter.mpr ⟨hr,zms hn⟩);unfold zee at this;rw [this,Bool.and_false]
theorem z4l (n:Int) (rs:List Rul) (es:List (Option Bool)) : zch 20 (.lst [plD n rs,.lst (es.map shD)]):=by
 have : zch 11 (.lst [plD n rs,.lst (es.map shD)]):=fun x hx=>by
  simp only [List.mem_cons,List.not_mem_nil,or_false] at hx
  rcases hx with rfl | rfl
  ·intro y hy;simp only [List.mem_cons,List.not_mem_nil,or_false] at hy
   rcases hy with rfl | rfl
   ·exact rfl
   ·intro z hz;obtain ⟨r,_,rfl⟩:=List.mem_map.mp hz;exact (z4o r).le (by decide)
  ·exact (z4p es).le (by decide)
 exact this.le (by decide)
theorem z48 (es:List (Option Bool)) (k:Nat) (e:Option Bool) : (es.map shD).set k (shD e)=(es.set k e).map shD:=by rw [List.map_set]
theorem z0g (ns:List Int) (hns:ns.length<=63) : m_0 [.kl (ns.map D.int)]=some (.bl true):=by
 apply zgv;unfold b_0;show wp _ [.im (.kl (ns.map D.int)),.no,.no,.no,.no,.no,.no,.no,.no] _;obtain ⟨c0,k0⟩:=zqg ns 0 (by decide);obtain ⟨c1,k1⟩:=zqg ns 1 (by decide);obtain ⟨d,em,hs,rfl,hl,hx⟩:=zop c0 6 (by decide) (by decide);obtain ⟨a0,h0,e0⟩:=zb5 (f:=D.int) (xs:=hs) (i:=0) (by decide) (by omega);obtain ⟨a1,h1,e1⟩:=zb5 (f:=D.int) (xs:=hs) (i:=1) (by decide) (by omega);obtain ⟨a2,h2,e2⟩:=zb5 (f:=D.int) (xs:=hs) (i:=2) (by decide) (by omega);obtain ⟨a3,h3,e3⟩:=zb5 (f:=D.int) (xs:=hs) (i:=3) (by decide) (by omega);obtain ⟨a4,h4,e4⟩:=zb5 (f:=D.int) (xs:=hs) (i:=4) (by decide) (by omega);walk_at "set";walk_at "set";have b0 : 0<=a0 % 26:=Int.emod_nonneg _ (by decide);have b1 : a0 % 26 < 26:=Int.emod_lt_of_pos _ (by decide);have b2 : 0<=a1 / 4 % 30:=Int.emod_nonneg _ (by decide);have b3 : a1 / 4 % 30 < 30:=Int.emod_lt_of_pos _ (by decide);refine zvv (fun ρ'=>∃ n : Int,0<=n/\n<=60/\ρ'=[.im (.kl (ns.map D.int)),.im (.lst (hs.map D.int)),.im (.int n),.no,.no,.no,.no,.no,.no]) ?_ ?_
 ·walk_at "if0"
  ·intro _;refine zcv (by walk_at "ev") ?_;exact k_J ⟨1 + a1 / 4 % 30,by omega,by omega,rfl⟩
  ·intro _;apply zcn;exact k_J ⟨(a0 % 26 + 2) / 3,by omega,by omega,rfl⟩
 ·rintro ρ' ⟨n,n0,n60,rfl⟩;obtain ⟨rs0,er0,hr0,hl0⟩:=z5k (a2 % 5) n (Int.emod_nonneg _ (by decide)) (Int.emod_lt_of_pos _ (by decide)) n0 n60;apply zat;refine zfr (zm6 (by walk_at "ev") er0) ?_;walk_at "nrm";have hcl:=List.length_take_le' (HT.sIx ns.length ns.length (some 62) - HT.sIx ns.length 0 (some 2)) (ns.drop (HT.sIx ns.length 0 (some 2)));rw [List.length_drop] at hcl;generalize hcs : (ns.drop (HT.sIx ns.length 0 (some 2))).take (HT.sIx ns.length ns.length (some 62) - HT.sIx ns.length 0 (some 2))=cs at hcl;apply zat;refine zdw cs D.int (fun pre ρ=>∃ (rs:List Rul) (v4:Sl),ρ=[.im (.kl (ns.map D.int)),.im (.lst (hs.map D.int)),.im (.int n),.own (rs.map Rul.toD),v4,.no,.no,.no,.no]/\(∀ r∈rs,r.Ok n.toNat/\r.ps.length<=3/\zjo r)/\rs.length<=60 + pre.length) (by rw [<- hcs]; exact ze4 (zb4 (zu4 rfl rfl rfl)) rfl) ⟨rs0,_,rfl,hr0,by simpa using hl0⟩ ?_ ?_
  ·rintro pre c post ρ ex ⟨rs,v4,rfl,hrs,hlr⟩;have hpl : pre.length < cs.length:=by rw [ex]; simp
   obtain ⟨d,er,r,rfl,hr,hr3,hrf⟩:=z5q c n n0 n60;refine ⟨_,rfl,?_⟩;walk_at "nrm";refine zgt (zbk (zas rfl (zas rfl (zas rfl rfl))) er) rfl (by rw [List.length_map]; omega) ?_;refine ⟨rs++[r],.im (.int c),by rw [List.map_append]; rfl,fun q hq=>?_,by rw [List.length_append,List.length_append]; show _ + 1<=60 + (_ + 1); omega⟩
   rcases List.mem_append.mp hq with h | h
   ·exact hrs q h
   ·have : q=r:=by simpa using h
    subst this;exact ⟨hr,hr3,hrf⟩
  ·rintro ρ ⟨rs,v4,rfl,hrs,hlr⟩;walk_at "nrm";obtain ⟨d,em1,ys,rfl,hly,hy⟩:=zop c1 n n0 (by omega)
   obtain ⟨es0,ee,le0,_⟩:=zm9 (k:=1) (js:=[]) (fi:=(zbn (zay m_3 (zaa (zay zj7 (zaa (zab 0) (zaa (fun _=>some (.int 1)) (fun _=>some [])))) (zaa (zab 2) (fun _=>some [])))))) (g:=zaw 0) (ft:=fun _=>some true) (fe:=(mIx (zaa (fun _=>some (.bl true)) (zaa (fun _=>some (.bl false)) (zaa (fun _=>some .non) (zaa (fun _=>some .non) (zaa (fun _=>some .non) (fun _=>some [])))))) (m2 za9 (zab 0) (fun _=>some (.int 5))))) (ρ:=[.im (.kl (ns.map D.int)),.im (.lst (hs.map D.int)),.im (.int n),.own (rs.map Rul.toD),v4,.no,.no,.no,.no]) ys D.int shD (fun _=>True) (ze4 (zbk (by walk_at "ev") em1) rfl) (by omega) fun y _=>by
    obtain ⟨e,_,ee⟩:=zb5 (f:=shD) (xs:=[some true,some false,none,none,none]) (i:=y % 5) (Int.emod_nonneg _ (by decide)) (Int.emod_lt_of_pos _ (by decide));exact ⟨e,trivial,zek rfl rfl (za0 rfl (zbm rfl rfl (zk3 (by decide))) ee)⟩
   apply zat;refine zfr ee ?_;walk_at "nrm";apply zat;refine zdw (List.range 2) (fun (i:Nat)=>D.int i) (fun _ ρ=>∃ (es:List (Option Bool)) (v3 v6 v7 v8:Sl),ρ=[.im (.kl (ns.map D.int)),.im (.lst (hs.map D.int)),.im (.int n),v3,v4,.own (es.map shD),v6,v7,v8]/\(es.length : Int)=n/\(v3=.own (rs.map Rul.toD)\/v3=.im (.lst (rs.map Rul.toD)))) (zih (n:=2) rfl (by decide) (by decide)) ⟨es0,_,_,_,_,rfl,by omega,.inl rfl⟩ ?_ ?_
   ·rintro pre t post ρ ex ⟨es,v3,v6,v7,v8,rfl,hes,hv3⟩
    have hok : ∀ r∈rs,r.Ok es.length:=fun r hr=>by
     rw [show es.length=n.toNat by omega];exact (hrs r hr).1
    obtain ⟨d,eL,wo,rfl,hp,hend⟩:=z0l n rs es hes n60 (fun r hr=>⟨hok r hr,fun p hp=>by have:=(hrs r hr).2.2 p hp; omega,by have:=(hrs r hr).2.1; omega⟩) (by omega);have eg:=zy5 n rs es hes n60 (by omega) hok hp hend;have ecp:=zwz rs (by omega) (fun r hr=>by have:=(hrs r hr).2.1; omega)
    have hfix : zlf 3 [.im (.kl (ns.map D.int)),.im (.lst (hs.map D.int)),.im (.int n),v3,v4,.own (es.map shD),.im (.int t),v7,v8]=[.im (.kl (ns.map D.int)),.im (.lst (hs.map D.int)),.im (.int n),.im (.lst (rs.map Rul.toD)),v4,.own (es.map shD),.im (.int t),v7,v8]:=by
     rcases hv3 with rfl | rfl <;> rfl
    refine ⟨_,rfl,?_⟩;walk_at "nrm";apply zat;refine zjk hfix ?_;refine zcv (d:=.lst [plD n rs,.lst (es.map shD)]) (zb4 (zas (ze6 (zas rfl (zas (zbk rfl ecp) rfl))) (zas (zb4 rfl) rfl))) ?_;walk_at "nrm";apply zat;refine zcv (zbk (zas (za0 rfl rfl rfl) (zas (za0 rfl rfl rfl) rfl)) eL) ?_;walk_at "nrm";apply zat;refine zjk rfl ?_;refine zca (b:=false) (zic (zgj (b:=true) (zd6 (zkz (zas rfl (zas rfl (zas rfl (zas rfl rfl)))) eg rfl) rfl)) (zc8 (zbm rfl (zb4 (zas (ze6 (zas rfl (zas rfl rfl))) (zas rfl rfl))) (zxg (z4l n rs es))))) (fun z=>by cases z) (fun _=>zcn ?_);walk_at "nrm";walk_at "if0"
    ·intro hb;have hn : 0 < n:=by simpa using hb
     obtain ⟨e,_,ee⟩:=zb5 (f:=shD) (xs:=[some true,some false,none]) (i:=a4 % 3) (Int.emod_nonneg _ (by decide)) (Int.emod_lt_of_pos _ (by decide));have q0:=Int.emod_nonneg a3 (show n≠0 by omega);have q1:=Int.emod_lt_of_pos a3 hn;refine zpu (k:=a3 % n) (xs:=es.map shD) (za0 rfl (zbm (za0 rfl rfl e4) rfl (zk3 (by decide))) ee) (zbm (za0 rfl rfl e3) rfl (zk3 hn)) rfl q0 (by rw [List.length_map]; omega) ?_;refine ⟨es.set (a3 % n).toNat e,.im (.lst (rs.map Rul.toD)),.im (.int t),.im (.lst [plD n rs,.lst (es.map shD)]),.im (.lst ((zb7 wo).map D.int)),by rw [<- z48]; rfl,by rw [List.length_set]; exact hes,.inr rfl⟩
    ·intro _;apply zcn;exact ⟨es,_,_,_,_,rfl,hes,.inr rfl⟩
   ·rintro ρ ⟨es,v3,v6,v7,v8,rfl,hes,hv3⟩;exact ze8 rfl (zc6 rfl)
section
variable {P:Program} {w:World} {K:PySem.W.Frag} {mg:Str->Option Value} {base:Heap}
noncomputable def sp_law (K:PySem.W.Frag) : Sp:=fun vs H Q _=>∃ (a:Addr) (ns:List Int),vs=[.ref a]/\SqL K H a (ns.map V.int)/\ns.length<=63/\∀ H',Q (.bl true) H'
theorem sp_law_of {K:PySem.W.Frag} {H:Hp} {a:Addr} {ns:List Int} {E:XK} (hl:ns.length<=63) (hS:SqL K H a (ns.map V.int)) : sp_law K [.ref a] H (fun v _=>v=.bl true) E:=⟨a,ns,rfl,hS,hl,fun _=>rfl⟩
theorem law_ok {a:Wa} (W:Wd K mg a) : zap P w K mg base CX0 9 a.f_0 a.fd_0 ["_law_script"] (sp_law K):=(z2b W).imp fun vs H Q E ⟨a,ns,ev,hS,hl,k⟩ =>
 ⟨H,[.kl (ns.map D.int)],.bl true,zaf.refl _,⟨.ref a,[],ev,⟨a,_,rfl,hS,zae.ints ns⟩,rfl⟩,rfl,z0g ns hl,fun v Hf' H' x r=>by rw [show v=V.bl true from r]; exact k H'⟩
end
section
variable {K:PySem.W.Frag} {mg:Str->Option Value}
theorem zlp {P:List Value->Prop} (h:P []) : ∀ us : List Value,us.length=0->P us:=fun us e=>by
 rw [List.eq_nil_of_length_eq_zero e];exact h
theorem zfh {n:Nat} {P:List Value->Prop} (h:∀ a (us:List Value),us.length=n->P (a::us)) : ∀ us : List Value,us.length=n + 1->P us:=fun us e=>by
 cases us with
 | nil=>cases e
 | cons a us=>exact h a us (Nat.succ.inj e)
theorem zc7 {P:List Value->Prop} (h:∀ a0 : Value,P [a0]) : ∀ us : List Value,us.length=1->P us:=zfh (P:=fun us=>P (us)) fun a0=>zlp (h a0)
theorem zer {P:List Value->Prop} (h:∀ a0 a1 : Value,P [a0,a1]) : ∀ us : List Value,us.length=2->P us:=zfh (P:=fun us=>P (us)) fun a0=>zfh (P:=fun us=>P (a0::us)) fun a1=>zlp (h a0 a1)
theorem zes {P:List Value->Prop} (h:∀ a0 a1 a2 : Value,P [a0,a1,a2]) : ∀ us : List Value,us.length=3->P us:=zfh (P:=fun us=>P (us)) fun a0=>zfh (P:=fun us=>P (a0::us)) fun a1=>zfh (P:=fun us=>P (a0::a1::us)) fun a2=>zlp (h a0 a1 a2)
theorem zsx {P:List Value->Prop} (h:∀ a0 a1 a2 a3 : Value,P [a0,a1,a2,a3]) : ∀ us : List Value,us.length=4->P us:=zfh (P:=fun us=>P (us)) fun a0=>zfh (P:=fun us=>P (a0::us)) fun a1=>zfh (P:=fun us=>P (a0::a1::us)) fun a2=>zfh (P:=fun us=>P (a0::a1::a2::us)) fun a3=>zlp (h a0 a1 a2 a3)
set_option autoImplicit true in
theorem all_mk {l:W.OpenLaw} {w:World} {h:Heap} {fa:Addr} (X:K.In h) (G:h.Ns mainGlobals mg) (hfa:mg "law"=some (.ref fa))
  (aC_In:W.nsIn K mainGlobals "In"=some (some (.ref C_In)))
  (aC_Out:W.nsIn K mainGlobals "Out"=some (some (.ref C_Out)))
  (aC_Least:W.nsIn K mainGlobals "Least"=some (some (.ref C_Least)))
  (aC_Most:W.nsIn K mainGlobals "Most"=some (some (.ref C_Most)))
  (aC_Spreading:W.nsIn K mainGlobals "Spreading"=some (some (.ref C_Spreading)))
  (a_31:W.nsIn K mainGlobals "numbers"=some (some (.ref f_31)))
  (l_31:K.lookup f_31=some ⟨oc_31,od_31,.func (W.fnOf "numbers" "numbers" (za4 zi5) (zaz zi5) (zai zi5) .none kV_31 dc_31 pm_31 an_31 cd_31 ct_31),sl_31⟩)
  (c_31:W.codeIn K cd_31 "numbers"=true)
  (k_31:W.keepIn K (.ref f_31)=true)
  (a_23:W.nsIn K mainGlobals "part_of"=some (some (.ref f_23)))
  (l_23:K.lookup f_23=some ⟨oc_23,od_23,.func (W.fnOf "part_of" "part_of" (za4 zix) (zaz zix) (zai zix) .none kV_23 dc_23 pm_23 an_23 cd_23 ct_23),sl_23⟩)
  (c_23:W.codeIn K cd_23 "part_of"=true)
  (k_23:W.keepIn K (.ref f_23)=true)
  (a_24:W.nsIn K mainGlobals "things_of"=some (some (.ref f_24)))
  (l_24:K.lookup f_24=some ⟨oc_24,od_24,.func (W.fnOf "things_of" "things_of" (za4 ziy) (zaz ziy) (zai ziy) .none kV_24 dc_24 pm_24 an_24 cd_24 ct_24),sl_24⟩)
  (c_24:W.codeIn K cd_24 "things_of"=true)
  (k_24:W.keepIn K (.ref f_24)=true)
  (a_35:W.nsIn K mainGlobals "worth_in"=some (some (.ref f_35)))
  (l_35:K.lookup f_35=some ⟨oc_35,od_35,.func (W.fnOf "worth_in" "worth_in" (za4 zi9) (zaz zi9) (zai zi9) .none kV_35 dc_35 pm_35 an_35 cd_35 ct_35),sl_35⟩)
  (c_35:W.codeIn K cd_35 "worth_in"=true)
  (k_35:W.keepIn K (.ref f_35)=true)
  (a_32:W.nsIn K mainGlobals "worth_not_out"=some (some (.ref f_32)))
  (l_32:K.lookup f_32=some ⟨oc_32,od_32,.func (W.fnOf "worth_not_out" "worth_not_out" (za4 zi6) (zaz zi6) (zai zi6) .none kV_32 dc_32 pm_32 an_32 cd_32 ct_32),sl_32⟩)
  (c_32:W.codeIn K cd_32 "worth_not_out"=true)
  (k_32:W.keepIn K (.ref f_32)=true)
  (a_36:W.nsIn K mainGlobals "outside"=some (some (.ref f_36)))
  (l_36:K.lookup f_36=some ⟨oc_36,od_36,.func (W.fnOf "outside" "outside" (za4 zja) (zaz zja) (zai zja) .none kV_36 dc_36 pm_36 an_36 cd_36 ct_36),sl_36⟩)
  (c_36:W.codeIn K cd_36 "outside"=true)
  (k_36:W.keepIn K (.ref f_36)=true)
  (a_1:W.nsIn K mainGlobals "body_of"=some (some (.ref f_1)))
  (l_1:K.lookup f_1=some ⟨oc_1,od_1,.func (W.fnOf "body_of" "body_of" (za4 s_1) (zaz s_1) (zai s_1) .none kV_1 dc_1 pm_1 an_1 cd_1 ct_1),sl_1⟩)
  (c_1:W.codeIn K cd_1 "body_of"=true)
  (k_1:W.keepIn K (.ref f_1)=true)
  (a_26:W.nsIn K mainGlobals "guard_of"=some (some (.ref f_26)))
  (l_26:K.lookup f_26=some ⟨oc_26,od_26,.func (W.fnOf "guard_of" "guard_of" (za4 zi0) (zaz zi0) (zai zi0) .none kV_26 dc_26 pm_26 an_26 cd_26 ct_26),sl_26⟩)
  (c_26:W.codeIn K cd_26 "guard_of"=true)
  (k_26:W.keepIn K (.ref f_26)=true)
  (a_27:W.nsIn K mainGlobals "lost_part"=some (some (.ref f_27)))
  (l_27:K.lookup f_27=some ⟨oc_27,od_27,.func (W.fnOf "lost_part" "lost_part" (za4 zi1) (zaz zi1) (zai zi1) .none kV_27 dc_27 pm_27 an_27 cd_27 ct_27),sl_27⟩)
  (c_27:W.codeIn K cd_27 "lost_part"=true)
  (k_27:W.keepIn K (.ref f_27)=true)
  (a_33:W.nsIn K mainGlobals "loose"=some (some (.ref f_33)))
  (l_33:K.lookup f_33=some ⟨oc_33,od_33,.func (W.fnOf "loose" "loose" (za4 zi7) (zaz zi7) (zai zi7) .none kV_33 dc_33 pm_33 an_33 cd_33 ct_33),sl_33⟩)
  (c_33:W.codeIn K cd_33 "loose"=true)
  (k_33:W.keepIn K (.ref f_33)=true)
  (a_11:W.nsIn K mainGlobals "_law_cell_at"=some (some (.ref f_11)))
  (l_11:K.lookup f_11=some ⟨oc_11,od_11,.func (W.fnOf "_law_cell_at" "_law_cell_at" (za4 zik) (zaz zik) (zai zik) .none kV_11 dc_11 pm_11 an_11 cd_11 ct_11),sl_11⟩)
  (c_11:W.codeIn K cd_11 "_law_cell_at"=true)
  (k_11:W.keepIn K (.ref f_11)=true)
  (a_3:W.nsIn K mainGlobals "_law_mixed"=some (some (.ref f_3)))
  (l_3:K.lookup f_3=some ⟨oc_3,od_3,.func (W.fnOf "_law_mixed" "_law_mixed" (za4 s_3) (zaz s_3) (zai s_3) .none kV_3 dc_3 pm_3 an_3 cd_3 ct_3),sl_3⟩)
  (c_3:W.codeIn K cd_3 "_law_mixed"=true)
  (k_3:W.keepIn K (.ref f_3)=true)
  (a_28:W.nsIn K mainGlobals "_law_worth"=some (some (.ref f_28)))
  (l_28:K.lookup f_28=some ⟨oc_28,od_28,.func (W.fnOf "_law_worth" "_law_worth" (za4 zi2) (zaz zi2) (zai zi2) .none kV_28 dc_28 pm_28 an_28 cd_28 ct_28),sl_28⟩)
  (c_28:W.codeIn K cd_28 "_law_worth"=true)
  (k_28:W.keepIn K (.ref f_28)=true)
  (a_25:W.nsIn K mainGlobals "_law_part"=some (some (.ref f_25)))
  (l_25:K.lookup f_25=some ⟨oc_25,od_25,.func (W.fnOf "_law_part" "_law_part" (za4 ziz) (zaz ziz) (zai ziz) .none kV_25 dc_25 pm_25 an_25 cd_25 ct_25),sl_25⟩)
  (c_25:W.codeIn K cd_25 "_law_part"=true)
  (k_25:W.keepIn K (.ref f_25)=true)
  (a_29:W.nsIn K mainGlobals "_law_rule"=some (some (.ref f_29)))
  (l_29:K.lookup f_29=some ⟨oc_29,od_29,.func (W.fnOf "_law_rule" "_law_rule" (za4 zi3) (zaz zi3) (zai zi3) .none kV_29 dc_29 pm_29 an_29 cd_29 ct_29),sl_29⟩)
  (c_29:W.codeIn K cd_29 "_law_rule"=true)
  (k_29:W.keepIn K (.ref f_29)=true)
  (a_12:W.nsIn K mainGlobals "_law_ring"=some (some (.ref f_12)))
  (l_12:K.lookup f_12=some ⟨oc_12,od_12,.func (W.fnOf "_law_ring" "_law_ring" (za4 zil) (zaz zil) (zai zil) .none kV_12 dc_12 pm_12 an_12 cd_12 ct_12),sl_12⟩)
  (c_12:W.codeIn K cd_12 "_law_ring"=true)
  (k_12:W.keepIn K (.ref f_12)=true)
  (a_5:W.nsIn K mainGlobals "_law_copy"=some (some (.ref f_5)))
  (l_5:K.lookup f_5=some ⟨oc_5,od_5,.func (W.fnOf "_law_copy" "_law_copy" (za4 s_5) (zaz s_5) (zai s_5) .none kV_5 dc_5 pm_5 an_5 cd_5 ct_5),sl_5⟩)
  (c_5:W.codeIn K cd_5 "_law_copy"=true)
  (k_5:W.keepIn K (.ref f_5)=true)
  (a_34:W.nsIn K mainGlobals "_law_part_lost"=some (some (.ref f_34)))
  (l_34:K.lookup f_34=some ⟨oc_34,od_34,.func (W.fnOf "_law_part_lost" "_law_part_lost" (za4 zi8) (zaz zi8) (zai zi8) .none kV_34 dc_34 pm_34 an_34 cd_34 ct_34),sl_34⟩)
  (c_34:W.codeIn K cd_34 "_law_part_lost"=true)
  (k_34:W.keepIn K (.ref f_34)=true)
  (a_13:W.nsIn K mainGlobals "_law_holds_up"=some (some (.ref f_13)))
  (l_13:K.lookup f_13=some ⟨oc_13,od_13,.func (W.fnOf "_law_holds_up" "_law_holds_up" (za4 zim) (zaz zim) (zai zim) .none kV_13 dc_13 pm_13 an_13 cd_13 ct_13),sl_13⟩)
  (c_13:W.codeIn K cd_13 "_law_holds_up"=true)
  (k_13:W.keepIn K (.ref f_13)=true)
  (a_30:W.nsIn K mainGlobals "_law_is_set"=some (some (.ref f_30)))
  (l_30:K.lookup f_30=some ⟨oc_30,od_30,.func (W.fnOf "_law_is_set" "_law_is_set" (za4 zi4) (zaz zi4) (zai zi4) .none kV_30 dc_30 pm_30 an_30 cd_30 ct_30),sl_30⟩)
  (c_30:W.codeIn K cd_30 "_law_is_set"=true)
  (k_30:W.keepIn K (.ref f_30)=true)
  (a_6:W.nsIn K mainGlobals "_law_greatest"=some (some (.ref f_6)))
  (l_6:K.lookup f_6=some ⟨oc_6,od_6,.func (W.fnOf "_law_greatest" "_law_greatest" (za4 s_6) (zaz s_6) (zai s_6) .none kV_6 dc_6 pm_6 an_6 cd_6 ct_6),sl_6⟩)
  (c_6:W.codeIn K cd_6 "_law_greatest"=true)
  (k_6:W.keepIn K (.ref f_6)=true)
  (a_0:W.nsIn K mainGlobals "law"=some (some (.ref f_0)))
  (l_0:K.lookup f_0=some ⟨oc_0,od_0,.func (W.fnOf "law" "law" (za4 s_0) (zaz s_0) (zai s_0) .none kV_0 dc_0 pm_0 an_0 cd_0 ct_0),sl_0⟩)
  (c_0:W.codeIn K cd_0 "law"=true)
  (k_0:W.keepIn K (.ref f_0)=true)
  (a_39:W.findIn K (.ref C_In) "__init__"=some (some (.ref f_39)))
  (i_39:W.isFn K (.ref f_39)=true)
  (l_39:K.lookup f_39=some ⟨oc_39,od_39,.func (W.fnOf "__init__" "In.__init__" (za4 zjd) (zaz zjd) (zai zjd) .none kV_39 dc_39 pm_39 an_39 cd_39 ct_39),sl_39⟩)
  (c_39:W.codeIn K cd_39 "In.__init__"=true)
  (k_39:W.keepIn K (.ref f_39)=true)
  (a_14:W.findIn K (.ref C_In) "named"=some (some (.ref f_14)))
  (i_14:W.isFn K (.ref f_14)=true)
  (l_14:K.lookup f_14=some ⟨oc_14,od_14,.func (W.fnOf "named" "In.named" (za4 zin) (zaz zin) (zai zin) .none kV_14 dc_14 pm_14 an_14 cd_14 ct_14),sl_14⟩)
  (c_14:W.codeIn K cd_14 "In.named"=true)
  (k_14:W.keepIn K (.ref f_14)=true)
  (a_15:W.findIn K (.ref C_In) "wants"=some (some (.ref f_15)))
  (i_15:W.isFn K (.ref f_15)=true)
  (l_15:K.lookup f_15=some ⟨oc_15,od_15,.func (W.fnOf "wants" "In.wants" (za4 zio) (zaz zio) (zai zio) .none kV_15 dc_15 pm_15 an_15 cd_15 ct_15),sl_15⟩)
  (c_15:W.codeIn K cd_15 "In.wants"=true)
  (k_15:W.keepIn K (.ref f_15)=true)
  (a_7:W.findIn K (.ref C_In) "lost"=some (some (.ref f_7)))
  (i_7:W.isFn K (.ref f_7)=true)
  (l_7:K.lookup f_7=some ⟨oc_7,od_7,.func (W.fnOf "lost" "In.lost" (za4 s_7) (zaz s_7) (zai s_7) .none kV_7 dc_7 pm_7 an_7 cd_7 ct_7),sl_7⟩)
  (c_7:W.codeIn K cd_7 "In.lost"=true)
  (k_7:W.keepIn K (.ref f_7)=true)
  (a_37:W.findIn K (.ref C_Out) "__init__"=some (some (.ref f_37)))
  (i_37:W.isFn K (.ref f_37)=true)
  (l_37:K.lookup f_37=some ⟨oc_37,od_37,.func (W.fnOf "__init__" "Out.__init__" (za4 zjb) (zaz zjb) (zai zjb) .none kV_37 dc_37 pm_37 an_37 cd_37 ct_37),sl_37⟩)
  (c_37:W.codeIn K cd_37 "Out.__init__"=true)
  (k_37:W.keepIn K (.ref f_37)=true)
  (a_16:W.findIn K (.ref C_Out) "named"=some (some (.ref f_16)))
  (i_16:W.isFn K (.ref f_16)=true)
  (l_16:K.lookup f_16=some ⟨oc_16,od_16,.func (W.fnOf "named" "Out.named" (za4 ziq) (zaz ziq) (zai ziq) .none kV_16 dc_16 pm_16 an_16 cd_16 ct_16),sl_16⟩)
  (c_16:W.codeIn K cd_16 "Out.named"=true)
  (k_16:W.keepIn K (.ref f_16)=true)
  (a_17:W.findIn K (.ref C_Out) "wants"=some (some (.ref f_17)))
  (i_17:W.isFn K (.ref f_17)=true)
  (l_17:K.lookup f_17=some ⟨oc_17,od_17,.func (W.fnOf "wants" "Out.wants" (za4 zir) (zaz zir) (zai zir) .none kV_17 dc_17 pm_17 an_17 cd_17 ct_17),sl_17⟩)
  (c_17:W.codeIn K cd_17 "Out.wants"=true)
  (k_17:W.keepIn K (.ref f_17)=true)
  (a_8:W.findIn K (.ref C_Out) "lost"=some (some (.ref f_8)))
  (i_8:W.isFn K (.ref f_8)=true)
  (l_8:K.lookup f_8=some ⟨oc_8,od_8,.func (W.fnOf "lost" "Out.lost" (za4 s_8) (zaz s_8) (zai s_8) .none kV_8 dc_8 pm_8 an_8 cd_8 ct_8),sl_8⟩)
  (c_8:W.codeIn K cd_8 "Out.lost"=true)
  (k_8:W.keepIn K (.ref f_8)=true)
  (a_38:W.findIn K (.ref C_Least) "__init__"=some (some (.ref f_38)))
  (i_38:W.isFn K (.ref f_38)=true)
  (l_38:K.lookup f_38=some ⟨oc_38,od_38,.func (W.fnOf "__init__" "Least.__init__" (za4 zjc) (zaz zjc) (zai zjc) .none kV_38 dc_38 pm_38 an_38 cd_38 ct_38),sl_38⟩)
  (c_38:W.codeIn K cd_38 "Least.__init__"=true)
  (k_38:W.keepIn K (.ref f_38)=true)
  (a_18:W.findIn K (.ref C_Least) "named"=some (some (.ref f_18)))
  (i_18:W.isFn K (.ref f_18)=true)
  (l_18:K.lookup f_18=some ⟨oc_18,od_18,.func (W.fnOf "named" "Least.named" (za4 zis) (zaz zis) (zai zis) .none kV_18 dc_18 pm_18 an_18 cd_18 ct_18),sl_18⟩)
  (c_18:W.codeIn K cd_18 "Least.named"=true)
  (k_18:W.keepIn K (.ref f_18)=true)
  (a_19:W.findIn K (.ref C_Least) "wants"=some (some (.ref f_19)))
  (i_19:W.isFn K (.ref f_19)=true)
  (l_19:K.lookup f_19=some ⟨oc_19,od_19,.func (W.fnOf "wants" "Least.wants" (za4 zit) (zaz zit) (zai zit) .none kV_19 dc_19 pm_19 an_19 cd_19 ct_19),sl_19⟩)
  (c_19:W.codeIn K cd_19 "Least.wants"=true)
  (k_19:W.keepIn K (.ref f_19)=true)
  (a_9:W.findIn K (.ref C_Least) "lost"=some (some (.ref f_9)))
  (i_9:W.isFn K (.ref f_9)=true)
  (l_9:K.lookup f_9=some ⟨oc_9,od_9,.func (W.fnOf "lost" "Least.lost" (za4 s_9) (zaz s_9) (zai s_9) .none kV_9 dc_9 pm_9 an_9 cd_9 ct_9),sl_9⟩)
  (c_9:W.codeIn K cd_9 "Least.lost"=true)
  (k_9:W.keepIn K (.ref f_9)=true)
  (a_40:W.findIn K (.ref C_Most) "__init__"=some (some (.ref f_40)))
  (i_40:W.isFn K (.ref f_40)=true)
  (l_40:K.lookup f_40=some ⟨oc_40,od_40,.func (W.fnOf "__init__" "Most.__init__" (za4 zje) (zaz zje) (zai zje) .none kV_40 dc_40 pm_40 an_40 cd_40 ct_40),sl_40⟩)
  (c_40:W.codeIn K cd_40 "Most.__init__"=true)
  (k_40:W.keepIn K (.ref f_40)=true)
  (a_20:W.findIn K (.ref C_Most) "named"=some (some (.ref f_20)))
  (i_20:W.isFn K (.ref f_20)=true)
  (l_20:K.lookup f_20=some ⟨oc_20,od_20,.func (W.fnOf "named" "Most.named" (za4 ziu) (zaz ziu) (zai ziu) .none kV_20 dc_20 pm_20 an_20 cd_20 ct_20),sl_20⟩)
  (c_20:W.codeIn K cd_20 "Most.named"=true)
  (k_20:W.keepIn K (.ref f_20)=true)
  (a_21:W.findIn K (.ref C_Most) "wants"=some (some (.ref f_21)))
  (i_21:W.isFn K (.ref f_21)=true)
  (l_21:K.lookup f_21=some ⟨oc_21,od_21,.func (W.fnOf "wants" "Most.wants" (za4 ziv) (zaz ziv) (zai ziv) .none kV_21 dc_21 pm_21 an_21 cd_21 ct_21),sl_21⟩)
  (c_21:W.codeIn K cd_21 "Most.wants"=true)
  (k_21:W.keepIn K (.ref f_21)=true)
  (a_10:W.findIn K (.ref C_Most) "lost"=some (some (.ref f_10)))
  (i_10:W.isFn K (.ref f_10)=true)
  (l_10:K.lookup f_10=some ⟨oc_10,od_10,.func (W.fnOf "lost" "Most.lost" (za4 zij) (zaz zij) (zai zij) .none kV_10 dc_10 pm_10 an_10 cd_10 ct_10),sl_10⟩)
  (c_10:W.codeIn K cd_10 "Most.lost"=true)
  (k_10:W.keepIn K (.ref f_10)=true)
  (a_22:W.findIn K (.ref C_Spreading) "__init__"=some (some (.ref f_22)))
  (i_22:W.isFn K (.ref f_22)=true)
  (l_22:K.lookup f_22=some ⟨oc_22,od_22,.func (W.fnOf "__init__" "Spreading.__init__" (za4 ziw) (zaz ziw) (zai ziw) .none kV_22 dc_22 pm_22 an_22 cd_22 ct_22),sl_22⟩)
  (c_22:W.codeIn K cd_22 "Spreading.__init__"=true)
  (k_22:W.keepIn K (.ref f_22)=true)
  (a_4:W.findIn K (.ref C_Spreading) "take_guard"=some (some (.ref f_4)))
  (i_4:W.isFn K (.ref f_4)=true)
  (l_4:K.lookup f_4=some ⟨oc_4,od_4,.func (W.fnOf "take_guard" "Spreading.take_guard" (za4 s_4) (zaz s_4) (zai s_4) .none kV_4 dc_4 pm_4 an_4 cd_4 ct_4),sl_4⟩)
  (c_4:W.codeIn K cd_4 "Spreading.take_guard"=true)
  (k_4:W.keepIn K (.ref f_4)=true)
  (a_2:W.findIn K (.ref C_Spreading) "loose_marks"=some (some (.ref f_2)))
  (i_2:W.isFn K (.ref f_2)=true)
  (l_2:K.lookup f_2=some ⟨oc_2,od_2,.func (W.fnOf "loose_marks" "Spreading.loose_marks" (za4 s_2) (zaz s_2) (zai s_2) .none kV_2 dc_2 pm_2 an_2 cd_2 ct_2),sl_2⟩)
  (c_2:W.codeIn K cd_2 "Spreading.loose_marks"=true)
  (k_2:W.keepIn K (.ref f_2)=true)
  (pg_In:W.plainGet K C_In Str.empty=true)
  (hd_In:W.hasDictIn K C_In=true)
  (po_In:W.plainOver K C_In=true)
  (sa_In:W.findIn K (.ref C_In) "__setattr__"=some (some (.builtin "object.__setattr__")))
  (mk_In:W.makesIn K C_In=true)
  (kc_In:W.keepIn K (.ref C_In)=true)
  (na_In_thing:W.findIn K (.ref C_In) "thing"=some none)
  (pg_Out:W.plainGet K C_Out Str.empty=true)
  (hd_Out:W.hasDictIn K C_Out=true)
  (po_Out:W.plainOver K C_Out=true)
  (sa_Out:W.findIn K (.ref C_Out) "__setattr__"=some (some (.builtin "object.__setattr__")))
  (mk_Out:W.makesIn K C_Out=true)
  (kc_Out:W.keepIn K (.ref C_Out)=true)
  (na_Out_thing:W.findIn K (.ref C_Out) "thing"=some none)
  (pg_Least:W.plainGet K C_Least Str.empty=true)
  (hd_Least:W.hasDictIn K C_Least=true)
  (po_Least:W.plainOver K C_Least=true)
  (sa_Least:W.findIn K (.ref C_Least) "__setattr__"=some (some (.builtin "object.__setattr__")))
  (mk_Least:W.makesIn K C_Least=true)
  (kc_Least:W.keepIn K (.ref C_Least)=true)
  (na_Least_bound:W.findIn K (.ref C_Least) "bound"=some none)
  (na_Least_pieces:W.findIn K (.ref C_Least) "pieces"=some none)
  (pg_Most:W.plainGet K C_Most Str.empty=true)
  (hd_Most:W.hasDictIn K C_Most=true)
  (po_Most:W.plainOver K C_Most=true)
  (sa_Most:W.findIn K (.ref C_Most) "__setattr__"=some (some (.builtin "object.__setattr__")))
  (mk_Most:W.makesIn K C_Most=true)
  (kc_Most:W.keepIn K (.ref C_Most)=true)
  (na_Most_bound:W.findIn K (.ref C_Most) "bound"=some none)
  (na_Most_pieces:W.findIn K (.ref C_Most) "pieces"=some none)
  (pg_Spreading:W.plainGet K C_Spreading Str.empty=true)
  (hd_Spreading:W.hasDictIn K C_Spreading=true)
  (po_Spreading:W.plainOver K C_Spreading=true)
  (sa_Spreading:W.findIn K (.ref C_Spreading) "__setattr__"=some (some (.builtin "object.__setattr__")))
  (mk_Spreading:W.makesIn K C_Spreading=true)
  (kc_Spreading:W.keepIn K (.ref C_Spreading)=true)
  (na_Spreading_sheet:W.findIn K (.ref C_Spreading) "sheet"=some none)
  (na_Spreading_steps:W.findIn K (.ref C_Spreading) "steps"=some none)
  (na_Spreading_bars:W.findIn K (.ref C_Spreading) "bars"=some none)
  (na_Spreading_guards:W.findIn K (.ref C_Spreading) "guards"=some none)
  (na_Spreading_watches:W.findIn K (.ref C_Spreading) "watches"=some none)
  (na_Spreading_waiting:W.findIn K (.ref C_Spreading) "waiting"=some none)
  (na_Spreading_makers:W.findIn K (.ref C_Spreading) "makers"=some none)
  (kb9:W.kitOne K (.type "NoneType") (.type "bool")=some false)
  (kb4:W.kitOne K (.type "bool") (.type "bool")=some true)
  (ka4:W.kitOne K (.type "int") (.type "bool")=some false)
  (ka2:W.kitOne K (.type "str") (.type "bool")=some false)
  (kb1:W.kitOne K (.type "list") (.type "bool")=some false)
  (kb6:W.kitOne K (.type "tuple") (.type "bool")=some false)
  (ka9:W.kitOne K (.type "dict") (.type "bool")=some false)
  (kb8:W.kitOne K (.type "NoneType") (.type "int")=some false)
  (ka8:W.kitOne K (.type "bool") (.type "int")=some true)
  (ka0:W.kitOne K (.type "int") (.type "int")=some true)
  (ka1:W.kitOne K (.type "str") (.type "int")=some false)
  (ka6:W.kitOne K (.type "list") (.type "int")=some false)
  (kb5:W.kitOne K (.type "tuple") (.type "int")=some false)
  (ka7:W.kitOne K (.type "dict") (.type "int")=some false)
  (kc0:W.kitOne K (.type "NoneType") (.type "list")=some false)
  (kb0:W.kitOne K (.type "bool") (.type "list")=some false)
  (ka5:W.kitOne K (.type "int") (.type "list")=some false)
  (ka3:W.kitOne K (.type "str") (.type "list")=some false)
  (kb3:W.kitOne K (.type "list") (.type "list")=some true)
  (kb7:W.kitOne K (.type "tuple") (.type "list")=some false)
  (kb2:W.kitOne K (.type "dict") (.type "list")=some false)
  (z_any:W.nsIn K mainGlobals "any"=some none)
  (z_bool:W.nsIn K mainGlobals "bool"=some none)
  (z_enumerate:W.nsIn K mainGlobals "enumerate"=some none)
  (z_int:W.nsIn K mainGlobals "int"=some none)
  (z_isinstance:W.nsIn K mainGlobals "isinstance"=some none)
  (z_len:W.nsIn K mainGlobals "len"=some none)
  (z_list:W.nsIn K mainGlobals "list"=some none)
  (z_range:W.nsIn K mainGlobals "range"=some none)
  (z_set:W.nsIn K mainGlobals "set"=some none)
  (z_sorted:W.nsIn K mainGlobals "sorted"=some none)
  (z_sum:W.nsIn K mainGlobals "sum"=some none)
  : ∃ fd : FuncData,(∀ (s:Shared) (v:Value),BindsTo s fd ⟨[v],[]⟩ [("_law_script",v)])/\∃ a : Wa,∃ W : Wd K mg a,a.f_0=fa/\a.fd_0=fd:=by
 have e:=hfa.symm.trans (W.mg_of X G a_0);cases e;have F_31:=za8 (st:=zi5) l_31 c_31 k_31;have F_23:=za8 (st:=zix) l_23 c_23 k_23;have F_24:=za8 (st:=ziy) l_24 c_24 k_24;have F_35:=za8 (st:=zi9) l_35 c_35 k_35;have F_32:=za8 (st:=zi6) l_32 c_32 k_32;have F_36:=za8 (st:=zja) l_36 c_36 k_36;have F_1:=za8 (st:=s_1) l_1 c_1 k_1;have F_26:=za8 (st:=zi0) l_26 c_26 k_26;have F_27:=za8 (st:=zi1) l_27 c_27 k_27;have F_33:=za8 (st:=zi7) l_33 c_33 k_33;have F_11:=za8 (st:=zik) l_11 c_11 k_11;have F_3:=za8 (st:=s_3) l_3 c_3 k_3;have F_28:=za8 (st:=zi2) l_28 c_28 k_28;have F_25:=za8 (st:=ziz) l_25 c_25 k_25;have F_29:=za8 (st:=zi3) l_29 c_29 k_29;have F_12:=za8 (st:=zil) l_12 c_12 k_12;have F_5:=za8 (st:=s_5) l_5 c_5 k_5;have F_34:=za8 (st:=zi8) l_34 c_34 k_34;have F_13:=za8 (st:=zim) l_13 c_13 k_13;have F_30:=za8 (st:=zi4) l_30 c_30 k_30;have F_6:=za8 (st:=s_6) l_6 c_6 k_6;have F_0:=za8 (st:=s_0) l_0 c_0 k_0;have F_39:=za8 (st:=zjd) l_39 c_39 k_39;have F_14:=za8 (st:=zin) l_14 c_14 k_14;have F_15:=za8 (st:=zio) l_15 c_15 k_15;have F_7:=za8 (st:=s_7) l_7 c_7 k_7;have F_37:=za8 (st:=zjb) l_37 c_37 k_37;have F_16:=za8 (st:=ziq) l_16 c_16 k_16;have F_17:=za8 (st:=zir) l_17 c_17 k_17;have F_8:=za8 (st:=s_8) l_8 c_8 k_8;have F_38:=za8 (st:=zjc) l_38 c_38 k_38;have F_18:=za8 (st:=zis) l_18 c_18 k_18;have F_19:=za8 (st:=zit) l_19 c_19 k_19;have F_9:=za8 (st:=s_9) l_9 c_9 k_9;have F_40:=za8 (st:=zje) l_40 c_40 k_40;have F_20:=za8 (st:=ziu) l_20 c_20 k_20;have F_21:=za8 (st:=ziv) l_21 c_21 k_21;have F_10:=za8 (st:=zij) l_10 c_10 k_10;have F_22:=za8 (st:=ziw) l_22 c_22 k_22;have F_4:=za8 (st:=s_4) l_4 c_4 k_4;have F_2:=za8 (st:=s_2) l_2 c_2 k_2
 exact ⟨W.fnOf "law" "law" (za4 s_0) (zaz s_0) (zai s_0) .none kV_0 dc_0 pm_0 an_0 cd_0 ct_0,fun s v=>.of_eq rfl,{
  f_31:=f_31,
  fd_31:=_,
  f_23:=f_23,
  fd_23:=_,
  f_24:=f_24,
  fd_24:=_,
  f_35:=f_35,
  fd_35:=_,
  f_32:=f_32,
  fd_32:=_,
  f_36:=f_36,
  fd_36:=_,
  f_1:=f_1,
  fd_1:=_,
  f_26:=f_26,
  fd_26:=_,
  f_27:=f_27,
  fd_27:=_,
  f_33:=f_33,
  fd_33:=_,
  f_11:=f_11,
  fd_11:=_,
  f_3:=f_3,
  fd_3:=_,
  f_28:=f_28,
  fd_28:=_,
  f_25:=f_25,
  fd_25:=_,
  f_29:=f_29,
  fd_29:=_,
  f_12:=f_12,
  fd_12:=_,
  f_5:=f_5,
  fd_5:=_,
  f_34:=f_34,
  fd_34:=_,
  f_13:=f_13,
  fd_13:=_,
  f_30:=f_30,
  fd_30:=_,
  f_6:=f_6,
  fd_6:=_,
  f_0:=f_0,
  fd_0:=_,
  f_39:=f_39,
  fd_39:=_,
  f_14:=f_14,
  fd_14:=_,
  f_15:=f_15,
  fd_15:=_,
  f_7:=f_7,
  fd_7:=_,
  f_37:=f_37,
  fd_37:=_,
  f_16:=f_16,
  fd_16:=_,
  f_17:=f_17,
  fd_17:=_,
  f_8:=f_8,
  fd_8:=_,
  f_38:=f_38,
  fd_38:=_,
  f_18:=f_18,
  fd_18:=_,
  f_19:=f_19,
  fd_19:=_,
  f_9:=f_9,
  fd_9:=_,
  f_40:=f_40,
  fd_40:=_,
  f_20:=f_20,
  fd_20:=_,
  f_21:=f_21,
  fd_21:=_,
  f_10:=f_10,
  fd_10:=_,
  f_22:=f_22,
  fd_22:=_,
  f_4:=f_4,
  fd_4:=_,
  f_2:=f_2,
  fd_2:=_,
  C_In:=C_In,
  C_Out:=C_Out,
  C_Least:=C_Least,
  C_Most:=C_Most,
  C_Spreading:=C_Spreading },{
  F_31:=F_31,
  b_31:=F_31.binds fun _ _ _ _ _ _ us hl=>by
   revert us hl
   exact zc7 fun _=>rfl,
  g_31:=W.mg_of X G a_31,
  F_23:=F_23,
  b_23:=F_23.binds fun _ _ _ _ _ _ us hl=>by
   revert us hl
   exact zc7 fun _=>rfl,
  g_23:=W.mg_of X G a_23,
  F_24:=F_24,
  b_24:=F_24.binds fun _ _ _ _ _ _ us hl=>by
   revert us hl
   exact zc7 fun _=>rfl,
  g_24:=W.mg_of X G a_24,
  F_35:=F_35,
  b_35:=F_35.binds fun _ _ _ _ _ _ us hl=>by
   revert us hl
   exact zer fun _ _=>rfl,
  g_35:=W.mg_of X G a_35,
  F_32:=F_32,
  b_32:=F_32.binds fun _ _ _ _ _ _ us hl=>by
   revert us hl
   exact zer fun _ _=>rfl,
  g_32:=W.mg_of X G a_32,
  F_36:=F_36,
  b_36:=F_36.binds fun _ _ _ _ _ _ us hl=>by
   revert us hl
   exact zer fun _ _=>rfl,
  g_36:=W.mg_of X G a_36,
  F_1:=F_1,
  b_1:=F_1.binds fun _ _ _ _ _ _ us hl=>by
   revert us hl
   exact zc7 fun _=>rfl,
  g_1:=W.mg_of X G a_1,
  F_26:=F_26,
  b_26:=F_26.binds fun _ _ _ _ _ _ us hl=>by
   revert us hl
   exact zc7 fun _=>rfl,
  g_26:=W.mg_of X G a_26,
  F_27:=F_27,
  b_27:=F_27.binds fun _ _ _ _ _ _ us hl=>by
   revert us hl
   exact zes fun _ _ _=>rfl,
  g_27:=W.mg_of X G a_27,
  F_33:=F_33,
  b_33:=F_33.binds fun _ _ _ _ _ _ us hl=>by
   revert us hl
   exact zer fun _ _=>rfl,
  g_33:=W.mg_of X G a_33,
  F_11:=F_11,
  b_11:=F_11.binds fun _ _ _ _ _ _ us hl=>by
   revert us hl
   exact zer fun _ _=>rfl,
  g_11:=W.mg_of X G a_11,
  F_3:=F_3,
  b_3:=F_3.binds fun _ _ _ _ _ _ us hl=>by
   revert us hl
   exact zer fun _ _=>rfl,
  g_3:=W.mg_of X G a_3,
  F_28:=F_28,
  b_28:=F_28.binds fun _ _ _ _ _ _ us hl=>by
   revert us hl
   exact zc7 fun _=>rfl,
  g_28:=W.mg_of X G a_28,
  F_25:=F_25,
  b_25:=F_25.binds fun _ _ _ _ _ _ us hl=>by
   revert us hl
   exact zer fun _ _=>rfl,
  g_25:=W.mg_of X G a_25,
  F_29:=F_29,
  b_29:=F_29.binds fun _ _ _ _ _ _ us hl=>by
   revert us hl
   exact zes fun _ _ _=>rfl,
  g_29:=W.mg_of X G a_29,
  F_12:=F_12,
  b_12:=F_12.binds fun _ _ _ _ _ _ us hl=>by
   revert us hl
   exact zer fun _ _=>rfl,
  g_12:=W.mg_of X G a_12,
  F_5:=F_5,
  b_5:=F_5.binds fun _ _ _ _ _ _ us hl=>by
   revert us hl
   exact zc7 fun _=>rfl,
  g_5:=W.mg_of X G a_5,
  F_34:=F_34,
  b_34:=F_34.binds fun _ _ _ _ _ _ us hl=>by
   revert us hl
   exact zes fun _ _ _=>rfl,
  g_34:=W.mg_of X G a_34,
  F_13:=F_13,
  b_13:=F_13.binds fun _ _ _ _ _ _ us hl=>by
   revert us hl
   exact zes fun _ _ _=>rfl,
  g_13:=W.mg_of X G a_13,
  F_30:=F_30,
  b_30:=F_30.binds fun _ _ _ _ _ _ us hl=>by
   revert us hl
   exact zer fun _ _=>rfl,
  g_30:=W.mg_of X G a_30,
  F_6:=F_6,
  b_6:=F_6.binds fun _ _ _ _ _ _ us hl=>by
   revert us hl
   exact zsx fun _ _ _ _=>rfl,
  g_6:=W.mg_of X G a_6,
  F_0:=F_0,
  b_0:=F_0.binds fun _ _ _ _ _ _ us hl=>by
   revert us hl
   exact zc7 fun _=>rfl,
  g_0:=W.mg_of X G a_0,
  F_39:=F_39,
  b_39:=F_39.binds fun _ _ _ _ _ _ us hl=>by
   revert us hl
   exact zer fun _ _=>rfl,
  F_14:=F_14,
  b_14:=F_14.binds fun _ _ _ _ _ _ us hl=>by
   revert us hl
   exact zc7 fun _=>rfl,
  F_15:=F_15,
  b_15:=F_15.binds fun _ _ _ _ _ _ us hl=>by
   revert us hl
   exact zc7 fun _=>rfl,
  F_7:=F_7,
  b_7:=F_7.binds fun _ _ _ _ _ _ us hl=>by
   revert us hl
   exact zes fun _ _ _=>rfl,
  F_37:=F_37,
  b_37:=F_37.binds fun _ _ _ _ _ _ us hl=>by
   revert us hl
   exact zer fun _ _=>rfl,
  F_16:=F_16,
  b_16:=F_16.binds fun _ _ _ _ _ _ us hl=>by
   revert us hl
   exact zc7 fun _=>rfl,
  F_17:=F_17,
  b_17:=F_17.binds fun _ _ _ _ _ _ us hl=>by
   revert us hl
   exact zc7 fun _=>rfl,
  F_8:=F_8,
  b_8:=F_8.binds fun _ _ _ _ _ _ us hl=>by
   revert us hl
   exact zes fun _ _ _=>rfl,
  F_38:=F_38,
  b_38:=F_38.binds fun _ _ _ _ _ _ us hl=>by
   revert us hl
   exact zes fun _ _ _=>rfl,
  F_18:=F_18,
  b_18:=F_18.binds fun _ _ _ _ _ _ us hl=>by
   revert us hl
   exact zc7 fun _=>rfl,
  F_19:=F_19,
  b_19:=F_19.binds fun _ _ _ _ _ _ us hl=>by
   revert us hl
   exact zc7 fun _=>rfl,
  F_9:=F_9,
  b_9:=F_9.binds fun _ _ _ _ _ _ us hl=>by
   revert us hl
   exact zes fun _ _ _=>rfl,
  F_40:=F_40,
  b_40:=F_40.binds fun _ _ _ _ _ _ us hl=>by
   revert us hl
   exact zes fun _ _ _=>rfl,
  F_20:=F_20,
  b_20:=F_20.binds fun _ _ _ _ _ _ us hl=>by
   revert us hl
   exact zc7 fun _=>rfl,
  F_21:=F_21,
  b_21:=F_21.binds fun _ _ _ _ _ _ us hl=>by
   revert us hl
   exact zc7 fun _=>rfl,
  F_10:=F_10,
  b_10:=F_10.binds fun _ _ _ _ _ _ us hl=>by
   revert us hl
   exact zes fun _ _ _=>rfl,
  F_22:=F_22,
  b_22:=F_22.binds fun _ _ _ _ _ _ us hl=>by
   revert us hl
   exact zsx fun _ _ _ _=>rfl,
  F_4:=F_4,
  b_4:=F_4.binds fun _ _ _ _ _ _ us hl=>by
   revert us hl
   exact zes fun _ _ _=>rfl,
  F_2:=F_2,
  b_2:=F_2.binds fun _ _ _ _ _ _ us hl=>by
   revert us hl
   exact zc7 fun _=>rfl,
  g_In:=W.mg_of X G aC_In,
  cl_In:=⟨pg_In,hd_In,po_In,sa_In⟩,
  mk_In:=⟨mk_In,a_39,i_39,kc_In⟩,
  na_In_thing:=na_In_thing,
  m_14:=⟨a_14,i_14,k_14⟩,
  m_15:=⟨a_15,i_15,k_15⟩,
  m_7:=⟨a_7,i_7,k_7⟩,
  g_Out:=W.mg_of X G aC_Out,
  cl_Out:=⟨pg_Out,hd_Out,po_Out,sa_Out⟩,
  mk_Out:=⟨mk_Out,a_37,i_37,kc_Out⟩,
  na_Out_thing:=na_Out_thing,
  m_16:=⟨a_16,i_16,k_16⟩,
  m_17:=⟨a_17,i_17,k_17⟩,
  m_8:=⟨a_8,i_8,k_8⟩,
  g_Least:=W.mg_of X G aC_Least,
  cl_Least:=⟨pg_Least,hd_Least,po_Least,sa_Least⟩,
  mk_Least:=⟨mk_Least,a_38,i_38,kc_Least⟩,
  na_Least_bound:=na_Least_bound,
  na_Least_pieces:=na_Least_pieces,
  m_18:=⟨a_18,i_18,k_18⟩,
  m_19:=⟨a_19,i_19,k_19⟩,
  m_9:=⟨a_9,i_9,k_9⟩,
  g_Most:=W.mg_of X G aC_Most,
  cl_Most:=⟨pg_Most,hd_Most,po_Most,sa_Most⟩,
  mk_Most:=⟨mk_Most,a_40,i_40,kc_Most⟩,
  na_Most_bound:=na_Most_bound,
  na_Most_pieces:=na_Most_pieces,
  m_20:=⟨a_20,i_20,k_20⟩,
  m_21:=⟨a_21,i_21,k_21⟩,
  m_10:=⟨a_10,i_10,k_10⟩,
  g_Spreading:=W.mg_of X G aC_Spreading,
  cl_Spreading:=⟨pg_Spreading,hd_Spreading,po_Spreading,sa_Spreading⟩,
  mk_Spreading:=⟨mk_Spreading,a_22,i_22,kc_Spreading⟩,
  na_Spreading_sheet:=na_Spreading_sheet,
  na_Spreading_steps:=na_Spreading_steps,
  na_Spreading_bars:=na_Spreading_bars,
  na_Spreading_guards:=na_Spreading_guards,
  na_Spreading_watches:=na_Spreading_watches,
  na_Spreading_waiting:=na_Spreading_waiting,
  na_Spreading_makers:=na_Spreading_makers,
  m_4:=⟨a_4,i_4,k_4⟩,
  m_2:=⟨a_2,i_2,k_2⟩,
  kb9:=kb9,
  kb4:=kb4,
  ka4:=ka4,
  ka2:=ka2,
  kb1:=kb1,
  kb6:=kb6,
  ka9:=ka9,
  kb8:=kb8,
  ka8:=ka8,
  ka0:=ka0,
  ka1:=ka1,
  ka6:=ka6,
  kb5:=kb5,
  ka7:=ka7,
  kc0:=kc0,
  kb0:=kb0,
  ka5:=ka5,
  ka3:=ka3,
  kb3:=kb3,
  kb7:=kb7,
  kb2:=kb2,
  z_any:=W.mg_none_of X G z_any,
  z_bool:=W.mg_none_of X G z_bool,
  z_enumerate:=W.mg_none_of X G z_enumerate,
  z_int:=W.mg_none_of X G z_int,
  z_isinstance:=W.mg_none_of X G z_isinstance,
  z_len:=W.mg_none_of X G z_len,
  z_list:=W.mg_none_of X G z_list,
  z_range:=W.mg_none_of X G z_range,
  z_set:=W.mg_none_of X G z_set,
  z_sorted:=W.mg_none_of X G z_sorted,
  z_sum:=W.mg_none_of X G z_sum },rfl,rfl⟩
end
end N_k32
theorem PySem.W.Fast.te6762467189942823881 : True:=trivial
theorem PySem.W.Fast.te16059816173702786424 : True:=trivial
theorem PySem.W.Fast.te13587571345723863088 : True:=trivial
theorem PySem.W.Fast.te6635375267682861149 : True:=trivial
theorem PySem.W.Fast.te8651310187306327485 : True:=trivial
theorem PySem.W.Fast.te1355050904187708951 : True:=trivial
theorem PySem.W.Fast.te821809788590874126 : True:=trivial
theorem PySem.W.Fast.te17598261187602305972 : True:=trivial
theorem PySem.W.Fast.te16128273221576333753 : True:=trivial
open PySem PySem.W PyProof.Rows
set_option maxRecDepth 100000 in
set_option maxHeartbeats 0 in
theorem PySem.Challenge.cw_standstill_k32_loose_is_greatest_holds : PySem.Challenge.rw_standstill_k32_loose_is_greatest.Holds := by
 w_on; o_law; k_head; (case hw=>w_witness2)
 k_fill
 refine L2.walk_ofK (l:=PySem.Challenge.rw_standstill_k32_loose_is_greatest) (n:=63) (k:=9) (x:="_law_script") (CX:=L2.CX0) (sp:=N_k32.sp_law) rfl (by decide) rfl ⟨rfl,by decide,by decide⟩ (fun w h Y=>PySem.W.kIn_of Y) ?F (fun _ _ a ns hl _ hS=>N_k32.sp_law_of hl hS) (fun _ _ _ _ z=>z)
 case F =>
  intro w mg fa h KX G hmg
  have TT : ∃ fd : FuncData,(∀ (s:Shared) (v:Value),BindsTo s fd ⟨[v],[]⟩ [("_law_script",v)]) /\ ∃ a : N_k32.Wa,∃ W : N_k32.Wd (L2.KOf KX) mg a,a.f_0=fa /\ a.fd_0=fd:=by
   dsimp only [L2.KOf]
   refine' N_k32.all_mk (l:=PySem.Challenge.rw_standstill_k32_loose_is_greatest) (w:=w) KX G hmg ..
   all_goals first | k_is | kit_is | k_exc | skip
  obtain ⟨fd,hb,a,W,e1,e2⟩:=TT
  subst e1 e2
  exact ⟨_,hb,fun base kb nb=>N_k32.law_ok W⟩
