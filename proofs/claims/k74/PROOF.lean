import PyProof.Rows.All
import Wide.All
import OpenK.AllK
import Wide.FinOn
import Lean
import PyProof.EqAt
import PyProof.EqKinds
import PyProof.TupleCall
import PyProof.NeKinds
import PySem.Challenge.RW_standstill_k74_bodies_read
set_option Elab.async false
set_option genSizeOf false
set_option linter.all false
set_option maxRecDepth 100000
namespace L2
open PySem PySem.Spec PyProof.Rows
noncomputable abbrev Key:=Sum Int Str
noncomputable def zyj : Key->Value->Bool
 | .inl k,v=>Value.isInt k v
 | .inr x,v=>Value.isStrOf x v
noncomputable def z6o (w:World) : Key->Int
 | .inl k=>hashInt k
 | .inr x=>hashStr w x
theorem zhk : ∀ {k:Key} {v:Value},zyj k v=true->(∃ i t,k=Sum.inl i/\v=Value.int i t)\/(∃ x t,k=Sum.inr x/\v=Value.str x t)
 | .inl i,v,h=>by
  obtain ⟨t,e⟩:=Value.isInt_shape (k:=i) (v:=v) h
  exact .inl ⟨i,t,rfl,e⟩
 | .inr x,v,h=>by
  obtain ⟨t,e⟩:=Value.isStrOf_shape (x:=x) (v:=v) h;exact .inr ⟨x,t,rfl,e⟩
theorem z6p (a b:Int) : decide ((Sum.inl a : Key)=Sum.inl b)=(a==b):=by
 by_cases e : a=b
 ·subst e; simp
 ·have h : ¬ (Sum.inl a : Key)=Sum.inl b:=fun q=>e (Sum.inl.inj q);rw [decide_eq_false h];exact (beq_eq_false_iff_ne.mpr e).symm
theorem z6s (a b:Str) : decide ((Sum.inr a : Key)=Sum.inr b)=decide (a=b):=by
 by_cases e : a=b
 ·subst e; simp
 ·have h : ¬ (Sum.inr a : Key)=Sum.inr b:=fun q=>e (Sum.inr.inj q);rw [decide_eq_false h,decide_eq_false e]
theorem z6q (a:Int) (b:Str) : decide ((Sum.inl a : Key)=Sum.inr b)=false:=decide_eq_false (fun q=>nomatch q)
theorem z6r (a:Str) (b:Int) : decide ((Sum.inr a : Key)=Sum.inl b)=false:=decide_eq_false (fun q=>nomatch q)
noncomputable def zt4 (prog:Program) (w:World) : PySem.KeyKind prog w Key where
 is:=zyj
 hash:=z6o w
 inj:=fun v a b ha hb=>by
  rcases zhk ha with ⟨i,t,rfl,rfl⟩ | ⟨x,t,rfl,rfl⟩
  ·rcases zhk hb with ⟨j,u,rfl,e⟩ | ⟨y,u,rfl,e⟩
   ·injection e with e1 _; rw [e1]
   ·exact nomatch e
  ·rcases zhk hb with ⟨j,u,rfl,e⟩ | ⟨y,u,rfl,e⟩
   ·exact nomatch e
   ·injection e with e1 _; rw [e1]
 byValue:=fun k v h=>by
  rcases zhk h with ⟨i,t,rfl,rfl⟩ | ⟨x,t,rfl,rfl⟩ <;> rfl
 pyHash:=fun hv h=>by
  rcases zhk hv with ⟨i,t,rfl,rfl⟩ | ⟨x,t,rfl,rfl⟩
  ·exact wpAny_pyHash_int h
  ·exact wpAny_pyHash_str h
 eqBool:=fun hu hv h=>by
  rcases zhk hu with ⟨i,t,rfl,rfl⟩ | ⟨x,t,rfl,rfl⟩
  ·rcases zhk hv with ⟨j,u,rfl,rfl⟩ | ⟨y,u,rfl,rfl⟩
   ·rw [z6p] at h; exact wpAny_eqBool_int h
   ·rw [z6q] at h; exact SeqAt.EqAt.int_str i t y u _ _ _ _ h
  ·rcases zhk hv with ⟨j,u,rfl,rfl⟩ | ⟨y,u,rfl,rfl⟩
   ·rw [z6r] at h; exact SeqAt.EqAt.str_int x t j u _ _ _ _ h
   ·rw [z6s] at h; exact wpAny_eqBool_str h
 «strs»:=fun k x t v h=>by
  rcases zhk h with ⟨i,u,rfl,e⟩ | ⟨y,u,rfl,e⟩
  ·exact nomatch e
  ·injection e with e1 _
   subst e1
   cases v <;> rfl
inductive V where
 | non | bl (b:Bool) | int (i:Int) | str (x:Str) | byt (b:Array UInt8) | flt (b:UInt64) | ref (a:Addr) | ty (n:String)
 deriving DecidableEq
noncomputable def za5 : V->Value->Prop
 | .non,u=>u=Value.none
 | .bl b,u=>u=Value.bool b
 | .int i,u=>∃ t,u=Value.int i t
 | .str x,u=>∃ t,u=Value.str x t
 | .byt b,u=>∃ t,u=Value.bytes b t
 | .flt b,u=>∃ t,u=Value.float b t
 | .ref a,u=>u=Value.ref a
 | .ty n,u=>u=Value.type n
noncomputable abbrev zaz : List V->List Value->Prop:=Paired za5
theorem zaz.length {xs:List V} {us:List Value} (r:zaz xs us) : xs.length=us.length:=Paired.length r
theorem zaz.get : ∀ {xs:List V} {us:List Value} {i:Nat} {x:V},zaz xs us->xs[i]?=some x->∃ u,us[i]?=some u/\za5 x u
 | _,_,_,_,.nil,e=>by simp at e
 | _,_,0,_,.cons r _,e=>by simp at e; subst e; exact ⟨_,rfl,r⟩
 | _,_,i + 1,x,.cons _ t,e=>by
  obtain ⟨u,h1,h2⟩:=zaz.get (i:=i) (x:=x) t (by simpa using e);exact ⟨u,by simpa using h1,h2⟩
theorem zaz.set {x:V} {u:Value} (r:za5 x u) : ∀ {xs:List V} {us:List Value} (i:Nat),zaz xs us->zaz (xs.set i x) (us.set i u)
 | _,_,_,.nil=>.nil
 | _,_,0,.cons _ t=>.cons r t
 | _,_,i + 1,.cons q t=>.cons q (zaz.set r i t)
theorem zaz.append : ∀ {xs ys:List V} {us ws:List Value},zaz xs us->zaz ys ws->zaz (xs++ys) (us++ws)
 | _,_,_,_,.nil,s=>s
 | _,_,_,_,.cons r t,s=>.cons r (zaz.append t s)
theorem zaz.take : ∀ {xs:List V} {us:List Value} (n:Nat),zaz xs us->zaz (xs.take n) (us.take n)
 | _,_,0,_=>.nil
 | _,_,_ + 1,.nil=>.nil
 | _,_,n + 1,.cons r t=>.cons r (zaz.take n t)
theorem zaz.drop : ∀ {xs:List V} {us:List Value} (n:Nat),zaz xs us->zaz (xs.drop n) (us.drop n)
 | _,_,0,r=>r
 | _,_,_ + 1,.nil=>.nil
 | _,_,n + 1,.cons _ t=>zaz.drop n t
noncomputable def zgr : Option V->Option Value->Prop
 | some v,some u=>za5 v u
 | none,none=>True
 | _,_=>False
noncomputable def KV {κ : Type} : List (κ×V)->List (κ×Value)->Prop:=Paired fun (p:κ×V) (q:κ×Value)=>p.1=q.1/\za5 p.2 q.2
noncomputable def kV : Key->V
 | .inl i=>.int i
 | .inr x=>.str x
inductive HO where
 | lst (xs:List V)
 | tup (xs:List V)
 | dK (kvs:List (Key×V)) | dT (kvs:List (List Key×V))
 | set (S:Int->Bool) (n:Nat)
 | ins (C dx:Addr) (fs:List (Str×V))
 | own (x:Addr)
 | xd (fs:List (Str×V))
 | met (f x:Addr)
 | rng (lo hi:Int)
 | frz (o:Obj) (u:HO)
 | tbl (ps:Array Value)
 | ext (φ : Heap->Prop)
noncomputable abbrev Hp:=Addr->Option HO
noncomputable def upd (H:Hp) (a:Addr) (o:HO) : Hp:=fun b=>if b=a then some o else H b
theorem zcd {H:Hp} {a:Addr} {o:HO} : upd H a o a=some o:=by unfold upd; rw [if_pos rfl]
theorem zbi {H:Hp} {a b:Addr} {o:HO} (h:b≠a) : upd H a o b=H b:=by unfold upd; rw [if_neg h]
theorem zet {H:Hp} {a b:Addr} {o:HO} (h:H a=some o) (h':H b=none) : a≠b:=by
 intro e; subst e; rw [h] at h'; cases h'
section
variable (P:Program) (w:World)
noncomputable def zdz (H:Hp) (h:Heap) (a:Addr) : HO->Prop
 | .lst xs=>xs.length<=sizeLine/\∃ (its:List Value) (n:Nat),zaz xs its/\h.get? a=some { cls:=.type "list",data:=.seq its.toArray n }
 | .tup xs=>xs.length<=sizeLine/\∃ its : List Value,zaz xs its/\IsTup h a its.toArray
 | .dK kvs=>kvs.length<=sizeLine/\(a==sysModules)=false/\∃ vs,KV kvs vs/\h.DictOf (zt4 P w) a vs
 | .dT kvs=>kvs.length<=sizeLine/\(a==sysModules)=false/\∃ xs : List (List Key×Addr×Value),
   Paired (fun (p:List Key×V) (q:List Key×Addr×Value)=>p.1=q.1/\H q.2.1=some (.tup (p.1.map kV))/\za5 p.2 q.2.2) kvs xs /\
   ∃ o es ep,h.get? a=some o/\o.ExactDict/\o.data=.dict es ep/\es.toList=xs.map (entryOfKey (tupleKind (zt4 P w)))/\(xs.map (·.1)).Nodup
 | .set S n=>h.SetOf (intKind P w) a S n
 | .ins C dx fs=>H dx=some (.own a)/\fs.length<=1000/\dx≠a/\h.get? a=some (PySem.W.instObj C dx) /\
   ∃ mA,h.Ns1 dx mA/\(∀ f,zgr (fs.lookup f) (mA f))/\PySem.Within mA (fs.map (·.1))
 | .own _=>∃ o,h.get? a=some o
 | .xd fs=>∃ mA,h.Ns1 a mA/\∀ f,zgr (fs.lookup f) (mA f)
 | .rng lo hi=>∃ t u v,h.get? a=some { cls:=.type "range",data:=.fields #[.int lo t,.int hi u,.int 1 v] }
 | .frz o u=>h.get? a=some o/\zdz H h a u
 | .tbl ps=>h.get? a=some { cls:=.none,data:=.fields ps }
 | .met f x=>h.get? a=some (PySem.W.methodObj (.ref f) (.ref x))
 | .ext φ=>φ h/\(∃ o,h.get? a=some o)/\∀ h1 h2 : Heap,φ h1->(∀ o,h1.get? a=some o->h2.get? a=some o)->φ h2
noncomputable def HOk (H:Hp) (h:Heap) : Prop:=∀ a o,H a=some o->zdz P w H h a o
end
section
variable {P:Program} {w:World} {H H':Hp} {h h':Heap} {a:Addr} {o:HO}
theorem zdz.lt (x:zdz P w H h a o) : a < h.objs.size:=by
 cases o with
 | lst xs=>obtain ⟨_,_,_,_,e⟩:=x; exact Heap.lt_size e
 | tup xs=>obtain ⟨_,_,_,p⟩:=x; exact p.lt
 | dK kvs=>obtain ⟨_,_,_,_,o,_,_,e,_⟩:=x; exact Heap.lt_size e
 | dT kvs=>obtain ⟨_,_,_,_,o,_,_,e,_⟩:=x; exact Heap.lt_size e
 | set S n=>obtain ⟨o,_,_,_,e,_⟩:=x; exact Heap.lt_size e
 | ins C dx fs=>obtain ⟨_,_,_,e,_⟩:=x; exact Heap.lt_size e
 | own y=>obtain ⟨_,e⟩:=x; exact Heap.lt_size e
 | xd fs=>obtain ⟨_,⟨_,_,_,e,_⟩,_⟩:=x; exact Heap.lt_size e
 | rng lo hi=>obtain ⟨_,_,_,e⟩:=x; exact Heap.lt_size e
 | frz ob u=>obtain ⟨e,_⟩:=x; exact Heap.lt_size e
 | tbl ps=>exact Heap.lt_size (show h.get? a=some _ from x)
 | met f y=>exact Heap.lt_size (show h.get? a=some _ from x)
 | ext φ=>obtain ⟨_,⟨_,e⟩,_⟩:=x; exact Heap.lt_size e
theorem Paired.mapP {α β : Type} {F G:α->β->Prop} : ∀ {l₁:List α} {l₂:List β},Paired F l₁ l₂->(∀ a b,F a b->G a b)->Paired G l₁ l₂
 | _,_,.nil,_=>.nil
 | _,_,.cons r t,f=>.cons (f _ _ r) (Paired.mapP t f)
theorem zdz.stay (x:zdz P w H h a o) (k:∀ b u,(b=a\/H b=some (.own a))->h.get? b=some u->h'.get? b=some u)
  (ho:∀ b,H b=some (.own a)->H' b=some (.own a)) (ht:∀ b xs,H b=some (.tup xs)->H' b=some (.tup xs)) : zdz P w H' h' a o:=by
 induction o with
 | lst xs=>obtain ⟨z,its,n,r,e⟩:=x; exact ⟨z,its,n,r,k _ _ (.inl rfl) e⟩
 | tup xs=>obtain ⟨z,its,r,ob,e,c⟩:=x; exact ⟨z,its,r,ob,k _ _ (.inl rfl) e,c⟩
 | dK kvs=>obtain ⟨z,y,vs,r,ob,es,ep,e,c⟩:=x; exact ⟨z,y,vs,r,ob,es,ep,k _ _ (.inl rfl) e,c⟩
 | dT kvs =>
  obtain ⟨z,y,xs,r,ob,es,ep,e,c⟩:=x
  exact ⟨z,y,xs,Paired.mapP r fun p q z=>⟨z.1,ht _ _ z.2.1,z.2.2⟩,ob,es,ep,k _ _ (.inl rfl) e,c⟩
 | set S n=>obtain ⟨ob,es,ep,t,e,c⟩:=x; exact ⟨ob,es,ep,t,k _ _ (.inl rfl) e,c⟩
 | ins C dx fs =>
  obtain ⟨d,z,ne,e,mA,⟨od,es,ep,e2,c⟩,r⟩:=x
  exact ⟨ho _ d,z,ne,k _ _ (.inl rfl) e,mA,⟨od,es,ep,k _ _ (.inr d) e2,c⟩,r⟩
 | own y=>obtain ⟨ob,e⟩:=x; exact ⟨ob,k _ _ (.inl rfl) e⟩
 | xd fs=>obtain ⟨mA,⟨od,es,ep,e,c⟩,r⟩:=x; exact ⟨mA,⟨od,es,ep,k _ _ (.inl rfl) e,c⟩,r⟩
 | rng lo hi=>obtain ⟨t,u,v,e⟩:=x; exact ⟨t,u,v,k _ _ (.inl rfl) e⟩
 | frz ob u ih=>obtain ⟨e,q⟩:=x; exact ⟨k _ _ (.inl rfl) e,ih q⟩
 | tbl ps =>
  have e : h.get? a=some { cls:=.none,data:=.fields ps }:=x;show h'.get? a=some { cls:=.none,data:=.fields ps }
  exact k a _ (.inl rfl) e
 | met f y =>
  have e : h.get? a=some (PySem.W.methodObj (.ref f) (.ref y)):=x;show h'.get? a=some (PySem.W.methodObj (.ref f) (.ref y))
  exact k a _ (.inl rfl) e
 | ext φ=>obtain ⟨p,⟨o,e⟩,st⟩:=x; exact ⟨st _ _ p fun o q=>k _ _ (.inl rfl) q,⟨o,k _ _ (.inl rfl) e⟩,st⟩
theorem HOk.lt (x:HOk P w H h) (e:H a=some o) : a < h.objs.size:=(x a o e).lt
theorem HOk.fresh (x:HOk P w H h) (e:h.objs.size<=a) : H a=none:=by
 cases q : H a with
 | none=>rfl
 | some u=>exact absurd (Nat.lt_of_lt_of_le (x.lt q) e) (Nat.lt_irrefl _)
theorem HOk.kept (x:HOk P w H h) (k:∀ b u,h.get? b=some u->h'.get? b=some u) : HOk P w H h':=fun a o e =>
 (x a o e).stay (fun b u _ q=>k b u q) (fun _ q=>q) fun _ _ q=>q
theorem HOk.laid (x:HOk P w H h) (k:∀ b u,h.get? b=some u->h'.get? b=some u) (hp:h.objs.size<=a) (new:zdz P w (upd H a o) h' a o) : HOk P w (upd H a o) h':=fun b u e=>by
 have hn:=x.fresh hp
 by_cases hb : b=a
 ·subst hb; rw [zcd] at e; cases e; exact new
 ·rw [zbi hb] at e;exact (x b u e).stay (fun c v _ q=>k c v q) (fun c q=>by rw [zbi (zet q hn)]; exact q) fun c xs q=>by rw [zbi (zet q hn)]; exact q
end
noncomputable def Rd (H:Hp) (a:Addr) (u:HO) : Prop:=H a=some u\/∃ o,H a=some (.frz o u)
theorem Rd.ok {P:Program} {w:World} {H:Hp} {h:Heap} {a:Addr} {u:HO} (r:Rd H a u) (x:HOk P w H h) : zdz P w H h a u:=by
 rcases r with r | ⟨o,r⟩
 ·exact x a u r
 ·obtain ⟨_,q⟩:=x a _ r;exact q
noncomputable def Mut : Option HO->Prop
 | some (.lst _)=>True
 | some (.dK _)=>True
 | some (.dT _)=>True
 | some (.set _ _)=>True
 | some (.ins _ _ _)=>True
 | some (.ext _)=>True
 | _=>False
section
variable {P:Program} {w:World} {H:Hp} {h h':Heap} {x e:Addr} {o':HO}
theorem HOk.write (ok:HOk P w H h) (mu:Mut (H x)) (he:e=x\/H e=some (.own x)) (k:∀ b u,b≠e->h.get? b=some u->h'.get? b=some u) (heo:∃ u,h'.get? e=some u)
  (new:zdz P w (upd H x o') h' x o') : HOk P w (upd H x o') h':=fun b u q=>by
 have nown : ∀ c y,H c=some (.own y)->c≠x:=fun c y r z=>by subst z; rw [r] at mu; exact mu
 have ntup : ∀ c xs,H c=some (.tup xs)->c≠x:=fun c xs r z=>by subst z; rw [r] at mu; exact mu
 by_cases hb : b=x
 ·subst hb; rw [zcd] at q; cases q; exact new
 ·rw [zbi hb] at q
  by_cases hbe : b=e
  ·have q' : H b=some (.own x):=by
    rcases he with z | z
    ·exact absurd (hbe.trans z) hb
    ·rw [hbe]; exact z
   rw [q] at q'; cases q';obtain ⟨v,hv⟩:=heo;exact ⟨v,by rw [hbe]; exact hv⟩
  ·refine (ok b u q).stay (fun c v hc r=>k c v ?_ r) (fun c r=>by rw [zbi (nown c b r)]; exact r) fun c xs r=>by rw [zbi (ntup c xs r)]; exact r
   rcases hc with rfl | hc
   ·exact hbe
   ·rintro rfl
    rcases he with z | z
    ·exact nown c b hc z
    ·rw [hc] at z; cases z; exact hb rfl
end
structure Un (fs ex:List Addr) (H H':Hp) (h h':Heap) : Prop where
 keep : ∀ b o,h.get? b=some o->H b=none->b∉fs->b∉ex->h'.get? b=some o
 slot : ∀ b o,h.get? b=some o->H b=none->b∈fs->b∉ex->∃ sl,h'.get? b=some { o with slots:=sl }
 free : ∀ b o,h.get? b=some o->H b=none->b∉ex->H' b=none
 there : ∀ b o,h.get? b=some o->b∉ex->∃ o',h'.get? b=some o'
 tups : ∀ b xs,H b=some (.tup xs)->H' b=some (.tup xs)
 frzs : ∀ b o u,H b=some (.frz o u)->H' b=some (.frz o u)
 tbls : ∀ b ps,H b=some (.tbl ps)->∃ more,H' b=some (.tbl (ps++more))
section
variable {fs fs' ex ex':List Addr} {H H1 H2:Hp} {h h1 h2 h':Heap} {a x e:Addr} {o:HO}
theorem Un.any (u:Un fs ex H H1 h h1) {b:Addr} {ob:Obj} (q:h.get? b=some ob) (n:H b=none) (hx:b∉ex) : ∃ sl,h1.get? b=some { ob with slots:=sl }:=by
 by_cases hb : b∈fs
 ·exact u.slot b ob q n hb hx
 ·exact ⟨ob.slots,u.keep b ob q n hb hx⟩
theorem Un.kept (k:∀ b u,h.get? b=some u->h'.get? b=some u) : Un fs ex H H h h' :=
 ⟨fun b ob q _ _ _=>k b ob q,fun b ob q _ _ _=>⟨ob.slots,k b ob q⟩,fun _ _ _ n _=>n,fun b ob q _=>⟨ob,k b ob q⟩,fun _ _ q=>q,fun _ _ _ q=>q,fun _ ps q=>⟨#[],by rw [q]; simp⟩⟩
theorem Un.refl : Un fs ex H H h h:=Un.kept fun _ _ q=>q
theorem Un.laid (k:∀ b u,h.get? b=some u->h'.get? b=some u) (hp:h.objs.size<=a) (hn:H a=none) : Un fs ex H (upd H a o) h h' where
 keep:=fun b u q _ _ _=>k b u q
 slot:=fun b u q _ _ _=>⟨u.slots,k b u q⟩
 free:=fun b u q n _=>by rw [zbi (Nat.ne_of_lt (Nat.lt_of_lt_of_le (Heap.lt_size q) hp))]; exact n
 there:=fun b u q _=>⟨u,k b u q⟩
 tups:=fun b xs q=>by rw [zbi (zet q hn)]; exact q
 frzs:=fun b u xs q=>by rw [zbi (zet q hn)]; exact q
 tbls:=fun b ps q=>⟨#[],by rw [zbi (zet q hn),q]; simp⟩
theorem Un.write (mu:Mut (H x)) (he:e=x\/H e=some (.own x)) (k:∀ b u,b≠e->h.get? b=some u->h'.get? b=some u) (heo:∃ u,h'.get? e=some u) : Un fs ex H (upd H x o) h h':=by
 have hx : ∀ b,H b=none->b≠x:=fun b n z=>by subst z; rw [n] at mu; exact mu
 have hb : ∀ b,H b=none->b≠e:=fun b n z=>by
  subst z
  rcases he with r | r
  ·exact hx b n r
  ·rw [n] at r; cases r
 have hm : ∀ b u,H b=some u->¬ Mut (some u)->b≠x:=fun b u q nm z=>by subst z; rw [q] at mu; exact nm mu
 refine ⟨fun b u q n _ _=>k b u (hb b n) q,fun b u q n _ _=>⟨u.slots,k b u (hb b n) q⟩,fun b u q n _=>by rw [zbi (hx b n)]; exact n,fun b u q _=>?_,
  fun b xs q=>by rw [zbi (hm b _ q fun z=>z)]; exact q,fun b u xs q=>by rw [zbi (hm b _ q fun z=>z)]; exact q,fun b ps q=>⟨#[],by rw [zbi (hm b _ q fun z=>z),q]; simp⟩⟩
 by_cases hbe : b=e
 ·subst hbe; exact heo
 ·exact ⟨u,k b u hbe q⟩
end
noncomputable def trk (h:Heap) (H:Hp) : List Addr:=(List.range h.objs.size).filter fun a=>(H a).isSome
noncomputable def zhj (h:Heap) (H:Hp) : Heap:=PySem.W.hideAll h (trk h H)
theorem z51 (h:Heap) (H:Hp) : (zhj h H).objs.size=h.objs.size:=PySem.W.hideAll_size _ _
theorem z50 {h:Heap} {H:Hp} {b:Addr} {o:Obj} (e:h.get? b=some o) (n:H b=none) : (zhj h H).get? b=some o :=
 PySem.W.hideAll_get _ e fun hm=>by
  have q : (H b).isSome=true:=(List.mem_filter.mp hm).2;rw [n] at q; simp at q
theorem z8b {h:Heap} {H:Hp} {b:Addr} {o:Obj} (e:(zhj h H).get? b=some o) : h.get? b=some o/\H b=none:=by
 have e' : h.get? b=some o:=PySem.W.of_hideAll (trk h H) e;refine ⟨e',?_⟩
 cases q : H b with
 | none=>rfl
 | some x =>
  have hm : b∈trk h H:=List.mem_filter.mpr ⟨List.mem_range.mpr (Heap.lt_size e'),by simp [q]⟩;have z : (zhj h H).get? b=none:=PySem.W.hideAll_none (trk h H) hm;rw [z] at e; cases e
noncomputable def z3h (g h:Heap) (L:Addr) : List (Addr×Obj):=(List.range h.objs.size).filterMap fun a=>if a=L\/(g.get? a).isSome=true then none else (h.get? a).map fun o=>(a,o)
noncomputable def zbp (g h:Heap) (L d:Addr) : List (Addr×Obj):=(z3h g h L).filter fun p=>decide (p.1≠d)
structure Mod (K:W.Frag) (mg:Str->Option Value) (base:Heap) : Prop where
 kin : K.In base
 glob : base.Ns mainGlobals mg
 blt : ∃ mb,base.Ns builtinsNs mb/\∀ x : Str,x ≠ "__name__" -> mb x=bootBuiltins x
 nolimit : base.NoLimit
set_option genInjectivity false in
structure Cx where
 prog : Program
 w : World
 K : PySem.W.Frag
 mg : Str->Option Value
 base : Heap
 A : Around
 N : List Str
 s₀ : Shared
 H₀ : Hp
 env : Env
 outer : List Env
 stack : List Env
 ex : List Addr
 fn : Str->Bool
 calm : Bool
 pn : List (Addr×Obj)
 xe : Value->Shared->Prop
noncomputable def frs (l:List Env) : List Addr:=l.filterMap (·.frame)
noncomputable abbrev Cx.fs (X:Cx) : List Addr:=frs X.outer
noncomputable def Vis (sc:Scope) (x:Str) : Prop:=sc.names.lookup x=some .local\/sc.names.lookup x=some .cell\/sc.names.lookup x=some .free
noncomputable def Loc (sc:Scope) (x:Str) : Prop:=sc.names.lookup x=some .local\/sc.names.lookup x=some .cell
noncomputable def z3e (env:Env) (h:Heap) (m:Str->Option Value) (x:Str) (u:Value) : Prop :=
 (env.kindOf x=some .local/\m x=some u)\/((env.kindOf x=some .cell\/env.kindOf x=some .free)/\∃ c,env.cells.lookup x=some c/\h.IsCell c (some u))
structure Cx.Ok (X:Cx) : Prop where
 mod : Mod X.K X.mg X.base
 kind : X.env.scope.kind=.function
 glob : X.env.globals=mainGlobals
 blt : X.env.builtins=builtinsNs
 above : X.s₀.heap.objs.size<=X.env.locals
 inj : ∀ x y c,X.env.cells.lookup x=some c->X.env.cells.lookup y=some c->x=y
 has : ∀ x,(X.env.kindOf x=some .cell\/X.env.kindOf x=some .free)->∃ c,X.env.cells.lookup x=some c
 cab : ∀ x c,X.fn x=true->X.env.cells.lookup x=some c->X.s₀.heap.objs.size<=c
 hd : X.calm=true->X.A.handled=none
 frames : X.A.frames=some X.stack
 stk : X.stack=X.outer\/(X.stack=X.env::X.outer/\X.env.frame=some X.env.locals)
 exf : ∀ b∈X.ex,b≠X.env.locals/\∀ x c,X.env.cells.lookup x=some c->c≠b
 bs : ∀ b o,X.base.get? b=some o->X.s₀.heap.get? b=some o/\X.H₀ b=none
 bsz : X.base.objs.size<=X.s₀.heap.objs.size
 noex : ∀ b o,X.base.get? b=some o->b∉X.ex
 exfs : ∀ b∈X.ex,b∉X.fs
 funs : X.s₀.heap.FunFrames X.base X.outer
 frf : ∀ b∈X.fs,X.H₀ b=none
structure Inv (X:Cx) (pins:List (Addr×Obj)) (σ:List (Option V)) (H:Hp) (s:Shared) : Prop where
 ok : X.Ok
 os : s.os=X.s₀.os
 bare : AllBare s.gens
 base : Un X.fs X.ex X.H₀ H X.s₀.heap s.heap
 loc : ∃ m,s.heap.Ns X.env.locals m/\∀ (i:Nat) (x:Str) (v:V),X.N[i]?=some x->σ[i]?=some (some v)->Vis X.env.scope x->∃ u,za5 v u/\z3e X.env s.heap m x u
 cell : ∀ x c,X.env.cells.lookup x=some c->∃ v,s.heap.IsCell c v
 free : H X.env.locals=none
 freeC : ∀ x c,X.env.cells.lookup x=some c->H c=none
 pin : ∀ p∈X.pn++pins,s.heap.get? p.1=some p.2/\H p.1=none/\p.1≠X.env.locals/\p.1∉X.fs/\∀ v,p.2.data≠.cell v
 hok : HOk X.prog X.w H s.heap
 len : σ.length=X.N.length
section
variable {X:Cx} {pins:List (Addr×Obj)} {σ:List (Option V)} {H H':Hp} {s:Shared} {h':Heap}
theorem Cx.Ok.nofr (ok:X.Ok) {b:Addr} {o:Obj} (e:X.base.get? b=some o) : b∉X.fs:=fun hb=>by
 have:=(ok.funs.mem hb).1;rw [e] at this; cases this
theorem Inv.bs (I:Inv X pins σ H s) : ∀ b o,X.base.get? b=some o->s.heap.get? b=some o/\H b=none:=fun b o e =>
 ⟨I.base.keep b o (I.ok.bs b o e).1 (I.ok.bs b o e).2 (I.ok.nofr e) (I.ok.noex b o e),I.base.free b o (I.ok.bs b o e).1 (I.ok.bs b o e).2 (I.ok.noex b o e)⟩
theorem Inv.bk (I:Inv X pins σ H s) : ∀ b o,X.base.get? b=some o->s.heap.get? b=some o:=fun b o e=>(I.bs b o e).1
theorem Inv.mod (I:Inv X pins σ H s) : Mod X.K X.mg X.base:=I.ok.mod
theorem Inv.kIn (I:Inv X pins σ H s) : X.K.In s.heap:=I.ok.mod.kin.keeps I.bk
theorem Inv.lt (I:Inv X pins σ H s) : X.env.locals < s.heap.objs.size:=let ⟨_,hn,_⟩:=I.loc; hn.lt
theorem Inv.sz (I:Inv X pins σ H s) : X.s₀.heap.objs.size<=s.heap.objs.size:=Nat.le_trans I.ok.above (Nat.le_of_lt I.lt)
theorem Inv.nofs (I:Inv X pins σ H s) {a:Addr} (h:s.heap.objs.size<=a) : a∉X.fs:=fun hb=>by
 obtain ⟨_,o,ho,_⟩:=I.ok.funs.mem hb;exact absurd (Nat.lt_of_lt_of_le (Heap.lt_size ho) (Nat.le_trans I.sz h)) (Nat.lt_irrefl _)
theorem Inv.cne (I:Inv X pins σ H s) : ∀ x c,X.env.cells.lookup x=some c->c≠X.env.locals:=fun x c e z=>by
 obtain ⟨v,o,ho,hd⟩:=I.cell x c e;obtain ⟨m,⟨o',es,ep,ho',hd',_⟩,_⟩:=I.loc;rw [z,ho'] at ho; cases ho; rw [hd'] at hd; cases hd
theorem Inv.funs (I:Inv X pins σ H s) : s.heap.FunFrames X.base X.outer:=by
 have all : ∀ (l:List Env),(∀ b∈frs l,b∈X.fs)->X.s₀.heap.FunFrames X.base l->s.heap.FunFrames X.base l:=by
  intro l
  induction l with
  | nil=>intro _ _; trivial
  | cons env r ih =>
   intro hs hl;obtain ⟨hk,⟨L,o,hf,hn,ho,hd⟩,hr⟩:=hl;have hL : L∈X.fs:=hs L (by unfold frs; rw [List.filterMap_cons,hf]; exact List.mem_cons_self);obtain ⟨sl,e⟩:=I.base.slot L o ho (I.ok.frf L hL) hL fun z=>I.ok.exfs L z hL;exact ⟨hk,⟨L,_,hf,hn,e,hd⟩,ih (fun b hb=>hs b (by unfold frs; rw [List.filterMap_cons,hf]; exact List.mem_cons_of_mem _ hb)) hr⟩
 exact all X.outer (fun _ hb=>hb) I.ok.funs
theorem Inv.stack (I:Inv X pins σ H s) : s.heap.FunFrames X.base X.stack:=by
 rcases I.ok.stk with e | ⟨e,hf⟩
 ·rw [e]; exact I.funs
 ·rw [e];obtain ⟨m,hn,_⟩:=I.loc;refine .cons (by rw [I.ok.kind]; decide) hf hn ?_ I.funs;exact Heap.get?_none_of_le (Nat.le_trans I.ok.bsz I.ok.above)
theorem Inv.stkSub (I:Inv X pins σ H s) : ∀ b∈frs X.stack,b∈X.env.locals::X.fs:=fun b hb=>by
 rcases I.ok.stk with e | ⟨e,hf⟩
 ·rw [e] at hb; exact List.mem_cons_of_mem _ hb
 ·rw [e] at hb;unfold frs at hb;rw [List.filterMap_cons,hf] at hb;exact hb
theorem Inv.stkFree (I:Inv X pins σ H s) : ∀ b∈frs X.stack,H b=none:=fun b hb=>by
 rcases List.mem_cons.mp (I.stkSub b hb) with e | hb
 ·rw [e]; exact I.free
 ·obtain ⟨_,o,ho,_⟩:=I.ok.funs.mem hb;exact I.base.free b o ho (I.ok.frf b hb) fun z=>I.ok.exfs b z hb
theorem Inv.step {g':Array GenState} {t':Nat} {d':Drawn} {ch:List Addr} (I:Inv X pins σ H s)
  (hch:∀ b∈ch,(b∈X.ex\/X.s₀.heap.objs.size<=b)/\b≠X.env.locals/\(∀ x c,X.env.cells.lookup x=some c->c≠b)/\∀ p∈X.pn++pins,p.1≠b)
  (keep:∀ b o,b≠X.env.locals->b∉X.fs->b∉ch->s.heap.get? b=some o->H b=none->h'.get? b=some o)
  (slot:∀ b o,b≠X.env.locals->b∈X.fs->b∉ch->s.heap.get? b=some o->H b=none->∃ sl,h'.get? b=some { o with slots:=sl }) (free:∀ b o,b∉ch->s.heap.get? b=some o->H b=none->H' b=none)
  (there:∀ b o,b∉ch->s.heap.get? b=some o->∃ o',h'.get? b=some o')
  (tups:∀ b xs,H b=some (.tup xs)->H' b=some (.tup xs)) (frzs:∀ b o u,H b=some (.frz o u)->H' b=some (.frz o u)) (tbls:∀ b ps,H b=some (.tbl ps)->∃ more,H' b=some (.tbl (ps++more)))
  (ns:∀ m,s.heap.Ns X.env.locals m->h'.Ns X.env.locals m) (hok:HOk X.prog X.w H' h') (hg:AllBare g') :
  Inv X pins σ H' { s with heap:=h',gens:=g',drawn:=d',toks:=t' }:=by
 have neL : ∀ b o,X.s₀.heap.get? b=some o->b≠X.env.locals:=fun b o e=>Nat.ne_of_lt (Nat.lt_of_lt_of_le (Heap.lt_size e) I.ok.above)
 have neC : ∀ b o,X.s₀.heap.get? b=some o->b∉X.ex->b∉ch:=fun b o e hx hb=>by
  rcases (hch b hb).1 with z | z
  ·exact hx z
  ·exact absurd (Nat.lt_of_lt_of_le (Heap.lt_size e) z) (Nat.lt_irrefl _)
 have cellK : ∀ x c,X.env.cells.lookup x=some c->∀ v,s.heap.IsCell c v->h'.IsCell c v:=fun x c e v ⟨o,ho,hd⟩=>by
  have nch : c∉ch:=fun z=>(hch c z).2.2.1 x c e rfl
  by_cases hc : c∈X.fs
  ·obtain ⟨sl,q⟩:=slot c o (I.cne x c e) hc nch ho (I.freeC x c e);exact ⟨_,q,hd⟩
  ·exact ⟨o,keep c o (I.cne x c e) hc nch ho (I.freeC x c e),hd⟩
 refine ⟨I.ok,I.os,hg,⟨fun b o e n hb hx=>?_,fun b o e n hb hx=>?_,fun b o e n hx=>?_,fun b o e hx=>?_,fun b xs e=>tups b xs (I.base.tups b xs e),fun b o xs e=>frzs b o xs (I.base.frzs b o xs e),fun b ps e=>?_⟩,?_,fun x c e=>?_,?_,fun x c e=>?_,fun p hp=>?_,hok,I.len⟩
 ·exact keep b o (neL b o e) hb (neC b o e hx) (I.base.keep b o e n hb hx) (I.base.free b o e n hx)
 ·obtain ⟨sl,e1⟩:=I.base.slot b o e n hb hx;obtain ⟨sl',e2⟩:=slot b _ (neL b o e) hb (neC b o e hx) e1 (I.base.free b o e n hx);exact ⟨sl',e2⟩
 ·obtain ⟨o',e1⟩:=I.base.there b o e hx;exact free b o' (neC b o e hx) e1 (I.base.free b o e n hx)
 ·obtain ⟨o',e1⟩:=I.base.there b o e hx;exact there b o' (neC b o e hx) e1
 ·obtain ⟨m1,e1⟩:=I.base.tbls b ps e;obtain ⟨m2,e2⟩:=tbls b _ e1;exact ⟨m1++m2,by rw [e2,Array.append_assoc]⟩
 ·obtain ⟨m,hn,hl⟩:=I.loc;refine ⟨m,ns m hn,fun i x v e1 e2 e3=>?_⟩;obtain ⟨u,r,l⟩:=hl i x v e1 e2 e3;refine ⟨u,r,?_⟩
  rcases l with l | ⟨k,c,e,z⟩
  ·exact .inl l
  ·exact .inr ⟨k,c,e,cellK x c e _ z⟩
 ·obtain ⟨v,z⟩:=I.cell x c e;exact ⟨v,cellK x c e v z⟩
 ·obtain ⟨m,⟨o,_,_,ho,_⟩,_⟩:=I.loc;exact free _ o (fun z=>(hch _ z).2.1 rfl) ho I.free
 ·obtain ⟨v,o,ho,hd⟩:=I.cell x c e;exact free c o (fun z=>(hch c z).2.2.1 x c e rfl) ho (I.freeC x c e)
 ·obtain ⟨e,n,ne,nf,d⟩:=I.pin p hp;have nch : p.1∉ch:=fun z=>(hch p.1 z).2.2.2 p hp rfl;exact ⟨keep p.1 p.2 ne nf nch e n,free p.1 p.2 nch e n,ne,nf,d⟩
theorem Inv.un {t':Nat} (I:Inv X pins σ H s) (u:Un X.fs [] H H' s.heap h') (hok:HOk X.prog X.w H' h') : Inv X pins σ H' { s with heap:=h',toks:=t' }:=by
 obtain ⟨m,⟨o,es,ep,ho,r⟩,_⟩:=id I.loc;obtain ⟨sl,hL⟩:=u.any ho I.free (by simp)
 exact I.step (g':=s.gens) (d':=s.drawn) (ch:=[]) (fun _ z=>nomatch z) (fun b o _ hb _ e n=>u.keep b o e n hb (by simp)) (fun b o _ hb _ e n=>u.slot b o e n hb (by simp)) (fun b o _ e n=>u.free b o e n (by simp)) (fun b o _ e=>u.there b o e (by simp)) u.tups u.frzs u.tbls (fun m' hm=>by
  obtain ⟨o',es',ep',ho',r'⟩:=hm;rw [ho] at ho'; cases ho';exact ⟨_,es',ep',hL,r'⟩) hok I.bare
theorem Inv.call {g':Array GenState} {t':Nat} {d':Drawn} {ch:List Addr} (I:Inv X pins σ H s) (u:Un (frs X.stack) ch H H' s.heap h') (hok:HOk X.prog X.w H' h') (hg:AllBare g')
  (hch:∀ b∈ch,(b∈X.ex\/X.s₀.heap.objs.size<=b)/\b≠X.env.locals/\(∀ x c,X.env.cells.lookup x=some c->c≠b)/\∀ p∈X.pn++pins,p.1≠b) :
  Inv X pins σ H' { s with heap:=h',gens:=g',drawn:=d',toks:=t' }:=by
 obtain ⟨m,⟨o,es,ep,ho,r⟩,_⟩:=id I.loc;obtain ⟨sl,hL⟩:=u.any ho I.free fun z=>(hch _ z).2.1 rfl
 exact I.step (ch:=ch) hch (fun b o hL hb hc e n=>u.keep b o e n (fun z=>(List.mem_cons.mp (I.stkSub b z)).elim hL hb) hc) (fun b o _ _ hc e n=>u.any e n hc) (fun b o hc e n=>u.free b o e n hc) (fun b o hc e=>u.there b o e hc) u.tups u.frzs u.tbls (fun m' hm=>by
  obtain ⟨o',es',ep',ho',r'⟩:=hm;rw [ho] at ho'; cases ho';exact ⟨_,es',ep',hL,r'⟩) hok hg
theorem Inv.turned {t':Nat} {it:Addr} (I:Inv X pins σ H s) (k:∀ b o,b≠it->s.heap.get? b=some o->h'.get? b=some o) (hn:H it=none) (hL:it≠X.env.locals)
  (h1:it∈X.ex\/X.s₀.heap.objs.size<=it) (h2:∀ x c,X.env.cells.lookup x=some c->c≠it) (h3:∀ p∈X.pn++pins,p.1≠it) : Inv X pins σ H { s with heap:=h',toks:=t' }:=by
 have nit : ∀ b u,H b=some u->b≠it:=fun b u e z=>by rw [z,hn] at e; cases e
 refine I.step (g':=s.gens) (d':=s.drawn) (ch:=[it]) (fun b hb=>?_) (fun b o _ _ hc e _=>k b o (fun z=>hc (by simp [z])) e) (fun b o _ _ hc e _=>⟨o.slots,k b o (fun z=>hc (by simp [z])) e⟩) (fun _ _ _ _ n=>n)
  (fun b o hc e=>⟨o,k b o (fun z=>hc (by simp [z])) e⟩) (fun _ _ e=>e) (fun _ _ _ e=>e) (fun b ps e=>⟨#[],by rw [e]; simp⟩) (fun m hm=>?_) (fun b u e=>?_) I.bare
 ·have e : b=it:=by simpa using hb
  subst e;exact ⟨h1,hL,h2,h3⟩
 ·obtain ⟨o,es,ep,ho,r⟩:=hm;exact ⟨o,es,ep,k _ o (Ne.symm hL) ho,r⟩
 ·refine (I.hok b u e).stay (fun c v hc q=>k c v ?_ q) (fun _ q=>q) fun _ _ q=>q
  rcases hc with z | z
  ·rw [z]; exact nit b u e
  ·exact nit c _ z
theorem Inv.tok (I:Inv X pins σ H s) (t:Nat) : Inv X pins σ H { s with toks:=t }:=I.un (h':=s.heap) (t':=t) Un.refl I.hok
theorem Inv.kept {t':Nat} (I:Inv X pins σ H s) (k:∀ b u,s.heap.get? b=some u->h'.get? b=some u) : Inv X pins σ H { s with heap:=h',toks:=t' }:=I.un (Un.kept k) (I.hok.kept k)
theorem Inv.laid {a:Addr} {o:HO} {t':Nat} (I:Inv X pins σ H s) (k:∀ b u,s.heap.get? b=some u->h'.get? b=some u) (hp:s.heap.objs.size<=a) (new:zdz X.prog X.w (upd H a o) h' a o) :
  Inv X pins σ (upd H a o) { s with heap:=h',toks:=t' }:=I.un (Un.laid k hp (I.hok.fresh hp)) (I.hok.laid k hp new)
theorem Inv.write {x e:Addr} {o:HO} {t':Nat} (I:Inv X pins σ H s) (mu:Mut (H x)) (he:e=x\/H e=some (.own x)) (k:∀ b u,b≠e->s.heap.get? b=some u->h'.get? b=some u) (heo:∃ u,h'.get? e=some u)
  (new:zdz X.prog X.w (upd H x o) h' x o) : Inv X pins σ (upd H x o) { s with heap:=h',toks:=t' }:=I.un (Un.write mu he k heo) (I.hok.write mu he k heo new)
theorem Inv.pins_of {pins':List (Addr×Obj)} (I:Inv X pins σ H s) (h:∀ p∈pins',s.heap.get? p.1=some p.2/\H p.1=none/\p.1≠X.env.locals/\p.1∉X.fs/\∀ v,p.2.data≠.cell v) : Inv X pins' σ H s :=
 ⟨I.ok,I.os,I.bare,I.base,I.loc,I.cell,I.free,I.freeC,fun p hp=>(List.mem_append.mp hp).elim (fun z=>I.pin p (List.mem_append_left _ z)) (h p),I.hok,I.len⟩
theorem zt6 {N:List Str} (hN:N.Nodup) {i j:Nat} {x:Str} (a:N[i]?=some x) (b:N[j]?=some x) : i=j:=by
 obtain ⟨h1,e1⟩:=List.getElem?_eq_some_iff.mp a;obtain ⟨h2,e2⟩:=List.getElem?_eq_some_iff.mp b;exact (List.getElem_inj hN).mp (e1.trans e2.symm)
theorem z2g {M:Model} {A:Around} {E:Value->Shared->Prop} {i:Nat} {x:Str} {v:V} {u:Value} {Q:Unit->Shared->Prop} (I:Inv X pins σ H s) (hN:X.N.Nodup) (hi:X.N[i]?=some x) (hx:Loc X.env.scope x) (r:za5 v u)
  (h:∀ s',Inv X pins (σ.set i (some v)) H s'->(∃ a,Heap.SameBut a s.heap s'.heap/\(a=X.env.locals\/X.env.cells.lookup x=some a))->Q () s') (hf:X.fn x=true\/X.env.scope.names.lookup x=some .local:=by first | exact .inl rfl | exact .inr rfl | assumption) : wpAny M A (storeName X.env x u) Q E s:=by
 obtain ⟨m,hn,hl⟩:=id I.loc;have hcls : (X.env.scope.kind==.class || (X.env.scope.kind==.module && X.env.locals != X.env.globals))=false:=by rw [I.ok.kind]; rfl
 have hiσ : i < σ.length:=by rw [I.len]; exact (List.getElem?_eq_some_iff.mp hi).1
 have cne:=I.cne
 have tracked : ∀ {a:Addr} {h':Heap},(∃ o,s.heap.get? a=some o/\H a=none)->Heap.SameBut a s.heap h'->HOk X.prog X.w H h':=fun {a h'} ha hs b ob e=>by
  obtain ⟨_,_,hfree⟩:=ha;refine (I.hok b ob e).stay (fun c w' hc q=>(hs.2 c ?_).trans q) (fun _ q=>q) fun _ _ q=>q;rintro rfl
  rcases hc with rfl | hc
  ·rw [hfree] at e; cases e
  ·rw [hfree] at hc; cases hc
 rcases hx with hk | hk
 ·refine wpAny_storeName_local hk hn (fun h' hn' hs=>?_) hcls;obtain ⟨oL,_,_,hoL,_⟩:=id hn;refine h _ ⟨I.ok,I.os,I.bare,⟨fun b o e n hb hx=>?_,fun b o e n hb hx=>?_,I.base.free,fun b o e hx=>?_,I.base.tups,I.base.frzs,I.base.tbls⟩,⟨_,hn',fun j y v' e1 e2 e3=>?_⟩,fun y c e=>?_,I.free,I.freeC,fun p hp=>?_,tracked ⟨oL,hoL,I.free⟩ hs,by simpa using I.len⟩ ⟨_,hs,.inl rfl⟩
  ·exact (hs.2 b (Nat.ne_of_lt (Nat.lt_of_lt_of_le (Heap.lt_size e) I.ok.above))).trans (I.base.keep b o e n hb hx)
  ·obtain ⟨sl,e1⟩:=I.base.slot b o e n hb hx;exact ⟨sl,(hs.2 b (Nat.ne_of_lt (Nat.lt_of_lt_of_le (Heap.lt_size e) I.ok.above))).trans e1⟩
  ·obtain ⟨o',e1⟩:=I.base.there b o e hx;exact ⟨o',(hs.2 b (Nat.ne_of_lt (Nat.lt_of_lt_of_le (Heap.lt_size e) I.ok.above))).trans e1⟩
  ·by_cases hj : j=i
   ·subst hj;rw [hi] at e1; cases e1;rw [List.getElem?_set_self hiσ] at e2;cases e2;exact ⟨u,r,.inl ⟨hk,by simp⟩⟩
   ·rw [List.getElem?_set_ne (Ne.symm hj)] at e2;obtain ⟨u',r',q⟩:=hl j y v' e1 e2 e3;refine ⟨u',r',?_⟩
    rcases q with ⟨k,e⟩ | ⟨k,c,e,z⟩
    ·refine .inl ⟨k,?_⟩;have : y≠x:=fun e=>hj (zt6 hN e1 (e ▸ hi));simp [this,e]
    ·exact .inr ⟨k,c,e,z.sameBut hs (cne y c e)⟩
  ·obtain ⟨w',z⟩:=I.cell y c e;exact ⟨w',z.sameBut hs (cne y c e)⟩
  ·obtain ⟨e,n,ne,nf,d⟩:=I.pin p hp;exact ⟨(hs.2 p.1 ne).trans e,n,ne,nf,d⟩
 ·have hfn : X.fn x=true:=by
   rcases hf with z | z
   ·exact z
   ·rw [z] at hk; cases hk
  obtain ⟨c,hc⟩:=I.ok.has x (.inl hk);obtain ⟨w',z⟩:=I.cell x c hc;refine wpAny_storeName_cell I.ok.kind hk hc z (fun h' hc' hs=>?_);obtain ⟨oc,hoc,hocd⟩:=id z
  refine h { s with heap:=h' } ⟨I.ok,I.os,I.bare,⟨fun b o e n hb hx=>?_,fun b o e n hb hx=>?_,I.base.free,fun b o e hx=>?_,I.base.tups,I.base.frzs,I.base.tbls⟩,⟨m,hn.sameBut hs (Ne.symm (cne x c hc)),fun j y v' e1 e2 e3=>?_⟩,fun y c' e=>?_,I.free,I.freeC,fun p hp=>?_,tracked ⟨oc,hoc,I.freeC x c hc⟩ hs,by simpa using I.len⟩ ⟨c,hs,.inr hc⟩
  ·exact (hs.2 b (Nat.ne_of_lt (Nat.lt_of_lt_of_le (Heap.lt_size e) (I.ok.cab x c hfn hc)))).trans (I.base.keep b o e n hb hx)
  ·obtain ⟨sl,e1⟩:=I.base.slot b o e n hb hx;exact ⟨sl,(hs.2 b (Nat.ne_of_lt (Nat.lt_of_lt_of_le (Heap.lt_size e) (I.ok.cab x c hfn hc)))).trans e1⟩
  ·obtain ⟨o',e1⟩:=I.base.there b o e hx;exact ⟨o',(hs.2 b (Nat.ne_of_lt (Nat.lt_of_lt_of_le (Heap.lt_size e) (I.ok.cab x c hfn hc)))).trans e1⟩
  ·by_cases hj : j=i
   ·subst hj;rw [hi] at e1; cases e1;rw [List.getElem?_set_self hiσ] at e2;cases e2;exact ⟨u,r,.inr ⟨.inl hk,c,hc,hc'⟩⟩
   ·rw [List.getElem?_set_ne (Ne.symm hj)] at e2;obtain ⟨u',r',q⟩:=hl j y v' e1 e2 e3;refine ⟨u',r',?_⟩
    rcases q with q | ⟨k,c',e,z'⟩
    ·exact .inl q
    ·refine .inr ⟨k,c',e,z'.sameBut hs ?_⟩;rintro rfl;exact hj (zt6 hN e1 (I.ok.inj _ _ _ e hc ▸ hi))
  ·by_cases hcc : c'=c
   ·subst hcc; exact ⟨_,hc'⟩
   ·obtain ⟨w2,z2⟩:=I.cell y c' e;exact ⟨w2,z2.sameBut hs hcc⟩
  ·obtain ⟨e,n,ne,nf,d⟩:=I.pin p hp;refine ⟨(hs.2 p.1 ?_).trans e,n,ne,nf,d⟩;intro q;rw [q,hoc] at e;have q' : oc=p.2:=Option.some.inj e;exact d w' (by rw [<- q']; exact hocd)
theorem zve {M:Model} {A:Around} {E:Value->Shared->Prop} {i:Nat} {x:Str} {v:V} {u:Value} {Q:Unit->Shared->Prop} (I:Inv X pins σ H s) (hN:X.N.Nodup) (hi:X.N[i]?=some x) (hx:Loc X.env.scope x) (r:za5 v u)
  (h:∀ s',Inv X pins (σ.set i (some v)) H s'->Q () s') (hf:X.fn x=true\/X.env.scope.names.lookup x=some .local:=by first | exact .inl rfl | exact .inr rfl | assumption) : wpAny M A (storeName X.env x u) Q E s :=
 z2g I hN hi hx r (fun s' I' _=>h s' I') hf
theorem Inv.call' {s':Shared} {ch:List Addr} (I:Inv X pins σ H s) (ho:s'.os=s.os) (u:Un (frs X.stack) ch H H' s.heap s'.heap) (hok:HOk X.prog X.w H' s'.heap) (hg:AllBare s'.gens)
  (hch:∀ b∈ch,(b∈X.ex\/X.s₀.heap.objs.size<=b)/\b≠X.env.locals/\(∀ x c,X.env.cells.lookup x=some c->c≠b)/\∀ p∈X.pn++pins,p.1≠b) : Inv X pins σ H' s':=by
 obtain ⟨h',g',d',t',o'⟩:=s';have e : o'=s.os:=ho;subst e;exact I.call (g':=g') (t':=t') (d':=d') u hok hg hch
end
noncomputable abbrev XK:=Value->Option Addr->Hp->Prop
noncomputable abbrev St:=List (Option V)
noncomputable abbrev VK:=V->Hp->Prop
noncomputable abbrev TE:=St->Hp->VK->Prop
noncomputable abbrev TT:=St->Hp->(Bool->Hp->Prop)->Prop
noncomputable abbrev TA:=St->Hp->(List V->Hp->Prop)->Prop
structure zf2 where
 nx : St->Hp->Prop
 rt : VK
 bk : St->Hp->Prop:=fun _ _=>False
 ct : St->Hp->Prop:=fun _ _=>False
noncomputable abbrev TS:=zf2->St->Hp->Prop
noncomputable def EP (X:Cx) (pins:List (Addr×Obj)) (σ:St) (Q:VK) (u:Value) (s':Shared) : Prop:=∃ v H',Inv X pins σ H' s'/\za5 v u/\Q v H'
noncomputable def TP (X:Cx) (pins:List (Addr×Obj)) (σ:St) (Q:Bool->Hp->Prop) (b:Bool) (s':Shared) : Prop:=∃ H',Inv X pins σ H' s'/\Q b H'
noncomputable def AP (X:Cx) (pins:List (Addr×Obj)) (σ:St) (Q:List V->Hp->Prop) (us:List Value) (s':Shared) : Prop:=∃ vs H',Inv X pins σ H' s'/\zaz vs us/\Q vs H'
noncomputable def SP (X:Cx) (pins:List (Addr×Obj)) (D:zf2) (f:Flow) (s':Shared) : Prop :=
 match f with
 | .next=>∃ σ' H',Inv X pins σ' H' s'/\D.nx σ' H'
 | .brk=>∃ σ' H',Inv X pins σ' H' s'/\D.bk σ' H'
 | .cont=>∃ σ' H',Inv X pins σ' H' s'/\D.ct σ' H'
 | .ret u=>∃ v σ' H',Inv X pins σ' H' s'/\za5 v u/\D.rt v H'
noncomputable def PE (X:Cx) (e:Expr) (t:TE) : Prop :=
 ∀ (pins:List (Addr×Obj)) (s:Shared) (σ:St) (H:Hp) (Q:VK),Inv X pins σ H s->t σ H Q->wpAny (model X.prog X.w) X.A (eval e X.env) (EP X pins σ Q) X.xe s
noncomputable def PT (X:Cx) (e:Expr) (t:TT) : Prop :=
 ∀ (pins:List (Addr×Obj)) (s:Shared) (σ:St) (H:Hp) (Q:Bool->Hp->Prop),Inv X pins σ H s->t σ H Q->wpAny (model X.prog X.w) X.A (isTrue e X.env (eval e X.env)) (TP X pins σ Q) X.xe s
noncomputable def PW (X:Cx) (e:Expr) (t:TT) : Prop :=
 ∀ (whole:Sem Value) (pins:List (Addr×Obj)) (s:Shared) (σ:St) (H:Hp) (Q:Bool->Hp->Prop),Inv X pins σ H s->t σ H Q->wpAny (model X.prog X.w) X.A (isTrue e X.env whole) (TP X pins σ Q) X.xe s
theorem PW.pt {X:Cx} {e:Expr} {t:TT} (h:PW X e t) : PT X e t:=h _
noncomputable def PA (X:Cx) (es:List Expr) (t:TA) : Prop :=
 ∀ (pos:Pos) (pins:List (Addr×Obj)) (s:Shared) (σ:St) (H:Hp) (Q:List V->Hp->Prop),Inv X pins σ H s->t σ H Q->wpAny (model X.prog X.w) X.A (spliced (backTo pos (starEach es X.env))) (AP X pins σ Q) X.xe s
noncomputable def PS (X:Cx) (st:Stmt) (t:TS) : Prop :=
 ∀ (pins:List (Addr×Obj)) (s:Shared) (σ:St) (H:Hp) (D:zf2),Inv X pins σ H s->t D σ H->wpAny (model X.prog X.w) X.A (exec st X.env) (SP X pins D) X.xe s
noncomputable def PSs (X:Cx) (st:List Stmt) (t:TS) : Prop :=
 ∀ (pins:List (Addr×Obj)) (s:Shared) (σ:St) (H:Hp) (D:zf2),Inv X pins σ H s->t D σ H->wpAny (model X.prog X.w) X.A (execs st X.env) (SP X pins D) X.xe s
theorem thn {α : Type} {t:Sem α} {Q Q':α->Shared->Prop} {M:Model} {A:Around} {E:Value->Shared->Prop} {s:Shared} (h:wpAny M A t Q E s) (hQ:∀ a s,Q a s->Q' a s) : wpAny M A t Q' E s:=wpAny_mono h hQ fun _ _ x=>x
section
variable {X:Cx}
noncomputable def zc8 (i:Nat) : TE:=fun σ H Q=>∃ v,σ[i]?=some (some v)/\Q v H
noncomputable def tC (v:V) : TE:=fun _ H Q=>Q v H
theorem zhr {i:Nat} {x:Str} {pos:Pos} (hN:X.N[i]?=some x) (hv:Vis X.env.scope x) (hd:(x==("__debug__" : Str))=false:=by decide) (hcd:(x==("__classdict__" : Str))=false:=by decide) : PE X (.Name x pos) (zc8 i):=by
 intro pins s σ H Q I h;obtain ⟨v,e,h⟩:=h;obtain ⟨m,hn,hl⟩:=I.loc;obtain ⟨u,r,l⟩:=hl i x v hN e hv;have fin : EP X pins σ Q u s:=⟨v,H,I,r,h⟩
 rcases l with ⟨hk,hm⟩ | ⟨hk,c,hc,hcell⟩
 ·exact wpAny_Name (wpAny_loadName_local I.ok.kind hk hn hm fin) hd
 ·rcases hk with hk | hk
  ·exact wpAny_Name (wpAny_loadName_cell I.ok.kind hk hc hcell fin) hd
  ·exact wpAny_Name (wpAny_loadName_free I.ok.kind hk hc hcell fin hcd) hd
theorem z9s {i j pos} : PE X (.Constant (.int i) j pos) (tC (.int i)):=fun _ _ _ H _ I h=>wpAny_Constant_int ⟨.int i,H,I.tok _,⟨_,rfl⟩,h⟩
theorem z9o {b j pos} : PE X (.Constant (.bool b) j pos) (tC (.bl b)):=fun _ _ _ H _ I h=>Constant_bool ⟨.bl b,H,I,rfl,h⟩
theorem z0c {x j pos} : PE X (.Constant (.str x) j pos) (tC (.str x)):=fun _ _ _ H _ I h=>Calls.Constant_str ⟨.str x,H,I.tok _,⟨_,rfl⟩,h⟩
noncomputable def Gl (X:Cx) (x:Str) : Prop:=X.env.kindOf x=some .globalImplicit
theorem zno {E:Value->Shared->Prop} {pins:List (Addr×Obj)} {s:Shared} {σ:St} {H:Hp} {x:Str} {u:Value} {pos:Pos} {Q:Value->Shared->Prop} (I:Inv X pins σ H s) (hg:Gl X x) (hm:X.mg x=some u) (h:Q u s)
  (hd:(x==("__debug__" : Str))=false:=by decide) : wpAny (model X.prog X.w) X.A (eval (.Name x pos) X.env) Q E s :=
 Calls.Name_function_global I.ok.kind hg (Calls.loadGlobal_global (by rw [I.ok.glob]; exact I.mod.glob.keeps I.bk) hm h) hd
theorem zkg {E:Value->Shared->Prop} {pins:List (Addr×Obj)} {s:Shared} {σ:St} {H:Hp} {x:Str} {u:Value} {pos:Pos} {Q:Value->Shared->Prop} (I:Inv X pins σ H s) (hg:Gl X x) (hm:X.mg x=none) (hv:bootBuiltins x=some u) (h:Q u s)
  (hn:x ≠ "__name__":=by decide) (hd:(x==("__debug__" : Str))=false:=by decide) : wpAny (model X.prog X.w) X.A (eval (.Name x pos) X.env) Q E s:=by
 obtain ⟨mb,h1,h2⟩:=I.mod.blt;exact Calls.Name_function_global I.ok.kind hg (Calls.loadGlobal_builtin (by rw [I.ok.glob]; exact I.mod.glob.keeps I.bk) hm (by rw [I.ok.blt]; exact h1.keeps I.bk) ((h2 x hn).trans hv) h) hd
theorem zz7 {x:Str} {v:V} {u:Value} {pos:Pos} (hg:Gl X x) (hm:X.mg x=some u) (r:za5 v u) (hd:(x==("__debug__" : Str))=false:=by decide) : PE X (.Name x pos) (tC v) :=
 fun _ _ _ H _ I h=>zno I hg hm ⟨v,H,I,r,h⟩ hd
theorem zz3 {x:Str} {v:V} {u:Value} {pos:Pos} (hg:Gl X x) (hm:X.mg x=none) (hv:bootBuiltins x=some u) (r:za5 v u) (hn:x ≠ "__name__":=by decide) (hd:(x==("__debug__" : Str))=false:=by decide) : PE X (.Name x pos) (tC v) :=
 fun _ _ _ H _ I h=>zkg I hg hm hv ⟨v,H,I,r,h⟩ hn hd
variable {a b:Expr} {ta tb:TE} {pos:Pos}
noncomputable def tB (t:TE) : TT:=fun σ H Q=>t σ H fun x H1=>∃ c,x=.bl c/\Q c H1
theorem yav {e:Expr} {t:TE} (h:PE X e t) (he:∀ whole,isTrue e X.env whole=(do let v <- whole; standAt e.pos; holding [v] (truthy v)):=by intro _; rfl) : PT X e (tB t):=by
 intro pins s σ H Q I hw;refine isTrue_plain (thn (h pins s σ H _ I hw) fun v s1 ⟨x,H1,I1,r1,q1⟩=>?_) (he _);obtain ⟨d,rfl,q⟩:=q1;cases r1;exact wpAny_truthy_bool ⟨H1,I1,q⟩
variable {tA tB':TT} {zbp:List Expr}
noncomputable def yc3 (t u:TT) : TT:=fun σ H Q=>t σ H fun c H1=>if c=true then u σ H1 Q else Q false H1
noncomputable def tOr (t u:TT) : TT:=fun σ H Q=>t σ H fun c H1=>if c=true then Q true H1 else u σ H1 Q
noncomputable def ydj (t:TT) : TT:=fun σ H Q=>t σ H fun c H1=>Q (!c) H1
theorem ya0 (ha:PT X a tA) : PW X (.BoolOp .And [a] pos) tA:=by
 intro wh pins s σ H Q I h;refine isTrue_and (thn (ha pins s σ H Q I h) fun c s1 e=>?_)
 cases c with
 | true=>exact isTrue_and_nil e
 | false=>exact e
theorem ya2 (ha:PT X a tA) : PW X (.BoolOp .Or [a] pos) tA:=by
 intro wh pins s σ H Q I h;refine isTrue_or (thn (ha pins s σ H Q I h) fun c s1 e=>?_)
 cases c with
 | false=>exact isTrue_or_nil e
 | true=>exact e
theorem yaz (ha:PT X a tA) (hb:PW X (.BoolOp .And (b::zbp) pos) tB') : PW X (.BoolOp .And (a::b::zbp) pos) (yc3 tA tB'):=by
 intro wh pins s σ H Q I h;refine isTrue_and (thn (ha pins s σ H _ I h) fun c s1 ⟨H1,I1,q1⟩=>?_)
 cases c with
 | true=>exact hb wh pins s1 σ H1 Q I1 q1
 | false=>exact ⟨H1,I1,q1⟩
theorem ya1 (ha:PT X a tA) (hb:PW X (.BoolOp .Or (b::zbp) pos) tB') : PW X (.BoolOp .Or (a::b::zbp) pos) (tOr tA tB'):=by
 intro wh pins s σ H Q I h;refine isTrue_or (thn (ha pins s σ H _ I h) fun c s1 ⟨H1,I1,q1⟩=>?_)
 cases c with
 | true=>exact ⟨H1,I1,q1⟩
 | false=>exact hb wh pins s1 σ H1 Q I1 q1
theorem z0s (ha:PT X a tA) : PT X (.UnaryOp .Not a pos) (ydj tA):=by
 intro pins s σ H Q I h;exact isTrue_not (ha pins s σ H (fun c H1=>Q (!c) H1) I h)
noncomputable def yc4 (ta tb:TE) : TE:=fun σ H Q=>ta σ H fun x H1=>∃ c,x=.bl c/\if c=true then tb σ H1 Q else Q (.bl false) H1
noncomputable def ydl (ta tb:TE) : TE:=fun σ H Q=>ta σ H fun x H1=>∃ c,x=.bl c/\if c=true then Q (.bl true) H1 else tb σ H1 Q
noncomputable def ydk (ta:TE) : TE:=fun σ H Q=>ta σ H fun x H1=>∃ c,x=.bl c/\Q (.bl (!c)) H1
theorem z9x {op} {t:TE} (h:PE X a t) : PE X (.BoolOp op [a] pos) t:=fun pins s σ H Q I hw=>BoolOp_one (h pins s σ H Q I hw)
theorem z9n (ha:PE X a ta) (hb:PE X (.BoolOp .And (b::zbp) pos) tb) : PE X (.BoolOp .And (a::b::zbp) pos) (yc4 ta tb):=by
 intro pins s σ H Q I h;refine BoolOp_and (thn (ha pins s σ H _ I h) fun v s1 ⟨x,H1,I1,r1,q1⟩=>?_);obtain ⟨c,rfl,q1⟩:=q1;cases r1;refine wpAny_truthy_bool ?_
 cases c with
 | true=>exact hb pins s1 σ H1 Q I1 q1
 | false=>exact ⟨.bl false,H1,I1,rfl,q1⟩
theorem z9y (ha:PE X a ta) (hb:PE X (.BoolOp .Or (b::zbp) pos) tb) : PE X (.BoolOp .Or (a::b::zbp) pos) (ydl ta tb):=by
 intro pins s σ H Q I h;refine BoolOp_or (thn (ha pins s σ H _ I h) fun v s1 ⟨x,H1,I1,r1,q1⟩=>?_);obtain ⟨c,rfl,q1⟩:=q1;cases r1;refine wpAny_truthy_bool ?_
 cases c with
 | false=>exact hb pins s1 σ H1 Q I1 q1
 | true=>exact ⟨.bl true,H1,I1,rfl,q1⟩
theorem z9w (ha:PE X a ta) : PE X (.UnaryOp .Not a pos) (ydk ta):=by
 intro pins s σ H Q I h;refine UnaryOp_ (thn (ha pins s σ H _ I h) fun v s1 ⟨x,H1,I1,r1,q1⟩=>?_);obtain ⟨c,rfl,q1⟩:=q1;cases r1;exact not_of (wpAny_truthy_bool ⟨.bl (!c),H1,I1,rfl,q1⟩)
noncomputable def tIf (t:TT) (ta tb:TE) : TE:=fun σ H Q=>t σ H fun c H1=>if c=true then ta σ H1 Q else tb σ H1 Q
theorem zz8 {c:Expr} (hc:PT X c tA) (ha:PE X a ta) (hb:PE X b tb) : PE X (.IfExp c a b pos) (tIf tA ta tb):=by
 intro pins s σ H Q I h;refine wpAny_IfExp (thn (hc pins s σ H _ I h) fun d s1 ⟨H1,I1,q1⟩=>?_)
 cases d with
 | true=>exact ha pins s1 σ H1 Q I1 q1
 | false=>exact hb pins s1 σ H1 Q I1 q1
end
noncomputable def SqL (K:PySem.W.Frag) (H:Hp) (a:Addr) (xs:List V) : Prop :=
 Rd H a (.lst xs) \/
  ∃ (o:Obj) (its:Array Value) (n:Nat),K.lookup a=some o/\o.cls=.type "list" /\ o.dict=none/\o.data=.seq its n/\its.size<=sizeLine/\zaz xs its.toList
noncomputable def SqT (K:PySem.W.Frag) (H:Hp) (a:Addr) (xs:List V) : Prop :=
 Rd H a (.tup xs) \/
  ∃ (o:Obj) (its:Array Value) (n:Nat),K.lookup a=some o/\o.cls=.type "tuple" /\ o.data=.seq its n/\its.size<=sizeLine/\zaz xs its.toList
noncomputable def z3g : Value->Option V
 | .none=>some .non
 | .bool b=>some (.bl b)
 | .int i _=>some (.int i)
 | .str x _=>some (.str x)
 | .bytes b _=>some (.byt b)
 | .float b _=>some (.flt b)
 | .ref a=>some (.ref a)
 | .type n=>some (.ty n)
 | _=>none
theorem za5.abs {x:V} {u:Value} (r:za5 x u) : z3g u=some x:=by
 cases x with
 | non=>cases r; rfl
 | bl _=>cases r; rfl
 | int _=>obtain ⟨t,rfl⟩:=r; rfl
 | str _=>obtain ⟨t,rfl⟩:=r; rfl
 | byt _=>obtain ⟨t,rfl⟩:=r; rfl
 | flt _=>obtain ⟨t,rfl⟩:=r; rfl
 | ref _=>cases r; rfl
 | ty _=>cases r; rfl
theorem za5.inj {x y:V} {u:Value} (r:za5 x u) (q:za5 y u) : x=y:=Option.some.inj (r.abs.symm.trans q.abs)
theorem zaz.inj : ∀ {xs ys:List V} {us:List Value},zaz xs us->zaz ys us->xs=ys
 | _,_,_,.nil,.nil=>rfl
 | _,_,_,.cons r t,.cons r' t'=>by rw [r.inj r',zaz.inj t t']
section
variable {X:Cx} {pins:List (Addr×Obj)} {σ:St} {H:Hp} {s:Shared} {a:Addr} {xs ys:List V}
theorem SqL.of {K:PySem.W.Frag} (h:H a=some (.lst xs)) : SqL K H a xs:=.inl (.inl h)
theorem SqT.of {K:PySem.W.Frag} (h:H a=some (.tup xs)) : SqT K H a xs:=.inl (.inl h)
theorem Inv.list (I:Inv X pins σ H s) (h:SqL X.K H a xs) : ∃ its : List Value,zaz xs its/\PlainL s.heap a its.toArray/\xs.length<=sizeLine:=by
 rcases h with h | ⟨o,its,n,hk,hc,hd,hs,hz,r⟩
 ·obtain ⟨z,its,n,r,e⟩:=h.ok I.hok;exact ⟨its,r,⟨_,n,e,rfl,rfl,rfl⟩,z⟩
 ·refine ⟨its.toList,r,⟨o,n,I.kIn a o hk,hc,hd,by simpa using hs⟩,?_⟩;have e:=r.length;simp only [Array.length_toList] at e;omega
theorem Inv.tuple (I:Inv X pins σ H s) (h:SqT X.K H a xs) : ∃ its : List Value,zaz xs its/\IsTup s.heap a its.toArray/\xs.length<=sizeLine:=by
 rcases h with h | ⟨o,its,n,hk,hc,hs,hz,r⟩
 ·obtain ⟨z,its,r,p⟩:=h.ok I.hok;exact ⟨its,r,p,z⟩
 ·refine ⟨its.toList,r,⟨o,I.kIn a o hk,hc,n,by simpa using hs⟩,?_⟩;have e:=r.length;simp only [Array.length_toList] at e;omega
theorem Inv.list_inj (I:Inv X pins σ H s) (h:SqL X.K H a xs) (h':SqL X.K H a ys) : xs=ys:=by
 obtain ⟨its,r,⟨o,n,e,_,_,d⟩,_⟩:=I.list h;obtain ⟨its',r',⟨o',n',e',_,_,d'⟩,_⟩:=I.list h';rw [e] at e'; cases e';rw [d] at d'
 injection d' with d1 _
 have : its=its':=by simpa using congrArg Array.toList d1
 subst this;exact r.inj r'
theorem Inv.tuple_inj (I:Inv X pins σ H s) (h:SqT X.K H a xs) (h':SqT X.K H a ys) : xs=ys:=by
 obtain ⟨its,r,⟨o,e,_,n,d⟩,_⟩:=I.tuple h;obtain ⟨its',r',⟨o',e',_,n',d'⟩,_⟩:=I.tuple h';rw [e] at e'; cases e';rw [d] at d'
 injection d' with d1 _
 have : its=its':=by simpa using congrArg Array.toList d1
 subst this;exact r.inj r'
end
noncomputable abbrev Cx.wish (X:Cx) (E:Value->Shared->Prop) : Cx:={ X with xe:=E }
noncomputable abbrev Cx.nox (X:Cx) : Cx:=X.wish fun _ _=>False
theorem Cx.Ok.wish {X:Cx} (ok:X.Ok) (E:Value->Shared->Prop) : (X.wish E).Ok :=
 ⟨ok.mod,ok.kind,ok.glob,ok.blt,ok.above,ok.inj,ok.has,ok.cab,ok.hd,ok.frames,ok.stk,ok.exf,ok.bs,ok.bsz,ok.noex,ok.exfs,ok.funs,ok.frf⟩
theorem Cx.Ok.unwish {X:Cx} {E:Value->Shared->Prop} (ok:(X.wish E).Ok) : X.Ok :=
 ⟨ok.mod,ok.kind,ok.glob,ok.blt,ok.above,ok.inj,ok.has,ok.cab,ok.hd,ok.frames,ok.stk,ok.exf,ok.bs,ok.bsz,ok.noex,ok.exfs,ok.funs,ok.frf⟩
section
variable {X:Cx} {pins:List (Addr×Obj)} {σ:St} {H:Hp} {s:Shared} {E:Value->Shared->Prop}
theorem Inv.wish (I:Inv X pins σ H s) (E:Value->Shared->Prop) : Inv (X.wish E) pins σ H s:=⟨I.ok.wish E,I.os,I.bare,I.base,I.loc,I.cell,I.free,I.freeC,I.pin,I.hok,I.len⟩
theorem Inv.unwish (I:Inv (X.wish E) pins σ H s) : Inv X pins σ H s:=⟨I.ok.unwish,I.os,I.bare,I.base,I.loc,I.cell,I.free,I.freeC,I.pin,I.hok,I.len⟩
theorem SP.unwish {D:zf2} {f:Flow} {s':Shared} (h:SP (X.wish E) pins D f s') : SP X pins D f s':=by
 cases f with
 | next=>obtain ⟨σ',H',I,q⟩:=h; exact ⟨σ',H',I.unwish,q⟩
 | brk=>obtain ⟨σ',H',I,q⟩:=h; exact ⟨σ',H',I.unwish,q⟩
 | cont=>obtain ⟨σ',H',I,q⟩:=h; exact ⟨σ',H',I.unwish,q⟩
 | ret u=>obtain ⟨v,σ',H',I,r,q⟩:=h; exact ⟨v,σ',H',I.unwish,r,q⟩
theorem PSs.nox {st:List Stmt} {t:TS} (h:PSs X.nox st t) : PSs X st t:=fun pins s σ H D I hw =>
 wpAny_mono (h pins s σ H D (I.wish _) hw) (fun _ _ q=>q.unwish) fun _ _ z=>False.elim z
end
section
variable {X:Cx} {st:Stmt} {zbp:List Stmt} {t u:TS} {e:Expr} {te:TE} {pos:Pos}
noncomputable def ydh : TS:=fun D σ H=>D.nx σ H
noncomputable def ydo (t u:TS) : TS:=fun D σ H=>t { D with nx:=u D } σ H
theorem zk9 : PSs X [] ydh:=fun _ _ σ H _ I h=>wpAny_execs_nil ⟨σ,H,I,h⟩
theorem zjr (h1:PS X st t) (h2:PSs X zbp u) : PSs X (st::zbp) (ydo t u):=by
 intro pins s σ H D I h
 refine wpAny_execs_cons (thn (h1 pins s σ H { D with nx:=u D } I h) fun f s1 q=>?_)
 cases f with
 | next =>
  obtain ⟨σ',H',I',q⟩:=q
  exact h2 pins s1 σ' H' D I' q
 | ret v=>exact q
 | brk=>exact q
 | cont=>exact q
theorem yat (h1:PS X st t) : PSs X [st] t:=by
 intro pins s σ H D I h;refine wpAny_execs_cons (thn (h1 pins s σ H D I h) fun f s1 q=>?_)
 cases f with
 | next=>exact wpAny_execs_nil q
 | ret v=>exact q
 | brk=>exact q
 | cont=>exact q
theorem Inv.quiet {pins:List (Addr×Obj)} {σ:St} {H:Hp} {s:Shared} (I:Inv X pins σ H s) : interactive X.env=false:=by simp [interactive,I.ok.kind]
noncomputable def zr2 (te:TE) : TS:=fun D σ H=>te σ H fun _ H1=>D.nx σ H1
theorem zf0 (he:PE X e te) (hs:swapsWith e none pos.line X.env=pure false:=by rfl) : PS X (.Expr e pos) (zr2 te):=by
 intro pins s σ H D I h;exact wpAny_Expr_any (thn (he pins s σ H _ I h) fun v s1 ⟨x,H1,I1,r1,q1⟩=>⟨σ,H1,I1,q1⟩) I.quiet hs
noncomputable def ydn (te:TE) : TS:=fun D σ H=>te σ H D.rt
theorem zoe (he:PE X e te) : PS X (.Return (some e) pos) (ydn te):=by
 intro pins s σ H D I h;exact wpAny_Return_some (thn (he pins s σ H _ I h) fun v s1 ⟨x,H1,I1,r1,q1⟩=>⟨x,σ,H1,I1,r1,q1⟩)
noncomputable def ydc (c:TT) (t u:TS) : TS:=fun D σ H=>c σ H fun b H1=>if b=true then t D σ H1 else u D σ H1
theorem zrk {c:Expr} {a b:List Stmt} {tc:TT} (hc:PT X c tc) (ha:PSs X a t) (hb:PSs X b u) : PS X (.If c a b pos) (ydc tc t u):=by
 intro pins s σ H D I h;refine wpAny_If (thn (hc pins s σ H _ I h) fun d s1 ⟨H1,I1,q1⟩=>?_)
 cases d with
 | true=>exact ha pins s1 σ H1 D I1 q1
 | false=>exact hb pins s1 σ H1 D I1 q1
end
noncomputable abbrev TG:=V->St->Hp->(St->Hp->Prop)->Prop
noncomputable abbrev TGs:=List V->St->Hp->(St->Hp->Prop)->Prop
noncomputable def PG (X:Cx) (target:Expr) (t:TG) : Prop :=
 ∀ (pins:List (Addr×Obj)) (s:Shared) (σ:St) (H:Hp) (v:V) (u:Value) (Q:St->Hp->Prop),Inv X pins σ H s->za5 v u->t v σ H Q ->
  wpAny (model X.prog X.w) X.A (assign target X.env u) (fun _ s'=>∃ σ' H',Inv X pins σ' H' s'/\Q σ' H') X.xe s
noncomputable def PGs (X:Cx) (ts:List Expr) (t:TGs) : Prop :=
 ∀ (pins:List (Addr×Obj)) (s:Shared) (σ:St) (H:Hp) (vs:List V) (us:List Value) (Q:St->Hp->Prop),Inv X pins σ H s->zaz vs us->t vs σ H Q ->
  wpAny (model X.prog X.w) X.A (assignInOrder ((assignEach ts X.env).map (·.2)) us) (fun _ s'=>∃ σ' H',Inv X pins σ' H' s'/\Q σ' H') X.xe s
noncomputable abbrev zsa:=V->V->V->Hp->(Hp->Prop)->Prop
noncomputable def zvp (X:Cx) (t:zsa) : Prop :=
 ∀ (pins:List (Addr×Obj)) (s:Shared) (σ:St) (H:Hp) (o i v:V) (ov iv u:Value) (Q:Hp->Prop),Inv X pins σ H s->za5 o ov->za5 i iv->za5 v u->t o i v H Q ->
  wpAny (model X.prog X.w) X.A (setItem ov iv u) (fun _ s'=>∃ H',Inv X pins σ H' s'/\Q H') X.xe s
noncomputable abbrev TIp:=V->V->Hp->VK->Prop
noncomputable def PIp (X:Cx) (op:Operator) (t:TIp) : Prop :=
 ∀ (pins:List (Addr×Obj)) (s:Shared) (σ:St) (H:Hp) (x y:V) (v u:Value) (Q:VK),Inv X pins σ H s->za5 x v->za5 y u->t x y H Q ->
  wpAny (model X.prog X.w) X.A (inplaceOp op v u) (EP X pins σ Q) X.xe s
section
variable {X:Cx} {pos:Pos}
noncomputable def zhi (i:Nat) : TG:=fun v σ H Q=>Q (σ.set i (some v)) H
theorem zup {i:Nat} {x:Str} (hN:X.N.Nodup) (hi:X.N[i]?=some x) (hx:Loc X.env.scope x) (hf:X.fn x=true\/X.env.scope.names.lookup x=some .local:=by first | exact .inl rfl | exact .inr rfl | assumption) : PG X (.Name x pos) (zhi i):=by
 intro pins s σ H v u Q I r h;exact wpAny_assign_Name (zve I hN hi hx r (fun s' I'=>⟨_,H,I',h⟩) hf)
noncomputable def z5n : TGs:=fun vs σ H Q=>vs=[]/\Q σ H
noncomputable def z5m (t:TG) (u:TGs) : TGs:=fun vs σ H Q=>∃ v r,vs=v::r/\t v σ H fun σ' H'=>u r σ' H' Q
theorem z92 : PGs X [] z5n:=by
 intro pins s σ H vs us Q I r h;obtain ⟨e,h⟩:=h;subst e;cases r;exact assignInOrder_nil ⟨σ,H,I,h⟩
theorem z91 {e:Expr} {es:List Expr} {t:TG} {u:TGs} (h1:PG X e t) (h2:PGs X es u)
  (hs:(assignEach (e::es) X.env).map (·.2)=assign e X.env::(assignEach es X.env).map (·.2):=by rfl) : PGs X (e::es) (z5m t u):=by
 intro pins s σ H vs us Q I r h;obtain ⟨v,vr,e1,h⟩:=h;subst e1
 cases r with
 | cons r rr =>
  rw [hs];refine assignInOrder_cons (thn (h1 pins s σ H _ _ _ I r h) fun _ s1 ⟨σ1,H1,I1,q1⟩=>?_);exact h2 pins s1 σ1 H1 _ _ Q I1 rr q1
noncomputable def z5o (K:PySem.W.Frag) (n:Nat) (t:TGs) : TG:=fun v σ H Q=>∃ a xs,v=.ref a/\SqT K H a xs/\xs.length=n/\t xs σ H Q
theorem z90 {es:List Expr} {k:Nat} {t:TGs} {n:Nat} (hc:X.calm=true) (h:PGs X es t)
  (hn:(assignEach es X.env).length=n:=by rfl) (hst:(assignEach es X.env).findIdx? (·.1)=none:=by rfl) : PG X (.Tuple es k pos) (z5o X.K n t):=by
 intro pins s σ H v u Q I r hw;obtain ⟨a,xs,e1,hq,hl,hw⟩:=hw;subst e1;cases r;obtain ⟨its,rv,ht,hz⟩:=I.tuple hq;refine assign_Tuple_tuple (I.ok.hd hc) ht (by simp [hn,<- hl,rv.length]) hst fun h' hx=>?_
 have I1 : Inv X pins σ H { s with heap:=h' }:=I.kept (t':=s.toks) fun b o e=>hx b o (Nat.ne_of_lt (Heap.lt_size e)) e
 exact h pins _ σ H xs _ Q I1 (by simpa using rv) hw
noncomputable def zs8 (to ti:TE) (t:zsa) : TG:=fun v σ H Q=>to σ H fun o H1=>ti σ H1 fun i H2=>t o i v H2 fun H3=>Q σ H3
theorem z0e {o i:Expr} {to ti:TE} {t:zsa} (ho:PE X o to) (hi:PE X i ti) (hs:zvp X t)
  (ha:∀ v,assign (.Subscript o i pos) X.env v=(do
   let ov <- holding [v] (eval o X.env)
   let iv <- holding [v,ov] (eval i X.env)
   standAt pos
   holding [v,ov,iv] (setItem ov iv v)
   release [v,ov,iv] []):=by intro _; rfl) : PG X (.Subscript o i pos) (zs8 to ti t):=by
 intro pins s σ H v u Q I r h;rw [ha];refine wpAny_bind (wpAny_holding (thn (ho pins s σ H _ I h) fun ov s1 ⟨x,H1,I1,r1,q1⟩=>?_));refine wpAny_bind (wpAny_holding (thn (hi pins s1 σ H1 _ I1 q1) fun iv s2 ⟨y,H2,I2,r2,q2⟩=>?_));refine wpAny_bind (wpAny_standAt (wpAny_bind (wpAny_holding (thn (hs pins s2 σ H2 x y v ov iv u _ I2 r1 r2 r q2) fun _ s3 ⟨H3,I3,q3⟩=>?_))));exact wpAny_release ⟨σ,H3,I3,q3⟩
noncomputable def zik (te:TE) (g:TG) : TS:=fun D σ H=>te σ H fun x H1=>g x σ H1 D.nx
theorem z0o {tg e:Expr} {te:TE} {g:TG} (he:PE X e te) (hg:PG X tg g) (hs:swapsWithSole [tg] e pos.line X.env=pure false:=by rfl) (hw:swappedStores [tg] e X.env=pure none:=by rfl)
  (h1:(assignEach [tg] X.env).map (·.2)=[assign tg X.env]:=by rfl) : PS X (.Assign [tg] e pos) (zik te g):=by
 intro pins s σ H D I h;refine wpAny_Assign_stores (thn (he pins s σ H _ I h) fun v s1 ⟨x,H1,I1,r1,q1⟩=>?_) hs hw;rw [h1];exact thn (hg pins s1 σ H1 x v _ I1 r1 q1) fun _ s2 q=>q
theorem zjq {i:Nat} {x:Str} {e:Expr} {te:TE} {pos':Pos} (hN:X.N.Nodup) (hi:X.N[i]?=some x) (hx:Loc X.env.scope x) (he:PE X e te) (hs:swapsWith e (some (.Name x pos')) pos.line X.env=pure false:=by rfl) (hf:X.fn x=true\/X.env.scope.names.lookup x=some .local:=by first | exact .inl rfl | exact .inr rfl | assumption) :
  PS X (.Assign [.Name x pos'] e pos) (zik te (zhi i)):=by
 intro pins s σ H D I h;refine wpAny_Assign_Name (thn (he pins s σ H _ I h) fun v s1 ⟨y,H1,I1,r1,q1⟩=>?_) hs;exact zve I1 hN hi hx r1 (fun s2 I2=>⟨_,H1,I2,q1⟩) hf
noncomputable def yc5 (i:Nat) (te:TE) (ti:TIp) : TS:=fun D σ H=>∃ x,σ[i]?=some (some x)/\te σ H fun y H1=>ti x y H1 fun z H2=>D.nx (σ.set i (some z)) H2
theorem z0p {i:Nat} {x:Str} {e:Expr} {te:TE} {op:Operator} {ti:TIp} {pos':Pos} (hN:X.N.Nodup) (hi:X.N[i]?=some x) (hx:Loc X.env.scope x) (he:PE X e te) (ho:PIp X op ti) (hf:X.fn x=true\/X.env.scope.names.lookup x=some .local:=by first | exact .inl rfl | exact .inr rfl | assumption) :
  PS X (.AugAssign (.Name x pos') op e pos) (yc5 i te ti):=by
 intro pins s σ H D I h;obtain ⟨v,e1,h⟩:=h;obtain ⟨m,hn,hl⟩:=I.loc
 have vis : Vis X.env.scope x:=by rcases hx with k | k; exact .inl k; exact .inr (.inl k)
 obtain ⟨u,r,l⟩:=hl i x v hi e1 vis;refine wpAny_AugAssign_Name ?_
 have go : wpAny (model X.prog X.w) X.A (eval e X.env) (fun w s₂=>wpAny (model X.prog X.w) X.A (inplaceOp op u w) (fun r s₃=>wpAny (model X.prog X.w) X.A (storeName X.env x r) (fun _=>SP X pins D .next) X.xe s₃) X.xe s₂) X.xe s:=by
  refine thn (he pins s σ H _ I h) fun w s1 ⟨y,H1,I1,r1,q1⟩=>?_;refine thn (ho pins s1 σ H1 v y u w _ I1 r r1 q1) fun z s2 ⟨zv,H2,I2,r2,q2⟩=>?_;exact zve I2 hN hi hx r2 (fun s3 I3=>⟨_,H2,I3,q2⟩) hf
 rcases l with ⟨hk,hm⟩ | ⟨hk,c,hc,hcell⟩
 ·exact wpAny_loadName_local I.ok.kind hk hn hm go
 ·rcases hk with hk | hk
  ·exact wpAny_loadName_cell I.ok.kind hk hc hcell go
  ·rcases hx with k | k
   ·have : X.env.scope.names.lookup x=some .free:=hk;rw [k] at this; cases this
   ·have : X.env.scope.names.lookup x=some .free:=hk;rw [k] at this; cases this
noncomputable def ipI (f:Int->Int->Int) : TIp:=fun x y H Q=>∃ i j,x=.int i/\y=.int j/\Q (.int (f i j)) H
theorem z6c : PIp X .Add (ipI fun i j=>i + j):=by
 intro pins s σ H x y v u Q I r1 r2 h;obtain ⟨i,j,e1,e2,q⟩:=h;subst e1; subst e2;obtain ⟨t,rfl⟩:=r1;obtain ⟨t',rfl⟩:=r2;exact iadd_int ⟨.int _,H,I.tok _,⟨_,rfl⟩,q⟩
end
section
variable {X:Cx} {pos:Pos}
noncomputable def ydr (c:TT) (tb:TS) : TS:=fun D σ H=>∃ W : Nat->St->Hp->Prop,(∃ m,W m σ H)/\∀ m σ H,W m σ H ->
 c σ H fun b H1=>if b=true then ∃ N : St->Hp->Prop,(∀ σ' H',N σ' H'->∃ m',m' < m/\W m' σ' H')/\tb { D with nx:=N,ct:=N,bk:=D.nx } σ H1 else D.nx σ H1
theorem yas {c:Expr} {body:List Stmt} {tc:TT} {tb:TS} (hp:PassesOwn (model X.prog X.w) X.A X.env X.xe) (hc:PT X c tc) (hb:PSs X body tb) : PS X (.While c body [] pos) (ydr tc tb):=by
 intro pins s σ H D I h;obtain ⟨W,⟨m0,w0⟩,turn⟩:=h;refine wpAny_While (codeAny_whileLoop (fun n s'=>∃ σ' H',Inv X pins σ' H' s'/\W n σ' H') ?_ m0 ⟨σ,H,I,w0⟩);rintro n s1 ⟨σ1,H1,I1,w1⟩;refine wpAny_passesOwn hp (thn (hc pins s1 σ1 H1 _ I1 (turn n σ1 H1 w1)) fun b s2 ⟨H2,I2,q2⟩=>?_)
 cases b with
 | true =>
  obtain ⟨N,hN,q2⟩:=q2;rw [if_pos rfl];refine wpAny_passesOwn hp (thn (hb pins s2 σ1 H2 _ I2 q2) fun f s3 q3=>?_)
  cases f with
  | next =>
   obtain ⟨σ3,H3,I3,n3⟩:=q3;obtain ⟨m',hm,w3⟩:=hN σ3 H3 n3
   exact ⟨m',hm,σ3,H3,I3,w3⟩
  | cont =>
   obtain ⟨σ3,H3,I3,n3⟩:=q3;obtain ⟨m',hm,w3⟩:=hN σ3 H3 n3
   exact ⟨m',hm,σ3,H3,I3,w3⟩
  | brk=>exact q3
  | ret v=>exact q3
 | false =>
  rw [if_neg Bool.false_ne_true];exact wpAny_execs_nil ⟨σ1,H2,I2,q2⟩
end
structure It where
 go : Nat->Hp->Prop
 yld : Nat->Hp->V->Hp->Prop
 stop : Nat->Hp->Prop
noncomputable def zfl (X:Cx) (pins:List (Addr×Obj)) (H:Hp) (b:Addr) : Prop :=
 H b=none/\b≠X.env.locals/\b∉X.fs/\(b∈X.ex\/X.s₀.heap.objs.size<=b)/\(∀ x c,X.env.cells.lookup x=some c->c≠b)/\∀ p∈X.pn++pins,p.1≠b
theorem Inv.fpOk {X:Cx} {pins:List (Addr×Obj)} {σ:St} {H H':Hp} {s:Shared} {b:Addr} (I:Inv X pins σ H s) (hb:s.heap.objs.size<=b) (hn:H' b=none) : zfl X pins H' b:=by
 refine ⟨hn,Nat.ne_of_gt (Nat.lt_of_lt_of_le I.lt hb),I.nofs hb,.inr (Nat.le_trans I.sz hb),fun x c e z=>?_,fun p hp z=>?_⟩
 ·obtain ⟨v,q⟩:=I.cell x c e;exact absurd (Nat.lt_of_lt_of_le q.lt (by rw [z]; exact hb)) (Nat.lt_irrefl _)
 ·exact absurd (Nat.lt_of_lt_of_le (Heap.lt_size (I.pin p hp).1) (by rw [z]; exact hb)) (Nat.lt_irrefl _)
structure ziu (P:Program) (w:World) (K:PySem.W.Frag) (tg:Expr) (J:It) (fp:List Addr) (it:Addr) (tn:Nat->Heap->Prop) : Prop where
 mem : it∈fp
 obj : ∀ i h,tn i h->∀ b∈fp,∃ o,h.get? b=some o/\∀ v,o.data≠.cell v
 keep : ∀ i h h',tn i h->(∀ b∈fp,∀ o,h.get? b=some o->h'.get? b=some o)->tn i h'
 item : ∀ (X:Cx),X.prog=P->X.w=w->X.K=K->X.calm=true->∀ (i:Nat) (pins:List (Addr×Obj)) (s:Shared) (σ:St) (H:Hp) (E:Value->Shared->Prop),Inv X pins σ H s->(∀ b∈fp,zfl X pins H b)->tn i s.heap->J.go i H ->
  wpAny (model P w) X.A (pyNext (.ref it)) (fun r s1=>∃ u,r=some u /\
   wpAny (model P w) X.A (letOwnedTupleGo tg (.ref it) u) (fun _ s2=>∃ x H',Inv X pins σ H' s2/\za5 x u/\J.yld i H x H'/\tn (i + 1) s2.heap/\∀ b∈fp,H' b=none) E s1) E s
 done : ∀ (X:Cx),X.prog=P->X.w=w->X.K=K->X.calm=true->∀ (i:Nat) (pins:List (Addr×Obj)) (s:Shared) (σ:St) (H:Hp) (E:Value->Shared->Prop),Inv X pins σ H s->(∀ b∈fp,zfl X pins H b)->tn i s.heap->J.stop i H ->
  wpAny (model P w) X.A (pyNext (.ref it)) (fun r s1=>r=none/\Inv X pins σ H s1) E s
 self : ∀ (A:Around) (i:Nat) (s:Shared) (Q:Value->Shared->Prop) (E:Value->Shared->Prop),tn i s.heap->Q (.ref it) s->wpAny (model P w) A (pyIter (.ref it)) Q E s
noncomputable abbrev TI:=St->Hp->(It->Hp->Prop)->Prop
noncomputable def PIE (X:Cx) (pins:List (Addr×Obj)) (σ:St) (tg:Expr) (R:It->Hp->Prop) (itv:Value) (s2:Shared) : Prop :=
 ∃ (it:Addr) (fp:List Addr) (tn:Nat->Heap->Prop) (J:It) (H':Hp),itv=.ref it/\Inv X pins σ H' s2/\ziu X.prog X.w X.K tg J fp it tn/\tn 0 s2.heap/\(∀ b∈fp,zfl X pins H' b)/\R J H'
noncomputable def PI (X:Cx) (tg iter:Expr) (wi:TI) : Prop :=
 ∀ (pins:List (Addr×Obj)) (s:Shared) (σ:St) (H:Hp) (R:It->Hp->Prop),Inv X pins σ H s->wi σ H R ->
  wpAny (model X.prog X.w) X.A (eval iter X.env) (fun v s1=>wpAny (model X.prog X.w) X.A (pyIter v) (PIE X pins σ tg R) X.xe s1) X.xe s
theorem znk {M : Model} {A : Around} {E : Value->Shared->Prop} {s : Shared} {tg : Expr} {it : Addr} {u : Value} {o : Obj} {n : String} {vs : Array Value} {Q : Unit->Shared->Prop} (ho : s.heap.get? it = some o) (hc : o.cls = .type n) (hd : o.data = .fields vs)
    (hn : ["enumerate", "zip", "dict_itemiterator", "dict_reverseitemiterator", "odict_iterator", "itertools.zip_longest", "itertools.pairwise"].contains n = false) (hQ : Q () s) : wpAny M A (letOwnedTupleGo tg (.ref it) u) Q E s := by
  unfold letOwnedTupleGo
  cases tg <;> first
    | exact wpAny_pure hQ
    | (cases u <;> first
        | exact wpAny_pure hQ
        | (refine wpAny_bind (wpAny_load ho ?_)
           rw [hc, hd];show wpAny M A (if (["enumerate", "zip", "dict_itemiterator", "dict_reverseitemiterator", "odict_iterator", "itertools.zip_longest", "itertools.pairwise"].contains n && vs[0]?==some (rawInt _)) = true then _ else _) Q E s;rw [if_neg (by intro h; rw [hn, Bool.false_and] at h; cases h)];exact wpAny_pure hQ))
noncomputable def Itl (K:PySem.W.Frag) (a:Addr) : It :=
 ⟨fun i H=>∃ xs x,SqL K H a xs/\xs[i]?=some x,fun i H x H'=>H'=H/\∀ xs,SqL K H a xs->xs[i]?=some x,fun i H=>∃ xs,SqL K H a xs/\xs.length<=i⟩
noncomputable def Itt (K:PySem.W.Frag) (a:Addr) : It :=
 ⟨fun i H=>∃ xs x,SqT K H a xs/\xs[i]?=some x,fun i H x H'=>H'=H/\∀ xs,SqT K H a xs->xs[i]?=some x,fun i H=>∃ xs,SqT K H a xs/\xs.length<=i⟩
noncomputable def Itr (lo:Int) (n:Nat) : It:=⟨fun i _=>i < n,fun i H x H'=>H'=H/\x=.int (lo + i),fun i _=>n<=i⟩
theorem ydx {P:Program} {w:World} {K:PySem.W.Frag} {tg:Expr} (a it:Addr) : ziu P w K tg (Itl K a) [it] it (fun i h=>h.IsListIter it a i) where
 mem:=by simp
 obj:=fun i h st b hb=>by
  have e : b=it:=by simpa using hb
  subst e;obtain ⟨o,e,c,d⟩:=st;exact ⟨o,e,fun v z=>by rw [d] at z; cases z⟩
 keep:=fun i h h' st k=>st.at fun o e=>k it (by simp) o e
 item:=by
  intro X hP hw hK hc i pins s σ H E I hf st hg;subst hP hw hK;obtain ⟨xs,x,hq,hx⟩:=hg;obtain ⟨its,rv,p,hz⟩:=I.list hq;obtain ⟨u,hu,ru⟩:=rv.get hx;obtain ⟨f0,f1,f2,f3,f4,f5⟩:=hf it (by simp);refine wpAny_pyNext_list_item st p.isList (x:=u) (by simpa using hu) fun h' st' sb=>?_
  have I1 : Inv X pins σ H { s with heap:=h' }:=I.turned (t':=s.toks) (fun b o hb e=>(sb.2 b hb).trans e) f0 f1 f3 f4 f5
  obtain ⟨o,e,c,d⟩:=id st'
  exact ⟨u,rfl,znk (s:={ s with heap:=h' }) e c d (by decide) ⟨x,H,I1,ru,⟨rfl,fun ys hy=>by rw [I.list_inj hy hq]; exact hx⟩,st',fun b hb=>(hf b hb).1⟩⟩
 done:=by
  intro X hP hw hK hc i pins s σ H E I hf st hg;subst hP hw hK;obtain ⟨xs,hq,hx⟩:=hg;obtain ⟨its,rv,p,hz⟩:=I.list hq;obtain ⟨f0,f1,f2,f3,f4,f5⟩:=hf it (by simp);have hl:=rv.length;exact wpAny_pyNext_list_end (I.ok.hd hc) st p.isList (by simp; omega) fun h' eb=>⟨rfl,I.turned (t':=s.toks) (fun b o hb e=>eb b o hb e) f0 f1 f3 f4 f5⟩
 self:=fun _ _ _ _ _ st h=>wpAny_pyIter_listiter st h
theorem yd0 {P:Program} {w:World} {K:PySem.W.Frag} {tg:Expr} (a it:Addr) : ziu P w K tg (Itt K a) [it] it (fun i h=>h.IsTupleIter it a i) where
 mem:=by simp
 obj:=fun i h st b hb=>by
  have e : b=it:=by simpa using hb
  subst e;obtain ⟨o,e,c,d⟩:=st;exact ⟨o,e,fun v z=>by rw [d] at z; cases z⟩
 keep:=fun i h h' st k=>st.at fun o e=>k it (by simp) o e
 item:=by
  intro X hP hw hK hc i pins s σ H E I hf st hg;subst hP hw hK;obtain ⟨xs,x,hq,hx⟩:=hg;obtain ⟨its,rv,p,hz⟩:=I.tuple hq;obtain ⟨u,hu,ru⟩:=rv.get hx;obtain ⟨f0,f1,f2,f3,f4,f5⟩:=hf it (by simp);refine wpAny_pyNext_tuple_item st (show s.heap.IsTuple a its.toArray from p) (x:=u) (by simpa using hu) fun h' st' sb=>?_
  have I1 : Inv X pins σ H { s with heap:=h' }:=I.turned (t':=s.toks) (fun b o hb e=>(sb.2 b hb).trans e) f0 f1 f3 f4 f5
  obtain ⟨o,e,c,d⟩:=id st'
  exact ⟨u,rfl,znk (s:={ s with heap:=h' }) e c d (by decide) ⟨x,H,I1,ru,⟨rfl,fun ys hy=>by rw [I.tuple_inj hy hq]; exact hx⟩,st',fun b hb=>(hf b hb).1⟩⟩
 done:=by
  intro X hP hw hK hc i pins s σ H E I hf st hg;subst hP hw hK;obtain ⟨xs,hq,hx⟩:=hg;obtain ⟨its,rv,p,hz⟩:=I.tuple hq;obtain ⟨f0,f1,f2,f3,f4,f5⟩:=hf it (by simp);have hl:=rv.length;exact wpAny_pyNext_tuple_end (I.ok.hd hc) st (show s.heap.IsTuple a its.toArray from p) (by simp; omega) fun h' eb=>⟨rfl,I.turned (t':=s.toks) (fun b o hb e=>eb b o hb e) f0 f1 f3 f4 f5⟩
 self:=fun _ _ _ _ _ st h=>wpAny_pyIter_tupleiter st h
theorem ydy {P:Program} {w:World} {K:PySem.W.Frag} {tg:Expr} (it:Addr) (lo:Int) (n:Nat) : ziu P w K tg (Itr lo n) [it] it (fun i h=>IsRangeIter h it (lo + (i:Nat) * 1) ((n:Int) - (i:Nat)) 1) where
 mem:=by simp
 obj:=fun i h st b hb=>by
  have e : b=it:=by simpa using hb
  subst e
  exact ⟨_,st,fun v z=>by
   have z' : Data.fields _=Data.cell v:=z;cases z'⟩
 keep:=fun i h h' st k=>k it (by simp) _ st
 item:=by
  intro X hP hw hK hc i pins s σ H E I hf st hg;subst hP hw hK;obtain ⟨f0,f1,f2,f3,f4,f5⟩:=hf it (by simp);have W:=Walks.range (prog:=X.prog) (w:=X.w) (I.ok.hd hc) it lo 1 n;refine W.item i s _ _ hg st fun v h' tk hv st' kk=>?_;obtain ⟨t,rfl⟩:=hv
  have I1 : Inv X pins σ H { s with heap:=h',toks:=tk }:=I.turned (fun b o hb e=>kk b o (by simpa using hb) e) f0 f1 f3 f4 f5
  refine ⟨_,rfl,znk (s:={ s with heap:=h',toks:=tk }) (n:="range_iterator") st' rfl rfl (by decide) ⟨.int (lo + i),H,I1,⟨t,?_⟩,⟨rfl,rfl⟩,st',fun b hb=>(hf b hb).1⟩⟩
  rw [Int.mul_one]
 done:=by
  intro X hP hw hK hc i pins s σ H E I hf st hg;subst hP hw hK;obtain ⟨f0,f1,f2,f3,f4,f5⟩:=hf it (by simp);exact wpAny_pyNext_range_end (I.ok.hd hc) st (by have:n<=i:=hg; omega) fun h' eb=>⟨rfl,I.turned (t':=s.toks) (fun b o hb e=>eb b o hb e) f0 f1 f3 f4 f5⟩
 self:=fun _ _ _ _ _ st h=>wpAny_pyIter_rangeiter st h
section
variable {X:Cx} {tg:Expr}
noncomputable def z53 (K:PySem.W.Frag) (tl:TE) : TI:=fun σ H R=>tl σ H fun x H1=>∃ a,x=.ref a/\(∃ xs,SqL K H1 a xs)/\R (Itl K a) H1
noncomputable def z55 (K:PySem.W.Frag) (tl:TE) : TI:=fun σ H R=>tl σ H fun x H1=>∃ a,x=.ref a/\(∃ xs,SqT K H1 a xs)/\R (Itt K a) H1
theorem z94 {l:Expr} {tl:TE} (hl:PE X l tl) : PI X tg l (z53 X.K tl):=by
 intro pins s σ H R I h;refine thn (hl pins s σ H _ I h) fun v s1 ⟨x,H1,I1,r1,q1⟩=>?_;obtain ⟨a,e,⟨xs,hq⟩,q⟩:=q1;subst e;cases r1;obtain ⟨its,rv,p,hz⟩:=I1.list hq;refine wpAny_pyIter_list p.isList ?_;refine ⟨s1.heap.objs.size,[s1.heap.objs.size],_,_,H1,rfl,I1.kept (t':=s1.toks) fun b o e=>Heap.get?_push_of_some _ e,ydx a _,⟨_,Heap.get?_push_size _ rfl,rfl,rfl⟩,fun b hb=>?_,q⟩;have e : b=s1.heap.objs.size:=by simpa using hb
 subst e;exact I1.fpOk (Nat.le_refl _) (I1.hok.fresh (Nat.le_refl _))
theorem z0g {l:Expr} {tl:TE} (hl:PE X l tl) : PI X tg l (z55 X.K tl):=by
 intro pins s σ H R I h;refine thn (hl pins s σ H _ I h) fun v s1 ⟨x,H1,I1,r1,q1⟩=>?_;obtain ⟨a,e,⟨xs,hq⟩,q⟩:=q1;subst e;cases r1;obtain ⟨its,rv,p,hz⟩:=I1.tuple hq;refine wpAny_pyIter_tuple (show s1.heap.IsTuple a its.toArray from p) ?_;refine ⟨s1.heap.objs.size,[s1.heap.objs.size],_,_,H1,rfl,I1.kept (t':=s1.toks) fun b o e=>Heap.get?_push_of_some _ e,yd0 a _,⟨_,Heap.get?_push_size _ rfl,rfl,rfl⟩,fun b hb=>?_,q⟩;have e : b=s1.heap.objs.size:=by simpa using hb
 subst e;exact I1.fpOk (Nat.le_refl _) (I1.hok.fresh (Nat.le_refl _))
theorem yba {pins:List (Addr×Obj)} {σ:St} {H:Hp} {s:Shared} {R:It->Hp->Prop} {E:Value->Shared->Prop} {lo hi:Int} {t u v:Tok} {tk:Nat} (I:Inv X pins σ H s) (h1:-(2 ^ 62)<=lo) (h2:lo < 2 ^ 62) (h3:-(2 ^ 62)<=hi) (h4:hi < 2 ^ 62)
  (q:R (Itr lo (hi - lo).toNat) H) : wpAny (model X.prog X.w) X.A (pyIter (.ref s.heap.objs.size)) (PIE X pins σ tg R) E { s with heap:=s.heap.push { cls:=.type "range",data:=.fields #[.int lo t,.int hi u,.int 1 v] },toks:=tk }:=by
 refine wpAny_pyIter_range (IsRange.new ..) (small_one h1 h2 h3 h4) ?_
 have I1 : Inv X pins σ H { s with heap:=s.heap.push { cls:=.type "range",data:=.fields #[.int lo t,.int hi u,.int 1 v] },toks:=tk }:=I.kept fun b o e=>Heap.get?_push_of_some _ e
 refine ⟨(s.heap.push { cls:=.type "range",data:=.fields #[.int lo t,.int hi u,.int 1 v] }).objs.size,[(s.heap.push { cls:=.type "range",data:=.fields #[.int lo t,.int hi u,.int 1 v] }).objs.size],_,_,H,rfl,
  I1.kept (t':=tk) fun b o e=>Heap.get?_push_of_some _ e,ydy _ lo (hi - lo).toNat,?_,fun b hb=>?_,q⟩
 ·have e1 : lo + ((0 : Nat) : Int) * 1=lo:=by simp
  have e2 : (((hi - lo).toNat : Nat) : Int) - ((0 : Nat) : Int)=Builtin.Range.rangeSize lo hi 1:=by rw [rangeSize_one]; split <;> omega
  show IsRangeIter _ _ (lo + ((0 : Nat) : Int) * 1) ((((hi - lo).toNat : Nat) : Int) - ((0 : Nat) : Int)) 1;rw [e1,e2];exact Heap.get?_push_size _ rfl
 ·have e : b=(s.heap.push { cls:=.type "range",data:=.fields #[.int lo t,.int hi u,.int 1 v] }).objs.size:=by simpa using hb
  subst e;exact I1.fpOk (Nat.le_refl _) (I1.hok.fresh (Nat.le_refl _))
noncomputable def z54 (ta:TA) : TI:=fun σ H R=>ta σ H fun vs H1=>∃ j : Int,vs=[.int j]/\-(2 ^ 62)<=j/\j < 2 ^ 62/\R (Itr 0 j.toNat) H1
theorem z0f {a:Expr} {ta:TA} {p pos:Pos} (hg:Gl X "range") (hm:X.mg "range"=none) (ha:PA X [a] ta) (hs:starEach [a] X.env=[(false,eval a X.env)]:=by rfl) : PI X tg (.Call (.Name "range" p) [a] [] pos) (z54 ta):=by
 intro pins s σ H R I h;refine Call_ (zkg I hg hm boot_range (PyProof.Rows.callWith_type1 (thn (ha pos pins s σ H _ I h) fun us s1 ⟨vs,H1,I1,r1,q1⟩=>?_) hs rfl));obtain ⟨j,e,q1,q2,q⟩:=q1;subst e
 cases r1 with
 | cons r rr =>
  cases rr;obtain ⟨t,rfl⟩:=r;exact call_range_1 (yba I1 (by omega) (by omega) q1 q2 (by simpa using q))
noncomputable def ydb (wi:TI) (g:TG) (tb:TS) : TS:=fun D σ H=>wi σ H fun J H1=>∃ W : Nat->Nat->St->Hp->Prop,(∃ m,W 0 m σ H1)/\∀ i m σ H,W i m σ H ->
 (J.stop i H/\D.nx σ H)\/(J.go i H/\∃ N : St->Hp->Prop,(∀ σ' H',N σ' H'->∃ m',m' < m/\W (i + 1) m' σ' H')/\∀ x H',J.yld i H x H'->g x σ H' fun σ2 H2=>tb { D with nx:=N,ct:=N,bk:=D.nx } σ2 H2)
noncomputable def zod (fp:List Addr) (h:Heap) : List (Addr×Obj):=fp.filterMap fun b=>(h.get? b).map fun o=>(b,o)
theorem zn1 {fp:List Addr} {h:Heap} {b:Addr} {o:Obj} (hb:b∈fp) (e:h.get? b=some o) : (b,o)∈zod fp h:=List.mem_filterMap.mpr ⟨b,hb,by rw [e]; rfl⟩
theorem z8c {fp:List Addr} {h:Heap} {p:Addr×Obj} (hp:p∈zod fp h) : p.1∈fp/\h.get? p.1=some p.2:=by
 obtain ⟨b,hb,e⟩:=List.mem_filterMap.mp hp
 cases q : h.get? b with
 | none=>rw [q] at e; cases e
 | some o =>
  rw [q] at e;have e' : (b,o)=p:=Option.some.inj e;subst e';exact ⟨hb,q⟩
theorem Inv.pinned {pins:List (Addr×Obj)} {σ:St} {H:Hp} {s:Shared} {fp:List Addr} (I:Inv X pins σ H s) (hf:∀ b∈fp,zfl X pins H b) (ho:∀ b∈fp,∃ o,s.heap.get? b=some o/\∀ v,o.data≠.cell v) : Inv X (pins++zod fp s.heap) σ H s :=
 I.pins_of fun p hp=>(List.mem_append.mp hp).elim (fun z=>I.pin p (List.mem_append_right _ z)) fun z=>by
  obtain ⟨hb,e⟩:=z8c z;obtain ⟨f0,f1,f2,_⟩:=hf p.1 hb;obtain ⟨o,e',d⟩:=ho p.1 hb;rw [e] at e'; cases e';exact ⟨e,f0,f1,f2,d⟩
theorem Inv.unpinned {pins pl:List (Addr×Obj)} {σ:St} {H:Hp} {s:Shared} (I:Inv X (pins++pl) σ H s) : Inv X pins σ H s:=I.pins_of fun p hp=>I.pin p (List.mem_append_right _ (List.mem_append_left _ hp))
theorem z0q {iter:Expr} {body:List Stmt} {wi:TI} {g:TG} {tb:TS} {pos:Pos} (hp:PassesOwn (model X.prog X.w) X.A X.env X.xe) (hc:X.calm=true) (hi:PI X tg iter wi) (hg:PG X tg g) (hb:PSs X body tb)
  (hs:∀ x,foldedSetIterable iter X.env x=pure x:=by intro _; rfl) : PS X (.For tg iter body [] pos) (ydb wi g tb):=by
 intro pins s σ H D I h;refine wpAny_For (thn (hi pins s σ H _ I h) fun v s1 h1=>thn h1 fun itv s2 h2=>?_) hs;obtain ⟨it,fp,tn,J,H2,e,I2,T,st2,f2,W,⟨m0,w0⟩,turn⟩:=h2;subst e;have stat : ∀ {H':Hp},(∀ b∈fp,H' b=none)->∀ b∈fp,zfl X pins H' b:=fun hn b hb=>⟨hn b hb,(f2 b hb).2⟩;refine codeAny_forLoop_any (fun n s'=>∃ i σ' H',Inv X pins σ' H' s'/\tn i s'.heap/\(∀ b∈fp,H' b=none)/\W i n σ' H') ?_ m0 ⟨0,σ,H2,I2,st2,fun b hb=>(f2 b hb).1,w0⟩;rintro n s3 ⟨i,σ3,H3,I3,st3,fr3,w3⟩
 rcases turn i n σ3 H3 w3 with ⟨stop,qn⟩ | ⟨go,N,hN,step⟩
 ·refine wpAny_passesOwn hp (thn (T.done X rfl rfl rfl hc i pins s3 σ3 H3 X.xe I3 (stat fr3) st3 stop) fun r s4 ⟨hr,I4⟩=>?_);subst hr;exact wpAny_execs_nil ⟨σ3,H3,I4,qn⟩
 ·refine wpAny_passesOwn hp (thn (T.item X rfl rfl rfl hc i pins s3 σ3 H3 X.xe I3 (stat fr3) st3 go) fun r s4 ⟨u,hr,h4⟩=>?_);subst hr;refine wpAny_passesOwn hp (thn h4 fun _ s5 ⟨x,H5,I5,r5,y5,st5,fr5⟩=>?_);have I5':=I5.pinned (stat fr5) (T.obj _ _ st5);refine wpAny_passesOwn hp (thn (hg _ s5 σ3 H5 x u _ I5' r5 (step x H5 y5)) fun _ s6 ⟨σ6,H6,I6,q6⟩=>?_);refine wpAny_passesOwn hp (thn (hb _ s6 σ6 H6 _ I6 q6) fun f s7 q7=>?_)
  have again : ∀ {σ7:St} {H7:Hp},Inv X (pins++zod fp s5.heap) σ7 H7 s7->N σ7 H7->∃ m,m < n/\∃ i σ' H',Inv X pins σ' H' s7/\tn i s7.heap/\(∀ b∈fp,H' b=none)/\W i m σ' H':=fun {σ7 H7} I7 n7=>by
   obtain ⟨m',hm,w7⟩:=hN σ7 H7 n7;refine ⟨m',hm,i + 1,σ7,H7,I7.unpinned,T.keep _ _ _ st5 fun b hb o e=>(I7.pin (b,o) (List.mem_append_right _ (List.mem_append_right _ (zn1 hb e)))).1,fun b hb=>?_,w7⟩;obtain ⟨o,e,d⟩:=T.obj _ _ st5 b hb;exact (I7.pin (b,o) (List.mem_append_right _ (List.mem_append_right _ (zn1 hb e)))).2.1
  cases f with
  | next=>obtain ⟨σ7,H7,I7,n7⟩:=q7; exact again I7 n7
  | cont=>obtain ⟨σ7,H7,I7,n7⟩:=q7; exact again I7 n7
  | brk=>obtain ⟨σ7,H7,I7,q7⟩:=q7; exact ⟨σ7,H7,I7.unpinned,q7⟩
  | ret v=>obtain ⟨x7,σ7,H7,I7,r7,q7⟩:=q7; exact ⟨x7,σ7,H7,I7.unpinned,r7,q7⟩
end
theorem z5k {K:PySem.W.Frag} {a:Addr} {xs:List V} {g:TG} {tb:TS} {D:zf2} {σ:St} {H:Hp} (Pv:Nat->St->Hp->Prop) (h0:Pv 0 σ H) (hl:∀ i σ H,i<=xs.length->Pv i σ H->SqT K H a xs)
  (hs:∀ i x σ H,xs[i]?=some x->Pv i σ H->g x σ H fun σ2 H2=>tb { D with nx:=Pv (i + 1),ct:=Pv (i + 1),bk:=D.nx } σ2 H2) (hd:∀ σ H,Pv xs.length σ H->D.nx σ H) :
  ∃ W : Nat->Nat->St->Hp->Prop,(∃ m,W 0 m σ H)/\∀ i m σ H,W i m σ H ->
   ((Itt K a).stop i H/\D.nx σ H)\/((Itt K a).go i H/\∃ N : St->Hp->Prop,(∀ σ' H',N σ' H'->∃ m',m' < m/\W (i + 1) m' σ' H')/\∀ x H',(Itt K a).yld i H x H'->g x σ H' fun σ2 H2=>tb { D with nx:=N,ct:=N,bk:=D.nx } σ2 H2):=by
 refine ⟨fun i m σ H=>m=xs.length - i/\i<=xs.length/\Pv i σ H,⟨xs.length,by simp,Nat.zero_le _,h0⟩,?_⟩;rintro i m σ H ⟨rfl,hi,p⟩;have q:=hl i σ H hi p
 by_cases hlt : i < xs.length
 ·refine .inr ⟨⟨xs,xs[i],q,by simp [hlt]⟩,Pv (i + 1),fun σ' H' p'=>⟨xs.length - (i + 1),by omega,rfl,hlt,p'⟩,fun x H' y=>?_⟩;obtain ⟨e,y⟩:=y;subst e;exact hs i x σ _ (y xs q) p
 ·have e : i=xs.length:=by omega
  subst e;exact .inl ⟨⟨xs,q,Nat.le_refl _⟩,hd σ H p⟩
noncomputable abbrev R2:=V->V->Hp->VK->Prop
noncomputable def OpR (X:Cx) (f:Value->Value->Sem Value) (r:R2) : Prop :=
 ∀ (pins:List (Addr×Obj)) (s:Shared) (σ:St) (H:Hp) (x y:V) (v u:Value) (Q:VK),Inv X pins σ H s->za5 x v->za5 y u->r x y H Q ->
  wpAny (model X.prog X.w) X.A (f v u) (EP X pins σ Q) X.xe s
noncomputable def UnR (X:Cx) (f:Value->Sem Value) (r:V->Hp->VK->Prop) : Prop :=
 ∀ (pins:List (Addr×Obj)) (s:Shared) (σ:St) (H:Hp) (x:V) (v:Value) (Q:VK),Inv X pins σ H s->za5 x v->r x H Q ->
  wpAny (model X.prog X.w) X.A (f v) (EP X pins σ Q) X.xe s
noncomputable def zg7 (X:Cx) (f:Value) (r:List V->Hp->VK->Prop) : Prop :=
 ∀ (pins:List (Addr×Obj)) (s:Shared) (σ:St) (H:Hp) (xs:List V) (us:List Value) (Q:VK),Inv X pins σ H s->zaz xs us->r xs H Q ->
  wpAny (model X.prog X.w) X.A (call f us) (EP X pins σ Q) X.xe s
noncomputable def z3f (X:Cx) (r:V->Hp->(Bool->Hp->Prop)->Prop) : Prop :=
 ∀ (pins:List (Addr×Obj)) (s:Shared) (σ:St) (H:Hp) (x:V) (v:Value) (Q:Bool->Hp->Prop),Inv X pins σ H s->za5 x v->r x H Q ->
  wpAny (model X.prog X.w) X.A (truthy v) (TP X pins σ Q) X.xe s
noncomputable def tOp (r:R2) (ta tb:TE) : TE:=fun σ H Q=>ta σ H fun x H1=>tb σ H1 fun y H2=>r x y H2 Q
noncomputable def tUn (r:V->Hp->VK->Prop) (ta:TE) : TE:=fun σ H Q=>ta σ H fun x H1=>r x H1 Q
noncomputable def rI (C:Int->Int->Prop) (g:Int->Int->V) : R2:=fun x y H Q=>∃ i j,x=.int i/\y=.int j/\C i j/\Q (g i j) H
noncomputable def rI0 (g:Int->Int->V) : R2:=fun x y H Q=>∃ i j,x=.int i/\y=.int j/\Q (g i j) H
noncomputable def rU (g:Int->V) : V->Hp->VK->Prop:=fun x H Q=>∃ i,x=.int i/\Q (g i) H
section
variable {X:Cx} {a b c:Expr} {ta tb tc:TE} {pos:Pos}
theorem zo6 (ha:PE X a ta) (hb:PE X b tb) {pins:List (Addr×Obj)} {s:Shared} {σ:St} {H:Hp} {R:V->V->Hp->Prop} (I:Inv X pins σ H s)
  (h:ta σ H fun x H1=>tb σ H1 fun y H2=>R x y H2) {Q:Value->Shared->Prop} {f:Value->Value->Sem Value}
  (hf:∀ v u s2 x y H2,Inv X pins σ H2 s2->za5 x v->za5 y u->R x y H2->wpAny (model X.prog X.w) X.A (f v u) Q X.xe s2) :
  wpAny (model X.prog X.w) X.A (eval a X.env) (fun v s₁=>wpAny (model X.prog X.w) X.A (eval b X.env) (fun u s₂=>wpAny (model X.prog X.w) X.A (f v u) Q X.xe s₂) X.xe s₁) X.xe s:=by
 refine thn (ha pins s σ H _ I h) fun v s1 ⟨x,H1,I1,r1,q1⟩=>?_;refine thn (hb pins s1 σ H1 _ I1 q1) fun u s2 ⟨y,H2,I2,r2,q2⟩=>?_;exact hf v u s2 x y H2 I2 r1 r2 q2
theorem zrj {op:Operator} {r:R2} (ho:OpR X (binaryOp op) r) (ha:PE X a ta) (hb:PE X b tb) : PE X (.BinOp a op b pos) (tOp r ta tb):=by
 intro pins s σ H Q I h;exact wpAny_BinOp (zo6 ha hb I h fun v u s2 x y H2 I2 rx ry q=>ho pins s2 σ H2 x y v u Q I2 rx ry q)
theorem z9z {op:UnaryOp} {r:V->Hp->VK->Prop} (ho:UnR X (unaryOp op) r) (ha:PE X a ta) : PE X (.UnaryOp op a pos) (tUn r ta):=by
 intro pins s σ H Q I h;exact UnaryOp_ (thn (ha pins s σ H _ I h) fun v s1 ⟨x,H1,I1,r1,q1⟩=>ho pins s1 σ H1 x v Q I1 r1 q1)
theorem opI {f:Value->Value->Sem Value} {C:Int->Int->Prop} {g:Int->Int->Int}
  (rule:∀ (i j:Int) (t u:Tok) (s:Shared) (Q:Value->Shared->Prop) (E:Value->Shared->Prop),C i j->Q (.int (g i j) s.toks) { s with toks:=s.toks + 1 }->wpAny (model X.prog X.w) X.A (f (.int i t) (.int j u)) Q E s) :
  OpR X f (rI C fun i j=>.int (g i j)):=by
 intro pins s σ H x y v u Q I rx ry h;obtain ⟨i,j,rfl,rfl,hc,q⟩:=h;obtain ⟨t,rfl⟩:=rx;obtain ⟨t',rfl⟩:=ry;exact rule i j t t' s _ _ hc ⟨.int (g i j),H,I.tok _,⟨_,rfl⟩,q⟩
theorem zzx {f:Value->Value->Sem Value} {g:Int->Int->Int}
  (rule:∀ (i j:Int) (t u:Tok) (s:Shared) (Q:Value->Shared->Prop) (E:Value->Shared->Prop),Q (.int (g i j) s.toks) { s with toks:=s.toks + 1 }->wpAny (model X.prog X.w) X.A (f (.int i t) (.int j u)) Q E s) :
  OpR X f (rI0 fun i j=>.int (g i j)):=by
 intro pins s σ H x y v u Q I rx ry h;obtain ⟨i,j,rfl,rfl,q⟩:=h;obtain ⟨t,rfl⟩:=rx;obtain ⟨t',rfl⟩:=ry;exact rule i j t t' s _ _ ⟨.int (g i j),H,I.tok _,⟨_,rfl⟩,q⟩
theorem zuh {f:Value->Value->Sem Value} {g:Int->Int->Bool}
  (rule:∀ (i j:Int) (t u:Tok) (s:Shared) (Q:Value->Shared->Prop) (E:Value->Shared->Prop),Q (.bool (g i j)) s->wpAny (model X.prog X.w) X.A (f (.int i t) (.int j u)) Q E s) :
  OpR X f (rI0 fun i j=>.bl (g i j)):=by
 intro pins s σ H x y v u Q I rx ry h;obtain ⟨i,j,rfl,rfl,q⟩:=h;obtain ⟨t,rfl⟩:=rx;obtain ⟨t',rfl⟩:=ry;exact rule i j t t' s _ _ ⟨.bl (g i j),H,I,rfl,q⟩
noncomputable def zmx (i j:Int) : Prop:=0 < j/\j < 1073741824
noncomputable def zmz (i j:Int) : Prop:=0<=j/\j<=1000000/\i.natAbs < 2 ^ 64
noncomputable def zmy (i j:Int) : Prop:=(-(2 ^ 64) < i/\i < 2 ^ 64)\/(-(2 ^ 64) < j/\j < 2 ^ 64)
theorem zmy.ok {i j:Int} (h:zmy i j) : IntMulOk i j:=by
 rcases h with ⟨h1,h2⟩ | ⟨h1,h2⟩
 ·exact .of_left (intBits_le_64 h1 h2)
 ·exact .of_right (intBits_le_64 h1 h2)
theorem z8y : OpR X (binaryOp .Add) (rI0 fun i j=>.int (i + j)):=zzx fun _ _ _ _ _ _ _ q=>add_int q
theorem z9b : OpR X (binaryOp .Sub) (rI0 fun i j=>.int (i - j)):=zzx fun _ _ _ _ _ _ _ q=>sub_int q
theorem z81 : OpR X (binaryOp .FloorDiv) (rI zmx fun i j=>.int (i / j)):=opI fun i j _ _ _ _ _ hc q=>by
 have h1 : (0 : Int) < j:=hc.1;have h2 : j < 1073741824:=hc.2;exact floordiv_int (by omega) (by rw [Int.fdiv_eq_ediv_of_nonneg i (by omega)]; exact q) (.inl (PyProof.noPylong_small (by omega)))
theorem z86 : OpR X (binaryOp .Mod) (rI (fun _ j=>0 < j) fun i j=>.int (i % j)):=opI fun i j _ _ _ _ _ hc q=>by
 have h1 : (0 : Int) < j:=hc;exact mod_int' (by omega) (by rw [Int.fmod_eq_emod_of_nonneg i (by omega)]; exact q)
theorem z9a : OpR X (binaryOp .Pow) (rI zmz fun i j=>.int (i ^ j.toNat)):=opI fun _ _ _ _ _ _ _ hc q=>pow_int_small hc.1 hc.2.1 hc.2.2 q
theorem unI {f:Value->Sem Value} {g:Int->Int}
  (rule:∀ (i:Int) (t:Tok) (s:Shared) (Q:Value->Shared->Prop) (E:Value->Shared->Prop),Q (.int (g i) s.toks) { s with toks:=s.toks + 1 }->wpAny (model X.prog X.w) X.A (f (.int i t)) Q E s) :
  UnR X f (rU fun i=>.int (g i)):=by
 intro pins s σ H x v Q I rx h;obtain ⟨i,rfl,q⟩:=h;obtain ⟨t,rfl⟩:=rx;exact rule i t s _ _ ⟨.int (g i),H,I.tok _,⟨_,rfl⟩,q⟩
theorem yd5 : UnR X (unaryOp .USub) (rU fun i=>.int (-i)):=unI fun _ _ _ _ _ q=>neg_int q
end
noncomputable def zu5 : V->V->Bool
 | .non,.non=>true | .non,.int _=>true | .int _,.non=>true | .non,.bl _=>true | .bl _,.non=>true | .non,.str _=>true | .str _,.non=>true
 | .int _,.int _=>true | .bl _,.bl _=>true | .str _,.str _=>true | .byt _,.byt _=>true
 | .int _,.str _=>true | .str _,.int _=>true | .bl _,.str _=>true | .str _,.bl _=>true
 | _,_=>false
noncomputable def rEq : R2:=fun x y H Q=>zu5 x y=true/\Q (.bl (decide (x=y))) H
noncomputable def rNe : R2:=fun x y H Q=>zu5 x y=true/\Q (.bl (!decide (x=y))) H
theorem zsw {i j:Int} : decide (V.int i=V.int j)=(i==j):=by
 rw [Bool.eq_iff_iff];simp
theorem zsv {i j:Bool} : decide (V.bl i=V.bl j)=(i==j):=by
 rw [Bool.eq_iff_iff];simp
theorem zsx {i j:Str} : decide (V.str i=V.str j)=(i==j):=by
 rw [Bool.eq_iff_iff];simp
theorem zws {i j:Array UInt8} : decide (V.byt i=V.byt j)=(i.toList==j.toList):=by
 rw [Bool.eq_iff_iff];cases i;cases j;simp
section
variable {X:Cx} {a b c:Expr} {ta tb tc:TE} {pos:Pos}
theorem zcp {pins:List (Addr×Obj)} {σ:St} {H:Hp} {s:Shared} {Q:VK} {k k':Bool} (I:Inv X pins σ H s) (q:Q (.bl k) H) (e:k=k') : EP X pins σ Q (.bool k') s:=by
 subst e;exact ⟨.bl k,H,I,rfl,q⟩
theorem z80 : OpR X (compareOp .Eq) rEq:=by
 intro pins s σ H x y v u Q I rx ry h;obtain ⟨hs,q⟩:=h
 cases x with
 | non =>
  cases rx
  cases y with
  | non=>cases ry; exact PySem.EqNone.eq_none_none (zcp I q (by simp))
  | bl j=>cases ry; exact PySem.EqNone.eq_none_bool (zcp I q (by simp))
  | int j=>obtain ⟨t',rfl⟩:=ry; exact PySem.EqNone.eq_none_int (zcp I q (by simp))
  | str j=>obtain ⟨t',rfl⟩:=ry; exact PySem.EqNone.eq_none_str (zcp I q (by simp))
  | _=>exact absurd (show false=true from hs) Bool.false_ne_true
 | bl i =>
  cases rx
  cases y with
  | non=>cases ry; exact PySem.EqNone.eq_bool_none (zcp I q (by simp))
  | bl j=>cases ry; exact eq_bool (zcp I q zsv)
  | str j=>obtain ⟨t',rfl⟩:=ry; exact PySem.EqMixed.eq_bool_str (zcp I q (by simp))
  | _=>exact absurd (show false=true from hs) Bool.false_ne_true
 | int i =>
  obtain ⟨t,rfl⟩:=rx
  cases y with
  | non=>cases ry; exact PySem.EqNone.eq_int_none (zcp I q (by simp))
  | int j=>obtain ⟨t',rfl⟩:=ry; exact eq_int (zcp I q zsw)
  | str j=>obtain ⟨t',rfl⟩:=ry; exact PySem.EqMixed.eq_int_str (zcp I q (by simp))
  | _=>exact absurd (show false=true from hs) Bool.false_ne_true
 | str i =>
  obtain ⟨t,rfl⟩:=rx
  cases y with
  | non=>cases ry; exact PySem.EqNone.eq_str_none (zcp I q (by simp))
  | bl j=>cases ry; exact PySem.EqMixed.eq_str_bool (zcp I q (by simp))
  | int j=>obtain ⟨t',rfl⟩:=ry; exact PySem.EqMixed.eq_str_int (zcp I q (by simp))
  | str j=>obtain ⟨t',rfl⟩:=ry; exact eq_str (zcp I q zsx)
  | _=>exact absurd (show false=true from hs) Bool.false_ne_true
 | byt i =>
  obtain ⟨t,rfl⟩:=rx
  cases y with
  | byt j=>obtain ⟨t',rfl⟩:=ry; exact PySem.W.eq_bytes (zcp I q zws)
  | _=>exact absurd (show false=true from hs) Bool.false_ne_true
 | _=>cases y <;> exact absurd (show false=true from hs) Bool.false_ne_true
theorem z88 : OpR X (compareOp .NotEq) rNe:=by
 intro pins s σ H x y v u Q I rx ry h;obtain ⟨hs,q⟩:=h
 cases x with
 | non =>
  cases rx
  cases y with
  | non=>cases ry; exact PySem.EqNone.ne_none_none (zcp I q (by simp))
  | bl j=>cases ry; exact PySem.EqNone.ne_none_bool (zcp I q (by simp))
  | int j=>obtain ⟨t',rfl⟩:=ry; exact PySem.EqNone.ne_none_int (zcp I q (by simp))
  | str j=>obtain ⟨t',rfl⟩:=ry; exact PySem.EqNone.ne_none_str (zcp I q (by simp))
  | _=>exact absurd (show false=true from hs) Bool.false_ne_true
 | bl i =>
  cases rx
  cases y with
  | non=>cases ry; exact PySem.EqNone.ne_bool_none (zcp I q (by simp))
  | bl j=>cases ry; exact ne_bool (zcp I q (congrArg not zsv))
  | str j=>obtain ⟨t',rfl⟩:=ry; exact PySem.EqMixed.ne_bool_str (zcp I q (by simp))
  | _=>exact absurd (show false=true from hs) Bool.false_ne_true
 | int i =>
  obtain ⟨t,rfl⟩:=rx
  cases y with
  | non=>cases ry; exact PySem.EqNone.ne_int_none (zcp I q (by simp))
  | int j=>obtain ⟨t',rfl⟩:=ry; exact ne_int (zcp I q (congrArg not zsw))
  | str j=>obtain ⟨t',rfl⟩:=ry; exact PySem.EqMixed.ne_int_str (zcp I q (by simp))
  | _=>exact absurd (show false=true from hs) Bool.false_ne_true
 | str i =>
  obtain ⟨t,rfl⟩:=rx
  cases y with
  | non=>cases ry; exact PySem.EqNone.ne_str_none (zcp I q (by simp))
  | bl j=>cases ry; exact PySem.EqMixed.ne_str_bool (zcp I q (by simp))
  | int j=>obtain ⟨t',rfl⟩:=ry; exact PySem.EqMixed.ne_str_int (zcp I q (by simp))
  | str j=>obtain ⟨t',rfl⟩:=ry; exact ne_str (zcp I q (congrArg not zsx))
  | _=>exact absurd (show false=true from hs) Bool.false_ne_true
 | byt i =>
  obtain ⟨t,rfl⟩:=rx
  cases y with
  | byt j=>obtain ⟨t',rfl⟩:=ry; exact PySem.W.ne_bytes (zcp I q (congrArg not zws))
  | _=>exact absurd (show false=true from hs) Bool.false_ne_true
 | _=>cases y <;> exact absurd (show false=true from hs) Bool.false_ne_true
theorem z85 : OpR X (compareOp .Lt) (rI0 fun i j=>.bl (decide (i < j))):=zuh fun _ _ _ _ _ _ _ q=>lt_int q
theorem z84 : OpR X (compareOp .LtE) (rI0 fun i j=>.bl (decide (i<=j))):=zuh fun _ _ _ _ _ _ _ q=>le_int q
theorem z82 : OpR X (compareOp .Gt) (rI0 fun i j=>.bl (decide (j < i))):=zuh fun _ _ _ _ _ _ _ q=>gt_int q
theorem zq0 (b:Expr) {op:CmpOp} (h:op≠.In:=by decide) (h2:op≠.NotIn:=by decide) : behindInMarks op b=false:=by
 have e1 : (op==CmpOp.In)=false:=by cases op <;> first | rfl | exact absurd rfl h
 have e2 : (op==CmpOp.NotIn)=false:=by cases op <;> first | rfl | exact absurd rfl h2
 cases b <;> simp [behindInMarks,e1,e2]
theorem zz5 {op:CmpOp} {r:R2} (ho:OpR X (compareOp op) r) (ha:PE X a ta) (hb:PE X b tb) (hm:behindInMarks op b=false) : PE X (.Compare a [op] [b] pos) (tOp r ta tb):=by
 intro pins s σ H Q I h;exact wpAny_Compare1 (zo6 ha hb I h fun v u s2 x y H2 I2 rx ry q=>ho pins s2 σ H2 x y v u Q I2 rx ry q) hm
noncomputable def ydp (t:TE) : TT:=fun σ H Q=>t σ H fun x H'=>∃ k,x=.bl k/\Q k H'
theorem z0r {op:CmpOp} {r:R2} (ho:OpR X (compareOp op) r) (ha:PE X a ta) (hb:PE X b tb) (hm:behindInMarks op b=false) : PT X (.Compare a [op] [b] pos) (ydp (tOp r ta tb)):=by
 intro pins s σ H Q I h
 refine wpAny_isTrue_Compare1 (thn (ha pins s σ H _ I h) fun v s1 ⟨x,H1,I1,r1,q1⟩=>thn (hb pins s1 σ H1 _ I1 q1) fun u s2 ⟨y,H2,I2,r2,q2⟩ =>
  thn (ho pins s2 σ H2 x y v u _ I2 r1 r2 q2) fun c s3 ⟨z,H3,I3,r3,k,e,q3⟩=>?_) hm
 subst e;cases r3;exact wpAny_truthy_bool ⟨H3,I3,q3⟩
noncomputable def yc6 (r r':R2) (ta tb tc:TE) : TE:=fun σ H Q=>ta σ H fun x H1=>tb σ H1 fun y H2=>r x y H2 fun z H3=>∃ k,z=.bl k /\
 (if k=true then tc σ H3 fun w' H4=>r' y w' H4 Q else Q (.bl false) H3)
theorem z9q {op op':CmpOp} {r r':R2} (ho:OpR X (compareOp op) r) (ho':OpR X (compareOp op') r') (ha:PE X a ta) (hb:PE X b tb) (hc:PE X c tc)
  (hm:lastMarks [op,op'] [b,c]=false:=by with_unfolding_all rfl) : PE X (.Compare a [op,op'] [b,c] pos) (yc6 r r' ta tb tc):=by
 intro pins s σ H Q I h
 refine Compare_chain (thn (ha pins s σ H _ I h) fun v s1 ⟨x,H1,I1,r1,q1⟩=>chain_link (thn (hb pins s1 σ H1 _ I1 q1) fun u s2 ⟨y,H2,I2,r2,q2⟩ =>
  thn (ho pins s2 σ H2 x y v u _ I2 r1 r2 q2) fun d s3 ⟨z,H3,I3,r3,k,e,q3⟩=>?_)) hm
 subst e;cases r3;refine wpAny_truthy_bool ?_
 cases k with
 | false=>exact ite_ff ⟨.bl false,H3,I3,rfl,q3⟩
 | true=>exact ite_tt (chain_last (thn (hc pins s3 σ H3 _ I3 q3) fun w' s4 ⟨z',H4,I4,r4,q4⟩=>ho' pins s4 σ H4 y z' u w' Q I4 r2 r4 q4))
noncomputable def zsb (K:PySem.W.Frag) (x:V) (H:Hp) (k:Bool) : Prop :=
 match x with
 | .non=>k=false
 | .bl b=>k=b
 | .int i=>k=(i != 0)
 | .str y=>y.length<=sizeLine/\k=((y.length : Int) != 0)
 | .byt y=>y.size<=sizeLine/\k=((y.size : Int) != 0)
 | .ref p=>(∃ xs,SqL K H p xs/\k=!xs.isEmpty)\/(∃ xs,SqT K H p xs/\k=!xs.isEmpty)\/∃ kvs,H p=some (.dK kvs)/\k=!kvs.isEmpty
 | _=>False
theorem z6e {κ : Type} {kvs:List (κ×V)} {vs:List (κ×Value)} (r:KV kvs vs) : (!vs.isEmpty)=!kvs.isEmpty:=by
 cases r <;> rfl
theorem zxw {xs:List V} {its:List Value} (r:zaz xs its) : (!its.toArray.isEmpty)=!xs.isEmpty:=by
 cases r <;> simp
theorem zki : (sizeLine:Nat) < 2 ^ 63:=by rw [sizeLine_eq]; decide
theorem ydt : z3f X (fun x H Q=>∃ k,zsb X.K x H k/\Q k H):=by
 intro pins s σ H x v Q I rx h;obtain ⟨k,e,q⟩:=h;have hl:=zki;have hs : sizeLine=16777216:=sizeLine_eq
 cases x with
 | non =>
  cases rx;have e' : k=false:=e;subst e'
  exact truthy_none ⟨H,I,q⟩
 | bl b =>
  cases rx;have e' : k=b:=e;subst e'
  exact wpAny_truthy_bool ⟨H,I,q⟩
 | int i =>
  obtain ⟨t,rfl⟩:=rx;have e' : k=(i != 0):=e;subst e'
  exact PySem.P.truthy_int ⟨H,I,q⟩
 | str y =>
  obtain ⟨t,rfl⟩:=rx;obtain ⟨hy,e'⟩ : y.length<=sizeLine/\k=((y.length : Int) != 0):=e;subst e'
  exact PySem.P.truthy_str (by omega) ⟨H,I.tok _,q⟩
 | byt y =>
  obtain ⟨t,rfl⟩:=rx;obtain ⟨hy,e'⟩ : y.size<=sizeLine/\k=((y.size : Int) != 0):=e;subst e'
  exact PySem.W.truthy_bytes (by omega) ⟨H,I.tok _,q⟩
 | ref p =>
  cases rx;have e' : (∃ xs,SqL X.K H p xs/\k=!xs.isEmpty)\/(∃ xs,SqT X.K H p xs/\k=!xs.isEmpty)\/∃ kvs,H p=some (.dK kvs)/\k=!kvs.isEmpty:=e
  rcases e' with ⟨xs,hx,e'⟩ | ⟨xs,hx,e'⟩ | ⟨kvs,hx,e'⟩
  ·subst e';obtain ⟨its,r,pl,hz⟩:=I.list hx;have hlen:=r.length;exact wpAny_truthy_list pl.isList (by simp only [List.size_toArray]; omega) ⟨H,I.tok _,by rw [zxw r]; exact q⟩
  ·subst e';obtain ⟨its,r,pl,hz⟩:=I.tuple hx;have hlen:=r.length;exact truthy_tuple pl (by simp only [List.size_toArray]; omega) ⟨H,I.tok _,by rw [zxw r]; exact q⟩
  ·subst e';obtain ⟨hz,hS,vs,r,m⟩ : kvs.length<=sizeLine/\(p==sysModules)=false/\∃ vs,KV kvs vs/\s.heap.DictOf (zt4 X.prog X.w) p vs:=I.hok p _ hx;have hlen : kvs.length=vs.length:=Paired.length r
   exact wpAny_truthy_dict hS m (by omega) ⟨H,I.tok _,by rw [z6e r]; exact q⟩
 | _=>exact (show False from e).elim
theorem z0t (ha:PE X a ta) (he:∀ whole,isTrue a X.env whole=(do let v <- whole; standAt a.pos; holding [v] (truthy v))) :
  PT X a (fun σ H Q=>ta σ H fun x H'=>∃ k,zsb X.K x H' k/\Q k H'):=by
 intro pins s σ H Q I h;exact isTrue_plain (thn (ha pins s σ H _ I h) fun v s1 ⟨x,H1,I1,r1,q1⟩=>ydt pins s1 σ H1 x v Q I1 r1 q1) (he _)
theorem z8z : OpR X (binaryOp .Add) (fun x y H Q=>∃ i j,x=.str i/\y=.str j/\i.length + j.length<=sizeLine/\Q (.str (i++j)) H):=by
 intro pins s σ H x y v u Q I rx ry h;obtain ⟨i,j,rfl,rfl,hz,q⟩:=h;obtain ⟨t,rfl⟩:=rx;obtain ⟨t',rfl⟩:=ry;exact add_str (fun t' tk=>⟨.str (i++j),H,I.tok _,⟨_,rfl⟩,q⟩) hz
theorem z6b : OpR X (inplaceOp .Add) (fun x y H Q=>∃ i j,x=.str i/\y=.str j/\i.length + j.length<=sizeLine/\Q (.str (i++j)) H):=by
 intro pins s σ H x y v u Q I rx ry h;obtain ⟨i,j,rfl,rfl,hz,q⟩:=h;obtain ⟨t,rfl⟩:=rx;obtain ⟨t',rfl⟩:=ry;exact iadd_str (fun t' tk=>⟨.str (i++j),H,I.tok _,⟨_,rfl⟩,q⟩) hz
noncomputable def zvq (b:Expr) : Prop:=∀ o i,subscripted b false o i=operate [o,i] (getItem o i)
theorem z9t (ha:PE X a ta) (hb:PE X b tb) (hs:zvq b) :
  PE X (.Subscript a b pos) (tOp (fun x y H Q=>∃ z i c,x=.str z/\y=.int i/\0<=i/\i < 2 ^ 63/\i < z.length/\z.cps[i.toNat]?=some c/\Q (.str ⟨#[c]⟩) H) ta tb):=by
 intro pins s σ H Q I h;refine Subscript_ (zo6 ha hb I h fun v u s2 x y H2 I2 rx ry q=>?_);obtain ⟨z,i,c,rfl,rfl,h0,h63,h1,hc,q⟩:=q;obtain ⟨t,rfl⟩:=rx;obtain ⟨t',rfl⟩:=ry;have e : seqIndex? i z.length=some i.toNat:=PySem.StrLaws.seqIndex_nonneg h0 h1
 exact tail_any (typeIs_str s2 z t) slot_str_getitem.lookup (getItem_str (c:=c) (by
  have e1 : decide (i < -(2 ^ 63 : Int))=false:=decide_eq_false (by omega);have e2 : decide (i ≥ 2 ^ 63)=false:=decide_eq_false (by omega)
  rw [e1,e2] <;> rfl) (by rw [e]; exact hc) ⟨.str ⟨#[c]⟩,H2,I2.tok _,⟨_,rfl⟩,q⟩) (hs _ _)
theorem zmv {x:V} {us:List Value} (r:zaz [x] us) : ∃ u,us=[u]/\za5 x u:=by
 cases r with
 | cons r1 r2=>cases r2; exact ⟨_,rfl,r1⟩
theorem yd7 {x y:V} {us:List Value} (r:zaz [x,y] us) : ∃ u w',us=[u,w']/\za5 x u/\za5 y w':=by
 cases r with
 | cons r1 r2 =>
  cases r2 with
  | cons r3 r4=>cases r4; exact ⟨_,_,rfl,r1,r3⟩
theorem z3y : zg7 X (.type "str") (fun xs H Q=>∃ i,xs=[.int i]/\i.natAbs.log2 < 1920/\Q (.str (toString i)) H):=by
 intro pins s σ H xs us Q I r h;obtain ⟨i,rfl,hz,q⟩:=h;obtain ⟨u,rfl,t,rfl⟩:=zmv r;exact PySem.P.str_of_int hz ⟨.str _,H,I.tok _,⟨_,rfl⟩,q⟩
end
structure zit (h:Heap) (x dx C:Addr) (mA:Str->Option Value) : Prop where
 obj : h.get? x=some (PySem.W.instObj C dx)
 ns : h.Ns1 dx mA
 ne : dx≠x
theorem z68 {h:Heap} {dx:Addr} {mA:Str->Option Value} (n:h.Ns1 dx mA) : ∃ od,h.get? dx=some od/\∀ name,PySem.W.lookIn name od=some (mA name):=by
 obtain ⟨o,es,ep,ho,hd,hk,_,hm⟩:=n;refine ⟨o,ho,fun name=>?_⟩;have e:=hm name;unfold nsFind findBy at e;rw [<- Array.find?_toList] at e;unfold PySem.W.lookIn;rw [hd];dsimp only;split
 ·rename_i y q;rw [q] at e;exact congrArg some e
 ·rename_i q;rw [q] at e
  have a : es.toList.any (·.refKey)=false:=by
   rw [List.any_eq_false];intro y hy;obtain ⟨z,t,hkey⟩:=hk y (Array.mem_toList_iff.mp hy);simp [DictEntry.refKey,hkey]
  have a' : ¬ es.toList.any (·.refKey)=true:=by rw [a]; exact Bool.false_ne_true
  rw [if_neg a'];exact congrArg some e
theorem zit.look {h:Heap} {x dx C:Addr} {mA:Str->Option Value} (I:zit h x dx C mA) : ∃ od,PySem.W.InstAt h x (PySem.W.instObj C dx) C (some od)/\∀ name,PySem.W.lookIn name od=some (mA name) :=
 let ⟨od,ho,hl⟩:=z68 I.ns
 ⟨od,⟨I.obj,rfl,rfl,ho⟩,hl⟩
section
variable {prog:Program} {w:World} {A:Around} {E:Value->Shared->Prop} {s:Shared} {K:PySem.W.Frag} {x dx C f:Addr} {mA:Str->Option Value} {name:Str} {v:Value}
theorem z5t {expr:Bool} {Q:Value->Shared->Prop} (X:K.In s.heap) (I:zit s.heap x dx C mA) (hg:PySem.W.plainGet K C name=true) (hh:PySem.W.hasDictIn K C=true)
  (ha:PySem.W.findIn K (.ref C) name=some none) (hv:mA name=some v) (hv':PySem.W.handedIn v=true) (h:Q v { s with toks:=s.toks + 1 }) :
  wpAny (model prog w) A (getAttr (.ref x) name expr) Q E s:=by
 obtain ⟨od,J,hl⟩:=I.look;exact PySem.W.get_value X J (PySem.W.plainGet_of hg).1 (PySem.W.findObj_own hh ha rfl (by rw [hl,hv])) hv' h
theorem z5u {pl:Sem Bool} {Q:Value×List Value->Shared->Prop} (X:K.In s.heap) (I:zit s.heap x dx C mA) (hg:PySem.W.plainGet K C name=true)
  (hf:PySem.W.findIn K (.ref C) name=some (some (.ref f))) (ht:PySem.W.isFn K (.ref f)=true) (hv:mA name=none) (h:Q (.ref f,[.ref x]) s) :
  wpAny (model prog w) A (getMethod (.ref x) name pl) Q E s:=by
 obtain ⟨od,J,hl⟩:=I.look;exact PySem.W.method_fn X J (PySem.W.plainGet_of hg).1 (PySem.W.plainGet_of hg).2 hf (beq_iff_eq.mp ht) (by show (PySem.W.lookIn name od).map (·.isSome)=some false; rw [hl,hv]; rfl) h
theorem ycm {ns:List Str} {Q:Unit->Shared->Prop} (X:K.In s.heap) (I:zit s.heap x dx C mA)
  (hs:PySem.W.findIn K (.ref C) "__setattr__"=some (some (.builtin "object.__setattr__"))) (hp:PySem.W.plainOver K C=true) (ht:PySem.W.takerIn K C name=some none) (hh:PySem.W.hasDictIn K C=true)
  (hw:PySem.Within mA ns) (hsz:ns.length<=sizeLine)
  (h:∀ h',zit h' x dx C (fun y=>if y=name then some v else mA y)->Heap.SameBut dx s.heap h'->Q () { s with heap:=h',toks:=s.toks + 2 }) :
  wpAny (model prog w) A (setAttr (.ref x) name v) Q E s:=by
 obtain ⟨od,J,hl⟩:=I.look
 refine PySem.W.set_plain X J hs (PySem.W.osa_open (s:={ s with toks:=s.toks + 1 }) (r:=none) X J hp ht fun b=>?_)
 obtain ⟨cd,hc,hd'⟩:=PySem.W.any_some hh;have hx : s.heap.get? x=some ⟨.ref C,some dx,.plain,#[]⟩:=I.obj
 refine wpAny_bind (wpAny_pure (wpAny_bind (wpAny_bind (wpAny_loadPart hx (wpAny_bind (PySem.W.Looks.here (s:={ s with toks:=s.toks + 1 }) (PySem.W.looks_clsIn X hc) ?_))))))
 rw [hd'];refine wpAny_pure (a:=some dx) (wpAny_bind (wpAny_pure (wpAny_bind ?_)))
 refine wpAny_nsSet1 (s:={ s with toks:=s.toks + 1 }) I.ns fun h' hn2 hs2=>?_
 obtain ⟨oD,esD,epD,hoD,hdD,hcD⟩:=hn2.count (PySem.Within.cons name v hw);refine wpAny_bind (wpAny_lookBehind hoD (by rw [hdD]; exact pastItsLine_dict (Nat.le_trans hcD (by rw [List.length_cons]; omega))) ?_);exact wpAny_pure (h _ ⟨(hs2.2 _ (Ne.symm I.ne)).trans I.obj,hn2,I.ne⟩ hs2)
theorem z7l {R:Result->Shared->Prop} {vs:List Value} {kw:List (Str×Value)} (X:K.In s.heap) (hm:PySem.W.makesIn K C=true)
  (hi:PySem.W.findIn K (.ref C) "__init__"=some (some (.ref f))) (hf:PySem.W.typeIn K (.ref f)=some (.type "function"))
  (h:codeAny (model prog w) (A.under (.builtin "type.__call__" ⟨.ref C::vs,kw⟩)) (.call (.ref f) ⟨.ref (s.heap.objs.size + 1)::vs,kw⟩) (PySem.W.InitBack (s.heap.objs.size + 1) R)
   { s with heap:=(s.heap.push PySem.W.emptyDict).push (PySem.W.instObj C s.heap.objs.size) }) :
  codeAny (model prog w) A (.call (.ref C) ⟨vs,kw⟩) R s:=by
 obtain ⟨hh,g,d,t,os⟩:=s;exact PySem.W.make_core (PySem.W.makes_of X hm) (PySem.W.looks_findIn X hi) (fun self=>PySem.W.bind_fn X self hf) (.inl rfl) h
end
noncomputable def zdq (f:Str) (v:V) : List (Str×V)->List (Str×V)
 | []=>[(f,v)]
 | (g,x)::r=>if g=f then (g,v)::r else (g,x)::zdq f v r
theorem zyq (f g:Str) (v:V) : ∀ fs : List (Str×V),(zdq f v fs).lookup g=if g=f then some v else fs.lookup g
 | []=>by
  show List.lookup g [(f,v)]=_
  by_cases h : g=f
  ·have hb : (g==f)=true:=beq_iff_eq.mpr h;simp only [List.lookup,hb,if_pos h]
  ·have hb : (g==f)=false:=beq_eq_false_iff_ne.mpr h
   simp only [List.lookup,hb,if_neg h]
 | (k,x)::r=>by
  have ih:=zyq f g v r;rw [show zdq f v ((k,x)::r)=(if k=f then (k,v)::r else (k,x)::zdq f v r) from rfl]
  by_cases hk : k=f
  ·rw [if_pos hk]
   by_cases h : g=k
   ·have hb : (g==k)=true:=beq_iff_eq.mpr h;simp only [List.lookup,hb,if_pos (h.trans hk)]
   ·have hb : (g==k)=false:=beq_eq_false_iff_ne.mpr h;simp only [List.lookup,hb,if_neg (fun e:g=f=>h (e.trans hk.symm))]
  ·rw [if_neg hk]
   by_cases h : g=k
   ·have hb : (g==k)=true:=beq_iff_eq.mpr h;simp only [List.lookup,hb,if_neg (fun e:g=f=>hk (h.symm.trans e))]
   ·have hb : (g==k)=false:=beq_eq_false_iff_ne.mpr h;simp only [List.lookup,hb];exact ih
theorem ztn (f:Str) (v:V) : ∀ fs : List (Str×V),f∈(zdq f v fs).map (·.1)/\∀ g,g∈fs.map (·.1)->g∈(zdq f v fs).map (·.1)
 | []=>⟨by simp [zdq],fun g h=>by simp at h⟩
 | (k,x)::r=>by
  obtain ⟨i1,i2⟩:=ztn f v r;rw [show zdq f v ((k,x)::r)=(if k=f then (k,v)::r else (k,x)::zdq f v r) from rfl]
  by_cases hk : k=f
  ·rw [if_pos hk];subst hk;exact ⟨by simp,fun g h=>by simpa using h⟩
  ·rw [if_neg hk];refine ⟨?_,fun g h=>?_⟩
   ·rw [List.map_cons];exact List.mem_cons_of_mem _ i1
   ·rw [List.map_cons] at h ⊢
    rcases List.mem_cons.mp h with e | e
    ·exact List.mem_cons.mpr (.inl e)
    ·exact List.mem_cons_of_mem _ (i2 g e)
theorem zyn (f:Str) (v:V) : ∀ fs : List (Str×V),(zdq f v fs).length<=fs.length + 1
 | []=>by simp [zdq]
 | (k,x)::r=>by
  have ih:=zyn f v r;rw [show zdq f v ((k,x)::r)=(if k=f then (k,v)::r else (k,x)::zdq f v r) from rfl]
  by_cases hk : k=f
  ·rw [if_pos hk,List.length_cons,List.length_cons]; omega
  ·rw [if_neg hk,List.length_cons,List.length_cons]; omega
theorem zgr.some_of {v:V} {o:Option Value} (r:zgr (some v) o) : ∃ u,o=some u/\za5 v u:=by
 cases o with
 | none=>exact (show False from r).elim
 | some u=>exact ⟨u,rfl,r⟩
theorem zgr.none_of {o:Option Value} (r:zgr none o) : o=none:=by
 cases o with
 | none=>rfl
 | some u=>exact (show False from r).elim
theorem z5z {v:V} {u:Value} (r:za5 v u) : PySem.W.handedIn u=true:=by
 cases v with
 | non=>cases (show u=Value.none from r); rfl
 | bl b=>cases (show u=Value.bool b from r); rfl
 | int i=>obtain ⟨t,e⟩:=(show ∃ t,u=Value.int i t from r); cases e; rfl
 | str x=>obtain ⟨t,e⟩:=(show ∃ t,u=Value.str x t from r); cases e; rfl
 | byt b=>obtain ⟨t,e⟩:=(show ∃ t,u=Value.bytes b t from r); cases e; rfl
 | flt b=>obtain ⟨t,e⟩:=(show ∃ t,u=Value.float b t from r); cases e; rfl
 | ref a=>cases (show u=Value.ref a from r); rfl
 | ty n=>cases (show u=Value.type n from r); rfl
section
variable {P:Program} {w:World} {H H':Hp} {h h':Heap} {a C dx:Addr} {fs fs':List (Str×V)}
theorem zp2 (hok:HOk P w H h) (e:H a=some (.ins C dx fs)) : ∃ mA,zit h a dx C mA/\(∀ f,zgr (fs.lookup f) (mA f))/\PySem.Within mA (fs.map (·.1))/\fs.length<=1000/\H dx=some (.own a):=by
 obtain ⟨d,z,ne,ob,mA,n,r,q⟩:=(show zdz P w H h a (.ins C dx fs) from hok a _ e);exact ⟨mA,⟨ob,n,ne⟩,r,q,z,d⟩
end
structure Cls (K:PySem.W.Frag) (C:Addr) : Prop where
 pg : PySem.W.plainGet K C Str.empty=true
 hd : PySem.W.hasDictIn K C=true
 po : PySem.W.plainOver K C=true
 sa : PySem.W.findIn K (.ref C) "__setattr__"=some (some (.builtin "object.__setattr__"))
theorem Cls.get {K:PySem.W.Frag} {C:Addr} (c:Cls K C) (f:Str) : PySem.W.plainGet K C f=true:=c.pg
noncomputable def zeu (K:PySem.W.Frag) (C:Addr) (f:Str) : Prop:=PySem.W.findIn K (.ref C) f=some none
theorem zeu.taker {K:PySem.W.Frag} {C:Addr} {f:Str} (n:zeu K C f) : PySem.W.takerIn K C f=some none:=by
 unfold PySem.W.takerIn;rw [show PySem.W.findIn K (.ref C) f=some none from n];rfl
structure zbe (K:PySem.W.Frag) (C:Addr) (m:Str) (f:Addr) : Prop where
 at_ : PySem.W.findIn K (.ref C) m=some (some (.ref f))
 fn : PySem.W.isFn K (.ref f)=true
 kp : PySem.W.keepIn K (.ref f)=true
section
variable {X:Cx} {pins:List (Addr×Obj)} {σ:St} {H:Hp} {s:Shared} {a C dx:Addr} {fs:List (Str×V)} {f:Str} {v:V} {A:Around} {E:Value->Shared->Prop}
theorem zxl {b:Bool} {Q:Value->Shared->Prop} (I:Inv X pins σ H s) (e:H a=some (.ins C dx fs)) (c:Cls X.K C) (n:zeu X.K C f) (l:fs.lookup f=some v)
  (h:∀ u s',Inv X pins σ H s'->za5 v u->Q u s') : wpAny (model X.prog X.w) A (getAttr (.ref a) f b) Q E s:=by
 obtain ⟨mA,O,r,_,_,_⟩:=zp2 I.hok e;obtain ⟨u,hu,ru⟩:=zgr.some_of (v:=v) (o:=mA f) (by rw [<- l]; exact r f);exact z5t I.kIn O (c.get f) c.hd n hu (z5z ru) (h u _ (I.tok _) ru)
theorem zxm {m:Str} {g:Addr} {pl:Sem Bool} {Q:Value×List Value->Shared->Prop} (I:Inv X pins σ H s) (e:H a=some (.ins C dx fs)) (c:Cls X.K C) (k:zbe X.K C m g) (l:fs.lookup m=none)
  (h:Q (.ref g,[.ref a]) s) : wpAny (model X.prog X.w) A (getMethod (.ref a) m pl) Q E s:=by
 obtain ⟨mA,O,r,_,_,_⟩:=zp2 I.hok e;have hn : mA m=none:=zgr.none_of (by rw [<- l]; exact r m);exact z5u I.kIn O (c.get m) k.at_ k.fn hn h
theorem z16 {y:V} {u:Value} {Q:Unit->Shared->Prop} (I:Inv X pins σ H s) (e:H a=some (.ins C dx fs)) (c:Cls X.K C) (n:zeu X.K C f) (hl:fs.length < 1000) (ry:za5 y u)
  (h:∀ s',Inv X pins σ (upd H a (.ins C dx (zdq f y fs))) s'->Q () s') : wpAny (model X.prog X.w) A (setAttr (.ref a) f u) Q E s:=by
 obtain ⟨mA,O,r,wi,_,ho⟩:=zp2 I.hok e;have hz : (fs.map (·.1)).length<=sizeLine:=by rw [List.length_map,sizeLine_eq]; omega
 refine ycm I.kIn O c.sa c.po n.taker c.hd wi hz fun h' O' sb=>h _ ?_;have hd : ∃ o,h'.get? dx=some o:=let ⟨o,_,_,e',_⟩:=O'.ns; ⟨o,e'⟩;refine I.write (x:=a) (e:=dx) (by rw [e]; exact True.intro) (.inr ho) (fun b q hb z=>(sb.2 b hb).trans z) hd ?_;refine ⟨by rw [zbi O.ne]; exact ho,?_,O.ne,O'.obj,_,O'.ns,fun g=>?_,fun g hg=>?_⟩
 ·have:=zyn f y fs; omega
 ·show zgr ((zdq f y fs).lookup g) (if g=f then some u else mA g);rw [zyq]
  by_cases q : g=f
  ·rw [if_pos q,if_pos q]; exact ry
  ·rw [if_neg q,if_neg q]; exact r g
 ·by_cases q : g=f
  ·rw [q]; exact (ztn f y fs).1
  ·refine (ztn f y fs).2 g (wi g fun z=>hg ?_);show (if g=f then some u else mA g)=none;rw [if_neg q]; exact z
theorem Inv.made (I:Inv X pins σ H s) : Inv X pins σ (upd (upd H s.heap.objs.size (.own (s.heap.objs.size + 1))) (s.heap.objs.size + 1) (.ins C s.heap.objs.size []))
  { s with heap:=(s.heap.push PySem.W.emptyDict).push (PySem.W.instObj C s.heap.objs.size) }:=by
 have e1 : (s.heap.push PySem.W.emptyDict).get? s.heap.objs.size=some PySem.W.emptyDict:=Heap.get?_push_size s.heap rfl
 have e2 : ((s.heap.push PySem.W.emptyDict).push (PySem.W.instObj C s.heap.objs.size)).get? (s.heap.objs.size + 1)=some (PySem.W.instObj C s.heap.objs.size):=by
  have:=Heap.get?_push_size (s.heap.push PySem.W.emptyDict) (o:=PySem.W.instObj C s.heap.objs.size) rfl
  rwa [Heap.size_push] at this
 have e3 : (s.heap.push PySem.W.emptyDict).Ns s.heap.objs.size (fun _=>none):=⟨PySem.W.emptyDict,#[],_,e1,rfl,(fun e he=>absurd he (by simp)),fun _=>rfl⟩;have I1:=I.laid (a:=s.heap.objs.size) (o:=.own (s.heap.objs.size + 1)) (h':=s.heap.push PySem.W.emptyDict) (t':=s.toks) (fun b u q=>Heap.get?_push_of_some _ q) (Nat.le_refl _) ⟨_,e1⟩;refine I1.laid (a:=s.heap.objs.size + 1) (o:=.ins C s.heap.objs.size []) (t':=s.toks) (fun b u q=>Heap.get?_push_of_some _ q) (Nat.le_of_eq (Heap.size_push _ _)) ?_;have ne : s.heap.objs.size≠s.heap.objs.size + 1:=Nat.ne_of_lt (Nat.lt_succ_self _);refine ⟨by rw [zbi ne,zcd],Nat.zero_le _,ne,e2,fun _=>none,(Heap.Ns1.of_empty e3).at fun o q=>Heap.get?_push_of_some _ q,fun _=>True.intro,fun y hy=>absurd rfl hy⟩
theorem z3n {prog:Program} {w:World} {env:Env} {e:Expr} {f:Str} {pos:Pos} {s:Shared} {Q:Value->Shared->Prop} (hb:attributeBase e f env (eval e env)=eval e env)
  (h:wpAny (model prog w) A (eval e env) (fun o s₁=>wpAny (model prog w) A (getAttr o f true) Q E s₁) E s) : wpAny (model prog w) A (eval (.Attribute e f pos) env) Q E s :=
 Attribute_any_ h (by rw [arm_eval_Attribute,hb])
end
noncomputable def yda (K:PySem.W.Frag) (ta:TE) (f:Str) : TE:=fun σ H Q=>ta σ H fun x H1=>∃ a C dx fs v,x=.ref a/\H1 a=some (.ins C dx fs)/\Cls K C/\zeu K C f/\fs.lookup f=some v/\Q v H1
noncomputable def ybx (K:PySem.W.Frag) (ta tv:TE) (f:Str) : TS:=fun D σ H=>tv σ H fun y H1=>ta σ H1 fun x H2=>∃ a C dx fs,x=.ref a/\H2 a=some (.ins C dx fs)/\Cls K C/\zeu K C f/\fs.length < 1000 /\
 D.nx σ (upd H2 a (.ins C dx (zdq f y fs)))
noncomputable def z3d (X:Cx) (op:Operator) (rd:V->V->Hp->VK->Prop) : Prop :=
 ∀ (pins:List (Addr×Obj)) (s:Shared) (σ:St) (H:Hp) (x y:V) (u v:Value) (Q:VK),Inv X pins σ H s->za5 x u->za5 y v->rd x y H Q->wpAny (model X.prog X.w) X.A (inplaceOp op u v) (EP X pins σ Q) X.xe s
noncomputable def yby (K:PySem.W.Frag) (ta tv:TE) (rd:V->V->Hp->VK->Prop) (f:Str) : TS:=fun D σ H=>ta σ H fun x H1=>∃ a C dx fs v,x=.ref a/\H1 a=some (.ins C dx fs)/\Cls K C/\zeu K C f/\fs.lookup f=some v /\
 tv σ H1 fun y H2=>rd v y H2 fun z H3=>∃ dx' fs',H3 a=some (.ins C dx' fs')/\fs'.length < 1000/\D.nx σ (upd H3 a (.ins C dx' (zdq f z fs')))
section
variable {X:Cx} {o e value:Expr} {f:Str} {pos pos' tpos:Pos} {ta tv:TE}
theorem z9r (he:PE X e ta) (hb:attributeBase e f X.env (eval e X.env)=eval e X.env) : PE X (.Attribute e f pos) (yda X.K ta f):=by
 intro pins s σ H Q I h;refine z3n hb (thn (he pins s σ H _ I h) fun u s1 ⟨x,H1,I1,rx,a,C,dx,fs,v,ex,ea,c,n,l,q⟩=>?_);subst ex;obtain rfl : u=Value.ref a:=rx;exact zxl I1 ea c n l fun u' s2 I2 ru=>⟨v,H1,I2,ru,q⟩
theorem yap (ha:PE X o ta) (hv:PE X value tv) (hs:swapsWith value (some (.Attribute o f pos')) pos.line X.env=pure false) : PS X (.Assign [.Attribute o f pos'] value pos) (ybx X.K ta tv f):=by
 intro pins s σ H D I h;refine plainObj_wpAny_Assign_Attribute (thn (hv pins s σ H _ I h) fun u s1 ⟨y,H1,I1,ry,q⟩=>thn (ha pins s1 σ H1 _ I1 q) fun ov s2 ⟨x,H2,I2,rx,a,C,dx,fs,ex,ea,c,n,l,q2⟩=>?_) hs;subst ex;obtain rfl : ov=Value.ref a:=rx;exact z16 I2 ea c n l ry fun s3 I3=>⟨σ,_,I3,q2⟩
theorem yaq {op:Operator} {rd:V->V->Hp->VK->Prop} (ha:PE X o ta) (hv:PE X value tv) (hop:z3d X op rd) : PS X (.AugAssign (.Attribute o f tpos) op value pos) (yby X.K ta tv rd f):=by
 intro pins s σ H D I h;refine wpAny_AugAssign_AttributeAny (thn (ha pins s σ H _ I h) fun ov s1 ⟨x,H1,I1,rx,a,C,dx,fs,v,ex,ea,c,n,l,q⟩=>?_);subst ex;obtain rfl : ov=Value.ref a:=rx;refine zxl I1 ea c n l fun u s2 I2 ru=>thn (hv pins s2 σ H1 _ I2 q) fun w3 s3 ⟨y,H2,I3,ry,q3⟩=>thn (hop pins s3 σ H2 v y u w3 _ I3 ru ry q3) fun w4 s4 ⟨z,H3,I4,rz,dx',fs',ea',l',q4⟩=>?_;exact z16 I4 ea' c n l' rz fun s5 I5=>⟨σ,_,I5,q4⟩
end
section
variable {X:Cx} {pins:List (Addr×Obj)} {σ:St} {H:Hp} {s:Shared} {A:Around} {E:Value->Shared->Prop} {Q:Value->Shared->Prop} {c:Value} {b:Bool}
inductive zdv (K:PySem.W.Frag) (H:Hp) : V->Value->Prop where
 | non : zdv K H .non (.type "NoneType")
 | bl (x:Bool) : zdv K H (.bl x) (.type "bool")
 | int (i:Int) : zdv K H (.int i) (.type "int")
 | str (x:Str) : zdv K H (.str x) (.type "str")
 | flt (x:UInt64) : zdv K H (.flt x) (.type "float")
 | lst {a:Addr} {xs:List V} (e:H a=some (.lst xs)) : zdv K H (.ref a) (.type "list")
 | frz {a:Addr} {o:Obj} {xs:List V} (e:H a=some (.frz o (.lst xs))) : zdv K H (.ref a) (.type "list")
 | tup {a:Addr} {xs:List V} (e:H a=some (.tup xs)) : zdv K H (.ref a) (.type "tuple")
 | dK {a:Addr} {kvs:List (Key×V)} (e:H a=some (.dK kvs)) : zdv K H (.ref a) (.type "dict")
 | dT {a:Addr} {kvs:List (List Key×V)} (e:H a=some (.dT kvs)) : zdv K H (.ref a) (.type "dict")
 | ins {a C dx:Addr} {fs:List (Str×V)} (e:H a=some (.ins C dx fs)) (cl:Cls K C) (ha:PySem.W.findIn K (.ref C) "__class__"=some (some (.builtin "object.__class__")))
   (hn:PySem.W.specialIn K (.builtin "object.__class__") "__get__"=some (some (.builtin "getset_descriptor.__get__"))) (htk:PySem.W.takesIn K (.builtin "object.__class__")=some true)
   (hm:PySem.W.mroIn K C (.type "object")=some true) : zdv K H (.ref a) (.ref C)
theorem z6g {x:V} {u t:Value} (I:Inv X pins σ H s) (rx:za5 x u) (ty:zdv X.K H x t) (e:PySem.W.kitOne X.K t c=some b) (h:∀ tk,Q (.bool b) { s with toks:=tk }) :
  wpAny (model X.prog X.w) A (call (.builtin "isinstance") [u,c]) Q E s:=by
 cases ty with
 | non=>cases (show u=Value.none from rx); exact PySem.W.kia_one PySem.W.kitx_none I.kIn True.intro e (fun z=>nomatch z) h
 | bl y=>cases (show u=Value.bool y from rx); exact PySem.W.kia_one PySem.W.kitx_bool I.kIn True.intro e (fun z=>nomatch z) h
 | int i=>obtain ⟨t,q⟩:=(show ∃ t,u=Value.int i t from rx); cases q; exact PySem.W.kia_one PySem.W.kitx_int I.kIn True.intro e (fun z=>nomatch z) h
 | str y=>obtain ⟨t,q⟩:=(show ∃ t,u=Value.str y t from rx); cases q; exact PySem.W.kia_one PySem.W.kitx_str I.kIn True.intro e (fun z=>nomatch z) h
 | flt y=>obtain ⟨t,q⟩:=(show ∃ t,u=Value.float y t from rx); cases q; exact PySem.W.kia_one PySem.W.kitx_float I.kIn True.intro e (fun z=>nomatch z) h
 | @lst a xs ea =>
  cases (show u=Value.ref a from rx);obtain ⟨_,_,n,_,h1⟩:=(show zdz X.prog X.w H s.heap a (.lst xs) from I.hok a _ ea)
  exact PySem.W.kia_one PySem.W.kitx_list I.kIn ⟨_,h1,rfl⟩ e (fun z=>nomatch z) h
 | @frz a ob xs ea =>
  cases (show u=Value.ref a from rx);obtain ⟨_,_,_,n,_,h1⟩:=(show zdz X.prog X.w H s.heap a (.frz ob (.lst xs)) from I.hok a _ ea)
  exact PySem.W.kia_one PySem.W.kitx_list I.kIn ⟨_,h1,rfl⟩ e (fun z=>nomatch z) h
 | @tup a xs ea =>
  cases (show u=Value.ref a from rx);obtain ⟨_,_,_,p⟩:=(show zdz X.prog X.w H s.heap a (.tup xs) from I.hok a _ ea);obtain ⟨o,h1,h2,_⟩:=p
  exact PySem.W.kia_one PySem.W.kitx_tuple I.kIn ⟨o,h1,h2⟩ e (fun z=>nomatch z) h
 | @dK a kvs ea =>
  cases (show u=Value.ref a from rx);obtain ⟨_,_,vs,_,p⟩:=(show zdz X.prog X.w H s.heap a (.dK kvs) from I.hok a _ ea);obtain ⟨o,es,ep,h1,h2,_⟩:=p
  exact PySem.W.kia_one PySem.W.kitx_dict I.kIn ⟨o,h1,h2.1⟩ e (fun z=>nomatch z) h
 | @dT a kvs ea =>
  cases (show u=Value.ref a from rx);obtain ⟨_,_,xs,_,o,es,ep,h1,h2,_⟩:=(show zdz X.prog X.w H s.heap a (.dT kvs) from I.hok a _ ea)
  exact PySem.W.kia_one PySem.W.kitx_dict I.kIn ⟨o,h1,h2.1⟩ e (fun z=>nomatch z) h
 | @ins a C dx fs ea cl ha hn htk hm =>
  cases (show u=Value.ref a from rx);obtain ⟨mA,O,_⟩:=zp2 I.hok ea;obtain ⟨od,J,_⟩:=O.look;exact PySem.W.kia_one (PySem.W.kitx_own (cl.get _) cl.hd ha hn htk hm) I.kIn J e (fun z=>nomatch z) h
end
structure zbz (k:Nat) (A:Around) : Prop where
 hd : A.handled=none
 dp : A.depth + 3 * k + 5 < recursionLimit
 un : A.units + 16 * k + 200 < cLine
theorem zbz.mono {j k:Nat} {A:Around} (r:zbz k A) (h:j<=k) : zbz j A:=⟨r.hd,by have:=r.dp; omega,by have:=r.un; omega⟩
theorem zbz.deeper {k:Nat} {A:Around} (r:zbz (k + 1) A) (env:Env) : zbz k (A.deeper env) :=
 ⟨r.hd,by have:=r.dp; show A.depth + 1 + 3 * k + 5 < _; omega,by have:=r.un; show A.units + 3 + 16 * k + 200 < _; omega⟩
theorem z7k {A:Around} {C:Addr} {us:List Value} {kw:List (Str×Value)} : (A.under (.builtin "type.__call__" ⟨.ref C::us,kw⟩)).depth=A.depth + 1:=by
 first | rfl | simp [Around.under,Code.weight,Code.isCreation,Code.isGuard,Code.isCaller,Code.frames,Code.isFrame,guardIds]
theorem z7m {A:Around} {C:Addr} {us:List Value} {kw:List (Str×Value)} : (A.under (.builtin "type.__call__" ⟨.ref C::us,kw⟩)).units=A.units + 1:=by
 first | rfl | simp [Around.under,Code.cUnits,Code.frames,Code.isFrame]
theorem zbz.make {k:Nat} {A:Around} (r:zbz (k + 1) A) (C:Addr) (us:List Value) (kw:List (Str×Value)) : zbz k (A.under (.builtin "type.__call__" ⟨.ref C::us,kw⟩)) :=
 ⟨r.hd,by have:=r.dp; rw [z7k]; omega,by have:=r.un; rw [z7m]; omega⟩
theorem zbz.depth {k:Nat} {A:Around} (r:zbz k A) : A.depth < recursionLimit:=by have:=r.dp; omega
theorem zbz.units {k:Nat} {A:Around} (r:zbz k A) : A.units + 64 < cLine:=by have:=r.un; omega
noncomputable def zhw : TA:=fun _ H Q=>Q [] H
noncomputable def zil (ta:TE) (tr:TA) : TA:=fun σ H Q=>ta σ H fun x H1=>tr σ H1 fun xs H2=>Q (x::xs) H2
section
variable {X:Cx} {e:Expr} {es:List Expr} {te:TE} {t:TA} {pos:Pos}
theorem zde : PA X [] zhw:=fun _ _ _ _ H Q I h=>Calls.spliced_nil ⟨[],H,I,.nil,h⟩
theorem zct (ha:PE X e te) (hr:PA X es t) (hs:starEach (e::es) X.env=(false,eval e X.env)::starEach es X.env:=by rfl) : PA X (e::es) (zil te t):=by
 intro pos pins s σ H Q I h;rw [hs];show wpAny _ _ (spliced ((false,eval e X.env)::backTo pos (starEach es X.env))) _ _ s;refine Calls.spliced_cons (thn (ha pins s σ H _ I h) fun u s1 ⟨x,H1,I1,r1,q1⟩=>?_);exact thn (hr pos pins s1 σ H1 _ I1 q1) fun us s2 ⟨xs,H2,I2,r2,q2⟩=>⟨x::xs,H2,I2,.cons r1 r2,q2⟩
noncomputable def ydq (t:TA) : TE:=fun σ H Q=>t σ H fun xs H1=>xs.length<=sizeLine/\∀ p,H1 p=none->Q (.ref p) (upd H1 p (.tup xs))
noncomputable def ydf (t:TA) : TE:=fun σ H Q=>t σ H fun xs H1=>xs.length<=sizeLine/\∀ p,H1 p=none->Q (.ref p) (upd H1 p (.lst xs))
theorem z0d {x1} (h:PA X es t) : PE X (.Tuple es x1 pos) (ydq t):=by
 intro pins s σ H Q I hq;refine wpAny_Tuple_spliced (thn (h pos pins s σ H _ I hq) fun us s1 ⟨xs,H1,I1,r,z,q⟩=>⟨by rw [<- r.length]; exact z,?_⟩);have hf : H1 s1.heap.objs.size=none:=I1.hok.fresh (Nat.le_refl _);refine ⟨.ref s1.heap.objs.size,upd H1 s1.heap.objs.size (.tup xs),I1.laid (t':=s1.toks) (fun b u e=>Heap.get?_push_of_some _ e) (Nat.le_refl _) ?_,rfl,q _ hf⟩;exact ⟨z,us,r,⟨_,Heap.get?_push_size _ rfl,rfl,_,rfl⟩⟩
theorem zun (h:PA X es t) : PE X (.List es pos) (ydf t):=by
 intro pins s σ H Q I hq;refine wpAny_List_spliced (thn (h pos pins s σ H _ I hq) fun us s1 ⟨xs,H1,I1,r,z,q⟩=>⟨by rw [<- r.length]; exact z,?_⟩);have hf : H1 s1.heap.objs.size=none:=I1.hok.fresh (Nat.le_refl _);refine ⟨.ref s1.heap.objs.size,upd H1 s1.heap.objs.size (.lst xs),I1.laid (t':=s1.toks) (fun b u e=>Heap.get?_push_of_some _ e) (Nat.le_refl _) ?_,rfl,q _ hf⟩;exact ⟨z,us,0,r,Heap.get?_push_size _ rfl⟩
end
noncomputable abbrev Sp:=List V->Hp->VK->XK->Prop
noncomputable abbrev CXT:=List Env->Hp->Shared->XK->Value->Shared->Prop
structure ziq (P:Program) (w:World) (K:PySem.W.Frag) (mg:Str->Option Value) (base:Heap) (A:Around) (outer:List Env) (s:Shared) (H:Hp) : Prop where
 frames : A.frames=some outer
 mod : Mod K mg base
 bs : ∀ b o,base.get? b=some o->s.heap.get? b=some o/\H b=none
 bsz : base.objs.size<=s.heap.objs.size
 funs : s.heap.FunFrames base outer
 frf : ∀ b∈frs outer,H b=none
 hok : HOk P w H s.heap
 bare : AllBare s.gens
noncomputable def CE (outer:List Env) (P:Program) (w:World) (H:Hp) (s:Shared) (Q:VK) (u:Value) (s':Shared) : Prop :=
 ∃ v H',s'.os=s.os/\AllBare s'.gens/\Un (frs outer) [] H H' s.heap s'.heap/\HOk P w H' s'.heap/\za5 v u/\Q v H'
noncomputable def CR (CX:CXT) (outer:List Env) (P:Program) (w:World) (H:Hp) (s:Shared) (Q:VK) (E:XK) (r:Result) (s':Shared) : Prop :=
 match r with
 | .ok (.ret u)=>CE outer P w H s Q u s'
 | .ok _=>False
 | .error e=>CX outer H s E e s'
structure zav (P:Program) (w:World) (K:PySem.W.Frag) (mg:Str->Option Value) (base:Heap) (CX:CXT) (k:Nat) (f:Addr) (fd:FuncData) (ps:List Str) (sp:Sp) : Prop where
 len : ∀ vs H Q E,sp vs H Q E->vs.length=ps.length
 run : ∀ (A:Around) (outer:List Env) (s:Shared) (H:Hp) (args:Args) (us:List Value) (vs:List V) (Q:VK) (E:XK),zbz k A->ziq P w K mg base A outer s H->BindsTo s fd args (ps.zip us)->zaz vs us->sp vs H Q E ->
  codeAny (model P w) A (.call (.ref f) args) (CR CX outer P w H s Q E) s
theorem zav.imp {P:Program} {w:World} {K:PySem.W.Frag} {mg:Str->Option Value} {base:Heap} {CX:CXT} {k:Nat} {f:Addr} {fd:FuncData} {ps:List Str} {sp sp':Sp} (F:zav P w K mg base CX k f fd ps sp)
  (h:∀ vs H Q E,sp' vs H Q E->sp vs H Q E) : zav P w K mg base CX k f fd ps sp' :=
 ⟨fun vs H Q E q=>F.len vs H Q E (h _ _ _ _ q),fun A outer s H args us vs Q E hr he hb hv hs=>F.run A outer s H args us vs Q E hr he hb hv (h _ _ _ _ hs)⟩
theorem ziq.make {P:Program} {w:World} {K:PySem.W.Frag} {mg:Str->Option Value} {base:Heap} {A:Around} {outer:List Env} {s:Shared} {H:Hp} (e:ziq P w K mg base A outer s H) (C:Addr) (us:List Value) (kw:List (Str×Value)) :
  ziq P w K mg base (A.under (.builtin "type.__call__" ⟨.ref C::us,kw⟩)) outer s H:=⟨by first | exact e.frames | (simpa [Around.under,Code.envs,Code.isFrame,pushEnvs] using e.frames),e.mod,e.bs,e.bsz,e.funs,e.frf,e.hok,e.bare⟩
section
variable {X:Cx} {pins:List (Addr×Obj)} {σ:St} {H:Hp} {s s':Shared}
theorem Inv.env0 (I:Inv X pins σ H s) : ziq X.prog X.w X.K X.mg X.base X.A X.stack s H :=
 ⟨I.ok.frames,I.ok.mod,I.bs,Nat.le_trans I.ok.bsz I.sz,I.stack,I.stkFree,I.hok,I.bare⟩
theorem Inv.after {Q:VK} {u:Value} (I:Inv X pins σ H s) (h:CE X.stack X.prog X.w H s Q u s') : EP X pins σ Q u s':=by
 obtain ⟨v,H',os,bare,un,hok,r,q⟩:=h;obtain ⟨hh,g,d,t,os'⟩:=s';obtain rfl : os'=s.os:=os;exact ⟨v,H',I.call (h':=hh) (g':=g) (d':=d) (t':=t) (ch:=[]) un hok bare (fun b z=>absurd z (by simp)),r,q⟩
end
noncomputable def z2i (sp:Sp) (dvs:List V) (E:XK) (t:TA) : TE:=fun σ H Q=>t σ H fun vs H1=>sp (vs++dvs) H1 Q E
noncomputable def zr3 (C:Addr) (m:Str) (sp:Sp) (dvs:List V) (E:XK) (ta:TE) (t:TA) : TE:=fun σ H Q=>ta σ H fun x H1=>∃ a dx fs,x=.ref a/\H1 a=some (.ins C dx fs)/\fs.lookup m=none /\
 t σ H1 fun vs H2=>sp (x::(vs++dvs)) H2 Q E
noncomputable def ydg (C:Addr) (sp:Sp) (dvs:List V) (E:XK) (t:TA) : TE:=fun σ H Q=>t σ H fun vs H1=>∀ x dx,H1 x=none->H1 dx=none->dx≠x ->
 sp (.ref x::(vs++dvs)) (upd (upd H1 dx (.own x)) x (.ins C dx [])) (fun v H2=>v=.non/\Q (.ref x) H2) E
noncomputable def zay (K:PySem.W.Frag) (fd:FuncData) (ps:List Str) (ds:List Value) : Prop :=
 ∀ (s:Shared) (us:List Value),K.In s.heap->(us++ds).length=ps.length->BindsTo s fd ⟨us,[]⟩ (ps.zip (us++ds))
theorem zay.all {K:PySem.W.Frag} {fd:FuncData} {ps:List Str} (h:∀ us : List Value,us.length=ps.length->bindArgs fd ⟨us,[]⟩=pure (ps.zip us)) : zay K fd ps []:=fun s us _ hl=>by
 rw [List.append_nil] at hl ⊢;exact .of_eq (h us hl)
noncomputable def zhz (CX:CXT) (X:Cx) (E:XK) : Prop:=∀ (pins:List (Addr×Obj)) (σ:St) (H:Hp) (s:Shared) (e:Value) (s':Shared),Inv X pins σ H s->CX X.stack H s E e s'->X.xe e s'
section
variable {X:Cx} {CX:CXT} {k:Nat} {f C:Addr} {fd:FuncData} {ps:List Str} {sp:Sp} {dvs:List V} {ds:List Value} {E:XK} {x m:Str} {p pos apos:Pos} {e o:Expr} {es:List Expr} {ta:TE} {t:TA}
theorem zrp {pins:List (Addr×Obj)} {σ:St} {H:Hp} {s:Shared} {Q:VK} {us:List Value} {vs:List V} (F:zav X.prog X.w X.K X.mg X.base CX k f fd ps sp) (hr:zbz k X.A) (hb:zay X.K fd ps ds) (hd:zaz dvs ds) (hx:zhz CX X E)
  (I:Inv X pins σ H s) (r:zaz vs us) (h:sp (vs++dvs) H Q E) : wpAny (model X.prog X.w) X.A (call (.ref f) us) (EP X pins σ Q) X.xe s:=by
 have r2 : zaz (vs++dvs) (us++ds):=r.append hd;have hl : (us++ds).length=ps.length:=by rw [<- r2.length]; exact F.len _ _ _ _ h
 refine wpAny_call (codeAny_mono (F.run X.A X.stack s H ⟨us,[]⟩ (us++ds) (vs++dvs) Q E hr I.env0 (hb s us I.kIn hl) r2 h) fun r s' hq=>?_)
 cases r with
 | error e=>exact hx pins σ H s e s' I hq
 | ok fl =>
  cases fl with
  | ret u=>exact I.after hq
  | next=>exact False.elim hq
  | brk=>exact False.elim hq
  | cont=>exact False.elim hq
theorem zjp (F:zav X.prog X.w X.K X.mg X.base CX k f fd ps sp) (hr:zbz k X.A) (hg:Gl X x) (hm:X.mg x=some (.ref f)) (hk:PySem.W.keepIn X.K (.ref f)=true) (hb:zay X.K fd ps ds) (hd:zaz dvs ds) (hx:zhz CX X E)
  (ha:PA X (e::es) t) (hdb:(x==("__debug__" : Str))=false:=by decide) (he:starEach (e::es) X.env=(false,eval e X.env)::starEach es X.env:=by rfl) (hpl:(backTo pos (starEach es X.env)).any (·.1)=false:=by rfl) :
  PE X (.Call (.Name x p) (e::es) [] pos) (z2i sp dvs E t):=by
 intro pins s σ H Q I h;refine wpAny_Call_Name_kw (zno I hg hm ?_ hdb);refine PySem.W.callWith_K (h₀:=X.base) I.ok.mod.kin hk (thn (ha pos pins s σ H _ I h) fun us s1 ⟨vs,H1,I1,r,q⟩=>⟨I1.kIn,?_⟩) he hpl;exact zrp F hr hb hd hx I1 r q
theorem z9p (F:zav X.prog X.w X.K X.mg X.base CX k f fd ps sp) (hr:zbz k X.A) (hg:Gl X x) (hm:X.mg x=some (.ref f)) (hk:PySem.W.keepIn X.K (.ref f)=true) (hb:zay X.K fd ps ds) (hd:zaz dvs ds) (hx:zhz CX X E)
  (hdb:(x==("__debug__" : Str))=false:=by decide) : PE X (.Call (.Name x p) [] [] pos) (z2i sp dvs E zhw):=by
 intro pins s σ H Q I h;refine wpAny_Call_Name_kw (zno I hg hm ?_ hdb);exact PySem.W.callWith_K0 I.kIn hk (zrp (us:=[]) F hr hb hd hx I .nil h)
theorem z9v {pl:Sem Bool} (he:PE X o ta) (c:Cls X.K C) (hm:zbe X.K C m f) (F:zav X.prog X.w X.K X.mg X.base CX k f fd ps sp) (hr:zbz k X.A) (hb:zay X.K fd ps ds) (hd:zaz dvs ds) (hx:zhz CX X E) (ha:PA X (e::es) t)
  (hst:starEach (e::es) X.env=(false,eval e X.env)::starEach es X.env:=by rfl) (hpl:(backTo pos (starEach es X.env)).any (·.1)=false:=by rfl)
  (ht:eval (.Call (.Attribute o m apos) (e::es) [] pos) X.env=(do
   let ov <- eval o X.env
   standAt apos.atName
   let (f,first) <- holding [ov] (getMethod ov m pl)
   callWith pos f first (backTo pos (starEach (e::es) X.env)) (backToKw pos (keywordEach [] X.env))):=by rfl) :
  PE X (.Call (.Attribute o m apos) (e::es) [] pos) (zr3 C m sp dvs E ta t):=by
 intro pins s σ H Q I h;refine PySem.W.methodCall_KW (pl:=pl) (thn (he pins s σ H _ I h) fun u s1 ⟨x,H1,I1,rx,a,dx,fs,ex,ea,l,q⟩=>?_) ht;subst ex;obtain rfl : u=Value.ref a:=rx;refine zxm I1 ea c hm l ?_
 refine PySem.W.callWith_K (first:=[.ref a]) (h₀:=X.base) I.ok.mod.kin hm.kp (thn (ha pos pins s1 σ H1 _ I1 q) fun us s2 ⟨vs,H2,I2,r,q2⟩=>⟨I2.kIn,?_⟩) hst hpl
 exact zrp (us:=.ref a::us) (vs:=.ref a::vs) F hr hb hd hx I2 (.cons rfl r) q2
theorem z0b {pl:Sem Bool} (he:PE X o ta) (c:Cls X.K C) (hm:zbe X.K C m f) (F:zav X.prog X.w X.K X.mg X.base CX k f fd ps sp) (hr:zbz k X.A) (hb:zay X.K fd ps ds) (hd:zaz dvs ds) (hx:zhz CX X E)
  (ht:eval (.Call (.Attribute o m apos) [] [] pos) X.env=(do
   let ov <- eval o X.env
   standAt apos.atName
   let (f,first) <- holding [ov] (getMethod ov m pl)
   callWith pos f first (backTo pos (starEach [] X.env)) (backToKw pos (keywordEach [] X.env))):=by rfl) :
  PE X (.Call (.Attribute o m apos) [] [] pos) (zr3 C m sp dvs E ta zhw):=by
 intro pins s σ H Q I h;refine PySem.W.methodCall_KW (pl:=pl) (thn (he pins s σ H _ I h) fun u s1 ⟨x,H1,I1,rx,a,dx,fs,ex,ea,l,q⟩=>?_) ht;subst ex;obtain rfl : u=Value.ref a:=rx;refine zxm I1 ea c hm l ?_
 exact PySem.W.callWith_K0 (first:=[.ref a]) I1.kIn hm.kp (zrp (us:=[.ref a]) (vs:=[.ref a]) F hr hb hd hx I1 (.cons rfl .nil) q)
structure Mk (K:PySem.W.Frag) (C f:Addr) : Prop where
 makes : PySem.W.makesIn K C=true
 init : PySem.W.findIn K (.ref C) "__init__"=some (some (.ref f))
 fn : PySem.W.isFn K (.ref f)=true
 kp : PySem.W.keepIn K (.ref C)=true
theorem ybv {pins:List (Addr×Obj)} {σ:St} {H:Hp} {s:Shared} {Q:VK} {us:List Value} {vs:List V} (M:Mk X.K C f) (F:zav X.prog X.w X.K X.mg X.base CX k f fd ps sp) (hr:zbz (k + 1) X.A) (hb:zay X.K fd ps ds) (hd:zaz dvs ds)
  (hx:zhz CX X E) (I:Inv X pins σ H s) (r:zaz vs us)
  (h:∀ x dx,H x=none->H dx=none->dx≠x->sp (.ref x::(vs++dvs)) (upd (upd H dx (.own x)) x (.ins C dx [])) (fun v H2=>v=.non/\Q (.ref x) H2) E) :
  wpAny (model X.prog X.w) X.A (call (.ref C) us) (EP X pins σ Q) X.xe s:=by
 have hq:=h (s.heap.objs.size + 1) s.heap.objs.size (I.hok.fresh (Nat.le_succ _)) (I.hok.fresh (Nat.le_refl _)) (Nat.ne_of_lt (Nat.lt_succ_self _));have I2:=Inv.made (C:=C) I;have r2 : zaz (V.ref (s.heap.objs.size + 1)::(vs++dvs)) (Value.ref (s.heap.objs.size + 1)::(us++ds)):=.cons rfl (r.append hd)
 have hl : (Value.ref (s.heap.objs.size + 1)::us++ds).length=ps.length:=by
  have e:=r2.length;rw [F.len _ _ _ _ hq] at e;exact e.symm
 refine wpAny_call (z7l (f:=f) I.kIn M.makes M.init (beq_iff_eq.mp M.fn) (codeAny_mono (F.run _ X.stack _ _ ⟨Value.ref (s.heap.objs.size + 1)::us,[]⟩ (Value.ref (s.heap.objs.size + 1)::(us++ds)) _ _ E (hr.make C us [])
  (I2.env0.make C us []) (hb _ (Value.ref (s.heap.objs.size + 1)::us) I2.kIn hl) r2 hq) fun r s' hq'=>?_))
 cases r with
 | error e=>exact hx pins σ _ _ e s' I2 hq'
 | ok fl =>
  cases fl with
  | ret u =>
   obtain ⟨v,H',I3,rv,ev,q3⟩:=I2.after hq';subst ev
   exact ⟨rv,⟨V.ref (s.heap.objs.size + 1),H',I3,rfl,q3⟩⟩
  | next=>exact False.elim hq'
  | brk=>exact False.elim hq'
  | cont=>exact False.elim hq'
theorem z9u (M:Mk X.K C f) (F:zav X.prog X.w X.K X.mg X.base CX k f fd ps sp) (hr:zbz (k + 1) X.A) (hg:Gl X x) (hm:X.mg x=some (.ref C)) (hb:zay X.K fd ps ds) (hd:zaz dvs ds) (hx:zhz CX X E)
  (ha:PA X (e::es) t) (hdb:(x==("__debug__" : Str))=false:=by decide) (he:starEach (e::es) X.env=(false,eval e X.env)::starEach es X.env:=by rfl) (hpl:(backTo pos (starEach es X.env)).any (·.1)=false:=by rfl) :
  PE X (.Call (.Name x p) (e::es) [] pos) (ydg C sp dvs E t):=by
 intro pins s σ H Q I h;refine wpAny_Call_Name_kw (zno I hg hm ?_ hdb);refine PySem.W.callWith_K (h₀:=X.base) I.ok.mod.kin M.kp (thn (ha pos pins s σ H _ I h) fun us s1 ⟨vs,H1,I1,r,q⟩=>⟨I1.kIn,?_⟩) he hpl;exact ybv M F hr hb hd hx I1 r q
end
section
variable {X:Cx} {CX:CXT} {k:Nat} {f C:Addr} {fd:FuncData} {ps ks:List Str} {sp:Sp} {E:XK} {x m:Str} {p pos apos kpos:Pos} {e o:Expr} {es:List Expr} {kws:List Keyword} {te ta:TE} {t tk:TA} {nm:Option Str}
variable {g:List Value->List Value->List Value} {gV:List V->List V->List V}
end
structure za4 (N P:List Str) (sc:Scope) : Prop where
 kind : sc.kind=.function
 co : sc.isCoroutine=false
 gen : sc.isGenerator=false
 nd : N.Nodup
 pre : N.take P.length=P
 par : ∀ x∈P,sc.names.lookup x=some .local\/sc.names.lookup x=some .cell
 nofree : ∀ y∈sc.names,y.2≠.free
theorem zv3 {kindOf:Str->Option NameKind} {x:Str} : ∀ {binds:List (Str×Value)} {m:Str->Option Value},(∀ v,(x,v)∉binds)->bindL kindOf binds m x=m x
 | [],_,_=>rfl
 | (n,v)::r,m,h=>by
  unfold bindL;rw [zv3 fun w hw=>h w (List.mem_cons_of_mem _ hw)];split
  ·have : x≠n:=by rintro rfl; exact h v List.mem_cons_self
   simp [this]
  ·rfl
theorem zv1 {kindOf:Str->Option NameKind} {x:Str} : ∀ {binds:List (Str×Value)} {m:Str->Option Value},(∀ v,(x,v)∉binds)->bindC kindOf binds m x=m x
 | [],_,_=>rfl
 | (n,v)::r,m,h=>by
  unfold bindC;rw [zv1 fun w hw=>h w (List.mem_cons_of_mem _ hw)];split
  ·rfl
  ·have : x≠n:=by rintro rfl; exact h v List.mem_cons_self
   simp [this]
theorem zv2 {kindOf:Str->Option NameKind} {x:Str} {v:Value} : ∀ {P:List Str} {vs:List Value} {i:Nat} {m:Str->Option Value},P.Nodup->P[i]?=some x->vs[i]?=some v->kindOf x=some .local ->
  bindL kindOf (P.zip vs) m x=some v
 | [],_,_,_,_,h,_,_=>by simp at h
 | _::_,[],_,_,_,_,h,_=>by simp at h
 | p::P,w::vs,0,m,nd,h1,h2,hk=>by
  simp at h1 h2; subst h1; subst h2;show bindL kindOf ((p,w)::P.zip vs) m p=_;unfold bindL;rw [zv3 fun v hv=>(List.nodup_cons.mp nd).1 (List.of_mem_zip hv).1,if_pos hk]
  simp
 | p::P,w::vs,i + 1,m,nd,h1,h2,hk=>by
  show bindL kindOf ((p,w)::P.zip vs) m x=_;unfold bindL;exact zv2 (i:=i) (List.nodup_cons.mp nd).2 (by simpa using h1) (by simpa using h2) hk
theorem zv0 {kindOf:Str->Option NameKind} {x:Str} {v:Value} : ∀ {P:List Str} {vs:List Value} {i:Nat} {m:Str->Option Value},P.Nodup->P[i]?=some x->vs[i]?=some v->kindOf x≠some .local ->
  bindC kindOf (P.zip vs) m x=some v
 | [],_,_,_,_,h,_,_=>by simp at h
 | _::_,[],_,_,_,_,h,_=>by simp at h
 | p::P,w::vs,0,m,nd,h1,h2,hk=>by
  simp at h1 h2; subst h1; subst h2;show bindC kindOf ((p,w)::P.zip vs) m p=_;unfold bindC;rw [zv1 fun v hv=>(List.nodup_cons.mp nd).1 (List.of_mem_zip hv).1,if_neg hk]
  simp
 | p::P,w::vs,i + 1,m,nd,h1,h2,hk=>by
  show bindC kindOf ((p,w)::P.zip vs) m x=_;unfold bindC;exact zv0 (i:=i) (List.nodup_cons.mp nd).2 (by simpa using h1) (by simpa using h2) hk
noncomputable def start (N:List Str) (vs:List V) : St:=vs.map some++List.replicate (N.length - vs.length) none
noncomputable def zgs (CX:CXT) (P:Program) (w:World) (K:PySem.W.Frag) (mg:Str->Option Value) (base:Heap) (N:List Str) (qual:Str) (scope:Scope) (f:Addr) (cd:Value) (A:Around) (outer:List Env) (s:Shared) (H:Hp) (E:XK) : Cx where
 prog:=P
 w:=w
 K:=K
 mg:=mg
 base:=base
 A:=A.deeper (envOfC qual scope s.heap.objs.size f cd)
 N:=N
 s₀:=s
 H₀:=H
 env:=envOfC qual scope s.heap.objs.size f cd
 outer:=outer
 stack:=envOfC qual scope s.heap.objs.size f cd::outer
 ex:=[]
 calm:=true
 fn:=fun _=>true
 pn:=[]
 xe:=fun e s'=>wpAny (model P w) (A.deeper (envOfC qual scope s.heap.objs.size f cd)) (leaving (envOfC qual scope s.heap.objs.size f cd) e) (fun _ s''=>CX outer H s E e s'') (fun e' s''=>CX outer H s E e' s'') s'
theorem zwc {sc:Scope} {n:Nat} {x:Str} (h:sc.names.lookup x=some .cell) : ∃ c,(cellsFrom n sc.names []).lookup x=some c:=by
 have q:=PySem.W.cellsFrom_some sc.names n [] (.inl h);exact Option.isSome_iff_exists.mp q
theorem z6a {CX:CXT} {P:Program} {w:World} {K:PySem.W.Frag} {mg:Str->Option Value} {base:Heap} {N ps:List Str} {qual:Str} {scope:Scope} {f:Addr} {cd:Value} {A:Around} {outer:List Env} {s s1:Shared} {H:Hp} {E:XK} {us:List Value} {vs:List V}
  (S:za4 N ps scope) (hd:A.handled=none) (e0:ziq P w K mg base A outer s H) (hl:vs.length=ps.length) (r:zaz vs us)
  (x:InCallC s s.heap.objs.size (bindL (envOfC qual scope s.heap.objs.size f cd).kindOf (ps.zip us) fun _=>none) (cellsFrom (s.heap.objs.size + 1) scope.names []) (bindC (envOfC qual scope s.heap.objs.size f cd).kindOf (ps.zip us) fun _=>none) s1) :
  Inv (zgs CX P w K mg base N qual scope f cd A outer s H E) [] (start N vs) H s1:=by
 have hpl : ps.length<=N.length:=by have:=congrArg List.length S.pre; rw [List.length_take] at this; omega
 obtain ⟨h1,tk,rfl,hk⟩:=x.done;have noA : ∀ b : Addr,b∉(zgs CX P w K mg base N qual scope f cd A outer s H E).ex:=fun b z=>absurd (show b∈([] : List Addr) from z) (by simp)
 refine ⟨⟨e0.mod,S.kind,rfl,rfl,Nat.le_refl _,fun y z c h1 h2=>?_,fun y hy=>?_,fun y c _ h=>?_,fun _=>hd,Around.frames_deeper e0.frames,.inr ⟨rfl,rfl⟩,fun b z=>absurd z (noA b),e0.bs,e0.bsz,fun b _ _=>noA b,fun b z=>absurd z (noA b),e0.funs,e0.frf⟩,
  rfl,e0.bare,Un.kept hk,⟨_,x.toInCall.ns,fun i y v h1 h2 h3=>?_⟩,fun y c h=>⟨_,x.cell y c h⟩,e0.hok.fresh (Nat.le_refl _),fun y c h=>?_,fun p hp=>absurd (show p∈([] : List (Addr×Obj)) from hp) (by simp),e0.hok.kept hk,?_⟩
 ·exact name_of_addr x.apart (PySem.mem_of_lookup h1) (PySem.mem_of_lookup h2)
 ·have hy : scope.names.lookup y=some .cell\/scope.names.lookup y=some .free:=hy
  rcases hy with hy | hy
  ·exact zwc hy
  ·exact absurd rfl (S.nofree _ (PySem.mem_of_lookup hy))
 ·exact Nat.le_of_lt (x.above y c (PySem.mem_of_lookup h))
 ·have hi : i < vs.length:=by
   unfold start at h2
   by_cases hi : i < vs.length
   ·exact hi
   ·rw [List.getElem?_append_right (by simpa using hi)] at h2;rw [List.getElem?_replicate] at h2
    split at h2 <;> cases h2
  have ha : vs[i]?=some v:=by
   unfold start at h2;rw [List.getElem?_append_left (by simpa using hi),List.getElem?_map] at h2
   cases e : vs[i]? with
   | none=>rw [e] at h2; cases h2
   | some a=>rw [e] at h2; cases h2; rfl
  obtain ⟨u,hu,rv⟩:=r.get ha
  have hp : ps[i]?=some y:=by
   rw [<- S.pre,List.getElem?_take_of_lt (by omega)]; exact h1
  have ndP : ps.Nodup:=by rw [<- S.pre]; exact S.nd.sublist (List.take_sublist _ _)
  refine ⟨u,rv,?_⟩
  rcases S.par y (List.mem_of_getElem? hp) with k | k
  ·exact .inl ⟨k,zv2 ndP hp hu k⟩
  ·obtain ⟨c,e⟩:=zwc (n:=s.heap.objs.size + 1) k;refine .inr ⟨.inl k,c,e,?_⟩;have q:=x.cell y c e;rw [zv0 ndP hp hu (by show scope.names.lookup y≠_; rw [k]; decide)] at q;exact q
 ·exact e0.hok.fresh (Nat.le_of_lt (x.above y c (PySem.mem_of_lookup h)))
 ·unfold start;show _=N.length;rw [List.length_append,List.length_map,List.length_replicate];omega
theorem z5i {CX:CXT} {P:Program} {w:World} {K:PySem.W.Frag} {mg:Str->Option Value} {base:Heap} {k:Nat} {f:Addr} {name qual:Str} {params:Arguments} {body:List Stmt} {scope:Scope} {dV kV doc pm cdv ct oc:Value} {an od:Option Addr}
  {osl:Array (Option Value)} {N ps:List Str} {sp:Sp} (lk:K.lookup f=some ⟨oc,od,.func (PySem.W.fnOf name qual params body scope dV kV doc pm an cdv ct),osl⟩) (hcd:PySem.W.codeIn K cdv qual=true) (S:za4 N ps scope)
  (len:∀ vs H Q E,sp vs H Q E->vs.length=ps.length)
  (hbody:∀ (A:Around) (outer:List Env) (s:Shared) (H:Hp) (vs:List V) (Q:VK) (E:XK),zbz k (A.deeper (envOfC qual scope s.heap.objs.size f cdv))->sp vs H Q E ->
   ∃ t,PSs (zgs CX P w K mg base N qual scope f cdv A outer s H E) body t/\t { nx:=fun _ H'=>Q .non H',rt:=Q } (start N vs) H) :
  zav P w K mg base CX (k + 1) f (PySem.W.fnOf name qual params body scope dV kV doc pm an cdv ct) ps sp:=by
 refine ⟨len,fun A outer s H args us vs Q E hr e0 hb r hsp=>?_⟩;have hl:=len _ _ _ _ hsp;have KX : K.In s.heap:=e0.mod.kin.keeps fun b o e=>(e0.bs b o e).1;have lim : s.heap.NoLimit:=e0.mod.nolimit.keeps fun b o e=>(e0.bs b o e).1
 have hkind : ∀ y∈ps.zip us,scope.names.lookup y.1=some .local\/(scope.names.lookup y.1=some .cell/\((cellsFrom (s.heap.objs.size + 1) scope.names []).lookup y.1).isSome=true):=fun ⟨n,v⟩ hy=>by
  rcases S.par n (List.of_mem_zip hy).1 with q | q
  ·exact .inl q
  ·exact .inr ⟨q,PySem.W.cellsFrom_some _ _ _ (.inl q)⟩
 refine codeAny_call_function hr.depth (KX _ _ lk) rfl S.co S.gen rfl (PySem.W.codeRec_of KX hcd) (hb _ _ _ _ ?_);refine wpAny_newFunctionEnv_cells S.kind hkind fun env he s1 x=>?_;subst he;refine ⟨lim.keeps x.toInCall.keep,codeAny_func ?_⟩;obtain ⟨t,ht,hq⟩:=hbody A outer s H vs Q E (hr.deeper _) hsp;have I : Inv (zgs CX P w K mg base N qual scope f cdv A outer s H E) [] (start N vs) H s1:=z6a S hr.hd e0 hl r x;refine wpAny_mono (ht [] s1 (start N vs) H _ I hq) (fun fl s' hs=>?_) fun e s' hs=>hs
 have fin : ∀ {σ':St} {H':Hp} {v:V} {u:Value},Inv (zgs CX P w K mg base N qual scope f cdv A outer s H E) [] σ' H' s'->za5 v u->Q v H'->CE outer P w H s Q u s' :=
  fun {σ' H' v u} J rv q=>⟨v,H',J.os,J.bare,J.base,J.hok,rv,q⟩
 cases fl with
 | ret u =>
  obtain ⟨v,σ',H',J,rv,q⟩:=hs
  exact fin J rv q
 | next =>
  obtain ⟨σ',H',J,q⟩:=hs
  exact fin (v:=V.non) (u:=Value.none) J rfl q
 | brk =>
  obtain ⟨_,_,_,q⟩:=hs
  exact False.elim q
 | cont =>
  obtain ⟨_,_,_,q⟩:=hs;exact False.elim q
section
variable {X:Cx} {x:Str} {p pos:Pos} {e:Expr} {es:List Expr} {t:TA} {id T:String} {r:List V->Hp->VK->Prop}
noncomputable def tCB (r:List V->Hp->VK->Prop) (t:TA) : TE:=fun σ H Q=>t σ H fun vs H1=>r vs H1 Q
theorem zri (hc:zg7 X (.builtin id) r) (hg:Gl X x) (hm:X.mg x=none) (hv:bootBuiltins x=some (.builtin id)) (ha:PA X (e::es) t) (hn:x ≠ "__name__":=by decide) (hdb:(x==("__debug__" : Str))=false:=by decide)
  (he:starEach (e::es) X.env=(false,eval e X.env)::starEach es X.env:=by rfl) (hpl:(backTo pos (starEach es X.env)).any (·.1)=false:=by rfl) : PE X (.Call (.Name x p) (e::es) [] pos) (tCB r t):=by
 intro pins s σ H Q I h;refine wpAny_Call_Name_kw (zkg I hg hm hv ?_ hn hdb);exact PyProof.Rows.callWith_builtin1 (thn (ha pos pins s σ H _ I h) fun us s1 ⟨vs,H1,I1,r1,q1⟩=>hc pins s1 σ H1 vs us Q I1 r1 q1) he hpl
theorem zz4 (hc:zg7 X (.type T) r) (hg:Gl X x) (hm:X.mg x=none) (hv:bootBuiltins x=some (.type T)) (ha:PA X (e::es) t) (hn:x ≠ "__name__":=by decide) (hdb:(x==("__debug__" : Str))=false:=by decide)
  (he:starEach (e::es) X.env=(false,eval e X.env)::starEach es X.env:=by rfl) (hpl:(backTo pos (starEach es X.env)).any (·.1)=false:=by rfl) : PE X (.Call (.Name x p) (e::es) [] pos) (tCB r t):=by
 intro pins s σ H Q I h;refine wpAny_Call_Name_kw (zkg I hg hm hv ?_ hn hdb);exact PyProof.Rows.callWith_type1 (thn (ha pos pins s σ H _ I h) fun us s1 ⟨vs,H1,I1,r1,q1⟩=>hc pins s1 σ H1 vs us Q I1 r1 q1) he hpl
end
end L2
namespace HT
open PySem PyProof.Rows
section
open PySem.SeqAt
open PySem.AutoSeq1 (wpAny_loadPart')
open PySem.MeetsSeq PySem.MeetsSeq2 PySem.MeetsSeq3
end
section
variable {prog:Program} {w:World} {A:Around} {E:Value->Shared->Prop} {s:Shared}
noncomputable def sIx (n d:Nat) : Option Int->Nat
 | none=>d
 | some v=>if v < 0 then (v + (n:Int)).toNat else min v.toNat n
theorem sIx_none (n d:Nat) : sIx n d none=d:=rfl
theorem sIx_nat (n d k:Nat) : sIx n d (some (k:Int))=min k n:=by
 show (if (k:Int) < 0 then ((k:Int) + (n:Int)).toNat else min (k:Int).toNat n)=min k n;rw [if_neg (by omega),Int.toNat_natCast]
end
end HT
namespace L2
open PySem PySem.Spec PyProof.Rows
noncomputable abbrev TO:=St->Hp->(Option Int->Hp->Prop)->Prop
noncomputable def PO (X:Cx) (e:Option Expr) (t:TO) : Prop :=
 ∀ (pins:List (Addr×Obj)) (s:Shared) (σ:St) (H:Hp) (Q:Option Int->Hp->Prop),Inv X pins σ H s->t σ H Q ->
  wpAny (model X.prog X.w) X.A (evalPart e X.env) (fun u s'=>∃ o H',Inv X pins σ H' s'/\IsPart u o/\Q o H') X.xe s
noncomputable def ydi : TO:=fun _ H Q=>Q none H
noncomputable def ydm (t:TE) : TO:=fun σ H Q=>t σ H fun x H1=>∃ i,x=.int i/\Q (some i) H1
section
variable {X:Cx} {e:Expr} {te:TE} {lo hi:Option Expr} {tl th:TO} {pos p2:Pos}
theorem yal : PO X none ydi:=by
 intro pins s σ H Q I h;rw [evalPart_none];exact wpAny_pure ⟨none,H,I,.none,h⟩
theorem yam (h:PE X e te) : PO X (some e) (ydm te):=by
 intro pins s σ H Q I hw;rw [evalPart_some];refine thn (h pins s σ H _ I hw) fun u s1 ⟨x,H1,I1,r1,q1⟩=>?_;obtain ⟨i,rfl,q⟩:=q1;obtain ⟨t,rfl⟩:=r1;exact ⟨some i,H1,I1,.int i t,q⟩
noncomputable def SlR (X:Cx) (r:V->Option Int->Option Int->Hp->VK->Prop) : Prop :=
 ∀ (pins:List (Addr×Obj)) (s:Shared) (σ:St) (H:Hp) (x:V) (v vl vu:Value) (lo hi:Option Int) (sl:Addr) (Q:VK),Inv X pins σ H s->za5 x v->s.heap.IsSliceOf sl vl vu .none->IsPart vl lo->IsPart vu hi->r x lo hi H Q ->
  ∃ T id,typeLookup (.type T) "__getitem__"=pure (some (.builtin id))/\s.TypeIs v T/\wpAny (model X.prog X.w) X.A (getItem v (.ref sl)) (EP X pins σ Q) X.xe s
noncomputable def tSl (r:V->Option Int->Option Int->Hp->VK->Prop) (te:TE) (tl th:TO) : TE:=fun σ H Q=>te σ H fun x H1=>tl σ H1 fun l H2=>th σ H2 fun u H3=>r x l u H3 Q
theorem zuo {r:V->Option Int->Option Int->Hp->VK->Prop} (hr:SlR X r) (he:PE X e te) (hl:PO X lo tl) (hu:PO X hi th) : PE X (.Subscript e (.Slice lo hi none p2) pos) (tSl r te tl th):=by
 intro pins s σ H Q I h;refine Subscript_ (thn (he pins s σ H _ I h) fun v s1 ⟨x,H1,I1,r1,q1⟩=>?_);refine wpAny_Slice (thn (hl pins s1 σ H1 _ I1 q1) fun vl s2 ⟨l,H2,I2,pl,q2⟩=>thn (hu pins s2 σ H2 _ I2 q2) fun vu s3 ⟨u,H3,I3,pu,q3⟩=>?_);rw [evalPart_none];refine wpAny_pure ?_
 have I4 : Inv X pins σ H3 { s3 with heap:=s3.heap.push { cls:=.type "slice",data:=.fields #[vl,vu,.none] } }:=I3.kept (t':=s3.toks) fun b ob q=>Heap.get?_push_of_some _ q
 obtain ⟨T,id,hT,ht,hg⟩:=hr pins { s3 with heap:=s3.heap.push { cls:=.type "slice",data:=.fields #[vl,vu,.none] } } σ H3 x v vl vu l u s3.heap.objs.size Q I4 r1 (Heap.IsSliceOf.new ..) pl pu q3
 show wpAny (model X.prog X.w) X.A (subscriptTail e (.Slice lo hi none p2) v (.ref s3.heap.objs.size)) (EP X pins σ Q) X.xe { s3 with heap:=s3.heap.push { cls:=.type "slice",data:=.fields #[vl,vu,.none] } }
 exact tail_any (ops:=[.ref s3.heap.objs.size,v]) ht hT hg (by with_unfolding_all rfl)
noncomputable def zh2 (xs:List V) (lo hi:Option Int) : List V:=(xs.drop (HT.sIx xs.length 0 lo)).take (HT.sIx xs.length xs.length hi - HT.sIx xs.length 0 lo)
theorem z4a (xs:List V) (lo hi:Option Int) : (zh2 xs lo hi).length<=xs.length:=by
 unfold zh2;rw [List.length_take,List.length_drop];omega
end
noncomputable def ixN (n:Nat) (i:Int) : Option Nat:=if 0<=i then (if i < n then some i.toNat else none) else if -(n:Int)<=i then some (i + n).toNat else none
noncomputable def atI {α : Type} (xs:List α) (i:Int) : Option α:=(ixN xs.length i).bind fun j=>xs[j]?
theorem zx8 {n:Nat} {i:Int} {j:Nat} (h:ixN n i=some j) : seqIndex? i n=some j/\j < n/\-(n:Int)<=i/\i < n:=by
 unfold ixN at h
 by_cases h0 : 0<=i
 ·rw [if_pos h0] at h
  by_cases h1 : i < n
  ·rw [if_pos h1] at h;have e : i.toNat=j:=Option.some.inj h;exact ⟨by rw [seqIndex_of h0 h1,e],by omega,by omega,h1⟩
  ·rw [if_neg h1] at h; cases h
 ·rw [if_neg h0] at h
  by_cases h1 : -(n:Int)<=i
  ·rw [if_pos h1] at h;have e : (i + n).toNat=j:=Option.some.inj h;exact ⟨by rw [seqIndex_neg (by omega) h1,e],by omega,h1,by omega⟩
  ·rw [if_neg h1] at h; cases h
theorem zvv {α : Type} {xs:List α} {i:Int} {v:α} (h:atI xs i=some v) : ∃ j,seqIndex? i xs.length=some j/\xs[j]?=some v/\j < xs.length/\-(xs.length : Int)<=i/\i < xs.length:=by
 unfold atI at h
 cases e : ixN xs.length i with
 | none=>rw [e] at h; cases h
 | some j =>
  rw [e] at h;obtain ⟨h1,h2,h3,h4⟩:=zx8 e;exact ⟨j,h1,h,h2,h3,h4⟩
noncomputable def zr9 (b:Expr) : Prop:=∀ o i,subscripted b false o i=operate [o,i] (getItem o i)
noncomputable def IxR (X:Cx) (r:R2) : Prop :=
 ∀ (value slice:Expr) (pins:List (Addr×Obj)) (s:Shared) (σ:St) (H:Hp) (x y:V) (v u:Value) (Q:VK),Inv X pins σ H s->za5 x v->za5 y u->r x y H Q ->
  subscripted slice false v u=operate [v,u] (getItem v u)->wpAny (model X.prog X.w) X.A (subscriptTail value slice v u) (EP X pins σ Q) X.xe s
noncomputable def MtR (X:Cx) (id:String) (r:V->List V->Hp->VK->Prop) : Prop :=
 ∀ (pins:List (Addr×Obj)) (s:Shared) (σ:St) (H:Hp) (x:V) (xs:List V) (v:Value) (us:List Value) (Q:VK),Inv X pins σ H s->za5 x v->zaz xs us->r x xs H Q ->
  wpAny (model X.prog X.w) X.A (call (.builtin id) (v::us)) (EP X pins σ Q) X.xe s
section
variable {X:Cx} {a b:Expr} {ta tb:TE} {pos:Pos}
theorem IxR.or {r r':R2} (h:IxR X r) (h':IxR X r') : IxR X (fun x y H Q=>r x y H Q\/r' x y H Q):=by
 intro value slice pins s σ H x y v u Q I rx ry q hs
 rcases q with q | q
 ·exact h value slice pins s σ H x y v u Q I rx ry q hs
 ·exact h' value slice pins s σ H x y v u Q I rx ry q hs
theorem z0a {r:R2} (hr:IxR X r) (ha:PE X a ta) (hb:PE X b tb) (hs:zr9 b) : PE X (.Subscript a b pos) (tOp r ta tb):=by
 intro pins s σ H Q I h;exact Subscript_ (zo6 ha hb I h fun v u s2 x y H2 I2 rx ry q=>hr a b pins s2 σ H2 x y v u Q I2 rx ry q (hs _ _))
noncomputable def ya5 (K:PySem.W.Frag) : R2:=fun x y H Q=>∃ p xs i v,x=.ref p/\y=.int i/\SqL K H p xs/\atI xs i=some v/\Q v H
noncomputable def ya6 (K:PySem.W.Frag) : R2:=fun x y H Q=>∃ p xs i v,x=.ref p/\y=.int i/\SqT K H p xs/\atI xs i=some v/\Q v H
theorem zya : IxR X (ya5 X.K):=by
 intro value slice pins s σ H x y v u Q I rx ry h hs;obtain ⟨p,xs,i,z,rfl,rfl,hq,he,q⟩:=h;cases rx;obtain ⟨t,rfl⟩:=ry;obtain ⟨its,r,pl,hz⟩:=I.list hq;obtain ⟨j,h1,h2,h3,h4,h5⟩:=zvv he;obtain ⟨w,ew,rw'⟩:=r.get h2;have hl:=r.length;have hn:=zki;have fin : EP X pins σ Q w s:=⟨z,H,I,rw',q⟩
 by_cases h0 : 0<=i
 ·have hj : i.toNat=j:=by
   rw [seqIndex_of h0 h5] at h1;exact Option.some.inj h1
  exact item_listR pl.isList h0 (by omega) (by rw [hj]; simpa using ew) fin hs
 ·have hj : (i + (its.toArray.size : Int)).toNat=j:=by
   rw [seqIndex_neg (by omega) h4] at h1;rw [List.size_toArray,<- hl];exact Option.some.inj h1
  exact subscriptTail_builtinR (x:=w) pl.isList.typeIs slot_list_getitem.lookup
   (wpAny_getItem_list_neg (Q:=fun r s'=>r=w/\EP X pins σ Q r s') pl.isList (by omega) (by rw [List.size_toArray] <;> omega) (by omega) (by rw [hj]; simpa using ew) ⟨rfl,fin⟩) hs
theorem zyb : IxR X (ya6 X.K):=by
 intro value slice pins s σ H x y v u Q I rx ry h hs;obtain ⟨p,xs,i,z,rfl,rfl,hq,he,q⟩:=h;cases rx;obtain ⟨t,rfl⟩:=ry;obtain ⟨its,r,pl,hz⟩:=I.tuple hq;obtain ⟨j,h1,h2,h3,h4,h5⟩:=zvv he;obtain ⟨w,ew,rw'⟩:=r.get h2;have hl:=r.length;have hn:=zki;have fin : EP X pins σ Q w s:=⟨z,H,I,rw',q⟩
 exact subscriptTail_builtinR (x:=w) pl.typeIs slot_tuple_getitem.lookup
  (getItem_tuple (j:=j) (Q:=fun r s'=>r=w/\EP X pins σ Q r s') pl (by omega) (by omega) (by rw [List.size_toArray,<- hl]; exact h1) (by simpa using ew) ⟨rfl,fin⟩) hs
theorem z7n (its:List Value) (n j:Nat) (u:Value) : Obj.mapSeq (·.setIfInBounds j u) { cls:=.type "list",data:=.seq its.toArray n }={ cls:=.type "list",data:=.seq (its.set j u).toArray n }:=by
 simp [Obj.mapSeq]
theorem Inv.lst {pins:List (Addr×Obj)} {σ:St} {H:Hp} {s:Shared} {p:Addr} {xs:List V} (I:Inv X pins σ H s) (h:H p=some (.lst xs)) :
  ∃ (its:List Value) (n:Nat),zaz xs its/\s.heap.get? p=some { cls:=.type "list",data:=.seq its.toArray n }/\xs.length<=sizeLine:=by
 obtain ⟨z,its,n,r,e⟩:=I.hok p _ h;exact ⟨its,n,r,e,z⟩
theorem Inv.lstUpd {pins:List (Addr×Obj)} {σ:St} {H:Hp} {s:Shared} {p:Addr} {xs ys:List V} {its its':List Value} {n n':Nat} {f:Obj->Obj} (I:Inv X pins σ H s) (h:H p=some (.lst xs))
  (ho:s.heap.get? p=some { cls:=.type "list",data:=.seq its.toArray n }) (hf:f { cls:=.type "list",data:=.seq its.toArray n }={ cls:=.type "list",data:=.seq its'.toArray n' }) (r:zaz ys its') (hz:ys.length<=sizeLine) (t:Nat) :
  Inv X pins σ (upd H p (.lst ys)) { s with heap:=s.heap.update p f,toks:=t }:=by
 have e : (s.heap.update p f).get? p=some { cls:=.type "list",data:=.seq its'.toArray n' }:=by
  rw [Heap.get?_update_self f ho (by rw [hf] <;> rfl),hf]
 refine I.write (x:=p) (e:=p) (by rw [h]; trivial) (.inl rfl) (fun b u hb q=>(Heap.get?_update_other _ _ (Ne.symm hb)).trans q) ⟨_,e⟩ ?_;exact ⟨hz,its',n',r,e⟩
noncomputable def zur : V->V->V->Hp->(Hp->Prop)->Prop:=fun o i v H Q=>∃ p xs k j,o=.ref p/\i=.int k/\H p=some (.lst xs)/\ixN xs.length k=some j/\Q (upd H p (.lst (xs.set j v)))
theorem z15 : zvp X zur:=by
 intro pins s σ H o i v ov iv u Q I ro ri rv h;obtain ⟨p,xs,k,j,rfl,rfl,hp,hj,q⟩:=h;cases ro;obtain ⟨t,rfl⟩:=ri;obtain ⟨its,n,r,ho,hz⟩:=I.lst hp;obtain ⟨h1,h2,h3,h4⟩:=zx8 hj;have hl:=r.length;have hn:=zki
 have I' : Inv X pins σ (upd H p (.lst (xs.set j v))) { s with heap:=s.heap.update p (Obj.mapSeq (·.setIfInBounds j u)) } :=
  I.lstUpd hp ho (z7n its n j u) (r.set rv j) (by rw [List.length_set]; exact hz) s.toks
 by_cases h0 : 0<=k
 ·have hk : k.toNat=j:=by
   rw [seqIndex_of h0 h4] at h1;exact Option.some.inj h1
  exact PySem.W.ki_setAt ho h0 (by omega) (by rw [List.size_toArray,<- hl]; exact h4) (by rw [hk]; exact ⟨_,I',q⟩)
 ·have hk : (k + (its.toArray.size : Int)).toNat=j:=by
   rw [seqIndex_neg (by omega) h3] at h1;rw [List.size_toArray,<- hl];exact Option.some.inj h1
  exact PySem.W.ki_setBack ho (by omega) (by rw [List.size_toArray,<- hl]; exact h3) (by omega) (by rw [hk]; exact ⟨_,I',q⟩)
theorem ycq (lo hi:Option Int) (n:Nat) : (sliceBounds lo hi none n).1=((HT.sIx n 0 lo : Nat) : Int)/\(sliceBounds lo hi none n).2.1=((HT.sIx n n hi : Nat) : Int)/\(sliceBounds lo hi none n).2.2=1:=by
 refine ⟨?_,?_,rfl⟩
 ·cases lo with
  | none=>simp [sliceBounds,HT.sIx]
  | some i =>
   simp only [sliceBounds,HT.sIx,Option.getD_none,show (1 : Int) > 0 by decide,if_true]
   by_cases h : i < 0
   ·simp only [h,if_true] <;> omega
   ·simp only [h,if_false] <;> omega
 ·cases hi with
  | none=>simp [sliceBounds,HT.sIx]
  | some i =>
   simp only [sliceBounds,HT.sIx,Option.getD_none,show (1 : Int) > 0 by decide,if_true]
   by_cases h : i < 0
   ·simp only [h,if_true] <;> omega
   ·simp only [h,if_false] <;> omega
theorem ycp (its:List Value) (lo hi:Option Int) : slicePick its.toArray lo hi none=((its.drop (HT.sIx its.length 0 lo)).take (HT.sIx its.length its.length hi - HT.sIx its.length 0 lo)).toArray:=by
 obtain ⟨h1,h2,h3⟩:=ycq lo hi its.toArray.size;unfold slicePick;rw [h1,h2,h3]
 simp only [sliceRange_one,pick_run,List.size_toArray] <;> rfl
noncomputable def ya7 (K:PySem.W.Frag) : V->Option Int->Option Int->Hp->VK->Prop:=fun x lo hi H Q=>∃ a xs,x=.ref a/\SqL K H a xs/\∀ p,H p=none->Q (.ref p) (upd H p (.lst (zh2 xs lo hi)))
theorem yco : SlR X (ya7 X.K):=by
 intro pins s σ H x v vl vu lo hi sl Q I rx hs pl pu h;obtain ⟨a,xs,rfl,hx,q⟩:=h;cases rx;obtain ⟨its,r,ht,hz⟩:=I.list hx;have hlen:=r.length;refine ⟨"list",_,slot_list_getitem.lookup,ht.isList.typeIs,?_⟩
 refine wpAny_getItem_list_slice ht.isList hs pl pu .none (by simp) ?_ (by rw [List.size_toArray] <;> omega)
 rw [ycp,<- hlen];refine ⟨.ref s.heap.objs.size,_,I.laid (t':=s.toks) (o:=.lst (zh2 xs lo hi)) (fun b ob q=>Heap.get?_push_of_some _ q) (Nat.le_refl _) ?_,rfl,q _ (I.hok.fresh (Nat.le_refl _))⟩;exact ⟨Nat.le_trans (z4a xs lo hi) hz,_,0,(r.drop (HT.sIx xs.length 0 lo)).take (HT.sIx xs.length xs.length hi - HT.sIx xs.length 0 lo),Heap.get?_push_size _ rfl⟩
noncomputable def zek : V->Bool
 | .non=>true
 | .bl _=>true
 | .int _=>true
 | .str _=>true
 | _=>false
noncomputable def eqV : V->V->Bool
 | .non,.non=>true
 | .bl a,.bl b=>a==b
 | .bl a,.int b=>(if a then 1 else 0)==b
 | .int a,.bl b=>a==(if b then 1 else 0)
 | .int a,.int b=>a==b
 | .str a,.str b=>a==b
 | _,_=>false
theorem zxf {A:Around} {s:Shared} {y x:V} {u v:Value} (ry:za5 y u) (rx:za5 x v) (fy:zek y=true) (fx:zek x=true) : SeqAt.EqAt A s u v (eqV y x):=by
 cases y with
 | non =>
  cases ry
  cases x with
  | non=>cases rx; exact SeqAt.EqAt.same _
  | bl b=>cases rx; exact SeqAt.EqAt.none_bool b
  | int b=>obtain ⟨t,rfl⟩:=rx; exact SeqAt.EqAt.none_int b t
  | str b=>obtain ⟨t,rfl⟩:=rx; exact SeqAt.EqAt.none_str b t
  | _=>exact absurd (show false=true from fx) Bool.false_ne_true
 | bl a =>
  cases ry
  cases x with
  | non=>cases rx; exact SeqAt.EqAt.bool_none a
  | bl b=>cases rx; exact SeqAt.EqAt.bool_bool a b
  | int b=>obtain ⟨t,rfl⟩:=rx; exact SeqAt.EqAt.bool_int a b t
  | str b=>obtain ⟨t,rfl⟩:=rx; exact SeqAt.EqAt.bool_str a b t
  | _=>exact absurd (show false=true from fx) Bool.false_ne_true
 | int a =>
  obtain ⟨t',rfl⟩:=ry
  cases x with
  | non=>cases rx; exact SeqAt.EqAt.int_none a t'
  | bl b=>cases rx; exact SeqAt.EqAt.int_bool a t' b
  | int b=>obtain ⟨t,rfl⟩:=rx; exact SeqAt.EqAt.int_int a t' b t
  | str b=>obtain ⟨t,rfl⟩:=rx; exact SeqAt.EqAt.int_str a t' b t
  | _=>exact absurd (show false=true from fx) Bool.false_ne_true
 | str a =>
  obtain ⟨t',rfl⟩:=ry
  cases x with
  | non=>cases rx; exact SeqAt.EqAt.str_none a t'
  | bl b=>cases rx; exact SeqAt.EqAt.str_bool a t' b
  | int b=>obtain ⟨t,rfl⟩:=rx; exact SeqAt.EqAt.str_int a t' b t
  | str b=>obtain ⟨t,rfl⟩:=rx; exact SeqAt.EqAt.str_str a t' b t
  | _=>exact absurd (show false=true from fx) Bool.false_ne_true
 | _=>exact absurd (show false=true from fy) Bool.false_ne_true
noncomputable def eqU (x:V) (u:Value) : Bool:=match u with
 | .none=>eqV .non x
 | .bool b=>eqV (.bl b) x
 | .int i _=>eqV (.int i) x
 | .str z _=>eqV (.str z) x
 | _=>false
theorem zxg {x y:V} {u:Value} (r:za5 y u) (f:zek y=true) : eqU x u=eqV y x:=by
 cases y with
 | non=>cases r; rfl
 | bl b=>cases r; rfl
 | int i=>obtain ⟨t,rfl⟩:=r; rfl
 | str z=>obtain ⟨t,rfl⟩:=r; rfl
 | _=>exact absurd (show false=true from f) Bool.false_ne_true
theorem zm1 {x:V} : ∀ {xs:List V} {us:List Value},zaz xs us->xs.all zek=true->us.any (eqU x)=xs.any fun y=>eqV y x
 | _,_,.nil,_=>rfl
 | y::xs,u::us,.cons r t,f=>by
  rw [List.all_cons,Bool.and_eq_true] at f;rw [List.any_cons,List.any_cons,zxg r f.1,zm1 t f.2]
theorem zn0 {A:Around} {s:Shared} {x:V} {v:Value} (rx:za5 x v) (fx:zek x=true) : ∀ {xs:List V} {us:List Value},zaz xs us->xs.all zek=true->∀ u∈us,SeqAt.EqAt A s u v (eqU x u)
 | _,_,.nil,_=>fun u hu=>by cases hu
 | y::xs,u::us,.cons r t,f=>fun u' hu=>by
  rw [List.all_cons,Bool.and_eq_true] at f
  rcases List.mem_cons.mp hu with rfl | hu
  ·rw [zxg r f.1]; exact zxf r rx f.1 fx
  ·exact zn0 rx fx t f.2 u' hu
noncomputable def inV (x:V) (xs:List V) : Bool:=xs.any fun y=>eqV y x
noncomputable def rIn (K:PySem.W.Frag) (neg:Bool) : R2:=fun x y H Q=>∃ p xs,y=.ref p/\(SqL K H p xs\/SqT K H p xs)/\zek x=true/\xs.all zek=true/\Q (.bl (if neg then !inV x xs else inV x xs)) H
theorem z83 : OpR X (compareOp .In) (rIn X.K false):=by
 intro pins s σ H x y v u Q I rx ry h;obtain ⟨p,xs,rfl,hq,fx,fs,q⟩:=h;cases ry
 rcases hq with hq | hq
 ·obtain ⟨its,r,pl,hz⟩:=I.list hq;refine SeqAt.in_listAt (eqU x) pl.isList (fun w hw=>zn0 rx fx r fs w (by simpa using hw)) ⟨.bl _,H,I,rfl,?_⟩;rw [show its.toArray.any (eqU x)=its.any (eqU x) by simp,zm1 r fs];exact q
 ·obtain ⟨its,r,pl,hz⟩:=I.tuple hq;refine SeqAt.in_tupleAt (eqU x) pl (fun w hw=>zn0 rx fx r fs w (by simpa using hw)) ⟨.bl _,H,I,rfl,?_⟩;rw [show its.toArray.any (eqU x)=its.any (eqU x) by simp,zm1 r fs];exact q
theorem z89 : OpR X (compareOp .NotIn) (rIn X.K true):=by
 intro pins s σ H x y v u Q I rx ry h;obtain ⟨p,xs,rfl,hq,fx,fs,q⟩:=h;cases ry
 rcases hq with hq | hq
 ·obtain ⟨its,r,pl,hz⟩:=I.list hq;refine SeqAt.notIn_listAt (eqU x) pl.isList (fun w hw=>zn0 rx fx r fs w (by simpa using hw)) ⟨.bl _,H,I,rfl,?_⟩;rw [show its.toArray.any (eqU x)=its.any (eqU x) by simp,zm1 r fs];exact q
 ·obtain ⟨its,r,pl,hz⟩:=I.tuple hq;refine SeqAt.notIn_tupleAt (eqU x) pl (fun w hw=>zn0 rx fx r fs w (by simpa using hw)) ⟨.bl _,H,I,rfl,?_⟩;rw [show its.toArray.any (eqU x)=its.any (eqU x) by simp,zm1 r fs];exact q
theorem z3w : zg7 X (.builtin "len") (fun xs H Q=>∃ p ys,xs=[.ref p]/\(SqL X.K H p ys\/SqT X.K H p ys)/\Q (.int ys.length) H):=by
 intro pins s σ H xs us Q I r h;obtain ⟨p,ys,rfl,hq,q⟩:=h;obtain ⟨u,rfl,rx⟩:=zmv r;cases rx;have hn:=zki
 rcases hq with hq | hq
 ·obtain ⟨its,r',pl,hz⟩:=I.list hq;have hlen:=r'.length
  exact Calls.call_len_list pl.isList (by simp only [List.size_toArray] <;> omega) ⟨.int ys.length,H,I.tok _,⟨s.toks + 1,by rw [List.size_toArray,hlen]⟩,q⟩
 ·obtain ⟨its,r',pl,hz⟩:=I.tuple hq;have hlen:=r'.length
  exact len_tuple pl (by simp only [List.size_toArray] <;> omega) ⟨.int ys.length,H,I.tok _,⟨s.toks + 1,by rw [List.size_toArray,hlen]⟩,q⟩
theorem z3x : zg7 X (.builtin "len") (fun xs H Q=>∃ z,xs=[.str z]/\z.length<=sizeLine/\Q (.int z.length) H):=by
 intro pins s σ H xs us Q I r h;obtain ⟨z,rfl,hz,q⟩:=h;obtain ⟨u,rfl,t,rfl⟩:=zmv r;have hn:=zki;exact len_str (by omega) ⟨.int z.length,H,I.tok _,⟨_,rfl⟩,q⟩
noncomputable def tyV (K:PySem.W.Frag) (T:String) (x:V) (H:Hp) : Prop:=match x with
 | .str _=>T="str"
 | .int _=>T="int"
 | .ref p=>(T="list" /\ ∃ xs,SqL K H p xs)\/(T="tuple" /\ ∃ o,K.lookup p=some o/\o.cls=.type "tuple" /\ o.dict=none) \/
   (T="dict" /\ ((∃ kvs,H p=some (.dK kvs))\/∃ kvs,H p=some (.dT kvs)))\/(T="set" /\ ∃ S n,H p=some (.set S n))
 | _=>False
theorem yd1 {pins:List (Addr×Obj)} {σ:St} {H:Hp} {s:Shared} {T:String} {x:V} {v:Value} (I:Inv X pins σ H s) (r:za5 x v) (ty:tyV X.K T x H) :
  s.TypeIs v T/\∀ a,v=.ref a->∃ ob,s.heap.get? a=some ob/\ob.dict=none:=by
 cases x with
 | str z =>
  obtain ⟨t,rfl⟩:=r;cases (show T="str" from ty)
  exact ⟨typeIs_str s z t,fun _ e=>nomatch e⟩
 | int i =>
  obtain ⟨t,rfl⟩:=r;cases (show T="int" from ty)
  exact ⟨typeIs_int s i t,fun _ e=>nomatch e⟩
 | ref p =>
  cases r
  rcases ty with ⟨rfl,xs,hq⟩ | ⟨rfl,o,hk,hc,hd⟩ | ⟨rfl,hk⟩ | ⟨rfl,S,n,hk⟩
  ·obtain ⟨its,_,pl,_⟩:=I.list hq;refine ⟨pl.isList.typeIs,fun a e=>?_⟩;cases e;obtain ⟨o,n,e,c,hd,_⟩:=pl;exact ⟨o,e,hd⟩
  ·refine ⟨⟨o,I.kIn p o hk,hc⟩,fun a e=>?_⟩;cases e;exact ⟨o,I.kIn _ o hk,hd⟩
  ·have z : ∃ o,s.heap.get? p=some o/\o.ExactDict:=by
    rcases hk with ⟨kvs,hk⟩ | ⟨kvs,hk⟩
    ·obtain ⟨_,_,_,_,o,_,_,e,ex,_⟩:=I.hok p _ hk;exact ⟨o,e,ex⟩
    ·obtain ⟨_,_,_,_,o,_,_,e,ex,_⟩:=I.hok p _ hk;exact ⟨o,e,ex⟩
   obtain ⟨o,e,ex⟩:=z;refine ⟨⟨o,e,ex.1⟩,fun a e2=>?_⟩;cases e2;exact ⟨o,e,ex.2.1⟩
  ·obtain ⟨o,_,_,_,e,ex,_⟩:=I.hok p _ hk;refine ⟨⟨o,e,ex.1⟩,fun a e2=>?_⟩;cases e2
   exact ⟨o,e,ex.2.1⟩
 | _=>exact False.elim ty
noncomputable def tBM (K:PySem.W.Frag) (T:String) (r:V->List V->Hp->VK->Prop) (to:TE) (t:TA) : TE:=fun σ H Q=>to σ H fun x H1=>tyV K T x H1/\t σ H1 fun xs H2=>r x xs H2 Q
variable {o e:Expr} {es:List Expr} {to:TE} {t:TA} {name:Str} {apos cpos:Pos} {T id:String} {r:V->List V->Hp->VK->Prop}
theorem ze5 (pa:PlainAttrs T) (slot:Slot T name id) (hty:typeOf (.builtin id)=pure (.type "method_descriptor")) (hm:MtR X id r) (ho:PE X o to) (ha:PA X (e::es) t)
  (hbase:attributeBase o name X.env (eval o X.env)=eval o X.env:=by rfl)
  (hfew:((backTo cpos (starEach (e::es) X.env)).all (fun x=>!x.1) && (backToKw cpos (keywordEach [] X.env)).all (fun x=>x.1.isSome)
   && decide ((e::es).length + ([] : List Keyword).length + (if ([] : List Keyword).isEmpty then 0 else 1) < 30))=true:=by rfl)
  (hline:(apos.endLine==cpos.line)=true:=by rfl) (hs:starEach (e::es) X.env=(false,eval e X.env)::starEach es X.env:=by rfl) (hplain:(backTo cpos (starEach es X.env)).any (·.1)=false:=by rfl) :
  PE X (.Call (.Attribute o name apos) (e::es) [] cpos) (tBM X.K T r to t):=by
 intro pins s σ H Q I h;refine wpAny_Call_method_late hbase hfew hline rfl (thn (ho pins s σ H _ I h) fun v s1 ⟨x,H1,I1,r1,ty,q1⟩=>?_);obtain ⟨h1,h2⟩:=yd1 I1 r1 ty;refine ⟨T,id,pa,slot,hty,h1,h2,?_⟩;have hA:=ha cpos pins s1 σ H1 _ I1 q1;rw [hs] at hA ⊢
 refine Calls.callWith_builtin (by show (false || (backTo cpos (starEach es X.env)).any (·.1))=false; rw [hplain] <;> rfl) (Calls.evalArgs_plain ?_)
 exact thn hA fun us s2 ⟨vs,H2,I2,r2,q2⟩=>hm pins s2 σ H2 x vs v us Q I2 r1 r2 q2
end
noncomputable def MtM (X:Cx) (id:String) (r:V->List V->Hp->VK->Prop) : Prop :=
 ∀ (pins:List (Addr×Obj)) (s:Shared) (σ:St) (H:Hp) (x:V) (xs:List V) (v:Value) (us:List Value) (Q:VK),Inv X pins σ H s->za5 x v->zaz xs us->r x xs H Q ->
  wpAny (model X.prog X.w) X.A (call (.builtin id) (v::us)) (EP X pins σ Q) X.xe s
theorem zaz.one : ∀ {x:V} {us:List Value},zaz [x] us->∃ u,us=[u]/\za5 x u
 | _,_,.cons r .nil=>⟨_,rfl,r⟩
theorem zaz.rep {xs:List V} {us:List Value} (h:zaz xs us) : ∀ k : Nat,zaz (List.replicate k xs).flatten (List.replicate k us).flatten
 | 0=>.nil
 | k + 1=>by
  rw [List.replicate_succ,List.replicate_succ,List.flatten_cons,List.flatten_cons];exact zaz.append h (zaz.rep h k)
section
variable {X:Cx} {pins:List (Addr×Obj)} {σ:St} {H:Hp} {s:Shared} {l b:Addr} {xs ys zs:List V}
theorem Inv.lset {its its':List Value} {n:Nat} {f:Array Value->Array Value} {t':Nat} (I:Inv X pins σ H s) (hH:H l=some (.lst xs))
  (e:s.heap.get? l=some { cls:=.type "list",data:=.seq its.toArray n }) (hf:f its.toArray=its'.toArray) (hv:zaz ys its') (hz:ys.length<=sizeLine) :
  Inv X pins σ (upd H l (.lst ys)) { s with heap:=s.heap.update l (Obj.mapSeq f),toks:=t' }:=by
 have q:=PySem.IsL.update e f;rw [hf] at q;refine I.write (x:=l) (e:=l) (by rw [hH]; exact trivial) (.inl rfl) (fun b' u hb hu=>(Heap.get?_update_other s.heap (Obj.mapSeq f) (Ne.symm hb)).trans hu) ⟨_,q⟩ ?_;exact ⟨hz,its',_,hv,q⟩
theorem Inv.lnew {its:List Value} {t':Nat} (I:Inv X pins σ H s) (hv:zaz ys its) (hz:ys.length<=sizeLine) :
  Inv X pins σ (upd H s.heap.objs.size (.lst ys)) { s with heap:=s.heap.push { cls:=.type "list",data:=.seq its.toArray },toks:=t' } :=
 I.laid (fun _ _ q=>Heap.get?_push_of_some _ q) (Nat.le_refl _) ⟨hz,its,0,hv,Heap.get?_push_size _ rfl⟩
theorem Inv.fresh (I:Inv X pins σ H s) : H s.heap.objs.size=none:=I.hok.fresh (Nat.le_refl _)
theorem Inv.lstM (I:Inv X pins σ H s) (hH:H l=some (.lst xs)) : xs.length<=sizeLine/\∃ (its:List Value) (n:Nat),zaz xs its/\xs.length=its.length/\s.heap.get? l=some { cls:=.type "list",data:=.seq its.toArray n }:=by
 obtain ⟨z,its,n,r,e⟩:=I.hok l _ hH;exact ⟨z,its,n,r,r.length,e⟩
theorem z73 {n:Nat} (h:n<=sizeLine) : Builtin.List.listTooLong n=false:=by
 unfold Builtin.List.listTooLong;exact decide_eq_false (by omega)
end
section
variable {X:Cx}
noncomputable def zrl : V->List V->Hp->VK->Prop:=fun x vs H Q=>∃ l xs y,x=.ref l/\vs=[y]/\H l=some (.lst xs)/\xs.length < sizeLine/\Q .non (upd H l (.lst (xs++[y])))
theorem zgf : MtM X "list.append" zrl:=by
 intro pins s σ H x vs v us Q I rx rv h;obtain ⟨l,xs,y,rfl,rfl,hH,hz,q⟩:=h;cases rx;obtain ⟨u,rfl,ru⟩:=rv.one;obtain ⟨z,its,n,r,hl,e⟩:=I.lstM hH;refine call_meets F.slot_list_append ⟨_,e,rfl⟩ F.entry_list_append (F.args_list_append_2 _ _) (PySem.list_append l its.toArray n u (by rw [List.size_toArray]; omega)) ⟨e,?_⟩;refine ⟨.non,_,I.lset (its':=its++[u]) hH e (by simp) (r.append (.cons ru .nil)) ?_,rfl,q⟩;rw [List.length_append,List.length_singleton];omega
noncomputable def ya3 : R2:=fun x y H Q=>∃ l b xs zs,x=.ref l/\y=.ref b/\H l=some (.lst xs)/\H b=some (.lst zs)/\xs.length + zs.length<=sizeLine/\∀ p,H p=none->Q (.ref p) (upd H p (.lst (xs++zs)))
theorem zuk : OpR X (binaryOp .Add) ya3:=by
 intro pins s σ H x y v u Q I rx ry h;obtain ⟨l,b,xs,zs,rfl,rfl,hH,hB,hz,q⟩:=h;cases rx;cases ry;obtain ⟨z,its,n,r,hl,e⟩:=I.lstM hH;obtain ⟨z2,its2,n2,r2,hl2,e2⟩:=I.lstM hB;refine PySem.P.add_list e e2 ?_ (by rw [List.size_toArray,List.size_toArray]; omega);have ea : its.toArray++its2.toArray=(its++its2).toArray:=by simp
 rw [ea];exact ⟨.ref _,_,I.lnew (t':=s.toks) (r.append r2) (by rw [List.length_append]; omega),rfl,q _ I.fresh⟩
end
section
variable {prog:Program} {w:World} {A:Around} {E:Value->Shared->Prop} {s:Shared}
set_option maxRecDepth 100000 in
end
section
variable {X:Cx}
end
end L2
namespace Att
open PySem PySem.W PySem.Calls PyProof.Rows
theorem z59 {P:Params} {h:Heap} : ∀ (ns:List Int) (vs:List Value),WellAll P h vs (ns.map WData.int)->IntsAre vs ns:=by
 intro ns
 induction ns with
 | nil =>
  intro vs w;rw [List.map_nil] at w;cases w
  exact .nil
 | cons n ns ih =>
  intro vs w;rw [List.map_cons] at w
  cases w with
  | cons a b =>
   cases a;exact .cons _ _ (ih _ b)
theorem ych {l:OpenLaw} {n:Nat} (hn:l.most=some n) {P:Params} {h:Heap} {args:List WData} {vals:List Value}
  (hpre:l.row.toRowW.claim.pre args=true) (hwl:WellAll P h vals args) :
  ∃ a vs ns,vals=[Value.ref a]/\args=[WData.list (ns.map WData.int)]/\h.get? a=some { cls:=.type "list",data:=.seq vs.toArray }/\IntsAre vs ns/\ns.length<=n:=by
 have hsh : WShape.hasAll [] args [.list .int]=true:=(pre_splitW hpre).1;have hc : l.pre.holds [] { args:=args }=true:=(pre_splitW hpre).2;obtain ⟨d,r,rfl,h1,h2⟩:=hasAllW_cons hsh;obtain rfl:=hasAllW_nil h2;obtain ⟨xs,rfl,h3⟩:=hasW_list h1;obtain ⟨ns,rfl⟩:=items_int h3
 have hlen : ns.length<=n:=by
  unfold OpenLaw.pre at hc
  have h4 : (WTm.not (.lt (.lit (.int (n:Int))) (.len (.arg 0)))).holds [] { args:=[.list (ns.map .int)] }=true:=by
   have h4:=(holds_andW hc).1;rw [hn] at h4;exact h4
  have h5:=condW_of h4 (w_not (w_lt w_lit (w_len_list (w_arg rfl))));rw [List.length_map] at h5;refine Nat.le_of_not_lt fun q=>?_;have q' : (n:Int) < ((ns.length : Nat) : Int):=by omega
  first
   | (rw [decide_eq_true q'] at h5; exact absurd h5 (by decide))
   | (simp at h5; omega)
 cases hwl with
 | cons w1 w2 =>
  cases w2
  cases w1 with
  | list ho hall=>exact ⟨_,_,ns,rfl,rfl,ho,z59 ns _ hall,hlen⟩
theorem yan (l:OpenLaw) (args:List WData) : l.row.toRowW.claim.post args (.bool true) args=true :=
 postW_of (r:=l.row.toRowW) (X:=(true==true))
  (show WShape.has [] (.bool true) .bool=true by first | rfl | decide | simp [WShape.has,WShape.arms,WShape.armsAll])
  (show (WTm.eq .res (.lit (.bool true))).value [] { args:=args,res:=some (.bool true),after:=args }=some (.bool (true==true)) from w_eq_bool (w_res rfl) w_lit) rfl
theorem attach_call {l:OpenLaw} {n:Nat} {q:Program} {loose:List Str} {XP:(Str->Option Value)->Heap->Prop} {YP:World->Heap->Prop} {d:DefRec}
  (hn:l.most=some n) (hdf:d.params.defaults=[])
  (call:∀ (w:World) (s₀ s₁:Shared) (mg mb:Str->Option Value) (fa:Addr) (o:Obj) (pm cd doc:Value) (a:Addr) (vs:List Value) (ns:List Int),
   Ground q loose [] XP w s₀ mg mb s₁.heap->YP w s₁.heap ->
   s₁.heap.get? fa=some o->o.data=.func (docDef d.name d.params d.body d.scope pm cd doc)->s₁.heap.CodeRec cd d.name->mg d.name=some (.ref fa) ->
   s₁.heap.get? a=some { cls:=.type "list",data:=.seq vs.toArray }->IntsAre vs ns->ns.length<=n->s₁.gens=#[] ->
   codeAny (model l.prog w) callerA (.call (.ref fa) ⟨[.ref a],[]⟩) (fun r s'=>r=.ok (.ret (.bool true))/\OldK s₁.heap s'.heap/\s'.os=s₁.os/\AllBare s'.gens) s₁) :
  WalkO q loose XP YP l.row.toRowW d [] (fun f vs=>PySem.call f vs):=by
 intro w s₀ s₁ mg mb G Y fa o pm cd doc dV kV ho hd hcd hD hmg hg args vals as hpre hlay hrd hwl hlo;obtain rfl : dV=.none:=Dflts.none hD hdf;obtain rfl : kV=.none:=Dflts.noKw hD;obtain ⟨a,vs,ns,rfl,rfl,hobj,hints,hlen⟩:=ych hn hpre hwl;refine enter_call (codeAny_mono (call w s₀ s₁ mg mb fa o pm cd doc a vs ns G Y ho (fd_plain hd) hcd hmg hobj hints hlen hg) fun r s' hq=>?_);obtain ⟨rfl,h2,h3,h4⟩:=hq;exact ⟨.inl ⟨.bool true,.bool true,[],rfl,fun _=>rfl,.bool true,yan l _,fun _=>⟨List.Pairwise.nil,fun _ hm=>(nomatch hm)⟩⟩,h2,h3,h4⟩
section
variable {prog:Program} {w:World} {A:Around} {E:Value->Shared->Prop} {s:Shared} {K:Frag}
end
end Att
namespace L2
open PySem PySem.Spec PyProof.Rows
theorem z20 : ∀ {vs:List Value} {ns:List Int},IntsAre vs ns->zaz (ns.map V.int) vs
 | _,_,.nil=>.nil
 | _,_,.cons n t h=>.cons ⟨t,rfl⟩ (z20 h)
noncomputable def zox (H:Hp) : Prop:=∀ b,H b=none\/∃ o xs,H b=some (.frz o (.lst xs))
theorem z60 {P:Program} {w:World} {K:PySem.W.Frag} {mg mb:Str->Option Value} {CX:CXT} {k:Nat} {fa a:Addr} {fd:FuncData} {x:Str} {sp:Sp} {s₁:Shared} {vs:List Value} {ns:List Int}
  (KX:K.In s₁.heap) (hns:s₁.heap.Ns mainGlobals mg) (hb:s₁.heap.Ns builtinsNs mb) (hbb:∀ x : Str,x ≠ "__name__" -> mb x=bootBuiltins x) (hlim:s₁.heap.NoLimit) (hg:s₁.gens=#[])
  (ha:s₁.heap.get? a=some { cls:=.type "list",data:=.seq vs.toArray }) (hi:IntsAre vs ns) (hl:ns.length<=sizeLine) (hr:zbz k callerA)
  (F:∀ base : Heap,K.In base->base.Ns mainGlobals mg->zav P w K mg base CX k fa fd [x] sp) (hbind:∀ (s:Shared) (u:Value),BindsTo s fd ⟨[u],[]⟩ [(x,u)])
  (hsp:∀ H : Hp,zox H->SqL K H a (ns.map V.int)->sp [.ref a] H (fun v _=>v=.bl true) fun _ _ _=>False)
  (hCX:∀ H e s',CX [] H s₁ (fun _ _ _=>False) e s'->False) :
  codeAny (model P w) callerA (.call (.ref fa) ⟨[.ref a],[]⟩) (fun r s'=>r=.ok (.ret (.bool true))/\OldK s₁.heap s'.heap/\s'.os=s₁.os/\AllBare s'.gens) s₁:=by
 have rv:=z20 hi;have lenV:=hi.length
 have core : ∀ H : Hp,zox H->SqL K H a (ns.map V.int)->HOk P w H s₁.heap->(∀ b,H b≠none->b=a)->(H a≠none->K.lookup a=none) ->
   codeAny (model P w) callerA (.call (.ref fa) ⟨[.ref a],[]⟩) (fun r s'=>r=.ok (.ret (.bool true))/\OldK s₁.heap s'.heap/\s'.os=s₁.os/\AllBare s'.gens) s₁:=by
  intro H hO hS hok hA hK;have base_of : ∀ {b:Addr} {o:Obj},s₁.heap.get? b=some o->H b=none->(zhj s₁.heap H).get? b=some o:=fun e n=>z50 e n
  have noA : ∀ {b:Addr} {o:Obj} {es:Array DictEntry} {ep:Nat},s₁.heap.get? b=some o->o.data=.dict es ep->H b=none:=fun {b o es ep} e d=>by
   cases q : H b with
   | none=>rfl
   | some u =>
    have e' : b=a:=hA b (by rw [q]; simp);subst e';rw [ha] at e; cases e;have d' : Data.seq vs.toArray _=Data.dict es ep:=d;cases d'
  have nsK : ∀ {b:Addr} {m:Str->Option Value},s₁.heap.Ns b m->(zhj s₁.heap H).Ns b m:=fun {b m} ⟨o,es,ep,e,d,r⟩=>⟨o,es,ep,base_of e (noA e d),d,r⟩
  have hKb : K.In (zhj s₁.heap H):=fun b o e=>base_of (KX b o e) (by
   cases q : H b with
   | none=>rfl
   | some u =>
    have e' : b=a:=hA b (by rw [q]; simp);subst e';rw [hK (by rw [q]; simp)] at e; cases e)
  have hM : Mod K mg (zhj s₁.heap H):=⟨hKb,nsK hns,⟨mb,nsK hb,hbb⟩,let ⟨mc,h1,h2⟩:=hlim; ⟨mc,nsK h1,h2⟩⟩;have e0 : ziq P w K mg (zhj s₁.heap H) callerA [] s₁ H:=⟨rfl,hM,fun b o e=>z8b e,Nat.le_of_eq (z51 _ _),trivial,fun b hb=>absurd (show b∈([] : List Addr) from hb) (by simp),hok,.of_eq hg⟩;refine codeAny_mono ((F _ hKb (nsK hns)).run callerA [] s₁ H ⟨[.ref a],[]⟩ [.ref a] [.ref a] _ _ hr e0 (hbind s₁ (.ref a)) (.cons rfl .nil) (hsp H hO hS)) fun r s' h=>?_
  cases r with
  | error e=>exact (hCX H e s' h).elim
  | ok fl =>
   cases fl with
   | next=>exact False.elim h
   | brk=>exact False.elim h
   | cont=>exact False.elim h
   | ret u =>
    obtain ⟨v,H',os,bare,un,hok',r',q⟩:=h;have q' : v=.bl true:=q;subst q';obtain rfl : u=Value.bool true:=r';refine ⟨rfl,OldK.of_keep fun b o e=>?_,os,bare⟩
    cases q : H b with
    | none=>exact un.keep b o e q (by intro z; exact absurd (show b∈([] : List Addr) from z) (by simp)) (by simp)
    | some u =>
     rcases hO b with z | ⟨ob,xs,z⟩
     ·rw [q] at z; cases z
     ·have z2:=un.frzs b ob _ z;obtain ⟨e1,_⟩:=hok b _ z;obtain ⟨e2,_⟩:=hok' b _ z2;rw [e] at e1; cases e1;exact e2
 cases hk : K.lookup a with
 | some o =>
  have e:=KX a o hk;rw [ha] at e;cases e
  refine core (fun _=>none) (fun _=>.inl rfl) (.inr ⟨_,vs.toArray,_,hk,rfl,rfl,rfl,by rw [List.size_toArray,lenV]; exact hl,by simpa using rv⟩) (fun b u z=>by have z' : (none:Option HO)=some u:=z; cases z') (fun b z=>absurd rfl z) fun z=>absurd rfl z
 | none =>
  refine core (fun b=>if b=a then some (.frz { cls:=.type "list",data:=.seq vs.toArray } (.lst (ns.map V.int))) else none) (fun b=>?_) (.inl (.inr ⟨{ cls:=.type "list",data:=.seq vs.toArray },if_pos rfl⟩)) (fun b u z=>?_) (fun b z=>?_) fun _=>hk
  ·by_cases hb : b=a
   ·exact .inr ⟨_,_,if_pos hb⟩
   ·exact .inl (if_neg hb)
  ·by_cases hb : b=a
   ·have z':=(if_pos hb).symm.trans z;cases z';subst hb;exact ⟨ha,by rw [List.length_map]; exact hl,vs,_,rv,ha⟩
   ·have z':=(if_neg hb).symm.trans z;cases z'
  ·by_cases hb : b=a
   ·exact hb
   ·exact absurd (if_neg hb) z
noncomputable abbrev KOf {K:PySem.W.Frag} {h:Heap} (_:K.In h) : PySem.W.Frag:=K
theorem yd9 {l:PySem.W.OpenLaw} {n k:Nat} {q:Program} {loose:List Str} {XP:(Str->Option Value)->Heap->Prop} {YP:World->Heap->Prop} {d:DefRec} {K:Params->PySem.W.Frag} {CX:World->CXT} {sp:World->Sp} {x:Str}
  (hn:l.most=some n) (hn2:n<=sizeLine) (hdf:d.params.defaults=[]) (hr:zbz k callerA)
  (hY:∀ (w:World) (h:Heap),YP w h->(K w.params).In h)
  (F:∀ (w:World) (mg:Str->Option Value) (fa:Addr) (h:Heap),(K w.params).In h->h.Ns mainGlobals mg->mg d.name=some (.ref fa) ->
   ∃ fd : FuncData,(∀ (s:Shared) (u:Value),BindsTo s fd ⟨[u],[]⟩ [(x,u)]) /\
    ∀ base : Heap,(K w.params).In base->base.Ns mainGlobals mg->zav l.prog w (K w.params) mg base (CX w) k fa fd [x] (sp w))
  (hsp:∀ (w:World) (H:Hp) (a:Addr) (ns:List Int),ns.length<=n->zox H->SqL (K w.params) H a (ns.map V.int)->sp w [.ref a] H (fun v _=>v=.bl true) fun _ _ _=>False)
  (hCX:∀ (w:World) (H:Hp) (s:Shared) (e:Value) (s':Shared),CX w [] H s (fun _ _ _=>False) e s'->False) :
  PySem.W.WalkO q loose XP YP l.row.toRowW d [] (fun f vs=>PySem.call f vs):=by
 refine Att.attach_call hn hdf fun w s₀ s₁ mg mb fa o pm cd doc a vs ns G Y ho hd hcd hmg hobj hints hlen hg=>?_;have KX:=hY w _ Y;obtain ⟨fd,hb,hF⟩:=F w mg fa _ KX G.T.g hmg;exact z60 KX G.T.g G.T.b G.T.builtins G.T.nolimit hg hobj hints (Nat.le_trans hlen hn2) hr hF hb (fun H hO hS=>hsp w H a ns hlen hO hS) fun H e s'=>hCX w H s₁ e s'
theorem walk_ofK {l:PySem.W.OpenLaw} {n k:Nat} {q:Program} {loose:List Str} {XP:(Str->Option Value)->Heap->Prop} {YP:World->Heap->Prop} {d:DefRec} {K:Params->PySem.W.Frag} {CX:CXT} {sp:PySem.W.Frag->Sp} {x:Str}
  (hn:l.most=some n) (hn2:n<=sizeLine) (hdf:d.params.defaults=[]) (hr:zbz k callerA)
  (hY:∀ (w:World) (h:Heap),YP w h->(K w.params).In h)
  (F:∀ (w:World) (mg:Str->Option Value) (fa:Addr) (h:Heap),(K w.params).In h->h.Ns mainGlobals mg->mg d.name=some (.ref fa) ->
   ∃ fd : FuncData,(∀ (s:Shared) (u:Value),BindsTo s fd ⟨[u],[]⟩ [(x,u)]) /\
    ∀ base : Heap,(K w.params).In base->base.Ns mainGlobals mg->zav l.prog w (K w.params) mg base CX k fa fd [x] (sp (K w.params)))
  (hsp:∀ (K:PySem.W.Frag) (H:Hp) (a:Addr) (ns:List Int),ns.length<=n->zox H->SqL K H a (ns.map V.int)->sp K [.ref a] H (fun v _=>v=.bl true) fun _ _ _=>False)
  (hCX:∀ (H:Hp) (s:Shared) (e:Value) (s':Shared),CX [] H s (fun _ _ _=>False) e s'->False) :
  PySem.W.WalkO q loose XP YP l.row.toRowW d [] (fun f vs=>PySem.call f vs) :=
 yd9 (K:=K) (CX:=fun _=>CX) (sp:=fun w=>sp (K w.params)) hn hn2 hdf hr hY F (fun w H a ns h1 h2 h3=>hsp (K w.params) H a ns h1 h2 h3) fun _ H s e s'=>hCX H s e s'
noncomputable def zc0 (s:Stmt) (j:Nat) : Stmt:=match s with
 | .ClassDef _ _ _ body _ _ _ _ _ _ _=>body.getD j (.Pass ⟨0,0,0,0⟩)
 | _=>.Pass ⟨0,0,0,0⟩
noncomputable def za7 (s:Stmt) : Arguments:=match s with
 | .FunctionDef _ a _ _ _ _ _ _ _ _=>a
 | _=>{ posonlyargs:=[],args:=[],vararg:=none,kwonlyargs:=[],kw_defaults:=[],kwarg:=none,defaults:=[] }
noncomputable def za2 (s:Stmt) : List Stmt:=match s with
 | .FunctionDef _ _ b _ _ _ _ _ _ _=>b
 | _=>[]
noncomputable def zai (s:Stmt) : Scope:=match s with
 | .FunctionDef _ _ _ _ _ _ sc _ _ _=>sc
 | _=>{ kind:=.function,names:=[],isGenerator:=false,isCoroutine:=false }
noncomputable abbrev CX0 : CXT:=fun _ _ _ _ _ _=>False
noncomputable abbrev E0 : XK:=fun _ _ _=>False
theorem zfy {X:Cx} : zhz CX0 X E0:=fun _ _ _ _ _ _ _ h=>h.elim
structure Fun (K:PySem.W.Frag) (x qual:Str) (st:Stmt) (f:Addr) (fd:FuncData) : Prop where
 ex : ∃ (oc:Value) (od:Option Addr) (kV doc pm:Value) (an:Option Addr) (cdv ct:Value) (osl:Array (Option Value)),
  fd=PySem.W.fnOf x qual (za7 st) (za2 st) (zai st) .none kV doc pm an cdv ct/\K.lookup f=some ⟨oc,od,.func fd,osl⟩/\PySem.W.codeIn K cdv qual=true
 kp : PySem.W.keepIn K (.ref f)=true
section
variable {P:Program} {w:World} {K:PySem.W.Frag} {mg:Str->Option Value} {base:Heap}
theorem Fun.ok {x qual:Str} {st:Stmt} {f:Addr} {fd:FuncData} {N ps:List Str} {k:Nat} {sp:Sp} (F:Fun K x qual st f fd) (S:za4 N ps (zai st)) (len:∀ vs H Q E,sp vs H Q E->vs.length=ps.length)
  (hbody:∀ (cdv:Value) (A:Around) (outer:List Env) (s:Shared) (H:Hp) (vs:List V) (Q:VK) (E:XK),zbz k (A.deeper (envOfC qual (zai st) s.heap.objs.size f cdv))->sp vs H Q E ->
   ∃ t,PSs (zgs CX0 P w K mg base N qual (zai st) f cdv A outer s H E).nox (za2 st) t/\t { nx:=fun _ H'=>Q .non H',rt:=Q } (start N vs) H) : zav P w K mg base CX0 (k + 1) f fd ps sp:=by
 obtain ⟨oc,od,kV,doc,pm,an,cdv,ct,osl,rfl,lk,hcd⟩:=F.ex;refine z5i lk hcd S len fun A outer s H vs Q E hr hsp=>?_;obtain ⟨t,h,q⟩:=hbody cdv A outer s H vs Q E hr hsp;exact ⟨t,h.nox,q⟩
theorem Fun.binds {x qual:Str} {st:Stmt} {f:Addr} {fd:FuncData} {ps:List Str} (F:Fun K x qual st f fd)
  (h:∀ (kV doc pm:Value) (an:Option Addr) (cdv ct:Value) (us:List Value),us.length=ps.length->bindArgs (PySem.W.fnOf x qual (za7 st) (za2 st) (zai st) .none kV doc pm an cdv ct) ⟨us,[]⟩=pure (ps.zip us)) : zay K fd ps []:=by
 obtain ⟨oc,od,kV,doc,pm,an,cdv,ct,osl,rfl,lk,hcd⟩:=F.ex;exact .all (h kV doc pm an cdv ct)
theorem zbd {x qual:Str} {st:Stmt} {f:Addr} {oc:Value} {od an:Option Addr} {osl:Array (Option Value)} {kV doc pm cdv ct:Value} (l:K.lookup f=some ⟨oc,od,.func (PySem.W.fnOf x qual (za7 st) (za2 st) (zai st) .none kV doc pm an cdv ct),osl⟩)
  (c:PySem.W.codeIn K cdv qual=true) (k:PySem.W.keepIn K (.ref f)=true) : Fun K x qual st f (PySem.W.fnOf x qual (za7 st) (za2 st) (zai st) .none kV doc pm an cdv ct):=⟨⟨oc,od,kV,doc,pm,an,cdv,ct,osl,rfl,l,c⟩,k⟩
end
theorem zr0 {n:Nat} (h:n<=1000) : n < sizeLine:=Nat.lt_of_le_of_lt h (by decide)
section
variable {X:Cx}
theorem pv (i:Nat) {x:Str} {pos:Pos} (hN:X.N[i]?=some x:=by rfl) (hv:Vis X.env.scope x:=by first | exact Or.inl rfl | exact Or.inr (Or.inl rfl) | exact Or.inr (Or.inr rfl)) (hd:(x==("__debug__" : Str))=false:=by decide)
  (hcd:(x==("__classdict__" : Str))=false:=by decide) : PE X (.Name x pos) (zc8 i):=zhr hN hv hd hcd
end
theorem zx3 {A B:Prop} (h:B) : if false=true then A else B:=by
 rw [if_neg Bool.false_ne_true];exact h
theorem ztj {A B:Prop} (h:A) : if true=true then A else B:=by
 rw [if_pos rfl];exact h
noncomputable def zas (H H':Hp) : Prop:=∀ b o,H b=some o->H' b=some o
theorem zas.refl (H:Hp) : zas H H:=fun _ _ h=>h
theorem zas.trans {H H1 H2:Hp} (a:zas H H1) (b:zas H1 H2) : zas H H2:=fun c o h=>b c o (a c o h)
theorem zas.free {H H':Hp} (e:zas H H') {l:Addr} (h:H' l=Option.none) : H l=Option.none:=by
 cases q : H l with
 | none=>rfl
 | some o =>
  rw [e l o q] at h;cases h
theorem zas.seq {K:PySem.W.Frag} {H H':Hp} {a:Addr} {xs:List V} (e:zas H H') (h:SqL K H a xs) : SqL K H' a xs:=by
 rcases h with (h | ⟨o,h⟩) | h
 ·exact .inl (.inl (e _ _ h))
 ·exact .inl (.inr ⟨o,e _ _ h⟩)
 ·exact .inr h
section
variable {κ : Type} [DecidableEq κ]
end
section
variable {P:Program} {w:World} {H:Hp} {h:Heap} {a:Addr}
end
section
variable {X:Cx} {pins:List (Addr×Obj)} {σ:St} {H:Hp} {s:Shared} {a:Addr} {y v:V} {u r:Value} {o:Option V} {A:Around} {E:Value->Shared->Prop}
end
section
variable {X:Cx} {pins:List (Addr×Obj)} {σ:St} {H:Hp} {s:Shared} {a:Addr} {kvs:List (Key×V)} {k:Key} {u:Value} {A:Around} {E:Value->Shared->Prop}
end
section
variable {X:Cx} {o i e value:Expr} {pos pos' tpos:Pos} {td ty tv:TE}
end
section
variable {X:Cx} {pos:Pos}
end
section
variable {X:Cx} {pins:List (Addr×Obj)} {σ:St} {H:Hp} {s:Shared} {a:Addr} {y d:V} {u r:Value} {o:Option V} {A:Around} {E:Value->Shared->Prop}
end
section
variable {X:Cx} {o e f:Expr} {apos cpos:Pos} {td ty tx:TE}
end
section
variable {X:Cx} {pins:List (Addr×Obj)} {σ:St} {H:Hp} {s:Shared} {a:Addr} {kvs:List (Key×V)} {A:Around} {E:Value->Shared->Prop}
end
section
variable {X:Cx} {pins:List (Addr×Obj)} {σ:St} {H:Hp} {s:Shared} {a:Addr} {y:V} {u:Value} {A:Around} {E:Value->Shared->Prop}
end
section
variable {κ : Type} [DecidableEq κ]
end
end L2
set_option maxHeartbeats 4000000
namespace L2
open PySem
theorem zs7 {env:Env} (f:(Str×NameKind)->List (Str×Addr)->Sem (ForInStep (List (Str×Addr))))
  (h1:∀ n k r,k≠NameKind.free->f (n,k) r=pure (.yield r))
  (h2:∀ n r c,env.cells.lookup n=some c->f (n,.free) r=pure (.yield ((n,c)::r))) :
  ∀ (l:List (Str×NameKind)) (acc:List (Str×Addr)),(∀ x∈l,x.2=.free->∃ c,env.cells.lookup x.1=some c) ->
   (∀ x c,acc.lookup x=some c->env.cells.lookup x=some c) ->
   ∃ cl,forIn l acc f=(pure cl:Sem _)/\(∀ x c,cl.lookup x=some c->env.cells.lookup x=some c) /\
    (∀ x,((∃ c,acc.lookup x=some c)\/(x,NameKind.free)∈l)->∃ c,cl.lookup x=some c)
 | [],acc,_,ha=>⟨acc,rfl,ha,fun x hx=>hx.elim id (fun z=>nomatch z)⟩
 | (n,k)::l,acc,hl,ha=>by
  have hl' : ∀ x∈l,x.2=.free->∃ c,env.cells.lookup x.1=some c:=fun x hx=>hl x (List.mem_cons_of_mem _ hx)
  by_cases hk : k=.free
  ·subst hk;obtain ⟨c,hc⟩:=hl (n,.free) List.mem_cons_self rfl;have hc' : env.cells.lookup n=some c:=hc
   have ha' : ∀ x c',((n,c)::acc).lookup x=some c'->env.cells.lookup x=some c':=fun x c' hx=>by
    rw [List.lookup_cons] at hx
    cases e : x==n with
    | true =>
     rw [e] at hx;cases hx
     rw [eq_of_beq e]; exact hc'
    | false =>
     rw [e] at hx;exact ha x c' hx
   obtain ⟨cl,e,a1,a2⟩:=zs7 f h1 h2 l ((n,c)::acc) hl' ha';refine ⟨cl,?_,a1,fun x hx=>a2 x ?_⟩
   ·rw [List.forIn_cons,h2 n acc c hc',pure_bind];exact e
   ·have here : ∀ c',acc.lookup x=some c'->∃ c'',((n,c)::acc).lookup x=some c'':=fun c' z=>by
     rw [List.lookup_cons]
     cases e : x==n with
     | true=>exact ⟨c,rfl⟩
     | false=>exact ⟨c',z⟩
    rcases hx with ⟨c',z⟩ | hx
    ·exact .inl (here c' z)
    ·rcases List.mem_cons.mp hx with z | z
     ·cases z;refine .inl ⟨c,?_⟩;rw [List.lookup_cons,beq_self_eq_true]
     ·exact .inr z
  ·obtain ⟨cl,e,a1,a2⟩:=zs7 f h1 h2 l acc hl' ha;refine ⟨cl,?_,a1,fun x hx=>a2 x ?_⟩
   ·rw [List.forIn_cons,h1 n k acc hk,pure_bind];exact e
   ·rcases hx with hx | hx
    ·exact .inl hx
    ·rcases List.mem_cons.mp hx with z | z
     ·cases z; exact absurd rfl hk
     ·exact .inr z
theorem zwd {scope:Scope} {env:Env} (h:∀ x∈scope.names,x.2=.free->∃ c,env.cells.lookup x.1=some c) :
  ∃ cl,closureFor scope env=pure cl/\(∀ x c,cl.lookup x=some c->env.cells.lookup x=some c)/\(∀ x,(x,NameKind.free)∈scope.names->∃ c,cl.lookup x=some c):=by
 unfold closureFor
 obtain ⟨cl,e,a1,a2⟩:=zs7 (env:=env) (fun (x:Str×NameKind) (r:List (Str×Addr))=>(match x with
   | (name,kind)=>if (kind==NameKind.free)=true then (do let a <- cellOf env name; pure (ForInStep.yield ((name,a)::r))) else (pure (ForInStep.yield r) : Sem _)))
  (fun n k r hk=>by
   have : (k==NameKind.free)=false:=by simpa using hk
   simp only [this,Bool.false_eq_true,if_false])
  (fun n r c hc=>by
   simp only [beq_self_eq_true,if_true,cellOf,hc,pure_bind])
  scope.names [] h (fun x c z=>by cases z)
 refine ⟨cl,?_,a1,fun x hx=>a2 x (.inr hx)⟩;refine (congrArg (fun (t:Sem (List (Str×Addr)))=>t >>= pure) ?_).trans ((congrArg (fun (t:Sem (List (Str×Addr)))=>t >>= pure) e).trans (pure_bind _ _));rfl
section
variable {prog:Program} {w:World} {A:Around} {R:Result->Shared->Prop} {s:Shared}
noncomputable abbrev E00 : Value->Shared->Prop:=fun _ _=>False
theorem z33 {elt target iter:Expr} {ifs:List Expr} {scope:Scope} {pos:Pos} {it acc:Value} {env:Env} (I:Nat->Shared->Prop)
  (turn:∀ n s,I n s->wpAny (model prog w) A (pyNext it) (fun r s₁=>match r with
   | none=>R (.ok .next) s₁
   | some v=>wpAny (model prog w) A (letOwnedTupleGo target it v) (fun _ s₁'=>wpAny (model prog w) A (assign target env v) (fun _ s₂ =>
     wpAny (model prog w) A (forIn ifs true fun c r=>if r=true then do let ok <- isTrue c env (eval c env); pure (ForInStep.yield ok) else pure (ForInStep.yield r)) (fun ok s₃ =>
      if ok=true then wpAny (model prog w) A (eval elt env) (fun x s₄ =>
       wpAny (model prog w) A (call (.builtin "list.append") [acc,x]) (fun _ s₅=>∃ m,m < n/\I m s₅) E00 s₄) E00 s₃
      else ∃ m,m < n/\I m s₃) E00 s₂) E00 s₁') E00 s₁) E00 s)
  (n:Nat) (h:I n s) :
  codeAny (model prog w) A (.compLoop (.ListComp elt [⟨target,iter,ifs,0⟩] scope pos) 0 it acc env) R s:=by
 refine codeAny_loop rfl I (fun n s hI=>?_) n h;show wpAny _ A ((compTurn (.ListComp elt [⟨target,iter,ifs,0⟩] scope pos) 0 it acc env).onRaise (fun x=>do noteFrame x env; theTreesLotGoes x)) _ _ s;refine wpAny_noted ?_;rw [compTurn_list];refine wpAny_mono (E:=E00) ?_ (fun _ _ z=>z) (fun _ _ z=>z.elim);refine wpAny_bind (wpAny_standAt (wpAny_bind (wpAny_mono (turn n s hI) (fun r s₁ h₁=>?_) fun _ _ h'=>h')))
 cases r with
 | none=>exact wpAny_pure h₁
 | some v =>
  refine wpAny_bind (wpAny_mono h₁ (fun _ s₁' h₁'=>?_) fun _ _ h'=>h');refine wpAny_bind (wpAny_mono h₁' (fun _ s₂ h₂=>wpAny_bind (wpAny_mono h₂ (fun ok s₃ h₃=>?_) fun _ _ h'=>h')) fun _ _ h'=>h')
  cases ok with
  | false=>exact wpAny_pure ⟨rfl,h₃⟩
  | true =>
   exact wpAny_bind (wpAny_bind (wpAny_mono h₃ (fun x s₄ h₄=>wpAny_bind (wpAny_mono h₄ (fun _ s₅ h₅=>wpAny_pure (wpAny_pure ⟨rfl,h₅⟩)) fun _ _ h'=>h')) fun _ _ h'=>h'))
end
open PySem.Spec PyProof.Rows
noncomputable abbrev Cx.comp (X:Cx) (scope:Scope) (Nc:List Str) (cl:List (Str×Addr)) (C:Addr) (ex:List Addr) (s₂:Shared) (H₂:Hp) : Cx :=
 { X with N:=Nc,s₀:=s₂,H₀:=H₂,env:=compEnvC scope cl C X.env,outer:=X.stack,ex:=ex,fn:=fun _=>false,pn:=[],xe:=E00 }
theorem zut {env:Env} : ∀ {names:List (Str×NameKind)} {x:Str},names.lookup x=some .free ->
  (names.map fun (n,k)=>if (k==NameKind.free && env.scope.kind==.function && env.kindOf n==some .cell) then (n,NameKind.cell) else (n,k)).lookup x=some .cell \/
  (names.map fun (n,k)=>if (k==NameKind.free && env.scope.kind==.function && env.kindOf n==some .cell) then (n,NameKind.cell) else (n,k)).lookup x=some .free
 | [],_,h=>by simp at h
 | (n,k)::r,x,h=>by
  have ih:=@zut env r x;rw [List.map_cons];show List.lookup x ((if (k==NameKind.free && env.scope.kind==.function && env.kindOf n==some .cell)=true then (n,NameKind.cell) else (n,k))::_)=_\/List.lookup x ((if (k==NameKind.free && env.scope.kind==.function && env.kindOf n==some .cell)=true then (n,NameKind.cell) else (n,k))::_)=_;rw [List.lookup_cons] at h
  cases hx : x==n with
  | true =>
   rw [hx] at h;cases h;split
   ·left; rw [List.lookup_cons,hx]
   ·right; rw [List.lookup_cons,hx]
  | false =>
   rw [hx] at h;split
   ·rw [List.lookup_cons,hx]; exact ih h
   ·rw [List.lookup_cons,hx]; exact ih h
theorem zua {env:Env} {k':NameKind} (hk':k'=.cell\/k'=.free) : ∀ {names:List (Str×NameKind)} {x:Str},
  (names.map fun (n,k)=>if (k==NameKind.free && env.scope.kind==.function && env.kindOf n==some .cell) then (n,NameKind.cell) else (n,k)).lookup x=some k' ->
  (x,NameKind.free)∈names\/(x,NameKind.cell)∈names
 | [],_,h=>by simp at h
 | (n,k)::r,x,h=>by
  have ih:=@zua env k' hk' r x;rw [List.map_cons] at h;have h' : List.lookup x ((if (k==NameKind.free && env.scope.kind==.function && env.kindOf n==some .cell)=true then (n,NameKind.cell) else (n,k))::(r.map fun (n,k)=>if (k==NameKind.free && env.scope.kind==.function && env.kindOf n==some .cell) then (n,NameKind.cell) else (n,k)))=some k':=h
  cases hx : x==n with
  | true =>
   have e:=eq_of_beq hx;subst e;split at h'
   ·rename_i hc
    have hk : k=.free:=by
     rw [Bool.and_eq_true,Bool.and_eq_true] at hc;exact eq_of_beq hc.1.1
    subst hk;exact .inl List.mem_cons_self
   ·rw [List.lookup_cons,hx] at h';have e : k=k':=Option.some.inj h';subst e
    rcases hk' with z | z
    ·subst z; exact .inr List.mem_cons_self
    ·subst z; exact .inl List.mem_cons_self
  | false =>
   have h2 : (r.map fun (n,k)=>if (k==NameKind.free && env.scope.kind==.function && env.kindOf n==some .cell) then (n,NameKind.cell) else (n,k)).lookup x=some k':=by
    split at h' <;> (rw [List.lookup_cons,hx] at h'; exact h')
   rcases ih h2 with z | z
   ·exact .inl (List.mem_cons_of_mem _ z)
   ·exact .inr (List.mem_cons_of_mem _ z)
noncomputable def ziw (scope:Scope) (outer:List (Str×NameKind)) (N Nc:List Str) (k:Nat) (js:List Nat) : Bool :=
 scope.names.all (fun x=>(x.2 != .free || outer.lookup x.1==some .cell || outer.lookup x.1==some .free) && x.2 != .cell && (x.2 != .local || scope.names.lookup x.1==some .local)) &&
 scope.kind==.function && Nc.length==k + js.length &&
 (List.range js.length).all (fun i=>match Nc[k + i]?,js[i]? with
  | some x,some j=>N[j]?==some x && scope.names.lookup x==some .free
  | _,_=>false)
structure zm0 (scope:Scope) (outer:List (Str×NameKind)) (N Nc:List Str) (k:Nat) (js:List Nat) : Prop where
 free : ∀ x∈scope.names,x.2=.free->outer.lookup x.1=some .cell\/outer.lookup x.1=some .free
 nocell : ∀ x∈scope.names,x.2≠.cell
 loc : ∀ x∈scope.names,x.2=.local->scope.names.lookup x.1=some .local
 kind : scope.kind=.function
 len : Nc.length=k + js.length
 at' : ∀ i j,js[i]?=some j->∃ x,Nc[k + i]?=some x/\N[j]?=some x/\scope.names.lookup x=some .free
theorem zm0.of {scope:Scope} {outer:List (Str×NameKind)} {N Nc:List Str} {k:Nat} {js:List Nat} (h:ziw scope outer N Nc k js=true) : zm0 scope outer N Nc k js:=by
 unfold ziw at h;rw [Bool.and_eq_true,Bool.and_eq_true,Bool.and_eq_true] at h;obtain ⟨⟨⟨h1,h2⟩,h3⟩,h4⟩:=h;rw [List.all_eq_true] at h1 h4;refine ⟨fun x hx e=>?_,fun x hx e=>?_,fun x hx e=>?_,eq_of_beq h2,eq_of_beq h3,fun i j e=>?_⟩
 ·have:=h1 x hx;simp only [Bool.and_eq_true,Bool.or_eq_true,bne_iff_ne,beq_iff_eq] at this
  rcases this.1.1 with (z | z) | z
  ·exact absurd e z
  ·exact .inl z
  ·exact .inr z
 ·have:=h1 x hx;simp only [Bool.and_eq_true,Bool.or_eq_true,bne_iff_ne,beq_iff_eq] at this;exact this.1.2 e
 ·have:=h1 x hx;simp only [Bool.and_eq_true,Bool.or_eq_true,bne_iff_ne,beq_iff_eq] at this
  rcases this.2 with z | z
  ·exact absurd e z
  ·exact z
 ·have hi : i < js.length:=(List.getElem?_eq_some_iff.mp e).1;have:=h4 i (List.mem_range.mpr hi);rw [e] at this
  cases q : Nc[k + i]? with
  | none=>rw [q] at this; cases this
  | some x =>
   rw [q] at this;simp only [Bool.and_eq_true,beq_iff_eq] at this;exact ⟨x,rfl,this.1,this.2⟩
noncomputable def zfp (k:Nat) (js:List Nat) (σ:St) : St:=List.replicate k none++js.map fun j=>(σ[j]?).getD none
noncomputable def PTs (X:Cx) (ifs:List Expr) (t:TT) : Prop :=
 ∀ (pins:List (Addr×Obj)) (s:Shared) (σ:St) (H:Hp) (Q:Bool->Hp->Prop),Inv X pins σ H s->t σ H Q ->
  wpAny (model X.prog X.w) X.A (forIn ifs true fun c r=>if r=true then do let ok <- isTrue c X.env (eval c X.env); pure (ForInStep.yield ok) else pure (ForInStep.yield r)) (TP X pins σ Q) X.xe s
noncomputable def yds : TT:=fun _ H Q=>Q true H
theorem yaw {X:Cx} : PTs X [] yds:=fun _ _ _ H _ I h=>wpAny_tests_nil ⟨H,I,h⟩
theorem yax {X:Cx} {c:Expr} {t:TT} (h:PT X c t) : PTs X [c] t:=fun pins s σ H Q I q=>wpAny_tests_one (h pins s σ H Q I q)
noncomputable def zwf (J:It) (g:TG) (tt:TT) (te:TE) (σ0:St) (H1:Hp) (Q:VK) : Prop :=
 ∃ W : Nat->Nat->List V->St->Hp->Prop,(∃ m,W 0 m [] σ0 H1)/\∀ i m ys σ' H',W i m ys σ' H' ->
  (J.stop i H'/\ys.length<=sizeLine/\∀ D,H1 D=none->H' D=none->Q (.ref D) (upd H' D (.lst ys))) \/
  (J.go i H'/\ys.length<=sizeLine/\∃ N : List V->St->Hp->Prop,(∀ ys' σ2 H2,N ys' σ2 H2->∃ m',m' < m/\W (i + 1) m' ys' σ2 H2) /\
   ∀ x H2,J.yld i H' x H2->g x σ' H2 fun σ3 H3=>tt σ3 H3 fun b H4=>if b=true then te σ3 H4 fun y H5=>N (ys++[y]) σ3 H5 else N ys σ3 H4)
noncomputable def zr1 (k:Nat) (js:List Nat) (wi:TI) (g:TG) (tt:TT) (te:TE) : TE:=fun σ H Q=>wi σ H fun J H1=>zwf J g tt te (zfp k js σ) H1 Q
section
variable {X:Cx} {elt tg iter:Expr} {ifs:List Expr} {scope:Scope} {pos:Pos} {Nc:List Str} {k:Nat} {js:List Nat} {wi:TI} {g:TG} {tt:TT} {te:TE}
noncomputable abbrev zga (us:List Value) (n:Nat) : Obj:={ cls:=.type "list",data:=.seq us.toArray n }
theorem zwg {pins:List (Addr×Obj)} {σ:St} {H2:Hp} {s2:Shared} {it:Addr} {fp:List Addr} {tn:Nat->Heap->Prop} {J:It} {cl:List (Str×Addr)} {Q:VK} {RR:Value->Addr->Result->Shared->Prop} {E:Value->Shared->Prop}
  (hc:X.calm=true) (ck:zm0 scope X.env.scope.names X.N Nc k js)
  (hg:∀ cl C ex s₂ H₂,PG (X.comp scope Nc cl C ex s₂ H₂) tg g) (ht:∀ cl C ex s₂ H₂,PTs (X.comp scope Nc cl C ex s₂ H₂) ifs tt) (he:∀ cl C ex s₂ H₂,PE (X.comp scope Nc cl C ex s₂ H₂) elt te)
  (a1:∀ x c,cl.lookup x=some c->X.env.cells.lookup x=some c) (a2:∀ x,(x,NameKind.free)∈scope.names->∃ c,cl.lookup x=some c)
  (I2:Inv X pins σ H2 s2) (T:ziu X.prog X.w X.K tg J fp it tn) (st2:tn 0 s2.heap) (f2:∀ b∈fp,zfl X pins H2 b) (hW:zwf J g tt te (zfp k js σ) H2 Q)
  (hRR:∀ (D C:Addr) (s':Shared) (H':Hp),Inv X pins σ H' s'->(∃ m,s'.heap.Ns C m)->zfl X pins H' C->Q (.ref D) H'->RR (.ref D) C (.ok .next) s') :
  wpAny (model X.prog X.w) X.A (newList []) (fun acc s₃=>wpAny (model X.prog X.w) X.A (newFunctionEnv scope X.env.globals cl [] X.env.qual none .none (some X.env)) (fun cenv s₄ =>
   codeAny (model X.prog X.w) X.A (.compStart (.ListComp elt [⟨tg,iter,ifs,0⟩] scope pos) 0 (.ref it) acc { cenv with scope:=relabel scope X.env }) (RR acc cenv.locals) s₄) E s₃) E s2:=by
 obtain ⟨W,⟨m0,w0⟩,turn⟩:=hW;refine wpAny_newObj_type (wpAny_newFunctionEnv ck.nocell (by intro y hy; simp at hy) (fun h₁ hns₁ hsb₁=>?_) ck.kind);dsimp only at hns₁ hsb₁ ⊢;generalize hP : s2.heap.push { cls:=.type "list",dict:=none,data:=.seq ([] : List Value).toArray }=P at hns₁ hsb₁ ⊢;generalize hD : s2.heap.objs.size=D at hP hns₁ hsb₁ ⊢;have hCs : P.objs.size=D + 1:=by rw [<- hP,Heap.size_push,hD]
 generalize hC : P.objs.size=C at hCs hns₁ hsb₁ ⊢;have hDC' : D < C:=by rw [hCs]; exact Nat.lt_succ_self _
 have hDC : D≠C:=Nat.ne_of_lt hDC';have below : ∀ b o,s2.heap.get? b=some o->b < D:=fun b o e=>hD ▸ Heap.lt_size e
 have old : ∀ b o,s2.heap.get? b=some o->h₁.get? b=some o:=fun b o e=>by
  have hb:=below b o e;exact hsb₁.extBut b o (Nat.ne_of_lt (Nat.lt_trans hb hDC')) (Heap.get?_push_of_some _ (hP ▸ Heap.get?_push_of_some _ e))
 have hDo : h₁.get? D=some (zga [] 0):=hsb₁.extBut _ _ hDC (Heap.get?_push_of_some _ (by rw [<- hP,<- hD]; exact Heap.get?_push_size _ rfl));have Hn : ∀ b,D<=b->H2 b=none:=fun b hb=>I2.hok.fresh (by omega);have fpo : ∀ b∈fp,b < D:=fun b hb=>by obtain ⟨o,e,_⟩:=T.obj 0 _ st2 b hb; exact below b o e
 have clo : ∀ x c,cl.lookup x=some c->c < D:=fun x c e=>by
  obtain ⟨v,o,ho,_⟩:=I2.cell x c (a1 x c e);exact below c o ho
 have stko : ∀ b∈frs X.stack,b < D:=fun b hb=>by
  obtain ⟨_,o,ho,_⟩:=I2.stack.mem hb;exact below b o ho
 let Y : Cx:=X.comp scope Nc cl C fp s2 H2
 have yk : Y.Ok:=by
  refine ⟨I2.ok.mod,ck.kind,I2.ok.glob,I2.ok.blt,?_,?_,?_,?_,I2.ok.hd,I2.ok.frames,.inl rfl,?_,I2.bs,?_,?_,?_,I2.stack,I2.stkFree⟩
  ·show s2.heap.objs.size<=C;omega
  ·exact fun x y c h1 h2=>I2.ok.inj x y c (a1 x c h1) (a1 y c h2)
  ·intro x hx
   have : (x,NameKind.free)∈scope.names\/(x,NameKind.cell)∈scope.names:=by
    rcases hx with hx | hx
    ·exact zua (.inl rfl) hx
    ·exact zua (.inr rfl) hx
   rcases this with z | z
   ·exact a2 x z
   ·exact absurd rfl (ck.nocell _ z)
  ·exact fun x c z=>nomatch z
  ·intro b hb;refine ⟨?_,fun x c e=>?_⟩
   ·exact Nat.ne_of_lt (Nat.lt_trans (fpo b hb) hDC')
   ·exact (f2 b hb).2.2.2.2.1 x c (a1 x c e)
  ·exact Nat.le_trans I2.ok.bsz I2.sz
  ·intro b o e hb
   rcases (f2 b hb).2.2.2.1 with z | z
   ·exact I2.ok.noex b o e z
   ·exact absurd (Nat.lt_of_lt_of_le (Heap.lt_size e) (Nat.le_trans I2.ok.bsz z)) (Nat.lt_irrefl _)
  ·intro b hb z
   rcases List.mem_cons.mp (I2.stkSub b z) with e | e
   ·exact (f2 b hb).2.1 e
   ·exact (f2 b hb).2.2.1 e
 have I4 : Inv Y [(D,zga [] 0)] (zfp k js σ) H2 { s2 with heap:=h₁,toks:=s2.toks + ([] : List (Str×Value)).length }:=by
  refine ⟨yk,rfl,I2.bare,Un.kept old,⟨_,hns₁,fun i x v e1 e2 e3=>?_⟩,fun x c e=>?_,Hn C (by omega),fun x c e=>I2.freeC x c (a1 x c e),fun p hp=>?_,I2.hok.kept old,?_⟩
  ·have e1 : Nc[i]?=some x:=e1;unfold zfp at e2
   have hik : k<=i:=by
    rcases Nat.lt_or_ge i k with z | z
    ·rw [List.getElem?_append_left (by simpa using z),List.getElem?_replicate] at e2;simp [z] at e2
    ·exact z
   rw [List.getElem?_append_right (by simpa using hik),List.getElem?_map] at e2;simp only [List.length_replicate] at e2
   cases q : js[i - k]? with
   | none=>rw [q] at e2; cases e2
   | some j =>
    rw [q] at e2;obtain ⟨x',q1,q2,q3⟩:=ck.at' _ _ q;rw [show k + (i - k)=i by omega,e1] at q1;cases q1;have e2 : (σ[j]?).getD none=some v:=Option.some.inj e2
    have e2' : σ[j]?=some (some v):=by
     cases z : σ[j]? with
     | none=>rw [z] at e2; cases e2
     | some y=>rw [z] at e2; rw [show y=some v from e2]
    have hmem : (x,NameKind.free)∈scope.names:=by
     have : ∀ l : List (Str×NameKind),l.lookup x=some .free->(x,NameKind.free)∈l:=by
      intro l
      induction l with
      | nil=>intro z; cases z
      | cons a l ih =>
       intro z;obtain ⟨n,kk⟩:=a;rw [List.lookup_cons] at z
       cases hb : x==n with
       | true =>
        rw [hb] at z;cases z
        rw [eq_of_beq hb]; exact List.mem_cons_self
       | false=>rw [hb] at z; exact List.mem_cons_of_mem _ (ih z)
     exact this _ q3
    have hout : X.env.kindOf x=some .cell\/X.env.kindOf x=some .free:=ck.free _ hmem rfl;obtain ⟨m,hn,hl⟩:=I2.loc
    have vis : Vis X.env.scope x:=by
     rcases hout with z | z
     ·exact .inr (.inl z)
     ·exact .inr (.inr z)
    obtain ⟨u,r,l⟩:=hl j x v q2 e2' vis;refine ⟨u,r,.inr ⟨zut q3,?_⟩⟩
    rcases l with ⟨z,_⟩ | ⟨_,c,hcl,hcell⟩
    ·rcases hout with y | y <;> (rw [y] at z; cases z)
    ·obtain ⟨c',hc'⟩:=a2 x hmem;have:=a1 x c' hc';rw [hcl] at this;cases this;exact ⟨c,hc',hcell.keeps old⟩
  ·obtain ⟨v,z⟩:=I2.cell x c (a1 x c e);exact ⟨v,z.keeps old⟩
  ·have hp : p∈[(D,zga [] 0)]:=(List.mem_append.mp hp).elim (fun z=>nomatch (show p∈([] : List (Addr×Obj)) from z)) id;have hp : p=(D,zga [] 0):=List.mem_singleton.mp hp;subst hp;refine ⟨hDo,Hn D (Nat.le_refl _),hDC,fun z=>?_,fun v z=>by cases z⟩;exact absurd (stko D z) (Nat.lt_irrefl _)
  ·show (zfp k js σ).length=Nc.length;rw [ck.len];simp [zfp]
 have st1 : tn 0 h₁:=T.keep 0 _ _ st2 fun b _ o e=>old b o e
 have fpY : ∀ {H':Hp} {p:List (Addr×Obj)},(∀ q∈p,q.1=D)->(∀ b∈fp,H' b=none)->∀ b∈fp,zfl Y p H' b:=fun {H' p} hp hn b hb=>by
  refine ⟨hn b hb,(yk.exf b hb).1,yk.exfs b hb,.inl hb,fun x c e=>(yk.exf b hb).2 x c e,fun q hq=>?_⟩;have hq : q∈p:=(List.mem_append.mp hq).elim (fun z=>nomatch (show q∈([] : List (Addr×Obj)) from z)) id;rw [hp q hq];exact Nat.ne_of_gt (fpo b hb)
 have loop : codeAny (model X.prog X.w) X.A (.compLoop (.ListComp elt [⟨tg,iter,ifs,0⟩] scope pos) 0 (.ref it) (.ref D) (compEnvC scope cl C X.env)) (RR (.ref D) C) { s2 with heap:=h₁,toks:=s2.toks + ([] : List (Str×Value)).length }:=by
  refine z33 (fun n s'=>∃ i ys us nn σ' H',Inv Y [(D,zga us nn)] σ' H' s'/\tn i s'.heap/\(∀ b∈fp,H' b=none)/\zaz ys us/\W i n ys σ' H') ?_ m0
   ⟨0,[],[],0,zfp k js σ,H2,I4,st1,fun b hb=>(f2 b hb).1,.nil,w0⟩
  rintro n s3 ⟨i,ys,us,nn,σ3,H3,I3,st3,fr3,rv,w3⟩
  have one : ∀ q∈[(D,zga us nn)],q.1=D:=fun q hq=>by
   have : q=(D,zga us nn):=by simpa using hq
   rw [this]
  rcases turn i n ys σ3 H3 w3 with ⟨stop,hz,qn⟩ | ⟨go,hz,N,hN,step⟩
  ·refine thn (T.done Y rfl rfl rfl hc i _ s3 σ3 H3 E00 I3 (fpY one fr3) st3 stop) fun r s4 ⟨hr,I5⟩=>?_;subst hr;show RR (.ref D) C (.ok .next) s4;obtain ⟨pD,nD,_,_,_⟩:=I5.pin (D,zga us nn) (by simp);have bs : Un (frs X.stack) fp H2 H3 s2.heap s4.heap:=I5.base;have h2D : ∀ b o,H2 b=some o->b≠D:=fun b o e z=>by rw [z,Hn D (Nat.le_refl _)] at e; cases e
   have I6 : Inv X pins σ (upd H3 D (.lst ys)) s4:=by
    refine I2.call' (ch:=fp) I5.os ⟨bs.keep,bs.slot,fun b o e n hx=>?_,bs.there,fun b xs e=>?_,fun b o u e=>?_,fun b ps e=>?_⟩ (fun b u e=>?_) I5.bare fun b hb=>?_
    ·rw [zbi (Nat.ne_of_lt (below b o e))];exact bs.free b o e n hx
    ·rw [zbi (h2D b _ e)]; exact bs.tups b xs e
    ·rw [zbi (h2D b _ e)]; exact bs.frzs b o u e
    ·rw [zbi (h2D b _ e)]; exact bs.tbls b ps e
    ·by_cases hb : b=D
     ·subst hb;rw [zcd] at e;cases e;exact ⟨hz,us,nn,rv,pD⟩
     ·rw [zbi hb] at e;exact (I5.hok b u e).stay (fun c v _ q=>q) (fun c q=>by rw [zbi (zet q nD)]; exact q) fun c xs q=>by rw [zbi (zet q nD)]; exact q
    ·obtain ⟨_,f1,_,f3,f4,f5⟩:=f2 b hb;exact ⟨f3,f1,f4,f5⟩
   obtain ⟨m,hn,_⟩:=I5.loc;refine hRR D C s4 _ I6 ⟨m,hn⟩ (I2.fpOk (by omega) ?_) (qn D (Hn D (Nat.le_refl _)) nD);rw [zbi hDC.symm];exact I5.free
  ·refine thn (T.item Y rfl rfl rfl hc i _ s3 σ3 H3 E00 I3 (fpY one fr3) st3 go) fun r s4 ⟨u,hr,h4⟩=>?_;subst hr;refine thn h4 fun _ s5 ⟨x,H5,I5,r5,y5,st5,fr5⟩=>?_;have I5':=I5.pinned (fpY one fr5) (T.obj _ _ st5);refine thn (hg cl C fp s2 H2 _ s5 σ3 H5 x u _ I5' r5 (step x H5 y5)) fun _ s6 ⟨σ6,H6,I6,q6⟩=>?_;refine thn (ht cl C fp s2 H2 _ s6 σ6 H6 _ I6 q6) fun b s7 ⟨H7,I7,q7⟩=>?_
   have kp : ∀ {H8:Hp} {s8:Shared},Inv Y ([(D,zga us nn)]++zod fp s5.heap) σ6 H8 s8->tn (i + 1) s8.heap/\(∀ b∈fp,H8 b=none):=fun {H8 s8} I8=>by
    refine ⟨T.keep _ _ _ st5 fun b hb o e=>(I8.pin (b,o) (List.mem_append_right _ (List.mem_append_right _ (zn1 hb e)))).1,fun b hb=>?_⟩;obtain ⟨o,e,d⟩:=T.obj _ _ st5 b hb;exact (I8.pin (b,o) (List.mem_append_right _ (List.mem_append_right _ (zn1 hb e)))).2.1
   cases b with
   | false =>
    rw [if_neg Bool.false_ne_true] at q7 ⊢;obtain ⟨m',hm,w7⟩:=hN _ _ _ q7;obtain ⟨st7,fr7⟩:=kp I7
    exact ⟨m',hm,i + 1,ys,us,nn,σ6,H7,I7.unpinned,st7,fr7,rv,w7⟩
   | true =>
    rw [if_pos rfl] at q7 ⊢;refine thn (he cl C fp s2 H2 _ s7 σ6 H7 _ I7 q7) fun uy s8 ⟨y,H8,I8,r8,q8⟩=>?_;obtain ⟨m',hm,w8⟩:=hN _ _ _ q8;obtain ⟨st8,fr8⟩:=kp I8;obtain ⟨pD,nD,pC,pF,_⟩:=I8.pin (D,zga us nn) (by simp);have hl:=rv.length
    refine wpAny_list_append_plain (items:=us.toArray) ⟨nn,pD⟩ (fun h' hl' sb=>?_) (by simp only [List.size_toArray] <;> omega)
    obtain ⟨n',e'⟩:=hl';have I8n : Inv Y [] σ6 H8 s8:=I8.pins_of (fun _ z=>nomatch z)
    have I9 : Inv Y [] σ6 H8 { s8 with heap:=h' }:=I8n.turned (t':=s8.toks) (it:=D) (fun b o hb e=>(sb.2 b hb).trans e) nD pC (.inr (by show s2.heap.objs.size<=D; omega)) (fun x c e=>Nat.ne_of_lt (clo x c e)) (fun p hp=>nomatch hp)
    refine ⟨m',hm,i + 1,ys++[y],us++[uy],n',σ6,H8,I9.pins_of (fun p hp=>?_),?_,fr8,rv.append (.cons r8 .nil),w8⟩
    ·have hp : p=(D,zga (us++[uy]) n'):=by simpa using hp
     subst hp;refine ⟨?_,nD,pC,pF,fun v z=>by cases z⟩;have e2 : h'.get? D=some { cls:=.type "list",data:=.seq (us.toArray.push uy) n' }:=e';show h'.get? D=some { cls:=.type "list",data:=.seq (us++[uy]).toArray n' };rw [e2];simp
    ·exact T.keep _ _ _ st8 fun b hb o e=>(sb.2 b (Nat.ne_of_lt (fpo b hb))).trans e
 exact codeAny_compStart_list loop (T.self X.A 0 _ _ _ st1 loop)
theorem zz6 (k:Nat) (js:List Nat) (Nc:List Str) (hc:X.calm=true) (hi:PI X tg iter wi)
  (hg:∀ cl C ex s₂ H₂,PG (X.comp scope Nc cl C ex s₂ H₂) tg g) (ht:∀ cl C ex s₂ H₂,PTs (X.comp scope Nc cl C ex s₂ H₂) ifs tt) (he:∀ cl C ex s₂ H₂,PE (X.comp scope Nc cl C ex s₂ H₂) elt te)
  (ck:ziw scope X.env.scope.names X.N Nc k js=true:=by rfl) (hs:∀ x,foldedSetIterable iter X.env x=pure x:=by intro _; rfl) :
  PE X (.ListComp elt [⟨tg,iter,ifs,0⟩] scope pos) (zr1 k js wi g tt te):=by
 intro pins s σ H Q I h;have ck:=zm0.of ck;rw [eval_ListComp];obtain ⟨cl,hcl,a1,a2⟩:=zwd (scope:=scope) (env:=X.env) fun x hx e=>I.ok.has x.1 (ck.free x hx e);refine wpAny_comprehension_free (use:=none) rfl hs hcl ck.kind ck.loc (thn (hi pins s σ H _ I h) fun v s1 h1=>thn h1 fun itv s2 h2=>?_);obtain ⟨it,fp,tn,J,H2,e,I2,T,st2,f2,hW⟩:=h2;subst e;refine zwg (RR:=fun acc C=>compPost (model X.prog X.w) X.A X.xe none (EP X pins σ Q) acc C) hc ck hg ht he a1 a2 I2 T st2 f2 hW fun D C s' H' I' ⟨m,hn⟩ fC q=>?_;obtain ⟨f0,f1,_,f3,f4,f5⟩:=fC;exact ⟨m,hn,fun h' hs'=>⟨.ref D,H',I'.turned (t':=s'.toks) (fun b o hb e=>(hs'.2 b hb).trans e) f0 f1 f3 f4 f5,rfl,q⟩⟩
theorem yar {i:Nat} {x:Str} {pos' spos:Pos} (k:Nat) (js:List Nat) (Nc:List Str) (hN:X.N.Nodup) (hi':X.N[i]?=some x) (hx:Loc X.env.scope x) (hc:X.calm=true) (hi:PI X tg iter wi)
  (hg:∀ cl C ex s₂ H₂,PG (X.comp scope Nc cl C ex s₂ H₂) tg g) (ht:∀ cl C ex s₂ H₂,PTs (X.comp scope Nc cl C ex s₂ H₂) ifs tt) (he:∀ cl C ex s₂ H₂,PE (X.comp scope Nc cl C ex s₂ H₂) elt te)
  (hsw:swapsWith (.ListComp elt [⟨tg,iter,ifs,0⟩] scope pos) (some (.Name x pos')) spos.line X.env=pure true:=by rfl)
  (ck:ziw scope X.env.scope.names X.N Nc k js=true:=by rfl) (hs:∀ x,foldedSetIterable iter X.env x=pure x:=by intro _; rfl)
  (hf:X.fn x=true\/X.env.scope.names.lookup x=some .local:=by first | exact .inl rfl | exact .inr rfl | assumption) :
  PS X (.Assign [.Name x pos'] (.ListComp elt [⟨tg,iter,ifs,0⟩] scope pos) spos) (zik (zr1 k js wi g tt te) (zhi i)):=by
 intro pins s σ H D I h;have ck:=zm0.of ck;rw [exec_Assign_Name_used _ _ _ _ hsw];refine wpAny_bind (wpAny_standAt (wpAny_bind ?_))
 show wpAny _ X.A (do let _ <- comprehension (.ListComp elt [⟨tg,iter,ifs,0⟩] scope pos) scope X.env _ (newList []) false (eval iter X.env) (some (assign (.Name x pos') X.env))) _ _ s
 obtain ⟨cl,hcl,a1,a2⟩:=zwd (scope:=scope) (env:=X.env) fun x hx e=>I.ok.has x.1 (ck.free x hx e)
 refine wpAny_bind (wpAny_mono (wpAny_comprehension_free (use:=some (assign (.Name x pos') X.env)) (Q:=fun _ s'=>SP X pins D .next s') rfl hs hcl ck.kind ck.loc
  (thn (hi pins s σ H _ I h) fun v s1 h1=>thn h1 fun itv s2 h2=>?_)) (fun _ s' hq=>wpAny_pure (wpAny_pure hq)) fun _ _ e=>e)
 obtain ⟨it,fp,tn,J,H2,e,I2,T,st2,f2,hW⟩:=h2;subst e;refine zwg (RR:=fun acc C=>compPost (model X.prog X.w) X.A X.xe (some (assign (.Name x pos') X.env)) (fun _ s'=>SP X pins D .next s') acc C) hc ck hg ht he a1 a2 I2 T st2 f2 hW fun D' C s' H' I' ⟨m,hn⟩ fC q=>?_;obtain ⟨f0,f1,f2',f3,f4,f5⟩:=fC;show wpAny _ X.A (assign (.Name x pos') X.env (.ref D')) _ _ _;refine wpAny_assign_Name (z2g (v:=.ref D') I' hN hi' hx rfl (fun s'' I'' ⟨a,sb,ha⟩=>?_) hf)
 have hCa : C≠a:=by
  rcases ha with z | z
  ·rw [z]; exact f1
  ·exact (f4 x a z).symm
 exact ⟨m,hn.sameBut sb hCa,fun h' hs'=>⟨_,H',I''.turned (t':=s''.toks) (fun b o hb e=>(hs'.2 b hb).trans e) f0 f1 f3 f4 f5,q⟩⟩
end
section
variable {K:PySem.W.Frag} {g:TG} {tt:TT} {te:TE} {σ0:St} {H1:Hp} {Q:VK}
end
section
variable {X:Cx}
theorem zwb : zg7 X (.builtin "isinstance") (fun xs H Q=>∃ x T t b,xs=[x,.ty T]/\zdv X.K H x t/\PySem.W.kitOne X.K t (.type T)=some b/\Q (.bl b) H):=by
 intro pins s σ H xs us Q I r h;obtain ⟨x,T,t,b,rfl,ty,e,q⟩:=h;obtain ⟨u,w',rfl,rx,rc⟩:=yd7 r;cases (show w'=Value.type T from rc);exact z6g I rx ty e fun tk=>⟨.bl b,H,I.tok tk,rfl,q⟩
end
theorem zaz.at' {xs:List V} {us:List Value} {i:Nat} {u:Value} (r:zaz xs us) (e:us[i]?=some u) : ∃ x,xs[i]?=some x/\za5 x u:=by
 have hl:=r.length;have hi : i < xs.length:=by have:=(List.getElem?_eq_some_iff.mp e).1; omega
 refine ⟨xs[i],by simp [hi],?_⟩;obtain ⟨u',e',r'⟩:=r.get (i:=i) (x:=xs[i]) (by simp [hi]);rw [e] at e'; cases e'; exact r'
section
variable {X:Cx} {pins:List (Addr×Obj)} {σ:St} {H:Hp} {s:Shared}
end
theorem zla {env:Env} {k':NameKind} (hk:k'≠.free) : ∀ {names:List (Str×NameKind)} {x:Str},names.lookup x=some k' ->
  (names.map fun (n,k)=>if (k==NameKind.free && env.scope.kind==.function && env.kindOf n==some .cell) then (n,NameKind.cell) else (n,k)).lookup x=some k'
 | [],_,h=>by simp at h
 | (n,k)::r,x,h=>by
  have ih:=@zla env k' hk r x;rw [List.map_cons];show List.lookup x ((if (k==NameKind.free && env.scope.kind==.function && env.kindOf n==some .cell)=true then (n,NameKind.cell) else (n,k))::_)=_;rw [List.lookup_cons] at h
  cases hx : x==n with
  | true =>
   rw [hx] at h;have e : k=k':=Option.some.inj h;subst e;have hf : (k==NameKind.free)=false:=by simpa using hk
   rw [hf,Bool.false_and,Bool.false_and,if_neg Bool.false_ne_true,List.lookup_cons,hx]
  | false =>
   rw [hx] at h;split
   ·rw [List.lookup_cons,hx]; exact ih h
   ·rw [List.lookup_cons,hx]; exact ih h
theorem yd8 {env:Env} {scope:Scope} {x:Str} (h:Vis scope x) : Vis (relabel scope env) x:=by
 rcases h with h | h | h
 ·exact .inl (zla (by decide) h)
 ·exact .inr (.inl (zla (by decide) h))
 ·rcases zut (env:=env) h with z | z
  ·exact .inr (.inl z)
  ·exact .inr (.inr z)
section
variable {X:Cx} {scope:Scope} {Nc:List Str} {cl:List (Str×Addr)} {C:Addr} {ex:List Addr} {s₂:Shared} {H₂:Hp}
theorem pvc (i:Nat) {x:Str} {pos:Pos} (hN:Nc[i]?=some x:=by rfl) (hv:Vis scope x:=by first | exact Or.inl rfl | exact Or.inr (Or.inl rfl) | exact Or.inr (Or.inr rfl)) (hd:(x==("__debug__" : Str))=false:=by decide)
  (hcd:(x==("__classdict__" : Str))=false:=by decide) : PE (X.comp scope Nc cl C ex s₂ H₂) (.Name x pos) (zc8 i):=zhr hN (yd8 hv) hd hcd
theorem pgc (i:Nat) {x:Str} {pos:Pos} (hN:Nc.Nodup:=by decide +kernel) (hi:Nc[i]?=some x:=by rfl) (hl:scope.names.lookup x=some .local:=by rfl) : PG (X.comp scope Nc cl C ex s₂ H₂) (.Name x pos) (zhi i) :=
 zup (X:=X.comp scope Nc cl C ex s₂ H₂) hN hi (.inl (zla (by decide) hl)) (.inr (zla (by decide) hl))
theorem glc {x:Str} (h:scope.names.lookup x=some .globalImplicit) : Gl (X.comp scope Nc cl C ex s₂ H₂) x:=zla (env:=X.env) (by decide) h
end
theorem zc3 {H:Hp} {p:Addr} {o:HO} (h:H p=none) : zas H (upd H p o):=fun b u e=>by rw [zbi (zet e h)]; exact e
theorem zas.tup {K:PySem.W.Frag} {H H':Hp} {a:Addr} {xs:List V} (e:zas H H') (h:SqT K H a xs) : SqT K H' a xs:=by
 rcases h with (h | ⟨o,h⟩) | h
 ·exact .inl (.inl (e _ _ h))
 ·exact .inl (.inr ⟨o,e _ _ h⟩)
 ·exact .inr h
noncomputable def z26 (p:Option Bool->Bool) (es:List (Option Bool)) (its:List (Int×Int)) : Int:=((its.filter fun z=>p (es.getD z.1.toNat none)).map (·.2)).sum
inductive Prt where
 | inn (t:Int) | out (t:Int) | least (k:Int) (its:List (Int×Int)) | most (k:Int) (its:List (Int×Int))
noncomputable def bs (l:List Bool) : List (Option Bool):=l.map some
noncomputable def Prt.holds (rs ws:List Bool) : Prt->Bool
 | .inn t=>(rs.getD t.toNat false)
 | .out t=>!(ws.getD t.toNat false)
 | .least k its=>decide (k<=z26 (·==some true) (bs rs) its)
 | .most k its=>decide (z26 (·==some true) (bs ws) its<=k)
section
variable {X:Cx} {pins:List (Addr×Obj)} {σ:St} {H:Hp} {s:Shared} {h':Heap}
theorem Inv.turnedMany {t':Nat} {ch:List Addr} (I:Inv X pins σ H s) (k:∀ b o,b∉ch->s.heap.get? b=some o->h'.get? b=some o) (hf:∀ b∈ch,zfl X pins H b) : Inv X pins σ H { s with heap:=h',toks:=t' }:=by
 refine I.step (g':=s.gens) (d':=s.drawn) (ch:=ch) (fun b hb=>?_) (fun b o _ _ hc e _=>k b o hc e) (fun b o _ _ hc e _=>⟨o.slots,k b o hc e⟩) (fun _ _ _ _ n=>n)
  (fun b o hc e=>⟨o,k b o hc e⟩) (fun _ _ e=>e) (fun _ _ _ e=>e) (fun b ps e=>⟨#[],by rw [e]; simp⟩) (fun m hm=>?_) (fun b u e=>?_) I.bare
 ·obtain ⟨_,f1,_,f3,f4,f5⟩:=hf b hb;exact ⟨f3,f1,f4,f5⟩
 ·obtain ⟨o,es,ep,ho,r⟩:=hm;exact ⟨o,es,ep,k _ o (fun z=>(hf _ z).2.1 rfl) ho,r⟩
 ·refine (I.hok b u e).stay (fun c v hc q=>k c v (fun z=>?_) q) (fun _ q=>q) fun _ _ q=>q;have hn:=(hf c z).1
  rcases hc with y | y
  ·rw [y,e] at hn; cases hn
  ·rw [hn] at y; cases y
theorem Inv.track {p:Addr} {o:HO} (I:Inv X pins σ H s) (f:zfl X pins H p) (ob:zdz X.prog X.w (upd H p o) s.heap p o) : Inv X pins σ (upd H p o) s:=by
 obtain ⟨f0,f1,f2,f3,f4,f5⟩:=f;have ne : ∀ b u,H b=some u->b≠p:=fun b u e=>zet e f0;have one : ∀ b : Addr,b∉[p]->b≠p:=fun b hb z=>hb (by rw [z]; simp)
 refine I.step (g':=s.gens) (d':=s.drawn) (t':=s.toks) (h':=s.heap) (ch:=[p]) (fun b hb=>?_) (fun b o _ _ hc e _=>e) (fun b o _ _ hc e _=>⟨o.slots,e⟩) (fun b o hc e n=>?_)
  (fun b o hc e=>⟨o,e⟩) (fun b xs e=>?_) (fun b o u e=>?_) (fun b ps e=>⟨#[],?_⟩) (fun m hm=>hm) (fun b u e=>?_) I.bare
 ·have e : b=p:=by simpa using hb
  subst e;exact ⟨f3,f1,f4,f5⟩
 ·rw [zbi (one b hc)]; exact n
 ·rw [zbi (ne b _ e)]; exact e
 ·rw [zbi (ne b _ e)]; exact e
 ·rw [zbi (ne b _ e),e]; simp
 ·by_cases hb : b=p
  ·subst hb;rw [zcd] at e;cases e;exact ob
  ·rw [zbi hb] at e;exact (I.hok b u e).stay (fun c v _ q=>q) (fun c q=>by rw [zbi (ne c _ q)]; exact q) fun c xs q=>by rw [zbi (ne c _ q)]; exact q
end
section
variable {X:Cx} {elts:List Expr} {kx:Nat} {tpos:Pos}
end
inductive D where
 | non
 | bl (b:Bool)
 | int (i:Int)
 | str (x:Str)
 | lst (xs:List D)
 | tup (xs:List D)
 | kl (xs:List D)
 | kt (xs:List D)
 | dic (ks:List Key) (xs:List D)
 | ins (c:Str) (ns:List Str) (xs:List D)
 | kd (ks:List Key) (xs:List D)
 deriving Inhabited
set_option genInjectivity false in
structure Gc where
 K : PySem.W.Frag
 cl : Str->Addr
mutual
noncomputable def Rep (G:Gc) (H:Hp) : D->V->Prop
 | .non,v=>v=.non
 | .bl b,v=>v=.bl b
 | .int i,v=>v=.int i
 | .str x,v=>v=.str x
 | .lst ds,v=>∃ a vs,v=.ref a/\H a=some (.lst vs)/\zao G H ds vs
 | .tup ds,v=>∃ a vs,v=.ref a/\H a=some (.tup vs)/\zao G H ds vs
 | .kl ds,v=>∃ a vs,v=.ref a/\SqL G.K H a vs/\zao G H ds vs
 | .kt ds,v=>∃ a vs,v=.ref a/\SqT G.K H a vs/\zao G H ds vs
 | .dic ks ds,v=>∃ a vs,v=.ref a/\H a=some (.dK (ks.zip vs))/\ks.length=vs.length/\zao G H ds vs
 | .ins c ns ds,v=>∃ a dx vs,v=.ref a/\H a=some (.ins (G.cl c) dx (ns.zip vs))/\ns.length=vs.length/\zao G H ds vs
 | .kd ks ds,v=>∃ a od vs,v=.ref a/\H a=some (.frz od (.dK (ks.zip vs)))/\ks.length=vs.length/\zao G H ds vs
noncomputable def zao (G:Gc) (H:Hp) : List D->List V->Prop
 | [],vs=>vs=[]
 | d::ds,vs=>∃ v r,vs=v::r/\Rep G H d v/\zao G H ds r
end
section
variable {G:Gc} {H H' Hf Hf':Hp}
mutual
theorem Rep.upM (s:zas H H') : ∀ (d:D) (v:V),Rep G H d v->Rep G H' d v
 | .non,_,h=>h
 | .bl _,_,h=>h
 | .int _,_,h=>h
 | .str _,_,h=>h
 | .lst ds,_,⟨a,vs,e,q,r⟩=>⟨a,vs,e,s _ _ q,zao.upM s ds vs r⟩
 | .tup ds,_,⟨a,vs,e,q,r⟩=>⟨a,vs,e,s _ _ q,zao.upM s ds vs r⟩
 | .kl ds,_,⟨a,vs,e,q,r⟩=>⟨a,vs,e,s.seq q,zao.upM s ds vs r⟩
 | .kt ds,_,⟨a,vs,e,q,r⟩=>⟨a,vs,e,s.tup q,zao.upM s ds vs r⟩
 | .dic _ ds,_,⟨a,vs,e,q,l,r⟩=>⟨a,vs,e,s _ _ q,l,zao.upM s ds vs r⟩
 | .ins _ _ ds,_,⟨a,dx,vs,e,q,l,r⟩=>⟨a,dx,vs,e,s _ _ q,l,zao.upM s ds vs r⟩
 | .kd _ ds,_,⟨a,od,vs,e,q,l,r⟩=>⟨a,od,vs,e,s _ _ q,l,zao.upM s ds vs r⟩
theorem zao.upM (s:zas H H') : ∀ (ds:List D) (vs:List V),zao G H ds vs->zao G H' ds vs
 | [],_,h=>h
 | d::ds,_,⟨v,r,e,h1,h2⟩=>⟨v,r,e,Rep.upM s d v h1,zao.upM s ds r h2⟩
end
theorem Rep.up {d:D} {v:V} (r:Rep G H d v) (s:zas H H') : Rep G H' d v:=Rep.upM s d v r
theorem zao.up {ds:List D} {vs:List V} (r:zao G H ds vs) (s:zas H H') : zao G H' ds vs:=zao.upM s ds vs r
theorem zao.nil : zao G H [] []:=rfl
theorem zao.cons {d:D} {ds:List D} {v:V} {vs:List V} (h:Rep G H d v) (t:zao G H ds vs) : zao G H (d::ds) (v::vs):=⟨v,vs,rfl,h,t⟩
theorem zao.length : ∀ {ds:List D} {vs:List V},zao G H ds vs->ds.length=vs.length
 | [],_,h=>by cases (show _=[] from h); rfl
 | d::ds,_,⟨v,r,e,_,h⟩=>by subst e; simp [zao.length h]
theorem zao.append : ∀ {ds es:List D} {vs us:List V},zao G H ds vs->zao G H es us->zao G H (ds++es) (vs++us)
 | [],_,_,_,h,t=>by cases (show _=[] from h); exact t
 | d::ds,_,_,_,⟨v,r,e,h1,h2⟩,t=>by subst e; exact ⟨v,r++_,rfl,h1,zao.append h2 t⟩
theorem zao.get : ∀ {ds:List D} {vs:List V} {i:Nat} {d:D},zao G H ds vs->ds[i]?=some d->∃ v,vs[i]?=some v/\Rep G H d v
 | [],_,_,_,_,e=>by simp at e
 | d::ds,_,0,_,⟨v,r,e,h1,_⟩,e'=>by subst e; simp at e'; subst e'; exact ⟨v,rfl,h1⟩
 | d::ds,_,i + 1,d',⟨v,r,e,_,h2⟩,e'=>by
  subst e;obtain ⟨u,a,b⟩:=zao.get (i:=i) (d:=d') h2 (by simpa using e');exact ⟨u,by simpa using a,b⟩
theorem zao.get' : ∀ {ds:List D} {vs:List V} {i:Nat} {v:V},zao G H ds vs->vs[i]?=some v->∃ d,ds[i]?=some d/\Rep G H d v:=fun {ds vs i v} h e=>by
 have hl:=h.length;have hi : i < ds.length:=by have:=(List.getElem?_eq_some_iff.mp e).1; omega
 obtain ⟨u,a,b⟩:=h.get (i:=i) (d:=ds[i]) (by simp [hi]);rw [e] at a; cases a;exact ⟨ds[i],by simp [hi],b⟩
theorem zao.ints : ∀ (ns:List Int),zao G H (ns.map D.int) (ns.map V.int)
 | []=>rfl
 | n::ns=>⟨_,_,rfl,rfl,zao.ints ns⟩
theorem zao.take : ∀ {ds:List D} {vs:List V} (n:Nat),zao G H ds vs->zao G H (ds.take n) (vs.take n)
 | _,_,0,_=>rfl
 | [],_,n + 1,h=>by cases (show _=[] from h); rfl
 | d::ds,_,n + 1,⟨v,r,e,h1,h2⟩=>by subst e; exact ⟨v,r.take n,rfl,h1,zao.take n h2⟩
theorem zao.drop : ∀ {ds:List D} {vs:List V} (n:Nat),zao G H ds vs->zao G H (ds.drop n) (vs.drop n)
 | _,_,0,h=>h
 | [],_,n + 1,h=>by cases (show _=[] from h); rfl
 | d::ds,_,n + 1,⟨v,r,e,h1,h2⟩=>by subst e; exact zao.drop n h2
theorem zao.set : ∀ {ds:List D} {vs:List V} (i:Nat) {d:D} {v:V},zao G H ds vs->Rep G H d v->zao G H (ds.set i d) (vs.set i v)
 | [],_,_,_,_,h,_=>by cases (show _=[] from h); exact .nil
 | e::ds,_,0,_,_,⟨v,r,e',_,h2⟩,q=>by subst e'; exact ⟨_,r,rfl,q,h2⟩
 | e::ds,_,i + 1,_,_,⟨v,r,e',h1,h2⟩,q=>by subst e'; exact ⟨v,r.set i _,rfl,h1,zao.set i h2 q⟩
end
noncomputable def zgl : HO->Bool
 | .tup _=>true
 | _=>false
structure Ext (Hf H Hf' H':Hp) : Prop where
 f : zas Hf Hf'
 h : zas H H'
 s : zas Hf' H'
 n : ∀ l o,H l=some o->zgl o=false->Hf' l=Hf l
section
variable {Hf H Hf1 H1 Hf2 H2:Hp} {p:Addr} {o:HO}
theorem Ext.refl (s:zas Hf H) : Ext Hf H Hf H:=⟨zas.refl _,zas.refl _,s,fun _ _ _ _=>rfl⟩
theorem Ext.trans (a:Ext Hf H Hf1 H1) (b:Ext Hf1 H1 Hf2 H2) : Ext Hf H Hf2 H2:=⟨a.f.trans b.f,a.h.trans b.h,b.s,fun l o e t=>(b.n l o (a.h l o e) t).trans (a.n l o e t)⟩
theorem Ext.new (s:zas Hf H) (h:H p=none) : Ext Hf H (upd Hf p o) (upd H p o) :=
 ⟨zc3 (s.free h),zc3 h,fun b u e=>by
  by_cases hb : b=p
  ·subst hb; rw [zcd] at e ⊢; exact e
  ·rw [zbi hb] at e ⊢; exact s b u e,fun l u e _=>by rw [zbi (zet e h)]⟩
theorem Ext.tmp (s:zas Hf H) (h:H p=none) : Ext Hf H Hf (upd H p o):=⟨zas.refl _,zc3 h,s.trans (zc3 h),fun _ _ _ _=>rfl⟩
theorem Ext.grow (s:zas Hf H) (g:zas H H1) : Ext Hf H Hf H1:=⟨zas.refl _,g,s.trans g,fun _ _ _ _=>rfl⟩
theorem Ext.fix (a:Ext Hf H Hf1 H1) (hn:H p=none) (hf:Hf1 p=none) (hp:H1 p=some o) : Ext Hf H (upd Hf1 p o) H1 :=
 ⟨a.f.trans (zc3 hf),a.h,fun b u e=>by
  by_cases hb : b=p
  ·subst hb; rw [zcd] at e; rw [hp]; exact e
  ·rw [zbi hb] at e; exact a.s b u e,fun l u e t=>by rw [zbi (zet e hn)]; exact a.n l u e t⟩
end
inductive O where
 | fz (d:D)
 | lst (xs:List O)
 | tup (xs:List O)
 | dic (ks:List Key) (xs:List O)
 | ins (c:Str) (ns:List Str) (xs:List O)
 | jnk (n:Nat)
 deriving Inhabited
mutual
noncomputable def OT (G:Gc) (Hf H:Hp) : O->V->List Addr->Prop
 | .fz d,v,fp=>Rep G Hf d v/\fp=[]
 | .lst os,v,fp=>∃ a vs fs,v=.ref a/\H a=some (.lst vs)/\OTs G Hf H os vs fs/\fp=a::fs
 | .tup os,v,fp=>∃ a vs,v=.ref a/\H a=some (.tup vs)/\OTs G Hf H os vs fp
 | .dic ks os,v,fp=>∃ a vs fs,v=.ref a/\H a=some (.dK (ks.zip vs))/\ks.length=vs.length/\OTs G Hf H os vs fs/\fp=a::fs
 | .ins c ns os,v,fp=>∃ a dx vs fs,v=.ref a/\H a=some (.ins (G.cl c) dx (ns.zip vs))/\ns.length=vs.length/\OTs G Hf H os vs fs/\fp=a::fs
 | .jnk n,v,fp=>∃ a vs,v=.ref a/\H a=some (.lst vs)/\vs.length<=n/\fp=[a]
noncomputable def OTs (G:Gc) (Hf H:Hp) : List O->List V->List Addr->Prop
 | [],vs,fp=>vs=[]/\fp=[]
 | o::os,vs,fp=>∃ v r f1 f2,vs=v::r/\OT G Hf H o v f1/\OTs G Hf H os r f2/\fp=f1++f2
end
mutual
noncomputable def O.toD : O->D
 | .fz d=>d
 | .lst os=>.lst (O.toDs os)
 | .tup os=>.tup (O.toDs os)
 | .dic ks os=>.dic ks (O.toDs os)
 | .ins c ns os=>.ins c ns (O.toDs os)
 | .jnk _=>.non
noncomputable def O.toDs : List O->List D
 | []=>[]
 | o::os=>o.toD::O.toDs os
end
mutual
noncomputable def O.kn : O->Bool
 | .fz _=>true
 | .lst os=>O.kns os
 | .tup os=>O.kns os
 | .dic _ os=>O.kns os
 | .ins _ _ os=>O.kns os
 | .jnk _=>false
noncomputable def O.kns : List O->Bool
 | []=>true
 | o::os=>o.kn && O.kns os
end
section
variable {G:Gc} {Hf H Hf' H':Hp}
mutual
theorem OT.frameM (f:zas Hf Hf') : ∀ (o:O) (v:V) (fp:List Addr),OT G Hf H o v fp->(∀ b u,H b=some u->(zgl u=true\/b∈fp)->H' b=some u)->OT G Hf' H' o v fp
 | .fz d,_,_,h,_=>⟨h.1.up f,h.2⟩
 | .lst os,_,fp,⟨a,vs,fs,e,q,r,ef⟩,k=>⟨a,vs,fs,e,k _ _ q (.inr (by rw [ef]; exact List.mem_cons_self)),OTs.frameM f os vs fs r (fun b u hb hm=>k b u hb (hm.imp_right fun z=>by rw [ef]; exact List.mem_cons_of_mem _ z)),ef⟩
 | .tup os,_,fp,⟨a,vs,e,q,r⟩,k=>⟨a,vs,e,k _ _ q (.inl rfl),OTs.frameM f os vs fp r k⟩
 | .dic ks os,_,fp,⟨a,vs,fs,e,q,z,r,ef⟩,k=>⟨a,vs,fs,e,k _ _ q (.inr (by rw [ef]; exact List.mem_cons_self)),z,OTs.frameM f os vs fs r (fun b u hb hm=>k b u hb (hm.imp_right fun z=>by rw [ef]; exact List.mem_cons_of_mem _ z)),ef⟩
 | .ins c ns os,_,fp,⟨a,dx,vs,fs,e,q,z,r,ef⟩,k=>⟨a,dx,vs,fs,e,k _ _ q (.inr (by rw [ef]; exact List.mem_cons_self)),z,OTs.frameM f os vs fs r (fun b u hb hm=>k b u hb (hm.imp_right fun z=>by rw [ef]; exact List.mem_cons_of_mem _ z)),ef⟩
 | .jnk n,_,fp,⟨a,vs,e,q,z,ef⟩,k=>⟨a,vs,e,k _ _ q (.inr (by rw [ef]; exact List.mem_cons_self)),z,ef⟩
theorem OTs.frameM (f:zas Hf Hf') : ∀ (os:List O) (vs:List V) (fp:List Addr),OTs G Hf H os vs fp->(∀ b u,H b=some u->(zgl u=true\/b∈fp)->H' b=some u)->OTs G Hf' H' os vs fp
 | [],_,_,h,_=>h
 | o::os,_,fp,⟨v,r,f1,f2,e,h1,h2,ef⟩,k=>⟨v,r,f1,f2,e,OT.frameM f o v f1 h1 (fun b u hb hm=>k b u hb (hm.imp_right fun z=>by rw [ef]; exact List.mem_append_left _ z)),OTs.frameM f os r f2 h2 (fun b u hb hm=>k b u hb (hm.imp_right fun z=>by rw [ef]; exact List.mem_append_right _ z)),ef⟩
end
theorem OT.frame {o:O} {v:V} {fp:List Addr} (h:OT G Hf H o v fp) (f:zas Hf Hf') (k:∀ b u,H b=some u->(zgl u=true\/b∈fp)->H' b=some u) : OT G Hf' H' o v fp:=OT.frameM f o v fp h k
theorem OT.up {o:O} {v:V} {fp:List Addr} (h:OT G Hf H o v fp) (f:zas Hf Hf') (s:zas H H') : OT G Hf' H' o v fp:=h.frame f fun b u e _=>s b u e
theorem zvn {α β : Type} : ∀ {ks:List α} {vs us:List β},ks.length=vs.length->ks.length=us.length->ks.zip vs=ks.zip us->vs=us
 | [],[],[],_,_,_=>rfl
 | k::ks,v::vs,u::us,h1,h2,e=>by
  rw [List.zip_cons_cons,List.zip_cons_cons] at e
  injection e with e1 e2
  injection e1 with _ e3
  rw [e3,zvn (by simpa using h1) (by simpa using h2) e2]
 | [],_::_,_,h,_,_=>by cases h
 | [],[],_::_,_,h,_=>by cases h
 | _::_,[],_,h,_,_=>by cases h
 | _::_,_::_,[],_,h,_=>by cases h
mutual
theorem OT.funM : ∀ (o:O) (v:V) (f f':List Addr),OT G Hf H o v f->OT G Hf' H o v f'->f=f'
 | .fz d,_,_,_,h,h'=>h.2.trans h'.2.symm
 | .lst os,_,_,_,⟨a,vs,fs,e,q,r,ef⟩,⟨a',vs',fs',e',q',r',ef'⟩=>by
  subst e ef ef';cases e';rw [q] at q';cases q'
  rw [OTs.funM os vs fs fs' r r']
 | .tup os,_,f,f',⟨a,vs,e,q,r⟩,⟨a',vs',e',q',r'⟩=>by
  subst e;cases e';rw [q] at q';cases q'
  exact OTs.funM os vs f f' r r'
 | .dic ks os,_,_,_,⟨a,vs,fs,e,q,z,r,ef⟩,⟨a',vs',fs',e',q',z',r',ef'⟩=>by
  subst e ef ef';cases e';rw [q] at q';have:=zvn z z' (HO.dK.inj (Option.some.inj q'));subst this
  rw [OTs.funM os vs fs fs' r r']
 | .ins c ns os,_,_,_,⟨a,dx,vs,fs,e,q,z,r,ef⟩,⟨a',dx',vs',fs',e',q',z',r',ef'⟩=>by
  subst e ef ef';cases e';rw [q] at q';have:=zvn z z' (HO.ins.inj (Option.some.inj q')).2.2;subst this
  rw [OTs.funM os vs fs fs' r r']
 | .jnk n,_,_,_,⟨a,vs,e,q,z,ef⟩,⟨a',vs',e',q',z',ef'⟩=>by
  subst e ef ef';cases e';rfl
theorem OTs.funM : ∀ (os:List O) (vs:List V) (f f':List Addr),OTs G Hf H os vs f->OTs G Hf' H os vs f'->f=f'
 | [],_,_,_,h,h'=>h.2.trans h'.2.symm
 | o::os,_,_,_,⟨v,r,f1,f2,e,h1,h2,ef⟩,⟨v',r',f1',f2',e',h1',h2',ef'⟩=>by
  subst e ef ef';cases e';rw [OT.funM o v f1 f1' h1 h1',OTs.funM os r f2 f2' h2 h2']
end
mutual
theorem OT.memM : ∀ (o:O) (v:V) (f:List Addr),OT G Hf H o v f->∀ a∈f,∃ u,H a=some u/\zgl u=false
 | .fz d,_,_,h,a,ha=>by rw [h.2] at ha; cases ha
 | .lst os,_,_,⟨a,vs,fs,e,q,r,ef⟩,b,hb=>by
  subst ef
  rcases List.mem_cons.mp hb with z | z
  ·subst z; exact ⟨_,q,rfl⟩
  ·exact OTs.memM os vs fs r b z
 | .tup os,_,f,⟨a,vs,e,q,r⟩,b,hb=>OTs.memM os vs f r b hb
 | .dic ks os,_,_,⟨a,vs,fs,e,q,z,r,ef⟩,b,hb=>by
  subst ef
  rcases List.mem_cons.mp hb with z | z
  ·subst z; exact ⟨_,q,rfl⟩
  ·exact OTs.memM os vs fs r b z
 | .ins c ns os,_,_,⟨a,dx,vs,fs,e,q,z,r,ef⟩,b,hb=>by
  subst ef
  rcases List.mem_cons.mp hb with z | z
  ·subst z; exact ⟨_,q,rfl⟩
  ·exact OTs.memM os vs fs r b z
 | .jnk n,_,_,⟨a,vs,e,q,z,ef⟩,b,hb=>by
  subst ef;rw [List.mem_singleton.mp hb];exact ⟨_,q,rfl⟩
theorem OTs.memM : ∀ (os:List O) (vs:List V) (f:List Addr),OTs G Hf H os vs f->∀ a∈f,∃ u,H a=some u/\zgl u=false
 | [],_,_,h,a,ha=>by rw [h.2] at ha; cases ha
 | o::os,_,_,⟨v,r,f1,f2,e,h1,h2,ef⟩,a,ha=>by
  subst ef
  rcases List.mem_append.mp ha with z | z
  ·exact OT.memM o v f1 h1 a z
  ·exact OTs.memM os r f2 h2 a z
end
mutual
theorem OT.repM (s:zas Hf H) : ∀ (o:O) (v:V) (f:List Addr),o.kn=true->OT G Hf H o v f->Rep G H o.toD v
 | .fz d,_,_,_,h=>by rw [O.toD]; exact h.1.up s
 | .lst os,_,_,hk,⟨a,vs,fs,e,q,r,ef⟩=>by rw [O.kn] at hk; rw [O.toD]; exact ⟨a,vs,e,q,OTs.repM s os vs fs hk r⟩
 | .tup os,_,f,hk,⟨a,vs,e,q,r⟩=>by rw [O.kn] at hk; rw [O.toD]; exact ⟨a,vs,e,q,OTs.repM s os vs f hk r⟩
 | .dic ks os,_,_,hk,⟨a,vs,fs,e,q,z,r,ef⟩=>by rw [O.kn] at hk; rw [O.toD]; exact ⟨a,vs,e,q,z,OTs.repM s os vs fs hk r⟩
 | .ins c ns os,_,_,hk,⟨a,dx,vs,fs,e,q,z,r,ef⟩=>by rw [O.kn] at hk; rw [O.toD]; exact ⟨a,dx,vs,e,q,z,OTs.repM s os vs fs hk r⟩
 | .jnk _,_,_,hk,_=>by rw [O.kn] at hk; cases hk
theorem OTs.repM (s:zas Hf H) : ∀ (os:List O) (vs:List V) (f:List Addr),O.kns os=true->OTs G Hf H os vs f->zao G H (O.toDs os) vs
 | [],_,_,_,h=>by rw [O.toDs]; exact h.1
 | o::os,_,_,hk,⟨v,r,f1,f2,e,h1,h2,ef⟩=>by
  rw [O.kns,Bool.and_eq_true] at hk;rw [O.toDs];exact ⟨v,r,e,OT.repM s o v f1 hk.1 h1,OTs.repM s os r f2 hk.2 h2⟩
end
theorem OT.rep {o:O} {v:V} {f:List Addr} (h:OT G Hf H o v f) (s:zas Hf H) (hk:o.kn=true) : Rep G H o.toD v:=OT.repM s o v f hk h
end
inductive Sl where
 | no
 | im (d:D)
 | own (xs:List D)
 | ownd (ks:List Key) (xs:List D)
 | obj (c:Str) (ns:List Str) (xs:List D)
 | pin (l:Addr) (xs:List D)
 | pind (l:Addr) (ks:List Key) (xs:List D)
 | pino (l:Addr) (c:Str) (ns:List Str) (xs:List D)
 | deep (o:O)
 | val (u:V)
noncomputable def Sl.isOwn : Sl->Bool
 | .own _=>true
 | .ownd _ _=>true
 | .obj _ _ _=>true
 | .pin _ _=>true
 | .pind _ _ _=>true
 | .pino _ _ _ _=>true
 | _=>false
noncomputable def Sl.calm : Sl->Bool
 | .no=>true
 | .im _=>true
 | _=>false
noncomputable def zfm (G:Gc) (Hf H:Hp) (l:Addr) : Sl->Prop
 | .own ds=>∃ vs,H l=some (.lst vs)/\zao G Hf ds vs
 | .ownd ks ds=>∃ vs,H l=some (.dK (ks.zip vs))/\ks.length=vs.length/\zao G Hf ds vs
 | .obj c ns ds=>∃ dx vs,H l=some (.ins (G.cl c) dx (ns.zip vs))/\ns.length=vs.length/\zao G Hf ds vs
 | .pin l0 ds=>l=l0/\∃ vs,H l=some (.lst vs)/\zao G Hf ds vs
 | .pind l0 ks ds=>l=l0/\∃ vs,H l=some (.dK (ks.zip vs))/\ks.length=vs.length/\zao G Hf ds vs
 | .pino l0 c ns ds=>l=l0/\∃ dx vs,H l=some (.ins (G.cl c) dx (ns.zip vs))/\ns.length=vs.length/\zao G Hf ds vs
 | _=>False
theorem zfm.there2 {G:Gc} {Hf H:Hp} {l:Addr} {s:Sl} (h:zfm G Hf H l s) : ∃ o,H l=some o/\zgl o=false:=by
 cases s with
 | own ds=>obtain ⟨vs,h,_⟩:=h; exact ⟨_,h,rfl⟩
 | ownd ks ds=>obtain ⟨vs,h,_⟩:=h; exact ⟨_,h,rfl⟩
 | obj c ns ds=>obtain ⟨dx,vs,h,_⟩:=h; exact ⟨_,h,rfl⟩
 | pin l0 ds=>obtain ⟨_,vs,h,_⟩:=h; exact ⟨_,h,rfl⟩
 | pind l0 ks ds=>obtain ⟨_,vs,h,_⟩:=h; exact ⟨_,h,rfl⟩
 | pino l0 c ns ds=>obtain ⟨_,dx,vs,h,_⟩:=h; exact ⟨_,h,rfl⟩
 | _=>exact h.elim
theorem zfm.up {G:Gc} {Hf H Hf' H':Hp} {l:Addr} {s:Sl} (h:zfm G Hf H l s) (f:zas Hf Hf') (e:∀ o,H l=some o->H' l=some o) : zfm G Hf' H' l s:=by
 cases s with
 | own ds=>obtain ⟨vs,h,r⟩:=h; exact ⟨vs,e _ h,r.up f⟩
 | ownd ks ds=>obtain ⟨vs,h,z,r⟩:=h; exact ⟨vs,e _ h,z,r.up f⟩
 | obj c ns ds=>obtain ⟨dx,vs,h,z,r⟩:=h; exact ⟨dx,vs,e _ h,z,r.up f⟩
 | pin l0 ds=>obtain ⟨q,vs,h,r⟩:=h; exact ⟨q,vs,e _ h,r.up f⟩
 | pind l0 ks ds=>obtain ⟨q,vs,h,z,r⟩:=h; exact ⟨q,vs,e _ h,z,r.up f⟩
 | pino l0 c ns ds=>obtain ⟨q,dx,vs,h,z,r⟩:=h; exact ⟨q,dx,vs,e _ h,z,r.up f⟩
 | _=>exact h.elim
noncomputable def zfa (G:Gc) (H0 Hf H:Hp) (v:Option V) : Sl->Prop
 | .no=>True
 | .im d=>∃ u,v=some u/\Rep G Hf d u
 | .deep o=>∃ u fp,v=some u/\OT G Hf H o u fp/\fp.Nodup/\∀ a∈fp,H0 a=none/\Hf a=none
 | .val u=>v=some u
 | s=>∃ l,v=some (.ref l)/\H0 l=none/\Hf l=none/\zfm G Hf H l s
theorem zfa.own {G:Gc} {H0 Hf H:Hp} {v:Option V} {s:Sl} (hs:s.isOwn=true) (h:zfa G H0 Hf H v s) : ∃ l,v=some (.ref l)/\H0 l=none/\Hf l=none/\zfm G Hf H l s:=by
 cases s <;> first | exact h | cases hs
theorem zfa.ofOwn {G:Gc} {H0 Hf H:Hp} {v:Option V} {s:Sl} (hs:s.isOwn=true) (h:∃ l,v=some (.ref l)/\H0 l=none/\Hf l=none/\zfm G Hf H l s) : zfa G H0 Hf H v s:=by
 cases s <;> first | exact h | cases hs
noncomputable def Holds (G:Gc) (Hf H:Hp) (s:Sl) (v:V) (a:Addr) : Prop:=match s with
 | .deep o=>∃ fp,OT G Hf H o v fp/\a∈fp
 | s=>s.isOwn=true/\v=.ref a
theorem Holds.own {G:Gc} {Hf H:Hp} {s:Sl} {v:V} {a:Addr} (hs:s.isOwn=true) : Holds G Hf H s v a↔v=.ref a:=by
 cases s <;> first | exact ⟨fun h=>h.2,fun h=>⟨rfl,h⟩⟩ | cases hs
theorem Holds.calm {G:Gc} {Hf H:Hp} {s:Sl} {v:V} {a:Addr} (h:Holds G Hf H s v a) (hs:s.calm=true) : False:=by
 cases s <;> first | exact Bool.noConfusion h.1 | cases hs
theorem zfa.back {G:Gc} {H0 Hf H Hf' H':Hp} {s:Sl} {v:V} {a:Addr} (q:zfa G H0 Hf H (some v) s) (k:∀ o fp,s=.deep o->OT G Hf H o v fp->OT G Hf' H' o v fp) (h:Holds G Hf' H' s v a) : Holds G Hf H s v a:=by
 cases s with
 | deep o =>
  obtain ⟨u,fp,e,r,_⟩:=q;cases e;obtain ⟨fp',r',ha⟩:=h;have:=OT.funM o v fp fp' (k o fp rfl r) r';subst this
  exact ⟨fp,r,ha⟩
 | _=>exact h
theorem zfa.there {G:Gc} {H0 Hf H:Hp} {s:Sl} {v:V} {a:Addr} (q:zfa G H0 Hf H (some v) s) (h:Holds G Hf H s v a) : ∃ o,H a=some o/\zgl o=false:=by
 cases hs : s.isOwn with
 | true =>
  obtain ⟨l,e,_,_,ho⟩:=q.own hs;have e2:=(Holds.own hs).mp h;cases e;cases e2
  exact ho.there2
 | false =>
  cases s with
  | deep o =>
   obtain ⟨fp,r,ha⟩:=h
   exact OT.memM o v fp r a ha
  | _=>first | exact Bool.noConfusion h.1 | cases hs
structure zal (G:Gc) (Hf0 H0 Hf H:Hp) (σ:St) (ρ:List Sl) : Prop where
 ext : Ext Hf0 H0 Hf H
 len : σ.length=ρ.length
 at' : ∀ (i:Nat) (v:Option V) (s:Sl),σ[i]?=some v->ρ[i]?=some s->zfa G H0 Hf H v s
 dj : ∀ (i j:Nat) (s t:Sl) (v w:V) (a:Addr),ρ[i]?=some s->ρ[j]?=some t->σ[i]?=some (some v)->σ[j]?=some (some w)->Holds G Hf H s v a->Holds G Hf H t w a->i=j
section
variable {G:Gc} {Hf0 H0 Hf H Hf' H':Hp} {σ:St} {ρ:List Sl}
theorem zal.sub (h:zal G Hf0 H0 Hf H σ ρ) : zas Hf H:=h.ext.s
theorem zal.inj (h:zal G Hf0 H0 Hf H σ ρ) (i j:Nat) (s t:Sl) (l:Addr) (a:ρ[i]?=some s) (b:ρ[j]?=some t) (hs:s.isOwn=true) (ht:t.isOwn=true) (c:σ[i]?=some (some (.ref l))) (d:σ[j]?=some (some (.ref l))) : i=j :=
 h.dj i j s t _ _ l a b c d ((Holds.own hs).mpr rfl) ((Holds.own ht).mpr rfl)
theorem zal.re {Hf0' H0':Hp} {ρ':List Sl} (h:zal G Hf0 H0 Hf H σ ρ) (x:Ext Hf0' H0' Hf' H') (hl:ρ'.length=ρ.length) (ha:∀ (i:Nat) (v:Option V) (s:Sl),σ[i]?=some v->ρ'[i]?=some s->zfa G H0' Hf' H' v s)
  (hd:∀ (i:Nat) (s:Sl) (v:V) (a:Addr),ρ'[i]?=some s->σ[i]?=some (some v)->Holds G Hf' H' s v a->∃ t,ρ[i]?=some t/\Holds G Hf H t v a) : zal G Hf0' H0' Hf' H' σ ρ' :=
 ⟨x,h.len.trans hl.symm,ha,fun i j s t v w a b c e f p q=>by
  obtain ⟨s0,b0,p0⟩:=hd i s v a b e p;obtain ⟨t0,c0,q0⟩:=hd j t w a c f q;exact h.dj i j s0 t0 v w a b0 c0 e f p0 q0⟩
theorem zal.step (h:zal G Hf0 H0 Hf H σ ρ) (e:Ext Hf H Hf' H') : zal G Hf0 H0 Hf' H' σ ρ:=by
 refine h.re (h.ext.trans e) rfl (fun i v s a b=>?_) fun i s v a b c d=>⟨s,b,(h.at' i _ s c b).back (fun o fp _ r=>r.up e.f e.h) d⟩;have q:=h.at' i v s a b
 cases hs : s.isOwn with
 | true =>
  obtain ⟨l,e1,e2,e3,e4⟩:=q.own hs;obtain ⟨o,ho,ht⟩:=e4.there2
  exact .ofOwn hs ⟨l,e1,e2,by rw [e.n l o ho ht]; exact e3,e4.up e.f fun o ho=>e.h _ _ ho⟩
 | false =>
  cases s with
  | no=>trivial
  | im d=>obtain ⟨u,e1,r⟩:=q; exact ⟨u,e1,r.up e.f⟩
  | val u=>exact q
  | deep o =>
   obtain ⟨u,fp,e1,r,n,z⟩:=q;refine ⟨u,fp,e1,r.up e.f e.h,n,fun a ha=>⟨(z a ha).1,?_⟩⟩;obtain ⟨oo,ho,ht⟩:=OT.memM o u fp r a ha;rw [e.n a oo ho ht]
   exact (z a ha).2
  | _=>cases hs
theorem zal.slot {i:Nat} {s:Sl} (h:zal G Hf0 H0 Hf H σ ρ) (e:ρ[i]?=some s) : ∃ v,σ[i]?=some v/\zfa G H0 Hf H v s:=by
 have hi : i < σ.length:=by rw [h.len]; exact (List.getElem?_eq_some_iff.mp e).1
 exact ⟨σ[i],by simp [hi],h.at' i _ s (by simp [hi]) e⟩
theorem zal.imm {i:Nat} {d:D} (h:zal G Hf0 H0 Hf H σ ρ) (e:ρ[i]?=some (.im d)) : ∃ v,σ[i]?=some (some v)/\Rep G Hf d v:=by
 obtain ⟨v,e1,u,e2,r⟩:=h.slot e;subst e2;exact ⟨u,e1,r⟩
theorem zal.ownAt {i:Nat} {s:Sl} (hs:s.isOwn=true) (h:zal G Hf0 H0 Hf H σ ρ) (e:ρ[i]?=some s) : ∃ l,σ[i]?=some (some (.ref l))/\H0 l=none/\Hf l=none/\zfm G Hf H l s:=by
 obtain ⟨v,e1,q⟩:=h.slot e;obtain ⟨l,e2,q2⟩:=q.own hs;rw [e2] at e1;exact ⟨l,e1,q2⟩
theorem zch {α : Type} {l:List α} {i j:Nat} {x y:α} (h:(l.set i x)[j]?=some y) : (j=i/\y=x/\i < l.length)\/(j≠i/\l[j]?=some y):=by
 by_cases hj : j=i
 ·subst hj;left;have hi : j < l.length:=by have:=(List.getElem?_eq_some_iff.mp h).1; simpa using this
  rw [List.getElem?_set_self hi] at h;exact ⟨rfl,(Option.some.inj h).symm,hi⟩
 ·right;rw [List.getElem?_set_ne (Ne.symm hj)] at h;exact ⟨hj,h⟩
theorem zal.setIm {i:Nat} {d:D} {v:V} (h:zal G Hf0 H0 Hf H σ ρ) (r:Rep G Hf d v) : zal G Hf0 H0 Hf H (σ.set i (some v)) (ρ.set i (.im d)):=by
 refine ⟨h.ext,by simpa using h.len,fun j u s a b=>?_,fun j k s t u w l a b c d' p q=>?_⟩
 ·rcases zch b with ⟨e,e',_⟩ | ⟨e,b⟩
  ·subst e e'
   rcases zch a with ⟨_,e',_⟩ | ⟨e,_⟩
   ·subst e'; exact ⟨v,rfl,r⟩
   ·exact absurd rfl e
  ·rcases zch a with ⟨e',_⟩ | ⟨_,a⟩
   ·exact absurd e' e
   ·exact h.at' j u s a b
 ·rcases zch a with ⟨e,e',_⟩ | ⟨e,a⟩
  ·subst e'; exact (p.calm rfl).elim
  ·rcases zch b with ⟨e2,e',_⟩ | ⟨e2,b⟩
   ·subst e'; exact (q.calm rfl).elim
   ·rcases zch c with ⟨e',_⟩ | ⟨_,c⟩
    ·exact absurd e' e
    ·rcases zch d' with ⟨e',_⟩ | ⟨_,d'⟩
     ·exact absurd e' e2
     ·exact h.dj j k s t u w l a b c d' p q
theorem zal.setNo {i:Nat} (h:zal G Hf0 H0 Hf H σ ρ) : zal G Hf0 H0 Hf H σ (ρ.set i .no):=by
 refine h.re h.ext (by simp) (fun j u s a b=>?_) fun j s v a b c d=>?_
 ·rcases zch b with ⟨e,e',_⟩ | ⟨e,b⟩
  ·subst e'; trivial
  ·exact h.at' j u s a b
 ·rcases zch b with ⟨e,e',_⟩ | ⟨e,b⟩
  ·subst e'; exact (d.calm rfl).elim
  ·exact ⟨s,b,d⟩
theorem zal.setNew {i:Nat} {u:V} {s:Sl} (h:zal G Hf0 H0 Hf H σ ρ) (e:Ext Hf H Hf' H') (ho:zfa G H0 Hf' H' (some u) s) (hn:∀ a,Holds G Hf' H' s u a->H a=none) :
  zal G Hf0 H0 Hf' H' (σ.set i (some u)) (ρ.set i s):=by
 have h':=h.step e
 have no : ∀ (j:Nat) (t:Sl) (w:V) (a:Addr),ρ[j]?=some t->σ[j]?=some (some w)->Holds G Hf' H' t w a->Holds G Hf' H' s u a->False:=fun j t w a b c p q=>by
  have p0:=(h.at' j _ t c b).back (fun o fp _ r=>r.up e.f e.h) p;obtain ⟨o,ho,_⟩:=(h.at' j _ t c b).there p0;rw [hn a q] at ho; cases ho
 refine ⟨h'.ext,by simpa using h.len,fun j w t a b=>?_,fun j k t t' v w l a b c d' p q=>?_⟩
 ·rcases zch b with ⟨e,e',_⟩ | ⟨e,b⟩
  ·subst e e'
   rcases zch a with ⟨_,e',_⟩ | ⟨e,_⟩
   ·subst e'; exact ho
   ·exact absurd rfl e
  ·rcases zch a with ⟨e',_⟩ | ⟨_,a⟩
   ·exact absurd e' e
   ·exact h'.at' j w t a b
 ·rcases zch a with ⟨e1,e1',_⟩ | ⟨e1,a⟩
  ·rcases zch b with ⟨e2,e2',_⟩ | ⟨e2,b⟩
   ·rw [e1,e2]
   ·rcases zch c with ⟨_,e',_⟩ | ⟨e',_⟩
    ·cases e';rw [e1'] at p
     rcases zch d' with ⟨e',_⟩ | ⟨_,d'⟩
     ·exact absurd e' e2
     ·exact (no k t' w l b d' q p).elim
    ·exact absurd e1 e'
  ·rcases zch c with ⟨e',_⟩ | ⟨_,c⟩
   ·exact absurd e' e1
   ·rcases zch b with ⟨e2,e2',_⟩ | ⟨e2,b⟩
    ·rcases zch d' with ⟨_,e',_⟩ | ⟨e',_⟩
     ·cases e';rw [e2'] at q;exact (no j t v l a c p q).elim
     ·exact absurd e2 e'
    ·rcases zch d' with ⟨e',_⟩ | ⟨_,d'⟩
     ·exact absurd e' e2
     ·exact h'.dj j k t t' v w l a b c d' p q
theorem zal.setOwn {i:Nat} {l:Addr} {s:Sl} (hs:s.isOwn=true) (h:zal G Hf0 H0 Hf H σ ρ) (e:Ext Hf H Hf' H') (hn:H l=none) (hf:Hf' l=none) (ho:zfm G Hf' H' l s) :
  zal G Hf0 H0 Hf' H' (σ.set i (some (.ref l))) (ρ.set i s) :=
 h.setNew e (.ofOwn hs ⟨l,rfl,h.ext.h.free hn,hf,ho⟩) fun a p=>by cases (Holds.own hs).mp p; exact hn
theorem zal.chg {i:Nat} {s s':Sl} {v:V} (h:zal G Hf0 H0 Hf H σ ρ) (e:ρ[i]?=some s) (el:σ[i]?=some (some v)) (k:∀ b u,H b=some u->Holds G Hf H s v b\/H' b=some u) (ho:zfa G H0 Hf H' (some v) s')
  (hh:∀ a,Holds G Hf H' s' v a->Holds G Hf H s v a\/∀ (j:Nat) (t:Sl) (w:V),ρ[j]?=some t->σ[j]?=some (some w)->Holds G Hf H t w a->False) : zal G Hf0 H0 Hf H' σ (ρ.set i s'):=by
 have q:=h.at' i _ s el e
 have gone : ∀ b,Holds G Hf H s v b->H0 b=none/\Hf b=none:=fun b p=>by
  cases hs : s.isOwn with
  | true =>
   obtain ⟨l,e1,h0,hf,_⟩:=q.own hs;have e2:=(Holds.own hs).mp p;cases e1;cases e2
   exact ⟨h0,hf⟩
  | false =>
   cases s with
   | deep o =>
    obtain ⟨u,fp,e1,r,n,z⟩:=q;cases e1;obtain ⟨fp',r',ha⟩:=p;have:=OT.funM o v fp fp' r r';subst this
    exact z b ha
   | _=>first | exact Bool.noConfusion p.1 | cases hs
 have fr : ∀ (j:Nat) (t:Sl) (w:V),j≠i->ρ[j]?=some t->σ[j]?=some (some w)->∀ o fp,t=.deep o->OT G Hf H o w fp->OT G Hf H' o w fp:=fun j t w hj b c o fp et r=>by
  subst et;refine r.frame (zas.refl _) fun x u hx hm=>?_
  rcases k x u hx with z | z
  ·rcases hm with hm | hm
   ·obtain ⟨o',ho',ht'⟩:=q.there z;rw [hx] at ho';cases ho';rw [hm] at ht';cases ht'
   ·exact absurd (h.dj j i _ s w v x b e c el ⟨fp,r,hm⟩ z) hj
  ·exact z
 refine ⟨⟨h.ext.f,fun b u e=>?_,fun b u e=>?_,h.ext.n⟩,by simpa using h.len,fun j u t a b=>?_,fun j j' t t' w w' a b c b' c' p p'=>?_⟩
 ·rcases k b u (h.ext.h b u e) with z | z
  ·rw [(gone b z).1] at e; cases e
  ·exact z
 ·rcases k b u (h.ext.s b u e) with z | z
  ·rw [(gone b z).2] at e; cases e
  ·exact z
 ·rcases zch b with ⟨e',e2,_⟩ | ⟨en,b⟩
  ·subst e' e2;rw [el] at a; cases a;exact ho
  ·have q':=h.at' j u t a b
   cases ht : t.isOwn with
   | false =>
    cases t with
    | no=>trivial
    | im d=>exact q'
    | val u=>exact q'
    | deep o =>
     obtain ⟨w,fp,e1,r,n,z⟩:=q';subst e1
     exact ⟨w,fp,rfl,fr j _ w en b a o fp rfl r,n,z⟩
    | _=>cases ht
   | true =>
    obtain ⟨l2,e2,e3,e4,q2⟩:=q'.own ht;subst e2;refine .ofOwn ht ⟨l2,rfl,e3,e4,q2.up (zas.refl _) fun o' ho'=>?_⟩
    rcases k l2 o' ho' with z | z
    ·exact absurd (h.dj j i t s _ v l2 b e a el ((Holds.own ht).mpr rfl) z) en
    ·exact z
 ·have old : ∀ (j:Nat) (t:Sl) (w:V),(ρ.set i s')[j]?=some t->σ[j]?=some (some w)->Holds G Hf H' t w a->(j=i/\∀ (j:Nat) (t:Sl) (w:V),ρ[j]?=some t->σ[j]?=some (some w)->Holds G Hf H t w a->False)\/∃ t0,ρ[j]?=some t0/\Holds G Hf H t0 w a:=fun j t w b y p=>by
   rcases zch b with ⟨e',e2,_⟩ | ⟨en,b⟩
   ·rw [e2] at p;rw [e',el] at y;cases y;rw [e']
    rcases hh a p with z | z
    ·exact .inr ⟨s,e,z⟩
    ·exact .inl ⟨rfl,z⟩
   ·exact .inr ⟨t,b,(h.at' j _ t y b).back (fr j t w en b y) p⟩
  rcases old j t w b b' p with ⟨z1,z2⟩ | ⟨t0,z1,z2⟩
  ·rcases old j' t' w' c c' p' with ⟨y1,y2⟩ | ⟨t1,y1,y2⟩
   ·rw [z1,y1]
   ·exact (z2 j' t1 w' y1 c' y2).elim
  ·rcases old j' t' w' c c' p' with ⟨y1,y2⟩ | ⟨t1,y1,y2⟩
   ·exact (y2 j t0 w z1 b' z2).elim
   ·exact h.dj j j' t0 t1 w w' a z1 y1 b' c' z2 y2
theorem zal.mutd {i:Nat} {l:Addr} {s s':Sl} {o:HO} (hs:s.isOwn=true) (hs':s'.isOwn=true) (h:zal G Hf0 H0 Hf H σ ρ) (e:ρ[i]?=some s) (el:σ[i]?=some (some (.ref l))) (ho:zfm G Hf (upd H l o) l s') :
  zal G Hf0 H0 Hf (upd H l o) σ (ρ.set i s'):=by
 obtain ⟨l',e1,h0,hf,q⟩:=h.ownAt hs e;rw [el] at e1; cases e1;refine h.chg e el (fun b u hb=>?_) (.ofOwn hs' ⟨l,rfl,h0,hf,ho⟩) fun a p=>.inl ?_
 ·by_cases hl : b=l
  ·subst hl; exact .inl ((Holds.own hs).mpr rfl)
  ·exact .inr (by rw [zbi hl]; exact hb)
 ·exact (Holds.own hs).mpr ((Holds.own hs').mp p)
theorem zal.fixd {i:Nat} {l:Addr} {s:Sl} {d:D} {o:HO} (hs:s.isOwn=true) (h:zal G Hf0 H0 Hf H σ ρ) (e:ρ[i]?=some s) (el:σ[i]?=some (some (.ref l))) (ho:H l=some o) (hr:Rep G (upd Hf l o) d (.ref l)) :
  zal G Hf0 H0 (upd Hf l o) H σ (ρ.set i (.im d)):=by
 obtain ⟨l',e1,h0,hf,q⟩:=h.ownAt hs e;rw [el] at e1; cases e1;refine h.re (h.ext.fix h0 hf ho) (by simp) (fun j u t a b=>?_) fun j t v a b c p=>?_
 ·rcases zch b with ⟨e,e',_⟩ | ⟨en,b⟩
  ·subst e e';rw [el] at a; cases a;exact ⟨_,rfl,hr⟩
  ·have q:=h.at' j u t a b
   cases ht : t.isOwn with
   | false =>
    cases t with
    | no=>trivial
    | im d=>obtain ⟨u',e1,r⟩:=q; exact ⟨u',e1,r.up (zc3 hf)⟩
    | val u'=>exact q
    | deep o =>
     obtain ⟨w,fp,e1,r,n,z⟩:=q;subst e1;refine ⟨w,fp,rfl,r.up (zc3 hf) (zas.refl _),n,fun x hx=>⟨(z x hx).1,?_⟩⟩;rw [zbi (fun y=>?_)]
     ·exact (z x hx).2
     ·subst y
      exact en (h.dj j i _ s w _ x b e a el ⟨fp,r,hx⟩ ((Holds.own hs).mpr rfl))
    | _=>cases ht
   | true =>
    obtain ⟨l2,e2,e3,e4,q2⟩:=q.own ht;subst e2;refine .ofOwn ht ⟨l2,rfl,e3,?_,q2.up (zc3 hf) fun o' ho'=>ho'⟩;rw [zbi (fun z=>?_)]
    ·exact e4
    ·subst z;exact en (h.inj j i t s l2 b e ht hs a el)
 ·rcases zch b with ⟨_,e',_⟩ | ⟨_,b⟩
  ·subst e'; exact (p.calm rfl).elim
  ·exact ⟨t,b,(h.at' j _ t c b).back (fun o fp _ r=>r.up (zc3 hf) (zas.refl _)) p⟩
end
section
variable {X:Cx} {e:Expr}
theorem PE.imp {t t':TE} (h:PE X e t) (i:∀ σ H Q,t' σ H Q->t σ H Q) : PE X e t':=fun pins s σ H Q I q=>h pins s σ H Q I (i σ H Q q)
theorem PT.imp {t t':TT} (h:PT X e t) (i:∀ σ H Q,t' σ H Q->t σ H Q) : PT X e t':=fun pins s σ H Q I q=>h pins s σ H Q I (i σ H Q q)
theorem PW.imp {t t':TT} (h:PW X e t) (i:∀ σ H Q,t' σ H Q->t σ H Q) : PW X e t':=fun wh pins s σ H Q I q=>h wh pins s σ H Q I (i σ H Q q)
theorem PA.imp {es:List Expr} {t t':TA} (h:PA X es t) (i:∀ σ H Q,t' σ H Q->t σ H Q) : PA X es t':=fun pos pins s σ H Q I q=>h pos pins s σ H Q I (i σ H Q q)
theorem PS.imp {st:Stmt} {t t':TS} (h:PS X st t) (i:∀ E σ H,t' E σ H->t E σ H) : PS X st t':=fun pins s σ H E I q=>h pins s σ H E I (i E σ H q)
theorem PSs.imp {st:List Stmt} {t t':TS} (h:PSs X st t) (i:∀ E σ H,t' E σ H->t E σ H) : PSs X st t':=fun pins s σ H E I q=>h pins s σ H E I (i E σ H q)
theorem PG.imp {t t':TG} (h:PG X e t) (i:∀ v σ H Q,t' v σ H Q->t v σ H Q) : PG X e t':=fun pins s σ H v u Q I r q=>h pins s σ H v u Q I r (i v σ H Q q)
theorem PGs.imp {es:List Expr} {t t':TGs} (h:PGs X es t) (i:∀ v σ H Q,t' v σ H Q->t v σ H Q) : PGs X es t':=fun pins s σ H v u Q I r q=>h pins s σ H v u Q I r (i v σ H Q q)
theorem PI.imp {tg:Expr} {t t':TI} (h:PI X tg e t) (i:∀ σ H R,t' σ H R->t σ H R) : PI X tg e t':=fun pins s σ H R I q=>h pins s σ H R I (i σ H R q)
theorem PTs.imp {ifs:List Expr} {t t':TT} (h:PTs X ifs t) (i:∀ σ H Q,t' σ H Q->t σ H Q) : PTs X ifs t':=fun pins s σ H Q I q=>h pins s σ H Q I (i σ H Q q)
end
noncomputable abbrev Gx (c:Str->Addr) (X:Cx) : Gc:=⟨X.K,c⟩
noncomputable def tD (G:Gc) (f:List Sl->Option D) : TE:=fun σ H Q=>∃ Hf0 H0 Hf ρ d,zal G Hf0 H0 Hf H σ ρ/\f ρ=some d/\∀ v Hf' H',Ext Hf H Hf' H'->Rep G Hf' d v->Q v H'
noncomputable def tDB (G:Gc) (f:List Sl->Option D) : TE:=fun σ H Q=>∃ Hf0 H0 Hf ρ d,zal G Hf0 H0 Hf H σ ρ/\f ρ=some d/\∀ v Hf' H',Ext Hf H Hf' H'->Rep G H' d v->Q v H'
noncomputable def tDC (G:Gc) (f:List Sl->Option (List D)) : TE:=fun σ H Q=>∃ Hf0 H0 Hf ρ ds,zal G Hf0 H0 Hf H σ ρ/\f ρ=some ds/\∀ a vs Hf' H',Ext Hf H Hf' H'->(SqL G.K H' a vs\/SqT G.K H' a vs)->zao G Hf' ds vs->Q (.ref a) H'
noncomputable def tDO (G:Gc) (f:List Sl->Option (List D)) : TE:=fun σ H Q=>∃ Hf0 H0 Hf ρ ds,zal G Hf0 H0 Hf H σ ρ/\f ρ=some ds /\
 ∀ l vs Hf' H',Ext Hf H Hf' H'->H l=none->Hf' l=none->H' l=some (.lst vs)->zao G Hf' ds vs->Q (.ref l) H'
noncomputable def tDA (G:Gc) (f:List Sl->Option (List D)) : TA:=fun σ H Q=>∃ Hf0 H0 Hf ρ ds,zal G Hf0 H0 Hf H σ ρ/\f ρ=some ds/\∀ vs Hf' H',Ext Hf H Hf' H'->zao G Hf' ds vs->Q vs H'
noncomputable def yc7 (G:Gc) (f:List Sl->Option (List D)) : TA:=fun σ H Q=>∃ Hf0 H0 Hf ρ ds,zal G Hf0 H0 Hf H σ ρ/\f ρ=some ds/\∀ vs Hf' H',Ext Hf H Hf' H'->zao G H' ds vs->Q vs H'
noncomputable def tDT (G:Gc) (f:List Sl->Option Bool) : TT:=fun σ H Q=>∃ Hf0 H0 Hf ρ b,zal G Hf0 H0 Hf H σ ρ/\f ρ=some b/\∀ Hf' H',Ext Hf H Hf' H'->Q b H'
noncomputable def DE (c:Str->Addr) (X:Cx) (e:Expr) (f:List Sl->Option D) : Prop:=PE X e (tD (Gx c X) f)
noncomputable def DB (c:Str->Addr) (X:Cx) (e:Expr) (f:List Sl->Option D) : Prop:=PE X e (tDB (Gx c X) f)
noncomputable def DC (c:Str->Addr) (X:Cx) (e:Expr) (f:List Sl->Option (List D)) : Prop:=PE X e (tDC (Gx c X) f)
noncomputable def DO (c:Str->Addr) (X:Cx) (e:Expr) (f:List Sl->Option (List D)) : Prop:=PE X e (tDO (Gx c X) f)
structure DA (c:Str->Addr) (X:Cx) (es:List Expr) (f:List Sl->Option (List D)) : Prop where
 pa : PA X es (tDA (Gx c X) f)
 len : ∀ ρ ds,f ρ=some ds->ds.length=es.length
structure DAB (c:Str->Addr) (X:Cx) (es:List Expr) (f:List Sl->Option (List D)) : Prop where
 pa : PA X es (yc7 (Gx c X) f)
 len : ∀ ρ ds,f ρ=some ds->ds.length=es.length
noncomputable def DT (c:Str->Addr) (X:Cx) (e:Expr) (f:List Sl->Option Bool) : Prop:=PT X e (tDT (Gx c X) f)
noncomputable def DW (c:Str->Addr) (X:Cx) (e:Expr) (f:List Sl->Option Bool) : Prop:=PW X e (tDT (Gx c X) f)
noncomputable def D.scalar : D->Bool
 | .non=>true
 | .bl _=>true
 | .int _=>true
 | .str _=>true
 | _=>false
theorem Rep.sc {G:Gc} {H H':Hp} {d:D} {v:V} (hs:d.scalar=true) (r:Rep G H d v) : Rep G H' d v:=by
 cases d <;> first | exact r | cases hs
noncomputable def zij : D->Option (List D)
 | .lst xs=>some xs
 | .tup xs=>some xs
 | .kl xs=>some xs
 | .kt xs=>some xs
 | _=>none
theorem zrz {G:Gc} {H:Hp} {d:D} {v:V} {ds:List D} (e:zij d=some ds) (r:Rep G H d v) : ∃ a vs,v=.ref a/\(SqL G.K H a vs\/SqT G.K H a vs)/\zao G H ds vs:=by
 cases d with
 | lst xs=>cases e; obtain ⟨a,vs,e1,q,r⟩:=r; exact ⟨a,vs,e1,.inl (SqL.of q),r⟩
 | tup xs=>cases e; obtain ⟨a,vs,e1,q,r⟩:=r; exact ⟨a,vs,e1,.inr (SqT.of q),r⟩
 | kl xs=>cases e; obtain ⟨a,vs,e1,q,r⟩:=r; exact ⟨a,vs,e1,.inl q,r⟩
 | kt xs=>cases e; obtain ⟨a,vs,e1,q,r⟩:=r; exact ⟨a,vs,e1,.inr q,r⟩
 | _=>cases e
theorem zvd {K:PySem.W.Frag} {H H':Hp} (s:zas H H') {a:Addr} {vs:List V} (h:SqL K H a vs\/SqT K H a vs) : SqL K H' a vs\/SqT K H' a vs:=h.imp s.seq s.tup
noncomputable def zb3 (f:List Sl->Option (List D)) (ρ:List Sl) : Option D:=(f ρ).map .lst
noncomputable def znv (f:List Sl->Option (List D)) (ρ:List Sl) : Option D:=(f ρ).map .tup
noncomputable def zeo (f:List Sl->Option D) (ρ:List Sl) : Option (List D):=(f ρ).bind zij
section
variable {c:Str->Addr} {X:Cx} {e a b:Expr} {es:List Expr} {pos:Pos}
theorem DE.db {f:List Sl->Option D} (h:DE c X e f) : DB c X e f:=PE.imp h fun σ H Q q_=>by
 obtain ⟨Hf0,H0,Hf,ρ,d,st,ef,k⟩:=q_;exact (⟨Hf0,H0,Hf,ρ,d,st,ef,fun v Hf' H' x r=>k v Hf' H' x (r.up x.s)⟩)
theorem DE.dc {f:List Sl->Option D} (h:DE c X e f) : DC c X e (zeo f):=PE.imp h fun σ H Q q_=>by
 obtain ⟨Hf0,H0,Hf,ρ,ds,st,ef,k⟩:=q_;unfold zeo at ef
 cases ed : f ρ with
 | none=>rw [ed] at ef; cases ef
 | some d =>
  rw [ed] at ef;refine ⟨Hf0,H0,Hf,ρ,d,st,ed,fun v Hf' H' x r=>?_⟩;obtain ⟨a,vs,e1,q,rs⟩:=zrz ef r;subst e1;exact k a vs Hf' H' x (zvd x.s q) rs
theorem DO.de {f:List Sl->Option (List D)} (h:DO c X e f) : DE c X e (zb3 f):=PE.imp h fun σ H Q q_=>by
 obtain ⟨Hf0,H0,Hf,ρ,d,st,ef,k⟩:=q_;unfold zb3 at ef
 cases ed : f ρ with
 | none=>rw [ed] at ef; cases ef
 | some ds =>
  rw [ed] at ef;have ef : D.lst ds=d:=Option.some.inj ef;subst ef;exact ⟨Hf0,H0,Hf,ρ,ds,st,ed,fun l vs Hf' H' x hn hf hl r=>k _ (upd Hf' l (.lst vs)) H' (x.fix hn hf hl) ⟨l,vs,rfl,zcd,r.up (zc3 hf)⟩⟩
theorem DO.dc {f:List Sl->Option (List D)} (h:DO c X e f) : DC c X e f:=PE.imp h fun σ H Q q_=>by
 obtain ⟨Hf0,H0,Hf,ρ,ds,st,ef,k⟩:=q_;exact (
 ⟨Hf0,H0,Hf,ρ,ds,st,ef,fun l vs Hf' H' x hn hf hl r=>k l vs Hf' H' x (.inl (SqL.of hl)) r⟩)
noncomputable def zab (i:Nat) (ρ:List Sl) : Option D:=match ρ[i]? with
 | some (.im d)=>some d
 | _=>none
noncomputable def zkt (i:Nat) (ρ:List Sl) : Option D:=match ρ[i]? with
 | some (.im d)=>some d
 | some (.own xs)=>some (.lst xs)
 | some (.ownd ks xs)=>some (.dic ks xs)
 | some (.deep o)=>if o.kn then some o.toD else none
 | _=>none
noncomputable def zbk (i:Nat) (ρ:List Sl) : Option (List D):=match ρ[i]? with
 | some (.im d)=>zij d
 | some (.own xs)=>some xs
 | _=>none
theorem z7h {i:Nat} {ρ:List Sl} {d:D} (h:zab i ρ=some d) : ρ[i]?=some (.im d):=by
 unfold zab at h
 cases e : ρ[i]? with
 | none=>rw [e] at h; cases h
 | some s=>rw [e] at h; cases s <;> cases h; rfl
theorem zwq {i:Nat} (h:PE X e (zc8 i)) : DE c X e (zab i):=PE.imp h fun σ H Q q_=>by
 obtain ⟨Hf0,H0,Hf,ρ,d,st,ef,k⟩:=q_;obtain ⟨v,e1,r⟩:=st.imm (z7h ef);exact ⟨v,e1,k v Hf H (Ext.refl st.sub) r⟩
theorem zwn {i:Nat} (h:PE X e (zc8 i)) : DC c X e (zbk i):=PE.imp h fun σ H Q q_=>by
 obtain ⟨Hf0,H0,Hf,ρ,ds,st,ef,k⟩:=q_;unfold zbk at ef
 cases es : ρ[i]? with
 | none=>rw [es] at ef; cases ef
 | some s =>
  rw [es] at ef
  cases s with
  | im d =>
   obtain ⟨v,e1,r⟩:=st.imm es;obtain ⟨a,vs,e2,q,rs⟩:=zrz ef r;subst e2
   exact ⟨_,e1,k a vs Hf H (Ext.refl st.sub) (zvd st.sub q) rs⟩
  | own xs =>
   cases ef;obtain ⟨l,e1,_,_,vs,q,r⟩:=st.ownAt rfl es
   exact ⟨_,e1,k l vs Hf H (Ext.refl st.sub) (.inl (SqL.of q)) r⟩
  | _=>cases ef
theorem z4g {i:Nat} (h:PE X e (zc8 i)) : DB c X e (zkt i):=PE.imp h fun σ H Q q_=>by
 obtain ⟨Hf0,H0,Hf,ρ,d,st,ef,k⟩:=q_;unfold zkt at ef
 cases es : ρ[i]? with
 | none=>rw [es] at ef; cases ef
 | some s =>
  rw [es] at ef
  cases s with
  | im d =>
   cases ef;obtain ⟨v,e1,r⟩:=st.imm es
   exact ⟨_,e1,k v Hf H (Ext.refl st.sub) (r.up st.sub)⟩
  | own xs =>
   cases ef;obtain ⟨l,e1,_,_,vs,q,r⟩:=st.ownAt rfl es
   exact ⟨_,e1,k _ Hf H (Ext.refl st.sub) ⟨l,vs,rfl,q,r.up st.sub⟩⟩
  | ownd ks xs =>
   cases ef;obtain ⟨l,e1,_,_,vs,q,z,r⟩:=st.ownAt rfl es
   exact ⟨_,e1,k _ Hf H (Ext.refl st.sub) ⟨l,vs,rfl,q,z,r.up st.sub⟩⟩
  | deep o =>
   replace ef : (if o.kn=true then some o.toD else none)=some d:=ef;split at ef
   ·rename_i hk;cases ef;obtain ⟨v,e1,u,fp,e2,r,_⟩:=st.slot es;subst e2;exact ⟨_,e1,k _ Hf H (Ext.refl st.sub) (r.rep st.sub hk)⟩
   ·cases ef
  | _=>cases ef
theorem zss {v:V} {d:D} (h:PE X e (tC v)) (r:∀ G H,Rep G H d v) : DE c X e (fun _=>some d):=PE.imp h fun σ H Q q_=>by
 obtain ⟨Hf0,H0,Hf,ρ,d',st,ef,k⟩:=q_;cases ef;exact k v Hf H (Ext.refl st.sub) (r _ _)
theorem zae {i:Int} {j} : DE c X (.Constant (.int i) j pos) (fun _=>some (.int i)):=zss z9s fun _ _=>rfl
theorem zhb {i:Bool} {j} : DE c X (.Constant (.bool i) j pos) (fun _=>some (.bl i)):=zss z9o fun _ _=>rfl
theorem zar {i:Str} {j} : DE c X (.Constant (.str i) j pos) (fun _=>some (.str i)):=zss z0c fun _ _=>rfl
theorem dv (i:Nat) {x:Str} (hN:X.N[i]?=some x:=by rfl) (hv:Vis X.env.scope x:=by first | exact Or.inl rfl | exact Or.inr (Or.inl rfl) | exact Or.inr (Or.inr rfl)) (hd:(x==("__debug__" : Str))=false:=by decide)
  (hcd:(x==("__classdict__" : Str))=false:=by decide) : DE c X (.Name x pos) (zab i):=zwq (zhr hN hv hd hcd)
theorem dvC (i:Nat) {x:Str} (hN:X.N[i]?=some x:=by rfl) (hv:Vis X.env.scope x:=by first | exact Or.inl rfl | exact Or.inr (Or.inl rfl) | exact Or.inr (Or.inr rfl)) (hd:(x==("__debug__" : Str))=false:=by decide)
  (hcd:(x==("__classdict__" : Str))=false:=by decide) : DC c X (.Name x pos) (zbk i):=zwn (zhr hN hv hd hcd)
theorem dvB (i:Nat) {x:Str} (hN:X.N[i]?=some x:=by rfl) (hv:Vis X.env.scope x:=by first | exact Or.inl rfl | exact Or.inr (Or.inl rfl) | exact Or.inr (Or.inr rfl)) (hd:(x==("__debug__" : Str))=false:=by decide)
  (hcd:(x==("__classdict__" : Str))=false:=by decide) : DB c X (.Name x pos) (zkt i):=z4g (zhr hN hv hd hcd)
noncomputable def zad (f:List Sl->Option D) (g:List Sl->Option (List D)) (ρ:List Sl) : Option (List D):=(f ρ).bind fun d=>(g ρ).map fun ds=>d::ds
theorem zqc {f:List Sl->Option D} {g:List Sl->Option (List D)} {ρ:List Sl} {ds:List D} (h:zad f g ρ=some ds) : ∃ d r,f ρ=some d/\g ρ=some r/\ds=d::r:=by
 unfold zad at h
 cases e1 : f ρ with
 | none=>rw [e1] at h; cases h
 | some d =>
  cases e2 : g ρ with
  | none=>rw [e1,e2] at h; cases h
  | some r=>rw [e1,e2] at h; cases h; exact ⟨d,r,rfl,rfl,rfl⟩
theorem za6 : DA c X [] (fun _=>some []):=⟨PA.imp zde fun σ H Q ⟨Hf0,H0,Hf,ρ,ds,st,ef,k⟩=>by cases ef; exact k [] Hf H (Ext.refl st.sub) rfl,fun ρ ds h=>by cases h; rfl⟩
theorem zan {f:List Sl->Option D} {g:List Sl->Option (List D)} (ha:DE c X e f) (hr:DA c X es g) (hs:starEach (e::es) X.env=(false,eval e X.env)::starEach es X.env:=by rfl) : DA c X (e::es) (zad f g):=by
 refine ⟨PA.imp (zct ha hr.pa hs) fun σ H Q ⟨Hf0,H0,Hf,ρ,ds,st,ef,k⟩=>?_,fun ρ ds h=>?_⟩
 ·obtain ⟨d,r,e1,e2,rfl⟩:=zqc ef;exact ⟨Hf0,H0,Hf,ρ,d,st,e1,fun v Hf1 H1 x1 r1=>⟨Hf0,H0,Hf1,ρ,r,st.step x1,e2,fun vs Hf2 H2 x2 r2=>k _ Hf2 H2 (x1.trans x2) (.cons (r1.up x2.f) r2)⟩⟩
 ·obtain ⟨d,r,e1,e2,rfl⟩:=zqc h;simp [hr.len ρ r e2]
theorem zec : DAB c X [] (fun _=>some []):=⟨PA.imp zde fun σ H Q ⟨Hf0,H0,Hf,ρ,ds,st,ef,k⟩=>by cases ef; exact k [] Hf H (Ext.refl st.sub) rfl,fun ρ ds h=>by cases h; rfl⟩
theorem zeb {f:List Sl->Option D} {g:List Sl->Option (List D)} (ha:DB c X e f) (hr:DAB c X es g) (hs:starEach (e::es) X.env=(false,eval e X.env)::starEach es X.env:=by rfl) : DAB c X (e::es) (zad f g):=by
 refine ⟨PA.imp (zct ha hr.pa hs) fun σ H Q ⟨Hf0,H0,Hf,ρ,ds,st,ef,k⟩=>?_,fun ρ ds h=>?_⟩
 ·obtain ⟨d,r,e1,e2,rfl⟩:=zqc ef;exact ⟨Hf0,H0,Hf,ρ,d,st,e1,fun v Hf1 H1 x1 r1=>⟨Hf0,H0,Hf1,ρ,r,st.step x1,e2,fun vs Hf2 H2 x2 r2=>k _ Hf2 H2 (x1.trans x2) (.cons (r1.up x2.h) r2)⟩⟩
 ·obtain ⟨d,r,e1,e2,rfl⟩:=zqc h;simp [hr.len ρ r e2]
theorem zci {f:List Sl->Option (List D)} (h:DA c X es f) (hz:es.length<=1000:=by exact Nat.le_of_ble_eq_true rfl) : DO c X (.List es pos) f:=PE.imp (zun h.pa) fun σ H Q ⟨Hf0,H0,Hf,ρ,ds,st,ef,k⟩ =>
 ⟨Hf0,H0,Hf,ρ,ds,st,ef,fun vs Hf' H' x r=>⟨by
  rw [<- r.length,h.len ρ ds ef];exact Nat.le_of_lt (zr0 hz),fun p hp=>k p vs Hf' (upd H' p (.lst vs)) (x.trans (Ext.tmp x.s hp)) (x.h.free hp) (x.s.free hp) zcd r⟩⟩
theorem zsu {f:List Sl->Option (List D)} {k':Nat} (h:DA c X es f) (hz:es.length<=1000:=by exact Nat.le_of_ble_eq_true rfl) : DE c X (.Tuple es k' pos) (znv f):=PE.imp (z0d h.pa) fun σ H Q q_=>by
 obtain ⟨Hf0,H0,Hf,ρ,d,st,ef,k⟩:=q_;unfold znv at ef
 cases ed : f ρ with
 | none=>rw [ed] at ef; cases ef
 | some ds =>
  rw [ed] at ef;have ef : D.tup ds=d:=Option.some.inj ef;subst ef
  exact ⟨Hf0,H0,Hf,ρ,ds,st,ed,fun vs Hf' H' x r=>⟨by
   rw [<- r.length,h.len ρ ds ed];exact Nat.le_of_lt (zr0 hz),fun p hp=>k _ (upd Hf' p (.tup vs)) (upd H' p (.tup vs)) (x.trans (Ext.new x.s hp)) ⟨p,vs,rfl,zcd,r.up (zc3 (x.s.free hp))⟩⟩⟩
noncomputable def rD (G:Gc) (m:D->D->Option D) : R2:=fun vx vy H Q=>∃ Hf x y d,zas Hf H/\Rep G Hf x vx/\Rep G Hf y vy/\m x y=some d/\∀ v Hf' H',Ext Hf H Hf' H'->Rep G Hf' d v->Q v H'
noncomputable abbrev OpD (c:Str->Addr) (X:Cx) (f:Value->Value->Sem Value) (m:D->D->Option D) : Prop:=OpR X f (rD (Gx c X) m)
noncomputable def m2 (m:D->D->Option D) (f g:List Sl->Option D) (ρ:List Sl) : Option D:=(f ρ).bind fun x=>(g ρ).bind fun y=>m x y
theorem zp8 {m:D->D->Option D} {f g:List Sl->Option D} {ρ:List Sl} {d:D} (h:m2 m f g ρ=some d) : ∃ x y,f ρ=some x/\g ρ=some y/\m x y=some d:=by
 unfold m2 at h
 cases e1 : f ρ with
 | none=>rw [e1] at h; cases h
 | some x =>
  cases e2 : g ρ with
  | none=>rw [e1,e2] at h; cases h
  | some y=>rw [e1,e2] at h; exact ⟨x,y,rfl,rfl,h⟩
theorem two {m:D->D->Option D} {f g:List Sl->Option D} {r:R2} {σ:St} {H:Hp} {Q:VK} (hr:∀ x y H Q,rD (Gx c X) m x y H Q->r x y H Q) (h:tD (Gx c X) (m2 m f g) σ H Q) : tOp r (tD (Gx c X) f) (tD (Gx c X) g) σ H Q:=by
 obtain ⟨Hf0,H0,Hf,ρ,d,st,ef,k⟩:=h;obtain ⟨x,y,e1,e2,e3⟩:=zp8 ef;exact ⟨Hf0,H0,Hf,ρ,x,st,e1,fun v Hf1 H1 x1 r1=>⟨Hf0,H0,Hf1,ρ,y,st.step x1,e2,fun u Hf2 H2 x2 r2=>hr _ _ _ _ ⟨Hf2,x,y,d,x2.s,r1.up x2.f,r2,e3,fun w Hf3 H3 x3 r3=>k w Hf3 H3 ((x1.trans x2).trans x3) r3⟩⟩⟩
theorem z2u {m:D->D->Option D} {f g:List Sl->Option D} {r:R2} {σ:St} {H:Hp} {Q:VK} (hr:∀ x y H Q,rD (Gx c X) m x y H Q->r x y H Q) (hs:∀ x y d,m x y=some d->d.scalar=true) (h:tD (Gx c X) (m2 m f g) σ H Q) : tOp r (tDB (Gx c X) f) (tDB (Gx c X) g) σ H Q:=by
 obtain ⟨Hf0,H0,Hf,ρ,d,st,ef,k⟩:=h;obtain ⟨x,y,e1,e2,e3⟩:=zp8 ef
 exact ⟨Hf0,H0,Hf,ρ,x,st,e1,fun v Hf1 H1 x1 r1=>⟨Hf0,H0,Hf1,ρ,y,st.step x1,e2,fun u Hf2 H2 x2 r2=>hr _ _ _ _ ⟨H2,x,y,d,zas.refl _,r1.up x2.h,r2,e3,fun w Hf3 H3 x3 r3 =>
  k w Hf2 H3 ((x1.trans x2).trans (Ext.grow x2.s x3.h)) (r3.sc (hs _ _ _ e3))⟩⟩⟩
theorem zb9 {op:Operator} {m:D->D->Option D} {f g:List Sl->Option D} (ho:OpD c X (binaryOp op) m) (ha:DE c X a f) (hb:DE c X b g) : DE c X (.BinOp a op b pos) (m2 m f g) :=
 PE.imp (zrj ho ha hb) fun _ _ _ h=>two (fun _ _ _ _ h=>h) h
theorem zhc {op:CmpOp} {m:D->D->Option D} {f g:List Sl->Option D} (ho:OpD c X (compareOp op) m) (hs:∀ x y d,m x y=some d->d.scalar=true) (ha:DB c X a f) (hb:DB c X b g) (hm:behindInMarks op b=false:=by first | exact zq0 _ | rfl) :
  DE c X (.Compare a [op] [b] pos) (m2 m f g):=PE.imp (zz5 ho ha hb hm) fun _ _ _ h=>z2u (fun _ _ _ _ h=>h) hs h
noncomputable def mB (f:List Sl->Option D) (ρ:List Sl) : Option Bool:=(f ρ).bind fun d=>match d with
 | .bl b=>some b
 | _=>none
theorem zp9 {f:List Sl->Option D} {ρ:List Sl} {b:Bool} (h:mB f ρ=some b) : f ρ=some (.bl b):=by
 unfold mB at h
 cases e : f ρ with
 | none=>rw [e] at h; cases h
 | some d=>rw [e] at h; cases d <;> cases h; rfl
theorem zcj {op:CmpOp} {m:D->D->Option D} {f g:List Sl->Option D} (ho:OpD c X (compareOp op) m) (hs:∀ x y d,m x y=some d->d.scalar=true) (ha:DB c X a f) (hb:DB c X b g) (hm:behindInMarks op b=false:=by first | exact zq0 _ | rfl) :
  DT c X (.Compare a [op] [b] pos) (mB (m2 m f g)):=PT.imp (z0r ho ha hb hm) fun σ H Q ⟨Hf0,H0,Hf,ρ,b,st,ef,k⟩ =>
 z2u (fun _ _ _ _ h=>h) hs ⟨Hf0,H0,Hf,ρ,.bl b,st,zp9 ef,fun v Hf' H' x r=>⟨b,r,k Hf' H' x⟩⟩
noncomputable def zot : D->Option Bool
 | .non=>some false
 | .bl b=>some b
 | .int i=>some (i != 0)
 | .str x=>if x.length<=16777216 then some ((x.length : Int) != 0) else none
 | .lst xs=>some (!xs.isEmpty)
 | .tup xs=>some (!xs.isEmpty)
 | .kl xs=>some (!xs.isEmpty)
 | .kt xs=>some (!xs.isEmpty)
 | .dic ks _=>some (!ks.isEmpty)
 | _=>none
theorem zao.empty {G:Gc} {H:Hp} {ds:List D} {vs:List V} (r:zao G H ds vs) : ds.isEmpty=vs.isEmpty:=by
 cases ds with
 | nil=>cases (show vs=[] from r); rfl
 | cons d ds=>obtain ⟨v,r',e,_⟩:=r; subst e; rfl
theorem yek {α β : Type} {ks:List α} {vs:List β} (h:ks.length=vs.length) : (ks.zip vs).isEmpty=ks.isEmpty:=by
 cases ks <;> cases vs <;> first | rfl | cases h
theorem z2s {G:Gc} {H:Hp} {d:D} {v:V} {b:Bool} (e:zot d=some b) (r:Rep G H d v) : zsb G.K v H b:=by
 cases d with
 | non=>cases e; cases r; rfl
 | bl x=>cases e; cases r; rfl
 | int i=>cases e; cases r; rfl
 | str x =>
  cases r;replace e : (if x.length<=16777216 then some ((x.length : Int) != 0) else none)=some b:=e;split at e
  ·rename_i hl;cases e;exact ⟨by rw [sizeLine_eq]; exact hl,rfl⟩
  ·cases e
 | lst xs=>cases e; obtain ⟨a,vs,e1,q,r⟩:=r; subst e1; exact .inl ⟨vs,SqL.of q,by rw [r.empty]⟩
 | tup xs=>cases e; obtain ⟨a,vs,e1,q,r⟩:=r; subst e1; exact .inr (.inl ⟨vs,SqT.of q,by rw [r.empty]⟩)
 | kl xs=>cases e; obtain ⟨a,vs,e1,q,r⟩:=r; subst e1; exact .inl ⟨vs,q,by rw [r.empty]⟩
 | kt xs=>cases e; obtain ⟨a,vs,e1,q,r⟩:=r; subst e1; exact .inr (.inl ⟨vs,q,by rw [r.empty]⟩)
 | dic ks xs=>cases e; obtain ⟨a,vs,e1,q,l,r⟩:=r; subst e1; exact .inr (.inr ⟨_,q,by rw [yek l]⟩)
 | ins _ _ _=>cases e
 | kd _ _=>cases e
noncomputable def zd1 (f:List Sl->Option D) (ρ:List Sl) : Option Bool:=(f ρ).bind zot
theorem zfe {f:List Sl->Option D} (ha:DB c X a f) (he:∀ whole,isTrue a X.env whole=(do let v <- whole; standAt a.pos; holding [v] (truthy v)):=by intro _; rfl) : DT c X a (zd1 f) :=
 PT.imp (z0t ha he) fun σ H Q q_=>by
  obtain ⟨Hf0,H0,Hf,ρ,b,st,ef,k⟩:=q_;unfold zd1 at ef
  cases ed : f ρ with
  | none=>rw [ed] at ef; cases ef
  | some d =>
   rw [ed] at ef;exact ⟨Hf0,H0,Hf,ρ,d,st,ed,fun v Hf' H' x r=>⟨b,z2s ef r,k Hf' H' x⟩⟩
noncomputable def zgc (f g:List Sl->Option Bool) (ρ:List Sl) : Option Bool:=(f ρ).bind fun b=>if b then g ρ else some false
noncomputable def mOr (f g:List Sl->Option Bool) (ρ:List Sl) : Option Bool:=(f ρ).bind fun b=>if b then some true else g ρ
noncomputable def zfk (f:List Sl->Option Bool) (ρ:List Sl) : Option Bool:=(f ρ).map not
theorem DW.dt {f:List Sl->Option Bool} (h:DW c X e f) : DT c X e f:=PW.pt h
theorem zs4 {f:List Sl->Option Bool} (h:DT c X a f) : DW c X (.BoolOp .And [a] pos) f:=ya0 h
theorem zpq {f g:List Sl->Option Bool} {zbp:List Expr} (h:DT c X a f) (h':DW c X (.BoolOp .And (b::zbp) pos) g) : DW c X (.BoolOp .And (a::b::zbp) pos) (zgc f g):=PW.imp (yaz h h') fun σ H Q q_=>by
 obtain ⟨Hf0,H0,Hf,ρ,b,st,ef,k⟩:=q_;unfold zgc at ef
 cases e1 : f ρ with
 | none=>rw [e1] at ef; cases ef
 | some x =>
  rw [e1] at ef;refine ⟨Hf0,H0,Hf,ρ,x,st,e1,fun Hf1 H1 x1=>?_⟩
  cases x with
  | true=>rw [if_pos rfl]; exact ⟨Hf0,H0,Hf1,ρ,b,st.step x1,ef,fun Hf2 H2 x2=>k Hf2 H2 (x1.trans x2)⟩
  | false=>cases ef; rw [if_neg Bool.false_ne_true]; exact k Hf1 H1 x1
theorem zi5 {f:List Sl->Option Bool} (h:DT c X a f) : DT c X (.UnaryOp .Not a pos) (zfk f):=PT.imp (z0s h) fun σ H Q q_=>by
 obtain ⟨Hf0,H0,Hf,ρ,b,st,ef,k⟩:=q_;unfold zfk at ef
 cases e1 : f ρ with
 | none=>rw [e1] at ef; cases ef
 | some x =>
  rw [e1] at ef;cases ef;exact ⟨Hf0,H0,Hf,ρ,x,st,e1,fun Hf1 H1 x1=>k Hf1 H1 x1⟩
noncomputable def zgn (f g:List Sl->Option D) (ρ:List Sl) : Option D:=(mB f ρ).bind fun b=>if b then g ρ else some (.bl false)
noncomputable def vOr (f g:List Sl->Option D) (ρ:List Sl) : Option D:=(mB f ρ).bind fun b=>if b then some (.bl true) else g ρ
noncomputable def zmu (f:List Sl->Option D) (ρ:List Sl) : Option D:=(mB f ρ).map fun b=>.bl (!b)
theorem ziz {f:List Sl->Option D} {op} (h:DE c X a f) : DE c X (.BoolOp op [a] pos) f:=z9x h
theorem ziy {f g:List Sl->Option D} {zbp:List Expr} (h:DE c X a f) (h':DE c X (.BoolOp .And (b::zbp) pos) g) : DE c X (.BoolOp .And (a::b::zbp) pos) (zgn f g):=PE.imp (z9n h h') fun σ H Q q_=>by
 obtain ⟨Hf0,H0,Hf,ρ,d,st,ef,k⟩:=q_;unfold zgn at ef
 cases e1 : mB f ρ with
 | none=>rw [e1] at ef; cases ef
 | some x =>
  rw [e1] at ef;refine ⟨Hf0,H0,Hf,ρ,.bl x,st,zp9 e1,fun v Hf1 H1 x1 r1=>⟨x,r1,?_⟩⟩
  cases x with
  | true=>rw [if_pos rfl]; exact ⟨Hf0,H0,Hf1,ρ,d,st.step x1,ef,fun v Hf2 H2 x2 r2=>k v Hf2 H2 (x1.trans x2) r2⟩
  | false=>cases ef; rw [if_neg Bool.false_ne_true]; exact k _ Hf1 H1 x1 rfl
theorem z4k {f g:List Sl->Option D} {zbp:List Expr} (h:DE c X a f) (h':DE c X (.BoolOp .Or (b::zbp) pos) g) : DE c X (.BoolOp .Or (a::b::zbp) pos) (vOr f g):=PE.imp (z9y h h') fun σ H Q q_=>by
 obtain ⟨Hf0,H0,Hf,ρ,d,st,ef,k⟩:=q_;unfold vOr at ef
 cases e1 : mB f ρ with
 | none=>rw [e1] at ef; cases ef
 | some x =>
  rw [e1] at ef;refine ⟨Hf0,H0,Hf,ρ,.bl x,st,zp9 e1,fun v Hf1 H1 x1 r1=>⟨x,r1,?_⟩⟩
  cases x with
  | false=>rw [if_neg Bool.false_ne_true]; exact ⟨Hf0,H0,Hf1,ρ,d,st.step x1,ef,fun v Hf2 H2 x2 r2=>k v Hf2 H2 (x1.trans x2) r2⟩
  | true=>cases ef; rw [if_pos rfl]; exact k _ Hf1 H1 x1 rfl
theorem zwp {f:List Sl->Option D} (h:DE c X a f) : DE c X (.UnaryOp .Not a pos) (zmu f):=PE.imp (z9w h) fun σ H Q q_=>by
 obtain ⟨Hf0,H0,Hf,ρ,d,st,ef,k⟩:=q_;unfold zmu at ef
 cases e1 : mB f ρ with
 | none=>rw [e1] at ef; cases ef
 | some x =>
  rw [e1] at ef;cases ef;exact ⟨Hf0,H0,Hf,ρ,.bl x,st,zp9 e1,fun v Hf1 H1 x1 r1=>⟨x,r1,k _ Hf1 H1 x1 rfl⟩⟩
noncomputable def vIf (t:List Sl->Option Bool) (f g:List Sl->Option D) (ρ:List Sl) : Option D:=(t ρ).bind fun b=>if b then f ρ else g ρ
theorem zwo {t:List Sl->Option Bool} {f g:List Sl->Option D} {cd:Expr} (hc:DT c X cd t) (ha:DE c X a f) (hb:DE c X b g) : DE c X (.IfExp cd a b pos) (vIf t f g):=PE.imp (zz8 hc ha hb) fun σ H Q q_=>by
 obtain ⟨Hf0,H0,Hf,ρ,d,st,ef,k⟩:=q_;unfold vIf at ef
 cases e1 : t ρ with
 | none=>rw [e1] at ef; cases ef
 | some x =>
  rw [e1] at ef;refine ⟨Hf0,H0,Hf,ρ,x,st,e1,fun Hf1 H1 x1=>?_⟩
  cases x with
  | true=>rw [if_pos rfl]; exact ⟨Hf0,H0,Hf1,ρ,d,st.step x1,ef,fun v Hf2 H2 x2 r=>k v Hf2 H2 (x1.trans x2) r⟩
  | false=>rw [if_neg Bool.false_ne_true]; exact ⟨Hf0,H0,Hf1,ρ,d,st.step x1,ef,fun v Hf2 H2 x2 r=>k v Hf2 H2 (x1.trans x2) r⟩
end
noncomputable instance {i j:Int} : Decidable (zmx i j):=by unfold zmx; infer_instance
noncomputable instance {i j:Int} : Decidable (zmz i j):=by unfold zmz; infer_instance
noncomputable instance {i j:Int} : Decidable (zmy i j):=by unfold zmy; infer_instance
noncomputable def dI (C:Int->Int->Prop) [∀ i j,Decidable (C i j)] (g:Int->Int->D) : D->D->Option D
 | .int i,.int j=>if C i j then some (g i j) else none
 | _,_=>none
noncomputable def dI0 (g:Int->Int->D) : D->D->Option D
 | .int i,.int j=>some (g i j)
 | _,_=>none
noncomputable def zcf : D->D->Option D
 | .int i,.int j=>some (.int (i + j))
 | .str a,.str b=>if a.length + b.length<=16777216 then some (.str (a++b)) else none
 | .lst a,.lst b=>if a.length + b.length<=16777216 then some (.lst (a++b)) else none
 | _,_=>none
noncomputable abbrev zh7 : D->D->Option D:=dI0 fun i j=>.int (i - j)
noncomputable abbrev zsn : D->D->Option D:=dI zmx fun i j=>.int (i / j)
noncomputable abbrev zex : D->D->Option D:=dI (fun _ j=>0 < j) fun i j=>.int (i % j)
noncomputable abbrev zf5 : D->D->Option D:=dI zmz fun i j=>.int (i ^ j.toNat)
noncomputable abbrev dLt : D->D->Option D:=dI0 fun i j=>.bl (decide (i < j))
noncomputable abbrev dLe : D->D->Option D:=dI0 fun i j=>.bl (decide (i<=j))
noncomputable abbrev dGt : D->D->Option D:=dI0 fun i j=>.bl (decide (j < i))
section
variable {c:Str->Addr} {X:Cx}
theorem zq5 {f:Value->Value->Sem Value} {C:Int->Int->Prop} [∀ i j,Decidable (C i j)] {g:Int->Int->V} {gd:Int->Int->D} (h:OpR X f (rI C g)) (hg:∀ G H i j,Rep G H (gd i j) (g i j)) : OpD c X f (dI C gd):=by
 rintro pins s σ H vx vy v u Q I rx ry ⟨Hf,x,y,d,s0,r1,r2,e,k⟩;unfold dI at e;split at e
 ·split at e
  ·rename_i hc;cases e;exact h pins s σ H vx vy v u Q I rx ry ⟨_,_,r1,r2,hc,k _ Hf H (Ext.refl s0) (hg _ _ _ _)⟩
  ·cases e
 ·cases e
theorem zq6 {f:Value->Value->Sem Value} {g:Int->Int->V} {gd:Int->Int->D} (h:OpR X f (rI0 g)) (hg:∀ G H i j,Rep G H (gd i j) (g i j)) : OpD c X f (dI0 gd):=by
 rintro pins s σ H vx vy v u Q I rx ry ⟨Hf,x,y,d,s0,r1,r2,e,k⟩;unfold dI0 at e;split at e
 ·cases e;exact h pins s σ H vx vy v u Q I rx ry ⟨_,_,r1,r2,k _ Hf H (Ext.refl s0) (hg _ _ _ _)⟩
 ·cases e
theorem zdd : OpD c X (binaryOp .Add) zcf:=by
 rintro pins s σ H vx vy v u Q I rx ry ⟨Hf,x,y,d,s0,r1,r2,e,k⟩;unfold zcf at e;split at e
 ·cases e;exact z8y pins s σ H vx vy v u Q I rx ry ⟨_,_,r1,r2,k _ Hf H (Ext.refl s0) rfl⟩
 ·split at e
  ·rename_i hl;cases e;exact z8z pins s σ H vx vy v u Q I rx ry ⟨_,_,r1,r2,by rw [sizeLine_eq]; exact hl,k _ Hf H (Ext.refl s0) rfl⟩
  ·cases e
 ·split at e
  ·rename_i hl;cases e;obtain ⟨a,vs,e1,q1,r1⟩:=r1;obtain ⟨b,us,e2,q2,r2⟩:=r2
   exact zuk pins s σ H vx vy v u Q I rx ry ⟨a,b,vs,us,e1,e2,s0 _ _ q1,s0 _ _ q2,by rw [sizeLine_eq,<- r1.length,<- r2.length]; exact hl,
    fun p hp=>k _ (upd Hf p (.lst (vs++us))) (upd H p (.lst (vs++us))) (Ext.new s0 hp) ⟨p,_,rfl,zcd,(r1.append r2).up (zc3 (s0.free hp))⟩⟩
  ·cases e
 ·cases e
theorem zq7 : OpD c X (binaryOp .Sub) zh7:=zq6 z9b fun _ _ _ _=>rfl
theorem z79 : OpD c X (binaryOp .FloorDiv) zsn:=zq5 z81 fun _ _ _ _=>rfl
theorem zhq : OpD c X (binaryOp .Mod) zex:=zq5 z86 fun _ _ _ _=>rfl
theorem zjn : OpD c X (binaryOp .Pow) zf5:=zq5 z9a fun _ _ _ _=>rfl
theorem zk4 : OpD c X (compareOp .Lt) dLt:=zq6 z85 fun _ _ _ _=>rfl
theorem zze : OpD c X (compareOp .LtE) dLe:=zq6 z84 fun _ _ _ _=>rfl
theorem zjm : OpD c X (compareOp .Gt) dGt:=zq6 z82 fun _ _ _ _=>rfl
theorem zu1 {g:Int->Int->D} (hg:∀ i j,(g i j).scalar=true) : ∀ x y d,dI0 g x y=some d->d.scalar=true:=by
 intro x y d e;unfold dI0 at e;split at e
 ·cases e; exact hg _ _
 ·cases e
theorem zmp : ∀ x y d,dLt x y=some d->d.scalar=true:=zu1 fun _ _=>rfl
theorem z10 : ∀ x y d,dLe x y=some d->d.scalar=true:=zu1 fun _ _=>rfl
theorem zjt : ∀ x y d,dGt x y=some d->d.scalar=true:=zu1 fun _ _=>rfl
noncomputable def zm9 : D->Option D
 | .int i=>some (.int (-i))
 | _=>none
noncomputable def m1 (m:D->Option D) (f:List Sl->Option D) (ρ:List Sl) : Option D:=(f ρ).bind m
theorem zpf {a:Expr} {f:List Sl->Option D} {pos:Pos} (ha:DE c X a f) : DE c X (.UnaryOp .USub a pos) (m1 zm9 f):=PE.imp (z9z yd5 ha) fun σ H Q q_=>by
 obtain ⟨Hf0,H0,Hf,ρ,d,st,ef,k⟩:=q_;unfold m1 at ef
 cases e1 : f ρ with
 | none=>rw [e1] at ef; cases ef
 | some y =>
  rw [e1] at ef
  cases y with
  | int i=>cases ef; exact ⟨Hf0,H0,Hf,ρ,.int i,st,e1,fun v Hf' H' x r=>⟨i,r,k _ Hf' H' x rfl⟩⟩
  | _=>cases ef
theorem zrv {x:Option Bool} {g:Bool->Bool} : ∀ d,x.map (fun b=>D.bl (g b))=some d->d.scalar=true:=by
 intro d e
 cases x with
 | none=>cases e
 | some b=>cases e; rfl
noncomputable def eqF : D->D->Bool
 | .non,.non=>true
 | .bl a,.bl b=>a==b
 | .int a,.int b=>a==b
 | .str a,.str b=>a==b
 | _,_=>false
noncomputable def zee (f:D->D->Option Bool) : List D->List D->Option Bool
 | [],[]=>some true
 | x::xs,y::ys=>(f x y).bind fun b=>(zee f xs ys).map fun r=>b && r
 | _,_=>some false
noncomputable def zt3 : D->D->Bool
 | .bl _,.int _=>true
 | .int _,.bl _=>true
 | _,_=>false
noncomputable def zs0 (f:D->D->Option Bool) : D->D->Option Bool
 | .lst xs,.lst ys=>if xs.length=ys.length then zee f xs ys else some false
 | .tup xs,.tup ys=>if xs.length=ys.length then zee f xs ys else none
 | x,y=>if x.scalar && y.scalar && !zt3 x y then some (eqF x y) else none
noncomputable def deq : Nat->D->D->Option Bool
 | 0,_,_=>none
 | n + 1,x,y=>zs0 (deq n) x y
noncomputable def dEq (x y:D) : Option D:=(deq 20 x y).map .bl
noncomputable def dNe (x y:D) : Option D:=(deq 20 x y).map fun b=>.bl (!b)
theorem zd4 : ∀ x y d,dEq x y=some d->d.scalar=true:=fun _ _ d e=>zrv (g:=id) d e
theorem zu3 : ∀ x y d,dNe x y=some d->d.scalar=true:=fun _ _ d e=>zrv (g:=not) d e
theorem zwv {f:D->D->Option Bool} {x y:D} {xs ys:List D} {b:Bool} (h:zee f (x::xs) (y::ys)=some b) : ∃ b1 b2,f x y=some b1/\zee f xs ys=some b2/\b=(b1 && b2):=by
 unfold zee at h
 cases e1 : f x y with
 | none=>rw [e1] at h; cases h
 | some b1 =>
  cases e2 : zee f xs ys with
  | none=>rw [e1,e2] at h; cases h
  | some b2=>rw [e1,e2] at h; cases h; exact ⟨b1,b2,rfl,rfl,rfl⟩
theorem zi0 {f:D->D->Option Bool} : ∀ {xs ys:List D} {b:Bool},xs.length=ys.length->zee f xs ys=some b->∃ e : Nat->Bool,(∀ j x y,xs[j]?=some x->ys[j]?=some y->f x y=some (e j))/\(List.range xs.length).all e=b
 | [],[],b,_,h=>by cases h; exact ⟨fun _=>true,fun j x y e=>by simp at e,rfl⟩
 | x::xs,y::ys,b,hl,h=>by
  obtain ⟨b1,b2,h1,h2,rfl⟩:=zwv h;obtain ⟨e,he,ha⟩:=zi0 (by simpa using hl) h2
  refine ⟨fun j=>match j with | 0=>b1 | j + 1=>e j,fun j x' y' ex ey=>?_,?_⟩
  ·cases j with
   | zero=>simp at ex ey; subst ex ey; exact h1
   | succ j=>exact he j x' y' (by simpa using ex) (by simpa using ey)
  ·rw [List.length_cons,List.range_succ_eq_map,List.all_cons,List.all_map,<- ha]
   rfl
 | [],_::_,_,hl,_=>by cases hl
 | _::_,[],_,hl,_=>by cases hl
theorem zpu {G:Gc} {H:Hp} {x y:D} {v u:V} (hs:(x.scalar && y.scalar && !zt3 x y)=true) (r1:Rep G H x v) (r2:Rep G H y u) : zek v=true/\zek u=true/\eqV v u=eqF x y/\zu5 v u=true/\decide (v=u)=eqF x y:=by
 cases x <;> first
  | (cases hs; done)
  | (cases y <;> first
   | (cases hs; done)
   | (cases r1; cases r2; refine ⟨rfl,rfl,rfl,rfl,?_⟩; first | exact zsv | exact zsw | exact zsx | rfl))
theorem zph {n:Nat} {x y:D} {b:Bool} (hs:¬ (∃ xs ys,x=.lst xs/\y=.lst ys)/\¬ (∃ xs ys,x=.tup xs/\y=.tup ys)) (h:deq (n + 1) x y=some b) : (x.scalar && y.scalar && !zt3 x y)=true/\b=eqF x y:=by
 replace h : zs0 (deq n) x y=some b:=h;unfold zs0 at h;split at h
 ·exact absurd ⟨_,_,rfl,rfl⟩ hs.1
 ·exact absurd ⟨_,_,rfl,rfl⟩ hs.2
 ·split at h
  ·rename_i hc;cases h;exact ⟨hc,rfl⟩
  ·cases h
theorem zwx {G:Gc} {H:Hp} : ∀ (n:Nat) {x y:D} {b:Bool} {v:V},deq n x y=some b->Rep G H x v->Rep G H y v->b=true:=by
 intro n
 induction n with
 | zero=>intro x y b v h; cases h
 | succ n ih =>
  have all : ∀ (xs ys:List D) (vs:List V) (b:Bool),zao G H xs vs->zao G H ys vs->zee (deq n) xs ys=some b->b=true:=by
   intro xs
   induction xs with
   | nil =>
    intro ys vs b r1 r2 h;cases (show vs=[] from r1);have : ys=[]:=List.length_eq_zero_iff.mp r2.length;subst this
    cases h; rfl
   | cons x xs ihx =>
    intro ys vs b r1 r2 h;obtain ⟨v,r,e,h1,h2⟩:=r1;subst e
    cases ys with
    | nil=>cases (show v::r=[] from r2)
    | cons y ys =>
     obtain ⟨v',r',e,h1',h2'⟩:=r2;cases e;obtain ⟨b1,b2,e1,e2,rfl⟩:=zwv h;rw [ih e1 h1 h1',ihx ys _ b2 h2 h2' e2];rfl
  intro x y b v h r1 r2
  by_cases hl : ∃ xs ys,x=.lst xs/\y=.lst ys
  ·obtain ⟨xs,ys,rfl,rfl⟩:=hl;obtain ⟨a,vs,e,q,r1⟩:=r1;obtain ⟨a',vs',e',q',r2⟩:=r2;subst e; cases e';rw [q] at q'; cases q';have hlen : xs.length=ys.length:=r1.length.trans r2.length.symm;replace h : (if xs.length=ys.length then zee (deq n) xs ys else some false)=some b:=h;rw [if_pos hlen] at h;exact all xs ys vs b r1 r2 h
  ·by_cases ht : ∃ xs ys,x=.tup xs/\y=.tup ys
   ·obtain ⟨xs,ys,rfl,rfl⟩:=ht;obtain ⟨a,vs,e,q,r1⟩:=r1;obtain ⟨a',vs',e',q',r2⟩:=r2;subst e; cases e';rw [q] at q'; cases q';have hlen : xs.length=ys.length:=r1.length.trans r2.length.symm;replace h : (if xs.length=ys.length then zee (deq n) xs ys else none)=some b:=h;rw [if_pos hlen] at h;exact all xs ys vs b r1 r2 h
   ·obtain ⟨hs,rfl⟩:=zph ⟨hl,ht⟩ h;obtain ⟨_,_,_,_,e⟩:=zpu hs r1 r2;rw [<- e];exact decide_eq_true rfl
section
variable {pins:List (Addr×Obj)} {σ:St} {H:Hp} {s:Shared}
theorem zke {G:Gc} {xs ys:List D} {vs us:List V} {its its2:List Value} {n:Nat} {A:Around} {e:Nat->Bool} (r1:zao G H xs vs) (r2:zao G H ys us) (r:zaz vs its) (r':zaz us its2)
  (he:∀ j x y,xs[j]?=some x->ys[j]?=some y->deq n x y=some (e j))
  (ih:∀ {x y:D} {b:Bool} {v u:V} {w w':Value},deq n x y=some b->Rep G H x v->Rep G H y u->za5 v w->za5 u w'->SeqAt.EqAt A s w w' b) :
  ∀ j (h1:j < its.toArray.size) (h2:j < its2.toArray.size),SeqAt.EqAt A s its.toArray[j] its2.toArray[j] (e j):=fun j h1 h2=>by
 have h1' : j < its.length:=by simpa using h1
 have h2' : j < its2.length:=by simpa using h2
 obtain ⟨v,ev,rv⟩:=r.at' (i:=j) (u:=its[j]) (by simp [h1']);obtain ⟨u,eu,ru⟩:=r'.at' (i:=j) (u:=its2[j]) (by simp [h2']);obtain ⟨x,ex,rx⟩:=r1.get' ev;obtain ⟨y,ey,ry⟩:=r2.get' eu;exact ih (he j x y ex ey) rx ry rv ru
theorem zww (I:Inv X pins σ H s) : ∀ (n:Nat) {A:Around} {x y:D} {b:Bool} {v u:V} {w w':Value},A.units + n < cLine->deq n x y=some b->Rep (Gx c X) H x v->Rep (Gx c X) H y u->za5 v w->za5 u w'->SeqAt.EqAt A s w w' b:=by
 intro n
 induction n with
 | zero=>intro A x y b v u w w' _ h; cases h
 | succ n ih =>
  intro A x y b v u w w' hu h r1 r2 rv ru;have hin : ∀ {x y:D} {b:Bool} {v u:V} {w w':Value},deq n x y=some b->Rep (Gx c X) H x v->Rep (Gx c X) H y u->za5 v w->za5 u w'->SeqAt.EqAt A.in1 s w w' b:=fun h a b c d=>ih (by rw [Around.in1_units]; omega) h a b c d
  by_cases hl : ∃ xs ys,x=.lst xs/\y=.lst ys
  ·obtain ⟨xs,ys,rfl,rfl⟩:=hl;obtain ⟨a,vs,e,q,rs1⟩:=id r1;obtain ⟨a',vs',e',q',rs2⟩:=id r2;subst e e';cases rv; cases ru
   by_cases hab : a=a'
   ·subst hab;have:=zwx (n + 1) h (show Rep (Gx c X) H (.lst xs) (.ref a) from ⟨a,vs,rfl,q,rs1⟩) ⟨a,vs',rfl,q',rs2⟩;subst this;exact SeqAt.EqAt.same _
   ·refine SeqAt.EqAt.of_refs hab ?_;obtain ⟨its,rr,pl,hz⟩:=I.list (SqL.of (K:=X.K) q);obtain ⟨its2,rr2,pl2,hz2⟩:=I.list (SqL.of (K:=X.K) q');have l1:=rr.length;have l2:=rr2.length;have l3:=rs1.length;have l4:=rs2.length;replace h : (if xs.length=ys.length then zee (deq n) xs ys else some false)=some b:=h;split at h
    ·rename_i hlen;obtain ⟨ee,he,ha⟩:=zi0 hlen h;have:=SeqAt.RcAt.lists (A:=A) (s:=s) pl.isList pl2.isList (by simp only [List.size_toArray]; omega) (by omega) (zke (A:=A.in1) (s:=s) rs1 rs2 rr rr2 he hin);rw [List.size_toArray,<- l1,<- l3,ha] at this;exact this
    ·rename_i hlen;cases h;exact SeqAt.RcAt.lists_lengths (A:=A) (s:=s) pl.isList pl2.isList (by simp only [List.size_toArray,bne_iff_ne,ne_eq]; omega) (by omega)
  ·by_cases ht : ∃ xs ys,x=.tup xs/\y=.tup ys
   ·obtain ⟨xs,ys,rfl,rfl⟩:=ht;obtain ⟨a,vs,e,q,rs1⟩:=id r1;obtain ⟨a',vs',e',q',rs2⟩:=id r2;subst e e';cases rv; cases ru
    by_cases hab : a=a'
    ·subst hab;have:=zwx (n + 1) h (show Rep (Gx c X) H (.tup xs) (.ref a) from ⟨a,vs,rfl,q,rs1⟩) ⟨a,vs',rfl,q',rs2⟩;subst this;exact SeqAt.EqAt.same _
    ·refine SeqAt.EqAt.of_refs hab ?_;obtain ⟨its,rr,pl,hz⟩:=I.tuple (SqT.of (K:=X.K) q);obtain ⟨its2,rr2,pl2,hz2⟩:=I.tuple (SqT.of (K:=X.K) q');have l1:=rr.length;have l2:=rr2.length;have l3:=rs1.length;have l4:=rs2.length;replace h : (if xs.length=ys.length then zee (deq n) xs ys else none)=some b:=h;split at h
     ·rename_i hlen;obtain ⟨ee,he,ha⟩:=zi0 hlen h;have:=SeqAt.RcAt.tuples (A:=A) (s:=s) (show s.heap.IsTuple a its.toArray from pl) (show s.heap.IsTuple a' its2.toArray from pl2) (by omega) (zke (A:=A.in1) (s:=s) rs1 rs2 rr rr2 he hin);have hsz : its.toArray.size=its2.toArray.size:=by simp only [List.size_toArray]; omega
      rw [<- hsz,Nat.min_self,beq_self_eq_true,Bool.and_true,List.size_toArray,<- l1,<- l3,ha] at this;exact this
     ·cases h
   ·obtain ⟨hs,rfl⟩:=zph ⟨hl,ht⟩ h;obtain ⟨f1,f2,e,_,_⟩:=zpu hs r1 r2;rw [<- e];exact zxf rv ru f1 f2
end
theorem zc7 (hu:X.A.units + 64 < cLine) : OpD c X (compareOp .Eq) dEq:=by
 rintro pins s σ H v u w w' Q I rv ru ⟨Hf,x,y,d,s0,r1,r2,e,k⟩;unfold dEq at e
 cases h : deq 20 x y with
 | none=>rw [h] at e; cases e
 | some b =>
  rw [h] at e;cases e;have q0:=k (.bl b) Hf H (Ext.refl s0) rfl;have fin : EP X pins σ Q (.bool b) s:=⟨.bl b,H,I,rfl,q0⟩;have r1:=r1.up s0;have r2:=r2.up s0;have hin : ∀ {x y:D} {b:Bool} {v u:V} {w w':Value},deq 19 x y=some b->Rep (Gx c X) H x v->Rep (Gx c X) H y u->za5 v w->za5 u w'->SeqAt.EqAt X.A.in1 s w w' b:=fun h a b c d=>zww I 19 (by rw [Around.in1_units]; omega) h a b c d
  by_cases hl : ∃ xs ys,x=.lst xs/\y=.lst ys
  ·obtain ⟨xs,ys,rfl,rfl⟩:=hl;obtain ⟨a,vs,e,q,rs1⟩:=id r1;obtain ⟨a',vs',e',q',rs2⟩:=id r2;subst e e';cases rv; cases ru;obtain ⟨its,rr,pl,hz⟩:=I.list (SqL.of (K:=X.K) q);obtain ⟨its2,rr2,pl2,hz2⟩:=I.list (SqL.of (K:=X.K) q');have l1:=rr.length;have l2:=rr2.length;have l3:=rs1.length;have l4:=rs2.length;replace h : (if xs.length=ys.length then zee (deq 19) xs ys else some false)=some b:=h;split at h
   ·rename_i hlen;obtain ⟨ee,he,ha⟩:=zi0 hlen h;refine SeqAt.eq_listAt pl.isList pl2.isList (by simp only [List.size_toArray]; omega) (by omega) (zke rs1 rs2 rr rr2 he hin) ?_;rw [List.size_toArray,<- l1,<- l3,ha];exact fin
   ·rename_i hlen;cases h;exact SeqAt.eq_list_lengthsAt pl.isList pl2.isList (by simp only [List.size_toArray,bne_iff_ne,ne_eq]; omega) (by omega) fin
  ·by_cases ht : ∃ xs ys,x=.tup xs/\y=.tup ys
   ·obtain ⟨xs,ys,rfl,rfl⟩:=ht;obtain ⟨a,vs,e,q,rs1⟩:=id r1;obtain ⟨a',vs',e',q',rs2⟩:=id r2;subst e e';cases rv; cases ru;obtain ⟨its,rr,pl,hz⟩:=I.tuple (SqT.of (K:=X.K) q);obtain ⟨its2,rr2,pl2,hz2⟩:=I.tuple (SqT.of (K:=X.K) q');have l1:=rr.length;have l2:=rr2.length;have l3:=rs1.length;have l4:=rs2.length;replace h : (if xs.length=ys.length then zee (deq 19) xs ys else none)=some b:=h;split at h
    ·rename_i hlen;obtain ⟨ee,he,ha⟩:=zi0 hlen h;refine SeqAt.eq_tupleAt (show s.heap.IsTuple a its.toArray from pl) (show s.heap.IsTuple a' its2.toArray from pl2) (by omega) (zke rs1 rs2 rr rr2 he hin) ?_;have hsz : its.toArray.size=its2.toArray.size:=by simp only [List.size_toArray]; omega
     rw [<- hsz,Nat.min_self,beq_self_eq_true,Bool.and_true,List.size_toArray,<- l1,<- l3,ha];exact fin
    ·cases h
   ·obtain ⟨hs,rfl⟩:=zph ⟨hl,ht⟩ h;obtain ⟨_,_,_,hsc,e⟩:=zpu hs r1 r2;exact z80 pins s σ H v u w w' Q I rv ru ⟨hsc,by rw [e]; exact q0⟩
theorem zn6 (hu:X.A.units + 64 < cLine) : OpD c X (compareOp .NotEq) dNe:=by
 rintro pins s σ H v u w w' Q I rv ru ⟨Hf,x,y,d,s0,r1,r2,e,k⟩;unfold dNe at e
 cases h : deq 20 x y with
 | none=>rw [h] at e; cases e
 | some b =>
  rw [h] at e;cases e;have q0:=k (.bl (!b)) Hf H (Ext.refl s0) rfl;have fin : EP X pins σ Q (.bool (!b)) s:=⟨.bl (!b),H,I,rfl,q0⟩;have r1:=r1.up s0;have r2:=r2.up s0;have hin : ∀ {x y:D} {b:Bool} {v u:V} {w w':Value},deq 19 x y=some b->Rep (Gx c X) H x v->Rep (Gx c X) H y u->za5 v w->za5 u w'->SeqAt.EqAt X.A.in1 s w w' b:=fun h a b c d=>zww I 19 (by rw [Around.in1_units]; omega) h a b c d
  by_cases hl : ∃ xs ys,x=.lst xs/\y=.lst ys
  ·obtain ⟨xs,ys,rfl,rfl⟩:=hl;obtain ⟨a,vs,e,q,rs1⟩:=id r1;obtain ⟨a',vs',e',q',rs2⟩:=id r2;subst e e';cases rv; cases ru;obtain ⟨its,rr,pl,hz⟩:=I.list (SqL.of (K:=X.K) q);obtain ⟨its2,rr2,pl2,hz2⟩:=I.list (SqL.of (K:=X.K) q');have l1:=rr.length;have l2:=rr2.length;have l3:=rs1.length;have l4:=rs2.length;replace h : (if xs.length=ys.length then zee (deq 19) xs ys else some false)=some b:=h;split at h
   ·rename_i hlen;obtain ⟨ee,he,ha⟩:=zi0 hlen h;refine SeqAt.RcNeAt.lists (A:=X.A) (s:=s) pl.isList pl2.isList (by simp only [List.size_toArray]; omega) (by omega) (zke rs1 rs2 rr rr2 he hin) X.prog X.w X.xe _ ?_;rw [List.size_toArray,<- l1,<- l3,ha];exact fin
   ·rename_i hlen;cases h;exact SeqAt.RcNeAt.lists_lengths (A:=X.A) (s:=s) pl.isList pl2.isList (by simp only [List.size_toArray,bne_iff_ne,ne_eq]; omega) (by omega) X.prog X.w X.xe _ fin
  ·by_cases ht : ∃ xs ys,x=.tup xs/\y=.tup ys
   ·obtain ⟨xs,ys,rfl,rfl⟩:=ht;obtain ⟨a,vs,e,q,rs1⟩:=id r1;obtain ⟨a',vs',e',q',rs2⟩:=id r2;subst e e';cases rv; cases ru;obtain ⟨its,rr,pl,hz⟩:=I.tuple (SqT.of (K:=X.K) q);obtain ⟨its2,rr2,pl2,hz2⟩:=I.tuple (SqT.of (K:=X.K) q');have l1:=rr.length;have l2:=rr2.length;have l3:=rs1.length;have l4:=rs2.length;replace h : (if xs.length=ys.length then zee (deq 19) xs ys else none)=some b:=h;split at h
    ·rename_i hlen;obtain ⟨ee,he,ha⟩:=zi0 hlen h;refine SeqAt.RcNeAt.tuples (A:=X.A) (s:=s) (show s.heap.IsTuple a its.toArray from pl) (show s.heap.IsTuple a' its2.toArray from pl2) (by omega) (zke rs1 rs2 rr rr2 he hin) X.prog X.w X.xe _ ?_;have hsz : its.toArray.size=its2.toArray.size:=by simp only [List.size_toArray]; omega
     rw [<- hsz,Nat.min_self,beq_self_eq_true,Bool.and_true,List.size_toArray,<- l1,<- l3,ha];exact fin
    ·cases h
   ·obtain ⟨hs,rfl⟩:=zph ⟨hl,ht⟩ h;obtain ⟨_,_,_,hsc,e⟩:=zpu hs r1 r2;exact z88 pins s σ H v u w w' Q I rv ru ⟨hsc,by rw [e]; exact q0⟩
noncomputable def eqX : D->D->Bool
 | .non,.non=>true
 | .bl a,.bl b=>a==b
 | .bl a,.int b=>(if a then 1 else 0)==b
 | .int a,.bl b=>a==(if b then 1 else 0)
 | .int a,.int b=>a==b
 | .str a,.str b=>a==b
 | _,_=>false
noncomputable def inD (x y:D) : Option Bool:=(zij y).bind fun ds=>if x.scalar && ds.all D.scalar then some (ds.any fun d=>eqX d x) else none
noncomputable def dIn (x y:D) : Option D:=(inD x y).map .bl
noncomputable def zh4 (x y:D) : Option D:=(inD x y).map fun b=>.bl (!b)
theorem z1z : ∀ x y d,dIn x y=some d->d.scalar=true:=fun _ _ d e=>zrv (g:=id) d e
theorem zu4 : ∀ x y d,zh4 x y=some d->d.scalar=true:=fun _ _ d e=>zrv (g:=not) d e
theorem z5c {G:Gc} {H:Hp} {x y:D} {v u:V} (hx:x.scalar=true) (hy:y.scalar=true) (r1:Rep G H x v) (r2:Rep G H y u) : zek v=true/\zek u=true/\eqV v u=eqX x y:=by
 cases x <;> first
  | (cases hx; done)
  | (cases y <;> first
   | (cases hy; done)
   | (cases r1; cases r2; exact ⟨rfl,rfl,rfl⟩))
theorem zxt {G:Gc} {H:Hp} {x:D} {v:V} (hx:x.scalar=true) (r:Rep G H x v) : ∀ {ds:List D} {vs:List V},ds.all D.scalar=true->zao G H ds vs->vs.all zek=true/\inV v vs=ds.any fun d=>eqX d x
 | [],_,_,h=>by cases (show _=[] from h); exact ⟨rfl,rfl⟩
 | d::ds,_,ha,⟨u,r',e,h1,h2⟩=>by
  subst e;rw [List.all_cons,Bool.and_eq_true] at ha;obtain ⟨f1,f2,e⟩:=z5c ha.1 hx h1 r;obtain ⟨g1,g2⟩:=zxt hx r ha.2 h2;refine ⟨by rw [List.all_cons,f1,g1]; rfl,?_⟩;unfold inV at g2 ⊢;rw [List.any_cons,List.any_cons,e,g2]
theorem zxu {G:Gc} {H:Hp} {x y:D} {v u:V} {b:Bool} (e:inD x y=some b) (r1:Rep G H x v) (r2:Rep G H y u) : ∃ p vs,u=.ref p/\(SqL G.K H p vs\/SqT G.K H p vs)/\zek v=true/\vs.all zek=true/\inV v vs=b:=by
 unfold inD at e
 cases es : zij y with
 | none=>rw [es] at e; cases e
 | some ds =>
  rw [es] at e;replace e : (if (x.scalar && ds.all D.scalar)=true then some (ds.any fun d=>eqX d x) else none)=some b:=e;split at e
  ·rename_i hc;cases e;rw [Bool.and_eq_true] at hc;obtain ⟨a,vs,e1,q,r⟩:=zrz es r2;obtain ⟨g1,g2⟩:=zxt hc.1 r1 hc.2 r
   have f : zek v=true:=by cases x <;> first | (cases r1; rfl) | (cases hc.1)
   exact ⟨a,vs,e1,q,f,g1,g2⟩
  ·cases e
theorem zt8 : OpD c X (compareOp .In) dIn:=by
 rintro pins s σ H v u w w' Q I rv ru ⟨Hf,x,y,d,s0,r1,r2,e,k⟩;unfold dIn at e
 cases h : inD x y with
 | none=>rw [h] at e; cases e
 | some b =>
  rw [h] at e;cases e;obtain ⟨p,vs,e1,q,f1,f2,e2⟩:=zxu h (r1.up s0) (r2.up s0);refine z83 pins s σ H v u w w' Q I rv ru ⟨p,vs,e1,q,f1,f2,?_⟩;rw [if_neg Bool.false_ne_true,e2];exact k _ Hf H (Ext.refl s0) rfl
theorem zt9 : OpD c X (compareOp .NotIn) zh4:=by
 rintro pins s σ H v u w w' Q I rv ru ⟨Hf,x,y,d,s0,r1,r2,e,k⟩;unfold zh4 at e
 cases h : inD x y with
 | none=>rw [h] at e; cases e
 | some b =>
  rw [h] at e;cases e;obtain ⟨p,vs,e1,q,f1,f2,e2⟩:=zxu h (r1.up s0) (r2.up s0);refine z89 pins s σ H v u w w' Q I rv ru ⟨p,vs,e1,q,f1,f2,?_⟩;rw [if_pos rfl,e2];exact k _ Hf H (Ext.refl s0) rfl
end
section
variable {c:Str->Addr} {X:Cx} {e a b o:Expr} {es:List Expr} {pos p apos:Pos}
theorem zsg {G:Gc} {H:Hp} {ds:List D} {vs:List V} {i:Int} {d:D} (h:atI ds i=some d) (r:zao G H ds vs) : ∃ v,atI vs i=some v/\Rep G H d v:=by
 unfold atI at h ⊢;rw [<- r.length]
 cases e : ixN ds.length i with
 | none=>rw [e] at h; cases h
 | some j =>
  rw [e] at h;exact r.get h
noncomputable def ixD (ds:List D) : D->Option D
 | .int k=>atI ds k
 | _=>none
noncomputable def mIx (f:List Sl->Option (List D)) (g:List Sl->Option D) (ρ:List Sl) : Option D:=(f ρ).bind fun ds=>(g ρ).bind fun i=>ixD ds i
theorem zby {f:List Sl->Option (List D)} {g:List Sl->Option D} (ha:DC c X a f) (hb:DE c X b g) (hs:zr9 b:=by exact fun _ _=>rfl) : DE c X (.Subscript a b pos) (mIx f g) :=
 PE.imp (z0a (zya.or zyb) ha hb hs) fun σ H Q q_=>by
  obtain ⟨Hf0,H0,Hf,ρ,d,st,ef,k⟩:=q_;unfold mIx at ef
  cases e1 : f ρ with
  | none=>rw [e1] at ef; cases ef
  | some ds =>
   cases e2 : g ρ with
   | none=>rw [e1,e2] at ef; cases ef
   | some i =>
    rw [e1,e2] at ef;replace ef : ixD ds i=some d:=ef
    cases i with
    | int n =>
     replace ef : atI ds n=some d:=ef;refine ⟨Hf0,H0,Hf,ρ,ds,st,e1,fun l vs Hf1 H1 x1 q r=>⟨Hf0,H0,Hf1,ρ,.int n,st.step x1,e2,fun u Hf2 H2 x2 r2=>?_⟩⟩;cases (show u=V.int n from r2);obtain ⟨v,ev,rv⟩:=zsg ef r;have fin:=k v Hf2 H2 (x1.trans x2) (rv.up x2.f)
     rcases q with q | q
     ·exact .inl ⟨l,vs,n,v,rfl,rfl,x2.h.seq q,ev,fin⟩
     ·exact .inr ⟨l,vs,n,v,rfl,rfl,x2.h.tup q,ev,fin⟩
    | _=>cases ef
noncomputable def zj3 (xs:List D) (lo hi:Option Int) : List D:=(xs.drop (HT.sIx xs.length 0 lo)).take (HT.sIx xs.length xs.length hi - HT.sIx xs.length 0 lo)
noncomputable def lsD : D->Option (List D)
 | .lst xs=>some xs
 | .kl xs=>some xs
 | _=>none
theorem zp7 {G:Gc} {H:Hp} {d:D} {v:V} {ds:List D} (e:lsD d=some ds) (r:Rep G H d v) : ∃ a vs,v=.ref a/\SqL G.K H a vs/\zao G H ds vs:=by
 cases d with
 | lst xs=>cases e; obtain ⟨a,vs,e1,q,r⟩:=r; exact ⟨a,vs,e1,SqL.of q,r⟩
 | kl xs=>cases e; obtain ⟨a,vs,e1,q,r⟩:=r; exact ⟨a,vs,e1,q,r⟩
 | _=>cases e
noncomputable def yc9 (G:Gc) (f:List Sl->Option (Option Int)) : TO:=fun σ H Q=>∃ Hf0 H0 Hf ρ i,zal G Hf0 H0 Hf H σ ρ/\f ρ=some i/\∀ Hf' H',Ext Hf H Hf' H'->Q i H'
noncomputable def DPt (c:Str->Addr) (X:Cx) (e:Option Expr) (f:List Sl->Option (Option Int)) : Prop:=PO X e (yc9 (Gx c X) f)
theorem zka : DPt c X none (fun _=>some none):=fun pins s σ H Q I q_=>by
 obtain ⟨Hf0,H0,Hf,ρ,i,st,ef,k⟩:=q_;exact (yal pins s σ H Q I (by cases ef; exact k Hf H (Ext.refl st.sub)))
noncomputable def mPt (f:List Sl->Option D) (ρ:List Sl) : Option (Option Int):=(f ρ).bind fun d=>match d with
 | .int i=>some (some i)
 | _=>none
theorem zkb {f:List Sl->Option D} (h:DE c X e f) : DPt c X (some e) (mPt f):=fun pins s σ H Q I q_=>by
 obtain ⟨Hf0,H0,Hf,ρ,i,st,ef,k⟩:=q_
 exact (yam h pins s σ H Q I (by
 unfold mPt at ef
 cases e1 : f ρ with
 | none=>rw [e1] at ef; cases ef
 | some d =>
  rw [e1] at ef
  cases d with
  | int n=>cases ef; exact ⟨Hf0,H0,Hf,ρ,.int n,st,e1,fun v Hf' H' x r=>⟨n,r,k Hf' H' x⟩⟩
  | _=>cases ef))
noncomputable def mSl (f:List Sl->Option D) (l h:List Sl->Option (Option Int)) (ρ:List Sl) : Option (List D):=(f ρ).bind fun d=>(lsD d).bind fun ds=>(l ρ).bind fun lo=>(h ρ).map fun hi=>zj3 ds lo hi
theorem z4c {G:Gc} {H:Hp} {ds:List D} {vs:List V} (r:zao G H ds vs) (lo hi:Option Int) : zao G H (zj3 ds lo hi) (zh2 vs lo hi):=by
 unfold zj3 zh2;rw [r.length];exact (r.drop _).take _
theorem zw2 {f:List Sl->Option D} {l h:List Sl->Option (Option Int)} {lo hi:Option Expr} {p2:Pos} (ha:DE c X e f) (hl:DPt c X lo l) (hh:DPt c X hi h) : DO c X (.Subscript e (.Slice lo hi none p2) pos) (mSl f l h) :=
 PE.imp (zuo yco ha hl hh) fun σ H Q q_=>by
  obtain ⟨Hf0,H0,Hf,ρ,rs,st,ef,k⟩:=q_;unfold mSl at ef
  cases e1 : f ρ with
  | none=>rw [e1] at ef; cases ef
  | some d =>
   cases e2 : lsD d with
   | none=>rw [e1] at ef; replace ef : (lsD d).bind _=_:=ef; rw [e2] at ef; cases ef
   | some ds =>
    cases e3 : l ρ with
    | none=>rw [e1] at ef; replace ef : (lsD d).bind _=_:=ef; rw [e2,e3] at ef; cases ef
    | some lo' =>
     cases e4 : h ρ with
     | none=>rw [e1] at ef; replace ef : (lsD d).bind _=_:=ef; rw [e2,e3,e4] at ef; cases ef
     | some hi' =>
      rw [e1] at ef;replace ef : (lsD d).bind _=_:=ef;rw [e2,e3,e4] at ef;cases ef;refine ⟨Hf0,H0,Hf,ρ,d,st,e1,fun v Hf1 H1 x1 r1=>⟨Hf0,H0,Hf1,ρ,lo',st.step x1,e3,fun Hf2 H2 x2=>⟨Hf0,H0,Hf2,ρ,hi',(st.step x1).step x2,e4,fun Hf3 H3 x3=>?_⟩⟩⟩;obtain ⟨a,vs,ea,q,r⟩:=zp7 e2 r1;subst ea;have x:=(x1.trans x2).trans x3;have y:=(x2.trans x3);refine ⟨a,vs,rfl,(x1.s.trans y.h).seq q,fun p hp=>?_⟩;exact k p (zh2 vs lo' hi') Hf3 (upd H3 p (.lst (zh2 vs lo' hi'))) (x.trans (Ext.tmp x.s hp)) (x.h.free hp) (x.s.free hp) zcd (z4c (r.up y.f) _ _)
noncomputable def rCD (G:Gc) (m:List D->Option D) : List V->Hp->VK->Prop:=fun vs H Q=>∃ Hf ds d,zas Hf H/\zao G Hf ds vs/\m ds=some d/\∀ v Hf' H',Ext Hf H Hf' H'->Rep G Hf' d v->Q v H'
noncomputable abbrev zjz (c:Str->Addr) (X:Cx) (f:Value) (m:List D->Option D) : Prop:=zg7 X f (rCD (Gx c X) m)
noncomputable def za9 (m:List D->Option D) (f:List Sl->Option (List D)) (ρ:List Sl) : Option D:=(f ρ).bind m
theorem ztw {m:List D->Option D} {f:List Sl->Option (List D)} {ρ:List Sl} {d:D} (h:za9 m f ρ=some d) : ∃ ds,f ρ=some ds/\m ds=some d:=by
 unfold za9 at h
 cases e : f ρ with
 | none=>rw [e] at h; cases h
 | some ds=>rw [e] at h; exact ⟨ds,rfl,h⟩
theorem zed {m:List D->Option D} {f:List Sl->Option (List D)} {x:Str} {id:String} (hc:zjz c X (.builtin id) m) (hs:∀ ds d,m ds=some d->d.scalar=true) (hg:Gl X x) (hm:X.mg x=none) (hv:bootBuiltins x=some (.builtin id)) (ha:DAB c X (e::es) f) (hn:x ≠ "__name__":=by decide) (hdb:(x==("__debug__" : Str))=false:=by decide)
  (he:starEach (e::es) X.env=(false,eval e X.env)::starEach es X.env:=by rfl) (hpl:(backTo pos (starEach es X.env)).any (·.1)=false:=by rfl) :
  DE c X (.Call (.Name x p) (e::es) [] pos) (za9 m f):=PE.imp (zri hc hg hm hv ha.pa hn hdb he hpl) fun σ H Q q_=>by
 obtain ⟨Hf0,H0,Hf,ρ,d,st,ef,k⟩:=q_;obtain ⟨ds,e1,e2⟩:=ztw ef;exact ⟨Hf0,H0,Hf,ρ,ds,st,e1,fun vs Hf' H' x r=>⟨H',ds,d,zas.refl _,r,e2,fun v Hf2 H2 x2 r2=>k v Hf' H2 (x.trans (Ext.grow x.s x2.h)) (r2.sc (hs _ _ e2))⟩⟩
noncomputable def zcs : List D->Option D
 | [.lst xs]=>some (.int xs.length)
 | [.tup xs]=>some (.int xs.length)
 | [.kl xs]=>some (.int xs.length)
 | [.kt xs]=>some (.int xs.length)
 | [.str x]=>if x.length<=16777216 then some (.int x.length) else none
 | _=>none
theorem zao.one {G:Gc} {H:Hp} {d:D} {vs:List V} (r:zao G H [d] vs) : ∃ v,vs=[v]/\Rep G H d v:=by
 obtain ⟨v,r',e,h,q⟩:=r;cases (show r'=[] from q);exact ⟨v,e,h⟩
theorem zev : zjz c X (.builtin "len") zcs:=by
 rintro pins s σ H vs us Q I rv ⟨Hf,ds,d,s0,r,e,k⟩
 have sq : ∀ (d0:D) (xs:List D),ds=[d0]->zij d0=some xs->d=.int xs.length->wpAny (model X.prog X.w) X.A (call (.builtin "len") us) (EP X pins σ Q) X.xe s:=fun d0 xs ed es e0=>by
  subst ed e0;obtain ⟨v,e1,r1⟩:=r.one;subst e1;obtain ⟨a,ws,e2,q,rs⟩:=zrz es r1;subst e2;refine z3w pins s σ H _ us Q I rv ⟨a,ws,rfl,zvd s0 q,?_⟩;rw [<- rs.length];exact k _ Hf H (Ext.refl s0) rfl
 unfold zcs at e;split at e
 ·cases e; exact sq _ _ rfl rfl rfl
 ·cases e; exact sq _ _ rfl rfl rfl
 ·cases e; exact sq _ _ rfl rfl rfl
 ·cases e; exact sq _ _ rfl rfl rfl
 ·split at e
  ·rename_i hl;cases e;obtain ⟨v,e1,r1⟩:=r.one;subst e1;exact z3x pins s σ H _ us Q I rv ⟨_,by rw [show v=V.str _ from r1],by rw [sizeLine_eq]; exact hl,k _ Hf H (Ext.refl s0) rfl⟩
  ·cases e
 ·cases e
theorem ze6 : ∀ ds d,zcs ds=some d->d.scalar=true:=by
 intro ds d e;unfold zcs at e
 split at e <;> first | (cases e; done) | (cases e; rfl) | (split at e <;> first | (cases e; done) | (cases e; rfl))
noncomputable def tyN : D->Option String
 | .non=>some "NoneType"
 | .bl _=>some "bool"
 | .int _=>some "int"
 | .str _=>some "str"
 | .lst _=>some "list"
 | .tup _=>some "tuple"
 | .dic _ _=>some "dict"
 | _=>none
noncomputable def ztg (T:String) (d:D) : Option D:=(tyN d).map fun t=>.bl (t==T || (t == "bool" && T == "int"))
theorem z2w {G:Gc} {H:Hp} {d:D} {v:V} {t:String} (e:tyN d=some t) (r:Rep G H d v) : zdv G.K H v (.type t):=by
 cases d with
 | non=>cases e; cases r; exact .non
 | bl b=>cases e; cases r; exact .bl b
 | int i=>cases e; cases r; exact .int i
 | str x=>cases e; cases r; exact .str x
 | lst xs=>cases e; obtain ⟨a,vs,e1,q,r⟩:=r; subst e1; exact .lst q
 | tup xs=>cases e; obtain ⟨a,vs,e1,q,r⟩:=r; subst e1; exact .tup q
 | dic ks xs=>cases e; obtain ⟨a,vs,e1,q,l,r⟩:=r; subst e1; exact .dK q
 | _=>cases e
noncomputable def zir (K:PySem.W.Frag) (T:String) : Prop:=∀ t∈["NoneType","bool","int","str","list","tuple","dict"],PySem.W.kitOne K (.type t) (.type T)=some (t==T || (t == "bool" && T == "int"))
theorem z2v {d:D} {t:String} (e:tyN d=some t) : t∈["NoneType","bool","int","str","list","tuple","dict"]:=by
 cases d <;> first | (cases e; decide) | cases e
theorem yd2 {K:PySem.W.Frag} {H H':Hp} {v:V} {t:Value} (s:zas H H') (h:zdv K H v t) : zdv K H' v t:=by
 cases h with
 | non=>exact .non
 | bl x=>exact .bl x
 | int i=>exact .int i
 | str x=>exact .str x
 | flt x=>exact .flt x
 | lst e=>exact .lst (s _ _ e)
 | frz e=>exact .frz (s _ _ e)
 | tup e=>exact .tup (s _ _ e)
 | dK e=>exact .dK (s _ _ e)
 | dT e=>exact .dT (s _ _ e)
 | ins e cl ha hn htk hm=>exact .ins (s _ _ e) cl ha hn htk hm
noncomputable def zge (T:String) (f:List Sl->Option D) (ρ:List Sl) : Option D:=(f ρ).bind (ztg T)
theorem zhd {f:List Sl->Option D} {T:String} {q1:Pos} {y:Str} (hk:zir X.K T) (hg:Gl X "isinstance") (hm:X.mg "isinstance"=none) (hy:bootBuiltins y=some (.type T)) (hgy:Gl X y) (hmy:X.mg y=none) (ha:DB c X e f)
  (hs:starEach [e,.Name y q1] X.env=(false,eval e X.env)::starEach [.Name y q1] X.env:=by rfl) (hs2:starEach [.Name y q1] X.env=(false,eval (.Name y q1) X.env)::starEach [] X.env:=by rfl)
  (hn:y ≠ "__name__":=by decide) (hdb:(y==("__debug__" : Str))=false:=by decide) (hpl:(backTo pos (starEach [.Name y q1] X.env)).any (·.1)=false:=by rfl) :
  DE c X (.Call (.Name "isinstance" p) [e,.Name y q1] [] pos) (zge T f) :=
 PE.imp (zri zwb hg hm boot_isinstance (zct ha (zct (zz3 (v:=.ty T) hgy hmy hy rfl hn hdb) zde hs2) hs) (by decide) (by decide) hs hpl) fun σ H Q q_=>by
  obtain ⟨Hf0,H0,Hf,ρ,d,st,ef,k⟩:=q_;unfold zge at ef
  cases e1 : f ρ with
  | none=>rw [e1] at ef; cases ef
  | some x =>
   rw [e1] at ef;replace ef : ztg T x=some d:=ef;unfold ztg at ef
   cases e2 : tyN x with
   | none=>rw [e2] at ef; cases ef
   | some t =>
    rw [e2] at ef;cases ef;exact ⟨Hf0,H0,Hf,ρ,x,st,e1,fun v Hf' H' x1 r=>⟨v,T,.type t,_,rfl,z2w e2 r,hk t (z2v e2),k _ Hf' H' x1 rfl⟩⟩
end
noncomputable def tDG (G:Gc) (g:D->List Sl->Option (List Sl)) : TG:=fun v σ H Q=>∃ Hf0 H0 Hf ρ d ρ',zal G Hf0 H0 Hf H σ ρ/\Rep G Hf d v/\g d ρ=some ρ'/\∀ σ',zal G Hf0 H0 Hf H σ' ρ'->Q σ' H
noncomputable def yc8 (G:Gc) (g:List D->List Sl->Option (List Sl)) : TGs:=fun vs σ H Q=>∃ Hf0 H0 Hf ρ ds ρ',zal G Hf0 H0 Hf H σ ρ/\zao G Hf ds vs/\g ds ρ=some ρ'/\∀ σ',zal G Hf0 H0 Hf H σ' ρ'->Q σ' H
structure DG (c:Str->Addr) (X:Cx) (tg:Expr) (k:Nat) (g:D->List Sl->Option (List Sl)) : Prop where
 pg : PG X tg (tDG (Gx c X) g)
 len : ∀ d ρ ρ',g d ρ=some ρ'->ρ'.length=ρ.length
 keep : ∀ d ρ ρ' i,g d ρ=some ρ'->k<=i->ρ'[i]?=ρ[i]?
structure DGs (c:Str->Addr) (X:Cx) (tg:List Expr) (k:Nat) (g:List D->List Sl->Option (List Sl)) : Prop where
 pg : PGs X tg (yc8 (Gx c X) g)
 len : ∀ d ρ ρ',g d ρ=some ρ'->ρ'.length=ρ.length
 keep : ∀ d ρ ρ' i,g d ρ=some ρ'->k<=i->ρ'[i]?=ρ[i]?
 many : ∀ ds ρ ρ',g ds ρ=some ρ'->ds.length=tg.length
section
variable {c:Str->Addr} {X:Cx} {e:Expr} {es:List Expr} {pos:Pos}
noncomputable def zb8 (i:Nat) (d:D) (ρ:List Sl) : Option (List Sl):=some (ρ.set i (.im d))
theorem zwy {i k:Nat} (h:PG X e (zhi i)) (hk:i < k) : DG c X e k (zb8 i) :=
 ⟨PG.imp h fun v σ H Q ⟨Hf0,H0,Hf,ρ,d,ρ',st,r,eg,q⟩=>by cases eg; exact q _ (st.setIm r),fun d ρ ρ' h=>by cases h; simp,fun d ρ ρ' j h hj=>by
  cases h;rw [List.getElem?_set_ne (by omega)]⟩
theorem zey (i k:Nat) {x:Str} (hN:X.N.Nodup) (hk:i < k:=by decide) (hi:X.N[i]?=some x:=by rfl) (hx:Loc X.env.scope x:=by first | exact Or.inl rfl | exact Or.inr rfl) (hf:X.fn x=true\/X.env.scope.names.lookup x=some .local:=by first | exact .inl rfl | exact .inr rfl) : DG c X (.Name x pos) k (zb8 i) :=
 zwy (zup hN hi hx hf) hk
noncomputable def znl (ds:List D) (ρ:List Sl) : Option (List Sl):=match ds with
 | []=>some ρ
 | _=>none
noncomputable def zgv (g:D->List Sl->Option (List Sl)) (h:List D->List Sl->Option (List Sl)) (ds:List D) (ρ:List Sl) : Option (List Sl):=match ds with
 | d::ds=>(g d ρ).bind fun ρ1=>h ds ρ1
 | []=>none
theorem zpk {k:Nat} : DGs c X [] k znl:=by
 refine ⟨PGs.imp z92 fun vs σ H Q ⟨Hf0,H0,Hf,ρ,ds,ρ',st,r,eg,q⟩=>?_,fun d ρ ρ' h=>?_,fun d ρ ρ' i h _=>?_,fun d ρ ρ' h=>?_⟩
 ·cases ds with
  | nil=>cases eg; exact ⟨r,q _ st⟩
  | cons d ds=>cases eg
 ·cases d with
  | nil=>cases h; rfl
  | cons a b=>cases h
 ·cases d with
  | nil=>cases h; rfl
  | cons a b=>cases h
 ·cases d with
  | nil=>cases h; rfl
  | cons a b=>cases h
theorem zpy {g:D->List Sl->Option (List Sl)} {h:List D->List Sl->Option (List Sl)} {ds:List D} {ρ ρ':List Sl} (e:zgv g h ds ρ=some ρ') : ∃ d r ρ1,ds=d::r/\g d ρ=some ρ1/\h r ρ1=some ρ':=by
 cases ds with
 | nil=>cases e
 | cons d r =>
  replace e : (g d ρ).bind _=_:=e
  cases e1 : g d ρ with
  | none=>rw [e1] at e; cases e
  | some ρ1=>rw [e1] at e; exact ⟨d,r,ρ1,rfl,e1,e⟩
theorem zh8 {k:Nat} {g:D->List Sl->Option (List Sl)} {h:List D->List Sl->Option (List Sl)} (h1:DG c X e k g) (h2:DGs c X es k h) (hs:(assignEach (e::es) X.env).map (·.2)=assign e X.env::(assignEach es X.env).map (·.2):=by rfl) : DGs c X (e::es) k (zgv g h):=by
 refine ⟨PGs.imp (z91 h1.pg h2.pg hs) fun vs σ H Q ⟨Hf0,H0,Hf,ρ,ds,ρ',st,r,eg,q⟩=>?_,fun d ρ ρ' h=>?_,fun d ρ ρ' i h hi=>?_,fun d ρ ρ' h=>?_⟩
 ·obtain ⟨d,dr,ρ1,rfl,e1,e2⟩:=zpy eg;obtain ⟨v,vr,ev,rv,rr⟩:=r;exact ⟨v,vr,ev,Hf0,H0,Hf,ρ,d,ρ1,st,rv,e1,fun σ1 st1=>⟨Hf0,H0,Hf,ρ1,dr,ρ',st1,rr,e2,q⟩⟩
 ·obtain ⟨d,dr,ρ1,rfl,e1,e2⟩:=zpy h;rw [h2.len _ _ _ e2,h1.len _ _ _ e1]
 ·obtain ⟨d,dr,ρ1,rfl,e1,e2⟩:=zpy h;rw [h2.keep _ _ _ _ e2 hi,h1.keep _ _ _ _ e1 hi]
 ·obtain ⟨d,dr,ρ1,rfl,e1,e2⟩:=zpy h;rw [List.length_cons,List.length_cons,h2.many _ _ _ e2]
noncomputable def tpD : D->Option (List D)
 | .tup xs=>some xs
 | .kt xs=>some xs
 | _=>none
theorem z2r {G:Gc} {H:Hp} {d:D} {v:V} {ds:List D} (e:tpD d=some ds) (r:Rep G H d v) : ∃ a vs,v=.ref a/\SqT G.K H a vs/\zao G H ds vs:=by
 cases d with
 | tup xs=>cases e; obtain ⟨a,vs,e1,q,r⟩:=r; exact ⟨a,vs,e1,SqT.of q,r⟩
 | kt xs=>cases e; obtain ⟨a,vs,e1,q,r⟩:=r; exact ⟨a,vs,e1,q,r⟩
 | _=>cases e
noncomputable def zi7 (g:List D->List Sl->Option (List Sl)) (d:D) (ρ:List Sl) : Option (List Sl):=(tpD d).bind fun ds=>g ds ρ
theorem zs9 {g:List D->List Sl->Option (List Sl)} {d:D} {ρ ρ':List Sl} (h:zi7 g d ρ=some ρ') : ∃ ds,tpD d=some ds/\g ds ρ=some ρ':=by
 unfold zi7 at h
 cases e : tpD d with
 | none=>rw [e] at h; cases h
 | some ds=>rw [e] at h; exact ⟨ds,rfl,h⟩
theorem zpj {k:Nat} {g:List D->List Sl->Option (List Sl)} {kk:Nat} (hc:X.calm=true) (h:DGs c X es k g) (hn:(assignEach es X.env).length=es.length:=by rfl) (hst:(assignEach es X.env).findIdx? (·.1)=none:=by rfl) : DG c X (.Tuple es kk pos) k (zi7 g):=by
 refine ⟨PG.imp (z90 hc h.pg hn hst) fun v σ H Q ⟨Hf0,H0,Hf,ρ,d,ρ',st,r,eg,q⟩=>?_,fun d ρ ρ' h'=>?_,fun d ρ ρ' i h' hi=>?_⟩
 ·obtain ⟨ds,e1,e2⟩:=zs9 eg;obtain ⟨a,vs,ea,qa,ra⟩:=z2r e1 r;exact ⟨a,vs,ea,st.sub.tup qa,by rw [<- ra.length]; exact h.many _ _ _ e2,Hf0,H0,Hf,ρ,ds,ρ',st,ra,e2,q⟩
 ·obtain ⟨ds,e1,e2⟩:=zs9 h';exact h.len _ _ _ e2
 ·obtain ⟨ds,e1,e2⟩:=zs9 h';exact h.keep _ _ _ _ e2 hi
end
noncomputable def zis (G:Gc) (Hf:Hp) (J:It) (ds:List D) : Prop:=∀ Hf' H',zas Hf Hf'->zas Hf' H'->∀ i : Nat,
 (∀ d,ds[i]?=some d->J.go i H'/\∀ x H2,J.yld i H' x H2->∃ Hf2,Ext Hf' H' Hf2 H2/\Rep G Hf2 d x)/\(i=ds.length->J.stop i H')
noncomputable def zvo (G:Gc) (Hf H:Hp) (J:It) (ds:List D) : Prop:=∀ Hf' H',Ext Hf H Hf' H'->∀ i : Nat,
 (∀ d,ds[i]?=some d->J.go i H'/\∀ x H2,J.yld i H' x H2->∃ Hf2,Ext Hf' H' Hf2 H2/\Rep G Hf2 d x)/\(i=ds.length->J.stop i H')
theorem zis.toE {G:Gc} {Hf H:Hp} {J:It} {ds:List D} (h:zis G Hf J ds) : zvo G Hf H J ds:=fun Hf' H' x i=>h Hf' H' x.f x.s i
noncomputable def tDI (G:Gc) (f:List Sl->Option (List D)) : TI:=fun σ H R=>∃ Hf0 H0 Hf ρ ds,zal G Hf0 H0 Hf H σ ρ/\f ρ=some ds/\∀ J Hf' H',Ext Hf H Hf' H'->zis G Hf' J ds->R J H'
noncomputable def z2j (G:Gc) (f:List Sl->Option (List D)) : TI:=fun σ H R=>∃ Hf0 H0 Hf ρ ds,zal G Hf0 H0 Hf H σ ρ/\f ρ=some ds/\∀ J Hf' H',Ext Hf H Hf' H'->zvo G Hf' H' J ds->R J H'
noncomputable def DI (c:Str->Addr) (X:Cx) (tg iter:Expr) (f:List Sl->Option (List D)) : Prop:=PI X tg iter (tDI (Gx c X) f)
noncomputable def DIe (c:Str->Addr) (X:Cx) (tg iter:Expr) (f:List Sl->Option (List D)) : Prop:=PI X tg iter (z2j (Gx c X) f)
section
variable {c:Str->Addr} {X:Cx} {tg e a b:Expr} {es:List Expr} {pos p:Pos}
theorem DI.de {f:List Sl->Option (List D)} (h:DI c X tg e f) : DIe c X tg e f:=PI.imp h fun σ H R q_=>by
 obtain ⟨Hf0,H0,Hf,ρ,ds,st,ef,k⟩:=q_;exact (⟨Hf0,H0,Hf,ρ,ds,st,ef,fun J Hf' H' x i=>k J Hf' H' x i.toE⟩)
theorem z6l {G:Gc} {Hf:Hp} {ds:List D} {l:Addr} {vs:List V} (q:SqT G.K Hf l vs) (r:zao G Hf ds vs) : zis G Hf (Itt G.K l) ds:=fun Hf' H' f s i=>by
 have q' : SqT G.K H' l vs:=(f.trans s).tup q;refine ⟨fun d ed=>?_,fun ei=>⟨vs,q',by rw [<- r.length,ei]; exact Nat.le_refl _⟩⟩;obtain ⟨v,ev,rv⟩:=r.get ed;refine ⟨⟨vs,v,q',ev⟩,fun x H2 ⟨e2,y⟩=>?_⟩;subst e2;have:=y vs q';rw [ev] at this;cases this;exact ⟨Hf',Ext.refl s,rv.up f⟩
theorem zi1 {f:List Sl->Option D} (h:DE c X e f) : DI c X tg e (zeo f):=fun pins s σ H R I q_=>by
 obtain ⟨Hf0,H0,Hf,ρ,ds,st,ef,k⟩:=q_;unfold zeo at ef
 cases e1 : f ρ with
 | none=>rw [e1] at ef; cases ef
 | some d =>
  rw [e1] at ef;replace ef : zij d=some ds:=ef;have un : ∀ {l:Addr} {H':Hp} {us vs:List V},SqL X.K H' l us->SqL X.K H' l vs->us=vs\/True:=fun _ _=>.inr trivial
  cases e2 : lsD d with
  | some ds' =>
   have : ds'=ds:=by cases d <;> first | (cases e2; done) | (cases e2; cases ef; rfl)
   subst this;refine z94 h pins s σ H R I ⟨Hf0,H0,Hf,ρ,d,st,e1,fun v Hf' H' x r=>?_⟩;obtain ⟨a,vs,ea,q,rs⟩:=zp7 e2 r
   exact ⟨a,ea,⟨vs,x.s.seq q⟩,k _ Hf' H' x fun Hf2 H2 f2 s2 i=>by
    have q' : SqL X.K H2 a vs:=(f2.trans s2).seq q;refine ⟨fun d ed=>?_,fun ei=>⟨vs,q',by rw [<- rs.length,ei]; exact Nat.le_refl _⟩⟩;obtain ⟨v,ev,rv⟩:=rs.get ed;refine ⟨⟨vs,v,q',ev⟩,fun x H3 ⟨e3,y⟩=>?_⟩;subst e3;have:=y vs q';rw [ev] at this;cases this
    exact ⟨Hf2,Ext.refl s2,rv.up f2⟩⟩
  | none =>
   have e3 : tpD d=some ds:=by cases d <;> first | (cases e2; done) | (cases ef; done) | (cases ef; rfl)
   refine z0g h pins s σ H R I ⟨Hf0,H0,Hf,ρ,d,st,e1,fun v Hf' H' x r=>?_⟩;obtain ⟨a,vs,ea,q,rs⟩:=z2r e3 r;exact ⟨a,ea,⟨vs,x.s.tup q⟩,k _ Hf' H' x (z6l q rs)⟩
noncomputable def rng (lo:Int) (n:Nat) : List D:=(List.range n).map fun (i:Nat)=>.int (lo + i)
theorem zx6 {G:Gc} {Hf:Hp} {lo:Int} {n:Nat} : zis G Hf (Itr lo n) (rng lo n):=fun Hf' H' f s i=>by
 refine ⟨fun d ed=>?_,fun ei=>?_⟩
 ·unfold rng at ed;rw [List.getElem?_map] at ed
  cases e : (List.range n)[i]? with
  | none=>rw [e] at ed; cases ed
  | some j =>
   rw [e] at ed;obtain ⟨hi,ej⟩:=List.getElem?_eq_some_iff.mp e;rw [List.length_range] at hi;rw [List.getElem_range] at ej;subst ej;cases ed;exact ⟨hi,fun x H2 ⟨e2,y⟩=>by subst e2; exact ⟨Hf',Ext.refl s,y⟩⟩
 ·unfold rng at ei;rw [List.length_map,List.length_range] at ei;exact Nat.le_of_eq ei.symm
noncomputable def zih : List D->Option (List D)
 | [.int j]=>if -(2 ^ 62)<=j/\j < 2 ^ 62 then some (rng 0 j.toNat) else none
 | [.int i,.int j]=>if -(2 ^ 62)<=i/\i < 2 ^ 62/\-(2 ^ 62)<=j/\j < 2 ^ 62 then some (rng i (j - i).toNat) else none
 | _=>none
noncomputable def ze3 (f:List Sl->Option (List D)) (ρ:List Sl) : Option (List D):=(f ρ).bind zih
theorem znd {f:List Sl->Option (List D)} (hg:Gl X "range") (hm:X.mg "range"=none) (ha:DA c X [a] f) (hs:starEach [a] X.env=[(false,eval a X.env)]:=by rfl) : DI c X tg (.Call (.Name "range" p) [a] [] pos) (ze3 f) :=
 PI.imp (z0f hg hm ha.pa hs) fun σ H R q_=>by
  obtain ⟨Hf0,H0,Hf,ρ,ds,st,ef,k⟩:=q_;unfold ze3 at ef
  cases e1 : f ρ with
  | none=>rw [e1] at ef; cases ef
  | some as =>
   rw [e1] at ef;replace ef : zih as=some ds:=ef;have hl:=ha.len ρ as e1;refine ⟨Hf0,H0,Hf,ρ,as,st,e1,fun vs Hf' H' x r=>?_⟩;unfold zih at ef;split at ef
   ·split at ef
    ·rename_i j hj;cases ef;obtain ⟨v,ev,rv⟩:=r.one;cases (show v=V.int j from rv);exact ⟨j,ev,hj.1,hj.2,k _ Hf' H' x zx6⟩
    ·cases ef
   ·cases hl
   ·cases ef
end
noncomputable def zcv (k:Nat) (js:List Nat) (ρ:List Sl) : List Sl:=List.replicate k .no++js.map fun j=>(ρ[j]?).getD .no
section
variable {G:Gc} {Hf0 H0 Hf H:Hp} {σ:St} {ρ:List Sl}
theorem zal.weak {ρ':List Sl} (h:zal G Hf0 H0 Hf H σ ρ) (hl:ρ'.length=ρ.length) (hw:∀ (i:Nat) (s:Sl),ρ'[i]?=some s->s=.no\/ρ[i]?=some s) : zal G Hf0 H0 Hf H σ ρ':=by
 refine h.re h.ext hl (fun i v s a b=>?_) fun i s v a b c p=>?_
 ·rcases hw i s b with e | e
  ·subst e; trivial
  ·exact h.at' i v s a e
 ·rcases hw i s b with e | e
  ·subst e; exact (p.calm rfl).elim
  ·exact ⟨s,e,p⟩
theorem zlb {α : Type} {k:Nat} {x:α} {l:List α} {i:Nat} {y:α} (h:(List.replicate k x++l)[i]?=some y) : (i < k/\y=x)\/(k<=i/\l[i - k]?=some y):=by
 by_cases hi : i < k
 ·left;rw [List.getElem?_append_left (by simpa using hi),List.getElem?_replicate,if_pos hi] at h;exact ⟨hi,(Option.some.inj h).symm⟩
 ·right;rw [List.getElem?_append_right (by simpa using Nat.le_of_not_lt hi),List.length_replicate] at h;exact ⟨Nat.le_of_not_lt hi,h⟩
theorem zjh {α β : Type} {f:α->β} {l:List α} {i:Nat} {y:β} (h:(l.map f)[i]?=some y) : ∃ x,l[i]?=some x/\y=f x:=by
 rw [List.getElem?_map] at h
 cases e : l[i]? with
 | none=>rw [e] at h; cases h
 | some x=>rw [e] at h; exact ⟨x,rfl,(Option.some.inj h).symm⟩
theorem z71 {js:List Nat} (h:js.Nodup) {i j x:Nat} (a:js[i]?=some x) (b:js[j]?=some x) : i=j:=by
 obtain ⟨h1,e1⟩:=List.getElem?_eq_some_iff.mp a;obtain ⟨h2,e2⟩:=List.getElem?_eq_some_iff.mp b;exact (List.getElem_inj h).mp (e1.trans e2.symm)
theorem zal.comp (k:Nat) {js:List Nat} (h:zal G Hf0 H0 Hf H σ ρ) (hj:js.Nodup) : zal G Hf0 H0 Hf H (zfp k js σ) (zcv k js ρ):=by
 have own : ∀ (i:Nat) (s:Sl),(zcv k js ρ)[i]?=some s->s.calm=false->∃ j,k<=i/\js[i - k]?=some j/\ρ[j]?=some s:=fun i s a hs=>by
  rcases zlb a with ⟨_,e⟩ | ⟨hi,a⟩
  ·subst e; cases hs
  ·obtain ⟨j,ej,es⟩:=zjh a
   cases e : ρ[j]? with
   | none=>rw [e] at es; subst es; cases hs
   | some t=>rw [e] at es; replace es : s=t:=es; subst es; exact ⟨j,hi,ej,e⟩
 have val : ∀ (i:Nat) (v:Option V) (j:Nat),(zfp k js σ)[i]?=some v->k<=i->js[i - k]?=some j->v=(σ[j]?).getD none:=fun i v j a hi ej=>by
  rcases zlb a with ⟨hi',_⟩ | ⟨_,a⟩
  ·omega
  ·obtain ⟨j',ej',es⟩:=zjh a;rw [ej] at ej'; cases ej';exact es
 refine ⟨h.ext,by simp [zfp,zcv],fun i v s a b=>?_,fun i j s t y z l a b c d p q=>?_⟩
 ·rcases zlb b with ⟨_,e⟩ | ⟨hi,b⟩
  ·subst e; trivial
  ·obtain ⟨j,ej,es⟩:=zjh b;have ev:=val i v j a hi ej
   cases e : ρ[j]? with
   | none=>rw [e] at es; subst es; trivial
   | some t =>
    rw [e] at es;replace es : s=t:=es;subst es;obtain ⟨u,eu,q⟩:=h.slot e;rw [eu] at ev;replace ev : v=u:=ev;subst ev;exact q
 ·have hs : s.calm=false:=by
   cases hc : s.calm with
   | true=>exact (p.calm hc).elim
   | false=>rfl
  have ht : t.calm=false:=by
   cases hc : t.calm with
   | true=>exact (q.calm hc).elim
   | false=>rfl
  obtain ⟨i',hi,ei,e1⟩:=own i s a hs;obtain ⟨j',hj',ej,e2⟩:=own j t b ht;have v1:=val i _ i' c hi ei;have v2:=val j _ j' d hj' ej;obtain ⟨u1,eu1,_⟩:=h.slot e1;obtain ⟨u2,eu2,_⟩:=h.slot e2;rw [eu1] at v1;rw [eu2] at v2;replace v1 : some y=u1:=v1;replace v2 : some z=u2:=v2;subst v1 v2;have:=h.dj i' j' s t y z l e1 e2 eu1 eu2 p q;subst this;have:=z71 hj ei ej;omega
end
noncomputable def zfo (h:D->Option (Option D)) : List D->Option (List D)
 | []=>some []
 | d::ds=>(h d).bind fun o=>(zfo h ds).map fun r=>match o with
  | some y=>y::r
  | none=>r
theorem z34 {h:D->Option (Option D)} {d:D} {ds r:List D} (e:zfo h (d::ds)=some r) : ∃ o r',h d=some o/\zfo h ds=some r'/\r=(match o with | some y=>y::r' | none=>r'):=by
 unfold zfo at e
 cases e1 : h d with
 | none=>rw [e1] at e; cases e
 | some o =>
  cases e2 : zfo h ds with
  | none=>rw [e1,e2] at e; cases e
  | some r' =>
   rw [e1,e2] at e;cases e;refine ⟨o,r',rfl,rfl,?_⟩
   cases o <;> rfl
noncomputable def zg0 (g:D->List Sl->Option (List Sl)) (ft:List Sl->Option Bool) (fe:List Sl->Option D) (ρ:List Sl) (d:D) : Option (Option D):=(g d ρ).bind fun ρ1=>(ft ρ1).bind fun b=>if b then (fe ρ1).map some else some none
noncomputable def zd7 (k:Nat) (js:List Nat) (fi:List Sl->Option (List D)) (g:D->List Sl->Option (List Sl)) (ft:List Sl->Option Bool) (fe:List Sl->Option D) (ρ:List Sl) : Option (List D) :=
 (fi ρ).bind fun ds=>if ds.length<=16777216 then zfo (zg0 g ft fe (zcv k js ρ)) ds else none
theorem zs2 {α : Type} {l:List α} {i:Nat} (h:i < l.length) : ∃ x,l[i]?=some x/\l.drop i=x::l.drop (i + 1):=⟨l[i],by simp [h],(List.drop_eq_getElem_cons h)⟩
noncomputable def DTs (c:Str->Addr) (X:Cx) (ifs:List Expr) (f:List Sl->Option Bool) : Prop:=PTs X ifs (tDT (Gx c X) f)
section
variable {c:Str->Addr} {X:Cx} {elt tg iter e:Expr} {ifs:List Expr} {scope:Scope} {pos:Pos} {Nc:List Str} {k:Nat} {js:List Nat}
 {fi:List Sl->Option (List D)} {g:D->List Sl->Option (List Sl)} {ft:List Sl->Option Bool} {fe:List Sl->Option D}
theorem zni : DTs c X [] (fun _=>some true):=PTs.imp yaw fun σ H Q q_=>by
 obtain ⟨Hf0,H0,Hf,ρ,b,st,ef,k⟩:=q_;exact (by cases ef; exact k Hf H (Ext.refl st.sub))
theorem z40 {f:List Sl->Option Bool} (h:DT c X e f) : DTs c X [e] f:=yax h
theorem zwh {G:Gc} (hj:js.Nodup) (hk:∀ d ρ ρ' i,g d ρ=some ρ'->k<=i->ρ'[i]?=ρ[i]?) (hlen:∀ d ρ ρ',g d ρ=some ρ'->ρ'.length=ρ.length) {σ:St} {H:Hp} {Q:VK} (h:tDO G (zd7 k js fi g ft fe) σ H Q) :
  zr1 k js (z2j G fi) (tDG G g) (tDT G ft) (tD G fe) σ H Q:=by
 obtain ⟨Hf0,H0,Hf,ρ,rs,st,ef,kq⟩:=h;unfold zd7 at ef
 cases e1 : fi ρ with
 | none=>rw [e1] at ef; cases ef
 | some ds =>
  rw [e1] at ef;replace ef : (if ds.length<=16777216 then zfo (zg0 g ft fe (zcv k js ρ)) ds else none)=some rs:=ef
  by_cases hz : ds.length<=16777216
  ·rw [if_pos hz] at ef;refine ⟨Hf0,H0,Hf,ρ,ds,st,e1,fun J Hf1 H1 x1 it=>?_⟩
   refine ⟨fun i m ys σ' H'=>m=ds.length - i/\i<=ds.length/\∃ Hf' as zbp,Ext Hf1 H1 Hf' H'/\zal G Hf0 H0 Hf' H' σ' (zcv k js ρ)/\zao G Hf' as ys/\zfo (zg0 g ft fe (zcv k js ρ)) (ds.drop i)=some zbp/\rs=as++zbp/\as.length<=i,
    ⟨ds.length,rfl,Nat.zero_le _,Hf1,[],rs,Ext.refl x1.s,(st.step x1).comp k hj,rfl,ef,rfl,Nat.le_refl _⟩,?_⟩
   rintro i m ys σ' H' ⟨rfl,hi,Hf',as,zbp,x2,st2,ra,ec,er,hal⟩;have hys : ys.length<=sizeLine:=by rw [sizeLine_eq,<- ra.length]; omega
   obtain ⟨it1,it2⟩:=it Hf' H' x2 i
   by_cases hlt : i < ds.length
   ·obtain ⟨d,ed,edr⟩:=zs2 hlt;obtain ⟨go,yl⟩:=it1 d ed
    refine .inr ⟨go,hys,fun ys' σ2 H2=>ds.length - (i + 1)=ds.length - (i + 1)/\i + 1<=ds.length/\∃ Hf' as zbp,Ext Hf1 H1 Hf' H2/\zal G Hf0 H0 Hf' H2 σ2 (zcv k js ρ)/\zao G Hf' as ys'/\zfo (zg0 g ft fe (zcv k js ρ)) (ds.drop (i + 1))=some zbp/\rs=as++zbp/\as.length<=i + 1,
     fun ys' σ2 H2 w=>⟨ds.length - (i + 1),by omega,w⟩,fun x H2 y=>?_⟩
    obtain ⟨Hf2,x3,rx⟩:=yl x H2 y;rw [edr] at ec;obtain ⟨o,r',eo,ec',erest⟩:=z34 ec;unfold zg0 at eo
    cases eg : g d (zcv k js ρ) with
    | none=>rw [eg] at eo; cases eo
    | some ρ1 =>
     rw [eg] at eo;replace eo : (ft ρ1).bind _=_:=eo
     cases et : ft ρ1 with
     | none=>rw [et] at eo; cases eo
     | some b =>
      rw [et] at eo;replace eo : (if b=true then (fe ρ1).map some else some none)=some o:=eo;refine ⟨Hf0,H0,Hf2,zcv k js ρ,d,ρ1,st2.step x3,rx,eg,fun σ3 st3=>⟨Hf0,H0,Hf2,ρ1,b,st3,et,fun Hf4 H4 x4=>?_⟩⟩
      have back : ∀ {Hf5 H5:Hp},zal G Hf0 H0 Hf5 H5 σ3 ρ1->zal G Hf0 H0 Hf5 H5 σ3 (zcv k js ρ):=fun {Hf5 H5} s5=>s5.weak (hlen _ _ _ eg).symm fun j s hs=>by
       rcases zlb hs with ⟨_,e⟩ | ⟨hj',_⟩
       ·exact .inl e
       ·exact .inr (by rw [hk _ _ _ _ eg hj']; exact hs)
      cases b with
      | true =>
       rw [if_pos rfl] at eo;refine ztj ?_
       cases ee : fe ρ1 with
       | none=>rw [ee] at eo; cases eo
       | some y' =>
        rw [ee] at eo;cases eo;refine ⟨Hf0,H0,Hf4,ρ1,y',st3.step x4,ee,fun v Hf5 H5 x5 r5=>?_⟩;have x:=(x3.trans x4).trans x5;refine ⟨rfl,hlt,Hf5,as++[y'],r',x2.trans x,back ((st3.step x4).step x5),(ra.up x.f).append (.cons r5 .nil),ec',?_,by rw [List.length_append,List.length_singleton]; omega⟩;rw [er,erest,List.append_assoc]
        rfl
      | false =>
       rw [if_neg Bool.false_ne_true] at eo;refine zx3 ?_;cases eo;have x:=x3.trans x4;exact ⟨rfl,hlt,Hf4,as,r',x2.trans x,back (st3.step x4),ra.up x.f,ec',by rw [er,erest],by omega⟩
   ·have ei : i=ds.length:=by omega
    subst ei;refine .inl ⟨it2 rfl,hys,fun l h1 h2=>?_⟩;rw [List.drop_eq_nil_of_le (Nat.le_refl _)] at ec;cases ec;rw [List.append_nil] at er;subst er;have x:=x1.trans x2;exact kq l ys Hf' (upd H' l (.lst ys)) (x.trans (Ext.tmp x.s h2)) (x.h.free h2) (x.s.free h2) zcd ra
  ·rw [if_neg hz] at ef;cases ef
theorem zpo (k:Nat) (js:List Nat) (Nc:List Str) (hc:X.calm=true) (hi:DIe c X tg iter fi) (hg:∀ cl C ex s₂ H₂,DG c (X.comp scope Nc cl C ex s₂ H₂) tg k g) (ht:∀ cl C ex s₂ H₂,DTs c (X.comp scope Nc cl C ex s₂ H₂) ifs ft)
  (he:∀ cl C ex s₂ H₂,DE c (X.comp scope Nc cl C ex s₂ H₂) elt fe) (ck:ziw scope X.env.scope.names X.N Nc k js=true:=by rfl) (hs:∀ x,foldedSetIterable iter X.env x=pure x:=by intro _; rfl) (hj:js.Nodup:=by decide) :
  DO c X (.ListComp elt [⟨tg,iter,ifs,0⟩] scope pos) (zd7 k js fi g ft fe) :=
 PE.imp (zz6 (g:=tDG (Gx c X) g) (tt:=tDT (Gx c X) ft) (te:=tD (Gx c X) fe) k js Nc hc hi (fun cl C ex s₂ H₂=>(hg cl C ex s₂ H₂).pg) ht he ck hs) fun σ H Q h =>
  zwh hj (hg [] 0 [] X.s₀ X.H₀).keep (hg [] 0 [] X.s₀ X.H₀).len h
end
section
variable {c:Str->Addr} {X:Cx} {tg:Expr} {scope:Scope} {Nc:List Str} {cl:List (Str×Addr)} {C:Addr} {ex:List Addr} {s₂:Shared} {H₂:Hp}
theorem dvc (i:Nat) {x:Str} {pos:Pos} (hN:Nc[i]?=some x:=by rfl) (hv:Vis scope x:=by first | exact Or.inl rfl | exact Or.inr (Or.inl rfl) | exact Or.inr (Or.inr rfl)) (hd:(x==("__debug__" : Str))=false:=by decide)
  (hcd:(x==("__classdict__" : Str))=false:=by decide) : DE c (X.comp scope Nc cl C ex s₂ H₂) (.Name x pos) (zab i):=zwq (pvc i hN hv hd hcd)
theorem zs3 (i:Nat) {x:Str} {pos:Pos} (hN:Nc[i]?=some x:=by rfl) (hv:Vis scope x:=by first | exact Or.inl rfl | exact Or.inr (Or.inl rfl) | exact Or.inr (Or.inr rfl)) (hd:(x==("__debug__" : Str))=false:=by decide)
  (hcd:(x==("__classdict__" : Str))=false:=by decide) : DC c (X.comp scope Nc cl C ex s₂ H₂) (.Name x pos) (zbk i):=zwn (pvc i hN hv hd hcd)
theorem dgc (i k:Nat) {x:Str} {pos:Pos} (hk:i < k:=by decide) (hN:Nc.Nodup:=by decide +kernel) (hi:Nc[i]?=some x:=by rfl) (hl:scope.names.lookup x=some .local:=by rfl) : DG c (X.comp scope Nc cl C ex s₂ H₂) (.Name x pos) k (zb8 i) :=
 zwy (pgc i hN hi hl) hk
end
inductive Fl where
 | nx (ρ:List Sl)
 | bk (ρ:List Sl)
 | ct (ρ:List Sl)
 | rt (d:D)
 | rtO (ds:List D)
 | rtS (d:D) (ρ:List Sl)
 | rtT (o:O)
noncomputable def zow (G:Gc) (Hf0 H0 Hf:Hp) (E:zf2) : Fl->Prop
 | .nx ρ'=>∀ σ' Hf' H',zas Hf Hf'->zal G Hf0 H0 Hf' H' σ' ρ'->E.nx σ' H'
 | .bk ρ'=>∀ σ' Hf' H',zas Hf Hf'->zal G Hf0 H0 Hf' H' σ' ρ'->E.bk σ' H'
 | .ct ρ'=>∀ σ' Hf' H',zas Hf Hf'->zal G Hf0 H0 Hf' H' σ' ρ'->E.ct σ' H'
 | .rt d=>∀ v Hf' H',Ext Hf0 H0 Hf' H'->Rep G Hf' d v->E.rt v H'
 | .rtO ds=>∀ l vs Hf' H',Ext Hf0 H0 Hf' H'->H0 l=none->Hf' l=none->H' l=some (.lst vs)->zao G Hf' ds vs->E.rt (.ref l) H'
 | .rtS d ρ=>∀ v σ' Hf' H',zal G Hf0 H0 Hf' H' σ' ρ->Rep G Hf' d v->E.rt v H'
 | .rtT o=>∀ u fp Hf' H',Ext Hf0 H0 Hf' H'->OT G Hf' H' o u fp->fp.Nodup->(∀ a∈fp,H0 a=none/\Hf' a=none)->E.rt u H'
noncomputable def tDS (G:Gc) (F:List Sl->Option Fl) : TS:=fun E σ H=>∃ Hf0 H0 Hf ρ o,zal G Hf0 H0 Hf H σ ρ/\F ρ=some o/\zow G Hf0 H0 Hf E o
noncomputable def DS (c:Str->Addr) (X:Cx) (st:Stmt) (F:List Sl->Option Fl) : Prop:=PS X st (tDS (Gx c X) F)
noncomputable def DSs (c:Str->Addr) (X:Cx) (st:List Stmt) (F:List Sl->Option Fl) : Prop:=PSs X st (tDS (Gx c X) F)
noncomputable def zbl (ρ:List Sl) : Option Fl:=some (.nx ρ)
noncomputable def zah (F F':List Sl->Option Fl) (ρ:List Sl) : Option Fl:=(F ρ).bind fun o=>match o with
 | .nx ρ'=>F' ρ'
 | o=>some o
noncomputable def zb2 (t:List Sl->Option Bool) (F F':List Sl->Option Fl) (ρ:List Sl) : Option Fl:=(t ρ).bind fun b=>if b then F ρ else F' ρ
noncomputable def zef (i:Nat) (f:List Sl->Option D) (ρ:List Sl) : Option Fl:=(f ρ).map fun d=>.nx (ρ.set i (.im d))
noncomputable def zep (i:Nat) (f:List Sl->Option (List D)) (ρ:List Sl) : Option Fl:=(f ρ).map fun d=>.nx (ρ.set i (.own d))
noncomputable def zdp (f:List Sl->Option D) (ρ:List Sl) : Option Fl:=(f ρ).map .rt
noncomputable def zkq (f:List Sl->Option (List D)) (ρ:List Sl) : Option Fl:=(f ρ).map .rtO
noncomputable def zfu (i:Nat) (ρ:List Sl) : Option Fl:=match ρ[i]? with
 | some (.im d)=>some (.rt d)
 | some (.own xs)=>some (.rtO xs)
 | _=>none
noncomputable def zgx (g:D->List Sl->Option (List Sl)) (F:List Sl->Option Fl) : List D->List Sl->Option Fl
 | [],ρ=>some (.nx ρ)
 | d::ds,ρ=>(g d ρ).bind fun ρ1=>(F ρ1).bind fun o=>match o with
  | .nx ρ2=>zgx g F ds ρ2
  | .ct ρ2=>zgx g F ds ρ2
  | .bk ρ2=>some (.nx ρ2)
  | .rt d=>some (.rt d)
  | .rtO d=>some (.rtO d)
  | .rtS d ρ2=>some (.rtS d ρ2)
  | .rtT o=>some (.rtT o)
noncomputable def zes (fi:List Sl->Option (List D)) (g:D->List Sl->Option (List Sl)) (F:List Sl->Option Fl) (ρ:List Sl) : Option Fl:=(fi ρ).bind fun ds=>zgx g F ds ρ
noncomputable def zpv (i:Nat) (ρ:List Sl) : List Sl:=match ρ[i]? with
 | some (.own xs)=>ρ.set i (.im (.lst xs))
 | some (.ownd ks xs)=>ρ.set i (.im (.dic ks xs))
 | some (.obj c ns xs)=>ρ.set i (.im (.ins c ns xs))
 | _=>ρ
noncomputable def zfj (i:Nat) (F:List Sl->Option Fl) (ρ:List Sl) : Option Fl:=F (zpv i ρ)
noncomputable def zhl (i:Nat) (f:List Sl->Option D) (ρ:List Sl) : Option Fl:=(f ρ).bind fun d=>match ρ[i]? with
 | some (.own xs)=>if xs.length < 16777216 then some (.nx (ρ.set i (.own (xs++[d])))) else none
 | _=>none
section
variable {c:Str->Addr} {X:Cx} {st:Stmt} {sts a b:List Stmt} {e cd tg iter:Expr} {pos:Pos} {F F':List Sl->Option Fl}
theorem zbr : DSs c X [] zbl:=PSs.imp zk9 fun E σ H q_=>by
 obtain ⟨Hf0,H0,Hf,ρ,o,so,ef,k⟩:=q_;exact (by cases ef; exact k σ Hf H (zas.refl _) so)
theorem zow.up {G:Gc} {Hf0 H0 Hf Hf':Hp} {E:zf2} {o:Fl} (h:zow G Hf0 H0 Hf E o) (s:zas Hf Hf') : zow G Hf0 H0 Hf' E o:=by
 cases o with
 | nx ρ=>exact fun σ' Hf2 H2 s2 q=>h σ' Hf2 H2 (s.trans s2) q
 | bk ρ=>exact fun σ' Hf2 H2 s2 q=>h σ' Hf2 H2 (s.trans s2) q
 | ct ρ=>exact fun σ' Hf2 H2 s2 q=>h σ' Hf2 H2 (s.trans s2) q
 | rt d=>exact h
 | rtO d=>exact h
 | rtS d ρ=>exact h
 | rtT o=>exact h
theorem zaj (h1:DS c X st F) (h2:DSs c X sts F') : DSs c X (st::sts) (zah F F'):=PSs.imp (zjr h1 h2) fun E σ H q_=>by
 obtain ⟨Hf0,H0,Hf,ρ,o,so,ef,k⟩:=q_;unfold zah at ef
 cases e1 : F ρ with
 | none=>rw [e1] at ef; cases ef
 | some o1 =>
  rw [e1] at ef;refine ⟨Hf0,H0,Hf,ρ,o1,so,e1,?_⟩
  cases o1 with
  | nx ρ1=>exact fun σ1 Hf1 H1 s1 so1=>⟨Hf0,H0,Hf1,ρ1,o,so1,ef,k.up s1⟩
  | bk ρ1=>cases ef; exact k
  | ct ρ1=>cases ef; exact k
  | rt d=>cases ef; exact k
  | rtO d=>cases ef; exact k
  | rtS d ρ1=>cases ef; exact k
  | rtT o'=>cases ef; exact k
theorem zam (h1:DS c X st F) : DSs c X [st] F:=yat h1
theorem zca {t:List Sl->Option Bool} (hc:DT c X cd t) (ha:DSs c X a F) (hb:DSs c X b F') : DS c X (.If cd a b pos) (zb2 t F F'):=PS.imp (zrk hc ha hb) fun E σ H q_=>by
 obtain ⟨Hf0,H0,Hf,ρ,o,so,ef,k⟩:=q_;unfold zb2 at ef
 cases e1 : t ρ with
 | none=>rw [e1] at ef; cases ef
 | some x =>
  rw [e1] at ef;refine ⟨Hf0,H0,Hf,ρ,x,so,e1,fun Hf1 H1 x1=>?_⟩
  cases x with
  | true=>rw [if_pos rfl]; exact ⟨Hf0,H0,Hf1,ρ,o,so.step x1,ef,k.up x1.f⟩
  | false=>rw [if_neg Bool.false_ne_true]; exact ⟨Hf0,H0,Hf1,ρ,o,so.step x1,ef,k.up x1.f⟩
theorem z4w {te:TE} {i:Nat} {f:List Sl->Option D} (hp:PS X st (zik te (zhi i))) (hi:∀ σ H Q,tD (Gx c X) f σ H Q->te σ H Q) : DS c X st (zef i f):=PS.imp hp fun E σ H q_=>by
 obtain ⟨Hf0,H0,Hf,ρ,o,so,ef,k⟩:=q_;unfold zef at ef
 cases e1 : f ρ with
 | none=>rw [e1] at ef; cases ef
 | some d =>
  rw [e1] at ef;cases ef;exact hi _ _ _ ⟨Hf0,H0,Hf,ρ,d,so,e1,fun v Hf' H' x r=>k _ Hf' H' x.f ((so.step x).setIm r)⟩
theorem zw6 {te:TE} {i:Nat} {f:List Sl->Option (List D)} (hp:PS X st (zik te (zhi i))) (hi:∀ σ H Q,tDO (Gx c X) f σ H Q->te σ H Q) : DS c X st (zep i f):=PS.imp hp fun E σ H q_=>by
 obtain ⟨Hf0,H0,Hf,ρ,o,so,ef,k⟩:=q_;unfold zep at ef
 cases e1 : f ρ with
 | none=>rw [e1] at ef; cases ef
 | some d =>
  rw [e1] at ef;cases ef;exact hi _ _ _ ⟨Hf0,H0,Hf,ρ,d,so,e1,fun l vs Hf' H' x hn hf hl r=>k _ Hf' H' x.f (so.setOwn (s:=.own d) rfl x hn hf ⟨vs,hl,r⟩)⟩
theorem zf7 (i:Nat) {x:Str} {f:List Sl->Option D} {pos':Pos} (hN:X.N.Nodup) (he:DE c X e f) (hi:X.N[i]?=some x:=by rfl) (hx:Loc X.env.scope x:=by first | exact Or.inl rfl | exact Or.inr rfl) (hs:swapsWith e (some (.Name x pos')) pos.line X.env=pure false:=by rfl) (hf:X.fn x=true\/X.env.scope.names.lookup x=some .local:=by first | exact .inl rfl | exact .inr rfl) :
  DS c X (.Assign [.Name x pos'] e pos) (zef i f):=z4w (zjq hN hi hx he hs hf) fun _ _ _ h=>h
theorem zi4 (i:Nat) {x:Str} {f:List Sl->Option (List D)} {pos':Pos} (hN:X.N.Nodup) (he:DO c X e f) (hi:X.N[i]?=some x:=by rfl) (hx:Loc X.env.scope x:=by first | exact Or.inl rfl | exact Or.inr rfl) (hs:swapsWith e (some (.Name x pos')) pos.line X.env=pure false:=by rfl) (hf:X.fn x=true\/X.env.scope.names.lookup x=some .local:=by first | exact .inl rfl | exact .inr rfl) :
  DS c X (.Assign [.Name x pos'] e pos) (zep i f):=zw6 (zjq hN hi hx he hs hf) fun _ _ _ h=>h
theorem z4v (i:Nat) {x:Str} {pos' spos:Pos} {elt:Expr} {ifs:List Expr} {scope:Scope} {fi:List Sl->Option (List D)} {g:D->List Sl->Option (List Sl)} {ft:List Sl->Option Bool} {fe:List Sl->Option D} (k:Nat) (js:List Nat) (Nc:List Str) (hN:X.N.Nodup) (hc:X.calm=true) (hi:DIe c X tg iter fi)
  (hg:∀ cl C ex s₂ H₂,DG c (X.comp scope Nc cl C ex s₂ H₂) tg k g) (ht:∀ cl C ex s₂ H₂,DTs c (X.comp scope Nc cl C ex s₂ H₂) ifs ft) (he:∀ cl C ex s₂ H₂,DE c (X.comp scope Nc cl C ex s₂ H₂) elt fe)
  (hi':X.N[i]?=some x:=by rfl) (hx:Loc X.env.scope x:=by first | exact Or.inl rfl | exact Or.inr rfl)
  (hsw:swapsWith (.ListComp elt [⟨tg,iter,ifs,0⟩] scope pos) (some (.Name x pos')) spos.line X.env=pure true:=by rfl)
  (ck:ziw scope X.env.scope.names X.N Nc k js=true:=by rfl) (hs:∀ x,foldedSetIterable iter X.env x=pure x:=by intro _; rfl) (hj:js.Nodup:=by decide)
  (hf:X.fn x=true\/X.env.scope.names.lookup x=some .local:=by first | exact .inl rfl | exact .inr rfl) :
  DS c X (.Assign [.Name x pos'] (.ListComp elt [⟨tg,iter,ifs,0⟩] scope pos) spos) (zep i (zd7 k js fi g ft fe)) :=
 zw6 (yar (g:=tDG (Gx c X) g) (tt:=tDT (Gx c X) ft) (te:=tD (Gx c X) fe) k js Nc hN hi' hx hc hi (fun cl C ex s₂ H₂=>(hg cl C ex s₂ H₂).pg) ht he hsw ck hs hf) fun σ H Q h=>zwh hj (hg [] 0 [] X.s₀ X.H₀).keep (hg [] 0 [] X.s₀ X.H₀).len h
theorem zez {f:List Sl->Option D} (he:DE c X e f) : DS c X (.Return (some e) pos) (zdp f):=PS.imp (zoe he) fun E σ H q_=>by
 obtain ⟨Hf0,H0,Hf,ρ,o,so,ef,k⟩:=q_;unfold zdp at ef
 cases e1 : f ρ with
 | none=>rw [e1] at ef; cases ef
 | some d =>
  rw [e1] at ef;cases ef;exact ⟨Hf0,H0,Hf,ρ,d,so,e1,fun v Hf' H' x r=>k v Hf' H' (so.ext.trans x) r⟩
noncomputable def zco (f:List Sl->Option D) (ρ:List Sl) : Option Fl:=(f ρ).map fun d=>.rtS d ρ
theorem zcz {f:List Sl->Option D} (he:DE c X e f) : DS c X (.Return (some e) pos) (zco f):=PS.imp (zoe he) fun E σ H q_=>by
 obtain ⟨Hf0,H0,Hf,ρ,o,so,ef,k⟩:=q_;unfold zco at ef
 cases e1 : f ρ with
 | none=>rw [e1] at ef; cases ef
 | some d =>
  rw [e1] at ef;cases ef;exact ⟨Hf0,H0,Hf,ρ,d,so,e1,fun v Hf' H' x r=>k v σ Hf' H' (so.step x) r⟩
theorem zw5 {f:List Sl->Option (List D)} (he:DO c X e f) : DS c X (.Return (some e) pos) (zkq f):=PS.imp (zoe he) fun E σ H q_=>by
 obtain ⟨Hf0,H0,Hf,ρ,o,so,ef,k⟩:=q_;unfold zkq at ef
 cases e1 : f ρ with
 | none=>rw [e1] at ef; cases ef
 | some d =>
  rw [e1] at ef;cases ef;exact ⟨Hf0,H0,Hf,ρ,d,so,e1,fun l vs Hf' H' x hn hf hl r=>k l vs Hf' H' (so.ext.trans x) (so.ext.h.free hn) hf hl r⟩
theorem z4t {i:Nat} (he:PE X e (zc8 i)) : DS c X (.Return (some e) pos) (zfu i):=PS.imp (zoe he) fun E σ H q_=>by
 obtain ⟨Hf0,H0,Hf,ρ,o,so,ef,k⟩:=q_;unfold zfu at ef
 cases es : ρ[i]? with
 | none=>rw [es] at ef; cases ef
 | some s =>
  rw [es] at ef
  cases s with
  | im d =>
   cases ef;obtain ⟨v,e1,r⟩:=so.imm es
   exact ⟨_,e1,k v Hf H so.ext r⟩
  | own xs =>
   cases ef;obtain ⟨l,e1,h0,hf,vs,q,r⟩:=so.ownAt rfl es
   exact ⟨_,e1,k l vs Hf H so.ext h0 hf q r⟩
  | _=>cases ef
theorem znf (i:Nat) {x:Str} {p:Pos} (hN:X.N[i]?=some x:=by rfl) (hv:Vis X.env.scope x:=by first | exact Or.inl rfl | exact Or.inr (Or.inl rfl) | exact Or.inr (Or.inr rfl)) (hd:(x==("__debug__" : Str))=false:=by decide)
  (hcd:(x==("__classdict__" : Str))=false:=by decide) : DS c X (.Return (some (.Name x p)) pos) (zfu i):=z4t (zhr hN hv hd hcd)
theorem zgt {fi:List Sl->Option (List D)} {g:D->List Sl->Option (List Sl)} {kk:Nat} (hp:PassesOwn (model X.prog X.w) X.A X.env X.xe) (hc:X.calm=true) (hi:DI c X tg iter fi) (hg:DG c X tg kk g) (hb:DSs c X a F) (hs:∀ x,foldedSetIterable iter X.env x=pure x:=by intro _; rfl) :
  DS c X (.For tg iter a [] pos) (zes fi g F):=PS.imp (z0q hp hc hi hg.pg hb hs) fun E σ H q_=>by
 obtain ⟨Hf0,H0,Hf,ρ,o,so,ef,k⟩:=q_;unfold zes at ef
 cases e1 : fi ρ with
 | none=>rw [e1] at ef; cases ef
 | some ds =>
  rw [e1] at ef;replace ef : zgx g F ds ρ=some o:=ef;refine ⟨Hf0,H0,Hf,ρ,ds,so,e1,fun J Hf1 H1 x1 it=>?_⟩;refine ⟨fun i m σ' H'=>m=ds.length - i/\i<=ds.length/\∃ Hf' ρ',zal (Gx c X) Hf0 H0 Hf' H' σ' ρ'/\zas Hf1 Hf'/\zgx g F (ds.drop i) ρ'=some o,⟨ds.length,rfl,Nat.zero_le _,Hf1,ρ,so.step x1,zas.refl _,ef⟩,?_⟩;rintro i m σ' H' ⟨rfl,hi',Hf',ρ',so',s1,em⟩;obtain ⟨it1,it2⟩:=it Hf' H' s1 so'.sub i
  by_cases hlt : i < ds.length
  ·obtain ⟨d,ed,edr⟩:=zs2 hlt;obtain ⟨go,yl⟩:=it1 d ed;rw [edr] at em;unfold zgx at em;refine .inr ⟨go,fun σ2 H2=>ds.length - (i + 1)=ds.length - (i + 1)/\i + 1<=ds.length/\∃ Hf' ρ',zal (Gx c X) Hf0 H0 Hf' H2 σ2 ρ'/\zas Hf1 Hf'/\zgx g F (ds.drop (i + 1)) ρ'=some o,fun σ2 H2 w=>⟨ds.length - (i + 1),by omega,w⟩,fun x H2 y=>?_⟩;obtain ⟨Hf2,x2,rx⟩:=yl x H2 y
   cases eg : g d ρ' with
   | none=>rw [eg] at em; cases em
   | some ρ1 =>
    rw [eg] at em;replace em : (F ρ1).bind _=_:=em
    cases eF : F ρ1 with
    | none=>rw [eF] at em; cases em
    | some o1 =>
     rw [eF] at em;refine ⟨Hf0,H0,Hf2,ρ',d,ρ1,so'.step x2,rx,eg,fun σ3 so3=>⟨Hf0,H0,Hf2,ρ1,o1,so3,eF,?_⟩⟩;have sf:=s1.trans x2.f
     cases o1 with
     | nx ρ2=>exact fun σ4 Hf4 H4 s4 so4=>⟨rfl,hlt,Hf4,ρ2,so4,sf.trans s4,em⟩
     | ct ρ2=>exact fun σ4 Hf4 H4 s4 so4=>⟨rfl,hlt,Hf4,ρ2,so4,sf.trans s4,em⟩
     | bk ρ2=>cases em; exact fun σ4 Hf4 H4 s4 so4=>k σ4 Hf4 H4 ((x1.f.trans sf).trans s4) so4
     | rt d=>cases em; exact k
     | rtO d=>cases em; exact k
     | rtS d ρ2=>cases em; exact k
     | rtT o'=>cases em; exact k
  ·have ei : i=ds.length:=by omega
   subst ei;rw [List.drop_eq_nil_of_le (Nat.le_refl _)] at em;cases em;exact .inl ⟨it2 rfl,k σ' Hf' H' (x1.f.trans s1) so'⟩
theorem z5f {G:Gc} {i:Nat} {E:zf2} {σ:St} {H:Hp} (h:tDS G (zfj i F) E σ H) : tDS G F E σ H:=by
 obtain ⟨Hf0,H0,Hf,ρ,o,so,ef,k⟩:=h;unfold zfj zpv at ef;split at ef
 ·rename_i xs es;obtain ⟨l,e1,h0,hf,vs,q,r⟩:=so.ownAt rfl es;exact ⟨Hf0,H0,_,_,o,so.fixd (d:=.lst xs) rfl es e1 q ⟨l,vs,rfl,zcd,r.up (zc3 hf)⟩,ef,k.up (zc3 hf)⟩
 ·rename_i ks xs es;obtain ⟨l,e1,h0,hf,vs,q,z,r⟩:=so.ownAt rfl es;exact ⟨Hf0,H0,_,_,o,so.fixd (d:=.dic ks xs) rfl es e1 q ⟨l,vs,rfl,zcd,z,r.up (zc3 hf)⟩,ef,k.up (zc3 hf)⟩
 ·rename_i c' ns xs es;obtain ⟨l,e1,h0,hf,dx,vs,q,z,r⟩:=so.ownAt rfl es;exact ⟨Hf0,H0,_,_,o,so.fixd (d:=.ins c' ns xs) rfl es e1 q ⟨l,dx,vs,rfl,zcd,z,r.up (zc3 hf)⟩,ef,k.up (zc3 hf)⟩
 ·exact ⟨Hf0,H0,Hf,ρ,o,so,ef,k⟩
theorem zhf (i:Nat) (h:DS c X st F) : DS c X st (zfj i F):=PS.imp h fun _ _ _=>z5f
theorem zpp {i:Nat} {f:List Sl->Option D} (h:PS X st (zr2 (tBM X.K "list" zrl (zc8 i) (zil (tD (Gx c X) f) zhw)))) : DS c X st (zhl i f):=PS.imp h fun E σ H q_=>by
 obtain ⟨Hf0,H0,Hf,ρ,o,so,ef,k⟩:=q_;unfold zhl at ef
 cases e1 : f ρ with
 | none=>rw [e1] at ef; cases ef
 | some d =>
  rw [e1] at ef
  replace ef : (match ρ[i]? with | some (.own xs)=>if xs.length < 16777216 then some (Fl.nx (ρ.set i (.own (xs++[d])))) else none | _=>none)=some o:=ef
  split at ef
  ·rename_i xs es;split at ef
   ·rename_i hl;cases ef;obtain ⟨l,e2,h0,hf,vs,q,r⟩:=so.ownAt rfl es;refine ⟨_,e2,.inl ⟨rfl,_,SqL.of q⟩,Hf0,H0,Hf,ρ,d,so,e1,fun v Hf' H' x r'=>?_⟩;have so':=so.step x;have q':=x.h _ _ q;refine ⟨l,vs,v,rfl,rfl,q',by rw [sizeLine_eq,<- r.length]; exact hl,k σ Hf' _ x.f (so'.mutd (s:=.own xs) (s':=.own (xs++[d])) rfl rfl es e2 ⟨vs++[v],zcd,(r.up x.f).append (.cons r' .nil)⟩)⟩
   ·cases ef
  ·cases ef
end
noncomputable def zuu : Fl->Option D
 | .rt d=>some d
 | .rtO ds=>some (.lst ds)
 | .rtS d _=>some d
 | .nx _=>some .non
 | _=>none
noncomputable def zf3 (n:Nat) (ds:List D) : List Sl:=ds.map .im++List.replicate (n - ds.length) .no
noncomputable def zdt (n:Nat) (F:List Sl->Option Fl) (ds:List D) : Option D:=(F (zf3 n ds)).bind zuu
noncomputable def spD (G:Gc) (n:Nat) (m:List D->Option D) : Sp:=fun vs H Q _=>∃ Hf ds d,zas Hf H/\zao G Hf ds vs/\ds.length=n/\m ds=some d/\∀ v Hf' H',Ext Hf H Hf' H'->Rep G Hf' d v->Q v H'
theorem zal.start {G:Gc} {Hf H:Hp} {N:List Str} {ds:List D} {vs:List V} (s0:zas Hf H) (r:zao G Hf ds vs) : zal G Hf H Hf H (start N vs) (zf3 N.length ds):=by
 have hl:=r.length
 have im : ∀ (i:Nat) (s:Sl),(zf3 N.length ds)[i]?=some s->s=.no\/∃ d,ds[i]?=some d/\s=.im d:=fun i s b=>by
  unfold zf3 at b
  by_cases hi : i < ds.length
  ·rw [List.getElem?_append_left (by simpa using hi)] at b;obtain ⟨d,ed,es⟩:=zjh b;exact .inr ⟨d,ed,es⟩
  ·rw [List.getElem?_append_right (by simpa using Nat.le_of_not_lt hi)] at b;obtain ⟨_,e⟩:=List.getElem?_eq_some_iff.mp b;rw [List.getElem_replicate] at e;exact .inl e.symm
 refine ⟨Ext.refl s0,by simp [L2.start,zf3,hl],fun i v s a b=>?_,fun i j s t v w l a b c d p q=>?_⟩
 ·rcases im i s b with e | ⟨d,ed,es⟩
  ·subst e; trivial
  ·subst es;obtain ⟨u,eu,ru⟩:=r.get ed;refine ⟨u,?_,ru⟩;have hi : i < vs.length:=(List.getElem?_eq_some_iff.mp eu).1;unfold L2.start at a;rw [List.getElem?_append_left (by simpa using hi),List.getElem?_map,eu] at a;exact (Option.some.inj a).symm
 ·rcases im i s a with e | ⟨d,ed,es⟩
  ·subst e; exact (p.calm rfl).elim
  ·subst es; exact (p.calm rfl).elim
section
variable {P:Program} {w:World} {K:PySem.W.Frag} {mg:Str->Option Value} {base:Heap} {c:Str->Addr}
theorem zff {x qual:Str} {st:Stmt} {f:Addr} {fd:FuncData} {N ps:List Str} {k:Nat} {F:List Sl->Option Fl} (Fn:Fun K x qual st f fd) (S:za4 N ps (zai st))
  (h:∀ (cdv:Value) (A:Around) (outer:List Env) (s:Shared) (H:Hp) (E:XK),zbz k (A.deeper (envOfC qual (zai st) s.heap.objs.size f cdv))->DSs c (zgs CX0 P w K mg base N qual (zai st) f cdv A outer s H E).nox (za2 st) F) :
  zav P w K mg base CX0 (k + 1) f fd ps (spD ⟨K,c⟩ ps.length (zdt N.length F)):=by
 refine Fn.ok S (fun vs H Q E ⟨Hf,ds,d,s0,r,hl,_⟩=>by rw [<- r.length]; exact hl) fun cdv A outer s H vs Q E hr ⟨Hf,ds,d,s0,r,hl,e,kq⟩=>⟨_,h cdv A outer s H E hr,?_⟩;unfold zdt at e
 cases eF : F (zf3 N.length ds) with
 | none=>rw [eF] at e; cases e
 | some o =>
  rw [eF] at e;replace e : zuu o=some d:=e;refine ⟨Hf,H,Hf,_,o,zal.start s0 r,eF,?_⟩
  cases o with
  | nx ρ=>cases e; exact fun σ' Hf' H' _ so=>kq _ Hf' H' so.ext rfl
  | bk ρ=>cases e
  | ct ρ=>cases e
  | rt d=>cases e; exact kq
  | rtO rs=>cases e; exact fun l vs Hf' H' x hn hf hl r=>kq _ (upd Hf' l (.lst vs)) H' (x.fix hn hf hl) ⟨l,vs,rfl,zcd,r.up (zc3 hf)⟩
  | rtS d ρ=>cases e; exact fun v σ' Hf' H' so r=>kq v Hf' H' so.ext r
  | rtT o=>cases e
end
section
variable {c:Str->Addr} {X:Cx} {k:Nat} {f C:Addr} {fd:FuncData} {ps:List Str} {x:Str} {p pos apos:Pos} {e o:Expr} {es:List Expr} {fa:List Sl->Option (List D)}
theorem zdh {m:List D->Option D} (F:zav X.prog X.w X.K X.mg X.base CX0 k f fd ps (spD (Gx c X) ps.length m)) (hr:zbz k X.A) (hg:Gl X x) (hm:X.mg x=some (.ref f)) (hk:PySem.W.keepIn X.K (.ref f)=true) (hb:zay X.K fd ps []) (ha:DA c X (e::es) fa)
  (hl:(e::es).length=ps.length:=by rfl) (hdb:(x==("__debug__" : Str))=false:=by decide) (he:starEach (e::es) X.env=(false,eval e X.env)::starEach es X.env:=by rfl) (hpl:(backTo pos (starEach es X.env)).any (·.1)=false:=by rfl) :
  DE c X (.Call (.Name x p) (e::es) [] pos) (za9 m fa):=PE.imp (zjp F hr hg hm hk hb .nil zfy ha.pa hdb he hpl) fun σ H Q q_=>by
 obtain ⟨Hf0,H0,Hf,ρ,d,st,ef,kq⟩:=q_;obtain ⟨ds,e1,e2⟩:=ztw ef;refine ⟨Hf0,H0,Hf,ρ,ds,st,e1,fun vs Hf' H' x r=>?_⟩;dsimp only;rw [List.append_nil];exact ⟨Hf',ds,d,x.s,r,(ha.len ρ ds e1).trans hl,e2,fun v Hf2 H2 x2 r2=>kq v Hf2 H2 (x.trans x2) r2⟩
end
theorem ztu {G:Gc} {H:Hp} {f:Str} {d:D} : ∀ {ns:List Str} {ds:List D} {vs:List V},(ns.zip ds).lookup f=some d->zao G H ds vs->∃ v,(ns.zip vs).lookup f=some v/\Rep G H d v
 | [],_,_,e,_=>by simp at e
 | n::ns,[],_,e,_=>by simp at e
 | n::ns,x::ds,_,e,⟨v,r,ev,h1,h2⟩=>by
  subst ev;rw [List.zip_cons_cons,List.lookup_cons] at e;rw [List.zip_cons_cons,List.lookup_cons]
  cases hf : f==n with
  | true=>rw [hf] at e; cases e; exact ⟨v,rfl,h1⟩
  | false=>rw [hf] at e; exact ztu e h2
theorem ztt {f:Str} : ∀ {ns:List Str} {vs:List V},ns.contains f=false->(ns.zip vs).lookup f=none
 | [],_,_=>by simp
 | n::ns,[],_=>by simp
 | n::ns,v::vs,h=>by
  rw [List.contains_cons,Bool.or_eq_false_iff] at h;rw [List.zip_cons_cons,List.lookup_cons,h.1];exact ztt h.2
section
variable {c:Str->Addr} {X:Cx} {k:Nat} {f C:Addr} {fd:FuncData} {ps:List Str} {x fl cn:Str} {p pos apos:Pos} {e o:Expr} {es:List Expr} {fo:List Sl->Option D} {fa:List Sl->Option (List D)}
end
noncomputable def znr : List (Str×(List Sl->Option D))->List Sl->List Str->List D->Option (List Str×List D)
 | [],_,ns,ds=>some (ns,ds)
 | (f,m)::r,ρ,ns,ds=>(m ρ).bind fun d=>if ns.contains f then none else znr r ρ (ns++[f]) (ds++[d])
noncomputable def ydd (G:Gc) (cn:Str) (fs:List (Str×(List Sl->Option D))) : TS:=fun E σ H=>∃ x dx Hf0 H0 Hf ρ ns us ds r,σ[0]?=some (some (.ref x))/\(∀ s∈ρ,Sl.calm s=true)/\zal G Hf0 H0 Hf H σ ρ/\H0 x=none/\Hf x=none /\
 H x=some (.ins (G.cl cn) dx (ns.zip us))/\ns.length=us.length/\ns.length + fs.length<=900/\zao G Hf ds us/\znr fs ρ ns ds=some r /\
 ∀ us' Hf' H',Ext Hf0 H0 Hf' H'->Hf' x=none->H' x=some (.ins (G.cl cn) dx (r.1.zip us'))->r.1.length=us'.length->zao G Hf' r.2 us'->E.nx σ H'
noncomputable def DSI (c:Str->Addr) (X:Cx) (cn:Str) (sts:List Stmt) (fs:List (Str×(List Sl->Option D))) : Prop:=PSs X sts (ydd (Gx c X) cn fs)
theorem zof {f:Str} {v:V} : ∀ {ns:List Str} {us:List V},ns.length=us.length->ns.contains f=false->zdq f v (ns.zip us)=(ns++[f]).zip (us++[v])
 | [],[],_,_=>rfl
 | n::ns,u::us,hl,h=>by
  rw [List.contains_cons,Bool.or_eq_false_iff] at h;have h1 : ¬ (n=f):=fun z=>by rw [z,beq_self_eq_true] at h; cases h.1
  rw [List.zip_cons_cons];unfold zdq
  first
   | (rw [if_neg h1,zof (by simpa using hl) h.2]; rfl)
   | (rw [if_neg (fun z=>h1 (Eq.symm z)),zof (by simpa using hl) h.2]; rfl)
   | (rw [if_neg (by simpa using h1),zof (by simpa using hl) h.2]; rfl)
   | (rw [if_neg (by simpa using fun z=>h1 (Eq.symm z)),zof (by simpa using hl) h.2]; rfl)
 | [],_::_,hl,_=>by cases hl
 | _::_,[],hl,_=>by cases hl
section
variable {c:Str->Addr} {X:Cx} {cn fl:Str} {e o:Expr} {sts:List Stmt} {pos pos':Pos} {m:List Sl->Option D} {fs:List (Str×(List Sl->Option D))}
theorem z4x : DSI c X cn [] []:=PSs.imp zk9 fun E σ H q=>by
 obtain ⟨x,dx,Hf0,H0,Hf,ρ,ns,us,ds,r,e0,no,so,h0,hf,hx,hl,hz,rd,em,k⟩:=q;cases em;exact k us Hf H so.ext hf hx hl rd
theorem zw7 (hc:Cls X.K (c cn)) (hn:zeu X.K (c cn) fl) (ho:PE X o (zc8 0)) (he:DE c X e m) (h:DSI c X cn sts fs) (hs:swapsWith e (some (.Attribute o fl pos')) pos.line X.env=pure false:=by rfl) :
  DSI c X cn (.Assign [.Attribute o fl pos'] e pos::sts) ((fl,m)::fs):=PSs.imp (zjr (yap ho he hs) h) fun E σ H q=>by
 obtain ⟨x,dx,Hf0,H0,Hf,ρ,ns,us,ds,r,e0,no,so,h0,hf,hx,hl,hz,rd,em,k⟩:=q;unfold znr at em
 cases e1 : m ρ with
 | none=>rw [e1] at em; cases em
 | some d =>
  rw [e1] at em;replace em : (if ns.contains fl=true then none else znr fs ρ (ns++[fl]) (ds++[d]))=some r:=em;split at em
  ·cases em
  ·rename_i hnc;have hnc : ns.contains fl=false:=by simpa using hnc
   refine ⟨Hf0,H0,Hf,ρ,d,so,e1,fun v Hf' H' xx rv=>⟨_,e0,x,c cn,dx,ns.zip us,rfl,xx.h _ _ hx,hc,hn,?_,?_⟩⟩
   ·have h1:=List.length_zip (l₁:=ns) (l₂:=us);rw [List.length_cons] at hz;omega
   ·have hf' : Hf' x=none:=by rw [xx.n _ _ hx rfl]; exact hf
    have so':=so.step xx
    have so2 : zal (Gx c X) Hf0 H0 Hf' (upd H' x (.ins (c cn) dx (zdq fl v (ns.zip us)))) σ ρ:=by
     refine so'.re ⟨so'.ext.f,fun b u e=>?_,fun b u e=>?_,so'.ext.n⟩ rfl (fun i w s a b=>?_) fun i s w a b _ p=>(p.calm (no s (List.mem_of_getElem? b))).elim
     ·rw [zbi (zet e h0)]; exact so'.ext.h b u e
     ·rw [zbi (zet e hf')]; exact so'.ext.s b u e
     ·have hs:=no s (List.mem_of_getElem? b);have q:=so'.at' i w s a b
      cases s with
      | no=>trivial
      | im d=>exact q
      | _=>cases hs
    refine ⟨x,dx,Hf0,H0,Hf',ρ,ns++[fl],us++[v],ds++[d],r,e0,no,so2,h0,hf',?_,by rw [List.length_append,List.length_append,hl]; rfl,by rw [List.length_cons] at hz; rw [List.length_append,List.length_singleton]; omega,(rd.up xx.f).append (.cons rv .nil),em,k⟩;rw [zcd,zof hl hnc]
end
noncomputable def del (H:Hp) (x:Addr) : Hp:=fun b=>if b=x then none else H b
theorem zwu {H:Hp} {x:Addr} : del H x x=none:=if_pos rfl
theorem zwt {H:Hp} {x b:Addr} (h:b≠x) : del H x b=H b:=if_neg h
noncomputable def z08 (n:Nat) (fs:List (Str×(List Sl->Option D))) (as:List D) : Option (List Str×List D):=znr fs (.no::(as.map .im++List.replicate (n - 1 - as.length) .no)) [] []
noncomputable def spI (G:Gc) (cn:Str) (n:Nat) (m:List D->Option (List Str×List D)) : Sp:=fun vs H Q _=>∃ x dx Hf as vs' r,vs=.ref x::vs'/\H x=some (.ins (G.cl cn) dx [])/\Hf x=none/\zas Hf H/\zao G Hf as vs'/\as.length + 1=n/\m as=some r /\
 ∀ us Hf' H',Ext Hf (del H x) Hf' H'->Hf' x=none->H' x=some (.ins (G.cl cn) dx (r.1.zip us))->r.1.length=us.length->zao G Hf' r.2 us->Q .non H'
section
variable {P:Program} {w:World} {K:PySem.W.Frag} {mg:Str->Option Value} {base:Heap} {c:Str->Addr}
theorem z5h {x qual cn:Str} {st:Stmt} {f:Addr} {fd:FuncData} {N ps:List Str} {k:Nat} {fs:List (Str×(List Sl->Option D))} (Fn:Fun K x qual st f fd) (S:za4 N ps (zai st))
  (h:∀ (cdv:Value) (A:Around) (outer:List Env) (s:Shared) (H:Hp) (E:XK),zbz k (A.deeper (envOfC qual (zai st) s.heap.objs.size f cdv))->DSI c (zgs CX0 P w K mg base N qual (zai st) f cdv A outer s H E).nox cn (za2 st) fs)
  (hz:fs.length<=900:=by decide) : zav P w K mg base CX0 (k + 1) f fd ps (spI ⟨K,c⟩ cn ps.length (z08 N.length fs)):=by
 refine Fn.ok S (fun vs H Q E q=>by obtain ⟨x,dx,Hf,as,vs',r,ev,_,_,_,ra,hl,_⟩:=q; subst ev; rw [List.length_cons,<- ra.length]; exact hl) fun cdv A outer s H vs Q E hr q=>⟨_,h cdv A outer s H E hr,?_⟩;obtain ⟨x,dx,Hf,as,vs',r,ev,hx,hf,s0,ra,hl,e,kq⟩:=q;subst ev;have la:=ra.length
 have im : ∀ (i:Nat) (s:Sl),(Sl.no::(as.map Sl.im++List.replicate (N.length - 1 - as.length) .no))[i]?=some s->s=.no\/∃ d j,i=j + 1/\as[j]?=some d/\s=.im d:=fun i s b=>by
  cases i with
  | zero=>left; simpa using b.symm
  | succ i =>
   rw [List.getElem?_cons_succ] at b
   by_cases hi : i < as.length
   ·rw [List.getElem?_append_left (by simpa using hi)] at b;obtain ⟨d,ed,es⟩:=zjh b;exact .inr ⟨d,i,rfl,ed,es⟩
   ·rw [List.getElem?_append_right (by simpa using Nat.le_of_not_lt hi)] at b;obtain ⟨_,e⟩:=List.getElem?_eq_some_iff.mp b;rw [List.getElem_replicate] at e;exact .inl e.symm
 have no : ∀ s∈(Sl.no::(as.map Sl.im++List.replicate (N.length - 1 - as.length) .no)),Sl.calm s=true:=fun s hs=>by
  obtain ⟨i,hi⟩:=List.getElem?_of_mem hs
  rcases im i s hi with e | ⟨d,_,_,_,e⟩ <;> (subst e; rfl)
 refine ⟨x,dx,Hf,del H x,Hf,_,[],[],[],r,rfl,no,⟨⟨zas.refl _,fun b o e=>?_,s0,fun _ _ _ _=>rfl⟩,?_,fun i v s a b=>?_,fun i j s t v w l a b _ _ p _=>?_⟩,zwu,hf,hx,rfl,by simpa using hz,rfl,e,fun us Hf' H' xx h1 h2 h3 h4=>kq us Hf' H' xx h1 h2 h3 h4⟩
 ·by_cases hb : b=x
  ·subst hb; rw [zwu] at e; cases e
  ·rw [zwt hb] at e; exact e
 ·unfold L2.start;simp only [List.length_append,List.length_map,List.length_cons,List.length_replicate];omega
 ·rcases im i s b with e | ⟨d,j,ei,ed,es⟩
  ·subst e; trivial
  ·subst es ei;obtain ⟨u,eu,ru⟩:=ra.get ed;refine ⟨u,?_,ru⟩;have hi : j < vs'.length:=(List.getElem?_eq_some_iff.mp eu).1;unfold L2.start at a;rw [List.map_cons,List.cons_append,List.getElem?_cons_succ,List.getElem?_append_left (by simpa using hi),List.getElem?_map,eu] at a;exact (Option.some.inj a).symm
 ·exact (p.calm (no s (List.mem_of_getElem? a))).elim
end
section
variable {c:Str->Addr} {X:Cx} {k:Nat} {f:Addr} {fd:FuncData} {ps:List Str} {x cn:Str} {p pos:Pos} {e:Expr} {es:List Expr} {fa:List Sl->Option (List D)}
end
theorem ycl {i:Nat} {f:List Sl->Option D} {ρ:List Sl} {d:D} (h:f ρ=some d) : zef i f ρ=some (.nx (ρ.set i (.im d))):=by
 unfold zef;rw [h];rfl
theorem yck {i:Nat} {f:List Sl->Option (List D)} {ρ:List Sl} {d:List D} (h:f ρ=some d) : zep i f ρ=some (.nx (ρ.set i (.own d))):=by
 unfold zep;rw [h];rfl
theorem ybm {f:List Sl->Option D} {ρ:List Sl} {d:D} (h:f ρ=some d) : zdp f ρ=some (.rt d):=by
 unfold zdp;rw [h];rfl
theorem ybw {n:Nat} {F:List Sl->Option Fl} {ds:List D} {d:List D} (h:F (zf3 n ds)=some (.rtO d)) : zdt n F ds=some (.lst d):=by
 unfold zdt;rw [h];rfl
theorem zb0 {m:List D->Option D} {f:List Sl->Option (List D)} {ρ:List Sl} {ds:List D} {d:D} (h:f ρ=some ds) (h':m ds=some d) : za9 m f ρ=some d:=by
 unfold za9;rw [h];exact h'
theorem zsk {α : Type} {h:D->Option (Option D)} (f:α->D) (p:α->Bool) (q:α->D) : ∀ (xs:List α),(∀ x∈xs,h (f x)=some (if p x then some (q x) else none))->zfo h (xs.map f)=some ((xs.filter p).map q)
 | [],_=>rfl
 | x::xs,hh=>by
  rw [List.map_cons];unfold zfo;rw [hh x List.mem_cons_self,zsk f p q xs fun y hy=>hh y (List.mem_cons_of_mem _ hy)]
  cases hp : p x with
  | true=>rw [List.filter_cons_of_pos hp]; rfl
  | false=>rw [List.filter_cons_of_neg (by rw [hp]; exact Bool.false_ne_true)]; rfl
theorem z35 {α : Type} {h:D->Option (Option D)} (f:α->D) (q:α->D) (xs:List α) (hh:∀ x∈xs,h (f x)=some (some (q x))) : zfo h (xs.map f)=some (xs.map q):=by
 have:=zsk (h:=h) f (fun _=>true) q xs fun x hx=>(hh x hx).trans rfl;rw [this,List.filter_eq_self.mpr fun _ _=>rfl]
theorem z38 {α : Type} {k:Nat} {js:List Nat} {fi:List Sl->Option (List D)} {g:D->List Sl->Option (List Sl)} {ft:List Sl->Option Bool} {fe:List Sl->Option D} {ρ:List Sl} (xs:List α) (f:α->D) (p:α->Bool) (q:α->D)
  (hi:fi ρ=some (xs.map f)) (hz:xs.length<=16777216) (hh:∀ x∈xs,zg0 g ft fe (zcv k js ρ) (f x)=some (if p x then some (q x) else none)) : zd7 k js fi g ft fe ρ=some ((xs.filter p).map q):=by
 unfold zd7;rw [hi];show (if (xs.map f).length<=16777216 then _ else none)=_;rw [List.length_map,if_pos hz];exact zsk f p q xs hh
theorem zpa {α : Type} {k:Nat} {js:List Nat} {fi:List Sl->Option (List D)} {g:D->List Sl->Option (List Sl)} {ft:List Sl->Option Bool} {fe:List Sl->Option D} {ρ:List Sl} (xs:List α) (f:α->D) (q:α->D)
  (hi:fi ρ=some (xs.map f)) (hz:xs.length<=16777216) (hh:∀ x∈xs,zg0 g ft fe (zcv k js ρ) (f x)=some (some (q x))) : zd7 k js fi g ft fe ρ=some (xs.map q):=by
 unfold zd7;rw [hi];show (if (xs.map f).length<=16777216 then _ else none)=_;rw [List.length_map,if_pos hz];exact z35 f q xs hh
theorem ybo (lo:Int) (n:Nat) : rng lo n=(List.range n).map fun (i:Nat)=>D.int (lo + i):=rfl
theorem zew (i j:Int) : dEq (.int i) (.int j)=some (.bl (i==j)):=rfl
theorem zso (i j:Str) : dEq (.str i) (.str j)=some (.bl (i==j)):=rfl
theorem zm8 (i j:Int) : dNe (.int i) (.int j)=some (.bl (!(i==j))):=rfl
theorem zwl (i j:Str) : dNe (.str i) (.str j)=some (.bl (!(i==j))):=rfl
theorem zat {m:D->D->Option D} {f g:List Sl->Option D} {ρ:List Sl} {x y d:D} (h1:f ρ=some x) (h2:g ρ=some y) (h3:m x y=some d) : m2 m f g ρ=some d:=by
 unfold m2;rw [h1,h2];exact h3
theorem zbf {f:List Sl->Option D} {ρ:List Sl} {b:Bool} (h:f ρ=some (.bl b)) : mB f ρ=some b:=by
 unfold mB;rw [h];rfl
theorem zie {f:List Sl->Option D} {ρ:List Sl} {d:D} {b:Bool} (h:f ρ=some d) (h':zot d=some b) : zd1 f ρ=some b:=by
 unfold zd1;rw [h];exact h'
theorem zko {f:List Sl->Option Bool} {ρ:List Sl} {b:Bool} (h:f ρ=some b) : zfk f ρ=some (!b):=by
 unfold zfk;rw [h];rfl
theorem z7b {f g:List Sl->Option Bool} {ρ:List Sl} {r:Option Bool} (h:f ρ=some true) (h':g ρ=r) : zgc f g ρ=r:=by
 unfold zgc;rw [h];exact h'
theorem z7a {f g:List Sl->Option Bool} {ρ:List Sl} (h:f ρ=some false) : zgc f g ρ=some false:=by
 unfold zgc;rw [h];rfl
theorem z7f {f g:List Sl->Option Bool} {ρ:List Sl} (h:f ρ=some true) : mOr f g ρ=some true:=by
 unfold mOr;rw [h];rfl
theorem z7e {f g:List Sl->Option Bool} {ρ:List Sl} {r:Option Bool} (h:f ρ=some false) (h':g ρ=r) : mOr f g ρ=r:=by
 unfold mOr;rw [h];exact h'
theorem ztv {f g:List Sl->Option Bool} {ρ:List Sl} {a b:Bool} (h:f ρ=some a) (h':g ρ=some b) : zgc f g ρ=some (a && b):=by
 cases a with
 | true=>exact z7b h h'
 | false=>exact z7a h
theorem z7g {f g:List Sl->Option Bool} {ρ:List Sl} {a b:Bool} (h:f ρ=some a) (h':g ρ=some b) : mOr f g ρ=some (a || b):=by
 cases a with
 | true=>exact z7f h
 | false=>exact z7e h h'
theorem zin {f g:List Sl->Option D} {ρ:List Sl} {a b:Bool} (h:f ρ=some (.bl a)) (h':g ρ=some (.bl b)) : zgn f g ρ=some (.bl (a && b)):=by
 unfold zgn;rw [zbf h]
 cases a with
 | true=>exact h'
 | false=>rfl
theorem z2z {f g:List Sl->Option D} {ρ:List Sl} {a b:Bool} (h:f ρ=some (.bl a)) (h':g ρ=some (.bl b)) : vOr f g ρ=some (.bl (a || b)):=by
 unfold vOr;rw [zbf h]
 cases a with
 | true=>rfl
 | false=>exact h'
theorem z2y {f:List Sl->Option D} {ρ:List Sl} {a:Bool} (h:f ρ=some (.bl a)) : zmu f ρ=some (.bl (!a)):=by
 unfold zmu;rw [zbf h];rfl
theorem za1 {f:List Sl->Option D} {g:List Sl->Option (List D)} {ρ:List Sl} {d:D} {ds:List D} (h:f ρ=some d) (h':g ρ=some ds) : zad f g ρ=some (d::ds):=by
 unfold zad;rw [h,h'];rfl
theorem zkj {f:List Sl->Option (List D)} {ρ:List Sl} {ds:List D} (h:f ρ=some ds) : zb3 f ρ=some (.lst ds):=by
 unfold zb3;rw [h];rfl
theorem zbh {f:List Sl->Option (List D)} {g:List Sl->Option D} {ρ:List Sl} {ds:List D} {i:Int} {r:Option D} (h:f ρ=some ds) (h':g ρ=some (.int i)) (h2:atI ds i=r) : mIx f g ρ=r:=by
 unfold mIx;rw [h,h'];exact h2
theorem zpc {C:Int->Int->Prop} [∀ i j,Decidable (C i j)] {g:Int->Int->D} {i j:Int} (h:C i j) : dI C g (.int i) (.int j)=some (g i j):=by
 show (if C i j then some (g i j) else none)=_;rw [if_pos h]
theorem z3l {i:Nat} {f:List Sl->Option D} {ρ:List Sl} {d:D} {xs:List D} (h:f ρ=some d) (h':ρ[i]?=some (.own xs)) (hl:xs.length < 16777216) : zhl i f ρ=some (.nx (ρ.set i (.own (xs++[d])))):=by
 unfold zhl;rw [h]
 show (match ρ[i]? with | some (.own xs)=>if xs.length < 16777216 then some (Fl.nx (ρ.set i (.own (xs++[d])))) else none | _=>none)=_
 rw [h'];show (if xs.length < 16777216 then _ else none)=_;rw [if_pos hl]
theorem z2t {g:D->List Sl->Option (List Sl)} {ft:List Sl->Option Bool} {fe:List Sl->Option D} {ρ ρ1:List Sl} {d y:D} {b:Bool} (h1:g d ρ=some ρ1) (h2:ft ρ1=some b) (h3:b=true->fe ρ1=some y) : zg0 g ft fe ρ d=some (if b then some y else none):=by
 unfold zg0;rw [h1];show (ft ρ1).bind _=_;rw [h2];show (if b=true then (fe ρ1).map some else some none)=_
 cases b with
 | true=>rw [h3 rfl]; rfl
 | false=>rfl
theorem zr5 {g:D->List Sl->Option (List Sl)} {ft:List Sl->Option Bool} {fe:List Sl->Option D} {ρ ρ1:List Sl} {d y:D} (h1:g d ρ=some ρ1) (h2:ft ρ1=some true) (h3:fe ρ1=some y) : zg0 g ft fe ρ d=some (some y):=z2t h1 h2 fun _=>h3
theorem zry {f:List Sl->Option D} {ρ:List Sl} {d:D} {ds:List D} (h:f ρ=some d) (h':zij d=some ds) : zeo f ρ=some ds:=by
 unfold zeo;rw [h];exact h'
noncomputable def itD (z:Int×Int) : D:=.tup [.int z.1,.int z.2]
noncomputable def InN (n:Nat) (its:List (Int×Int)) : Prop:=∀ z∈its,0<=z.1/\z.1 < (n:Int)/\0<=z.2
noncomputable def Prt.toD : Prt->D
 | .inn t=>.tup [.str "in",.int t]
 | .out t=>.tup [.str "out",.int t]
 | .least k its=>.tup [.str "least",.int k,.lst (its.map itD)]
 | .most k its=>.tup [.str "most",.int k,.lst (its.map itD)]
noncomputable def Prt.obj : Prt->D
 | .inn t=>.ins "In" ["thing"] [.int t]
 | .out t=>.ins "Out" ["thing"] [.int t]
 | .least k its=>.ins "Least" ["bound","pieces"] [.int k,.lst (its.map itD)]
 | .most k its=>.ins "Most" ["bound","pieces"] [.int k,.lst (its.map itD)]
noncomputable def Prt.Ok (n:Nat) : Prt->Prop
 | .inn t=>0<=t/\t < (n:Int)
 | .out t=>0<=t/\t < (n:Int)
 | .least _ its=>InN n its/\its.length<=100000
 | .most _ its=>InN n its/\its.length<=100000
theorem zv7 : ∀ {bs:List Bool} {us:List Value},zaz (bs.map V.bl) us->us=bs.map Value.bool
 | [],_,.nil=>rfl
 | b::bs,_,.cons r t=>by
  rw [zv7 t];cases (show _=Value.bool b from r);rfl
theorem ya9 (bs:List Bool) : ((List.range bs.length).all fun i=>(bs[i]?).getD true)=bs.all id:=by
 rw [Bool.eq_iff_iff,List.all_eq_true,List.all_eq_true];constructor
 ·intro h b hb;obtain ⟨i,hi,e⟩:=List.getElem_of_mem hb;have:=h i (List.mem_range.mpr hi);simp only [List.getElem?_eq_getElem hi,Option.getD_some,e] at this;exact this
 ·intro h i hi;have hi':=List.mem_range.mp hi;simp only [List.getElem?_eq_getElem hi',Option.getD_some];exact h _ (List.getElem_mem hi')
section
variable {c:Str->Addr} {X:Cx}
theorem z6n {h h':Heap} {o:Obj} (hk:∀ b x,b∉[h.objs.size]->(h.push o).get? b=some x->h'.get? b=some x) : ∀ b x,h.get? b=some x->h'.get? b=some x :=
 fun b x e=>hk b x (fun hm=>by rw [List.mem_singleton.mp hm] at e; exact Nat.lt_irrefl _ (Heap.lt_size e)) (Heap.get?_push_of_some _ e)
theorem z3u (hc:X.calm=true) : zg7 X (.builtin "all") (fun xs H Q=>∃ (p:Addr) (bs:List Bool),xs=[.ref p]/\SqL X.K H p (bs.map V.bl)/\Q (.bl (bs.all id)) H):=by
 intro pins s σ H xs us Q I r h;obtain ⟨l,bs,rfl,hq,q⟩:=h;obtain ⟨u,rfl,rx⟩:=zmv r;cases rx;obtain ⟨its,r',pl,hz⟩:=I.list hq;have e:=zv7 r';subst e;have hl:=pl.isList;have hlt : l < s.heap.objs.size:=by obtain ⟨_,e,_⟩:=hl; exact Heap.lt_size e
 refine call_all_walk (wpAny_pyIter_list hl ?_)
 refine ⟨s.heap.objs.size,[s.heap.objs.size,l],[s.heap.objs.size],(bs.map Value.bool).toArray.size,_,_,fun i=>(bs[i]?).getD true,rfl,Walks.list (A:=X.A.in1) (I.ok.hd hc) _ l (Nat.ne_of_lt hlt) (bs.map Value.bool).toArray,
  ⟨⟨_,Heap.get?_push_size _ rfl,rfl,rfl⟩,hl.push _⟩,fun i v s' Q' E' hP hQ=>?_,fun h' tk hk=>?_⟩
 ·have hP' : (bs.map Value.bool)[i]?=some v:=by simpa using hP
  obtain ⟨b,e,rfl⟩:=zjh hP';simp only [e,Option.getD_some] at hQ;exact wpAny_truthy_bool hQ
 ·have e : ((List.range (bs.map Value.bool).toArray.size).all fun i=>(bs[i]?).getD true)=bs.all id:=by
   rw [List.size_toArray,List.length_map]; exact ya9 bs
  rw [e];exact ⟨.bl (bs.all id),H,I.kept (z6n hk),rfl,q⟩
noncomputable def zf4 : List D->Option (List Bool)
 | []=>some []
 | .bl b::ds=>(zf4 ds).map fun r=>b::r
 | _=>none
theorem zv6 : ∀ {ds:List D} {bs:List Bool},zf4 ds=some bs->ds=bs.map D.bl
 | [],_,e=>by cases e; rfl
 | .bl b::ds,_,e=>by
  unfold zf4 at e
  cases es : zf4 ds with
  | none=>rw [es] at e; cases e
  | some r=>rw [es] at e; cases e; rw [zv6 es]; rfl
 | .int _::_,_,e=>by cases e
 | .non::_,_,e=>by cases e
 | .str _::_,_,e=>by cases e
 | .lst _::_,_,e=>by cases e
 | .tup _::_,_,e=>by cases e
 | .kl _::_,_,e=>by cases e
 | .kt _::_,_,e=>by cases e
 | .dic _ _::_,_,e=>by cases e
 | .ins _ _ _::_,_,e=>by cases e
theorem zao.bls {G:Gc} {H:Hp} : ∀ {bs:List Bool} {vs:List V},zao G H (bs.map D.bl) vs->vs=bs.map V.bl
 | [],_,h=>h
 | b::bs,_,⟨v,r,e,h1,h2⟩=>by
  subst e;rw [zao.bls h2,show v=V.bl b from h1];rfl
noncomputable def zh0 : List D->Option D
 | [d]=>(lsD d).bind fun ds=>(zf4 ds).map fun bs=>.bl (bs.all id)
 | _=>none
theorem zv9 {f:List Bool->D} {ds:List D} {d:D} (e:(match ds with | [d]=>(lsD d).bind fun ds=>(zf4 ds).map f | _=>none)=some d) : ∃ d0 xs bs,ds=[d0]/\lsD d0=some xs/\xs=bs.map D.bl/\d=f bs:=by
 split at e
 ·rename_i d0
  cases e1 : lsD d0 with
  | none=>rw [e1] at e; cases e
  | some xs =>
   rw [e1] at e;replace e : (zf4 xs).map f=some d:=e
   cases e2 : zf4 xs with
   | none=>rw [e2] at e; cases e
   | some bs=>rw [e2] at e; cases e; exact ⟨d0,xs,bs,rfl,e1,zv6 e2,rfl⟩
 ·cases e
theorem zsj (hc:X.calm=true) : zjz c X (.builtin "all") zh0:=by
 rintro pins s σ H vs us Q I rv ⟨Hf,ds,d,s0,r,e,k⟩;obtain ⟨d0,xs,bs,rfl,e1,rfl,rfl⟩:=zv9 e;obtain ⟨v,ev,r1⟩:=r.one;subst ev;obtain ⟨a,ws,ea,q,rs⟩:=zp7 e1 r1;subst ea;refine z3u hc pins s σ H _ us Q I rv ⟨a,bs,rfl,?_,k _ Hf H (Ext.refl s0) rfl⟩;rw [<- rs.bls];exact s0.seq q
theorem zu2 : ∀ ds d,zh0 ds=some d->d.scalar=true:=fun ds d e=>by
 obtain ⟨d0,xs,bs,rfl,e1,rfl,rfl⟩:=zv9 e;rfl
end
inductive Wrd where
 | make | may | never
 deriving DecidableEq
noncomputable def Wrd.s : Wrd->Str
 | .make=>"make"
 | .may=>"may"
 | .never=>"never"
structure Rul where
 w : Wrd
 hd : Int
 ps : List Prt
noncomputable def Rul.hdD (r:Rul) : D:=match r.w with
 | .never=>.non
 | _=>.int r.hd
noncomputable def Rul.toD (r:Rul) : D:=.tup [.str r.w.s,r.hdD,.lst (r.ps.map Prt.toD)]
structure Rul.Ok (n:Nat) (r:Rul) : Prop where
 hd : r.w≠.never->0<=r.hd/\r.hd < (n:Int)
 ps : ∀ p∈r.ps,p.Ok n
 len : r.ps.length<=100000
noncomputable def Ite (K : PySem.W.Frag) (l : Addr) : It :=
  ⟨fun i H => ∃ xs x, SqL K H l xs/\xs[i]? = some x,
   fun i H v H' => ∃ p x, v = .ref p/\H p = none/\H' = upd H p (.tup [.int i, x])/\(∀ xs, SqL K H l xs->xs[i]? = some x),
   fun i H => ∃ xs, SqL K H l xs/\xs.length<=i⟩
theorem ydv {P:Program} {w:World} {K:PySem.W.Frag} {elts:List Expr} {kx:Nat} {pos:Pos} (e it l:Addr) (ne:e≠it) :
  ziu P w K (.Tuple elts kx pos) (Ite K l) [e,it] e (fun i h=>(∃ old,IsEnum h e it (i:Int) old)/\h.IsListIter it l i) where
 mem:=by simp
 obj:=fun i h st b hb=>by
  obtain ⟨⟨old,he⟩,⟨o1,e1,_,d1⟩⟩:=st;simp only [List.mem_cons,List.not_mem_nil,or_false] at hb
  rcases hb with rfl | rfl
  ·exact ⟨_,he,fun v q=>by cases q⟩
  ·exact ⟨o1,e1,fun v q=>by rw [d1] at q; cases q⟩
 keep:=fun i h h' st k=>by
  obtain ⟨⟨old,he⟩,h1⟩:=st;exact ⟨⟨old,k e (by simp) _ he⟩,h1.at fun o q=>k it (by simp) o q⟩
 item:=by
  intro X hP hw hK hc i pins s σ H E I hf st hg;subst hP hw hK;obtain ⟨⟨old,he⟩,h1⟩:=st;obtain ⟨xs,x,q1,hx⟩:=hg;obtain ⟨its1,r1,p1,z1⟩:=I.list q1;obtain ⟨u1,e1,ru1⟩:=r1.get hx;refine wpAny_pyNext_enum_item he h1 p1.isList (x:=u1) (by simpa using e1) ne fun h' a1 a3 a5 a6 a7=>⟨_,rfl,?_⟩
  refine wpAny_letOwnedTupleGo_enum (s:={ s with heap:=h',toks:=s.toks + 1 }) a1 fun h'' b1 b2=>?_
  have lt : ∀ b∈[e,it],b < s.heap.objs.size:=fun b hb=>by
   simp only [List.mem_cons,List.not_mem_nil,or_false] at hb
   rcases hb with rfl | rfl
   ·exact Heap.lt_size he
   ·obtain ⟨o,e,_⟩:=h1; exact Heap.lt_size e
  have kk : ∀ b o,b∉[e,it]->s.heap.get? b=some o->h''.get? b=some o:=fun b o hb e=>by
   simp only [List.mem_cons,List.not_mem_nil,or_false,not_or] at hb;obtain ⟨n1,n2⟩:=hb;exact (b2.2 b n1).trans (a7 b o n1 n2 e)
  have fr : H s.heap.objs.size=none:=I.hok.fresh (Nat.le_refl _)
  have I1 : Inv X pins σ H { s with heap:=h'',toks:=s.toks + 1 }:=I.turnedMany (t':=s.toks + 1) kk hf
  have hp : h''.get? s.heap.objs.size=some { cls:=.type "tuple",data:=.seq #[.int i s.toks,u1] }:=(b2.2 _ (Nat.ne_of_gt (lt e (by simp)))).trans a5
  have I2 : Inv X pins σ (upd H s.heap.objs.size (.tup [.int i,x])) { s with heap:=h'',toks:=s.toks + 1 } :=
   I1.track (I.fpOk (Nat.le_refl _) fr) ⟨(by show 2<=sizeLine; decide),[.int i s.toks,u1],.cons ⟨s.toks,rfl⟩ (.cons ru1 .nil),⟨_,hp,rfl,_,rfl⟩⟩
  refine ⟨.ref s.heap.objs.size,_,I2,rfl,⟨_,x,rfl,fr,rfl,fun xs' h=>by rw [I.list_inj h q1]; exact hx⟩,⟨⟨u1,?_⟩,?_⟩,fun b hb=>?_⟩
  ·have : ((i + 1 : Nat) : Int)=(i:Int) + 1:=by push_cast; rfl
   rw [this]; exact b1
  ·exact a3.at fun o q=>(b2.2 it (Ne.symm ne)).trans q
  ·rw [zbi (Nat.ne_of_lt (lt b hb))];exact (hf b hb).1
 done:=by
  intro X hP hw hK hc i pins s σ H E I hf st hg;subst hP hw hK;obtain ⟨⟨old,he⟩,h1⟩:=st;obtain ⟨xs,q1,hend⟩:=hg;obtain ⟨its1,r1,p1,z1⟩:=I.list q1;have l1':=r1.length;refine wpAny_pyNext_enum_end (I.ok.hd hc) he h1 p1.isList (by simp; omega) fun h' kk=>⟨rfl,I.turnedMany (t':=s.toks) (ch:=[e,it]) (fun b o hb q=>?_) hf⟩;simp only [List.mem_cons,List.not_mem_nil,or_false,not_or] at hb;exact kk b o hb.2 q
 self:=fun _ _ _ _ _ st h=>by obtain ⟨⟨old,he⟩,_⟩:=st; exact wpAny_pyIter_enum he h
section
variable {X:Cx} {elts:List Expr} {kx:Nat} {tpos:Pos}
noncomputable def z52 (K:PySem.W.Frag) (ta:TA) : TI:=fun σ H R=>ta σ H fun vs H1=>∃ l,vs=[.ref l]/\(∃ xs,SqL K H1 l xs)/\R (Ite K l) H1
theorem z93 {a:Expr} {ta:TA} {p pos:Pos} (hg:Gl X "enumerate") (hm:X.mg "enumerate"=none) (ha:PA X [a] ta) (hs:starEach [a] X.env=[(false,eval a X.env)]:=by rfl) :
  PI X (.Tuple elts kx tpos) (.Call (.Name "enumerate" p) [a] [] pos) (z52 X.K ta):=by
 intro pins s σ H R I h;refine Call_ (zkg I hg hm boot_enumerate (PyProof.Rows.callWith_type1 (thn (ha pos pins s σ H _ I h) fun us s1 ⟨vs,H1,I1,r1,q1⟩=>?_) (by rw [hs]; rfl) (by rfl)));obtain ⟨l,e,⟨xs,h1⟩,q⟩:=q1;subst e;obtain ⟨u,rfl,ru⟩:=zmv r1;cases ru;obtain ⟨its1,r1,p1,z1⟩:=I1.list h1;refine call_enumerate_list p1.isList fun h' a1 a4 a6 a7=>?_;refine wpAny_pyIter_enum a1 ?_
 have I2 : Inv X pins σ H1 { s1 with heap:=h' }:=I1.kept (t':=s1.toks) a7
 refine ⟨_,[s1.heap.objs.size + 1,s1.heap.objs.size],_,_,H1,rfl,I2,ydv _ _ _ (Nat.succ_ne_self _),⟨⟨_,a1⟩,a4⟩,fun b hb=>?_,q⟩;simp only [List.mem_cons,List.not_mem_nil,or_false] at hb
 have hle : s1.heap.objs.size<=b:=by
  rcases hb with rfl | rfl
  ·exact Nat.le_add_right _ _
  ·exact Nat.le_refl _
 exact I1.fpOk hle (I1.hok.fresh hle)
end
noncomputable def zjl : Nat->List D->List D
 | _,[]=>[]
 | i,x::xs=>.tup [.int i,x]::zjl (i + 1) xs
theorem zzc : ∀ (i:Nat) (xs:List D),(zjl i xs).length=xs.length
 | _,[]=>rfl
 | i,x::xs=>by rw [zjl,List.length_cons,List.length_cons,zzc]
theorem zt7 : ∀ (k:Nat) (xs:List D) (i:Nat),(zjl k xs)[i]?=(xs[i]?).map fun x=>.tup [.int (k + i : Nat),x]
 | _,[],_=>rfl
 | k,x::xs,0=>rfl
 | k,x::xs,i + 1=>by rw [zjl,List.getElem?_cons_succ,List.getElem?_cons_succ,zt7 (k + 1) xs i,show k + 1 + i=k + (i + 1) by omega]
noncomputable def zs5 : List D->Option (List D)
 | [x]=>(lsD x).map (zjl 0)
 | _=>none
noncomputable def zic (f:List Sl->Option (List D)) (ρ:List Sl) : Option (List D):=(f ρ).bind zs5
section
variable {c:Str->Addr} {X:Cx} {a:Expr} {pos p:Pos}
theorem zwz {f:List Sl->Option (List D)} {elts:List Expr} {kx:Nat} {tpos:Pos} (hg:Gl X "enumerate") (hm:X.mg "enumerate"=none) (ha:DA c X [a] f) (hs:starEach [a] X.env=[(false,eval a X.env)]:=by rfl) :
  DI c X (.Tuple elts kx tpos) (.Call (.Name "enumerate" p) [a] [] pos) (zic f) :=
 PI.imp (z93 hg hm ha.pa hs) fun σ H R q_=>by
  obtain ⟨Hf0,H0,Hf,ρ,ds,st,ef,k⟩:=q_;unfold zic at ef
  cases e1 : f ρ with
  | none=>rw [e1] at ef; cases ef
  | some as =>
   rw [e1] at ef;replace ef : zs5 as=some ds:=ef;refine ⟨Hf0,H0,Hf,ρ,as,st,e1,fun vs Hf' H' x r=>?_⟩;unfold zs5 at ef;split at ef
   ·rename_i dx
    cases ex : lsD dx with
    | none=>rw [ex] at ef; cases ef
    | some xs =>
     rw [ex] at ef;cases ef;obtain ⟨v,ev,rv⟩:=r.one;obtain ⟨l1,w1,el1,q1,r1⟩:=zp7 ex rv;subst el1;refine ⟨l1,ev,⟨w1,x.s.seq q1⟩,k _ Hf' H' x fun Hf2 H2 f2 s2 i=>?_⟩;have g1 : SqL X.K H2 l1 w1:=(f2.trans s2).seq q1;have h1:=r1.length;refine ⟨fun d ed=>?_,fun ei=>⟨w1,g1,by rw [zzc] at ei; omega⟩⟩;rw [zt7] at ed
     cases hx : xs[i]? with
     | none=>rw [hx] at ed; cases ed
     | some x' =>
      rw [hx] at ed;cases ed;obtain ⟨u1,eu1,ru1⟩:=r1.get hx;refine ⟨⟨w1,u1,g1,eu1⟩,fun z H3 ⟨pp,z1,ez,hp,eh,y1⟩=>?_⟩;subst ez eh;have a1:=y1 w1 g1;rw [eu1] at a1; cases a1;exact ⟨upd Hf2 pp (.tup [.int i,u1]),Ext.new s2 hp,pp,[.int i,u1],rfl,zcd,.cons (by rw [Nat.zero_add]; rfl) (.cons (ru1.up (f2.trans (zc3 (s2.free hp)))) .nil)⟩
   ·cases ef
end
section
variable {c:Str->Addr} {X:Cx} {st:Stmt} {e a b i' value:Expr} {pos pos' p':Pos}
end
noncomputable def zjf (i:Nat) (fk fv:List Sl->Option D) (ρ:List Sl) : Option Fl:=(fv ρ).bind fun d=>(fk ρ).bind fun x=>match x with
 | .int k=>(match ρ[i]? with
  | some (.own xs)=>(ixN xs.length k).map fun j=>.nx (ρ.set i (.own (xs.set j d)))
  | _=>none)
 | _=>none
section
variable {c:Str->Addr} {X:Cx} {st:Stmt} {e a b i' value:Expr} {pos pos':Pos}
theorem z4s {i:Nat} {fk fv:List Sl->Option D} (hp:PS X st (zik (tD (Gx c X) fv) (zs8 (zc8 i) (tD (Gx c X) fk) zur))) : DS c X st (zjf i fk fv):=PS.imp hp fun E σ H q_=>by
 obtain ⟨Hf0,H0,Hf,ρ,o,so,ef,k⟩:=q_;unfold zjf at ef
 cases e1 : fv ρ with
 | none=>rw [e1] at ef; cases ef
 | some d =>
  rw [e1] at ef
  cases e2 : fk ρ with
  | none=>rw [e2] at ef; cases ef
  | some x =>
   rw [e2] at ef
   obtain ⟨ky,rfl⟩ : ∃ ky,x=.int ky:=by cases x <;> first | exact ⟨_,rfl⟩ | cases ef
   replace ef : (match ρ[i]? with | some (.own xs)=>(ixN xs.length ky).map fun j=>Fl.nx (ρ.set i (.own (xs.set j d))) | _=>none)=some o:=ef
   split at ef
   ·rename_i xs es
    cases ej : ixN xs.length ky with
    | none=>rw [ej] at ef; cases ef
    | some j =>
     rw [ej] at ef;cases ef;refine ⟨Hf0,H0,Hf,ρ,d,so,e1,fun v Hf1 H1 x1 r1=>?_⟩;have so1:=so.step x1;obtain ⟨l,el,h0,hf,vs,q,r⟩:=so1.ownAt rfl es;refine ⟨_,el,Hf0,H0,Hf1,ρ,.int ky,so1,e2,fun y Hf2 H2 x2 r2=>?_⟩;have so2:=so1.step x2;have q2:=x2.h _ _ q;refine ⟨l,vs,ky,j,rfl,r2,q2,by rw [<- r.length]; exact ej,?_⟩;exact k σ Hf2 _ (x1.f.trans x2.f) (so2.mutd (s:=.own xs) (s':=.own (xs.set j d)) rfl rfl es el ⟨vs.set j v,zcd,(r.up x2.f).set j (r1.up x2.f)⟩)
   ·cases ef
theorem z4p {i:Nat} {fk fv:List Sl->Option D} (ho:PE X e (zc8 i)) (hk:DE c X i' fk) (hv:DE c X value fv) (hs:swapsWithSole [.Subscript e i' pos'] value pos.line X.env=pure false:=by rfl) (hw:swappedStores [.Subscript e i' pos'] value X.env=pure none:=by rfl)
  (h1:(assignEach [.Subscript e i' pos'] X.env).map (·.2)=[assign (.Subscript e i' pos') X.env]:=by rfl)
  (ha:∀ v,assign (.Subscript e i' pos') X.env v=(do
   let ov <- holding [v] (eval e X.env)
   let iv <- holding [v,ov] (eval i' X.env)
   standAt pos'
   holding [v,ov,iv] (setItem ov iv v)
   release [v,ov,iv] []):=by intro _; rfl) :
  DS c X (.Assign [.Subscript e i' pos'] value pos) (zjf i fk fv):=z4s (z0o hv (z0e ho hk z15 ha) hs hw h1)
end
section
variable {c:Str->Addr} {X:Cx}
open Classical in
end
section
variable {P:Program} {w:World} {A:Around} {E:Value->Shared->Prop} {s:Shared}
end
set_option maxRecDepth 100000
section
variable {P:Program} {w:World} {A:Around} {R:Result->Shared->Prop} {I:Addr} {fp wr:List Addr} {G:Array GenState->Array GenState->Prop} {n:Nat} {Pv:Nat->Value->Prop} {St:Nat->Shared->Prop}
end
section
variable {P:Program} {w:World} {A:Around} {E:Value->Shared->Prop} {s:Shared}
end
set_option maxRecDepth 100000
section
variable {P:Program} {w:World} {A:Around} {E:Value->Shared->Prop} {s:Shared}
end
set_option maxRecDepth 100000
section
variable {P:Program} {w:World} {A:Around} {E:Value->Shared->Prop}
end
set_option maxRecDepth 100000
section
variable {P:Program} {w:World} {A:Around} {E:Value->Shared->Prop} {s:Shared}
end
set_option maxRecDepth 100000
section
variable {P:Program} {w:World} {A:Around} {E:Value->Shared->Prop} {s:Shared} {a:Addr} {o:Obj} {ents:Array (Int×Value)} {ep:Nat} {tb:SetTable}
end
section
variable {P:Program} {w:World} {a I T:Addr} {o:Obj} {ents:Array (Int×Value)} {ep n:Nat} {tb:SetTable}
end
set_option maxRecDepth 100000
section
variable {P:Program} {w:World} {A:Around} {E:Value->Shared->Prop} {s:Shared} {a:Addr}
end
set_option maxRecDepth 100000
section
variable {P:Program} {w:World} {A:Around} {E:Value->Shared->Prop} {s:Shared} {a:Addr}
end
section
variable {X:Cx} {pins:List (Addr×Obj)} {σ:St} {H:Hp} {s:Shared}
end
section
variable {X:Cx} {e:Expr} {te:TE} {p p2 pos pos2:Pos}
end
section
variable {c:Str->Addr} {X:Cx} {e:Expr} {p p2 pos pos2:Pos}
noncomputable def zft (f g:List Sl->Option D) (ρ:List Sl) : Option (List D):=(f ρ).bind fun x=>(g ρ).bind fun y=>match x,y with
 | .lst a,.lst b=>if a.length + b.length<=16777216 then some (a++b) else none
 | _,_=>none
theorem z7c {f g:List Sl->Option D} {ρ:List Sl} {ds:List D} (h:zft f g ρ=some ds) : ∃ a b,f ρ=some (.lst a)/\g ρ=some (.lst b)/\a.length + b.length<=16777216/\ds=a++b:=by
 unfold zft at h
 cases e1 : f ρ with
 | none=>rw [e1] at h; cases h
 | some x =>
  cases e2 : g ρ with
  | none=>rw [e1,e2] at h; cases h
  | some y =>
   rw [e1,e2,Option.bind_some,Option.bind_some] at h;split at h
   ·split at h
    ·rename_i a b hl;cases h;exact ⟨a,b,rfl,rfl,hl,rfl⟩
    ·cases h
   ·cases h
theorem zpn {a b:Expr} {f g:List Sl->Option D} (ha:DE c X a f) (hb:DE c X b g) : DO c X (.BinOp a .Add b pos) (zft f g):=PE.imp (zrj zuk ha hb) fun σ H Q q_=>by
 obtain ⟨Hf0,H0,Hf,ρ,ds,st,ef,k⟩:=q_;obtain ⟨xs,ys,e1,e2,hl,rfl⟩:=z7c ef;refine ⟨Hf0,H0,Hf,ρ,_,st,e1,fun v Hf1 H1 x1 r1=>⟨Hf0,H0,Hf1,ρ,_,st.step x1,e2,fun u Hf2 H2 x2 r2=>?_⟩⟩;obtain ⟨l,vs,el,q1,s1⟩:=r1.up x2.f;obtain ⟨m,us,em,q2,s2⟩:=r2;subst el em;have x:=x1.trans x2;exact ⟨l,m,vs,us,rfl,rfl,x2.s _ _ q1,x2.s _ _ q2,by rw [sizeLine_eq,<- s1.length,<- s2.length]; exact hl,fun p hp=>k p _ Hf2 _ (x.trans (Ext.tmp x.s hp)) (x.h.free hp) (x.s.free hp) zcd (s1.append s2)⟩
end
noncomputable def wp (F:List Sl->Option Fl) (ρ:List Sl) (K:Fl->Prop) : Prop:=∃ o,F ρ=some o/\K o
noncomputable def zye (F:List Sl->Option Fl) (K:Fl->Prop) : Fl->Prop
 | .nx ρ=>wp F ρ K
 | o=>K o
noncomputable def zyc (J:List Sl->Prop) (K:Fl->Prop) : Fl->Prop
 | .nx ρ=>J ρ
 | .ct ρ=>J ρ
 | .bk ρ=>K (.nx ρ)
 | o=>K o
noncomputable def zkf (Q:D->Prop) (o:Fl) : Prop:=∃ d,zuu o=some d/\Q d
theorem zaf {F F':List Sl->Option Fl} {ρ:List Sl} {K:Fl->Prop} (h:wp F ρ (zye F' K)) : wp (zah F F') ρ K:=by
 obtain ⟨o,e,k⟩:=h;unfold wp zah;rw [e]
 cases o with
 | nx ρ'=>exact k
 | _=>exact ⟨_,rfl,k⟩
theorem zbb {ρ:List Sl} {K:Fl->Prop} (h:K (.nx ρ)) : wp zbl ρ K:=⟨_,rfl,h⟩
theorem zgq {i:Nat} {f:List Sl->Option D} {ρ:List Sl} {d:D} {K:Fl->Prop} (h:f ρ=some d) (k:K (.nx (ρ.set i (.im d)))) : wp (zef i f) ρ K:=⟨_,ycl h,k⟩
theorem zhx {i:Nat} {f:List Sl->Option (List D)} {ρ:List Sl} {d:List D} {K:Fl->Prop} (h:f ρ=some d) (k:K (.nx (ρ.set i (.own d)))) : wp (zep i f) ρ K:=⟨_,yck h,k⟩
theorem zgp {f:List Sl->Option D} {ρ:List Sl} {d:D} {K:Fl->Prop} (h:f ρ=some d) (k:K (.rt d)) : wp (zdp f) ρ K:=⟨_,ybm h,k⟩
theorem yeg {f:List Sl->Option (List D)} {ρ:List Sl} {d:List D} {K:Fl->Prop} (h:f ρ=some d) (k:K (.rtO d)) : wp (zkq f) ρ K:=⟨_,by unfold zkq; rw [h]; rfl,k⟩
theorem zio {F:List Sl->Option Fl} {ρ:List Sl} {o:Fl} {K:Fl->Prop} (h:F ρ=some o) (k:K o) : wp F ρ K:=⟨_,h,k⟩
theorem zba {t:List Sl->Option Bool} {F F':List Sl->Option Fl} {ρ:List Sl} {b:Bool} {K:Fl->Prop} (h:t ρ=some b) (kT:b=true->wp F ρ K) (kF:b=false->wp F' ρ K) : wp (zb2 t F F') ρ K:=by
 unfold wp zb2;rw [h]
 cases b with
 | true=>exact kT rfl
 | false=>exact kF rfl
theorem zg4 {i:Nat} {F:List Sl->Option Fl} {ρ ρ':List Sl} {K:Fl->Prop} (e:zpv i ρ=ρ') (h:wp F ρ' K) : wp (zfj i F) ρ K:=by
 subst e;exact h
theorem zou {i:Nat} {f:List Sl->Option D} {ρ:List Sl} {d:D} {xs:List D} {K:Fl->Prop} (h:f ρ=some d) (h':ρ[i]?=some (.own xs)) (hl:xs.length < 16777216) (k:K (.nx (ρ.set i (.own (xs++[d]))))) : wp (zhl i f) ρ K:=⟨_,z3l h h' hl,k⟩
theorem yay {i:Nat} {fk fv:List Sl->Option D} {ρ:List Sl} {d:D} {xs:List D} {k:Int} (hv:fv ρ=some d) (hk:fk ρ=some (.int k)) (h':ρ[i]?=some (.own xs)) (h0:0<=k) (h1:k < xs.length) : zjf i fk fv ρ=some (.nx (ρ.set i (.own (xs.set k.toNat d)))):=by
 have e : ixN xs.length k=some k.toNat:=by
  unfold ixN;rw [if_pos h0,if_pos h1]
 unfold zjf;rw [hv,Option.bind_some,hk,Option.bind_some]
 show (match ρ[i]? with | some (.own xs)=>(ixN xs.length k).map fun j=>Fl.nx (ρ.set i (.own (xs.set j d))) | _=>none)=_
 rw [h'];show (ixN xs.length k).map _=_;rw [e];rfl
theorem yee {i:Nat} {fk fv:List Sl->Option D} {ρ:List Sl} {d:D} {xs:List D} {k:Int} {K:Fl->Prop} (hv:fv ρ=some d) (hk:fk ρ=some (.int k)) (h':ρ[i]?=some (.own xs)) (h0:0<=k) (h1:k < xs.length) (q:K (.nx (ρ.set i (.own (xs.set k.toNat d))))) : wp (zjf i fk fv) ρ K:=⟨_,yay hv hk h' h0 h1,q⟩
theorem z28 {α : Type} {g:D->List Sl->Option (List Sl)} {F:List Sl->Option Fl} {K:Fl->Prop} (f:α->D) (I:List α->List Sl->Prop) : ∀ (post pre:List α) (ρ:List Sl),I pre ρ ->
  (∀ pre' x post' ρ,pre++post=pre'++x::post'->I pre' ρ->∃ ρ1,g (f x) ρ=some ρ1/\wp F ρ1 (zyc (I (pre'++[x])) K))->(∀ ρ',I (pre++post) ρ'->K (.nx ρ'))->wp (zgx g F (post.map f)) ρ K
 | [],pre,ρ,h,_,hk=>⟨_,rfl,hk ρ (by rw [List.append_nil]; exact h)⟩
 | x::post,pre,ρ,h,hs,hk=>by
  obtain ⟨ρ1,e1,o,e2,k2⟩:=hs pre x post ρ rfl h;unfold wp;rw [List.map_cons];unfold zgx;rw [e1,Option.bind_some,e2,Option.bind_some]
  have go : ∀ ρ2,I (pre++[x]) ρ2->wp (zgx g F (post.map f)) ρ2 K:=fun ρ2 h2 =>
   z28 f I post (pre++[x]) ρ2 h2 (by rw [List.append_assoc]; exact hs) (by rw [List.append_assoc]; exact hk)
  cases o with
  | nx ρ2=>exact go ρ2 k2
  | ct ρ2=>exact go ρ2 k2
  | bk ρ2=>exact ⟨_,rfl,k2⟩
  | rt d=>exact ⟨_,rfl,k2⟩
  | rtO d=>exact ⟨_,rfl,k2⟩
  | rtS d ρ2=>exact ⟨_,rfl,k2⟩
  | rtT o=>exact ⟨_,rfl,k2⟩
theorem zg5 {α : Type} {fi:List Sl->Option (List D)} {g:D->List Sl->Option (List Sl)} {F:List Sl->Option Fl} {ρ:List Sl} {K:Fl->Prop} (xs:List α) (f:α->D) (I:List α->List Sl->Prop) (hi:fi ρ=some (xs.map f)) (h0:I [] ρ)
  (hs:∀ pre x post ρ,xs=pre++x::post->I pre ρ->∃ ρ1,g (f x) ρ=some ρ1/\wp F ρ1 (zyc (I (pre++[x])) K)) (hk:∀ ρ',I xs ρ'->K (.nx ρ')) : wp (zes fi g F) ρ K:=by
 obtain ⟨o,e,k⟩:=z28 f I xs [] ρ h0 hs hk;refine ⟨o,?_,k⟩;unfold zes;rw [hi];exact e
theorem z3a {n:Nat} {F:List Sl->Option Fl} {ds:List D} {Q:D->Prop} (h:wp F (zf3 n ds) (zkf Q)) : ∃ d,zdt n F ds=some d/\Q d:=by
 obtain ⟨o,e,d,e',q⟩:=h;refine ⟨d,?_,q⟩;unfold zdt;rw [e];exact e'
theorem zg6 {n:Nat} {F:List Sl->Option Fl} {ds:List D} {r:D} (h:wp F (zf3 n ds) (zkf fun d=>d=r)) : zdt n F ds=some r:=by
 obtain ⟨d,e,q⟩:=z3a h;rw [e,q]
theorem zfr {Q:D->Prop} {d:D} (h:Q d) : zkf Q (.rt d):=⟨d,rfl,h⟩
theorem ztm {Q:D->Prop} {d:List D} (h:Q (.lst d)) : zkf Q (.rtO d):=⟨.lst d,rfl,h⟩
theorem z2x {t:List Sl->Option Bool} {f g:List Sl->Option D} {ρ:List Sl} {b:Bool} {r:Option D} (h:t ρ=some b) (hT:b=true->f ρ=r) (hF:b=false->g ρ=r) : vIf t f g ρ=r:=by
 unfold vIf;rw [h]
 cases b with
 | true=>exact hT rfl
 | false=>exact hF rfl
theorem zg9 {i j:Int} (h:0 < j) : zex (.int i) (.int j)=some (.int (i % j)):=zpc h
theorem zwk {i j:Int} (h:zmx i j) : zsn (.int i) (.int j)=some (.int (i / j)):=zpc h
theorem zh5 {i j:Int} (h:zmz i j) : zf5 (.int i) (.int j)=some (.int (i ^ j.toNat)):=zpc h
theorem zfd {i j:Int} : zcf (.int i) (.int j)=some (.int (i + j)):=rfl
theorem zpd {i j:Int} : zh7 (.int i) (.int j)=some (.int (i - j)):=rfl
theorem zix {i j:Int} : dLt (.int i) (.int j)=some (.bl (decide (i < j))):=rfl
theorem zsp {i j:Int} : dLe (.int i) (.int j)=some (.bl (decide (i<=j))):=rfl
theorem zj4 {i j:Int} : dGt (.int i) (.int j)=some (.bl (decide (j < i))):=rfl
theorem zjc {α : Type} (xs:List α) (f:α->D) : zcs [.lst (xs.map f)]=some (.int xs.length):=by
 show some (D.int ((xs.map f).length : Int))=_;rw [List.length_map]
theorem zyl {α : Type} (xs:List α) (f:α->D) : zcs [.kl (xs.map f)]=some (.int xs.length):=by
 show some (D.int ((xs.map f).length : Int))=_;rw [List.length_map]
theorem z4b {α : Type} (f:α->D) (xs:List α) (lo hi:Option Int) : zj3 (xs.map f) lo hi=((xs.drop (HT.sIx xs.length 0 lo)).take (HT.sIx xs.length xs.length hi - HT.sIx xs.length 0 lo)).map f:=by
 unfold zj3;rw [List.length_map,List.map_take,List.map_drop]
theorem zu7 {α : Type} {f:List Sl->Option D} {l h:List Sl->Option (Option Int)} {ρ:List Sl} {g:α->D} {xs:List α} {lo hi:Option Int} (e:f ρ=some (.lst (xs.map g))) (e1:l ρ=some lo) (e2:h ρ=some hi) : mSl f l h ρ=some (((xs.drop (HT.sIx xs.length 0 lo)).take (HT.sIx xs.length xs.length hi - HT.sIx xs.length 0 lo)).map g):=by
 unfold mSl;rw [e,Option.bind_some];show (l ρ).bind (fun lo=>(h ρ).map fun hi=>zj3 (xs.map g) lo hi)=_;rw [e1,Option.bind_some,e2,<- z4b];rfl
theorem zzd {α : Type} (g:α->D) (d:α) : ∀ (xs:List α),zjl 0 (xs.map g)=(List.range xs.length).map fun i=>D.tup [.int (i:Nat),g (xs.getD i d)]:=fun xs=>by
 refine List.ext_getElem? fun i=>?_;rw [zt7,List.getElem?_map,List.getElem?_map]
 by_cases h : i < xs.length
 ·rw [List.getElem?_eq_getElem h,List.getElem?_range h,Nat.zero_add];simp [h]
 ·rw [List.getElem?_eq_none (by omega),List.getElem?_eq_none (by rw [List.length_range]; omega)];rfl
theorem z5b {α : Type} {f:List Sl->Option (List D)} {ρ:List Sl} {g:α->D} {xs:List α} (d:α) (e:f ρ=some [.lst (xs.map g)]) : zic f ρ=some ((List.range xs.length).map fun i=>D.tup [.int (i:Nat),g (xs.getD i d)]):=by
 unfold zic;rw [e,<- zzd];rfl
noncomputable def kJ (J:List Sl->Prop) (o:Fl) : Prop:=∃ ρ',o=.nx ρ'/\J ρ'
theorem k_J {J:List Sl->Prop} {ρ:List Sl} (h:J ρ) : kJ J (.nx ρ):=⟨ρ,rfl,h⟩
theorem zjy {S F:List Sl->Option Fl} {ρ:List Sl} {K:Fl->Prop} (J:List Sl->Prop) (h:wp S ρ (kJ J)) (k:∀ ρ',J ρ'->wp F ρ' K) : wp (zah S F) ρ K:=by
 apply zaf;obtain ⟨o,e,ρ',rfl,j⟩:=h;exact ⟨_,e,k ρ' j⟩
theorem z29 {i:Nat} {ρ:List Sl} {d:D} {K:Fl->Prop} (h:ρ[i]?=some (.im d)) (k:K (.rt d)) : wp (zfu i) ρ K:=⟨_,by unfold zfu; rw [h],k⟩
theorem zvl {i:Nat} {ρ:List Sl} {d:List D} {K:Fl->Prop} (h:ρ[i]?=some (.own d)) (k:K (.rtO d)) : wp (zfu i) ρ K:=⟨_,by unfold zfu; rw [h],k⟩
section
variable {c:Str->Addr} {X:Cx} {e:Expr} {es:List Expr} {x:Str} {p pos:Pos} {k:Nat} {f:Addr} {fd:FuncData} {ps:List Str} {fa:List Sl->Option (List D)}
noncomputable def zkm (m m':D->D->Option D) (f g h:List Sl->Option D) (ρ:List Sl) : Option D:=(f ρ).bind fun x=>(g ρ).bind fun y=>(m x y).bind fun z=>match z with
 | .bl true=>(h ρ).bind fun w=>m' y w
 | .bl false=>some (.bl false)
 | _=>none
theorem z7d {m m':D->D->Option D} {f g h:List Sl->Option D} {ρ:List Sl} {d:D} (e:zkm m m' f g h ρ=some d) : ∃ x y b,f ρ=some x/\g ρ=some y/\m x y=some (.bl b)/\(b=false->d=.bl false)/\(b=true->∃ w,h ρ=some w/\m' y w=some d):=by
 unfold zkm at e
 cases e1 : f ρ with
 | none=>rw [e1] at e; cases e
 | some x =>
  cases e2 : g ρ with
  | none=>rw [e1,e2] at e; cases e
  | some y =>
   rw [e1,e2,Option.bind_some,Option.bind_some] at e
   cases e3 : m x y with
   | none=>rw [e3] at e; cases e
   | some z =>
    rw [e3,Option.bind_some] at e
    cases z with
    | bl b =>
     cases b with
     | false =>
      have e : some (D.bl false)=some d:=e
      exact ⟨x,y,false,rfl,rfl,e3,fun _=>(Option.some.inj e).symm,fun q=>by cases q⟩
     | true =>
      have e : (h ρ).bind (fun w=>m' y w)=some d:=e
      cases e4 : h ρ with
      | none=>rw [e4] at e; cases e
      | some w=>rw [e4] at e; exact ⟨x,y,true,rfl,rfl,e3,fun q=>(by cases q),fun _=>⟨w,rfl,e⟩⟩
    | _=>cases e
theorem z4h {a b c':Expr} {op op':CmpOp} {m m':D->D->Option D} {f g h:List Sl->Option D} (ho:OpD c X (compareOp op) m) (hs:∀ x y d,m x y=some d->d.scalar=true) (ho':OpD c X (compareOp op') m') (hs':∀ x y d,m' x y=some d->d.scalar=true) (ha:DB c X a f) (hb:DB c X b g) (hc:DB c X c' h)
  (hm:lastMarks [op,op'] [b,c']=false:=by with_unfolding_all rfl) : DE c X (.Compare a [op,op'] [b,c'] pos) (zkm m m' f g h):=PE.imp (z9q ho ho' ha hb hc hm) fun σ H Q q_=>by
 obtain ⟨Hf0,H0,Hf,ρ,d,st,ef,k⟩:=q_;obtain ⟨x,y,b',e1,e2,e3,eF,eT⟩:=z7d ef;refine ⟨Hf0,H0,Hf,ρ,x,st,e1,fun v Hf1 H1 x1 r1=>⟨Hf0,H0,Hf1,ρ,y,st.step x1,e2,fun u Hf2 H2 x2 r2=>⟨H2,x,y,.bl b',zas.refl _,r1.up x2.h,r2,e3,fun z Hf3 H3 x3 r3=>⟨b',r3,?_⟩⟩⟩⟩;have x23 : Ext Hf2 H2 Hf2 H3:=Ext.grow x2.s x3.h;have st3 : zal (Gx c X) Hf0 H0 Hf2 H3 σ ρ:=(st.step (x1.trans x2)).step x23
 cases b' with
 | false =>
  rw [if_neg Bool.false_ne_true]
  exact k _ Hf2 H3 ((x1.trans x2).trans x23) (by rw [eF rfl]; rfl)
 | true =>
  rw [if_pos rfl];obtain ⟨w,e4,e5⟩:=eT rfl;exact ⟨Hf0,H0,Hf2,ρ,w,st3,e4,fun w' Hf4 H4 x4 r4=>⟨H4,y,w,d,zas.refl _,r2.up (x3.h.trans x4.h),r4,e5,fun q Hf5 H5 x5 r5=>k _ Hf4 H5 (((x1.trans x2).trans x23).trans (x4.trans (Ext.grow x4.s x5.h))) (r5.sc (hs' _ _ _ e5))⟩⟩
end
theorem z31 {m m':D->D->Option D} {f g h:List Sl->Option D} {ρ:List Sl} {x y w:D} {b b':Bool} (e1:f ρ=some x) (e2:g ρ=some y) (e3:m x y=some (.bl b)) (e4:h ρ=some w) (e5:m' y w=some (.bl b')) : zkm m m' f g h ρ=some (.bl (b && b')):=by
 unfold zkm;rw [e1,Option.bind_some,e2,Option.bind_some,e3,Option.bind_some]
 cases b with
 | false=>rfl
 | true =>
  show (h ρ).bind (fun w=>m' y w)=_;rw [e4];exact e5
theorem zv4 {k:Int} {n:Nat} (h:k.natAbs < 2 ^ n) : Builtin.Int.intBits k<=n:=by
 unfold Builtin.Int.intBits;split
 ·exact Nat.zero_le _
 ·rename_i hk;have : k.natAbs≠0:=fun z=>hk (by rw [Int.natAbs_eq_zero.mp z]; rfl);exact (Nat.log2_lt this).mpr h
noncomputable def zhy (i j:Int) : Prop:=zmy i j\/(i.natAbs < 2 ^ 200/\j.natAbs < 2 ^ 200)
theorem zhy.ok {i j:Int} (h:zhy i j) : IntMulOk i j:=by
 rcases h with h | ⟨h1,h2⟩
 ·exact h.ok
 ·have a:=zv4 h1;have b:=zv4 h2;unfold IntMulOk
  have : Builtin.Int.intTooBig (Builtin.Int.intBits i + Builtin.Int.intBits j)=false:=by
   unfold Builtin.Int.intTooBig;have c : (400 : Int)<=bitsLine:=by decide
   exact decide_eq_false (by omega)
  rw [this,Bool.and_false];exact Bool.false_ne_true
noncomputable instance {i j:Int} : Decidable (zhy i j):=by unfold zhy; infer_instance
noncomputable abbrev zha : D->D->Option D:=dI zhy fun i j=>.int (i * j)
section
variable {c:Str->Addr} {X:Cx}
theorem z87 : OpR X (binaryOp .Mult) (rI zhy fun i j=>.int (i * j)):=opI fun _ _ _ _ _ _ _ hc q=>mul_int q hc.ok
theorem zn5 : OpD c X (binaryOp .Mult) zha:=zq5 z87 fun _ _ _ _=>rfl
end
theorem zj7 {i j:Int} (h:zhy i j) : zha (.int i) (.int j)=some (.int (i * j)):=zpc h
noncomputable def zds (H:Hp) (l:Addr) : Hp:=fun a=>if a=l then none else H a
theorem znc {H:Hp} {l:Addr} : zds H l l=none:=by unfold zds; rw [if_pos rfl]
theorem zsy {H:Hp} {l a:Addr} (h:a≠l) : zds H l a=H a:=by unfold zds; rw [if_neg h]
theorem zsz {H:Hp} {l:Addr} : zas (zds H l) H:=fun a o e=>by
 by_cases h : a=l
 ·subst h; rw [znc] at e; cases e
 ·rw [zsy h] at e; exact e
theorem zok {F H:Hp} {l:Addr} (s:zas F H) (h:F l=none) : zas F (zds H l):=fun a o e=>by
 rw [zsy (zet e h)]; exact s a o e
section
variable {P:Program} {w:World} {K:PySem.W.Frag} {mg:Str->Option Value} {base:Heap} {c:Str->Addr}
end
noncomputable def tDX (G:Gc) (f:List Sl->Option (D×List Sl)) : TE:=fun σ H Q=>∃ Hf0 H0 Hf ρ d ρ',zal G Hf0 H0 Hf H σ ρ/\f ρ=some (d,ρ')/\∀ v Hf' H',zas Hf Hf'->zal G Hf0 H0 Hf' H' σ ρ'->Rep G Hf' d v->Q v H'
noncomputable def DX (c:Str->Addr) (X:Cx) (e:Expr) (f:List Sl->Option (D×List Sl)) : Prop:=PE X e (tDX (Gx c X) f)
noncomputable def z2l (G:Gc) (f:List Sl->Option (List D×List Sl)) : TI:=fun σ H R=>∃ Hf0 H0 Hf ρ ds ρ',zal G Hf0 H0 Hf H σ ρ/\f ρ=some (ds,ρ')/\∀ J Hf' H',zas Hf Hf'->zal G Hf0 H0 Hf' H' σ ρ'->zis G Hf' J ds->R J H'
noncomputable def DXi (c:Str->Addr) (X:Cx) (tg iter:Expr) (f:List Sl->Option (List D×List Sl)) : Prop:=PI X tg iter (z2l (Gx c X) f)
section
variable {c:Str->Addr} {X:Cx} {k:Nat} {f C:Addr} {fd:FuncData} {ps:List Str} {x:Str} {p pos apos:Pos} {e o tg iter:Expr} {es:List Expr} {fa ga:List Sl->Option (List D)} {i:Nat}
end
noncomputable def zqs : List D->Option D
 | [.int a,.int b]=>some (.int (if b > a then b else a))
 | _=>none
section
variable {c:Str->Addr} {X:Cx}
theorem z30 (hc:X.calm=true) : zjz c X (.builtin "max") zqs:=by
 rintro pins s σ H vs us Q I rv ⟨Hf,ds,d,s0,r,e,k⟩;unfold zqs at e;split at e
 ·rename_i a b;cases e;obtain ⟨v1,vs1,rfl,h1,v2,vs2,rfl,h2,h3⟩:=r;cases (show vs2=[] from h3);cases (show v1=V.int a from h1);cases (show v2=V.int b from h2)
  cases rv with
  | cons r1 rr =>
   cases rr with
   | cons r2 rr =>
    cases rr;obtain ⟨t,rfl⟩:=r1;obtain ⟨u,rfl⟩:=r2;refine PySem.max_two_ints (I.ok.hd hc) fun h' tk hold=>?_;refine ⟨.int (if b > a then b else a),H,I.kept hold,?_,k _ Hf H (Ext.refl s0) rfl⟩
    by_cases hba : b > a
    ·rw [if_pos hba,if_pos hba]; exact ⟨u,rfl⟩
    ·rw [if_neg hba,if_neg hba]; exact ⟨t,rfl⟩
 ·cases e
end
noncomputable def spM (G:Gc) (n0 n:Nat) (m:Addr->List D->List D->List D->Option (List D×D)) : Sp:=fun vs H Q _=>∃ Hf ds0 ds1 xs ys d l us vs0 vs1,vs=vs0++.ref l::vs1/\zas Hf H/\Hf l=none/\H l=some (.lst us)/\zao G Hf ds0 vs0/\zao G Hf ds1 vs1/\zao G Hf xs us/\ds0.length=n0/\ds0.length + 1 + ds1.length=n/\m l ds0 ds1 xs=some (ys,d) /\
 ∀ v Hf' H' us',Ext Hf (zds H l) Hf' H'->Hf' l=none->H' l=some (.lst us')->zao G Hf' ys us'->Rep G Hf' d v->Q v H'
noncomputable def zo1 (N:Nat) (l:Addr) (ds0 ds1 xs:List D) : List Sl:=(zf3 N (ds0++.non::ds1)).set ds0.length (.pin l xs)
open Classical in
noncomputable def zgh (l:Addr) (i:Nat) (ρ:List Sl) : Option (List D):=match ρ[i]? with
 | some (.pin l' ys)=>if l'=l then some ys else none
 | _=>none
theorem z0h {l:Addr} {i:Nat} {ρ:List Sl} {ys:List D} (h:zgh l i ρ=some ys) : ρ[i]?=some (.pin l ys):=by
 unfold zgh at h;split at h
 ·rename_i l' zs e;split at h
  ·rename_i q;cases h;rw [e,q]
  ·cases h
 ·cases h
noncomputable def zdk (N:Nat) (F:List Sl->Option Fl) (l:Addr) (ds0 ds1 xs:List D) : Option (List D×D):=(F (zo1 N l ds0 ds1 xs)).bind fun o=>match o with
 | .nx ρ=>(zgh l ds0.length ρ).map fun ys=>(ys,.non)
 | .rtS d ρ=>(zgh l ds0.length ρ).map fun ys=>(ys,d)
 | _=>none
theorem yc1 {N:List Str} {vs0 vs1:List V} {l:Addr} : (L2.start N (vs0++.non::vs1)).set vs0.length (some (.ref l))=L2.start N (vs0++.ref l::vs1):=by
 unfold L2.start;simp [List.set_append,List.length_append]
theorem zal.startM {G:Gc} {Hf H:Hp} {N:List Str} {ds0 ds1 xs:List D} {vs0 vs1 us:List V} {l:Addr} (s0:zas Hf H) (hf:Hf l=none) (hl:H l=some (.lst us)) (r0:zao G Hf ds0 vs0) (r1:zao G Hf ds1 vs1) (rx:zao G Hf xs us) :
  zal G Hf (zds H l) Hf H (L2.start N (vs0++.ref l::vs1)) (zo1 N.length l ds0 ds1 xs):=by
 have st0:=zal.start (N:=N) (zok s0 hf) (r0.append (.cons (d:=.non) (v:=.non) rfl r1));have:=st0.setOwn (i:=ds0.length) (l:=l) (s:=.pin l xs) rfl (Ext.grow (zok s0 hf) zsz) znc hf ⟨rfl,us,hl,rx⟩;rw [r0.length,yc1,<- r0.length] at this;exact this
section
variable {P:Program} {w:World} {K:PySem.W.Frag} {mg:Str->Option Value} {base:Heap} {c:Str->Addr}
theorem zd0 {x qual:Str} {st:Stmt} {f:Addr} {fd:FuncData} {N ps:List Str} {k n0:Nat} {F:List Sl->Option Fl} (Fn:Fun K x qual st f fd) (S:za4 N ps (zai st))
  (h:∀ (cdv:Value) (A:Around) (outer:List Env) (s:Shared) (H:Hp) (E:XK),zbz k (A.deeper (envOfC qual (zai st) s.heap.objs.size f cdv))->DSs c (zgs CX0 P w K mg base N qual (zai st) f cdv A outer s H E).nox (za2 st) F) :
  zav P w K mg base CX0 (k + 1) f fd ps (spM ⟨K,c⟩ n0 ps.length (zdk N.length F)):=by
 refine Fn.ok S (fun vs H Q E ⟨Hf,ds0,ds1,xs,ys,d,l,us,vs0,vs1,ev,s0,hf,hu,r0,r1,rx,hn,hl,_⟩=>by rw [ev,List.length_append,List.length_cons,<- r0.length,<- r1.length]; omega) fun cdv A outer s H vs Q E hr ⟨Hf,ds0,ds1,xs,ys,d,l,us,vs0,vs1,ev,s0,hf,hu,r0,r1,rx,hn,hl,e,kq⟩=>⟨_,h cdv A outer s H E hr,?_⟩;subst ev;unfold zdk at e
 cases eF : F (zo1 N.length l ds0 ds1 xs) with
 | none=>rw [eF] at e; cases e
 | some o =>
  rw [eF,Option.bind_some] at e;refine ⟨Hf,zds H l,Hf,_,o,zal.startM s0 hf hu r0 r1 rx,eF,?_⟩
  cases o with
  | nx ρ =>
   replace e : (zgh l ds0.length ρ).map (fun ys=>(ys,D.non))=some (ys,d):=e
   cases ep : zgh l ds0.length ρ with
   | none=>rw [ep] at e; cases e
   | some zs =>
    rw [ep] at e;cases e;intro σ' Hf' H' _ so;obtain ⟨l',e1,h0,hf',e2,us',hu',rx'⟩:=so.ownAt (s:=.pin l ys) rfl (z0h ep);subst e2
    exact kq .non Hf' H' us' so.ext hf' hu' rx' rfl
  | rtS d' ρ =>
   replace e : (zgh l ds0.length ρ).map (fun ys=>(ys,d'))=some (ys,d):=e
   cases ep : zgh l ds0.length ρ with
   | none=>rw [ep] at e; cases e
   | some zs =>
    rw [ep] at e;cases e;intro v σ' Hf' H' so r;obtain ⟨l',e1,h0,hf',e2,us',hu',rx'⟩:=so.ownAt (s:=.pin l ys) rfl (z0h ep);subst e2
    exact kq v Hf' H' us' so.ext hf' hu' rx' r
  | _=>cases e
end
theorem zal.giveS {G:Gc} {Hf0 H0 Hf H:Hp} {σ:St} {ρ:List Sl} {i:Nat} {l:Addr} {s:Sl} (hs:s.isOwn=true) (h:zal G Hf0 H0 Hf H σ ρ) (e:ρ[i]?=some s) (el:σ[i]?=some (some (.ref l))) : zal G Hf0 H0 Hf (zds H l) σ (ρ.set i .no):=by
 refine h.chg e el (fun b u hb=>?_) trivial fun a p=>(p.calm rfl).elim
 by_cases hl : b=l
 ·subst hl; exact .inl ((Holds.own hs).mpr rfl)
 ·exact .inr (by rw [zsy hl]; exact hb)
theorem zal.back {G:Gc} {Hf0 H0 Hf H Hf' H':Hp} {σ:St} {ρ:List Sl} {i:Nat} {l:Addr} {s s':Sl} (hs:s.isOwn=true) (hs':s'.isOwn=true) (h:zal G Hf0 H0 Hf H σ ρ) (e:ρ[i]?=some s) (el:σ[i]?=some (some (.ref l))) (x:Ext Hf (zds H l) Hf' H') (hf:Hf' l=none) (ho:zfm G Hf' H' l s') : zal G Hf0 H0 Hf' H' σ (ρ.set i s'):=by
 have:=(h.giveS hs e el).setOwn (i:=i) (l:=l) hs' x znc hf ho;rw [List.set_set] at this
 have e2 : σ.set i (some (.ref l))=σ:=by
  apply List.ext_getElem?;intro j
  by_cases hj : i=j
  ·subst hj;rw [List.getElem?_set_self (List.getElem?_eq_some_iff.mp el).1,el]
  ·rw [List.getElem?_set_ne hj]
 rw [e2] at this;exact this
section
variable {c:Str->Addr} {X:Cx} {k n0:Nat} {f:Addr} {fd:FuncData} {ps:List Str} {x:Str} {p pos pos':Pos} {e:Expr} {es:List Expr} {fa:List Sl->Option (List D×List D)} {i:Nat}
open Classical in
noncomputable def zgd (f:List Sl->Option (D×List Sl)) (ρ:List Sl) : Option Fl:=(f ρ).map fun p=>.nx p.2
theorem zi3 {f:List Sl->Option (D×List Sl)} (he:DX c X e f) (hs:swapsWith e none pos.line X.env=pure false:=by rfl) : DS c X (.Expr e pos) (zgd f):=PS.imp (zf0 he hs) fun E σ H q_=>by
 obtain ⟨Hf0,H0,Hf,ρ,o,so,ef,k⟩:=q_;unfold zgd at ef
 cases e1 : f ρ with
 | none=>rw [e1] at ef; cases ef
 | some p =>
  rw [e1] at ef;cases ef;exact ⟨Hf0,H0,Hf,ρ,p.1,p.2,so,e1,fun v Hf' H' s so' r=>k σ Hf' H' s so'⟩
noncomputable def zqf (i:Nat) (ρ:List Sl) : Option (List D):=match ρ[i]? with
 | some (.pin _ xs)=>some xs
 | _=>none
theorem zw8 (i:Nat) {x:Str} (hN:X.N[i]?=some x:=by rfl) (hv:Vis X.env.scope x:=by first | exact Or.inl rfl | exact Or.inr (Or.inl rfl) | exact Or.inr (Or.inr rfl)) (hd:(x==("__debug__" : Str))=false:=by decide)
  (hcd:(x==("__classdict__" : Str))=false:=by decide) : DC c X (.Name x pos) (zqf i):=PE.imp (zhr hN hv hd hcd) fun σ H Q q_=>by
 obtain ⟨Hf0,H0,Hf,ρ,d,st,ef,k⟩:=q_;unfold zqf at ef;split at ef
 ·rename_i l xs es;cases ef;obtain ⟨l',e1,_,_,_,vs,q,r⟩:=st.ownAt (s:=.pin l d) rfl es;exact ⟨_,e1,k l' vs Hf H (Ext.refl st.sub) (.inl (SqL.of q)) r⟩
 ·cases ef
end
theorem zjx {f:List Sl->Option (D×List Sl)} {ρ ρ':List Sl} {d:D} {K:Fl->Prop} (h:f ρ=some (d,ρ')) (k:K (.nx ρ')) : wp (zgd f) ρ K:=⟨_,by unfold zgd; rw [h]; rfl,k⟩
theorem zc4 {f:List Sl->Option D} {ρ:List Sl} {d:D} {K:Fl->Prop} (h:f ρ=some d) (k:K (.rtS d ρ)) : wp (zco f) ρ K:=⟨_,by unfold zco; rw [h]; rfl,k⟩
theorem z96 {l:Addr} {i:Nat} {ρ:List Sl} {ys:List D} (h:ρ[i]?=some (.pin l ys)) : zgh l i ρ=some ys:=by
 unfold zgh;rw [h];exact if_pos rfl
theorem zd3 {N:Nat} {F:List Sl->Option Fl} {l:Addr} {ds0 ds1 xs ys:List D} {d:D} {ρ:List Sl} (h:F (zo1 N l ds0 ds1 xs)=some (.rtS d ρ)) (h':ρ[ds0.length]?=some (.pin l ys)) : zdk N F l ds0 ds1 xs=some (ys,d):=by
 unfold zdk;rw [h,Option.bind_some];show (zgh l ds0.length ρ).map _=_;rw [z96 h'];rfl
section
variable {prog:Program} {w:World} {A:Around} {R:Result->Shared->Prop} {I:Addr} {fp wr:List Addr} {n:Nat} {P:Nat->Value->Prop} {St:Nat->Heap->Prop} {bt:Nat->Nat->Bool} {S:Addr} {dv:Value}
end
section
variable {prog:Program} {w:World} {A:Around} {E:Value->Shared->Prop} {s:Shared}
end
section
variable {M:Model} {A:Around} {E:Value->Shared->Prop} {s:Shared}
end
section
variable {X:Cx} {a:Expr} {te:TE} {p pos kp cp:Pos} {kn:Nat}
end
section
variable {c:Str->Addr} {X:Cx} {e:Expr} {p pos kp cp:Pos} {kn:Nat}
end
noncomputable def zja : D->Option D
 | .bl b=>some (.int (if b then 1 else 0))
 | _=>none
noncomputable def zjd (f:List Sl->Option D) (ρ:List Sl) : Option D:=(f ρ).bind zja
section
variable {c:Str->Addr} {X:Cx} {e:Expr} {p pos:Pos}
noncomputable def yde (te:TE) : TE:=fun σ H Q=>te σ H fun x H1=>∃ b,x=.bl b/\Q (.int (if b then 1 else 0)) H1
theorem z3s : bootBuiltins "int"=some (.type "int"):=by decide +kernel
theorem zz9 {te:TE} (hg:Gl X "int") (hm:X.mg "int"=none) (he:PE X e te) (h1:starEach [e] X.env=(false,eval e X.env)::starEach [] X.env:=by rfl) (hpl:(backTo pos (starEach [] X.env)).any (·.1)=false:=by rfl) :
  PE X (.Call (.Name "int" p) [e] [] pos) (yde te):=by
 intro pins s σ H Q I h;refine wpAny_Call_Name_kw (zkg I hg hm z3s ?_);refine PyProof.Rows.callWith_type1 ?_ h1 hpl;rw [h1];show wpAny _ _ (spliced ((false,eval e X.env)::backTo pos (starEach [] X.env))) _ _ s;refine Calls.spliced_cons (thn (he pins s σ H _ I h) fun u s1 q_=>?_);obtain ⟨x,H1,I1,r1,b,e1,q⟩:=q_;subst e1;cases r1;refine wpAny_pure ?_;exact call_int_bool ⟨.int (if b then 1 else 0),H1,I1.tok (s1.toks + 1),⟨_,rfl⟩,q⟩
theorem zsr {f:List Sl->Option D} (hg:Gl X "int") (hm:X.mg "int"=none) (ha:DE c X e f) (h1:starEach [e] X.env=(false,eval e X.env)::starEach [] X.env:=by rfl) (hpl:(backTo pos (starEach [] X.env)).any (·.1)=false:=by rfl) : DE c X (.Call (.Name "int" p) [e] [] pos) (zjd f) :=
 PE.imp (zz9 hg hm ha h1 hpl) fun σ H Q q_=>by
  obtain ⟨Hf0,H0,Hf,ρ,d0,st,ef,k⟩:=q_;unfold zjd at ef
  cases e1 : f ρ with
  | none=>rw [e1] at ef; cases ef
  | some d =>
   rw [e1,Option.bind_some] at ef;unfold zja at ef;split at ef
   ·rename_i b;cases ef;refine ⟨Hf0,H0,Hf,ρ,_,st,e1,fun v Hf' H' x r=>⟨b,r,k _ Hf' H' x rfl⟩⟩
   ·cases ef
end
section
variable {c:Str->Addr} {X:Cx} {a b:Expr} {pos:Pos}
end
noncomputable def zkp (i:Nat) (fk fv:List Sl->Option D) (ρ:List Sl) : Option Fl:=(fv ρ).bind fun d=>(fk ρ).bind fun x=>match x with
 | .int k=>(match ρ[i]? with
  | some (.pin l xs)=>(ixN xs.length k).map fun j=>.nx (ρ.set i (.pin l (xs.set j d)))
  | _=>none)
 | _=>none
section
variable {c:Str->Addr} {X:Cx} {st:Stmt} {e a b i' value:Expr} {pos pos':Pos}
theorem z4r {i:Nat} {fk fv:List Sl->Option D} (hp:PS X st (zik (tD (Gx c X) fv) (zs8 (zc8 i) (tD (Gx c X) fk) zur))) : DS c X st (zkp i fk fv):=PS.imp hp fun E σ H q_=>by
 obtain ⟨Hf0,H0,Hf,ρ,o,so,ef,k⟩:=q_;unfold zkp at ef
 cases e1 : fv ρ with
 | none=>rw [e1] at ef; cases ef
 | some d =>
  rw [e1] at ef
  cases e2 : fk ρ with
  | none=>rw [e2] at ef; cases ef
  | some x =>
   rw [e2] at ef
   obtain ⟨ky,rfl⟩ : ∃ ky,x=.int ky:=by cases x <;> first | exact ⟨_,rfl⟩ | cases ef
   replace ef : (match ρ[i]? with | some (.pin l xs)=>(ixN xs.length ky).map fun j=>Fl.nx (ρ.set i (.pin l (xs.set j d))) | _=>none)=some o:=ef
   split at ef
   ·rename_i l0 xs es
    cases ej : ixN xs.length ky with
    | none=>rw [ej] at ef; cases ef
    | some j =>
     rw [ej] at ef;cases ef;refine ⟨Hf0,H0,Hf,ρ,d,so,e1,fun v Hf1 H1 x1 r1=>?_⟩;have so1:=so.step x1;obtain ⟨l,el,h0,hf,eq,vs,q,r⟩:=so1.ownAt (s:=.pin l0 xs) rfl es;subst eq;refine ⟨_,el,Hf0,H0,Hf1,ρ,.int ky,so1,e2,fun y Hf2 H2 x2 r2=>?_⟩;have so2:=so1.step x2;have q2:=x2.h _ _ q;refine ⟨l,vs,ky,j,rfl,r2,q2,by rw [<- r.length]; exact ej,?_⟩;exact k σ Hf2 _ (x1.f.trans x2.f) (so2.mutd (s:=.pin l xs) (s':=.pin l (xs.set j d)) rfl rfl es el ⟨rfl,vs.set j v,zcd,(r.up x2.f).set j (r1.up x2.f)⟩)
   ·cases ef
theorem z4q {i:Nat} {fk fv:List Sl->Option D} (ho:PE X e (zc8 i)) (hk:DE c X i' fk) (hv:DE c X value fv) (hs:swapsWithSole [.Subscript e i' pos'] value pos.line X.env=pure false:=by rfl) (hw:swappedStores [.Subscript e i' pos'] value X.env=pure none:=by rfl)
  (h1:(assignEach [.Subscript e i' pos'] X.env).map (·.2)=[assign (.Subscript e i' pos') X.env]:=by rfl)
  (ha:∀ v,assign (.Subscript e i' pos') X.env v=(do
   let ov <- holding [v] (eval e X.env)
   let iv <- holding [v,ov] (eval i' X.env)
   standAt pos'
   holding [v,ov,iv] (setItem ov iv v)
   release [v,ov,iv] []):=by intro _; rfl) :
  DS c X (.Assign [.Subscript e i' pos'] value pos) (zkp i fk fv):=z4r (z0o hv (z0e ho hk z15 ha) hs hw h1)
end
theorem yef {i:Nat} {fk fv:List Sl->Option D} {ρ:List Sl} {d:D} {xs:List D} {l:Addr} {k:Int} {K:Fl->Prop} (hv:fv ρ=some d) (hk:fk ρ=some (.int k)) (h':ρ[i]?=some (.pin l xs)) (h0:0<=k) (h1:k < xs.length) (q:K (.nx (ρ.set i (.pin l (xs.set k.toNat d))))) : wp (zkp i fk fv) ρ K:=⟨_,by
 unfold zkp;rw [hv,Option.bind_some,hk,Option.bind_some,h'];show (ixN xs.length k).map _=_;unfold ixN;rw [if_pos h0,if_pos h1];rfl,q⟩
noncomputable abbrev Xe:=List Sl->Option (D×List Sl)
noncomputable abbrev Xa:=List Sl->Option (List D×List Sl)
noncomputable abbrev Xt:=List Sl->Option (Bool×List Sl)
noncomputable def mX (f:List Sl->Option D) : Xe:=fun ρ=>(f ρ).map fun d=>(d,ρ)
noncomputable def mX2 (m:D->D->Option D) (f g:Xe) : Xe:=fun ρ=>(f ρ).bind fun p=>(g p.2).bind fun q=>(m p.1 q.1).map fun d=>(d,q.2)
noncomputable def zaa : Xa:=fun ρ=>some ([],ρ)
noncomputable def zac (f:Xe) (g:Xa) : Xa:=fun ρ=>(f ρ).bind fun p=>(g p.2).map fun q=>(p.1::q.1,q.2)
noncomputable def zcw (f:Xa) : Xe:=fun ρ=>(f ρ).map fun p=>(.tup p.1,p.2)
noncomputable def zkn (f:Xa) : Xe:=fun ρ=>(f ρ).map fun p=>(.lst p.1,p.2)
noncomputable def zen (m:List D->Option D) (f:Xa) : Xe:=fun ρ=>(f ρ).bind fun p=>(m p.1).map fun d=>(d,p.2)
theorem z7j {f:List Sl->Option D} {ρ ρ':List Sl} {d:D} (h:mX f ρ=some (d,ρ')) : f ρ=some d/\ρ'=ρ:=by
 unfold mX at h
 cases e : f ρ with
 | none=>rw [e] at h; cases h
 | some d'=>rw [e] at h; cases h; exact ⟨rfl,rfl⟩
theorem znw {m:D->D->Option D} {f g:Xe} {ρ ρ':List Sl} {d:D} (h:mX2 m f g ρ=some (d,ρ')) : ∃ x y ρ1,f ρ=some (x,ρ1)/\g ρ1=some (y,ρ')/\m x y=some d:=by
 unfold mX2 at h
 cases e1 : f ρ with
 | none=>rw [e1] at h; cases h
 | some p =>
  rw [e1,Option.bind_some] at h
  cases e2 : g p.2 with
  | none=>rw [e2] at h; cases h
  | some q =>
   rw [e2,Option.bind_some] at h
   cases e3 : m p.1 q.1 with
   | none=>rw [e3] at h; cases h
   | some z=>rw [e3] at h; cases h; exact ⟨p.1,q.1,p.2,rfl,e2,e3⟩
theorem zqb {f:Xe} {g:Xa} {ρ ρ':List Sl} {ds:List D} (h:zac f g ρ=some (ds,ρ')) : ∃ d r ρ1,f ρ=some (d,ρ1)/\g ρ1=some (r,ρ')/\ds=d::r:=by
 unfold zac at h
 cases e1 : f ρ with
 | none=>rw [e1] at h; cases h
 | some p =>
  rw [e1,Option.bind_some] at h
  cases e2 : g p.2 with
  | none=>rw [e2] at h; cases h
  | some q=>rw [e2] at h; cases h; exact ⟨p.1,q.1,p.2,rfl,e2,rfl⟩
noncomputable def zvi (G:Gc) (f:Xa) : TA:=fun σ H Q=>∃ Hf0 H0 Hf ρ ds ρ',zal G Hf0 H0 Hf H σ ρ/\f ρ=some (ds,ρ')/\∀ vs Hf' H',zas Hf Hf'->zal G Hf0 H0 Hf' H' σ ρ'->zao G Hf' ds vs->Q vs H'
structure DAX (c:Str->Addr) (X:Cx) (es:List Expr) (f:Xa) : Prop where
 pa : PA X es (zvi (Gx c X) f)
 len : ∀ ρ ds ρ',f ρ=some (ds,ρ')->ds.length=es.length
noncomputable def z2k (G:Gc) (f:Xt) : TT:=fun σ H Q=>∃ Hf0 H0 Hf ρ b ρ',zal G Hf0 H0 Hf H σ ρ/\f ρ=some (b,ρ')/\∀ Hf' H',zas Hf Hf'->zal G Hf0 H0 Hf' H' σ ρ'->Q b H'
noncomputable def DTX (c:Str->Addr) (X:Cx) (e:Expr) (f:Xt) : Prop:=PT X e (z2k (Gx c X) f)
section
variable {c:Str->Addr} {X:Cx} {st:Stmt} {e a b:Expr} {es:List Expr} {pos pos' p:Pos}
theorem DE.dx {f:List Sl->Option D} (h:DE c X e f) : DX c X e (mX f):=PE.imp h fun σ H Q q_=>by
 obtain ⟨Hf0,H0,Hf,ρ,d,ρ',st,ef,k⟩:=q_;obtain ⟨e1,rfl⟩:=z7j ef;exact ⟨Hf0,H0,Hf,_,d,st,e1,fun v Hf' H' x r=>k v Hf' H' x.f (st.step x) r⟩
theorem zej {op:Operator} {m:D->D->Option D} {f g:Xe} (ho:OpD c X (binaryOp op) m) (ha:DX c X a f) (hb:DX c X b g) : DX c X (.BinOp a op b pos) (mX2 m f g):=PE.imp (zrj ho ha hb) fun σ H Q q_=>by
 obtain ⟨Hf0,H0,Hf,ρ,d,ρ',st,ef,k⟩:=q_;obtain ⟨x,y,ρ1,e1,e2,e3⟩:=znw ef;exact ⟨Hf0,H0,Hf,ρ,x,ρ1,st,e1,fun v Hf1 H1 f1 st1 r1=>⟨Hf0,H0,Hf1,ρ1,y,ρ',st1,e2,fun u Hf2 H2 f2 st2 r2=>⟨Hf2,x,y,d,st2.sub,r1.up f2,r2,e3,fun w Hf3 H3 x3 r3=>k w Hf3 H3 ((f1.trans f2).trans x3.f) (st2.step x3) r3⟩⟩⟩
theorem zak : DAX c X [] zaa:=⟨PA.imp zde fun σ H Q ⟨Hf0,H0,Hf,ρ,ds,ρ',st,ef,k⟩=>by cases ef; exact k [] Hf H (zas.refl _) st rfl,fun ρ ds ρ' h=>by cases h; rfl⟩
theorem zag {f:Xe} {g:Xa} (ha:DX c X e f) (hr:DAX c X es g) (hs:starEach (e::es) X.env=(false,eval e X.env)::starEach es X.env:=by rfl) : DAX c X (e::es) (zac f g):=by
 refine ⟨PA.imp (zct ha hr.pa hs) fun σ H Q ⟨Hf0,H0,Hf,ρ,ds,ρ',st,ef,k⟩=>?_,fun ρ ds ρ' h=>?_⟩
 ·obtain ⟨d,r,ρ1,e1,e2,rfl⟩:=zqb ef;exact ⟨Hf0,H0,Hf,ρ,d,ρ1,st,e1,fun v Hf1 H1 f1 st1 r1=>⟨Hf0,H0,Hf1,ρ1,r,ρ',st1,e2,fun vs Hf2 H2 f2 st2 r2=>k _ Hf2 H2 (f1.trans f2) st2 (.cons (r1.up f2) r2)⟩⟩
 ·obtain ⟨d,r,ρ1,e1,e2,rfl⟩:=zqb h;simp [hr.len ρ1 r ρ' e2]
theorem zdj {f:Xa} {k':Nat} (h:DAX c X es f) (hz:es.length<=1000:=by exact Nat.le_of_ble_eq_true rfl) : DX c X (.Tuple es k' pos) (zcw f):=PE.imp (z0d h.pa) fun σ H Q q_=>by
 obtain ⟨Hf0,H0,Hf,ρ,d,ρ',st,ef,k⟩:=q_;unfold zcw at ef
 cases ed : f ρ with
 | none=>rw [ed] at ef; cases ef
 | some q =>
  obtain ⟨ds,ρ1⟩:=q;rw [ed] at ef;cases ef;refine ⟨Hf0,H0,Hf,ρ,ds,_,st,ed,fun vs Hf' H' f1 st1 r=>⟨?_,fun q hq=>?_⟩⟩
  ·rw [<- r.length,h.len ρ ds _ ed];exact Nat.le_of_lt (zr0 hz)
  ·exact k _ (upd Hf' q (.tup vs)) (upd H' q (.tup vs)) (f1.trans (zc3 (st1.sub.free hq))) (st1.step (Ext.new st1.sub hq)) ⟨q,vs,rfl,zcd,r.up (zc3 (st1.sub.free hq))⟩
theorem zxc {f:Xa} (h:DAX c X es f) (hz:es.length<=1000:=by exact Nat.le_of_ble_eq_true rfl) : DX c X (.List es pos) (zkn f):=PE.imp (zun h.pa) fun σ H Q q_=>by
 obtain ⟨Hf0,H0,Hf,ρ,d,ρ',st,ef,k⟩:=q_;unfold zkn at ef
 cases ed : f ρ with
 | none=>rw [ed] at ef; cases ef
 | some q =>
  obtain ⟨ds,ρ1⟩:=q;rw [ed] at ef;cases ef;refine ⟨Hf0,H0,Hf,ρ,ds,_,st,ed,fun vs Hf' H' f1 st1 r=>⟨?_,fun q hq=>?_⟩⟩
  ·rw [<- r.length,h.len ρ ds _ ed];exact Nat.le_of_lt (zr0 hz)
  ·exact k _ (upd Hf' q (.lst vs)) (upd H' q (.lst vs)) (f1.trans (zc3 (st1.sub.free hq))) (st1.step (Ext.new st1.sub hq)) ⟨q,vs,rfl,zcd,r.up (zc3 (st1.sub.free hq))⟩
theorem zpr {k:Nat} {f:Addr} {fd:FuncData} {ps:List Str} {x:Str} {fa:Xa} {m:List D->Option D} (F:zav X.prog X.w X.K X.mg X.base CX0 k f fd ps (spD (Gx c X) ps.length m)) (hr:zbz k X.A) (hg:Gl X x) (hm:X.mg x=some (.ref f)) (hk:PySem.W.keepIn X.K (.ref f)=true) (hb:zay X.K fd ps []) (ha:DAX c X (e::es) fa)
  (hl:(e::es).length=ps.length:=by rfl) (hdb:(x==("__debug__" : Str))=false:=by decide) (he:starEach (e::es) X.env=(false,eval e X.env)::starEach es X.env:=by rfl) (hpl:(backTo pos (starEach es X.env)).any (·.1)=false:=by rfl) :
  DX c X (.Call (.Name x p) (e::es) [] pos) (zen m fa):=PE.imp (zjp F hr hg hm hk hb .nil zfy ha.pa hdb he hpl) fun σ H Q q_=>by
 obtain ⟨Hf0,H0,Hf,ρ,d,ρ',st,ef,kq⟩:=q_;unfold zen at ef
 cases e1 : fa ρ with
 | none=>rw [e1] at ef; cases ef
 | some q =>
  obtain ⟨ds,ρ1⟩:=q;rw [e1,Option.bind_some] at ef
  cases e2 : m ds with
  | none=>rw [e2] at ef; cases ef
  | some z =>
   rw [e2] at ef;cases ef;refine ⟨Hf0,H0,Hf,ρ,ds,_,st,e1,fun vs Hf' H' f1 st1 r=>?_⟩;dsimp only;rw [List.append_nil];exact ⟨Hf',ds,_,st1.sub,r,(ha.len ρ ds _ e1).trans hl,e2,fun v Hf2 H2 x2 r2=>kq v Hf2 H2 (f1.trans x2.f) (st1.step x2) r2⟩
end
noncomputable def tMX (G:Gc) (i:Nat) (f:Xa) : TA:=fun σ H Q=>∃ Hf0 H0 Hf ρ ds ρ' l,zal G Hf0 H0 Hf H σ ρ/\σ[i]?=some (some (.ref l))/\f ρ=some (ds,ρ')/\∀ vs Hf' H',zas Hf Hf'->zal G Hf0 H0 Hf' H' σ ρ'->zao G Hf' ds vs->Q (.ref l::vs) H'
structure DMX (c:Str->Addr) (X:Cx) (es:List Expr) (i:Nat) (f:Xa) : Prop where
 pa : PA X es (tMX (Gx c X) i f)
 len : ∀ ρ ds ρ',f ρ=some (ds,ρ')->ds.length + 1=es.length
noncomputable def zaw (i:Nat) (m:Addr->List D->List D->List D->Option (List D×D)) (f:Xa) : Xe:=fun ρ=>match ρ[i]? with
 | some (.pin _ _)=>(f ρ).bind fun p=>match p.2[i]? with
  | some (.pin l xs)=>(m l [] p.1 xs).map fun q=>(q.2,p.2.set i (.pin l q.1))
  | _=>none
 | _=>none
open Classical in
noncomputable def zkl (i:Nat) (m:Addr->List D->List D->List D->Option (List D×D)) (f:Xa) : Xe:=fun ρ=>match ρ[i]? with
 | some (.own _)=>(f ρ).bind fun p=>match p.2[i]? with
  | some (.own xs)=>if h : ∃ q,∀ l,m l [] p.1 xs=some q then some (h.choose.2,p.2.set i (.own h.choose.1)) else none
  | _=>none
 | _=>none
section
variable {c:Str->Addr} {X:Cx} {k:Nat} {f:Addr} {fd:FuncData} {ps:List Str} {x:Str} {p pos pos':Pos} {e:Expr} {es:List Expr} {fa:Xa} {i:Nat}
theorem zbc (i:Nat) {x:Str} {g:Xa} (hr:DAX c X es g) (hN:X.N[i]?=some x:=by rfl) (hv:Vis X.env.scope x:=by first | exact Or.inl rfl | exact Or.inr (Or.inl rfl) | exact Or.inr (Or.inr rfl)) (hd:(x==("__debug__" : Str))=false:=by decide)
  (hcd:(x==("__classdict__" : Str))=false:=by decide) (hs:starEach (.Name x pos::es) X.env=(false,eval (.Name x pos) X.env)::starEach es X.env:=by rfl) : DMX c X (.Name x pos::es) i g :=
 ⟨PA.imp (zct (zhr hN hv hd hcd) hr.pa hs) fun σ H Q ⟨Hf0,H0,Hf,ρ,ds,ρ',l,st,el,ef,k⟩=>⟨_,el,Hf0,H0,Hf,ρ,ds,ρ',st,ef,fun vs Hf' H' f1 st1 r=>k vs Hf' H' f1 st1 r⟩,fun ρ ds ρ' h=>by
  rw [List.length_cons,hr.len ρ ds ρ' h]⟩
theorem za8 {m:Addr->List D->List D->List D->Option (List D×D)} (F:zav X.prog X.w X.K X.mg X.base CX0 k f fd ps (spM (Gx c X) 0 ps.length m)) (hr:zbz k X.A) (hg:Gl X x) (hm:X.mg x=some (.ref f)) (hk:PySem.W.keepIn X.K (.ref f)=true) (hb:zay X.K fd ps []) (ha:DMX c X (e::es) i fa)
  (hl:(e::es).length=ps.length:=by rfl) (hdb:(x==("__debug__" : Str))=false:=by decide) (he:starEach (e::es) X.env=(false,eval e X.env)::starEach es X.env:=by rfl) (hpl:(backTo pos (starEach es X.env)).any (·.1)=false:=by rfl) :
  DX c X (.Call (.Name x p) (e::es) [] pos) (zaw i m fa):=PE.imp (zjp F hr hg hm hk hb .nil zfy ha.pa hdb he hpl) fun σ H Q q_=>by
 obtain ⟨Hf0,H0,Hf,ρ,d,ρ',st,ef,kq⟩:=q_;unfold zaw at ef;split at ef
 ·rename_i l0 xs0 eo0
  cases e1 : fa ρ with
  | none=>rw [e1] at ef; cases ef
  | some pp =>
   obtain ⟨ds,ρ1⟩:=pp;rw [e1,Option.bind_some] at ef;dsimp only at ef;split at ef
   ·rename_i l xs eo
    cases e2 : m l [] ds xs with
    | none=>rw [e2] at ef; cases ef
    | some q =>
     rw [e2] at ef;cases ef;obtain ⟨l1,el,_,_,_,_,_,_⟩:=st.ownAt (s:=.pin l0 xs0) rfl eo0;refine ⟨Hf0,H0,Hf,ρ,ds,ρ1,l1,st,el,e1,fun vs Hf' H' f1 st1 r=>?_⟩;dsimp only;rw [List.append_nil];obtain ⟨l2,el2,h02,hf2,eq2,us2,hu2,rx2⟩:=st1.ownAt (s:=.pin l xs) rfl eo;subst eq2;rw [el] at el2;cases el2
     have hn : 0 + 1 + ds.length=ps.length:=by
      have:=(ha.len ρ ds _ e1).trans hl;omega
     exact ⟨Hf',[],ds,xs,q.1,q.2,l1,us2,[],vs,rfl,st1.sub,hf2,hu2,rfl,r,rx2,rfl,hn,e2,fun v Hf3 H3 us3 x3 hf3 hu3 rx3 r3=>kq v Hf3 H3 (f1.trans x3.f) (st1.back (s:=.pin l1 xs) (s':=.pin l1 q.1) rfl rfl eo el x3 hf3 ⟨rfl,us3,hu3,rx3⟩) r3⟩
   ·cases ef
 ·cases ef
theorem z44 {m:Addr->List D->List D->List D->Option (List D×D)} (F:zav X.prog X.w X.K X.mg X.base CX0 k f fd ps (spM (Gx c X) 0 ps.length m)) (hr:zbz k X.A) (hg:Gl X x) (hm:X.mg x=some (.ref f)) (hk:PySem.W.keepIn X.K (.ref f)=true) (hb:zay X.K fd ps []) (ha:DMX c X (e::es) i fa)
  (hl:(e::es).length=ps.length:=by rfl) (hdb:(x==("__debug__" : Str))=false:=by decide) (he:starEach (e::es) X.env=(false,eval e X.env)::starEach es X.env:=by rfl) (hpl:(backTo pos (starEach es X.env)).any (·.1)=false:=by rfl) :
  DX c X (.Call (.Name x p) (e::es) [] pos) (zkl i m fa):=PE.imp (zjp F hr hg hm hk hb .nil zfy ha.pa hdb he hpl) fun σ H Q q_=>by
 obtain ⟨Hf0,H0,Hf,ρ,d,ρ',st,ef,kq⟩:=q_;unfold zkl at ef;split at ef
 ·rename_i xs0 eo0
  cases e1 : fa ρ with
  | none=>rw [e1] at ef; cases ef
  | some pp =>
   obtain ⟨ds,ρ1⟩:=pp;rw [e1,Option.bind_some] at ef;dsimp only at ef;split at ef
   ·rename_i xs eo;split at ef
    ·rename_i hq;have e2:=hq.choose_spec;generalize hq.choose=q at ef e2;cases ef;obtain ⟨l1,el,_,_,_,_,_⟩:=st.ownAt (s:=.own xs0) rfl eo0;refine ⟨Hf0,H0,Hf,ρ,ds,ρ1,l1,st,el,e1,fun vs Hf' H' f1 st1 r=>?_⟩;dsimp only;rw [List.append_nil];obtain ⟨l2,el2,h02,hf2,us2,hu2,rx2⟩:=st1.ownAt (s:=.own xs) rfl eo;rw [el] at el2;cases el2
     have hn : 0 + 1 + ds.length=ps.length:=by
      have:=(ha.len ρ ds _ e1).trans hl;omega
     exact ⟨Hf',[],ds,xs,q.1,q.2,l1,us2,[],vs,rfl,st1.sub,hf2,hu2,rfl,r,rx2,rfl,hn,e2 l1,fun v Hf3 H3 us3 x3 hf3 hu3 rx3 r3=>kq v Hf3 H3 (f1.trans x3.f) (st1.back (s:=.own xs) (s':=.own q.1) rfl rfl eo el x3 hf3 ⟨us3,hu3,rx3⟩) r3⟩
    ·cases ef
   ·cases ef
 ·cases ef
end
noncomputable def zbm (i:Nat) (f:Xe) (ρ:List Sl) : Option Fl:=(f ρ).map fun p=>.nx (p.2.set i (.im p.1))
noncomputable def zbw (f:Xe) (ρ:List Sl) : Option Fl:=(f ρ).map fun p=>.rtS p.1 p.2
noncomputable def zer (i:Nat) (f:Xe) (ρ:List Sl) : Option Fl:=match ρ[i]? with
 | some (.own _)=>(f ρ).bind fun p=>match p.2[i]? with
  | some (.own xs)=>if xs.length < 16777216 then some (.nx (p.2.set i (.own (xs++[p.1])))) else none
  | _=>none
 | _=>none
noncomputable def zh3 : D->D->Option D
 | .int i,.int j=>some (.int (i + j))
 | .str a,.str b=>if a.length + b.length<=16777216 then some (.str (a++b)) else none
 | _,_=>none
noncomputable def zkk (i:Nat) (f:Xe) (ρ:List Sl) : Option Fl:=match ρ[i]? with
 | some (.im x)=>(f ρ).bind fun p=>(zh3 x p.1).map fun z=>.nx (p.2.set i (.im z))
 | _=>none
noncomputable def ze2 (t:Xt) (F F':List Sl->Option Fl) (ρ:List Sl) : Option Fl:=(t ρ).bind fun p=>if p.1 then F p.2 else F' p.2
section
variable {c:Str->Addr} {X:Cx} {st:Stmt} {e a b:Expr} {pos pos' p:Pos} {as bs:List Stmt} {F F':List Sl->Option Fl}
theorem zb1 (i:Nat) {x:Str} {f:Xe} {pos':Pos} (hN:X.N.Nodup) (he:DX c X e f) (hi:X.N[i]?=some x:=by rfl) (hx:Loc X.env.scope x:=by first | exact Or.inl rfl | exact Or.inr rfl) (hs:swapsWith e (some (.Name x pos')) pos.line X.env=pure false:=by rfl) (hf:X.fn x=true\/X.env.scope.names.lookup x=some .local:=by first | exact .inl rfl | exact .inr rfl) :
  DS c X (.Assign [.Name x pos'] e pos) (zbm i f):=PS.imp (zjq hN hi hx he hs hf) fun E σ H q_=>by
 obtain ⟨Hf0,H0,Hf,ρ,o,so,ef,k⟩:=q_;unfold zbm at ef
 cases e1 : f ρ with
 | none=>rw [e1] at ef; cases ef
 | some p =>
  rw [e1] at ef;cases ef;exact ⟨Hf0,H0,Hf,ρ,p.1,p.2,so,e1,fun v Hf' H' s so' r=>k _ Hf' H' s (so'.setIm r)⟩
theorem zb7 {f:Xe} (he:DX c X e f) : DS c X (.Return (some e) pos) (zbw f):=PS.imp (zoe he) fun E σ H q_=>by
 obtain ⟨Hf0,H0,Hf,ρ,o,so,ef,k⟩:=q_;unfold zbw at ef
 cases e1 : f ρ with
 | none=>rw [e1] at ef; cases ef
 | some p =>
  rw [e1] at ef;cases ef;exact ⟨Hf0,H0,Hf,ρ,p.1,p.2,so,e1,fun v Hf' H' s so' r=>k v σ Hf' H' so' r⟩
theorem zkc {i:Nat} {f:Xe} (h:PS X st (zr2 (tBM X.K "list" zrl (zc8 i) (zil (tDX (Gx c X) f) zhw)))) : DS c X st (zer i f):=PS.imp h fun E σ H q_=>by
 obtain ⟨Hf0,H0,Hf,ρ,o,so,ef,k⟩:=q_;unfold zer at ef;split at ef
 ·rename_i xs0 es0
  cases e1 : f ρ with
  | none=>rw [e1] at ef; cases ef
  | some p =>
   rw [e1,Option.bind_some] at ef;split at ef
   ·rename_i xs es;split at ef
    ·rename_i hl;cases ef;obtain ⟨l,e2,h0,hf,vs0,q0,r0⟩:=so.ownAt (s:=.own xs0) rfl es0;refine ⟨_,e2,.inl ⟨rfl,_,SqL.of q0⟩,Hf0,H0,Hf,ρ,p.1,p.2,so,e1,fun v Hf' H' s so' r'=>?_⟩;obtain ⟨l2,e3,h02,hf2,vs,q,r⟩:=so'.ownAt (s:=.own xs) rfl es;rw [e2] at e3;cases e3;exact ⟨l,vs,v,rfl,rfl,q,by rw [sizeLine_eq,<- r.length]; exact hl,k σ Hf' _ s (so'.mutd (s:=.own xs) (s':=.own (xs++[p.1])) rfl rfl es e2 ⟨vs++[v],zcd,r.append (.cons r' .nil)⟩)⟩
    ·cases ef
   ·cases ef
 ·cases ef
theorem zxv : PIp X .Add (rD (Gx c X) zh3):=fun pins s σ H x y v u Q I rx ry ⟨Hf,dx,dy,d,s0,r1,r2,e,k⟩=>by
 cases dx <;> cases dy <;> first | (cases e; done) | skip
 ·cases r1;cases r2;cases e;exact z6c pins s σ H _ _ v u Q I rx ry ⟨_,_,rfl,rfl,k _ Hf H (Ext.refl s0) rfl⟩
 ·cases r1;cases r2;replace e : (if _ then some (D.str _) else none)=some d:=e;split at e
  ·rename_i hl;cases e;exact z6b pins s σ H _ _ v u Q I rx ry ⟨_,_,rfl,rfl,by rw [sizeLine_eq]; exact hl,k _ Hf H (Ext.refl s0) rfl⟩
  ·cases e
theorem zw4 (i:Nat) {x:Str} {f:Xe} {pos':Pos} (hN:X.N.Nodup) (he:DX c X e f) (hi:X.N[i]?=some x:=by rfl) (hx:Loc X.env.scope x:=by first | exact Or.inl rfl | exact Or.inr rfl) (hf:X.fn x=true\/X.env.scope.names.lookup x=some .local:=by first | exact .inl rfl | exact .inr rfl) :
  DS c X (.AugAssign (.Name x pos') .Add e pos) (zkk i f):=PS.imp (z0p hN hi hx he (zxv (c:=c)) hf) fun E σ H q_=>by
 obtain ⟨Hf0,H0,Hf,ρ,o,so,ef,k⟩:=q_;unfold zkk at ef;split at ef
 ·rename_i d es
  cases e1 : f ρ with
  | none=>rw [e1] at ef; cases ef
  | some p =>
   rw [e1,Option.bind_some] at ef
   cases e2 : zh3 d p.1 with
   | none=>rw [e2] at ef; cases ef
   | some z =>
    rw [e2] at ef;cases ef;obtain ⟨v,ev,w,ew,rw'⟩:=so.slot es;cases ew;exact ⟨_,ev,Hf0,H0,Hf,ρ,p.1,p.2,so,e1,fun u Hf' H' s so' r=>⟨Hf',d,p.1,z,so'.sub,rw'.up s,r,e2,fun y Hf2 H2 x2 r2=>k _ Hf2 H2 (s.trans x2.f) ((so'.step x2).setIm r2)⟩⟩
 ·cases ef
theorem zgu {t:Xt} (hc:DTX c X e t) (ha:DSs c X as F) (hb:DSs c X bs F') : DS c X (.If e as bs pos) (ze2 t F F'):=PS.imp (zrk hc ha hb) fun E σ H q_=>by
 obtain ⟨Hf0,H0,Hf,ρ,o,so,ef,k⟩:=q_;unfold ze2 at ef
 cases e1 : t ρ with
 | none=>rw [e1] at ef; cases ef
 | some x =>
  obtain ⟨b,ρ1⟩:=x;rw [e1,Option.bind_some] at ef;refine ⟨Hf0,H0,Hf,ρ,b,ρ1,so,e1,fun Hf1 H1 s1 so1=>?_⟩
  cases b with
  | true=>rw [if_pos rfl]; exact ⟨Hf0,H0,Hf1,ρ1,o,so1,ef,k.up s1⟩
  | false=>rw [if_neg Bool.false_ne_true]; exact ⟨Hf0,H0,Hf1,ρ1,o,so1,ef,k.up s1⟩
end
noncomputable def mBX (f:Xe) : Xt:=fun ρ=>(f ρ).bind fun p=>match p.1 with
 | .bl b=>some (b,p.2)
 | _=>none
noncomputable def mTX (f:List Sl->Option Bool) : Xt:=fun ρ=>(f ρ).map fun b=>(b,ρ)
noncomputable def zid (f g:Xt) : Xt:=fun ρ=>(f ρ).bind fun p=>if p.1 then some (true,p.2) else g p.2
noncomputable def DWX (c:Str->Addr) (X:Cx) (e:Expr) (f:Xt) : Prop:=PW X e (z2k (Gx c X) f)
noncomputable def zj6 : D->D->Option D
 | .str z,.int i=>if 0<=i/\i < 2 ^ 63/\i < (z.length : Int) then (z.cps[i.toNat]?).map fun ch=>.str ⟨#[ch]⟩ else none
 | _,_=>none
noncomputable def zea (x y:D) : Option D:=match x with
 | .lst ds=>ixD ds y
 | .tup ds=>ixD ds y
 | _=>none
noncomputable def zhp (f:Xa) : Xa:=fun ρ=>(f ρ).bind fun p=>(zih p.1).map fun ds=>(ds,p.2)
section
variable {c:Str->Addr} {X:Cx} {e a b tg:Expr} {pos p:Pos}
theorem DT.dtx {f:List Sl->Option Bool} (h:DT c X e f) : DTX c X e (mTX f):=PT.imp h fun σ H Q q_=>by
 obtain ⟨Hf0,H0,Hf,ρ,bb,ρ',st,ef,k⟩:=q_;unfold mTX at ef
 cases e1 : f ρ with
 | none=>rw [e1] at ef; cases ef
 | some x =>
  rw [e1] at ef;cases ef;exact ⟨Hf0,H0,Hf,ρ,_,st,e1,fun Hf' H' x=>k Hf' H' x.f (st.step x)⟩
theorem zhh {op:CmpOp} {m:D->D->Option D} {f g:Xe} (ho:OpD c X (compareOp op) m) (ha:DX c X a f) (hb:DX c X b g) (hm:behindInMarks op b=false:=by first | exact zq0 _ | rfl) :
  DTX c X (.Compare a [op] [b] pos) (mBX (mX2 m f g)):=PT.imp (z0r ho ha hb hm) fun σ H Q q_=>by
 obtain ⟨Hf0,H0,Hf,ρ,bb,ρ',st,ef,k⟩:=q_;unfold mBX at ef
 cases e0 : mX2 m f g ρ with
 | none=>rw [e0] at ef; cases ef
 | some q =>
  obtain ⟨d,ρ2⟩:=q;rw [e0,Option.bind_some] at ef;obtain ⟨x,y,ρ1,e1,e2,e3⟩:=znw e0
  cases d <;> first | (cases ef; done) | skip
  cases ef;exact ⟨Hf0,H0,Hf,ρ,x,ρ1,st,e1,fun v Hf1 H1 f1 st1 r1=>⟨Hf0,H0,Hf1,ρ1,y,_,st1,e2,fun u Hf2 H2 f2 st2 r2=>⟨Hf2,x,y,_,st2.sub,r1.up f2,r2,e3,fun w Hf3 H3 x3 r3=>⟨_,r3,k Hf3 H3 ((f1.trans f2).trans x3.f) (st2.step x3)⟩⟩⟩⟩
theorem DWX.dtx {f:Xt} (h:DWX c X e f) : DTX c X e f:=PW.pt h
theorem z42 {f:Xt} (h:DTX c X a f) : DWX c X (.BoolOp .Or [a] pos) f:=ya2 h
theorem z43 {f g:Xt} {zbp:List Expr} (h:DTX c X a f) (h':DWX c X (.BoolOp .Or (b::zbp) pos) g) : DWX c X (.BoolOp .Or (a::b::zbp) pos) (zid f g):=PW.imp (ya1 h h') fun σ H Q q_=>by
 obtain ⟨Hf0,H0,Hf,ρ,bb,ρ',st,ef,k⟩:=q_;unfold zid at ef
 cases e1 : f ρ with
 | none=>rw [e1] at ef; cases ef
 | some x =>
  obtain ⟨x,ρ1⟩:=x;rw [e1,Option.bind_some] at ef;refine ⟨Hf0,H0,Hf,ρ,x,ρ1,st,e1,fun Hf1 H1 s1 st1=>?_⟩
  cases x with
  | false=>rw [if_neg Bool.false_ne_true]; exact ⟨Hf0,H0,Hf1,ρ1,bb,ρ',st1,ef,fun Hf2 H2 s2 st2=>k Hf2 H2 (s1.trans s2) st2⟩
  | true=>cases ef; rw [if_pos rfl]; exact k Hf1 H1 s1 st1
theorem z6m {x y d:D} (h:zj6 x y=some d) : ∃ z i ch,x=.str z/\y=.int i/\0<=i/\i < 2 ^ 63/\i < (z.length : Int)/\z.cps[i.toNat]?=some ch/\d=.str ⟨#[ch]⟩:=by
 unfold zj6 at h;split at h
 ·rename_i z i;split at h
  ·rename_i hc
   cases e : z.cps[i.toNat]? with
   | none=>rw [e] at h; cases h
   | some ch=>rw [e] at h; cases h; exact ⟨z,i,ch,rfl,rfl,hc.1,hc.2.1,hc.2.2,e,rfl⟩
  ·cases h
 ·cases h
theorem zxb {f g:Xe} (ha:DX c X a f) (hb:DX c X b g) (hs:zvq b:=by exact fun _ _=>rfl) : DX c X (.Subscript a b pos) (mX2 zj6 f g):=PE.imp (z9t ha hb hs) fun σ H Q q_=>by
 obtain ⟨Hf0,H0,Hf,ρ,d,ρ',st,ef,k⟩:=q_;obtain ⟨x,y,ρ1,e1,e2,e3⟩:=znw ef;obtain ⟨z,i,ch,rfl,rfl,h0,h1,h2,h3,rfl⟩:=z6m e3;exact ⟨Hf0,H0,Hf,ρ,_,ρ1,st,e1,fun v Hf1 H1 f1 st1 r1=>⟨Hf0,H0,Hf1,ρ1,_,ρ',st1,e2,fun u Hf2 H2 f2 st2 r2=>⟨z,i,ch,r1,r2,h0,h1,h2,h3,k _ Hf2 H2 (f1.trans f2) st2 rfl⟩⟩⟩
theorem zi6 {f g:Xe} (ha:DX c X a f) (hb:DX c X b g) (hs:zr9 b:=by exact fun _ _=>rfl) : DX c X (.Subscript a b pos) (mX2 zea f g):=PE.imp (z0a (zya.or zyb) ha hb hs) fun σ H Q q_=>by
 obtain ⟨Hf0,H0,Hf,ρ,d,ρ',st,ef,k⟩:=q_;obtain ⟨x,y,ρ1,e1,e2,e3⟩:=znw ef;refine ⟨Hf0,H0,Hf,ρ,x,ρ1,st,e1,fun v Hf1 H1 f1 st1 r1=>⟨Hf0,H0,Hf1,ρ1,y,ρ',st1,e2,fun u Hf2 H2 f2 st2 r2=>?_⟩⟩;have r1:=r1.up f2;unfold zea at e3;split at e3
 ·rename_i ds
  cases y <;> first | (cases e3; done) | skip
  rename_i n;cases (show u=V.int n from r2);obtain ⟨l,vs,el,q,r⟩:=r1;subst el;obtain ⟨v,ev,rv⟩:=zsg e3 r;exact .inl ⟨l,vs,n,v,rfl,rfl,SqL.of (st2.sub _ _ q),ev,k v Hf2 H2 (f1.trans f2) st2 rv⟩
 ·rename_i ds
  cases y <;> first | (cases e3; done) | skip
  rename_i n;cases (show u=V.int n from r2);obtain ⟨l,vs,el,q,r⟩:=r1;subst el;obtain ⟨v,ev,rv⟩:=zsg e3 r;exact .inr ⟨l,vs,n,v,rfl,rfl,SqT.of (st2.sub _ _ q),ev,k v Hf2 H2 (f1.trans f2) st2 rv⟩
 ·cases e3
theorem zpt {f:Xa} (hg:Gl X "range") (hm:X.mg "range"=none) (ha:DAX c X [a] f) (hs:starEach [a] X.env=[(false,eval a X.env)]:=by rfl) : DXi c X tg (.Call (.Name "range" p) [a] [] pos) (zhp f) :=
 PI.imp (z0f hg hm ha.pa hs) fun σ H R q_=>by
  obtain ⟨Hf0,H0,Hf,ρ,ds,ρ',st,ef,k⟩:=q_;unfold zhp at ef
  cases e1 : f ρ with
  | none=>rw [e1] at ef; cases ef
  | some q =>
   obtain ⟨as,ρ1⟩:=q;rw [e1,Option.bind_some] at ef;dsimp only at ef
   cases e2 : zih as with
   | none=>rw [e2] at ef; cases ef
   | some ds' =>
    rw [e2] at ef;cases ef;have hl:=ha.len ρ as _ e1;refine ⟨Hf0,H0,Hf,ρ,as,_,st,e1,fun vs Hf' H' s1 st1 r=>?_⟩;unfold zih at e2;split at e2
    ·split at e2
     ·rename_i j hj;cases e2;obtain ⟨v,ev,rv⟩:=r.one;cases (show v=V.int j from rv);exact ⟨j,ev,hj.1,hj.2,k _ Hf' H' s1 st1 zx6⟩
     ·cases e2
    ·cases hl
    ·cases e2
end
section
variable {X:Cx} {s:Shared} {H:Hp} {σ:St} {pins:List (Addr×Obj)}
theorem zvf {M:Model} {A:Around} {E:Value->Shared->Prop} {i:Nat} {x:Str} {v:V} {u:Value} {Q:Unit->Shared->Prop} (J:Inv X pins σ H s) (nd:X.N.Nodup) (ix:X.N[i]?=some x) (lc:X.env.scope.names.lookup x=some .local) (rv:za5 v u)
  (h:∀ z,Inv X pins (σ.set i (some v)) H z->z.toks=s.toks + 1->(∃ m,z.heap.Ns X.env.locals m/\m x=some u)->Q () z) : wpAny M A (storeName X.env x u) Q E s:=by
 obtain ⟨m,mn,ml⟩:=id J.loc;have calm : (X.env.scope.kind==.class || (X.env.scope.kind==.module && X.env.locals != X.env.globals))=false:=by rw [J.ok.kind]; rfl
 have below : i < σ.length:=by rw [J.len]; exact (List.getElem?_eq_some_iff.mp ix).1
 refine wpAny_storeName_local lc mn (fun g gn gs=>?_) calm;have far : ∀ {b:Addr} {o:Obj},X.s₀.heap.get? b=some o->g.get? b=s.heap.get? b:=fun {b o} e=>gs.2 b (Nat.ne_of_lt (Nat.lt_of_lt_of_le (Heap.lt_size e) J.ok.above))
 have tr : HOk X.prog X.w H g:=fun b ob e=>by
  refine (J.hok b ob e).stay (fun c w' hc q=>(gs.2 c ?_).trans q) (fun _ q=>q) fun _ _ q=>q;rintro rfl
  rcases hc with rfl | hc
  ·rw [J.free] at e; cases e
  ·rw [J.free] at hc; cases hc
 refine h _ ⟨J.ok,J.os,J.bare,⟨fun b o e n hb hx=>(far e).trans (J.base.keep b o e n hb hx),fun b o e n hb hx=>?_,J.base.free,fun b o e hx=>?_,J.base.tups,J.base.frzs,J.base.tbls⟩,⟨_,gn,fun j y w' e1 e2 e3=>?_⟩,fun y c e=>?_,J.free,J.freeC,fun p hp=>?_,tr,by simpa using J.len⟩ rfl ⟨_,gn,by simp⟩
 ·obtain ⟨sl,q⟩:=J.base.slot b o e n hb hx;exact ⟨sl,(far e).trans q⟩
 ·obtain ⟨o',q⟩:=J.base.there b o e hx;exact ⟨o',(far e).trans q⟩
 ·by_cases same : j=i
  ·subst same;rw [ix] at e1;cases e1;rw [List.getElem?_set_self below] at e2;cases e2;exact ⟨u,rv,.inl ⟨lc,by simp⟩⟩
  ·rw [List.getElem?_set_ne (Ne.symm same)] at e2;obtain ⟨u',r',q⟩:=ml j y w' e1 e2 e3;refine ⟨u',r',?_⟩
   rcases q with ⟨kd,ez⟩ | ⟨kd,c,ez,z⟩
   ·refine .inl ⟨kd,?_⟩;have other : y≠x:=fun e=>same (zt6 nd e1 (e ▸ ix));simp [other,ez]
   ·exact .inr ⟨kd,c,ez,z.sameBut gs (J.cne y c ez)⟩
 ·obtain ⟨w',z⟩:=J.cell y c e;exact ⟨w',z.sameBut gs (J.cne y c e)⟩
 ·obtain ⟨e,n,ne,nf,d⟩:=J.pin p hp;exact ⟨(gs.2 p.1 ne).trans e,n,ne,nf,d⟩
end
noncomputable def zm2 (ch:Nat) : Str:=Str.empty++(" " : Str)++⟨#[ch]⟩++(" " : Str)
noncomputable def zcx (z:Str) (ch:Nat) : Str:=Txt.replace z ⟨#[ch]⟩ (zm2 ch)
noncomputable def zoi (z:Str) (cs:List Nat) : Bool:=(List.range cs.length).all fun k=>decide (4 * ((cs.take k).foldl zcx z).length + 3<=16777216)
section
variable {X:Cx} {pins:List (Addr×Obj)} {σ:St} {H:Hp} {s:Shared} {i j:Nat} {x y g:Str} {gx z:Str} {t0:Tok} {D:zf2} {py pg px p1 p2 p3 p4 p5 p6 p7 p8 p9 p10 pf:Pos} {k1 k2:Nat}
noncomputable abbrev zo7 (x y:Str) (p1 p2 p3 p4 p5 p6 p7 p8 p9:Pos) (k1 k2:Nat) : Expr:=.Call (.Attribute (.Name x p1) "replace" p2) [.Name y p3,.JoinedStr [.Constant (.str " ") k1 p4,.FormattedValue (.Name y p5) (-1) none p6,.Constant (.str " ") k2 p7] p8] [] p9
theorem z5d {ch:Nat} {u:Tok} {m:Str->Option Value} {Q:Value->Shared->Prop} {E:Value->Shared->Prop} (I:Inv X pins σ H s) (hi:X.N[i]?=some x) (lx:X.env.scope.names.lookup x=some .local) (ly:X.env.scope.names.lookup y=some .local)
  (hz:σ[i]?=some (some (.str z))) (hn:s.heap.Ns X.env.locals m) (hy:m y=some (.str ⟨#[ch]⟩ u)) (u0:u≠0) (ub:u < s.toks) (sz:4 * z.length + 3<=16777216)
  (q:∀ t' tk,s.toks<=tk->Q (.str (zcx z ch) t') { s with toks:=tk })
  (dx:(x==("__debug__" : Str))=false:=by decide) (dy:(y==("__debug__" : Str))=false:=by decide)
  (hbase:attributeBase (.Name x p1) "replace" X.env (eval (.Name x p1) X.env)=eval (.Name x p1) X.env:=by rfl)
  (hfew:((backTo p9 (starEach [.Name y p3,.JoinedStr [.Constant (.str " ") k1 p4,.FormattedValue (.Name y p5) (-1) none p6,.Constant (.str " ") k2 p7] p8] X.env)).all (fun x=>!x.1) && (backToKw p9 (keywordEach [] X.env)).all (fun x=>x.1.isSome)
   && decide (([.Name y p3,.JoinedStr [.Constant (.str " ") k1 p4,.FormattedValue (.Name y p5) (-1) none p6,.Constant (.str " ") k2 p7] p8] : List Expr).length + ([] : List Keyword).length + (if ([] : List Keyword).isEmpty then 0 else 1) < 30))=true:=by rfl)
  (hline:(p2.endLine==p9.line)=true:=by rfl) : wpAny (model X.prog X.w) X.A (eval (zo7 x y p1 p2 p3 p4 p5 p6 p7 p8 p9 k1 k2) X.env) Q E s:=by
 obtain ⟨m',mn,ml⟩:=id I.loc;obtain ⟨w,rw',l⟩:=ml i x _ hi hz (.inl lx);obtain ⟨tz,rfl⟩:=rw'
 have hx : m' x=some (.str z tz):=by
  rcases l with ⟨_,h⟩ | ⟨hk,_⟩
  ·exact h
  ·rcases hk with hk | hk <;> (rw [show X.env.kindOf x=some .local from lx] at hk; cases hk)
 refine wpAny_Call_method_late hbase hfew hline rfl (wpAny_Name (wpAny_loadName_local I.ok.kind lx mn hx ?_) dx);refine ⟨"str","str.replace",F.plainAttrs_str,F.slot_str_replace,F.type_str_replace,typeIs_str _ _ _,(fun _ e=>by cases e),?_⟩;refine Calls.callWith_builtin rfl (Calls.evalArgs_plain ?_);refine Calls.spliced_cons (wpAny_Name (wpAny_loadName_local I.ok.kind ly hn hy ?_) dy);show wpAny _ _ (spliced [(false,eval (.JoinedStr [.Constant (.str " ") k1 p4,.FormattedValue (.Name y p5) (-1) none p6,.Constant (.str " ") k2 p7] p8) X.env)]) _ _ s;refine Calls.spliced_cons ?_
 have lit : ∀ {w:Str} {kk:Nat} {pp:Pos} {s1:Shared} {R:Value->Shared->Prop},R (.str w s1.toks) { s1 with toks:=s1.toks + 1 }->wpAny (model X.prog X.w) X.A (eval (.Constant (.str w) kk pp) X.env) R E s1:=fun h=>Calls.Constant_str h
 have fin : ∀ (tk:Nat),s.toks<=tk->wpAny (model X.prog X.w) X.A (joinParts (Str.empty++(" " : Str)++⟨#[ch]⟩) [eval (.Constant (.str " ") k2 p7) X.env]) (fun v s₁=>wpAny (model X.prog X.w) X.A (call (.builtin "str.replace") [.str z tz,.str ⟨#[ch]⟩ u,v]) Q E s₁) E { s with toks:=tk }:=fun tk ht=>by
  refine joinParts_cons (lit ⟨by show 3<=sizeLine; decide,?_⟩);refine joinParts_nil ?_ (by show 3<=sizeLine; decide)
  refine wpAny_mono (wpAny_toks_of (n:=s.toks) (Nat.le_succ_of_le (Nat.le_succ_of_le ht)) (SC.replace (Q:=fun v s'=>∃ t',v=.str (zcx z ch) t'/\∃ k,s'={ s with toks:=k }) u0 ?_ ?_ ?_ ?_ fun t2 k=>⟨t2,rfl,k,rfl⟩)) (fun v s1 ⟨hb,t',e1,k,e2⟩=>by subst e1 e2; exact q t' k hb) fun _ _ e=>e.2
  ·show tk + 1≠0; omega
  ·exact Nat.ne_of_lt (Nat.lt_succ_of_lt (Nat.lt_of_lt_of_le ub ht))
  ·cases e : ((⟨#[ch]⟩ : Str)==Str.empty++(" " : Str)++⟨#[ch]⟩++(" " : Str)) with
   | false=>rfl
   | true=>exact absurd (congrArg Str.length (eq_of_beq e)) (by show ¬ 1=3; decide)
  ·show z.length + (z.length + 1) * 3<=_; omega
 refine JoinedStr_many (joinParts_cons (lit ⟨by show 1<=sizeLine; decide,?_⟩));refine joinParts_cons (FormattedValue_plain (wpAny_Name (wpAny_loadName_local I.ok.kind ly hn hy ?_) dy))
 have more : ∀ (tk:Nat),s.toks<=tk->(Str.empty++(" " : Str)++(⟨#[ch]⟩ : Str)).length<=sizeLine/\wpAny (model X.prog X.w) X.A (joinParts (Str.empty++(" " : Str)++⟨#[ch]⟩) [eval (.Constant (.str " ") k2 p7) X.env]) (fun u' s₁=>wpAny (model X.prog X.w) X.A (spliced []) (fun us s'=>wpAny (model X.prog X.w) X.A (call (.builtin "str.replace") ([.str z tz]++.str ⟨#[ch]⟩ u::u'::us)) Q E s') E s₁) E { s with toks:=tk }:=fun tk ht=>⟨by show 2<=sizeLine; decide,thn (fin tk ht) fun v s1 h1=>Calls.spliced_nil h1⟩
 exact wpAny_formatField_str (more _ (Nat.le_succ _)) (more _ (Nat.le_succ_of_le (Nat.le_succ _))) (by show 1<=sizeLine; decide)
noncomputable abbrev zxi (x y g:Str) (py pg px p1 p2 p3 p4 p5 p6 p7 p8 p9 p10 pf:Pos) (k1 k2:Nat) : Stmt:=.For (.Name y py) (.Name g pg) [.Assign [.Name x px] (zo7 x y p1 p2 p3 p4 p5 p6 p7 p8 p9 k1 k2) p10] [] pf
theorem z5e (hp:PassesOwn (model X.prog X.w) X.A X.env X.xe) (hc:X.calm=true) (nd:X.N.Nodup) (hi:X.N[i]?=some x) (hj:X.N[j]?=some y) (hij:i≠j) (lx:X.env.scope.names.lookup x=some .local) (ly:X.env.scope.names.lookup y=some .local)
  (hg:Gl X g) (hm:X.mg g=some (.str gx t0)) (as:gx.cps.all (· < 128)=true) (I:Inv X pins σ H s) (tk:1<=s.toks) (hz:σ[i]?=some (some (.str z))) (sz:zoi z gx.cps.toList=true) (hj':j < σ.length) (ch0:Nat) (hne:gx.cps.toList.getLast?=some ch0)
  (q:D.nx ((σ.set i (some (.str (gx.cps.toList.foldl zcx z)))).set j (some (.str ⟨#[ch0]⟩))) H)
  (dx:(x==("__debug__" : Str))=false:=by decide) (dy:(y==("__debug__" : Str))=false:=by decide) (dg:(g==("__debug__" : Str))=false:=by decide)
  (hbase:attributeBase (.Name x p1) "replace" X.env (eval (.Name x p1) X.env)=eval (.Name x p1) X.env:=by rfl)
  (hfew:((backTo p9 (starEach [.Name y p3,.JoinedStr [.Constant (.str " ") k1 p4,.FormattedValue (.Name y p5) (-1) none p6,.Constant (.str " ") k2 p7] p8] X.env)).all (fun x=>!x.1) && (backToKw p9 (keywordEach [] X.env)).all (fun x=>x.1.isSome)
   && decide (([.Name y p3,.JoinedStr [.Constant (.str " ") k1 p4,.FormattedValue (.Name y p5) (-1) none p6,.Constant (.str " ") k2 p7] p8] : List Expr).length + ([] : List Keyword).length + (if ([] : List Keyword).isEmpty then 0 else 1) < 30))=true:=by rfl)
  (hline:(p2.endLine==p9.line)=true:=by rfl) (hsw:swapsWith (zo7 x y p1 p2 p3 p4 p5 p6 p7 p8 p9 k1 k2) (some (.Name x px)) p10.line X.env=pure false:=by rfl) (hs:∀ v,foldedSetIterable (.Name g pg) X.env v=pure v:=by intro _; rfl) :
  wpAny (model X.prog X.w) X.A (exec (zxi x y g py pg px p1 p2 p3 p4 p5 p6 p7 p8 p9 p10 pf k1 k2) X.env) (SP X pins D) X.xe s:=by
 refine wpAny_For (zno I hg hm (wpAny_pyIter_ascii as ?_) dg) hs;generalize hL : gx.cps.toList=L at sz hne q;have hgx : ∀ k,gx.cps[k]?=L[k]?:=fun k=>by rw [<- hL,Array.getElem?_toList]
 generalize hit : s.heap.objs.size=it
 have I2 : Inv X pins σ H { s with heap:=s.heap.push { cls:=.type "str_ascii_iterator",data:=.fields #[.str gx t0,.int 0 0] } }:=I.kept (t':=s.toks) fun b o e=>Heap.get?_push_of_some _ e
 have fp : zfl X pins H it:=by rw [<- hit]; exact I.fpOk (Nat.le_refl _) (I.hok.fresh (Nat.le_refl _))
 have st2 : (s.heap.push { cls:=.type "str_ascii_iterator",data:=.fields #[.str gx t0,.int 0 0] }).IsStrIter it "str_ascii_iterator" gx t0 0:=by rw [<- hit]; exact ⟨_,Heap.get?_push_size _ rfl,rfl,rfl⟩
 have szk : ∀ k,k < L.length->4 * ((L.take k).foldl zcx z).length + 3<=16777216:=fun k hk=>of_decide_eq_true (List.all_eq_true.mp sz k (List.mem_range.mpr hk))
 let At : Nat->St:=fun k=>match k with
  | 0=>σ
  | k + 1=>(σ.set i (some (.str ((L.take (k + 1)).foldl zcx z)))).set j (some (.str ⟨#[L.getD k 0]⟩))
 have hi' : i < σ.length:=(List.getElem?_eq_some_iff.mp hz).1
 have hAt : ∀ k,k<=L.length->(At k)[i]?=some (some (.str ((L.take k).foldl zcx z))):=fun k hk=>by
  cases k with
  | zero=>exact hz
  | succ k=>show ((σ.set i _).set j _)[i]?=_; rw [List.getElem?_set_ne (Ne.symm hij),List.getElem?_set_self hi']
 have hNx : ∀ k ch,L[k]?=some ch->((At k).set j (some (.str ⟨#[ch]⟩))).set i (some (.str (zcx ((L.take k).foldl zcx z) ch)))=At (k + 1):=fun k ch e=>by
  have e1 : (L.take (k + 1)).foldl zcx z=zcx ((L.take k).foldl zcx z) ch:=by rw [List.take_add_one,e,List.foldl_append]; rfl
  have e2 : L.getD k 0=ch:=by rw [List.getD_eq_getElem?_getD,e]; rfl
  show _=(σ.set i (some (.str ((L.take (k + 1)).foldl zcx z)))).set j (some (.str ⟨#[L.getD k 0]⟩));rw [e1,e2]
  cases k with
  | zero=>exact (List.set_comm _ _ hij).symm
  | succ k =>
   show ((((σ.set i _).set j _).set j _).set i _)=_;rw [List.set_set,List.set_comm _ _ (Ne.symm hij),List.set_set]
 refine codeAny_forLoop_any (fun n s'=>∃ k,k<=L.length/\n=L.length - k/\Inv X pins (At k) H s'/\s'.heap.IsStrIter it "str_ascii_iterator" gx t0 k/\1<=s'.toks) ?_ L.length ⟨0,Nat.zero_le _,rfl,I2,st2,tk⟩;rintro n s3 ⟨k,hk,rfl,I3,st3,tk3⟩;obtain ⟨f0,f1,f2,f3,f4,f5⟩:=fp
 cases e : L[k]? with
 | none =>
  have hkl : k=L.length:=Nat.le_antisymm hk (List.getElem?_eq_none_iff.mp e);refine wpAny_pyNext_ascii_end (I.ok.hd hc) st3 ((hgx k).trans e) fun h' eb=>?_;refine wpAny_execs_nil ⟨_,H,I3.turned (t':=s3.toks) (fun b o hb e=>eb b o hb e) f0 f1 f3 f4 f5,?_⟩;subst hkl
  cases L with
  | nil=>cases hne
  | cons a L =>
   show D.nx ((σ.set i (some (.str (((a::L).take (L.length + 1)).foldl zcx z)))).set j (some (.str ⟨#[(a::L).getD L.length 0]⟩))) H
   have e1 : (a::L).getD L.length 0=ch0:=by
    rw [List.getLast?_eq_getElem?] at hne;exact (List.getD_eq_getElem?_getD).trans (congrArg (fun o=>Option.getD o 0) hne)
   rw [List.take_of_length_le (by simp),e1]
   exact q
 | some ch =>
  refine wpAny_pyNext_ascii_item st3 ((hgx k).trans e) fun h' st' sb=>?_
  have I4 : Inv X pins (At k) H { s3 with heap:=h',toks:=s3.toks + 1 }:=I3.turned (fun b o hb e=>(sb.2 b hb).trans e) f0 f1 f3 f4 f5
  obtain ⟨o,eo,oc,od⟩:=id st'
  refine znk (s:={ s3 with heap:=h',toks:=s3.toks + 1 }) eo oc od (by decide) ?_
  have I5:=I4.pinned (fp:=[it]) (fun b hb=>by cases List.mem_singleton.mp hb; exact ⟨f0,f1,f2,f3,f4,f5⟩) (fun b hb=>by cases List.mem_singleton.mp hb; exact ⟨o,eo,fun v z=>by rw [od] at z; cases z⟩);refine wpAny_passesOwn hp (wpAny_assign_Name (zvf I5 nd hj ly (v:=.str ⟨#[ch]⟩) ⟨_,rfl⟩ fun s6 I6 t6 ⟨m,mn,my⟩=>?_));refine wpAny_passesOwn hp (wpAny_execs_cons (wpAny_Assign_Name (z5d I6 hi lx ly (z:=(L.take k).foldl zcx z) ?_ mn my (Nat.ne_of_gt tk3) (by rw [t6]; exact Nat.lt_succ_of_lt (Nat.lt_succ_self _)) (szk k (List.getElem?_eq_some_iff.mp e).1) (fun t' tk' ht=>?_) dx dy hbase hfew hline) hsw))
  ·rw [List.getElem?_set_ne (Ne.symm hij)]; exact hAt k hk
  ·refine zvf (I6.tok tk') nd hi lx (v:=.str (zcx ((L.take k).foldl zcx z) ch)) ⟨_,rfl⟩ fun s7 I7 t7 _=>?_;refine wpAny_execs_nil ?_;refine ⟨L.length - (k + 1),by have:=(List.getElem?_eq_some_iff.mp e).1; omega,k + 1,(List.getElem?_eq_some_iff.mp e).1,rfl,?_,?_,?_⟩
   ·rw [<- hNx k ch e]; exact I7.unpinned
   ·exact ⟨o,(I7.pin (it,o) (List.mem_append_right _ (List.mem_append_right _ (zn1 (List.mem_singleton.mpr rfl) eo)))).1,oc,od⟩
   ·rw [t7]; exact Nat.le_add_left _ _
end
noncomputable def znt (i j:Nat) (gx:Str) (f:List Sl->Option D) (ρ:List Sl) : Option Fl:=(f ρ).bind fun d=>match d,gx.cps.toList.getLast? with
 | .str z,some ch=>if zoi z gx.cps.toList=true then some (.nx ((ρ.set i (.im (.str (gx.cps.toList.foldl zcx z)))).set j (.im (.str ⟨#[ch]⟩)))) else none
 | _,_=>none
section
variable {c:Str->Addr} {X:Cx} {i j:Nat} {x y g:Str} {gx:Str} {e:Expr} {p0 pq py pg px p1 p2 p3 p4 p5 p6 p7 p8 p9 p10 pf:Pos} {k1 k2:Nat} {zbp:List Stmt} {F:List Sl->Option Fl} {f:List Sl->Option D}
theorem z4y (i j:Nat) (hp:PassesOwn (model X.prog X.w) X.A X.env X.xe) (hc:X.calm=true) (nd:X.N.Nodup) (hg:Gl X g) (hm:∃ t0,X.mg g=some (.str gx t0)) (he:DE c X e f) (hr:DSs c X zbp F) (hi:X.N[i]?=some x:=by rfl) (hj:X.N[j]?=some y:=by rfl) (hij:i≠j:=by decide) (lx:X.env.scope.names.lookup x=some .local:=by rfl) (ly:X.env.scope.names.lookup y=some .local:=by rfl)
  (as:gx.cps.all (· < 128)=true:=by decide +kernel)
  (dx:(x==("__debug__" : Str))=false:=by decide) (dy:(y==("__debug__" : Str))=false:=by decide) (dg:(g==("__debug__" : Str))=false:=by decide) (hw:swapsWith e (some (.Name x pq)) p0.line X.env=pure false:=by rfl)
  (hbase:attributeBase (.Name x p1) "replace" X.env (eval (.Name x p1) X.env)=eval (.Name x p1) X.env:=by rfl)
  (hfew:((backTo p9 (starEach [.Name y p3,.JoinedStr [.Constant (.str " ") k1 p4,.FormattedValue (.Name y p5) (-1) none p6,.Constant (.str " ") k2 p7] p8] X.env)).all (fun x=>!x.1) && (backToKw p9 (keywordEach [] X.env)).all (fun x=>x.1.isSome)
   && decide (([.Name y p3,.JoinedStr [.Constant (.str " ") k1 p4,.FormattedValue (.Name y p5) (-1) none p6,.Constant (.str " ") k2 p7] p8] : List Expr).length + ([] : List Keyword).length + (if ([] : List Keyword).isEmpty then 0 else 1) < 30))=true:=by rfl)
  (hline:(p2.endLine==p9.line)=true:=by rfl) (hsw:swapsWith (zo7 x y p1 p2 p3 p4 p5 p6 p7 p8 p9 k1 k2) (some (.Name x px)) p10.line X.env=pure false:=by rfl) (hs:∀ v,foldedSetIterable (.Name g pg) X.env v=pure v:=by intro _; rfl) :
  DSs c X (.Assign [.Name x pq] e p0::zxi x y g py pg px p1 p2 p3 p4 p5 p6 p7 p8 p9 p10 pf k1 k2::zbp) (zah (znt i j gx f) F):=by
 intro pins s σ H E I q_;obtain ⟨t0,hm⟩:=hm;obtain ⟨Hf0,H0,Hf,ρ,o,so,ef,k⟩:=q_;unfold zah znt at ef
 cases e1 : f ρ with
 | none=>rw [e1] at ef; cases ef
 | some d =>
  rw [e1,Option.bind_some] at ef
  cases d <;> first | (cases ef; done) | skip
  rename_i z
  cases e2 : gx.cps.toList.getLast? with
  | none=>rw [e2] at ef; cases ef
  | some ch =>
   rw [e2] at ef;dsimp only at ef;split at ef
   ·rename_i sz;refine wpAny_execs_cons (wpAny_Assign_Name (thn (he pins s σ H _ I ⟨Hf0,H0,Hf,ρ,_,so,e1,fun v Hf' H' x r=>(⟨Hf',r,x.f,so.step x⟩ : ∃ Hf',Rep (Gx c X) Hf' (.str z) v/\zas Hf Hf'/\zal (Gx c X) Hf0 H0 Hf' H' σ ρ)⟩) fun u s1 ⟨v,H1,I1,r1,Hf1,rz,sm,so1⟩=>?_) hw);cases (show v=V.str z from rz);refine zvf I1 nd hi lx r1 fun s2 I2 t2 _=>?_;have hlen : i < σ.length:=by rw [I.len]; exact (List.getElem?_eq_some_iff.mp hi).1
    have hlj : j < (σ.set i (some (V.str z))).length:=by rw [List.length_set,I.len]; exact (List.getElem?_eq_some_iff.mp hj).1
    refine wpAny_execs_cons (thn (z5e (D:={ nx:=fun σ' H'=>tDS (Gx c X) F E σ' H',rt:=fun _ _=>False,bk:=fun _ _=>False,ct:=fun _ _=>False }) hp hc nd hi hj hij lx ly hg hm as I2 (by rw [t2]; exact Nat.le_add_left _ _) (List.getElem?_set_self hlen) sz hlj ch e2 ?_ dx dy dg hbase hfew hline hsw hs) fun fl s3 h3=>?_)
    ·refine ⟨Hf0,H0,Hf1,_,o,?_,ef,k.up sm⟩;rw [List.set_set];exact (so1.setIm (d:=.str (gx.cps.toList.foldl zcx z)) rfl).setIm (d:=.str ⟨#[ch]⟩) rfl
    ·cases fl with
     | next=>obtain ⟨σ3,H3,I3,q3⟩:=h3; exact hr pins s3 σ3 H3 E I3 q3
     | ret v=>obtain ⟨_,_,_,_,_,z⟩:=h3; exact z.elim
     | brk=>obtain ⟨_,_,_,z⟩:=h3; exact z.elim
     | cont=>obtain ⟨_,_,_,z⟩:=h3; exact z.elim
   ·cases ef
end
noncomputable def zrh (x y:Str) : List Str:=PySem.Builtin.Str.partsBetween x (PySem.Builtin.Str.occurrences x y 0 x.length (x.length + 1)) y.length
noncomputable def zna (x y:D) : Option D:=match x,y with
 | .str a,.str b=>if b.length≠0/\a.length<=16777216/\(zrh a b).length<=16777216 then some (.lst ((Txt.split a b).map .str)) else none
 | _,_=>none
noncomputable def z0v : V->List V->Hp->VK->Prop:=fun x vs H Q=>∃ a b,x=.str a/\vs=[.str b]/\b.length≠0/\a.length<=sizeLine/\(zrh a b).length<=sizeLine/\∀ p,H p=none->Q (.ref p) (upd H p (.lst ((Txt.split a b).map V.str)))
theorem z2h : ∀ (l:List (Str×Tok)),zaz ((l.map (·.1)).map V.str) (strValues l)
 | []=>.nil
 | (x,t)::l=>.cons ⟨t,rfl⟩ (z2h l)
theorem zvh {G:Gc} {H:Hp} : ∀ (l:List Str),zao G H (l.map D.str) (l.map V.str)
 | []=>rfl
 | _::l=>.cons rfl (zvh l)
section
variable {c:Str->Addr} {X:Cx}
open PySem.Builtin PySem.Builtin.Str in
theorem z7y : MtR X "str.split" z0v:=by
 rintro pins s σ H x xs v us Q I rx rv ⟨a,b,rfl,rfl,hb,ha,hp,q⟩;obtain ⟨t,rfl⟩:=rx;obtain ⟨u,rfl,t',rfl⟩:=rv.one;have hb' : (b.length==0)=false:=by simpa using hb
 have fin : ∀ (l:List (Str×Tok)) (tk:Nat),l.map (·.1)=Txt.split a b->(strValues l).length<=sizeLine->EP X pins σ Q (.ref s.heap.objs.size) { s with heap:=s.heap.push { cls:=.type "list",data:=.seq (strValues l).toArray },toks:=tk }:=fun l tk e hl=>by
  refine ⟨.ref _,_,I.lnew (t':=tk) (z2h l) ?_,rfl,?_⟩
  ·rw [List.length_map,List.length_map]
   simpa [strValues] using hl
  ·rw [e]; exact q _ I.fresh
 cases h1 : (decide (a.length < b.length) || decide (strKind a < strKind b))
 ·cases hf : (occurrences a b 0 a.length (a.length + 1)).isEmpty
  ·refine call_meets F.slot_str_split (typeIs_str _ _ _) F.entry_str_split (F.args_str_split_2 _ _) (meets_str_split_sep a b t t' h1 hb' hf ha hp) ?_;rw [strsFrom_eq];refine fin (numbered s.toks _) _ ((numbered_texts _ _).trans ((if_neg (ne_true_of_eq_false h1)).trans (if_neg (ne_true_of_eq_false hf))).symm) ?_;have:=congrArg List.length (numbered_texts s.toks (partsBetween a (occurrences a b 0 a.length (a.length + 1)) b.length));rw [List.length_map] at this;unfold strValues;rw [List.length_map,this];exact hp
  ·exact call_meets F.slot_str_split (typeIs_str _ _ _) F.entry_str_split (F.args_str_split_2 _ _) (meets_str_split_not_found a b t t' h1 hb' hf)
    (fin [(a,t)] s.toks ((if_neg (ne_true_of_eq_false h1)).trans (if_pos hf)).symm (by show 1<=sizeLine; decide))
 ·exact call_meets F.slot_str_split (typeIs_str _ _ _) F.entry_str_split (F.args_str_split_2 _ _) (meets_str_split_cannot_occur a b t t' h1)
   (fin [(a,t)] s.toks (if_pos h1).symm (by show 1<=sizeLine; decide))
theorem z4l {e:Expr} {f g:List Sl->Option D} (h:PE X e (tBM X.K "str" z0v (tD (Gx c X) f) (zil (tD (Gx c X) g) zhw))) : DE c X e (m2 zna f g):=PE.imp h fun σ H Q q_=>by
 obtain ⟨Hf0,H0,Hf,ρ,d,st,ef,k⟩:=q_;obtain ⟨x,y,e1,e2,e3⟩:=zp8 ef;unfold zna at e3;split at e3
 ·rename_i a b;split at e3
  ·rename_i hc;cases e3;refine ⟨Hf0,H0,Hf,ρ,_,st,e1,fun v Hf1 H1 x1 r1=>?_⟩;cases (show v=V.str a from r1);exact ⟨rfl,Hf0,H0,Hf1,ρ,_,st.step x1,e2,fun u Hf2 H2 x2 r2=>⟨a,b,rfl,by rw [show u=V.str b from r2],hc.1,by rw [sizeLine_eq]; exact hc.2.1,by rw [sizeLine_eq]; exact hc.2.2,fun p hp=>k _ (upd Hf2 p (.lst _)) _ ((x1.trans x2).trans (Ext.new x2.s hp)) ⟨p,_,rfl,zcd,zvh _⟩⟩⟩
  ·cases e3
 ·cases e3
noncomputable def zm7 (x y:D) : Option D:=match x,y with
 | .str a,.int n=>if a.length=1/\0<=n/\n<=1000 then some (.str ⟨(List.replicate n.toNat (a.cps.getD 0 0)).toArray⟩) else none
 | _,_=>none
theorem z04 (z:Str) (n:Nat) (h:z.length=1) : (List.replicate n z.cps).foldl (·++·) #[]=(List.replicate n (z.cps.getD 0 0)).toArray:=by
 have hz : z.cps=#[z.cps.getD 0 0]:=by
  obtain ⟨⟨l⟩⟩:=z
  match l,h with
  | [c],_=>rfl
 induction n with
 | zero=>rfl
 | succ n ih =>
  rw [List.replicate_succ',List.foldl_append,ih,List.replicate_succ'];show _++z.cps=_;generalize z.cps.getD 0 0=ch at hz;rw [hz];apply Array.toList_inj.mp;simp
theorem zzf : OpD c X (binaryOp .Mult) zm7:=by
 rintro pins s σ H vx vy v u Q I rx ry ⟨Hf,x,y,d,s0,r1,r2,e,k⟩;unfold zm7 at e;split at e
 ·rename_i a n;split at e
  ·rename_i hc;cases e;cases (show vx=V.str a from r1);cases (show vy=V.int n from r2);obtain ⟨t,rfl⟩:=rx;obtain ⟨t',rfl⟩:=ry
   have fin : ∀ (tk:Nat) (t2:Tok),EP X pins σ Q (.str ⟨(List.replicate n.toNat (a.cps.getD 0 0)).toArray⟩ t2) { s with toks:=tk }:=fun tk t2=>⟨.str _,H,I.tok tk,⟨t2,rfl⟩,k _ Hf H (Ext.refl s0) rfl⟩
   refine P.mul_str ?_ ?_ ?_ ?_
   ·rw [decide_eq_false (by omega),decide_eq_false (by omega)]; rfl
   ·intro h1 _;rw [hc.1];have : (2 ^ 63 - 1 : Int) / n ≥ 1:=Int.le_ediv_of_mul_le (by omega) (by omega);omega
   ·intro _ _;rw [hc.1];unfold PySem.Builtin.Str.tooLong sizeLine;exact decide_eq_false (show ¬ _ by omega)
   ·by_cases h1 : n < 1
    ·rw [if_pos h1];have e0 : n.toNat=0:=by omega
     refine ⟨by decide,?_⟩;rw [e0] at fin;exact fin _ _
    ·rw [if_neg h1]
     by_cases h2 : n=1
     ·rw [if_pos (by simp [h2])]
      have e1 : (⟨(List.replicate n.toNat (a.cps.getD 0 0)).toArray⟩ : Str)=a:=by
       have:=z04 a n.toNat hc.1;rw [<- this,h2];show (⟨#[]++a.cps⟩ : Str)=a;rw [Array.empty_append]
      rw [e1] at fin;exact fin s.toks t
     ·rw [if_neg (by simp [h2,hc.1]),z04 a _ hc.1];refine ⟨?_,fin _ _⟩;show (List.replicate n.toNat _).toArray.size<=_;rw [List.size_toArray,List.length_replicate,sizeLine_eq];omega
  ·cases e
 ·cases e
theorem zpe {x g:Str} {pos:Pos} (hg:Gl X x) (hm:∃ t,X.mg x=some (.str g t)) (hd:(x==("__debug__" : Str))=false:=by decide) : DE c X (.Name x pos) (fun _=>some (.str g)):=by
 obtain ⟨t,hm⟩:=hm
 exact PE.imp (zz7 hg hm (v:=.str g) ⟨t,rfl⟩ hd) fun σ H Q ⟨Hf0,H0,Hf,ρ,d,st,ef,k⟩=>by
  cases ef;exact k _ Hf H (Ext.refl st.sub) rfl
end
noncomputable def Its (x:Str) : It:=⟨fun i _=>i < x.length,fun i H v H'=>H'=H/\∃ ch,x.cps[i]?=some ch/\v=.str ⟨#[ch]⟩,fun i _=>x.length<=i⟩
theorem ydz {P:Program} {w:World} {K:PySem.W.Frag} {tg:Expr} (it:Addr) (x:Str) (t:Tok) : ziu P w K tg (Its x) [it] it (fun i h=>h.IsStrIter it "str_ascii_iterator" x t i) where
 mem:=List.mem_singleton.mpr rfl
 obj:=fun i h ⟨o,e,oc,od⟩ b hb=>by
  cases List.mem_singleton.mp hb;exact ⟨o,e,fun v z=>by rw [od] at z; cases z⟩
 keep:=fun i h h' ⟨o,e,r⟩ k=>⟨o,k it (List.mem_singleton.mpr rfl) o e,r⟩
 item:=by
  intro X eP ew eK cm i pins s σ H E I hf st hg;subst eP ew eK;obtain ⟨f0,f1,f2,f3,f4,f5⟩:=hf it (List.mem_singleton.mpr rfl);have hx : x.cps[i]?=some x.cps[i]:=Array.getElem?_eq_getElem hg;refine wpAny_pyNext_ascii_item st hx fun h' st' sb=>?_
  have I1 : Inv X pins σ H { s with heap:=h',toks:=s.toks + 1 }:=I.turned (fun b o hb e=>(sb.2 b hb).trans e) f0 f1 f3 f4 f5
  obtain ⟨o,e,oc,od⟩:=id st'
  exact ⟨_,rfl,znk (s:={ s with heap:=h',toks:=s.toks + 1 }) e oc od (by decide) ⟨.str ⟨#[x.cps[i]]⟩,H,I1,⟨_,rfl⟩,⟨rfl,_,hx,rfl⟩,st',fun b hb=>(hf b hb).1⟩⟩
 done:=by
  intro X eP ew eK cm i pins s σ H E I hf st hg;subst eP ew eK;obtain ⟨f0,f1,f2,f3,f4,f5⟩:=hf it (List.mem_singleton.mpr rfl);exact wpAny_pyNext_ascii_end (I.ok.hd cm) st (Array.getElem?_eq_none hg) fun h' eb=>⟨rfl,I.turned (t':=s.toks) (fun b o hb e=>eb b o hb e) f0 f1 f3 f4 f5⟩
 self:=fun _ _ _ _ _ st h=>wpAny_pyIter_striter_ascii st h
noncomputable def zks (f:List Sl->Option D) (ρ:List Sl) : Option (List D):=(f ρ).bind fun d=>match d with
 | .str x=>if x.cps.all (· < 128)=true then some (x.cps.toList.map fun ch=>.str ⟨#[ch]⟩) else none
 | _=>none
theorem z6k {G:Gc} {Hf:Hp} {x:Str} : zis G Hf (Its x) (x.cps.toList.map fun ch=>D.str ⟨#[ch]⟩):=fun Hf' H' f s i=>by
 refine ⟨fun d ed=>?_,fun ei=>?_⟩
 ·rw [List.getElem?_map] at ed
  cases e : x.cps.toList[i]? with
  | none=>rw [e] at ed; cases ed
  | some ch =>
   rw [e] at ed;cases ed;have hi : i < x.cps.size:=by simpa using (List.getElem?_eq_some_iff.mp e).1
   refine ⟨hi,fun v H2 ⟨e2,c2,h2,hv⟩=>?_⟩;subst e2 hv;rw [<- Array.getElem?_toList,e] at h2;cases h2;exact ⟨Hf',Ext.refl s,rfl⟩
 ·rw [List.length_map,Array.length_toList] at ei;exact Nat.le_of_eq ei.symm
section
variable {c:Str->Addr} {X:Cx} {tg e a b:Expr} {pos p:Pos}
theorem z95 {l:Expr} {tl:TE} (hl:PE X l tl) : PI X tg l (fun σ H R=>tl σ H fun x H1=>∃ z,x=.str z/\z.cps.all (· < 128)=true/\R (Its z) H1):=by
 intro pins s σ H R I h;refine thn (hl pins s σ H _ I h) fun v s1 ⟨x,H1,I1,r1,z,ez,as,q⟩=>?_;subst ez;obtain ⟨t,rfl⟩:=r1;refine wpAny_pyIter_ascii as ?_;refine ⟨s1.heap.objs.size,[s1.heap.objs.size],_,_,H1,rfl,I1.kept (t':=s1.toks) fun b o e=>Heap.get?_push_of_some _ e,ydz _ z t,⟨_,Heap.get?_push_size _ rfl,rfl,rfl⟩,fun b hb=>?_,q⟩;cases List.mem_singleton.mp hb;exact I1.fpOk Nat.le.refl (I1.hok.fresh Nat.le.refl)
theorem z4m {f:List Sl->Option D} (h:DE c X e f) : DI c X tg e (zks f):=PI.imp (z95 h) fun σ H R q_=>by
 obtain ⟨Hf0,H0,Hf,ρ,ds,st,ef,k⟩:=q_;unfold zks at ef
 cases e1 : f ρ with
 | none=>rw [e1] at ef; cases ef
 | some d =>
  rw [e1,Option.bind_some] at ef
  cases d <;> first | (cases ef; done) | skip
  rename_i x;replace ef : (if x.cps.all (· < 128)=true then some (x.cps.toList.map fun ch=>D.str ⟨#[ch]⟩) else none)=some ds:=ef;split at ef
  ·rename_i as;cases ef;exact ⟨Hf0,H0,Hf,ρ,_,st,e1,fun v Hf1 H1 x1 r1=>⟨x,r1,as,k _ Hf1 H1 x1 z6k⟩⟩
  ·cases ef
noncomputable def inS (y x:Str) : Bool:=!(PySem.Builtin.Str.occurrences x y 0 x.length 1).isEmpty
noncomputable def zj5 (y x:D) : Option D:=match y,x with
 | .str y,.str x=>some (.bl (inS y x))
 | _,_=>none
theorem ycg : ∀ x y d,zj5 x y=some d->d.scalar=true:=fun x y d e=>by
 unfold zj5 at e;split at e
 ·cases e; rfl
 ·cases e
theorem z8a : OpD c X (compareOp .In) zj5:=by
 rintro pins s σ H vx vy v u Q I rx ry ⟨Hf,x,y,d,s0,r1,r2,e,k⟩;unfold zj5 at e;split at e
 ·rename_i y x;cases e;cases (show vx=V.str y from r1);cases (show vy=V.str x from r2);obtain ⟨t,rfl⟩:=rx;obtain ⟨t',rfl⟩:=ry;exact PyProof.Rows.in_str ⟨.bl _,H,I,rfl,k _ Hf H (Ext.refl s0) rfl⟩
 ·cases e
noncomputable def ya8 : V->Option Int->Option Int->Hp->VK->Prop:=fun x lo hi H Q=>∃ z,x=.str z/\z.length<=sizeLine/\Q (.str (Txt.slice z lo hi)) H
theorem z17 : SlR X ya8:=by
 rintro pins s σ H x v vl vu lo hi sl Q I rx hs pl pu ⟨z,rfl,hz,q⟩;obtain ⟨t,rfl⟩:=rx;refine ⟨"str",_,F.slot_str_getitem.lookup,typeIs_str _ _ _,?_⟩
 have fin : ∀ (t':Tok) (k:Nat),EP X pins σ Q (.str (Txt.slice z lo hi) t') { s with toks:=k }:=fun t' k=>⟨.str _,H,I.tok k,⟨t',rfl⟩,q⟩
 obtain ⟨o,ho,hc,hd⟩:=hs
 cases pl with
 | none =>
  cases pu with
  | none=>exact wpAny_getItem_str_slice (l:=none) (u:=none) (st:=none) ⟨o,ho,hc,hd⟩ rfl (post_val_or_str ⟨Nat.le_trans (Txt.slice_le z _ _) hz,fin⟩)
  | int i ti=>exact wpAny_getItem_str_slice (l:=none) (u:=some (i,ti)) (st:=none) ⟨o,ho,hc,hd⟩ rfl (post_val_or_str ⟨Nat.le_trans (Txt.slice_le z _ _) hz,fin⟩)
 | int j tj =>
  cases pu with
  | none=>exact wpAny_getItem_str_slice (l:=some (j,tj)) (u:=none) (st:=none) ⟨o,ho,hc,hd⟩ rfl (post_val_or_str ⟨Nat.le_trans (Txt.slice_le z _ _) hz,fin⟩)
  | int i ti=>exact wpAny_getItem_str_slice (l:=some (j,tj)) (u:=some (i,ti)) (st:=none) ⟨o,ho,hc,hd⟩ rfl (post_val_or_str ⟨Nat.le_trans (Txt.slice_le z _ _) hz,fin⟩)
noncomputable def zh6 (d:D) (lo hi:Option Int) : Option D:=match d with
 | .str z=>if z.length<=16777216 then some (.str (Txt.slice z lo hi)) else none
 | _=>none
theorem zwm {d r:D} {lo hi:Option Int} (h:zh6 d lo hi=some r) : ∃ z,d=.str z/\z.length<=sizeLine/\r=.str (Txt.slice z lo hi):=by
 unfold zh6 at h;split at h
 ·split at h
  ·rename_i hz; cases h; exact ⟨_,rfl,by rw [sizeLine_eq]; exact hz,rfl⟩
  ·cases h
 ·cases h
noncomputable def zjg (f:List Sl->Option D) (l h:List Sl->Option (Option Int)) (ρ:List Sl) : Option D:=(f ρ).bind fun d=>(l ρ).bind fun lo=>(h ρ).bind fun hi=>zh6 d lo hi
theorem zst {f:List Sl->Option D} {l h:List Sl->Option (Option Int)} {lo hi:Option Expr} {p2:Pos} (ha:DE c X e f) (hl:DPt c X lo l) (hh:DPt c X hi h) : DE c X (.Subscript e (.Slice lo hi none p2) pos) (zjg f l h) :=
 PE.imp (zuo z17 ha hl hh) fun σ H Q q_=>by
  obtain ⟨Hf0,H0,Hf,ρ,r,st,ef,k⟩:=q_;unfold zjg at ef
  cases e1 : f ρ with
  | none=>rw [e1] at ef; cases ef
  | some d =>
   rw [e1,Option.bind_some] at ef
   cases e2 : l ρ with
   | none=>rw [e2] at ef; cases ef
   | some lo' =>
    rw [e2,Option.bind_some] at ef
    cases e3 : h ρ with
    | none=>rw [e3] at ef; cases ef
    | some hi' =>
     rw [e3,Option.bind_some] at ef;obtain ⟨z,rfl,hz,rfl⟩:=zwm ef;exact ⟨Hf0,H0,Hf,ρ,_,st,e1,fun v Hf1 H1 x1 r1=>⟨Hf0,H0,Hf1,ρ,lo',st.step x1,e2,fun Hf2 H2 x2=>⟨Hf0,H0,Hf2,ρ,hi',(st.step x1).step x2,e3,fun Hf3 H3 x3=>⟨z,r1,hz,k _ Hf3 H3 ((x1.trans x2).trans x3) rfl⟩⟩⟩⟩
noncomputable def z0w : V->List V->Hp->VK->Prop:=fun x vs H Q=>∃ a b,x=.str a/\vs=[.str b]/\Q (.bl (Txt.startswith a b)) H
theorem zy4 : MtR X "str.startswith" z0w:=by
 rintro pins s σ H x xs v us Q I rx rv ⟨a,b,rfl,rfl,q⟩;obtain ⟨t,rfl⟩:=rx;obtain ⟨u,rfl,t',rfl⟩:=rv.one;exact SC.startswith ⟨.bl _,H,I,rfl,q⟩
noncomputable def zj8 (x y:D) : Option D:=match x,y with
 | .str a,.str b=>some (.bl (Txt.startswith a b))
 | _,_=>none
theorem zwr {f g:List Sl->Option D} (h:PE X e (tBM X.K "str" z0w (tD (Gx c X) f) (zil (tD (Gx c X) g) zhw))) : DE c X e (m2 zj8 f g):=PE.imp h fun σ H Q q_=>by
 obtain ⟨Hf0,H0,Hf,ρ,d,st,ef,k⟩:=q_;obtain ⟨x,y,e1,e2,e3⟩:=zp8 ef;unfold zj8 at e3;split at e3
 ·rename_i a b;cases e3;refine ⟨Hf0,H0,Hf,ρ,_,st,e1,fun v Hf1 H1 x1 r1=>?_⟩;cases (show v=V.str a from r1);exact ⟨rfl,Hf0,H0,Hf1,ρ,_,st.step x1,e2,fun u Hf2 H2 x2 r2=>⟨a,b,rfl,by rw [show u=V.str b from r2],k _ Hf2 H2 (x1.trans x2) rfl⟩⟩
 ·cases e3
end
theorem z3v {X:Cx} : zg7 X (.type "int") (fun xs H Q=>∃ z n,xs=[.str z]/\PySem.intText? z=some n/\z.length<=640/\Q (.int n) H):=by
 rintro pins s σ H xs us Q I r ⟨z,n,rfl,hn,hl,q⟩;obtain ⟨_,rfl,t,rfl⟩:=zmv r;exact PySem.W.KIN.call_text hn hl ⟨.int n,H,I.tok _,⟨_,rfl⟩,q⟩
theorem z3q : bootBuiltins "int"=some (.type "int"):=by decide +kernel
theorem z3r : bootBuiltins "str"=some (.type "str"):=by decide +kernel
noncomputable def zm6 (x:D) : Option D:=match x with
 | .str z=>if z.length<=640 then (PySem.intText? z).map .int else none
 | _=>none
noncomputable def zf6 (x:D) : Option D:=match x with
 | .int i=>if i.natAbs.log2 < 1920 then some (.str (toString i)) else none
 | _=>none
noncomputable def zvs (K:PySem.W.Frag) (mg:Str->Option Value) (x:Str) (ts:List Str) : Prop:=∃ a o its n,mg x=some (.ref a)/\K.lookup a=some o/\o.cls=.type "tuple" /\ o.data=.seq its n/\its.size<=sizeLine/\zaz (ts.map V.str) its.toList
section
variable {c:Str->Addr} {X:Cx} {e:Expr} {p pos:Pos}
theorem z4j {f:List Sl->Option D} (hg:Gl X "int") (hm:X.mg "int"=none) (ha:DE c X e f) (hs:starEach [e] X.env=(false,eval e X.env)::starEach [] X.env:=by rfl) : DE c X (.Call (.Name "int" p) [e] [] pos) (m1 zm6 f):=PE.imp (zz4 z3v hg hm z3q (zct ha zde hs) (by decide) (by decide) hs rfl) fun σ H Q q_=>by
 obtain ⟨Hf0,H0,Hf,ρ,d,st,ef,k⟩:=q_;unfold m1 at ef
 cases e1 : f ρ with
 | none=>rw [e1] at ef; cases ef
 | some x =>
  rw [e1,Option.bind_some] at ef;unfold zm6 at ef;split at ef
  ·rename_i z;split at ef
   ·rename_i hz
    cases e2 : PySem.intText? z with
    | none=>rw [e2] at ef; cases ef
    | some n =>
     rw [e2] at ef;cases ef;refine ⟨Hf0,H0,Hf,ρ,_,st,e1,fun v Hf1 H1 x1 r1=>?_⟩;cases (show v=V.str z from r1);exact ⟨z,n,rfl,e2,hz,k _ Hf1 H1 x1 rfl⟩
   ·cases ef
  ·cases ef
theorem zpg {f:List Sl->Option D} (hg:Gl X "str") (hm:X.mg "str"=none) (ha:DE c X e f) (hs:starEach [e] X.env=(false,eval e X.env)::starEach [] X.env:=by rfl) : DE c X (.Call (.Name "str" p) [e] [] pos) (m1 zf6 f):=PE.imp (zz4 z3y hg hm z3r (zct ha zde hs) (by decide) (by decide) hs rfl) fun σ H Q q_=>by
 obtain ⟨Hf0,H0,Hf,ρ,d,st,ef,k⟩:=q_;unfold m1 at ef
 cases e1 : f ρ with
 | none=>rw [e1] at ef; cases ef
 | some x =>
  rw [e1,Option.bind_some] at ef;unfold zf6 at ef;split at ef
  ·rename_i i;split at ef
   ·rename_i hz;cases ef;refine ⟨Hf0,H0,Hf,ρ,_,st,e1,fun v Hf1 H1 x1 r1=>?_⟩;cases (show v=V.int i from r1);exact ⟨i,rfl,hz,k _ Hf1 H1 x1 rfl⟩
   ·cases ef
  ·cases ef
theorem zsq {k:Nat} {f:Addr} {fd:FuncData} {x:Str} {m:List D->Option D} (F:zav X.prog X.w X.K X.mg X.base CX0 k f fd [] (spD (Gx c X) ([] : List Str).length m)) (hr:zbz k X.A) (hg:Gl X x) (hm:X.mg x=some (.ref f)) (hk:PySem.W.keepIn X.K (.ref f)=true) (hb:zay X.K fd [] []) (hdb:(x==("__debug__" : Str))=false:=by decide) :
  DE c X (.Call (.Name x p) [] [] pos) (za9 m (fun _=>some [])):=PE.imp (z9p F hr hg hm hk hb .nil zfy hdb) fun σ H Q q_=>by
 obtain ⟨Hf0,H0,Hf,ρ,d,st,ef,kq⟩:=q_;obtain ⟨ds,e1,e2⟩:=ztw ef;cases e1;exact ⟨Hf,[],d,st.sub,rfl,rfl,e2,fun v Hf2 H2 x2 r2=>kq v Hf2 H2 x2 r2⟩
theorem z4i {x:Str} {ts:List Str} (hg:Gl X x) (hm:zvs X.K X.mg x ts) (hd:(x==("__debug__" : Str))=false:=by decide) : DE c X (.Name x pos) (fun _=>some (.kt (ts.map D.str))):=by
 obtain ⟨a,o,its,n,hm,lk,oc,od,hz,vs⟩:=hm
 exact PE.imp (zz7 hg hm (v:=.ref a) rfl hd) fun σ H Q ⟨Hf0,H0,Hf,ρ,d,st,ef,k⟩=>by
  cases ef;exact k _ Hf H (Ext.refl st.sub) ⟨a,ts.map V.str,rfl,.inr ⟨o,its,n,lk,oc,od,hz,vs⟩,zvh ts⟩
end
noncomputable def zcm (G:Gc) (cn:Str) (ns:List Str) (n:Nat) (m:Addr->List D->List D->Option (List D×D)) : Sp:=fun vs H Q _=>∃ Hf ds xs ys d l dx us vs1,vs=.ref l::vs1/\zas Hf H/\Hf l=none/\H l=some (.ins (G.cl cn) dx (ns.zip us))/\ns.length=us.length/\zao G Hf ds vs1/\zao G Hf xs us/\1 + ds.length=n/\m l ds xs=some (ys,d) /\
 ∀ v Hf' H' dx' us',Ext Hf (zds H l) Hf' H'->Hf' l=none->H' l=some (.ins (G.cl cn) dx' (ns.zip us'))->ns.length=us'.length->zao G Hf' ys us'->Rep G Hf' d v->Q v H'
noncomputable def zo2 (N:Nat) (l:Addr) (cn:Str) (ns:List Str) (ds xs:List D) : List Sl:=(zf3 N (.non::ds)).set 0 (.pino l cn ns xs)
open Classical in
noncomputable def zfz (l:Addr) (cn:Str) (ns:List Str) (ρ:List Sl) : Option (List D):=match (ρ[0]? : Option Sl) with
 | some (Sl.pino l' c' n' ys)=>if l'=l/\c'=cn/\n'=ns then some ys else none
 | _=>none
theorem z0j {l:Addr} {cn:Str} {ns:List Str} {ρ:List Sl} {ys:List D} (h:zfz l cn ns ρ=some ys) : ρ[0]?=some (.pino l cn ns ys):=by
 unfold zfz at h;split at h
 ·rename_i e;split at h
  ·rename_i q;obtain ⟨rfl,rfl,rfl⟩:=q;cases h;exact e
  ·cases h
 ·cases h
theorem z0i {l:Addr} {cn:Str} {ns:List Str} {ρ:List Sl} {ys:List D} (h:ρ[0]?=some (.pino l cn ns ys)) : zfz l cn ns ρ=some ys:=by
 unfold zfz;rw [h];exact if_pos ⟨rfl,rfl,rfl⟩
noncomputable def zcq (N:Nat) (cn:Str) (ns:List Str) (F:List Sl->Option Fl) (l:Addr) (ds xs:List D) : Option (List D×D):=(F (zo2 N l cn ns ds xs)).bind fun o=>match o with
 | .nx ρ=>(zfz l cn ns ρ).map fun ys=>(ys,.non)
 | .rtS d ρ=>(zfz l cn ns ρ).map fun ys=>(ys,d)
 | _=>none
theorem zal.startMI {G:Gc} {Hf H:Hp} {N:List Str} {ds xs:List D} {cn:Str} {ns:List Str} {vs1 us:List V} {l dx:Addr} (s0:zas Hf H) (hf:Hf l=none) (hl:H l=some (.ins (G.cl cn) dx (ns.zip us))) (hz:ns.length=us.length) (r:zao G Hf ds vs1) (rx:zao G Hf xs us) :
  zal G Hf (zds H l) Hf H (L2.start N (.ref l::vs1)) (zo2 N.length l cn ns ds xs):=by
 have st0:=zal.start (N:=N) (zok s0 hf) (.cons (d:=.non) (v:=.non) rfl r);exact st0.setOwn (i:=0) (l:=l) (s:=.pino l cn ns xs) rfl (Ext.grow (zok s0 hf) zsz) znc hf ⟨rfl,dx,us,hl,hz,rx⟩
section
variable {P:Program} {w:World} {K:PySem.W.Frag} {mg:Str->Option Value} {base:Heap} {c:Str->Addr}
theorem zc6 {x qual cn:Str} {ns:List Str} {st:Stmt} {f:Addr} {fd:FuncData} {N ps:List Str} {k:Nat} {F:List Sl->Option Fl} (Fn:Fun K x qual st f fd) (S:za4 N ps (zai st))
  (h:∀ (cdv:Value) (A:Around) (outer:List Env) (s:Shared) (H:Hp) (E:XK),zbz k (A.deeper (envOfC qual (zai st) s.heap.objs.size f cdv))->DSs c (zgs CX0 P w K mg base N qual (zai st) f cdv A outer s H E).nox (za2 st) F) :
  zav P w K mg base CX0 (k + 1) f fd ps (zcm ⟨K,c⟩ cn ns ps.length (zcq N.length cn ns F)):=by
 refine Fn.ok S (fun vs H Q E ⟨Hf,ds,xs,ys,d,l,dx,us,vs1,ev,s0,hf,hu,hz,r,rx,hn,_⟩=>by rw [ev,List.length_cons,<- r.length]; omega) fun cdv A outer s H vs Q E hr ⟨Hf,ds,xs,ys,d,l,dx,us,vs1,ev,s0,hf,hu,hz,r,rx,hn,e,kq⟩=>⟨_,h cdv A outer s H E hr,?_⟩;subst ev;unfold zcq at e
 cases eF : F (zo2 N.length l cn ns ds xs) with
 | none=>rw [eF] at e; cases e
 | some o =>
  rw [eF,Option.bind_some] at e;refine ⟨Hf,zds H l,Hf,_,o,zal.startMI s0 hf hu hz r rx,eF,?_⟩
  cases o with
  | nx ρ =>
   replace e : (zfz l cn ns ρ).map (fun ys=>(ys,D.non))=some (ys,d):=e
   cases ep : zfz l cn ns ρ with
   | none=>rw [ep] at e; cases e
   | some zs =>
    rw [ep] at e;cases e;intro σ' Hf' H' _ so;obtain ⟨l',e1,h0,hf',e2,dx',us',hu',hz',rx'⟩:=so.ownAt (s:=.pino l cn ns ys) rfl (z0j ep);subst e2
    exact kq .non Hf' H' dx' us' so.ext hf' hu' hz' rx' rfl
  | rtS d' ρ =>
   replace e : (zfz l cn ns ρ).map (fun ys=>(ys,d'))=some (ys,d):=e
   cases ep : zfz l cn ns ρ with
   | none=>rw [ep] at e; cases e
   | some zs =>
    rw [ep] at e;cases e;intro v σ' Hf' H' so r;obtain ⟨l',e1,h0,hf',e2,dx',us',hu',hz',rx'⟩:=so.ownAt (s:=.pino l cn ns ys) rfl (z0j ep);subst e2
    exact kq v Hf' H' dx' us' so.ext hf' hu' hz' rx' r
  | _=>cases e
end
noncomputable def zau (i:Nat) (cn fl:Str) (ns:List Str) (m:Addr->List D->List D->Option (List D×D)) (f:Xa) : Xe:=fun ρ=>match ρ[i]? with
 | some (.pino _ c0 n0 _)=>if c0=cn/\n0=ns/\ns.contains fl=false then (f ρ).bind fun p=>match p.2[i]? with
  | some (.pino l c' n' xs)=>if c'=cn/\n'=ns then (m l p.1 xs).map fun q=>(q.2,p.2.set i (.pino l cn ns q.1)) else none
  | _=>none else none
 | _=>none
open Classical in
noncomputable def zje (i:Nat) (cn fl:Str) (ns:List Str) (m:Addr->List D->List D->Option (List D×D)) (f:Xa) : Xe:=fun ρ=>match ρ[i]? with
 | some (.obj c0 n0 _)=>if c0=cn/\n0=ns/\ns.contains fl=false then (f ρ).bind fun p=>match p.2[i]? with
  | some (.obj c' n' xs)=>if c'=cn/\n'=ns then (if h:∃ q,∀ l,m l p.1 xs=some q then some (h.choose.2,p.2.set i (.obj cn ns h.choose.1)) else none) else none
  | _=>none else none
 | _=>none
section
variable {c:Str->Addr} {X:Cx} {k:Nat} {f:Addr} {fd:FuncData} {ps:List Str} {fl cn:Str} {ns:List Str} {p pos apos:Pos} {e o:Expr} {es:List Expr} {fa:Xa} {i:Nat} {m:Addr->List D->List D->Option (List D×D)}
theorem zy3 {σ:St} {H:Hp} {Q:VK} {t:TA} (ht:∀ σ H Q,zvi (Gx c X) fa σ H Q->t σ H Q) (hn:∀ ρ ds ρ',fa ρ=some (ds,ρ')->1 + ds.length=ps.length) (q_:tDX (Gx c X) (zau i cn fl ns m fa) σ H Q) : zr3 (c cn) fl (zcm (Gx c X) cn ns ps.length m) [] E0 (zc8 i) t σ H Q:=by
 obtain ⟨Hf0,H0,Hf,ρ,d,ρ',st,ef,kq⟩:=q_;unfold zau at ef;split at ef
 ·rename_i l0 c0 n0 xs0 eo0;split at ef
  ·rename_i hc0;obtain ⟨rfl,rfl,hno⟩:=hc0
   cases e1 : fa ρ with
   | none=>rw [e1] at ef; cases ef
   | some pp =>
    obtain ⟨ds,ρ1⟩:=pp;rw [e1,Option.bind_some] at ef;dsimp only at ef;split at ef
    ·rename_i l c' n' xs eo;split at ef
     ·rename_i hcc;obtain ⟨rfl,rfl⟩:=hcc
      cases e2 : m l ds xs with
      | none=>rw [e2] at ef; cases ef
      | some q =>
       rw [e2] at ef;cases ef;obtain ⟨l1,el,_,_,_,dx,us,hu,_,_⟩:=st.ownAt (s:=.pino l0 c' n' xs0) rfl eo0;refine ⟨_,el,l1,dx,n'.zip us,rfl,hu,ztt hno,ht _ _ _ ⟨Hf0,H0,Hf,ρ,ds,ρ1,st,e1,fun vs Hf' H' f1 st1 r=>?_⟩⟩;dsimp only;rw [List.append_nil];obtain ⟨l2,el2,h02,hf2,eq2,dx2,us2,hu2,hz2,rx2⟩:=st1.ownAt (s:=.pino l c' n' xs) rfl eo;subst eq2;rw [el] at el2;cases el2;exact ⟨Hf',ds,xs,q.1,q.2,l1,dx2,us2,vs,rfl,st1.sub,hf2,hu2,hz2,r,rx2,hn _ _ _ e1,e2,fun v Hf3 H3 dx3 us3 x3 hf3 hu3 hz3 rx3 r3=>kq v Hf3 H3 (f1.trans x3.f) (st1.back (s:=.pino l1 c' n' xs) (s':=.pino l1 c' n' q.1) rfl rfl eo el x3 hf3 ⟨rfl,dx3,us3,hu3,hz3,rx3⟩) r3⟩
     ·cases ef
    ·cases ef
  ·cases ef
 ·cases ef
theorem z7w {σ:St} {H:Hp} {Q:VK} {t:TA} (ht:∀ σ H Q,zvi (Gx c X) fa σ H Q->t σ H Q) (hn:∀ ρ ds ρ',fa ρ=some (ds,ρ')->1 + ds.length=ps.length) (q_:tDX (Gx c X) (zje i cn fl ns m fa) σ H Q) : zr3 (c cn) fl (zcm (Gx c X) cn ns ps.length m) [] E0 (zc8 i) t σ H Q:=by
 obtain ⟨Hf0,H0,Hf,ρ,d,ρ',st,ef,kq⟩:=q_;unfold zje at ef;split at ef
 ·rename_i c0 n0 xs0 eo0;split at ef
  ·rename_i hc0;obtain ⟨rfl,rfl,hno⟩:=hc0
   cases e1 : fa ρ with
   | none=>rw [e1] at ef; cases ef
   | some pp =>
    obtain ⟨ds,ρ1⟩:=pp;rw [e1,Option.bind_some] at ef;dsimp only at ef;split at ef
    ·rename_i c' n' xs eo;split at ef
     ·rename_i hcc;obtain ⟨rfl,rfl⟩:=hcc;split at ef
      ·rename_i hq;have e2:=hq.choose_spec;generalize hq.choose=q at ef e2;cases ef;obtain ⟨l1,el,_,_,dx,us,hu,_,_⟩:=st.ownAt (s:=.obj c' n' xs0) rfl eo0;refine ⟨_,el,l1,dx,n'.zip us,rfl,hu,ztt hno,ht _ _ _ ⟨Hf0,H0,Hf,ρ,ds,ρ1,st,e1,fun vs Hf' H' f1 st1 r=>?_⟩⟩;dsimp only;rw [List.append_nil];obtain ⟨l2,el2,h02,hf2,dx2,us2,hu2,hz2,rx2⟩:=st1.ownAt (s:=.obj c' n' xs) rfl eo;rw [el] at el2;cases el2;exact ⟨Hf',ds,xs,q.1,q.2,l1,dx2,us2,vs,rfl,st1.sub,hf2,hu2,hz2,r,rx2,hn _ _ _ e1,e2 l1,fun v Hf3 H3 dx3 us3 x3 hf3 hu3 hz3 rx3 r3=>kq v Hf3 H3 (f1.trans x3.f) (st1.back (s:=.obj c' n' xs) (s':=.obj c' n' q.1) rfl rfl eo el x3 hf3 ⟨dx3,us3,hu3,hz3,rx3⟩) r3⟩
      ·cases ef
     ·cases ef
    ·cases ef
  ·cases ef
 ·cases ef
theorem zdi {pl:Sem Bool} (ho:PE X o (zc8 i)) (hc:Cls X.K (c cn)) (hm:zbe X.K (c cn) fl f) (F:zav X.prog X.w X.K X.mg X.base CX0 k f fd ps (zcm (Gx c X) cn ns ps.length m)) (hr:zbz k X.A) (hb:zay X.K fd ps []) (ha:DAX c X (e::es) fa)
  (hl:(e::es).length + 1=ps.length:=by rfl) (hst:starEach (e::es) X.env=(false,eval e X.env)::starEach es X.env:=by rfl) (hpl:(backTo pos (starEach es X.env)).any (·.1)=false:=by rfl)
  (ht:eval (.Call (.Attribute o fl apos) (e::es) [] pos) X.env=(do
   let ov <- eval o X.env
   standAt apos.atName
   let (f,first) <- holding [ov] (getMethod ov fl pl)
   callWith pos f first (backTo pos (starEach (e::es) X.env)) (backToKw pos (keywordEach [] X.env))):=by rfl) :
  DX c X (.Call (.Attribute o fl apos) (e::es) [] pos) (zau i cn fl ns m fa):=PE.imp (z9v ho hc hm F hr hb .nil zfy ha.pa hst hpl ht) fun σ H Q q_=>zy3 (fun _ _ _ h=>h) (fun ρ ds ρ' h=>by have:=ha.len ρ ds ρ' h; omega) q_
theorem zbj {pl:Sem Bool} (ho:PE X o (zc8 i)) (hc:Cls X.K (c cn)) (hm:zbe X.K (c cn) fl f) (F:zav X.prog X.w X.K X.mg X.base CX0 k f fd ps (zcm (Gx c X) cn ns ps.length m)) (hr:zbz k X.A) (hb:zay X.K fd ps []) (hl:1=ps.length:=by rfl)
  (ht:eval (.Call (.Attribute o fl apos) [] [] pos) X.env=(do
   let ov <- eval o X.env
   standAt apos.atName
   let (f,first) <- holding [ov] (getMethod ov fl pl)
   callWith pos f first (backTo pos (starEach [] X.env)) (backToKw pos (keywordEach [] X.env))):=by rfl) :
  DX c X (.Call (.Attribute o fl apos) [] [] pos) (zau i cn fl ns m zaa):=PE.imp (z0b ho hc hm F hr hb .nil zfy ht) fun σ H Q q_=>zy3 (fun σ H Q ⟨Hf0,H0,Hf,ρ,ds,ρ',st,ef,k⟩=>by cases ef; exact k [] Hf H (zas.refl _) st rfl) (fun ρ ds ρ' h=>by cases h; exact hl) q_
theorem zxd {pl:Sem Bool} (ho:PE X o (zc8 i)) (hc:Cls X.K (c cn)) (hm:zbe X.K (c cn) fl f) (F:zav X.prog X.w X.K X.mg X.base CX0 k f fd ps (zcm (Gx c X) cn ns ps.length m)) (hr:zbz k X.A) (hb:zay X.K fd ps []) (hl:1=ps.length:=by rfl)
  (ht:eval (.Call (.Attribute o fl apos) [] [] pos) X.env=(do
   let ov <- eval o X.env
   standAt apos.atName
   let (f,first) <- holding [ov] (getMethod ov fl pl)
   callWith pos f first (backTo pos (starEach [] X.env)) (backToKw pos (keywordEach [] X.env))):=by rfl) :
  DX c X (.Call (.Attribute o fl apos) [] [] pos) (zje i cn fl ns m zaa):=PE.imp (z0b ho hc hm F hr hb .nil zfy ht) fun σ H Q q_=>z7w (fun σ H Q ⟨Hf0,H0,Hf,ρ,ds,ρ',st,ef,k⟩=>by cases ef; exact k [] Hf H (zas.refl _) st rfl) (fun ρ ds ρ' h=>by cases h; exact hl) q_
noncomputable def zho (i:Nat) (cn fl:Str) (ρ:List Sl) : Option D:=match ρ[i]? with
 | some (.pino _ c' ns xs)=>if c'=cn then (ns.zip xs).lookup fl else none
 | _=>none
theorem znb (cn:Str) (hc:Cls X.K (c cn)) (hn:zeu X.K (c cn) fl) (ho:PE X o (zc8 i)) (hb:attributeBase o fl X.env (eval o X.env)=eval o X.env:=by rfl) : DE c X (.Attribute o fl pos) (zho i cn fl):=PE.imp (z9r ho hb) fun σ H Q q_=>by
 obtain ⟨Hf0,H0,Hf,ρ,d,st,ef,k⟩:=q_;unfold zho at ef;split at ef
 ·rename_i l0 c' ns xs eo;split at ef
  ·rename_i hcc;subst hcc;obtain ⟨l,el,_,_,_,dx,us,hu,_,rx⟩:=st.ownAt (s:=.pino l0 c' ns xs) rfl eo;obtain ⟨u,eu,ru⟩:=ztu ef rx;exact ⟨_,el,l,c c',dx,ns.zip us,u,rfl,hu,hc,hn,eu,k u Hf H (Ext.refl st.sub) ru⟩
  ·cases ef
 ·cases ef
noncomputable def zf1 {α : Type} (f:Str) (v:α) : List Str->List α->List α
 | n::ns,x::xs=>if n=f then v::xs else x::zf1 f v ns xs
 | _,xs=>xs
theorem z12 {α : Type} (f:Str) (v:α) : ∀ (ns:List Str) (xs:List α),(zf1 f v ns xs).length=xs.length
 | [],_=>rfl
 | _::_,[]=>rfl
 | n::ns,x::xs=>by
  unfold zf1;split
  ·rfl
  ·rw [List.length_cons,z12 f v ns xs,List.length_cons]
theorem z0u {f:Str} {v:V} : ∀ {ns:List Str} {us:List V},ns.length=us.length->ns.contains f=true->zdq f v (ns.zip us)=ns.zip (zf1 f v ns us)
 | [],_,_,h=>by cases h
 | _::_,[],hl,_=>by cases hl
 | n::ns,u::us,hl,h=>by
  rw [List.zip_cons_cons];unfold zdq zf1
  by_cases e : n=f
  ·rw [if_pos e,if_pos e,List.zip_cons_cons]
  ·rw [if_neg e,if_neg e,List.zip_cons_cons]
   have h2 : ns.contains f=true:=by
    rw [List.contains_cons,Bool.or_eq_true] at h
    rcases h with h | h
    ·exact absurd (eq_of_beq h).symm e
    ·exact h
   rw [z0u (by simpa using hl) h2]
theorem z13 {G:Gc} {H:Hp} {f:Str} {d:D} {v:V} (rv:Rep G H d v) : ∀ {ns:List Str} {ds:List D} {us:List V},zao G H ds us->zao G H (zf1 f d ns ds) (zf1 f v ns us)
 | [],_,_,r=>by
  unfold zf1
  exact r
 | n::ns,[],us,r=>by cases (show us=[] from r); exact r
 | n::ns,x::ds,us,r=>by
  obtain ⟨u,r',rfl,ru,rr⟩:=r;unfold zf1
  by_cases e : n=f
  ·rw [if_pos e,if_pos e]; exact .cons rv rr
  ·rw [if_neg e,if_neg e]; exact .cons ru (z13 rv rr)
noncomputable def znq (i:Nat) (cn fl:Str) (f:List Sl->Option D) (ρ:List Sl) : Option Fl:=match ρ[i]? with
 | some (.pino l c' ns xs)=>if c'=cn/\ns.contains fl=true/\ns.length < 1000 then ((ns.zip xs).lookup fl).bind fun x=>(f ρ).bind fun y=>(zh3 x y).map fun z=>.nx (ρ.set i (.pino l cn ns (zf1 fl z ns xs))) else none
 | _=>none
theorem zw3 {f':List Sl->Option D} {tpos:Pos} (cn:Str) (hc:Cls X.K (c cn)) (hn:zeu X.K (c cn) fl) (ho:PE X o (zc8 i)) (he:DE c X e f') : DS c X (.AugAssign (.Attribute o fl tpos) .Add e pos) (znq i cn fl f'):=PS.imp (yaq (rd:=rD (Gx c X) zh3) ho he (fun pins s σ H x y u v Q I rx ry h=>zxv (c:=c) pins s σ H x y u v Q I rx ry h)) fun E σ H q_=>by
 obtain ⟨Hf0,H0,Hf,ρ,o,so,ef,k⟩:=q_;unfold znq at ef;split at ef
 ·rename_i l0 c' ns xs eo;split at ef
  ·rename_i hcc;obtain ⟨rfl,hin,hlt⟩:=hcc
   cases e1 : (ns.zip xs).lookup fl with
   | none=>rw [e1] at ef; cases ef
   | some x =>
    rw [e1,Option.bind_some] at ef
    cases e2 : f' ρ with
    | none=>rw [e2] at ef; cases ef
    | some y =>
     rw [e2,Option.bind_some] at ef
     cases e3 : zh3 x y with
     | none=>rw [e3] at ef; cases ef
     | some z =>
      rw [e3] at ef;cases ef;obtain ⟨l,el,h0,hf,eq,dx,us,hu,hz,rx⟩:=so.ownAt (s:=.pino l0 c' ns xs) rfl eo;subst eq;obtain ⟨u,eu,ru⟩:=ztu e1 rx;refine ⟨_,el,l,c c',dx,ns.zip us,u,rfl,hu,hc,hn,eu,Hf0,H0,Hf,ρ,y,so,e2,fun v2 Hf1 H1 x1 r1=>⟨Hf1,x,y,z,x1.s,ru.up x1.f,r1,e3,fun v3 Hf2 H2 x2 r2=>?_⟩⟩;have x12:=x1.trans x2;have so2:=so.step x12;refine ⟨dx,ns.zip us,x12.h _ _ hu,?_,k σ Hf2 _ x12.f (so2.mutd (s:=.pino l c' ns xs) (s':=.pino l c' ns (zf1 fl z ns xs)) rfl rfl eo el ⟨rfl,dx,zf1 fl v3 ns us,?_,?_,z13 r2 (rx.up x12.f)⟩)⟩
      ·rw [List.length_zip]; omega
      ·rw [zcd,z0u hz hin]
      ·rw [z12]; exact hz
  ·cases ef
 ·cases ef
theorem zhg {st:Stmt} : DS c X st (fun _=>none):=fun pins s σ H E I q_=>by
 obtain ⟨Hf0,H0,Hf,ρ,o,so,ef,k⟩:=q_;cases ef
end
noncomputable def zgy (t:Xt) (f g:Xe) : Xe:=fun ρ=>(t ρ).bind fun p=>if p.1 then f p.2 else g p.2
noncomputable def zdw (f:Xe) : Xt:=fun ρ=>(f ρ).bind fun p=>(zot p.1).map fun b=>(b,p.2)
noncomputable def zns (t:Xt) : Xt:=fun ρ=>(t ρ).map fun p=>(!p.1,p.2)
noncomputable def zdx (t:Xt) (F:List Sl->Option Fl) : Nat->List Sl->Option Fl
 | 0,_=>none
 | n + 1,ρ=>(t ρ).bind fun p=>if p.1 then (F p.2).bind fun o=>match o with
   | .nx ρ2=>zdx t F n ρ2
   | .ct ρ2=>zdx t F n ρ2
   | .bk ρ2=>some (.nx ρ2)
   | o=>some o
  else some (.nx p.2)
noncomputable def zgz (i:Nat) (f:Xe) (ρ:List Sl) : Option Fl:=(f ρ).map fun p=>.nx (p.2.set i (.own [p.1]))
section
variable {c:Str->Addr} {X:Cx} {st:Stmt} {e a b cd:Expr} {as:List Stmt} {pos pos' p:Pos} {F:List Sl->Option Fl}
theorem zkd {t:Xt} {f g:Xe} (hc:DTX c X cd t) (ha:DX c X a f) (hb:DX c X b g) : DX c X (.IfExp cd a b pos) (zgy t f g):=PE.imp (zz8 hc ha hb) fun σ H Q q_=>by
 obtain ⟨Hf0,H0,Hf,ρ,d,ρ',so,ef,k⟩:=q_;unfold zgy at ef
 cases e1 : t ρ with
 | none=>rw [e1] at ef; cases ef
 | some x =>
  obtain ⟨x,ρ1⟩:=x;rw [e1,Option.bind_some] at ef;refine ⟨Hf0,H0,Hf,ρ,x,ρ1,so,e1,fun Hf1 H1 s1 so1=>?_⟩
  cases x with
  | true=>rw [if_pos rfl]; exact ⟨Hf0,H0,Hf1,ρ1,d,ρ',so1,ef,fun v Hf2 H2 s2 so2 r=>k v Hf2 H2 (s1.trans s2) so2 r⟩
  | false=>rw [if_neg Bool.false_ne_true]; exact ⟨Hf0,H0,Hf1,ρ1,d,ρ',so1,ef,fun v Hf2 H2 s2 so2 r=>k v Hf2 H2 (s1.trans s2) so2 r⟩
theorem zfq {f:Xe} (ha:DX c X a f) (he:∀ whole,isTrue a X.env whole=(do let v <- whole; standAt a.pos; holding [v] (truthy v)):=by intro _; rfl) : DTX c X a (zdw f):=PT.imp (z0t ha he) fun σ H Q q_=>by
 obtain ⟨Hf0,H0,Hf,ρ,bb,ρ',so,ef,k⟩:=q_;unfold zdw at ef
 cases e1 : f ρ with
 | none=>rw [e1] at ef; cases ef
 | some x =>
  obtain ⟨d,ρ1⟩:=x;rw [e1,Option.bind_some] at ef;dsimp only at ef
  cases e2 : zot d with
  | none=>rw [e2] at ef; cases ef
  | some y =>
   rw [e2] at ef;cases ef;exact ⟨Hf0,H0,Hf,ρ,d,_,so,e1,fun v Hf' H' s1 so1 r=>⟨_,z2s e2 (r.up so1.sub),k Hf' H' s1 so1⟩⟩
theorem z41 {t:Xt} (h:DTX c X a t) : DTX c X (.UnaryOp .Not a pos) (zns t):=PT.imp (z0s h) fun σ H Q q_=>by
 obtain ⟨Hf0,H0,Hf,ρ,bb,ρ',so,ef,k⟩:=q_;unfold zns at ef
 cases e1 : t ρ with
 | none=>rw [e1] at ef; cases ef
 | some x =>
  rw [e1] at ef;cases ef;exact ⟨Hf0,H0,Hf,ρ,x.1,x.2,so,e1,fun Hf' H' s1 so1=>k Hf' H' s1 so1⟩
theorem znh (n:Nat) {t:Xt} (hp:PassesOwn (model X.prog X.w) X.A X.env X.xe) (hc:DTX c X cd t) (hb:DSs c X as F) : DS c X (.While cd as [] pos) (zdx t F n):=PS.imp (yas hp hc hb) fun E σ H q_=>by
 obtain ⟨Hf0,H0,Hf,ρ,o,so,ef,k⟩:=q_;refine ⟨fun m σ' H'=>∃ Hf' ρ',zal (Gx c X) Hf0 H0 Hf' H' σ' ρ'/\zas Hf Hf'/\zdx t F m ρ'=some o,⟨n,Hf,ρ,so,zas.refl _,ef⟩,?_⟩;rintro m σ' H' ⟨Hf',ρ',so',s1,em⟩
 cases m with
 | zero=>cases em
 | succ m =>
  unfold zdx at em
  cases et : t ρ' with
  | none=>rw [et] at em; cases em
  | some x =>
   obtain ⟨x,ρ1⟩:=x;rw [et,Option.bind_some] at em;refine ⟨Hf0,H0,Hf',ρ',x,ρ1,so',et,fun Hf2 H2 f2 so2=>?_⟩;have sf:=s1.trans f2
   cases x with
   | false =>
    refine zx3 ?_;cases em
    exact k σ' Hf2 H2 sf so2
   | true =>
    refine ztj ?_;replace em : (F ρ1).bind _=some o:=em
    cases eF : F ρ1 with
    | none=>rw [eF] at em; cases em
    | some o1 =>
     rw [eF] at em;refine ⟨fun σ3 H3=>∃ Hf' ρ',zal (Gx c X) Hf0 H0 Hf' H3 σ3 ρ'/\zas Hf Hf'/\zdx t F m ρ'=some o,fun σ3 H3 w=>⟨m,Nat.lt_succ_self _,w⟩,Hf0,H0,Hf2,ρ1,o1,so2,eF,?_⟩
     cases o1 with
     | nx ρ2=>exact fun σ4 Hf4 H4 s4 so4=>⟨Hf4,ρ2,so4,sf.trans s4,em⟩
     | ct ρ2=>exact fun σ4 Hf4 H4 s4 so4=>⟨Hf4,ρ2,so4,sf.trans s4,em⟩
     | bk ρ2=>cases em; exact fun σ4 Hf4 H4 s4 so4=>k σ4 Hf4 H4 (sf.trans s4) so4
     | rt d=>cases em; exact k
     | rtO d=>cases em; exact k
     | rtS d ρ2=>cases em; exact k
     | rtT o'=>cases em; exact k
theorem zng (i:Nat) {x:Str} {f:Xe} {spos:Pos} (hN:X.N.Nodup) (he:DX c X e f) (hi:X.N[i]?=some x:=by rfl) (hx:Loc X.env.scope x:=by first | exact Or.inl rfl | exact Or.inr rfl) (hs:swapsWith (.List [e] pos) (some (.Name x pos')) spos.line X.env=pure false:=by rfl) (hst:starEach [e] X.env=(false,eval e X.env)::starEach [] X.env:=by rfl) (hf:X.fn x=true\/X.env.scope.names.lookup x=some .local:=by first | exact .inl rfl | exact .inr rfl) :
  DS c X (.Assign [.Name x pos'] (.List [e] pos) spos) (zgz i f):=PS.imp (zjq hN hi hx (zun (zct he zde hst)) hs hf) fun E σ H q_=>by
 obtain ⟨Hf0,H0,Hf,ρ,o,so,ef,k⟩:=q_;unfold zgz at ef
 cases e1 : f ρ with
 | none=>rw [e1] at ef; cases ef
 | some p =>
  rw [e1] at ef;cases ef;refine ⟨Hf0,H0,Hf,ρ,p.1,p.2,so,e1,fun v Hf' H' s so' r=>⟨(by rw [sizeLine_eq]; show 1<=16777216; decide),fun q hq=>?_⟩⟩;exact k _ Hf' (upd H' q (.lst [v])) s (so'.setOwn (i:=i) (l:=q) (s:=.own [p.1]) rfl (Ext.grow so'.sub (zc3 hq)) hq (so'.sub.free hq) ⟨[v],zcd,.cons r .nil⟩)
end
noncomputable def zqd (i:Nat) (cn:Str) (m:List D->Option (List Str×List D)) (fa:List Sl->Option (List D)) (ρ:List Sl) : Option Fl:=(fa ρ).bind fun as=>(m as).map fun r=>.nx (ρ.set i (.obj cn r.1 r.2))
section
variable {c:Str->Addr} {X:Cx} {k:Nat} {f:Addr} {fd:FuncData} {ps:List Str} {x cn:Str} {p pos pos':Pos} {e:Expr} {es:List Expr} {fa:List Sl->Option (List D)}
theorem z4o (i:Nat) {z:Str} {spos:Pos} {m:List D->Option (List Str×List D)} (cn:Str) (hN:X.N.Nodup) (M:Mk X.K (c cn) f) (F:zav X.prog X.w X.K X.mg X.base CX0 k f fd ps (spI (Gx c X) cn ps.length m)) (hr:zbz (k + 1) X.A) (hg:Gl X x) (hm:X.mg x=some (.ref (c cn))) (hb:zay X.K fd ps []) (ha:DA c X (e::es) fa) (hi:X.N[i]?=some z:=by rfl) (hx:Loc X.env.scope z:=by first | exact Or.inl rfl | exact Or.inr rfl)
  (hl:(e::es).length + 1=ps.length:=by rfl) (hdb:(x==("__debug__" : Str))=false:=by decide) (he:starEach (e::es) X.env=(false,eval e X.env)::starEach es X.env:=by rfl) (hpl:(backTo pos (starEach es X.env)).any (·.1)=false:=by rfl)
  (hs:swapsWith (.Call (.Name x p) (e::es) [] pos) (some (.Name z pos')) spos.line X.env=pure false:=by rfl) (hfn:X.fn z=true\/X.env.scope.names.lookup z=some .local:=by first | exact .inl rfl | exact .inr rfl) :
  DS c X (.Assign [.Name z pos'] (.Call (.Name x p) (e::es) [] pos) spos) (zqd i cn m fa):=PS.imp (zjq hN hi hx (z9u M F hr hg hm hb .nil zfy ha.pa hdb he hpl) hs hfn) fun E σ H q_=>by
 obtain ⟨Hf0,H0,Hf,ρ,o,st,ef,kq⟩:=q_;unfold zqd at ef
 cases e1 : fa ρ with
 | none=>rw [e1] at ef; cases ef
 | some as =>
  rw [e1,Option.bind_some] at ef
  cases e2 : m as with
  | none=>rw [e2] at ef; cases ef
  | some r =>
   rw [e2] at ef;cases ef;refine ⟨Hf0,H0,Hf,ρ,as,st,e1,fun vs Hf' H' xx rv y dx ny ndx nex=>?_⟩
   try dsimp only
   rw [List.append_nil];have hy : (upd H' dx (.own y)) y=none:=by rw [zbi nex.symm]; exact ny
   have s1 : zas H' (upd H' dx (.own y)):=zc3 ndx;have s2:=s1.trans (zc3 (o:=.ins (c cn) dx []) hy)
   have s3 : zas H' (del (upd (upd H' dx (.own y)) y (.ins (c cn) dx [])) y):=fun b u q=>by
    have:=zet q ny;rw [zwt this];exact s2 b u q
   refine ⟨y,dx,Hf',as,vs,r,rfl,zcd,xx.s.free ny,xx.s.trans s2,rv,by rw [ha.len ρ as e1]; exact hl,e2,fun us Hf2 H2 x2 hf2 hy2 hlen r2=>⟨rfl,?_⟩⟩;have x3 : Ext Hf' H' Hf2 H2:=⟨x2.f,s3.trans x2.h,x2.s,fun l u q t=>x2.n l u (s3 l u q) t⟩;exact kq _ Hf2 H2 (xx.trans x3).f (st.setOwn (i:=i) (l:=y) (s:=.obj cn r.1 r.2) rfl (xx.trans x3) (xx.h.free ny) hf2 ⟨dx,us,hy2,hlen,r2⟩)
end
section
variable {G:Gc} {Hf0 H0 Hf H:Hp} {σ:St} {ρ:List Sl}
theorem z36 {k t j:Nat} {js:List Nat} {s:Sl} (ht:js[t]?=some j) (hs:ρ[j]?=some s) : (zcv k js ρ)[k + t]?=some s:=by
 unfold zcv;rw [List.getElem?_append_right (by rw [List.length_replicate]; exact Nat.le_add_right _ _),List.length_replicate,Nat.add_sub_cancel_left,List.getElem?_map,ht];show some ((ρ[j]?).getD .no)=_;rw [hs];rfl
theorem zal.compP (k:Nat) {js:List Nat} {jp:Nat} {l:Addr} {xs:List D} (h:zal G Hf0 H0 Hf H σ ρ) (hj:js.Nodup) (hp:ρ[jp]?=some (.pin l xs)) (hc:∀ j∈js,j=jp\/((ρ[j]?).getD .no).calm=true) :
  zal G Hf (zds H l) Hf H (zfp k js σ) (zcv k js ρ):=by
 obtain ⟨l',el,h0,hf,e2,us,hu,rx⟩:=h.ownAt (s:=.pin l xs) rfl hp;subst e2;have st:=h.comp k hj;refine st.re (Ext.grow (zok h.sub hf) zsz) rfl (fun i v s a b=>?_) fun i s v a b c d=>⟨s,b,d⟩;have q:=st.at' i v s a b
 rcases zlb b with ⟨_,e⟩ | ⟨_,b⟩
 ·subst e; trivial
 ·obtain ⟨j,ej,es⟩:=zjh b
  rcases hc j (List.mem_of_getElem? ej) with e | e
  ·subst e;rw [hp] at es;replace es : s=.pin l' xs:=es;subst es;obtain ⟨l2,e1,_,hf2,e3,w⟩:=q;subst e3;exact ⟨_,e1,znc,hf2,rfl,w⟩
  ·rw [<- es] at e
   cases s with
   | no=>trivial
   | im d=>exact q
   | _=>cases e
end
section
variable (k:Nat) (js:List Nat) (jp t:Nat) (g:D->List Sl->Option (List Sl)) (fe:Xe) (ρ:List Sl) (l:Addr)
open Classical in
noncomputable def zjw (d:D) (xs:List D) : Option (D×List D):=(g d (zcv k js (ρ.set jp (.pin l xs)))).bind fun ρ1=>(fe ρ1).bind fun q=>match q.2[k + t]? with
 | some (.pin _ xs')=>if ∀ i,k<=i->q.2[i]?=(zcv k js (ρ.set jp (.pin l xs')))[i]? then some (q.1,xs') else none
 | _=>none
noncomputable def zfs : List D->List D->Option (List D×List D)
 | [],xs=>some ([],xs)
 | d::ds,xs=>(zjw k js jp t g fe ρ l d xs).bind fun y=>(zfs ds y.2).map fun r=>(y.1::r.1,r.2)
end
noncomputable def zhn (k:Nat) (js:List Nat) (jp t:Nat) (fi:Xa) (g:D->List Sl->Option (List Sl)) (fe:Xe) : Xe:=fun ρ=>(fi ρ).bind fun p=>match p.2[jp]? with
 | some (.pin l xs)=>if p.1.length<=16777216/\js[t]?=some jp/\(js.all fun j=>j==jp || ((p.2[j]?).getD .no).calm)=true then (zfs k js jp t g fe p.2 l p.1 xs).map fun q=>(.lst q.1,p.2.set jp (.pin l q.2)) else none
 | _=>none
section
variable {k:Nat} {js:List Nat} {jp t:Nat} {g:D->List Sl->Option (List Sl)} {fe:Xe} {ρ:List Sl} {l:Addr}
theorem ydu {d y:D} {xs xs':List D} (h:zjw k js jp t g fe ρ l d xs=some (y,xs')) : ∃ ρ1 ρ2,g d (zcv k js (ρ.set jp (.pin l xs)))=some ρ1/\fe ρ1=some (y,ρ2)/\(∃ l',ρ2[k + t]?=some (.pin l' xs'))/\∀ i,k<=i->ρ2[i]?=(zcv k js (ρ.set jp (.pin l xs')))[i]?:=by
 unfold zjw at h
 cases e1 : g d (zcv k js (ρ.set jp (.pin l xs))) with
 | none=>rw [e1] at h; cases h
 | some ρ1 =>
  rw [e1,Option.bind_some] at h
  cases e2 : fe ρ1 with
  | none=>rw [e2] at h; cases h
  | some q =>
   rw [e2,Option.bind_some] at h;split at h
   ·rename_i l' zs ez;split at h
    ·rename_i hi;cases h;exact ⟨ρ1,q.2,rfl,e2,⟨l',ez⟩,hi⟩
    ·cases h
   ·cases h
theorem z69 {d:D} {ds rs:List D} {xs ys:List D} (h:zfs k js jp t g fe ρ l (d::ds) xs=some (rs,ys)) : ∃ y xs' r,zjw k js jp t g fe ρ l d xs=some (y,xs')/\zfs k js jp t g fe ρ l ds xs'=some (r,ys)/\rs=y::r:=by
 unfold zfs at h
 cases e1 : zjw k js jp t g fe ρ l d xs with
 | none=>rw [e1] at h; cases h
 | some y =>
  rw [e1,Option.bind_some] at h
  cases e2 : zfs k js jp t g fe ρ l ds y.2 with
  | none=>rw [e2] at h; cases h
  | some r=>rw [e2] at h; cases h; exact ⟨y.1,y.2,r.1,rfl,e2,rfl⟩
theorem z14 {ρ:List Sl} {jp:Nat} {s s':Sl} (h:ρ[jp]?=some s) : (ρ.set jp s')[jp]?=some s':=List.getElem?_set_self (List.getElem?_eq_some_iff.mp h).1
theorem z37 {G:Gc} {fi:Xa} (hj:js.Nodup) (hk:∀ d ρ ρ' i,g d ρ=some ρ'->k<=i->ρ'[i]?=ρ[i]?) (hlen:∀ d ρ ρ',g d ρ=some ρ'->ρ'.length=ρ.length) {σ:St} {H:Hp} {Q:VK} (h:tDX G (zhn k js jp t fi g fe) σ H Q) :
  zr1 k js (z2l G fi) (tDG G g) (tDT G fun _=>some true) (tDX G fe) σ H Q:=by
 obtain ⟨Hf0,H0,Hf,ρ0,d0,ρ',st,ef,kq⟩:=h;unfold zhn at ef
 cases e1 : fi ρ0 with
 | none=>rw [e1] at ef; cases ef
 | some p =>
  obtain ⟨ds,ρ⟩:=p;rw [e1,Option.bind_some] at ef;dsimp only at ef;split at ef
  ·rename_i l xs ep;split at ef
   ·rename_i hz;obtain ⟨hz,ht,hcm⟩:=hz
    cases e2 : zfs k js jp t g fe ρ l ds xs with
    | none=>rw [e2] at ef; cases ef
    | some q =>
     obtain ⟨rs,zs⟩:=q;rw [e2] at ef;cases ef;refine ⟨Hf0,H0,Hf,ρ0,ds,ρ,st,e1,fun J Hf1 H1 f1 st1 it=>?_⟩
     have hcm' : ∀ j∈js,j=jp\/((ρ[j]?).getD .no).calm=true:=fun j hj'=>by
      have:=List.all_eq_true.mp hcm j hj';rw [Bool.or_eq_true] at this;exact this.imp beq_iff_eq.mp id
     have eself : ρ.set jp (.pin l xs)=ρ:=by
      apply List.ext_getElem?;intro i
      by_cases hi : jp=i
      ·subst hi; rw [z14 ep,ep]
      ·rw [List.getElem?_set_ne hi]
     have st0 : zal G Hf1 (zds H1 l) Hf1 H1 (zfp k js σ) (zcv k js (ρ.set jp (.pin l xs))):=by rw [eself]; exact st1.compP k hj ep hcm'
     obtain ⟨l9,el9,_,hf9,e9,_⟩:=st1.ownAt (s:=.pin l xs) rfl ep;subst e9
     refine ⟨fun i m ys σ' H'=>m=ds.length - i/\i<=ds.length/\∃ Hf' as xs' zbp,zal G Hf1 (zds H1 l9) Hf' H' σ' (zcv k js (ρ.set jp (.pin l9 xs')))/\zao G Hf' as ys/\zfs k js jp t g fe ρ l9 (ds.drop i) xs'=some (zbp,zs)/\rs=as++zbp/\as.length<=i,
      ⟨ds.length,rfl,Nat.zero_le _,Hf1,[],xs,rs,st0,rfl,e2,rfl,Nat.le_refl _⟩,?_⟩
     rintro i m ys σ' H' ⟨rfl,hi,Hf',as,xs',zbp,st2,ra,ec,er,hal⟩;have hys : ys.length<=sizeLine:=by rw [sizeLine_eq,<- ra.length]; omega
     obtain ⟨it1,it2⟩:=it Hf' H' st2.ext.f st2.sub i
     by_cases hlt : i < ds.length
     ·obtain ⟨d,ed,edr⟩:=zs2 hlt;obtain ⟨go,yl⟩:=it1 d ed
      refine .inr ⟨go,hys,fun ys' σ2 H2=>ds.length - (i + 1)=ds.length - (i + 1)/\i + 1<=ds.length/\∃ Hf' as xs' zbp,zal G Hf1 (zds H1 l9) Hf' H2 σ2 (zcv k js (ρ.set jp (.pin l9 xs')))/\zao G Hf' as ys'/\zfs k js jp t g fe ρ l9 (ds.drop (i + 1)) xs'=some (zbp,zs)/\rs=as++zbp/\as.length<=i + 1,
       fun ys' σ2 H2 w=>⟨ds.length - (i + 1),by omega,w⟩,fun x H2 y=>?_⟩
      obtain ⟨Hf2,x3,rx⟩:=yl x H2 y;rw [edr] at ec;obtain ⟨y',xs2,r',et,ec',erest⟩:=z69 ec;obtain ⟨ρ1,ρ2,eg,ee,⟨l',ex⟩,hag⟩:=ydu et;refine ⟨Hf1,zds H1 l9,Hf2,_,d,ρ1,st2.step x3,rx,eg,fun σ3 st3=>⟨Hf1,zds H1 l9,Hf2,ρ1,true,st3,rfl,fun Hf4 H4 x4=>ztj ⟨Hf1,zds H1 l9,Hf4,ρ1,y',ρ2,st3.step x4,ee,fun v Hf5 H5 f5 st5 r5=>?_⟩⟩⟩
      have hl2 : (zcv k js (ρ.set jp (.pin l9 xs2))).length=ρ2.length:=by
       rw [<- st5.len,st3.len,hlen _ _ _ eg];unfold zcv;rw [List.length_append,List.length_append,List.length_map,List.length_map]
      refine ⟨rfl,hlt,Hf5,as++[y'],xs2,r',st5.weak hl2 fun j s hs=>?_,(ra.up ((x3.f.trans x4.f).trans f5)).append (.cons r5 .nil),ec',by rw [er,erest,List.append_assoc]; rfl,by rw [List.length_append,List.length_singleton]; omega⟩
      rcases zlb hs with ⟨_,e⟩ | ⟨hj',_⟩
      ·exact .inl e
      ·exact .inr (by rw [hag j hj']; exact hs)
     ·have ei : i=ds.length:=by omega
      subst ei;refine .inl ⟨it2 rfl,hys,fun D h1 h2=>?_⟩;rw [List.drop_eq_nil_of_le (Nat.le_refl _)] at ec;cases ec;rw [List.append_nil] at er;subst er;obtain ⟨l3,el3,h03,hf3,e3,us3,hu3,rx3⟩:=st2.ownAt (s:=.pin l9 zs) rfl (z36 ht (z14 ep));subst e3;have bk:=st1.back (s:=.pin l3 xs) (s':=.pin l3 zs) rfl rfl ep el9 st2.ext hf3 ⟨rfl,us3,hu3,rx3⟩;have xn:=Ext.new (o:=.lst ys) st2.sub h2;exact kq (.ref D) _ _ (f1.trans (st2.ext.f.trans xn.f)) (bk.step xn) ⟨D,ys,rfl,zcd,ra.up xn.f⟩
   ·cases ef
  ·cases ef
end
section
variable {c:Str->Addr} {X:Cx} {elt tg iter:Expr} {scope:Scope} {pos:Pos} {g:D->List Sl->Option (List Sl)} {fe:Xe} {fi:Xa}
theorem zps (k:Nat) (js:List Nat) (jp t:Nat) (Nc:List Str) (hc:X.calm=true) (hi:DXi c X tg iter fi) (hg:∀ cl C ex s₂ H₂,DG c (X.comp scope Nc cl C ex s₂ H₂) tg k g)
  (he:∀ cl C ex s₂ H₂,DX c (X.comp scope Nc cl C ex s₂ H₂) elt fe) (ck:ziw scope X.env.scope.names X.N Nc k js=true:=by rfl) (hs:∀ x,foldedSetIterable iter X.env x=pure x:=by intro _; rfl) (hj:js.Nodup:=by decide) :
  DX c X (.ListComp elt [⟨tg,iter,[],0⟩] scope pos) (zhn k js jp t fi g fe) :=
 PE.imp (zz6 (g:=tDG (Gx c X) g) (tt:=tDT (Gx c X) fun _=>some true) (te:=tDX (Gx c X) fe) k js Nc hc hi (fun cl C ex s₂ H₂=>(hg cl C ex s₂ H₂).pg) (fun cl C ex s₂ H₂=>zni) he ck hs) fun σ H Q h =>
  z37 hj (hg [] 0 [] X.s₀ X.H₀).keep (hg [] 0 [] X.s₀ X.H₀).len h
end
noncomputable def mX1 (m:D->Option D) (f:Xe) : Xe:=fun ρ=>(f ρ).bind fun p=>(m p.1).map fun d=>(d,p.2)
theorem z7i {m:D->Option D} {f:Xe} {ρ ρ':List Sl} {d:D} (h:mX1 m f ρ=some (d,ρ')) : ∃ x,f ρ=some (x,ρ')/\m x=some d:=by
 unfold mX1 at h
 cases e1 : f ρ with
 | none=>rw [e1] at h; cases h
 | some p =>
  rw [e1,Option.bind_some] at h
  cases e2 : m p.1 with
  | none=>rw [e2] at h; cases h
  | some z=>rw [e2] at h; cases h; exact ⟨p.1,rfl,e2⟩
noncomputable def zoy : List D->Option D
 | [.int a]=>some (.int (if a < 0 then -a else a))
 | _=>none
section
variable {c:Str->Addr} {X:Cx} {e a b:Expr} {es:List Expr} {pos p:Pos}
theorem zw9 {m:List D->Option D} {f:Xa} {x:Str} {id:String} (hc:zjz c X (.builtin id) m) (hg:Gl X x) (hm:X.mg x=none) (hv:bootBuiltins x=some (.builtin id)) (ha:DAX c X (e::es) f) (hn:x ≠ "__name__":=by decide) (hdb:(x==("__debug__" : Str))=false:=by decide)
  (he:starEach (e::es) X.env=(false,eval e X.env)::starEach es X.env:=by rfl) (hpl:(backTo pos (starEach es X.env)).any (·.1)=false:=by rfl) :
  DX c X (.Call (.Name x p) (e::es) [] pos) (zen m f):=PE.imp (zri hc hg hm hv ha.pa hn hdb he hpl) fun σ H Q q_=>by
 obtain ⟨Hf0,H0,Hf,ρ,d,ρ',st,ef,kq⟩:=q_;unfold zen at ef
 cases e1 : f ρ with
 | none=>rw [e1] at ef; cases ef
 | some q =>
  obtain ⟨ds,ρ1⟩:=q;rw [e1,Option.bind_some] at ef
  cases e2 : m ds with
  | none=>rw [e2] at ef; cases ef
  | some z =>
   rw [e2] at ef;cases ef;exact ⟨Hf0,H0,Hf,ρ,ds,_,st,e1,fun vs Hf' H' f1 st1 r=>⟨Hf',ds,_,st1.sub,r,e2,fun v Hf2 H2 x2 r2=>kq v Hf2 H2 (f1.trans x2.f) (st1.step x2) r2⟩⟩
theorem z3z : zjz c X (.builtin "abs") zoy:=by
 rintro pins s σ H vs us Q I rv ⟨Hf,ds,d,s0,r,e,k⟩;unfold zoy at e;split at e
 ·rename_i a;cases e;obtain ⟨v1,vs1,rfl,h1,h2⟩:=r;cases (show vs1=[] from h2);cases (show v1=V.int a from h1)
  cases rv with
  | cons r1 rr =>
   cases rr;obtain ⟨t,rfl⟩:=r1;refine call_abs_int fun u tk=>?_;exact ⟨.int (if a < 0 then -a else a),H,I.tok tk,⟨u,rfl⟩,k _ Hf H (Ext.refl s0) rfl⟩
 ·cases e
theorem z46 {f:Xe} (hg:Gl X "int") (hm:X.mg "int"=none) (ha:DX c X e f) (h1:starEach [e] X.env=(false,eval e X.env)::starEach [] X.env:=by rfl) (hpl:(backTo pos (starEach [] X.env)).any (·.1)=false:=by rfl) : DX c X (.Call (.Name "int" p) [e] [] pos) (mX1 zja f) :=
 PE.imp (zz9 hg hm ha h1 hpl) fun σ H Q q_=>by
  obtain ⟨Hf0,H0,Hf,ρ,d0,ρ',st,ef,k⟩:=q_;obtain ⟨x,e1,e2⟩:=z7i ef;unfold zja at e2;split at e2
  ·rename_i b;cases e2;exact ⟨Hf0,H0,Hf,ρ,_,_,st,e1,fun v Hf' H' f1 st1 r=>⟨b,r,k _ Hf' H' f1 st1 rfl⟩⟩
  ·cases e2
theorem z45 {op:CmpOp} {m:D->D->Option D} {f g:Xe} (ho:OpD c X (compareOp op) m) (ha:DX c X a f) (hb:DX c X b g) (hm:behindInMarks op b=false:=by first | exact zq0 _ | rfl) : DX c X (.Compare a [op] [b] pos) (mX2 m f g):=PE.imp (zz5 ho ha hb hm) fun σ H Q q_=>by
 obtain ⟨Hf0,H0,Hf,ρ,d,ρ',st,ef,k⟩:=q_;obtain ⟨x,y,ρ1,e1,e2,e3⟩:=znw ef;exact ⟨Hf0,H0,Hf,ρ,x,ρ1,st,e1,fun v Hf1 H1 f1 st1 r1=>⟨Hf0,H0,Hf1,ρ1,y,ρ',st1,e2,fun u Hf2 H2 f2 st2 r2=>⟨Hf2,x,y,d,st2.sub,r1.up f2,r2,e3,fun w Hf3 H3 x3 r3=>k w Hf3 H3 ((f1.trans f2).trans x3.f) (st2.step x3) r3⟩⟩⟩
noncomputable def zqe (f:Xe) (l h:List Sl->Option (Option Int)) : Xe:=fun ρ=>(f ρ).bind fun p=>(l p.2).bind fun lo=>(h p.2).bind fun hi=>(zh6 p.1 lo hi).map fun d=>(d,p.2)
theorem z47 {f:Xe} {l h:List Sl->Option (Option Int)} {lo hi:Option Expr} {p2:Pos} (ha:DX c X e f) (hl:DPt c X lo l) (hh:DPt c X hi h) : DX c X (.Subscript e (.Slice lo hi none p2) pos) (zqe f l h) :=
 PE.imp (zuo z17 ha hl hh) fun σ H Q q_=>by
  obtain ⟨Hf0,H0,Hf,ρ,r,ρ',st,ef,k⟩:=q_;unfold zqe at ef
  cases e1 : f ρ with
  | none=>rw [e1] at ef; cases ef
  | some q =>
   obtain ⟨d,ρ1⟩:=q;rw [e1,Option.bind_some] at ef;dsimp only at ef
   cases e2 : l ρ1 with
   | none=>rw [e2] at ef; cases ef
   | some lo' =>
    rw [e2,Option.bind_some] at ef
    cases e3 : h ρ1 with
    | none=>rw [e3] at ef; cases ef
    | some hi' =>
     rw [e3,Option.bind_some] at ef
     cases e4 : zh6 d lo' hi' with
     | none=>rw [e4] at ef; cases ef
     | some z =>
      rw [e4] at ef;cases ef;obtain ⟨z,rfl,hz,rfl⟩:=zwm e4;exact ⟨Hf0,H0,Hf,ρ,_,_,st,e1,fun v Hf1 H1 f1 st1 r1=>⟨Hf0,H0,Hf1,_,lo',st1,e2,fun Hf2 H2 x2=>⟨Hf0,H0,Hf2,_,hi',st1.step x2,e3,fun Hf3 H3 x3=>⟨z,r1,hz,k _ Hf3 H3 ((f1.trans x2.f).trans x3.f) ((st1.step x2).step x3) rfl⟩⟩⟩⟩
end
section
variable {c:Str->Addr} {X:Cx} {scope:Scope} {Nc:List Str} {cl:List (Str×Addr)} {C:Addr} {ex:List Addr} {s₂:Shared} {H₂:Hp} {es:List Expr} {pos:Pos}
theorem zpm (i:Nat) {x:Str} {g:Xa} (hr:DAX c (X.comp scope Nc cl C ex s₂ H₂) es g) (hN:Nc[i]?=some x:=by rfl) (hv:Vis scope x:=by first | exact Or.inl rfl | exact Or.inr (Or.inl rfl) | exact Or.inr (Or.inr rfl)) (hd:(x==("__debug__" : Str))=false:=by decide)
  (hcd:(x==("__classdict__" : Str))=false:=by decide) (hs:starEach (.Name x pos::es) (X.comp scope Nc cl C ex s₂ H₂).env=(false,eval (.Name x pos) (X.comp scope Nc cl C ex s₂ H₂).env)::starEach es (X.comp scope Nc cl C ex s₂ H₂).env:=by rfl) : DMX c (X.comp scope Nc cl C ex s₂ H₂) (.Name x pos::es) i g :=
 ⟨PA.imp (zct (pvc i hN hv hd hcd) hr.pa hs) fun σ H Q ⟨Hf0,H0,Hf,ρ,ds,ρ',l,st,el,ef,k⟩=>⟨_,el,Hf0,H0,Hf,ρ,ds,ρ',st,ef,fun vs Hf' H' f1 st1 r=>k vs Hf' H' f1 st1 r⟩,fun ρ ds ρ' h=>by
  rw [List.length_cons,hr.len ρ ds ρ' h]⟩
end
section
variable {P:Program} {w:World} {K:PySem.W.Frag} {mg:Str->Option Value} {base:Heap}
theorem z5g {x qual:Str} {st:Stmt} {f:Addr} {fd:FuncData} {N ps:List Str} {k:Nat} {G:Gc} (Fn:Fun K x qual st f fd) (S:za4 N ps (zai st)) : zav P w K mg base CX0 (k + 1) f fd ps (spD G ps.length fun _=>none) :=
 Fn.ok S (fun vs H Q E ⟨Hf,ds,d,s0,r,hn,e,_⟩=>by cases e) fun cdv A outer s H vs Q E hr ⟨Hf,ds,d,s0,r,hn,e,kq⟩=>by cases e
end
noncomputable def zqy : Hp:=fun _=>none
noncomputable def orH (A B:Hp) : Hp:=fun a=>match A a with
 | some o=>some o
 | none=>B a
theorem z9d {A B:Hp} : zas A (orH A B):=fun a o e=>by unfold orH; rw [e]
theorem z9c {A B:Hp} {a:Addr} {o:HO} (h:orH A B a=some o) : A a=some o\/(A a=none/\B a=some o):=by
 unfold orH at h;split at h
 ·rename_i e; rw [e]; exact .inl h
 ·rename_i e; exact .inr ⟨e,h⟩
theorem z9e {A B H:Hp} (a:zas A H) (b:zas B H) : zas B (orH A B):=fun l o e=>by
 unfold orH;split
 ·rename_i u eu;rw [<- a l u eu,b l o e]
 ·exact e
section
variable {G:Gc} {Hf0 H0 Hf H Hl H' H2:Hp} {σ:St} {ρ:List Sl}
theorem Ext.or (s:zas Hf H) (x:Ext zqy H Hl H') : Ext Hf H (orH Hf Hl) H':=by
 refine ⟨z9d,x.h,fun a o e=>?_,fun l o e t=>?_⟩
 ·rcases z9c e with e | ⟨_,e⟩
  ·exact x.h _ _ (s _ _ e)
  ·exact x.s _ _ e
 ·have:=x.n l o e t;unfold orH;split
  ·rename_i u eu; exact eu.symm
  ·rename_i eu; rw [this,eu]; rfl
theorem Ext.fresh (x:Ext zqy H Hl H') {a:Addr} {us:List V} (h:Hl a=some (.lst us)) : H a=none:=by
 cases e : H a with
 | none=>rfl
 | some o =>
  have e1:=x.h _ _ e;rw [x.s _ _ h] at e1;cases e1;have e2:=x.n a _ e rfl;rw [h] at e2;cases e2
theorem zal.setAny {i:Nat} {v:V} (h:zal G Hf0 H0 Hf H σ ρ) : zal G Hf0 H0 Hf H (σ.set i (some v)) (ρ.set i .no):=by
 refine ⟨h.ext,by simpa using h.len,fun j u s a b=>?_,fun j k s t u w l a b c d' p q=>?_⟩
 ·rcases zch b with ⟨e,e',_⟩ | ⟨e,b⟩
  ·subst e'; trivial
  ·rcases zch a with ⟨e',_⟩ | ⟨_,a⟩
   ·exact absurd e' e
   ·exact h.at' j u s a b
 ·rcases zch a with ⟨e,e',_⟩ | ⟨e,a⟩
  ·subst e'; exact (p.calm rfl).elim
  ·rcases zch b with ⟨e2,e',_⟩ | ⟨e2,b⟩
   ·subst e'; exact (q.calm rfl).elim
   ·rcases zch c with ⟨e',_⟩ | ⟨_,c⟩
    ·exact absurd e' e
    ·rcases zch d' with ⟨e',_⟩ | ⟨_,d'⟩
     ·exact absurd e' e2
     ·exact h.dj j k s t u w l a b c d' p q
noncomputable def zeg (G:Gc) (Hf H:Hp) (σ:St) (ρ:List Sl) (a:Addr) : Prop:=∀ (j:Nat) (t:Sl) (w:V),ρ[j]?=some t->σ[j]?=some (some w)->Holds G Hf H t w a->False
theorem zeg.setAny {i:Nat} {v:V} {a:Addr} (h:zeg G Hf H σ ρ a) : zeg G Hf H (σ.set i (some v)) (ρ.set i .no) a:=fun j t w b c p=>by
 rcases zch b with ⟨e,e',_⟩ | ⟨e,b⟩
 ·subst e'; exact p.calm rfl
 ·rcases zch c with ⟨e',_⟩ | ⟨_,c⟩
  ·exact absurd e' e
  ·exact h j t w b c p
theorem zp6 {a:Addr} {x o:HO} (hx:H a=some x) (ht:zgl x=false) (no:zeg G Hf H σ ρ a) {j:Nat} {t:Sl} {w:V} (b:ρ[j]?=some t) (c:σ[j]?=some (some w)) : ∀ o' fp,t=.deep o'->OT G Hf H o' w fp->OT G Hf (upd H a o) o' w fp:=fun o' fp et r=>by
 subst et;refine r.frame (zas.refl _) fun y u hy hm=>?_
 by_cases e : y=a
 ·subst e
  rcases hm with hm | hm
  ·rw [hx] at hy; cases hy; rw [ht] at hm; cases hm
  ·exact (no j _ w b c ⟨fp,r,hm⟩).elim
 ·rw [zbi e]; exact hy
theorem zal.loose {a:Addr} {x o:HO} (h:zal G Hf0 H0 Hf H σ ρ) (h0:H0 a=none) (hf:Hf a=none) (hx:H a=some x) (ht:zgl x=false) (no:zeg G Hf H σ ρ a) : zal G Hf0 H0 Hf (upd H a o) σ ρ:=by
 have ne0 : ∀ b u,H0 b=some u->b≠a:=fun b u e z=>by subst z; rw [h0] at e; cases e
 have nef : ∀ b u,Hf b=some u->b≠a:=fun b u e z=>by subst z; rw [hf] at e; cases e
 refine ⟨⟨h.ext.f,fun b u e=>?_,fun b u e=>?_,h.ext.n⟩,h.len,fun j v t c b=>?_,fun i j s t v w l p q c d hs ht'=>?_⟩
 ·rw [zbi (ne0 b u e)]; exact h.ext.h b u e
 ·rw [zbi (nef b u e)]; exact h.ext.s b u e
 ·have q:=h.at' j v t c b
  cases hs : t.isOwn with
  | true =>
   obtain ⟨l,e1,e2,e3,e4⟩:=q.own hs;subst e1;refine .ofOwn hs ⟨l,rfl,e2,e3,e4.up (zas.refl _) fun o' ho'=>?_⟩;rw [zbi (fun z=>?_)]
   ·exact ho'
   ·subst z; exact no j t _ b c ((Holds.own hs).mpr rfl)
  | false =>
   cases t with
   | no=>trivial
   | im d=>exact q
   | val u=>exact q
   | deep oo =>
    obtain ⟨u,fp,e1,r,n,z⟩:=q;subst e1
    exact ⟨u,fp,rfl,zp6 hx ht no b c oo fp rfl r,n,z⟩
   | _=>cases hs
 ·exact h.dj i j s t v w l p q c d ((h.at' i _ s c p).back (zp6 hx ht no p c) hs) ((h.at' j _ t d q).back (zp6 hx ht no q d) ht')
theorem zeg.loose {a b:Addr} {x o:HO} (h:zal G Hf0 H0 Hf H σ ρ) (hx:H a=some x) (ht:zgl x=false) (no:zeg G Hf H σ ρ a) (nb:zeg G Hf H σ ρ b) : zeg G Hf (upd H a o) σ ρ b:=fun j t w p c q=>nb j t w p c ((h.at' j _ t c p).back (zp6 hx ht no p c) q)
theorem zeg.of (h:zal G Hf0 H0 Hf H σ ρ) (s:zas H H2) {a:Addr} (ha:H a=none) : zeg G Hf H2 σ ρ a:=fun j t w p c q=>by
 obtain ⟨o,ho,_⟩:=(h.at' j _ t c p).there ((h.at' j _ t c p).back (fun o fp _ r=>r.up (zas.refl _) s) q);rw [ha] at ho;cases ho
theorem yd3 {K:PySem.W.Frag} {a:Addr} {us us':List V} {u:V} {t:Value} (ha:H a=some (.lst us)) (h:zdv K H u t) : zdv K (upd H a (.lst us')) u t:=by
 have ne : ∀ {b:Addr} {o:HO},H b=some o->(∀ vs,o≠.lst vs)->upd H a (.lst us') b=some o:=fun {b o} e k=>by
  rw [zbi (fun z=>?_)]
  ·exact e
  ·subst z; rw [ha] at e; cases e; exact k _ rfl
 cases h with
 | non=>exact .non
 | bl x=>exact .bl x
 | int i=>exact .int i
 | str x=>exact .str x
 | flt x=>exact .flt x
 | @lst b vs e =>
  by_cases z : b=a
  ·subst z; exact .lst zcd
  ·exact .lst (by rw [zbi z]; exact e)
 | frz e=>exact .frz (ne e fun _ z=>by cases z)
 | tup e=>exact .tup (ne e fun _ z=>by cases z)
 | dK e=>exact .dK (ne e fun _ z=>by cases z)
 | dT e=>exact .dT (ne e fun _ z=>by cases z)
 | ins e cl ha' hn htk hm=>exact .ins (ne e fun _ z=>by cases z) cl ha' hn htk hm
end
noncomputable def z2n (G:Gc) (f:List Sl->Option D) : TE:=fun σ H Q=>∃ Hf0 H0 Hf ρ d,zal G Hf0 H0 Hf H σ ρ/\f ρ=some d/\∀ v Hl H',Ext zqy H Hl H'->Rep G Hl d v->Q v H'
noncomputable def zqa (m:List D->Option D) (k:Nat) (ρ:List Sl) : Option D:=match ρ[k]? with
 | some (.im (.str z))=>m [.str z]
 | _=>none
structure Ls (G:Gc) (Hf0 H0 Hf Hl H:Hp) (σ:St) (ρ:List Sl) (v:V) (d:D) : Prop where
 so : zal G Hf0 H0 Hf H σ ρ
 rep : Rep G Hl d v
 sub : zas Hl H
 fr : ∀ a us,Hl a=some (.lst us)->H0 a=none/\Hf a=none/\zeg G Hf H σ ρ a
noncomputable def zvr (c:Str->Addr) (X:Cx) (st:Stmt) (i j:Nat) (ok:D->Bool) (fg:List Sl->List Sl) : Prop:=∃ t3,PS X st t3/\∀ (E:zf2) (σ:St) (H:Hp) (v:V) (d:D) (Hf0 H0 Hf Hl:Hp) (ρ:List Sl),
 Ls (Gx c X) Hf0 H0 Hf Hl H σ ρ v d->σ[i]?=some (some v)->ok d=true->j < ρ.length->(∀ σ' H',zal (Gx c X) Hf0 H0 Hf H' σ' (fg ρ)->E.nx σ' H')->t3 E σ H
noncomputable def ybu : Fl->Option Fl
 | .rt d=>some (.rt d)
 | _=>none
noncomputable def zkr (i j:Nat) (f:List Sl->Option D) (t:List Sl->Option Bool) (F2:List Sl->Option Fl) (ok:D->Bool) (fg:List Sl->List Sl) (ρ:List Sl) : Option Fl:=(f ρ).bind fun d=>(t (ρ.set i (.im d))).bind fun b =>
 if b then (F2 (ρ.set i (.im d))).bind ybu else if ok d=true/\i < ρ.length/\j < ρ.length then some (.nx (fg (ρ.set i .no))) else none
section
variable {c:Str->Addr} {X:Cx} {k:Nat} {f:Addr} {fd:FuncData} {ps:List Str} {x y:Str} {p pos pos' q1:Pos}
theorem yak (kk:Nat) {m:List D->Option D} (F:zav X.prog X.w X.K X.mg X.base CX0 k f fd ps (spD (Gx c X) ps.length m)) (hr:zbz k X.A) (hg:Gl X x) (hm:X.mg x=some (.ref f)) (hk:PySem.W.keepIn X.K (.ref f)=true) (hb:zay X.K fd ps []) (hy:PE X (.Name y q1) (zc8 kk))
  (hl:1=ps.length:=by rfl) (hdb:(x==("__debug__" : Str))=false:=by decide) (he:starEach [.Name y q1] X.env=(false,eval (.Name y q1) X.env)::starEach [] X.env:=by rfl) (hpl:(backTo pos (starEach [] X.env)).any (·.1)=false:=by rfl) :
  PE X (.Call (.Name x p) [.Name y q1] [] pos) (z2n (Gx c X) (zqa m kk)):=PE.imp (zjp F hr hg hm hk hb .nil zfy (zct hy zde he) hdb he hpl) fun σ H Q q_=>by
 obtain ⟨Hf0,H0,Hf,ρ,d,st,ef,kq⟩:=q_;unfold zqa at ef;split at ef
 ·rename_i z es;obtain ⟨v,ev,r⟩:=st.imm es;cases (show v=V.str z from r);refine ⟨_,ev,?_⟩;dsimp only;exact ⟨zqy,[.str z],d,(fun _ _ e=>by cases e),.cons rfl .nil,hl,ef,fun v Hl H' x1 r1=>kq v Hl H' x1 r1⟩
 ·cases ef
theorem z4z (i j:Nat) {s1 s3:Stmt} {cd:Expr} {b2 zbp:List Stmt} {p2:Pos} {fc:List Sl->Option D} {t:List Sl->Option Bool} {F2 F:List Sl->Option Fl} {ok:D->Bool} {fg:List Sl->List Sl}
  (h1:PS X s1 (zik (z2n (Gx c X) fc) (zhi i))) (hT:DT c X cd t) (hb:DSs c X b2 F2) (h3:zvr c X s3 i j ok fg) (hr:DSs c X zbp F) : DSs c X (s1::.If cd b2 [] p2::s3::zbp) (zah (zkr i j fc t F2 ok fg) F):=by
 obtain ⟨t3,h3,hs⟩:=h3;refine PSs.imp (zjr h1 (zjr (zrk hT hb zk9) (zjr h3 hr))) fun E σ H q_=>?_;obtain ⟨Hf0,H0,Hf,ρ,o,so,ef,k⟩:=q_;unfold zah zkr at ef
 cases e1 : fc ρ with
 | none=>rw [e1] at ef; cases ef
 | some d =>
  rw [e1,Option.bind_some] at ef
  cases e2 : t (ρ.set i (.im d)) with
  | none=>rw [e2] at ef; cases ef
  | some b =>
   rw [e2,Option.bind_some] at ef;refine ⟨Hf0,H0,Hf,ρ,d,so,e1,fun v Hl H1 x1 r1=>?_⟩;have xo:=Ext.or so.sub x1;have so1:=(so.step xo).setIm (i:=i) (d:=d) (v:=v) (r1.up (z9e (so.sub.trans x1.h) x1.s));refine ⟨Hf0,H0,orH Hf Hl,ρ.set i (.im d),b,so1,e2,fun Hf2 H2 x2=>?_⟩
   cases b with
   | true =>
    rw [if_pos rfl] at ef ⊢
    cases e3 : F2 (ρ.set i (.im d)) with
    | none=>rw [e3] at ef; cases ef
    | some o2 =>
     rw [e3,Option.bind_some] at ef
     cases o2 with
     | rt d2 =>
      cases ef
      exact ⟨Hf0,H0,Hf2,_,.rt d2,so1.step x2,e3,k⟩
     | _=>cases ef
   | false =>
    rw [if_neg Bool.false_ne_true] at ef ⊢;split at ef
    ·rename_i hok;obtain ⟨hok,hi,hj⟩:=hok;have s2:=x1.h.trans x2.h;have so2:=so.step (Ext.grow so.sub s2);have hi' : i < σ.length:=by rw [so.len]; exact hi
     refine hs _ (σ.set i (some v)) H2 v d Hf0 H0 Hf Hl (ρ.set i .no) ⟨so2.setAny,r1,x1.s.trans x2.h,fun a us ha=>?_⟩ (List.getElem?_set_self hi') hok (by rw [List.length_set]; exact hj) fun σ' H' so'=>⟨Hf0,H0,Hf,_,o,so',ef,k⟩;have hn:=x1.fresh ha;exact ⟨so.ext.h.free hn,so.sub.free hn,(zeg.of so s2 hn).setAny⟩
    ·cases ef
noncomputable def zgj : D->Nat
 | .lst ys=>ys.length
 | _=>0
noncomputable def zq8 : D->Bool
 | .tup ds=>ds.all fun x=>(tyN x).isSome && decide (zgj x + ds.length < 16777216)
 | _=>false
noncomputable def Lk (G:Gc) (H0 Hf H:Hp) (σ:St) (ρ:List Sl) (n:Nat) (u:V) (d:D) : Prop:=∃ t,tyN d=some t/\zdv G.K H u (.type t)/\(t="list" -> ∃ b us,u=.ref b/\H b=some (.lst us)/\us.length<=zgj d + n/\H0 b=none/\Hf b=none/\zeg G Hf H σ ρ b)
noncomputable def z2m (j:Nat) (K:PySem.W.Frag) : TT:=tB (fun σ H Q=>zil (zc8 j) (zil (tC (.ty "list")) zhw) σ H fun xs H1=>∃ x T t b,xs=[x,.ty T]/\zdv K H1 x t/\PySem.W.kitOne K t (.type T)=some b/\Q (.bl b) H1)
theorem yau {j:Nat} {y:Str} {p q pos q1:Pos} (hg:Gl X "isinstance") (hm:X.mg "isinstance"=none) (hgy:Gl X "list") (hmy:X.mg "list"=none) (ha:PE X (.Name y q) (zc8 j))
  (hs:starEach [.Name y q,.Name "list" q1] X.env=(false,eval (.Name y q) X.env)::starEach [.Name "list" q1] X.env:=by rfl) (hs2:starEach [.Name "list" q1] X.env=(false,eval (.Name "list" q1) X.env)::starEach [] X.env:=by rfl)
  (hpl:(backTo pos (starEach [.Name "list" q1] X.env)).any (·.1)=false:=by rfl) : PT X (.Call (.Name "isinstance" p) [.Name y q,.Name "list" q1] [] pos) (z2m j X.K) :=
 yav (zri zwb hg hm boot_isinstance (zct ha (zct (zz3 (v:=.ty "list") hgy hmy boot_list rfl) zde hs2) hs) (by decide) (by decide) hs hpl)
theorem ycv (i j:Nat) {z:Str} {pf pt px pb:Pos} {cd:Expr} {sa:Stmt} (hk:zir X.K "list") (hp:PassesOwn (model X.prog X.w) X.A X.env X.xe) (hc:X.calm=true) (hx:PE X (.Name x px) (zc8 i)) (hg:PG X (.Name y pt) (zhi j))
  (hcd:PT X cd (z2m j X.K)) (ha:PS X sa (zr2 (tBM X.K "list" zrl (zc8 j) (zil (tC (.str z)) zhw)))) (hs:∀ x',foldedSetIterable (.Name x px) X.env x'=pure x':=by intro _; rfl) :
  zvr c X (.For (.Name y pt) (.Name x px) [.If cd [sa] [] pb] [] pf) i j zq8 (fun ρ=>ρ.set j .no):=by
 refine ⟨_,z0q hp hc (z0g hx) hg (zjr (zrk hcd (zjr ha zk9) zk9) zk9) hs,fun E σ H v d Hf0 H0 Hf Hl ρ L ev hok hjr kq=>?_⟩
 cases d <;> first | (cases hok; done) | skip
 rename_i ds;obtain ⟨a,vs,rfl,hv,rs⟩:=L.rep;refine ⟨_,ev,a,rfl,⟨vs,SqT.of (L.sub _ _ hv)⟩,?_⟩;have hln:=rs.length
 have hall : ∀ x∈ds,(tyN x).isSome=true/\zgj x + ds.length < 16777216:=fun x hx=>by
  have:=List.all_eq_true.mp hok x hx;rw [Bool.and_eq_true] at this;exact ⟨this.1,of_decide_eq_true this.2⟩
 refine z5k (xs:=vs) (fun n σ' H'=>zal (Gx c X) Hf0 H0 Hf H' σ' (ρ.set j .no)/\H' a=some (.tup vs)/\∀ (m:Nat) (u:V) (dm:D),vs[m]?=some u->ds[m]?=some dm->Lk (Gx c X) H0 Hf H' σ' (ρ.set j .no) n u dm) ⟨L.so.setNo,L.sub _ _ hv,fun m u dm e1 e2=>?_⟩ (fun n σ' H' _ q=>SqT.of q.2.1) (fun n u σ' H' eu q=>?_) fun σ' H' q=>kq σ' H' q.1
 ·obtain ⟨u',e3,r⟩:=rs.get e2;rw [e1] at e3;cases e3;obtain ⟨hz,_⟩:=hall dm (List.mem_of_getElem? e2);obtain ⟨t,et⟩:=Option.isSome_iff_exists.mp hz;refine ⟨t,et,yd2 L.sub (z2w et r),fun e=>?_⟩;subst e
  cases dm <;> first | (simp [tyN] at et; done) | skip
  rename_i ys;obtain ⟨b,us,rfl,hb,rr⟩:=r;obtain ⟨q1,q2,q3⟩:=L.fr b us hb
  exact ⟨b,us,rfl,L.sub _ _ hb,by rw [<- rr.length]; exact Nat.le_refl _,q1,q2,fun jj t w p c' hh=>by
   rcases zch p with ⟨e,e',_⟩ | ⟨e,p⟩
   ·subst e'; exact hh.calm rfl
   ·exact q3 jj t w p c' hh⟩
 ·obtain ⟨so',ha',hlk⟩:=q;have so3:=so'.setAny (i:=j) (v:=u);rw [List.set_set] at so3;have hnl : n < ds.length:=by rw [hln]; exact (List.getElem?_eq_some_iff.mp eu).1
  have ed : ds[n]?=some ds[n]:=by simp [hnl]
  obtain ⟨t,et,ty,hlist⟩:=hlk n u ds[n] eu ed;obtain ⟨_,hsz⟩:=hall ds[n] (List.getElem_mem hnl);have hj : j < σ'.length:=by rw [so'.len,List.length_set]; exact hjr
  ·have ej : (σ'.set j (some u))[j]?=some (some u):=List.getElem?_set_self hj
   have lk' : ∀ (m:Nat) (u':V) (dm:D),vs[m]?=some u'->ds[m]?=some dm->Lk (Gx c X) H0 Hf H' (σ'.set j (some u)) (ρ.set j .no) n u' dm:=fun m u' dm e1 e2=>by
    obtain ⟨t',et',ty',hl'⟩:=hlk m u' dm e1 e2;refine ⟨t',et',ty',fun e=>?_⟩;obtain ⟨b,us,z1,z2,z3,z4,z5,z6⟩:=hl' e;have:=z6.setAny (i:=j) (v:=u);rw [List.set_set] at this;exact ⟨b,us,z1,z2,z3,z4,z5,this⟩
   refine ⟨u,ej,⟨u,"list",.type t,_,rfl,ty,hk t (z2v et),_,rfl,?_⟩⟩
   by_cases htl : t="list"
   ·subst htl;obtain ⟨b,us,rfl,hb,hle,h0,hf,lo⟩:=hlist rfl
    have lo3 : zeg (Gx c X) Hf H' (σ'.set j (some (.ref b))) (ρ.set j .no) b:=by
     have:=lo.setAny (i:=j) (v:=.ref b);rw [List.set_set] at this;exact this
    show (if _ then _ else _);rw [if_pos (by decide)];refine ⟨_,ej,.inl ⟨rfl,_,SqL.of hb⟩,b,us,_,rfl,rfl,hb,by rw [sizeLine_eq]; omega,?_⟩;refine ⟨so3.loose h0 hf hb rfl lo3,?_,fun m u' dm e1 e2=>?_⟩
    ·rw [zbi (fun z=>?_)]
     ·exact ha'
     ·subst z; rw [hb] at ha'; cases ha'
    ·obtain ⟨t',et',ty',hl'⟩:=lk' m u' dm e1 e2;refine ⟨t',et',yd3 hb ty',fun e=>?_⟩;obtain ⟨b',us',z1,z2,z3,z4,z5,z6⟩:=hl' e;have lo':=zeg.loose (o:=.lst (us++[.str z])) so3 hb rfl lo3 z6
     by_cases hbb : b'=b
     ·subst hbb;rw [hb] at z2;cases z2;exact ⟨b',us++[.str z],z1,zcd,by rw [List.length_append,List.length_singleton]; omega,z4,z5,lo'⟩
     ·exact ⟨b',us',z1,by rw [zbi hbb]; exact z2,by omega,z4,z5,lo'⟩
   ·have hb : (t == "list" || (t == "bool" && ("list" : String) == "int"))=false:=by
     rw [show (("list" : String) == "int")=false from by decide,Bool.and_false,Bool.or_false];exact beq_eq_false_iff_ne.mpr htl
    show (if _ then _ else _);rw [if_neg (by rw [hb]; exact Bool.false_ne_true)];refine ⟨so3,ha',fun m u' dm e1 e2=>?_⟩;obtain ⟨t',et',ty',hl'⟩:=lk' m u' dm e1 e2;refine ⟨t',et',ty',fun e=>?_⟩;obtain ⟨b',us',z1,z2,z3,z4,z5,z6⟩:=hl' e;exact ⟨b',us',z1,z2,by omega,z4,z5,z6⟩
end
noncomputable def tML (G:Gc) (i:Nat) (f:Xa) : TA:=fun σ H Q=>∃ Hf0 H0 Hf ρ ds ρ' l,zal G Hf0 H0 Hf H σ ρ/\σ[i]?=some (some (.ref l))/\f ρ=some (ds,ρ')/\∀ vs Hf' H',zas Hf Hf'->zal G Hf0 H0 Hf' H' σ ρ'->zao G Hf' ds vs->Q (vs++[.ref l]) H'
structure DML (c:Str->Addr) (X:Cx) (es:List Expr) (i:Nat) (f:Xa) : Prop where
 pa : PA X es (tML (Gx c X) i f)
 len : ∀ ρ ds ρ',f ρ=some (ds,ρ')->ds.length + 1=es.length
noncomputable def zhm (i:Nat) (m:Addr->List D->List D->List D->Option (List D×D)) (f:Xa) : Xe:=fun ρ=>match ρ[i]? with
 | some (.pin _ _)=>(f ρ).bind fun p=>match p.2[i]? with
  | some (.pin l xs)=>(m l p.1 [] xs).map fun q=>(q.2,p.2.set i (.pin l q.1))
  | _=>none
 | _=>none
open Classical in
noncomputable def zib (i:Nat) (m:Addr->List D->List D->List D->Option (List D×D)) (f:Xa) : Xe:=fun ρ=>match ρ[i]? with
 | some (.own _)=>(f ρ).bind fun p=>match p.2[i]? with
  | some (.own xs)=>if h : ∃ q,∀ l,m l p.1 [] xs=some q then some (h.choose.2,p.2.set i (.own h.choose.1)) else none
  | _=>none
 | _=>none
section
variable {c:Str->Addr} {X:Cx} {k n0:Nat} {f:Addr} {fd:FuncData} {ps:List Str} {x:Str} {p pos pos':Pos} {e:Expr} {es:List Expr} {fa:Xa} {i:Nat}
theorem zi2 (i:Nat) {x:Str} (hN:X.N[i]?=some x:=by rfl) (hv:Vis X.env.scope x:=by first | exact Or.inl rfl | exact Or.inr (Or.inl rfl) | exact Or.inr (Or.inr rfl)) (hd:(x==("__debug__" : Str))=false:=by decide)
  (hcd:(x==("__classdict__" : Str))=false:=by decide) (hs:starEach [.Name x pos] X.env=(false,eval (.Name x pos) X.env)::starEach [] X.env:=by rfl) : DML c X [.Name x pos] i zaa :=
 ⟨PA.imp (zct (zhr hN hv hd hcd) zde hs) fun σ H Q ⟨Hf0,H0,Hf,ρ,ds,ρ',l,st,el,ef,k⟩=>by
  cases ef;exact ⟨_,el,k [] Hf H (zas.refl _) st rfl⟩,fun ρ ds ρ' h=>by cases h; rfl⟩
theorem zhe {g:Xe} {h':Xa} (ha:DX c X e g) (hr:DML c X es i h') (hs:starEach (e::es) X.env=(false,eval e X.env)::starEach es X.env:=by rfl) : DML c X (e::es) i (zac g h'):=by
 refine ⟨PA.imp (zct ha hr.pa hs) fun σ H Q ⟨Hf0,H0,Hf,ρ,ds,ρ',l,st,el,ef,k⟩=>?_,fun ρ ds ρ' h=>?_⟩
 ·obtain ⟨d,r,ρ1,e1,e2,rfl⟩:=zqb ef;exact ⟨Hf0,H0,Hf,ρ,d,ρ1,st,e1,fun v Hf1 H1 f1 st1 r1=>⟨Hf0,H0,Hf1,ρ1,r,ρ',l,st1,el,e2,fun vs Hf2 H2 f2 st2 r2=>k (v::vs) Hf2 H2 (f1.trans f2) st2 (.cons (r1.up f2) r2)⟩⟩
 ·obtain ⟨d,r,ρ1,e1,e2,rfl⟩:=zqb h;rw [List.length_cons,List.length_cons,hr.len ρ1 r ρ' e2]
theorem znj {m:Addr->List D->List D->List D->Option (List D×D)} (F:zav X.prog X.w X.K X.mg X.base CX0 k f fd ps (spM (Gx c X) n0 ps.length m)) (hr:zbz k X.A) (hg:Gl X x) (hm:X.mg x=some (.ref f)) (hk:PySem.W.keepIn X.K (.ref f)=true) (hb:zay X.K fd ps []) (ha:DML c X (e::es) i fa)
  (hl:(e::es).length=ps.length:=by rfl) (h0:(e::es).length=n0 + 1:=by rfl) (hdb:(x==("__debug__" : Str))=false:=by decide) (he:starEach (e::es) X.env=(false,eval e X.env)::starEach es X.env:=by rfl) (hpl:(backTo pos (starEach es X.env)).any (·.1)=false:=by rfl) :
  DX c X (.Call (.Name x p) (e::es) [] pos) (zhm i m fa):=PE.imp (zjp F hr hg hm hk hb .nil zfy ha.pa hdb he hpl) fun σ H Q q_=>by
 obtain ⟨Hf0,H0,Hf,ρ,d,ρ',st,ef,kq⟩:=q_;unfold zhm at ef;split at ef
 ·rename_i l0 xs0 eo0
  cases e1 : fa ρ with
  | none=>rw [e1] at ef; cases ef
  | some pp =>
   obtain ⟨ds,ρ1⟩:=pp;rw [e1,Option.bind_some] at ef;dsimp only at ef;split at ef
   ·rename_i l xs eo
    cases e2 : m l ds [] xs with
    | none=>rw [e2] at ef; cases ef
    | some q =>
     rw [e2] at ef;cases ef;obtain ⟨l1,el,_,_,_,_,_,_⟩:=st.ownAt (s:=.pin l0 xs0) rfl eo0;refine ⟨Hf0,H0,Hf,ρ,ds,ρ1,l1,st,el,e1,fun vs Hf' H' f1 st1 r=>?_⟩;dsimp only;rw [List.append_nil];obtain ⟨l2,el2,h02,hf2,eq2,us2,hu2,rx2⟩:=st1.ownAt (s:=.pin l xs) rfl eo;subst eq2;rw [el] at el2;cases el2;have hn:=ha.len ρ ds _ e1;exact ⟨Hf',ds,[],xs,q.1,q.2,l1,us2,vs,[],rfl,st1.sub,hf2,hu2,r,rfl,rx2,by omega,by rw [List.length_nil]; omega,e2,fun v Hf3 H3 us3 x3 hf3 hu3 rx3 r3=>kq v Hf3 H3 (f1.trans x3.f) (st1.back (s:=.pin l1 xs) (s':=.pin l1 q.1) rfl rfl eo el x3 hf3 ⟨rfl,us3,hu3,rx3⟩) r3⟩
   ·cases ef
 ·cases ef
theorem zxa {m:Addr->List D->List D->List D->Option (List D×D)} (F:zav X.prog X.w X.K X.mg X.base CX0 k f fd ps (spM (Gx c X) n0 ps.length m)) (hr:zbz k X.A) (hg:Gl X x) (hm:X.mg x=some (.ref f)) (hk:PySem.W.keepIn X.K (.ref f)=true) (hb:zay X.K fd ps []) (ha:DML c X (e::es) i fa)
  (hl:(e::es).length=ps.length:=by rfl) (h0:(e::es).length=n0 + 1:=by rfl) (hdb:(x==("__debug__" : Str))=false:=by decide) (he:starEach (e::es) X.env=(false,eval e X.env)::starEach es X.env:=by rfl) (hpl:(backTo pos (starEach es X.env)).any (·.1)=false:=by rfl) :
  DX c X (.Call (.Name x p) (e::es) [] pos) (zib i m fa):=PE.imp (zjp F hr hg hm hk hb .nil zfy ha.pa hdb he hpl) fun σ H Q q_=>by
 obtain ⟨Hf0,H0,Hf,ρ,d,ρ',st,ef,kq⟩:=q_;unfold zib at ef;split at ef
 ·rename_i xs0 eo0
  cases e1 : fa ρ with
  | none=>rw [e1] at ef; cases ef
  | some pp =>
   obtain ⟨ds,ρ1⟩:=pp;rw [e1,Option.bind_some] at ef;dsimp only at ef;split at ef
   ·rename_i xs eo;split at ef
    ·rename_i hq;have e2:=hq.choose_spec;generalize hq.choose=q at ef e2;cases ef;obtain ⟨l1,el,_,_,_,_,_⟩:=st.ownAt (s:=.own xs0) rfl eo0;refine ⟨Hf0,H0,Hf,ρ,ds,ρ1,l1,st,el,e1,fun vs Hf' H' f1 st1 r=>?_⟩;dsimp only;rw [List.append_nil];obtain ⟨l2,el2,h02,hf2,us2,hu2,rx2⟩:=st1.ownAt (s:=.own xs) rfl eo;rw [el] at el2;cases el2;have hn:=ha.len ρ ds _ e1;exact ⟨Hf',ds,[],xs,q.1,q.2,l1,us2,vs,[],rfl,st1.sub,hf2,hu2,r,rfl,rx2,by omega,by rw [List.length_nil]; omega,e2 l1,fun v Hf3 H3 us3 x3 hf3 hu3 rx3 r3=>kq v Hf3 H3 (f1.trans x3.f) (st1.back (s:=.own xs) (s':=.own q.1) rfl rfl eo el x3 hf3 ⟨us3,hu3,rx3⟩) r3⟩
    ·cases ef
   ·cases ef
 ·cases ef
end
theorem yed {Mo:Model} {Ar:Around} {Ex:Value->Shared->Prop} {st:Shared} {x y:Value} {T id:String} {Q:Value->Shared->Prop} (hx:st.TypeIs x T) (hy:st.TypeIs y T) (sl:Slot T (dunderI "add") id) (sq:isSeqSlot (some (.builtin id))=true)
  (nf:fillsNumberSlot (.type T) "add"=pure false) (go:wpAny Mo Ar (call (.builtin id) [x,y]) Q Ex st) : wpAny Mo Ar (inplaceOp .Add x y) Q Ex st:=by
 have no : fillsInplaceSlot (.type T) "add" true=pure false:=by
  simp only [fillsInplaceSlot,sl.lookup,pure_bind,sq];rfl
 unfold inplaceOp;apply wpAny_holding;refine wpAny_bind (wpAny_typeOf hx (wpAny_bind (wpAny_of_eq no (?_ : wpAny Mo Ar (ite (false=true) _ _) Q Ex st))));rw [if_neg (by decide)];exact wpAny_bind (wpAny_binaryOp1_none (nm:="add") hx hy nf (wpAny_bind (wpAny_of_eq (PySem.seqSlot_of sl.lookup sq) (wpAny_bind (wpAny_rule go)))))
section
variable {c:Str->Addr} {X:Cx} {e:Expr} {pos pos':Pos}
noncomputable def ya4 : TIp:=fun x y H Q=>∃ l b xs zs,x=.ref l/\y=.ref b/\H l=some (.lst xs)/\H b=some (.lst zs)/\xs.length + zs.length<=sizeLine/\Q (.ref l) (upd H l (.lst (xs++zs)))
theorem z6d : PIp X .Add ya4:=by
 rintro pins s σ H _ _ v u Q I rx ry ⟨l,b,xs,zs,rfl,rfl,h1,h2,hz,q⟩;cases rx;cases ry;obtain ⟨_,its,n,r,hl,e⟩:=I.lstM h1;obtain ⟨_,its2,n2,r2,hl2,e2⟩:=I.lstM h2;have hsz : its.toArray.size + its2.toArray.size<=sizeLine:=by simp only [List.size_toArray]; omega
 refine yed (T:="list") ⟨_,e,rfl⟩ ⟨_,e2,rfl⟩ F.slot_list_iadd (by decide +kernel) noFill_list_add (call_meets F.slot_list_iadd ⟨_,e,rfl⟩ F.entry_list_iadd (F.args_list_iadd_2 _ _)
  (AutoSeq1.list___iadd___list_list_0 l its.toArray n b its2.toArray n2 (by rw [z73 hsz]; simp) (by simp only [List.size_toArray]; omega) (by omega)) ⟨e,e2,.ref l,_,I.lset (its':=its++its2) h1 e (by simp) (r.append r2) (by rw [List.length_append]; omega),rfl,q⟩)
noncomputable def zgw (i:Nat) (f:Xe) (ρ:List Sl) : Option Fl:=match ρ[i]? with
 | some (.own _)=>(f ρ).bind fun p=>match p.2[i]?,p.1 with
  | some (.own xs),.lst ys=>if xs.length + ys.length<=16777216 then some (.nx (p.2.set i (.own (xs++ys)))) else none
  | _,_=>none
 | _=>none
theorem zne (i:Nat) {x:Str} {f:Xe} (hN:X.N.Nodup) (he:DX c X e f) (hi:X.N[i]?=some x:=by rfl) (hx:Loc X.env.scope x:=by first | exact Or.inl rfl | exact Or.inr rfl) (hf:X.fn x=true\/X.env.scope.names.lookup x=some .local:=by first | exact .inl rfl | exact .inr rfl) :
  DS c X (.AugAssign (.Name x pos') .Add e pos) (zgw i f):=PS.imp (z0p hN hi hx he z6d hf) fun E σ H q_=>by
 obtain ⟨Hf0,H0,Hf,ρ,o,so,ef,k⟩:=q_;unfold zgw at ef;split at ef
 ·rename_i xs0 es0
  cases e1 : f ρ with
  | none=>rw [e1] at ef; cases ef
  | some p =>
   rw [e1,Option.bind_some] at ef;split at ef
   ·rename_i xs ys es ed;split at ef
    ·rename_i hl;cases ef;obtain ⟨l,e2,h0,hf,vs0,q0,r0⟩:=so.ownAt (s:=.own xs0) rfl es0;obtain ⟨d,ρ1⟩:=p;dsimp only at ed es;subst ed;refine ⟨_,e2,Hf0,H0,Hf,ρ,_,ρ1,so,e1,fun v Hf' H' s so' r'=>?_⟩;obtain ⟨l2,e3,h02,hf2,vs,q,r⟩:=so'.ownAt (s:=.own xs) rfl es;rw [e2] at e3;cases e3;obtain ⟨b,zs,rfl,hb,rz⟩:=r';refine ⟨l,b,vs,zs,rfl,rfl,q,so'.sub _ _ hb,by rw [sizeLine_eq,<- r.length,<- rz.length]; exact hl,?_⟩
     have es' : σ.set i (some (.ref l))=σ:=by
      apply List.ext_getElem?;intro j
      by_cases hj : j=i
      ·subst hj;rw [List.getElem?_set_self ((List.getElem?_eq_some_iff.mp e2).1),e2]
      ·rw [List.getElem?_set_ne (Ne.symm hj)]
     show E.nx (List.set σ i (some (V.ref l))) _;rw [es'];exact k σ Hf' _ s (so'.mutd (s:=.own xs) (s':=.own (xs++ys)) rfl rfl es e2 ⟨vs++zs,zcd,r.append rz⟩)
    ·cases ef
   ·cases ef
 ·cases ef
end
noncomputable def znu (i:Nat) (f g:Xe) (ρ:List Sl) : Option Fl:=(f ρ).bind fun p=>(g p.2).bind fun q=>match p.1,q.1 with
 | .lst a,.lst b=>if a.length + b.length<=16777216 then some (.nx (q.2.set i (.own (a++b)))) else none
 | _,_=>none
section
variable {c:Str->Addr} {X:Cx} {a b:Expr} {pos pos' pos2:Pos}
theorem z4u (i:Nat) {x:Str} {f g:Xe} (hN:X.N.Nodup) (ha:DX c X a f) (hb:DX c X b g) (hi:X.N[i]?=some x:=by rfl) (hx:Loc X.env.scope x:=by first | exact Or.inl rfl | exact Or.inr rfl)
  (hs:swapsWith (.BinOp a .Add b pos2) (some (.Name x pos')) pos.line X.env=pure false:=by rfl) (hf:X.fn x=true\/X.env.scope.names.lookup x=some .local:=by first | exact .inl rfl | exact .inr rfl) :
  DS c X (.Assign [.Name x pos'] (.BinOp a .Add b pos2) pos) (znu i f g):=PS.imp (zjq hN hi hx (zrj zuk ha hb) hs hf) fun E σ H q_=>by
 obtain ⟨Hf0,H0,Hf,ρ,o,so,ef,k⟩:=q_;unfold znu at ef
 cases e1 : f ρ with
 | none=>rw [e1] at ef; cases ef
 | some p =>
  obtain ⟨d,ρ1⟩:=p;rw [e1,Option.bind_some] at ef;dsimp only at ef
  cases e2 : g ρ1 with
  | none=>rw [e2] at ef; cases ef
  | some q =>
   obtain ⟨d',ρ2⟩:=q;rw [e2,Option.bind_some] at ef;dsimp only at ef;split at ef
   ·split at ef
    ·rename_i xs ys hl;cases ef;refine ⟨Hf0,H0,Hf,ρ,_,ρ1,so,e1,fun v Hf1 H1 f1 st1 r1=>⟨Hf0,H0,Hf1,ρ1,_,ρ2,st1,e2,fun u Hf2 H2 f2 st2 r2=>?_⟩⟩;obtain ⟨l,vs,rfl,q1,s1⟩:=r1.up f2;obtain ⟨m,us,rfl,q2,s2⟩:=r2;refine ⟨l,m,vs,us,rfl,rfl,st2.sub _ _ q1,st2.sub _ _ q2,by rw [sizeLine_eq,<- s1.length,<- s2.length]; exact hl,fun p hp=>?_⟩;exact k _ Hf2 _ (f1.trans f2) (st2.setOwn (s:=.own (xs++ys)) rfl (Ext.tmp st2.sub hp) hp (st2.sub.free hp) ⟨vs++us,zcd,s1.append s2⟩)
    ·cases ef
   ·cases ef
end
end L2
namespace N_k74
open PySem PySem.Spec PyProof.Rows L2
local macro_rules | `(tactic| walk_at "sc")=>`(tactic| exact ⟨rfl,rfl,rfl,by decide +kernel,rfl,by decide +kernel,by decide +kernel⟩)
noncomputable def top (i:Nat) : Stmt:=PySem.Challenge.pw_standstill_k74_bodies_read.main.body.getD i (.Pass ⟨0,0,0,0⟩)
noncomputable abbrev zmi : Stmt:=top 9
noncomputable abbrev zlh : Stmt:=top 10
noncomputable abbrev zmn : Stmt:=top 11
noncomputable abbrev zmg : Stmt:=top 12
noncomputable abbrev zmc : Stmt:=top 13
noncomputable abbrev zly : Stmt:=top 15
noncomputable abbrev zli : Stmt:=top 16
noncomputable abbrev s_0 : Stmt:=top 19
noncomputable abbrev zmd : Stmt:=top 20
noncomputable abbrev zlj : Stmt:=top 21
noncomputable abbrev zln : Stmt:=top 22
noncomputable abbrev s_4 : Stmt:=top 23
noncomputable abbrev zl6 : Stmt:=top 24
noncomputable abbrev s_7 : Stmt:=top 25
noncomputable abbrev zlo : Stmt:=top 26
noncomputable abbrev s_5 : Stmt:=top 27
noncomputable abbrev zmk : Stmt:=top 28
noncomputable abbrev zme : Stmt:=top 29
noncomputable abbrev zlk : Stmt:=top 30
noncomputable abbrev zlz : Stmt:=top 31
noncomputable abbrev zmj : Stmt:=top 32
noncomputable abbrev zmm : Stmt:=top 33
noncomputable abbrev zlp : Stmt:=top 34
noncomputable abbrev s_8 : Stmt:=top 35
noncomputable abbrev zlq : Stmt:=top 36
noncomputable abbrev zld : Stmt:=top 37
noncomputable abbrev zml : Stmt:=top 38
noncomputable abbrev zl0 : Stmt:=top 39
noncomputable abbrev zmh : Stmt:=top 40
noncomputable abbrev zl1 : Stmt:=top 41
noncomputable abbrev zlc : Stmt:=top 42
noncomputable abbrev s_9 : Stmt:=top 43
noncomputable abbrev zmo : Stmt:=zc0 (top 17) 0
noncomputable abbrev s_2 : Stmt:=zc0 (top 17) 1
noncomputable abbrev zle : Stmt:=zc0 (top 17) 2
noncomputable abbrev s_1 : Stmt:=zc0 (top 17) 3
noncomputable abbrev s_6 : Stmt:=zc0 (top 17) 4
noncomputable abbrev zmf : Stmt:=zc0 (top 17) 5
noncomputable abbrev zl7 : Stmt:=zc0 (top 17) 6
noncomputable abbrev zl4 : Stmt:=zc0 (top 17) 7
noncomputable abbrev zl8 : Stmt:=zc0 (top 17) 8
noncomputable abbrev s_3 : Stmt:=zc0 (top 17) 9
noncomputable abbrev zl9 : Stmt:=zc0 (top 17) 10
noncomputable abbrev zlr : Stmt:=zc0 (top 17) 11
noncomputable abbrev zlg : Stmt:=zc0 (top 17) 12
noncomputable abbrev zll : Stmt:=zc0 (top 17) 13
noncomputable abbrev zlf : Stmt:=zc0 (top 17) 14
noncomputable abbrev zma : Stmt:=zc0 (top 17) 15
noncomputable abbrev zls : Stmt:=zc0 (top 17) 16
noncomputable abbrev zlt : Stmt:=zc0 (top 17) 17
noncomputable abbrev zl2 : Stmt:=zc0 (top 17) 18
noncomputable abbrev zmb : Stmt:=zc0 (top 17) 19
noncomputable abbrev zl5 : Stmt:=zc0 (top 17) 20
noncomputable abbrev zlu : Stmt:=zc0 (top 17) 21
noncomputable abbrev zlv : Stmt:=zc0 (top 17) 22
noncomputable abbrev zl3 : Stmt:=zc0 (top 17) 23
noncomputable abbrev zlm : Stmt:=zc0 (top 17) 24
noncomputable abbrev zlw : Stmt:=zc0 (top 17) 25
noncomputable abbrev zlx : Stmt:=zc0 (top 17) 26
theorem z1w : za4 ["line","spaced","sign"] ["line"] (zai zmi):=by walk_at "sc"
theorem yb1 : za4 ["word","signs","most"] ["word","signs","most"] (zai zlh):=by walk_at "sc"
theorem ycd : za4 ["word"] ["word"] (zai zmn):=by walk_at "sc"
theorem ycb : za4 ["word"] ["word"] (zai zmg):=by walk_at "sc"
theorem z1u : za4 ["word","figures"] ["word"] (zai zmc):=by walk_at "sc"
theorem zuw : za4 ["line","reader","row"] ["line"] (zai zly):=by walk_at "sc"
theorem yb2 : za4 ["listed","most"] ["listed","most"] (zai zli):=by walk_at "sc"
theorem ybz : za4 ["_law_state","_law_many"] ["_law_state","_law_many"] (zai s_0):=by walk_at "sc"
theorem zon : za4 ["_law_script","_law_many","_law_seeds_here","_law_at","_law_cell","_law_seed"] ["_law_script","_law_many"] (zai zmd):=by walk_at "sc"
theorem zrq : za4 ["_law_state","_law_many","_law_span","_law_word","_law_k"] ["_law_state","_law_many","_law_span"] (zai zlj):=by walk_at "sc"
theorem z1g : za4 ["_law_first"] ([] : List Str) (zai zln):=by walk_at "sc"
theorem zuz : za4 ["_law_state","_law_way","_law_word"] ["_law_state"] (zai s_4):=by walk_at "sc"
theorem z1o : za4 ["_law_state","_law_great"] ["_law_state"] (zai zl6):=by walk_at "sc"
theorem zoo : za4 ["_law_state","_law_number_here","_law_k"] ["_law_state"] (zai s_7):=by walk_at "sc"
theorem yb5 : za4 ["_law_state"] ["_law_state"] (zai zlo):=by walk_at "sc"
theorem z1v : za4 ["_law_state","_law_name_here"] ["_law_state"] (zai s_5):=by walk_at "sc"
theorem z1x : za4 ["_law_state","_law_thing_here"] ["_law_state"] (zai zmk):=by walk_at "sc"
theorem yb9 : za4 ["_law_state"] ["_law_state"] (zai zme):=by walk_at "sc"
theorem zrr : za4 ["_law_state","_law_many","_law_pairs_here","_law_k","_law_variable_here"] ["_law_state","_law_many"] (zai zlk):=by walk_at "sc"
theorem zrs : za4 ["_law_state","_law_word","_law_bound","_law_some"] ["_law_state"] (zai zlz):=by walk_at "sc"
theorem zu0 : za4 ["_law_state","_law_way","_law_one"] ["_law_state"] (zai zmj):=by walk_at "sc"
theorem ycc : za4 ["_law_state"] ["_law_state"] (zai zmm):=by walk_at "sc"
theorem zg3 : za4 ["_law_state","_law_way","_law_body_here","_law_pairs_here","_law_name_here","_law_at","_law_some","_law_low","_law_high"] ["_law_state"] (zai zlp):=by walk_at "sc"
theorem zop : za4 ["_law_thing_here","_law_words_here","_law_k","_law_arg_here"] ["_law_thing_here"] (zai s_8):=by walk_at "sc"
theorem zom : za4 ["_law_some","_law_state","_law_words_here","_law_thing_here","_law_worth"] ["_law_some","_law_state"] (zai zlq):=by walk_at "sc"
theorem zol : za4 ["_law_opening","_law_pairs_here","_law_words_here","_law_variable_here","_law_kind"] ["_law_opening","_law_pairs_here"] (zai zld):=by walk_at "sc"
theorem z1y : za4 ["_law_part_here","_law_state","_law_words_here"] ["_law_part_here","_law_state"] (zai zml):=by walk_at "sc"
theorem zrt : za4 ["_law_opening","_law_body_here","_law_state","_law_words_here","_law_part_here"] ["_law_opening","_law_body_here","_law_state"] (zai zl0):=by walk_at "sc"
theorem zru : za4 ["_law_row_here","_law_state","_law_words_here"] ["_law_row_here","_law_state"] (zai zmh):=by walk_at "sc"
theorem zii : za4 ["_law_words_here","_law_state","_law_line_here","_law_last","_law_word","_law_gap"] ["_law_words_here","_law_state"] (zai zl1):=by walk_at "sc"
theorem z1b : za4 ["_law_found","_law_due"] ["_law_found","_law_due"] (zai zlc):=by walk_at "sc"
theorem zhv : za4 ["_law_script","_law_many","_law_seed","_law_state","_law_due","_law_line_here","_law_found","_law_told"] ["_law_script"] (zai s_9):=by walk_at "sc"
theorem yce : za4 ["self","words"] ["self","words"] (zai zmo):=by walk_at "sc"
theorem z1f : za4 ["self","behind","place"] ["self","behind"] (zai s_2):=by walk_at "sc"
theorem z1c : za4 ["self","word"] ["self"] (zai zle):=by walk_at "sc"
theorem yb0 : za4 ["self","word"] ["self","word"] (zai s_1):=by walk_at "sc"
theorem ycf : za4 ["self","word"] ["self","word"] (zai s_6):=by walk_at "sc"
theorem yca : za4 ["self"] ["self"] (zai zmf):=by walk_at "sc"
theorem z1p : za4 ["self","word"] ["self"] (zai zl7):=by walk_at "sc"
theorem zux : za4 ["self","low","high"] ["self"] (zai zl4):=by walk_at "sc"
theorem z1q : za4 ["self","body"] ["self"] (zai zl8):=by walk_at "sc"
theorem z1l : za4 ["self","word"] ["self"] (zai s_3):=by walk_at "sc"
theorem z1r : za4 ["self","names"] ["self"] (zai zl9):=by walk_at "sc"
theorem z1h : za4 ["self","word"] ["self"] (zai zlr):=by walk_at "sc"
theorem z1e : za4 ["self","word"] ["self"] (zai zlg):=by walk_at "sc"
theorem yb3 : za4 ["self"] ["self"] (zai zll):=by walk_at "sc"
theorem z1d : za4 ["self","name"] ["self"] (zai zlf):=by walk_at "sc"
theorem z1s : za4 ["self","args"] ["self"] (zai zma):=by walk_at "sc"
theorem yb6 : za4 ["self"] ["self"] (zai zls):=by walk_at "sc"
theorem z1i : za4 ["self","body"] ["self"] (zai zlt):=by walk_at "sc"
theorem yb7 : za4 ["self"] ["self"] (zai zl2):=by walk_at "sc"
theorem z1t : za4 ["self","first"] ["self"] (zai zmb):=by walk_at "sc"
theorem zuy : za4 ["self","word","number"] ["self"] (zai zl5):=by walk_at "sc"
theorem z1j : za4 ["self","items"] ["self"] (zai zlu):=by walk_at "sc"
theorem z1k : za4 ["self","worth"] ["self"] (zai zlv):=by walk_at "sc"
theorem yb8 : za4 ["self"] ["self"] (zai zl3):=by walk_at "sc"
theorem yb4 : za4 ["self"] ["self"] (zai zlm):=by walk_at "sc"
theorem z1m : za4 ["self","pairs"] ["self"] (zai zlw):=by walk_at "sc"
theorem z1n : za4 ["self","variable"] ["self"] (zai zlx):=by walk_at "sc"
set_option genInjectivity false
set_option genSizeOf false
structure Wa where
 f_52 : Addr
 fd_52 : FuncData
 f_15 : Addr
 fd_15 : FuncData
 f_57 : Addr
 fd_57 : FuncData
 f_50 : Addr
 fd_50 : FuncData
 f_46 : Addr
 fd_46 : FuncData
 f_32 : Addr
 fd_32 : FuncData
 f_16 : Addr
 fd_16 : FuncData
 f_0 : Addr
 fd_0 : FuncData
 f_47 : Addr
 fd_47 : FuncData
 f_17 : Addr
 fd_17 : FuncData
 f_21 : Addr
 fd_21 : FuncData
 f_4 : Addr
 fd_4 : FuncData
 f_40 : Addr
 fd_40 : FuncData
 f_7 : Addr
 fd_7 : FuncData
 f_22 : Addr
 fd_22 : FuncData
 f_5 : Addr
 fd_5 : FuncData
 f_54 : Addr
 fd_54 : FuncData
 f_48 : Addr
 fd_48 : FuncData
 f_18 : Addr
 fd_18 : FuncData
 f_33 : Addr
 fd_33 : FuncData
 f_53 : Addr
 fd_53 : FuncData
 f_56 : Addr
 fd_56 : FuncData
 f_23 : Addr
 fd_23 : FuncData
 f_8 : Addr
 fd_8 : FuncData
 f_24 : Addr
 fd_24 : FuncData
 f_11 : Addr
 fd_11 : FuncData
 f_55 : Addr
 fd_55 : FuncData
 f_34 : Addr
 fd_34 : FuncData
 f_51 : Addr
 fd_51 : FuncData
 f_35 : Addr
 fd_35 : FuncData
 f_10 : Addr
 fd_10 : FuncData
 f_9 : Addr
 fd_9 : FuncData
 f_58 : Addr
 fd_58 : FuncData
 f_2 : Addr
 fd_2 : FuncData
 f_12 : Addr
 fd_12 : FuncData
 f_1 : Addr
 fd_1 : FuncData
 f_6 : Addr
 fd_6 : FuncData
 f_49 : Addr
 fd_49 : FuncData
 f_41 : Addr
 fd_41 : FuncData
 f_38 : Addr
 fd_38 : FuncData
 f_42 : Addr
 fd_42 : FuncData
 f_3 : Addr
 fd_3 : FuncData
 f_43 : Addr
 fd_43 : FuncData
 f_25 : Addr
 fd_25 : FuncData
 f_14 : Addr
 fd_14 : FuncData
 f_19 : Addr
 fd_19 : FuncData
 f_13 : Addr
 fd_13 : FuncData
 f_44 : Addr
 fd_44 : FuncData
 f_26 : Addr
 fd_26 : FuncData
 f_27 : Addr
 fd_27 : FuncData
 f_36 : Addr
 fd_36 : FuncData
 f_45 : Addr
 fd_45 : FuncData
 f_39 : Addr
 fd_39 : FuncData
 f_28 : Addr
 fd_28 : FuncData
 f_29 : Addr
 fd_29 : FuncData
 f_37 : Addr
 fd_37 : FuncData
 f_20 : Addr
 fd_20 : FuncData
 f_30 : Addr
 fd_30 : FuncData
 f_31 : Addr
 fd_31 : FuncData
 C_Reader : Addr
structure Wd (K:PySem.W.Frag) (mg:Str->Option Value) (a:Wa) : Prop where
 F_52 : Fun K "words_of" "words_of" zmi a.f_52 a.fd_52
 b_52 : zay K a.fd_52 ["line"] []
 g_52 : mg "words_of"=some (.ref a.f_52)
 F_15 : Fun K "is_made_of" "is_made_of" zlh a.f_15 a.fd_15
 b_15 : zay K a.fd_15 ["word","signs","most"] []
 g_15 : mg "is_made_of"=some (.ref a.f_15)
 F_57 : Fun K "is_name" "is_name" zmn a.f_57 a.fd_57
 b_57 : zay K a.fd_57 ["word"] []
 g_57 : mg "is_name"=some (.ref a.f_57)
 F_50 : Fun K "is_variable" "is_variable" zmg a.f_50 a.fd_50
 b_50 : zay K a.fd_50 ["word"] []
 g_50 : mg "is_variable"=some (.ref a.f_50)
 F_46 : Fun K "is_number" "is_number" zmc a.f_46 a.fd_46
 b_46 : zay K a.fd_46 ["word"] []
 g_46 : mg "is_number"=some (.ref a.f_46)
 F_32 : Fun K "read_row" "read_row" zly a.f_32 a.fd_32
 b_32 : zay K a.fd_32 ["line"] []
 g_32 : mg "read_row"=some (.ref a.f_32)
 F_16 : Fun K "at_most" "at_most" zli a.f_16 a.fd_16
 b_16 : zay K a.fd_16 ["listed","most"] []
 g_16 : mg "at_most"=some (.ref a.f_16)
 F_0 : Fun K "_law_next" "_law_next" s_0 a.f_0 a.fd_0
 b_0 : zay K a.fd_0 ["_law_state","_law_many"] []
 g_0 : mg "_law_next"=some (.ref a.f_0)
 F_47 : Fun K "_law_seeds" "_law_seeds" zmd a.f_47 a.fd_47
 b_47 : zay K a.fd_47 ["_law_script","_law_many"] []
 g_47 : mg "_law_seeds"=some (.ref a.f_47)
 F_17 : Fun K "_law_small" "_law_small" zlj a.f_17 a.fd_17
 b_17 : zay K a.fd_17 ["_law_state","_law_many","_law_span"] []
 g_17 : mg "_law_small"=some (.ref a.f_17)
 F_21 : Fun K "_law_kept" "_law_kept" zln a.f_21 a.fd_21
 b_21 : zay K a.fd_21 ([] : List Str) []
 g_21 : mg "_law_kept"=some (.ref a.f_21)
 F_4 : Fun K "_law_name" "_law_name" s_4 a.f_4 a.fd_4
 b_4 : zay K a.fd_4 ["_law_state"] []
 g_4 : mg "_law_name"=some (.ref a.f_4)
 F_40 : Fun K "_law_variable" "_law_variable" zl6 a.f_40 a.fd_40
 b_40 : zay K a.fd_40 ["_law_state"] []
 g_40 : mg "_law_variable"=some (.ref a.f_40)
 F_7 : Fun K "_law_number" "_law_number" s_7 a.f_7 a.fd_7
 b_7 : zay K a.fd_7 ["_law_state"] []
 g_7 : mg "_law_number"=some (.ref a.f_7)
 F_22 : Fun K "_law_arg" "_law_arg" zlo a.f_22 a.fd_22
 b_22 : zay K a.fd_22 ["_law_state"] []
 g_22 : mg "_law_arg"=some (.ref a.f_22)
 F_5 : Fun K "_law_thing" "_law_thing" s_5 a.f_5 a.fd_5
 b_5 : zay K a.fd_5 ["_law_state"] []
 g_5 : mg "_law_thing"=some (.ref a.f_5)
 F_54 : Fun K "_law_item" "_law_item" zmk a.f_54 a.fd_54
 b_54 : zay K a.fd_54 ["_law_state"] []
 g_54 : mg "_law_item"=some (.ref a.f_54)
 F_48 : Fun K "_law_items" "_law_items" zme a.f_48 a.fd_48
 b_48 : zay K a.fd_48 ["_law_state"] []
 g_48 : mg "_law_items"=some (.ref a.f_48)
 F_18 : Fun K "_law_pairs" "_law_pairs" zlk a.f_18 a.fd_18
 b_18 : zay K a.fd_18 ["_law_state","_law_many"] []
 g_18 : mg "_law_pairs"=some (.ref a.f_18)
 F_33 : Fun K "_law_count" "_law_count" zlz a.f_33 a.fd_33
 b_33 : zay K a.fd_33 ["_law_state"] []
 g_33 : mg "_law_count"=some (.ref a.f_33)
 F_53 : Fun K "_law_part" "_law_part" zmj a.f_53 a.fd_53
 b_53 : zay K a.fd_53 ["_law_state"] []
 g_53 : mg "_law_part"=some (.ref a.f_53)
 F_56 : Fun K "_law_body" "_law_body" zmm a.f_56 a.fd_56
 b_56 : zay K a.fd_56 ["_law_state"] []
 g_56 : mg "_law_body"=some (.ref a.f_56)
 F_23 : Fun K "_law_row" "_law_row" zlp a.f_23 a.fd_23
 b_23 : zay K a.fd_23 ["_law_state"] []
 g_23 : mg "_law_row"=some (.ref a.f_23)
 F_8 : Fun K "_law_thing_words" "_law_thing_words" s_8 a.f_8 a.fd_8
 b_8 : zay K a.fd_8 ["_law_thing_here"] []
 g_8 : mg "_law_thing_words"=some (.ref a.f_8)
 F_24 : Fun K "_law_items_words" "_law_items_words" zlq a.f_24 a.fd_24
 b_24 : zay K a.fd_24 ["_law_some","_law_state"] []
 g_24 : mg "_law_items_words"=some (.ref a.f_24)
 F_11 : Fun K "_law_pairs_words" "_law_pairs_words" zld a.f_11 a.fd_11
 b_11 : zay K a.fd_11 ["_law_opening","_law_pairs_here"] []
 g_11 : mg "_law_pairs_words"=some (.ref a.f_11)
 F_55 : Fun K "_law_part_words" "_law_part_words" zml a.f_55 a.fd_55
 b_55 : zay K a.fd_55 ["_law_part_here","_law_state"] []
 g_55 : mg "_law_part_words"=some (.ref a.f_55)
 F_34 : Fun K "_law_body_words" "_law_body_words" zl0 a.f_34 a.fd_34
 b_34 : zay K a.fd_34 ["_law_opening","_law_body_here","_law_state"] []
 g_34 : mg "_law_body_words"=some (.ref a.f_34)
 F_51 : Fun K "_law_words" "_law_words" zmh a.f_51 a.fd_51
 b_51 : zay K a.fd_51 ["_law_row_here","_law_state"] []
 g_51 : mg "_law_words"=some (.ref a.f_51)
 F_35 : Fun K "_law_line" "_law_line" zl1 a.f_35 a.fd_35
 b_35 : zay K a.fd_35 ["_law_words_here","_law_state"] []
 g_35 : mg "_law_line"=some (.ref a.f_35)
 F_10 : Fun K "_law_same" "_law_same" zlc a.f_10 a.fd_10
 b_10 : zay K a.fd_10 ["_law_found","_law_due"] []
 g_10 : mg "_law_same"=some (.ref a.f_10)
 F_9 : Fun K "law" "law" s_9 a.f_9 a.fd_9
 b_9 : zay K a.fd_9 ["_law_script"] []
 g_9 : mg "law"=some (.ref a.f_9)
 F_58 : Fun K "__init__" "Reader.__init__" zmo a.f_58 a.fd_58
 b_58 : zay K a.fd_58 ["self","words"] []
 F_2 : Fun K "coming" "Reader.coming" s_2 a.f_2 a.fd_2
 b_2 : zay K a.fd_2 ["self","behind"] []
 F_12 : Fun K "take" "Reader.take" zle a.f_12 a.fd_12
 b_12 : zay K a.fd_12 ["self"] []
 F_1 : Fun K "passes" "Reader.passes" s_1 a.f_1 a.fd_1
 b_1 : zay K a.fd_1 ["self","word"] []
 F_6 : Fun K "must_pass" "Reader.must_pass" s_6 a.f_6 a.fd_6
 b_6 : zay K a.fd_6 ["self","word"] []
 F_49 : Fun K "must_end" "Reader.must_end" zmf a.f_49 a.fd_49
 b_49 : zay K a.fd_49 ["self"] []
 F_41 : Fun K "read_form" "Reader.read_form" zl7 a.f_41 a.fd_41
 b_41 : zay K a.fd_41 ["self"] []
 F_38 : Fun K "read_choose" "Reader.read_choose" zl4 a.f_38 a.fd_38
 b_38 : zay K a.fd_38 ["self"] []
 F_42 : Fun K "read_never" "Reader.read_never" zl8 a.f_42 a.fd_42
 b_42 : zay K a.fd_42 ["self"] []
 F_3 : Fun K "read_name" "Reader.read_name" s_3 a.f_3 a.fd_3
 b_3 : zay K a.fd_3 ["self"] []
 F_43 : Fun K "read_names" "Reader.read_names" zl9 a.f_43 a.fd_43
 b_43 : zay K a.fd_43 ["self"] []
 F_25 : Fun K "read_variable" "Reader.read_variable" zlr a.f_25 a.fd_25
 b_25 : zay K a.fd_25 ["self"] []
 F_14 : Fun K "read_number" "Reader.read_number" zlg a.f_14 a.fd_14
 b_14 : zay K a.fd_14 ["self"] []
 F_19 : Fun K "read_arg" "Reader.read_arg" zll a.f_19 a.fd_19
 b_19 : zay K a.fd_19 ["self"] []
 F_13 : Fun K "read_thing" "Reader.read_thing" zlf a.f_13 a.fd_13
 b_13 : zay K a.fd_13 ["self"] []
 F_44 : Fun K "read_args" "Reader.read_args" zma a.f_44 a.fd_44
 b_44 : zay K a.fd_44 ["self"] []
 F_26 : Fun K "read_if" "Reader.read_if" zls a.f_26 a.fd_26
 b_26 : zay K a.fd_26 ["self"] []
 F_27 : Fun K "read_body" "Reader.read_body" zlt a.f_27 a.fd_27
 b_27 : zay K a.fd_27 ["self"] []
 F_36 : Fun K "read_part" "Reader.read_part" zl2 a.f_36 a.fd_36
 b_36 : zay K a.fd_36 ["self"] []
 F_45 : Fun K "read_unlike" "Reader.read_unlike" zmb a.f_45 a.fd_45
 b_45 : zay K a.fd_45 ["self"] []
 F_39 : Fun K "read_count" "Reader.read_count" zl5 a.f_39 a.fd_39
 b_39 : zay K a.fd_39 ["self"] []
 F_28 : Fun K "read_items" "Reader.read_items" zlu a.f_28 a.fd_28
 b_28 : zay K a.fd_28 ["self"] []
 F_29 : Fun K "read_item" "Reader.read_item" zlv a.f_29 a.fd_29
 b_29 : zay K a.fd_29 ["self"] []
 F_37 : Fun K "read_over" "Reader.read_over" zl3 a.f_37 a.fd_37
 b_37 : zay K a.fd_37 ["self"] []
 F_20 : Fun K "read_for" "Reader.read_for" zlm a.f_20 a.fd_20
 b_20 : zay K a.fd_20 ["self"] []
 F_30 : Fun K "read_pairs" "Reader.read_pairs" zlw a.f_30 a.fd_30
 b_30 : zay K a.fd_30 ["self"] []
 F_31 : Fun K "read_pair" "Reader.read_pair" zlx a.f_31 a.fd_31
 b_31 : zay K a.fd_31 ["self"] []
 g_Reader : mg "Reader"=some (.ref a.C_Reader)
 cl_Reader : Cls K a.C_Reader
 mk_Reader : Mk K a.C_Reader a.f_58
 na_Reader_words : zeu K a.C_Reader "words"
 na_Reader_place : zeu K a.C_Reader "place"
 m_2 : zbe K a.C_Reader "coming" a.f_2
 m_12 : zbe K a.C_Reader "take" a.f_12
 m_1 : zbe K a.C_Reader "passes" a.f_1
 m_6 : zbe K a.C_Reader "must_pass" a.f_6
 m_49 : zbe K a.C_Reader "must_end" a.f_49
 m_41 : zbe K a.C_Reader "read_form" a.f_41
 m_38 : zbe K a.C_Reader "read_choose" a.f_38
 m_42 : zbe K a.C_Reader "read_never" a.f_42
 m_3 : zbe K a.C_Reader "read_name" a.f_3
 m_43 : zbe K a.C_Reader "read_names" a.f_43
 m_25 : zbe K a.C_Reader "read_variable" a.f_25
 m_14 : zbe K a.C_Reader "read_number" a.f_14
 m_19 : zbe K a.C_Reader "read_arg" a.f_19
 m_13 : zbe K a.C_Reader "read_thing" a.f_13
 m_44 : zbe K a.C_Reader "read_args" a.f_44
 m_26 : zbe K a.C_Reader "read_if" a.f_26
 m_27 : zbe K a.C_Reader "read_body" a.f_27
 m_36 : zbe K a.C_Reader "read_part" a.f_36
 m_45 : zbe K a.C_Reader "read_unlike" a.f_45
 m_39 : zbe K a.C_Reader "read_count" a.f_39
 m_28 : zbe K a.C_Reader "read_items" a.f_28
 m_29 : zbe K a.C_Reader "read_item" a.f_29
 m_37 : zbe K a.C_Reader "read_over" a.f_37
 m_20 : zbe K a.C_Reader "read_for" a.f_20
 m_30 : zbe K a.C_Reader "read_pairs" a.f_30
 m_31 : zbe K a.C_Reader "read_pair" a.f_31
 kd3 : PySem.W.kitOne K (.type "NoneType") (.type "bool")=some false
 kb9 : PySem.W.kitOne K (.type "bool") (.type "bool")=some true
 ka4 : PySem.W.kitOne K (.type "int") (.type "bool")=some false
 kb1 : PySem.W.kitOne K (.type "str") (.type "bool")=some false
 kc0 : PySem.W.kitOne K (.type "list") (.type "bool")=some false
 kc4 : PySem.W.kitOne K (.type "tuple") (.type "bool")=some false
 kb6 : PySem.W.kitOne K (.type "dict") (.type "bool")=some false
 kd0 : PySem.W.kitOne K (.type "NoneType") (.type "int")=some false
 ka8 : PySem.W.kitOne K (.type "bool") (.type "int")=some true
 ka0 : PySem.W.kitOne K (.type "int") (.type "int")=some true
 ka2 : PySem.W.kitOne K (.type "str") (.type "int")=some false
 kb0 : PySem.W.kitOne K (.type "list") (.type "int")=some false
 kc2 : PySem.W.kitOne K (.type "tuple") (.type "int")=some false
 ka6 : PySem.W.kitOne K (.type "dict") (.type "int")=some false
 kd2 : PySem.W.kitOne K (.type "NoneType") (.type "list")=some false
 kb8 : PySem.W.kitOne K (.type "bool") (.type "list")=some false
 ka7 : PySem.W.kitOne K (.type "int") (.type "list")=some false
 ka9 : PySem.W.kitOne K (.type "str") (.type "list")=some false
 kb5 : PySem.W.kitOne K (.type "list") (.type "list")=some true
 kc7 : PySem.W.kitOne K (.type "tuple") (.type "list")=some false
 kb4 : PySem.W.kitOne K (.type "dict") (.type "list")=some false
 kd1 : PySem.W.kitOne K (.type "NoneType") (.type "str")=some false
 kb3 : PySem.W.kitOne K (.type "bool") (.type "str")=some false
 ka3 : PySem.W.kitOne K (.type "int") (.type "str")=some false
 ka1 : PySem.W.kitOne K (.type "str") (.type "str")=some true
 ka5 : PySem.W.kitOne K (.type "list") (.type "str")=some false
 kb7 : PySem.W.kitOne K (.type "tuple") (.type "str")=some false
 kb2 : PySem.W.kitOne K (.type "dict") (.type "str")=some false
 kd4 : PySem.W.kitOne K (.type "NoneType") (.type "tuple")=some false
 kc5 : PySem.W.kitOne K (.type "bool") (.type "tuple")=some false
 kc1 : PySem.W.kitOne K (.type "int") (.type "tuple")=some false
 kc3 : PySem.W.kitOne K (.type "str") (.type "tuple")=some false
 kc6 : PySem.W.kitOne K (.type "list") (.type "tuple")=some false
 kc9 : PySem.W.kitOne K (.type "tuple") (.type "tuple")=some true
 kc8 : PySem.W.kitOne K (.type "dict") (.type "tuple")=some false
 g_KEPT : zvs K mg "KEPT" ["kind","rule","may","choose","never","if","and","not","unlike","least","most","of","to","over","in","for"]
 g_SMALL : ∃ t,mg "SMALL"=some (.str "abcdefghijklmnopqrstuvwxyz" t)
 g_GREAT : ∃ t,mg "GREAT"=some (.str "ABCDEFGHIJKLMNOPQRSTUVWXYZ" t)
 g_FIGURES : ∃ t,mg "FIGURES"=some (.str "0123456789" t)
 g_LONE : ∃ t,mg "LONE"=some (.str "()," t)
 z_ValueError : mg "ValueError"=none
 z_abs : mg "abs"=none
 z_all : mg "all"=none
 z_bool : mg "bool"=none
 z_enumerate : mg "enumerate"=none
 z_int : mg "int"=none
 z_isinstance : mg "isinstance"=none
 z_len : mg "len"=none
 z_list : mg "list"=none
 z_max : mg "max"=none
 z_range : mg "range"=none
 z_str : mg "str"=none
 z_tuple : mg "tuple"=none
set_option genInjectivity true
set_option genSizeOf true
section
variable {P:Program} {w:World} {K:PySem.W.Frag} {mg:Str->Option Value} {base:Heap}
noncomputable def cl (a:Wa) : Str->Addr:=fun s=>if s="Reader" then a.C_Reader else 0
theorem zcn {a:Wa} : cl a "Reader"=a.C_Reader:=by unfold cl; rw [if_pos rfl]
theorem zax {a:Wa} (W:Wd K mg a) : Cls K (cl a "Reader"):=by rw [zcn]; exact W.cl_Reader
theorem z7x {a:Wa} (W:Wd K mg a) : Mk K (cl a "Reader") a.f_58:=by rw [zcn]; exact W.mk_Reader
theorem z5q {a:Wa} (W:Wd K mg a) : mg "Reader"=some (.ref (cl a "Reader")):=by rw [zcn]; exact W.g_Reader
theorem zqw {a:Wa} (W:Wd K mg a) : zeu K (cl a "Reader") "words":=by rw [zcn]; exact W.na_Reader_words
theorem zn2 {a:Wa} (W:Wd K mg a) : zeu K (cl a "Reader") "place":=by rw [zcn]; exact W.na_Reader_place
theorem zji {a:Wa} (W:Wd K mg a) : zbe K (cl a "Reader") "coming" a.f_2:=by rw [zcn]; exact W.m_2
theorem znz {a:Wa} (W:Wd K mg a) : zbe K (cl a "Reader") "take" a.f_12:=by rw [zcn]; exact W.m_12
theorem zg1 {a:Wa} (W:Wd K mg a) : zbe K (cl a "Reader") "passes" a.f_1:=by rw [zcn]; exact W.m_1
theorem zk1 {a:Wa} (W:Wd K mg a) : zbe K (cl a "Reader") "must_pass" a.f_6:=by rw [zcn]; exact W.m_6
theorem z7o {a:Wa} (W:Wd K mg a) : zbe K (cl a "Reader") "must_end" a.f_49:=by rw [zcn]; exact W.m_49
theorem z7s {a:Wa} (W:Wd K mg a) : zbe K (cl a "Reader") "read_form" a.f_41:=by rw [zcn]; exact W.m_41
theorem z7q {a:Wa} (W:Wd K mg a) : zbe K (cl a "Reader") "read_choose" a.f_38:=by rw [zcn]; exact W.m_38
theorem z7u {a:Wa} (W:Wd K mg a) : zbe K (cl a "Reader") "read_never" a.f_42:=by rw [zcn]; exact W.m_42
theorem zk2 {a:Wa} (W:Wd K mg a) : zbe K (cl a "Reader") "read_name" a.f_3:=by rw [zcn]; exact W.m_3
theorem z7t {a:Wa} (W:Wd K mg a) : zbe K (cl a "Reader") "read_names" a.f_43:=by rw [zcn]; exact W.m_43
theorem zy1 {a:Wa} (W:Wd K mg a) : zbe K (cl a "Reader") "read_variable" a.f_25:=by rw [zcn]; exact W.m_25
theorem zqu {a:Wa} (W:Wd K mg a) : zbe K (cl a "Reader") "read_number" a.f_14:=by rw [zcn]; exact W.m_14
theorem zqt {a:Wa} (W:Wd K mg a) : zbe K (cl a "Reader") "read_arg" a.f_19:=by rw [zcn]; exact W.m_19
theorem zqv {a:Wa} (W:Wd K mg a) : zbe K (cl a "Reader") "read_thing" a.f_13:=by rw [zcn]; exact W.m_13
theorem z7p {a:Wa} (W:Wd K mg a) : zbe K (cl a "Reader") "read_args" a.f_44:=by rw [zcn]; exact W.m_44
theorem zyu {a:Wa} (W:Wd K mg a) : zbe K (cl a "Reader") "read_if" a.f_26:=by rw [zcn]; exact W.m_26
theorem zyt {a:Wa} (W:Wd K mg a) : zbe K (cl a "Reader") "read_body" a.f_27:=by rw [zcn]; exact W.m_27
theorem zy0 {a:Wa} (W:Wd K mg a) : zbe K (cl a "Reader") "read_part" a.f_36:=by rw [zcn]; exact W.m_36
theorem z7v {a:Wa} (W:Wd K mg a) : zbe K (cl a "Reader") "read_unlike" a.f_45:=by rw [zcn]; exact W.m_45
theorem z7r {a:Wa} (W:Wd K mg a) : zbe K (cl a "Reader") "read_count" a.f_39:=by rw [zcn]; exact W.m_39
theorem zyw {a:Wa} (W:Wd K mg a) : zbe K (cl a "Reader") "read_items" a.f_28:=by rw [zcn]; exact W.m_28
theorem zyv {a:Wa} (W:Wd K mg a) : zbe K (cl a "Reader") "read_item" a.f_29:=by rw [zcn]; exact W.m_29
theorem zyx {a:Wa} (W:Wd K mg a) : zbe K (cl a "Reader") "read_over" a.f_37:=by rw [zcn]; exact W.m_37
theorem zt2 {a:Wa} (W:Wd K mg a) : zbe K (cl a "Reader") "read_for" a.f_20:=by rw [zcn]; exact W.m_20
theorem zyz {a:Wa} (W:Wd K mg a) : zbe K (cl a "Reader") "read_pairs" a.f_30:=by rw [zcn]; exact W.m_30
theorem zyy {a:Wa} (W:Wd K mg a) : zbe K (cl a "Reader") "read_pair" a.f_31:=by rw [zcn]; exact W.m_31
theorem z6f {a:Wa} (W:Wd K mg a) : zir K "bool":=fun t ht=>by
 simp only [List.mem_cons,List.not_mem_nil,or_false] at ht
 rcases ht with rfl | rfl | rfl | rfl | rfl | rfl | rfl
 ·exact W.kd3
 ·exact W.kb9
 ·exact W.ka4
 ·exact W.kb1
 ·exact W.kc0
 ·exact W.kc4
 ·exact W.kb6
theorem zxy {a:Wa} (W:Wd K mg a) : zir K "int":=fun t ht=>by
 simp only [List.mem_cons,List.not_mem_nil,or_false] at ht
 rcases ht with rfl | rfl | rfl | rfl | rfl | rfl | rfl
 ·exact W.kd0
 ·exact W.ka8
 ·exact W.ka0
 ·exact W.ka2
 ·exact W.kb0
 ·exact W.kc2
 ·exact W.ka6
theorem zth {a:Wa} (W:Wd K mg a) : zir K "list":=fun t ht=>by
 simp only [List.mem_cons,List.not_mem_nil,or_false] at ht
 rcases ht with rfl | rfl | rfl | rfl | rfl | rfl | rfl
 ·exact W.kd2
 ·exact W.kb8
 ·exact W.ka7
 ·exact W.ka9
 ·exact W.kb5
 ·exact W.kc7
 ·exact W.kb4
theorem zxz {a:Wa} (W:Wd K mg a) : zir K "str":=fun t ht=>by
 simp only [List.mem_cons,List.not_mem_nil,or_false] at ht
 rcases ht with rfl | rfl | rfl | rfl | rfl | rfl | rfl
 ·exact W.kd1
 ·exact W.kb3
 ·exact W.ka3
 ·exact W.ka1
 ·exact W.ka5
 ·exact W.kb7
 ·exact W.kb2
theorem zx0 {a:Wa} (W:Wd K mg a) : zir K "tuple":=fun t ht=>by
 simp only [List.mem_cons,List.not_mem_nil,or_false] at ht
 rcases ht with rfl | rfl | rfl | rfl | rfl | rfl | rfl
 ·exact W.kd4
 ·exact W.kc5
 ·exact W.kc1
 ·exact W.kc3
 ·exact W.kc6
 ·exact W.kc9
 ·exact W.kc8
end
noncomputable def b_0 : List Sl->Option Fl :=
 (zah (zkp 0 (fun _=>some (.int 0)) (m2 zex (m2 zcf (m2 zha (mIx (zqf 0) (fun _=>some (.int 0))) (fun _=>some (.int 1181783497276652981))) (fun _=>some (.int 12345678910987))) (m2 zh7 (m2 zf5 (fun _=>some (.int 2)) (fun _=>some (.int 61))) (fun _=>some (.int 1)))))
  (zco (m2 zex (m2 zsn (mIx (zqf 0) (fun _=>some (.int 0))) (fun _=>some (.int 65537))) (zab 1))))
noncomputable def m_0 : Addr->List D->List D->List D->Option (List D×D):=zdk 2 b_0
noncomputable def b_35 : List Sl->Option Fl :=
 (zah (zef 2 (fun _=>some (.str "")))
  (zah (zef 3 (fun _=>some (.str "(")))
  (zah (zes (zeo (zab 0)) (zb8 4) (zah (zbm 5 (zaw 1 m_0 (zac (mX (fun _=>some (.int 3))) zaa)))
  (zah (zb2 (zgc (mB (m2 dEq (zab 5) (fun _=>some (.int 0)))) (zgc (mB (m2 zh4 (zab 4) (zb3 (zad (fun _=>some (.str "(")) (zad (fun _=>some (.str ")")) (zad (fun _=>some (.str ",")) (fun _=>some []))))))) (mB (m2 zh4 (zab 3) (zb3 (zad (fun _=>some (.str "(")) (zad (fun _=>some (.str ")")) (zad (fun _=>some (.str ",")) (fun _=>some []))))))))) (zef 5 (fun _=>some (.int 1))) zbl)
  (zah (zkk 2 (mX (m2 zcf (m2 zm7 (fun _=>some (.str " ")) (zab 5)) (zab 4))))
  (zef 3 (zab 4))))))
  (zbw (mX2 zcf (mX (zab 2)) (mX2 zm7 (mX (fun _=>some (.str " "))) (zaw 1 m_0 (zac (mX (fun _=>some (.int 3))) zaa))))))))
noncomputable def zqk : Addr->List D->List D->List D->Option (List D×D):=zdk 6 b_35
noncomputable def b_21 : List Sl->Option Fl :=
 (zah (zef 0 (zb3 (zad (fun _=>some (.str "kind")) (zad (fun _=>some (.str "rule")) (zad (fun _=>some (.str "may")) (zad (fun _=>some (.str "choose")) (zad (fun _=>some (.str "never")) (zad (fun _=>some (.str "if")) (zad (fun _=>some (.str "and")) (zad (fun _=>some (.str "not")) (fun _=>some [])))))))))))
  (zkq (zft (zab 0) (zb3 (zad (fun _=>some (.str "unlike")) (zad (fun _=>some (.str "least")) (zad (fun _=>some (.str "most")) (zad (fun _=>some (.str "of")) (zad (fun _=>some (.str "to")) (zad (fun _=>some (.str "over")) (zad (fun _=>some (.str "in")) (zad (fun _=>some (.str "for")) (fun _=>some [])))))))))))))
noncomputable def zkz (as:List D) : Option D:=zdt 1 b_21 as
noncomputable def b_17 : List Sl->Option Fl :=
 (zah (zef 3 (fun _=>some (.str "")))
  (zah (zes (ze3 (zad (zab 1) (fun _=>some []))) (zb8 4) (zkk 3 (mX2 zj6 (mX (fun _=>some (.str "abcdefghijklmnopqrstuvwxyz"))) (zaw 0 m_0 (zac (mX (zab 2)) zaa)))))
  (zco (zab 3))))
noncomputable def zkx : Addr->List D->List D->List D->Option (List D×D):=zdk 5 b_17
noncomputable def b_4 : List Sl->Option Fl :=
 (zah (zbm 1 (zaw 0 m_0 (zac (mX (fun _=>some (.int 12))) zaa)))
  (zah (zb2 (mB (m2 dEq (zab 1) (fun _=>some (.int 0)))) (zbw (mX2 zcf (mX2 zea (mX (za9 zkz (fun _=>some []))) (zaw 0 m_0 (zac (mX (fun _=>some (.int 16))) zaa))) (zaw 0 zkx (zac (mX (fun _=>some (.int 1))) (zac (mX (fun _=>some (.int 26))) zaa))))) zbl)
  (zah (zb2 (mB (m2 dEq (zab 1) (fun _=>some (.int 1)))) (zbw (zqe (mX2 zea (mX (za9 zkz (fun _=>some []))) (zaw 0 m_0 (zac (mX (fun _=>some (.int 16))) zaa))) (fun _=>some none) (mPt (m1 zm9 (fun _=>some (.int 1)))))) zbl)
  (zah (zbm 2 (zaw 0 zkx (zac (mX2 zcf (mX (fun _=>some (.int 1))) (zaw 0 m_0 (zac (mX (fun _=>some (.int 8))) zaa))) (zac (mX (mIx (zad (fun _=>some (.int 26)) (zad (fun _=>some (.int 2)) (fun _=>some []))) (m2 zex (zab 1) (fun _=>some (.int 2))))) zaa))))
  (zah (zb2 (mB (m2 dIn (zab 2) (za9 zkz (fun _=>some [])))) (zco (m2 zcf (fun _=>some (.str "z")) (zab 2))) zbl)
  (zco (zab 2)))))))
noncomputable def m_4 : Addr->List D->List D->List D->Option (List D×D):=zdk 3 b_4
noncomputable def b_40 : List Sl->Option Fl :=
 (zah (zbm 1 (mX2 zj6 (mX (fun _=>some (.str "ABCDEFGHIJKLMNOPQRSTUVWXYZ"))) (zaw 0 m_0 (zac (mX2 zea (mX (zb3 (zad (fun _=>some (.int 26)) (zad (fun _=>some (.int 2)) (fun _=>some []))))) (zaw 0 m_0 (zac (mX (fun _=>some (.int 2))) zaa))) zaa))))
  (zbw (mX2 zcf (mX (zab 1)) (zaw 0 zkx (zac (zaw 0 m_0 (zac (mX (fun _=>some (.int 8))) zaa)) (zac (mX2 zea (mX (zb3 (zad (fun _=>some (.int 26)) (zad (fun _=>some (.int 2)) (fun _=>some []))))) (zaw 0 m_0 (zac (mX (fun _=>some (.int 2))) zaa))) zaa))))))
noncomputable def zql : Addr->List D->List D->List D->Option (List D×D):=zdk 2 b_40
noncomputable def b_22 : List Sl->Option Fl :=
 (zah (ze2 (mBX (mX2 dEq (zaw 0 m_0 (zac (mX (fun _=>some (.int 2))) zaa)) (mX (fun _=>some (.int 0))))) (zbw (zaw 0 zql zaa)) zbl)
  (zbw (zaw 0 m_4 zaa)))
noncomputable def znx : Addr->List D->List D->List D->Option (List D×D):=zdk 1 b_22
noncomputable def b_7 : List Sl->Option Fl :=
 (zah (zbm 1 (zaw 0 m_0 (zac (mX (fun _=>some (.int 9))) zaa)))
  (zah (ze2 (mBX (mX2 dEq (zaw 0 m_0 (zac (mX (fun _=>some (.int 3))) zaa)) (mX (fun _=>some (.int 0))))) (zah (zes (ze3 (zad (fun _=>some (.int 2)) (fun _=>some []))) (zb8 2) (zbm 1 (mX2 zcf (mX (m2 zha (zab 1) (m2 zf5 (fun _=>some (.int 10)) (fun _=>some (.int 10))))) (zaw 0 m_0 (zac (mX (m2 zf5 (fun _=>some (.int 10)) (fun _=>some (.int 10)))) zaa)))))
  (zbm 1 (mX2 zcf (mX (m2 zha (zab 1) (m2 zf5 (fun _=>some (.int 10)) (fun _=>some (.int 9))))) (zaw 0 m_0 (zac (mX (m2 zf5 (fun _=>some (.int 10)) (fun _=>some (.int 9)))) zaa))))) zbl)
  (zah (ze2 (mBX (mX2 dEq (zaw 0 m_0 (zac (mX (fun _=>some (.int 3))) zaa)) (mX (fun _=>some (.int 0))))) (zco (m1 zm9 (zab 1))) zbl)
  (zco (zab 1)))))
noncomputable def m_7 : Addr->List D->List D->List D->Option (List D×D):=zdk 3 b_7
noncomputable def b_5 : List Sl->Option Fl :=
 (zah (zbm 1 (zaw 0 m_4 zaa))
  (zbw (zcw (zac (mX (zab 1)) (zac (zhn 1 [0] 0 0 (zhp (zac (zen zqs (zac (mX (fun _=>some (.int 0))) (zac (mX2 zh7 (zaw 0 m_0 (zac (mX (fun _=>some (.int 5))) zaa)) (mX (fun _=>some (.int 1)))) zaa))) zaa)) (zb8 0) (zaw 1 znx zaa)) zaa)))))
noncomputable def m_5 : Addr->List D->List D->List D->Option (List D×D):=zdk 2 b_5
noncomputable def b_54 : List Sl->Option Fl :=
 (zah (zbm 1 (zaw 0 m_5 zaa))
  (zah (ze2 (mBX (mX2 dEq (zaw 0 m_0 (zac (mX (fun _=>some (.int 2))) zaa)) (mX (fun _=>some (.int 0))))) (zco (znv (zad (zab 1) (zad (fun _=>some (.int 1)) (fun _=>some []))))) zbl)
  (zbw (zcw (zac (mX (zab 1)) (zac (zen zoy (zac (zaw 0 m_7 zaa) zaa)) zaa))))))
noncomputable def zty : Addr->List D->List D->List D->Option (List D×D):=zdk 2 b_54
noncomputable def b_48 : List Sl->Option Fl :=
 (zbw (zhn 1 [0] 0 0 (zhp (zac (mX2 zcf (mX (fun _=>some (.int 1))) (zaw 0 m_0 (zac (mX2 zea (mX (zb3 (zad (fun _=>some (.int 4)) (zad (fun _=>some (.int 9)) (fun _=>some []))))) (mX1 zja (mX2 dEq (zaw 0 m_0 (zac (mX (fun _=>some (.int 6))) zaa)) (mX (fun _=>some (.int 0)))))) zaa))) zaa)) (zb8 0) (zaw 1 zty zaa)))
noncomputable def zqo : Addr->List D->List D->List D->Option (List D×D):=zdk 1 b_48
noncomputable def b_18 : List Sl->Option Fl :=
 (zah (zep 2 (fun _=>some []))
  (zah (zes (ze3 (zad (zab 1) (fun _=>some []))) (zb8 3) (zah (zbm 4 (zaw 0 zql zaa))
  (zer 2 (zcw (zac (mX (zab 4)) (zac (zaw 0 m_4 zaa) zaa))))))
  (zfj 2 (zco (zab 2)))))
noncomputable def zky : Addr->List D->List D->List D->Option (List D×D):=zdk 5 b_18
noncomputable def b_33 : List Sl->Option Fl :=
 (zah (zbm 1 (mX2 zea (mX (zb3 (zad (fun _=>some (.str "least")) (zad (fun _=>some (.str "most")) (fun _=>some []))))) (zaw 0 m_0 (zac (mX (fun _=>some (.int 2))) zaa))))
  (zah (zbm 2 (zaw 0 m_7 zaa))
  (zah (zbm 3 (zaw 0 zqo zaa))
  (zbw (zcw (zac (mX (zab 1)) (zac (mX (zab 2)) (zac (mX (zab 3)) (zac (zaw 0 zky (zac (zaw 0 m_0 (zac (mX (fun _=>some (.int 3))) zaa)) zaa)) zaa)))))))))
noncomputable def zqi : Addr->List D->List D->List D->Option (List D×D):=zdk 4 b_33
noncomputable def b_53 : List Sl->Option Fl :=
 (zah (zbm 1 (zaw 0 m_0 (zac (mX (fun _=>some (.int 5))) zaa)))
  (zah (zb2 (mB (m2 dLt (zab 1) (fun _=>some (.int 2)))) (zbw (zaw 0 zqi zaa)) zbl)
  (zah (zb2 (mB (m2 dEq (zab 1) (fun _=>some (.int 2)))) (zah (zbm 2 (zaw 0 znx zaa))
  (zbw (zcw (zac (mX (fun _=>some (.str "unlike"))) (zac (mX (zab 2)) (zac (zaw 0 znx zaa) zaa)))))) zbl)
  (zbw (zcw (zac (mX (mIx (zad (fun _=>some (.str "is")) (zad (fun _=>some (.str "not")) (fun _=>some []))) (m2 zh7 (zab 1) (fun _=>some (.int 3))))) (zac (zaw 0 m_5 zaa) zaa)))))))
noncomputable def ztx : Addr->List D->List D->List D->Option (List D×D):=zdk 3 b_53
noncomputable def b_56 : List Sl->Option Fl :=
 (zbw (zhn 1 [0] 0 0 (zhp (zac (zaw 0 m_0 (zac (mX (fun _=>some (.int 4))) zaa)) zaa)) (zb8 0) (zaw 1 ztx zaa)))
noncomputable def zt0 : Addr->List D->List D->List D->Option (List D×D):=zdk 1 b_56
noncomputable def b_23 : List Sl->Option Fl :=
 (zah (zbm 1 (zaw 0 m_0 (zac (mX (fun _=>some (.int 9))) zaa)))
  (zah (zbm 2 (zaw 0 zt0 zaa))
  (zah (zbm 3 (zaw 0 zky (zac (zaw 0 m_0 (zac (mX (fun _=>some (.int 4))) zaa)) zaa)))
  (zah (zb2 (mB (m2 dEq (zab 1) (fun _=>some (.int 0)))) (zah (zbm 4 (zaw 0 m_4 zaa))
  (zbw (zcw (zac (mX (fun _=>some (.str "kind"))) (zac (mX (zab 4)) (zac (zhn 1 [0] 0 0 (zhp (zac (mX2 zcf (mX (fun _=>some (.int 1))) (zaw 0 m_0 (zac (mX (fun _=>some (.int 12))) zaa))) zaa)) (zb8 0) (zaw 1 m_4 zaa)) zaa)))))) zbl)
  (zah (zb2 (mB (m2 dLt (zab 1) (fun _=>some (.int 3)))) (zah (zbm 5 (zaw 0 m_0 (zac (mX (m2 zcf (za9 zcs (zad (zab 2) (fun _=>some []))) (fun _=>some (.int 1)))) zaa)))
  (zah (zbm 6 (zkn (zac (zaw 0 zqi zaa) (zac (zcw (zac (mX (fun _=>some (.str "is"))) (zac (zaw 0 m_5 zaa) zaa))) (zac (zcw (zac (mX (fun _=>some (.str "not"))) (zac (zaw 0 m_5 zaa) zaa))) zaa)))))
  (zbw (zcw (zac (mX (fun _=>some (.str "never"))) (zac (mX2 zcf (mX2 zcf (mX (zb3 (mSl (zab 2) (fun _=>some none) (mPt (zab 5))))) (zkn (zac (mX2 zea (mX (zab 6)) (zaw 0 m_0 (zac (mX (fun _=>some (.int 3))) zaa))) zaa))) (mX (zb3 (mSl (zab 2) (mPt (zab 5)) (fun _=>some none))))) (zac (mX (zab 3)) zaa))))))) zbl)
  (zah (zb2 (mB (m2 dLt (zab 1) (fun _=>some (.int 5)))) (zah (zbm 7 (zaw 0 m_7 zaa))
  (zah (zbm 8 (zaw 0 m_7 zaa))
  (zah (zbm 6 (zaw 0 zqo zaa))
  (zbw (zcw (zac (mX (fun _=>some (.str "choose"))) (zac (mX (zab 7)) (zac (mX (zab 8)) (zac (mX (zab 6)) (zac (zaw 0 zky (zac (zaw 0 m_0 (zac (mX (fun _=>some (.int 3))) zaa)) zaa)) (zac (mX (zab 2)) (zac (mX (zab 3)) zaa)))))))))))) zbl)
  (zbw (zcw (zac (mX (mIx (zad (fun _=>some (.str "rule")) (zad (fun _=>some (.str "may")) (fun _=>some []))) (m2 zex (zab 1) (fun _=>some (.int 2))))) (zac (zaw 0 m_5 zaa) (zac (mX (zab 2)) (zac (mX (zab 3)) zaa))))))))))))
noncomputable def zqg : Addr->List D->List D->List D->Option (List D×D):=zdk 9 b_23
noncomputable def b_10 (rc:List D->Option D) : List Sl->Option Fl :=
 (zah (zb2 (zd1 (zge "str" (zab 1))) (zdp (zgn (zge "str" (zab 0)) (m2 dEq (zab 0) (zab 1)))) zbl)
  (zah (zb2 (zd1 (zge "int" (zab 1))) (zdp (zgn (zge "int" (zab 0)) (zgn (zmu (zge "bool" (zab 0))) (m2 dEq (zab 0) (zab 1))))) zbl)
  (zah (zb2 (zgc (zd1 (zge "tuple" (zab 1))) (zfk (zd1 (zge "tuple" (zab 0))))) (zdp (fun _=>some (.bl false))) zbl)
  (zah (zb2 (zgc (zd1 (zge "list" (zab 1))) (zfk (zd1 (zge "list" (zab 0))))) (zdp (fun _=>some (.bl false))) zbl)
  (zah (zb2 (mB (m2 dNe (za9 zcs (zad (zab 0) (fun _=>some []))) (za9 zcs (zad (zab 1) (fun _=>some []))))) (zdp (fun _=>some (.bl false))) zbl)
  (zdp (za9 zh0 (zad (zb3 (zd7 1 [0,1] (ze3 (zad (za9 zcs (zad (zab 1) (fun _=>some []))) (fun _=>some []))) (zb8 0) (fun _=>some true) (za9 rc (zad (mIx (zbk 1) (zab 0)) (zad (mIx (zbk 2) (zab 0)) (fun _=>some [])))))) (fun _=>some [])))))))))
noncomputable def zfv : Nat->List D->Option D
 | 0=>fun _=>none
 | j + 1=>zdt 2 (b_10 (zfv j))
noncomputable def b_47 : List Sl->Option Fl :=
 (zah (zep 2 (zd7 1 [] (ze3 (zad (zab 1) (fun _=>some []))) (zb8 0) (fun _=>some true) (m2 zcf (m2 zha (zab 0) (fun _=>some (.int 7368787))) (fun _=>some (.int 1000003)))))
  (zah (zes (zic (zad (zab 0) (fun _=>some []))) (zi7 (zgv (zb8 3) (zgv (zb8 4) znl))) (zah (zef 5 (m2 zcf (m2 zha (mIx (zbk 2) (m2 zex (zab 3) (zab 1))) (fun _=>some (.int 1000003))) (m2 zex (zab 4) (m2 zf5 (fun _=>some (.int 10)) (fun _=>some (.int 30))))))
  (zjf 2 (m2 zex (zab 3) (zab 1)) (m2 zex (m2 zcf (zab 5) (zab 3)) (m2 zh7 (m2 zf5 (fun _=>some (.int 2)) (fun _=>some (.int 61))) (fun _=>some (.int 1)))))))
  (zfu 2)))
noncomputable def zqn (as:List D) : Option D:=zdt 6 b_47 as
noncomputable def b_8 : List Sl->Option Fl :=
 (zah (zep 1 (zad (mIx (zbk 0) (fun _=>some (.int 0))) (fun _=>some [])))
  (zah (zes (zic (zad (mIx (zbk 0) (fun _=>some (.int 1))) (fun _=>some []))) (zi7 (zgv (zb8 2) (zgv (zb8 3) znl))) (zgw 1 (mX (zb3 (zad (mIx (zad (fun _=>some (.str "(")) (zad (fun _=>some (.str ",")) (fun _=>some []))) (zjd (m2 dGt (zab 2) (fun _=>some (.int 0))))) (zad (zab 3) (fun _=>some [])))))))
  (zah (zb2 (mB (m2 dGt (za9 zcs (zad (mIx (zbk 0) (fun _=>some (.int 1))) (fun _=>some []))) (fun _=>some (.int 0)))) (zhl 1 (fun _=>some (.str ")"))) zbl)
  (zfu 1))))
noncomputable def m_8 (as:List D) : Option D:=zdt 4 b_8 as
noncomputable def b_24 : List Sl->Option Fl :=
 (zah (zep 2 (fun _=>some []))
  (zah (zes (zeo (zab 0)) (zi7 (zgv (zb8 3) (zgv (zb8 4) znl))) (zah (zb2 (mB (m2 dGt (za9 zcs (zad (zkt 2) (fun _=>some []))) (fun _=>some (.int 0)))) (zhl 2 (fun _=>some (.str ","))) zbl)
  (zah (ze2 (zid (mTX (mB (m2 dNe (zab 4) (fun _=>some (.int 1))))) (mBX (mX2 dEq (zaw 1 m_0 (zac (mX (fun _=>some (.int 3))) zaa)) (mX (fun _=>some (.int 0)))))) (zhl 2 (m1 zf6 (zab 4))) zbl)
  (zgw 2 (mX (za9 m_8 (zad (zab 3) (fun _=>some []))))))))
  (zfj 2 (zco (zab 2)))))
noncomputable def zqh : Addr->List D->List D->List D->Option (List D×D):=zdk 5 b_24
noncomputable def b_11 : List Sl->Option Fl :=
 (zah (zep 2 (fun _=>some []))
  (zah (zes (zeo (zab 1)) (zi7 (zgv (zb8 3) (zgv (zb8 4) znl))) (zgw 2 (mX (zb3 (zad (mIx (zad (zab 0) (zad (fun _=>some (.str ",")) (fun _=>some []))) (zjd (m2 dGt (za9 zcs (zad (zkt 2) (fun _=>some []))) (fun _=>some (.int 0))))) (zad (zab 3) (zad (fun _=>some (.str "in")) (zad (zab 4) (fun _=>some [])))))))))
  (zfu 2)))
noncomputable def zku (as:List D) : Option D:=zdt 5 b_11 as
noncomputable def b_55 : List Sl->Option Fl :=
 (zah (zb2 (mB (m2 dEq (mIx (zbk 0) (fun _=>some (.int 0))) (fun _=>some (.str "unlike")))) (zco (zb3 (zad (mIx (zbk 0) (fun _=>some (.int 1))) (zad (fun _=>some (.str "unlike")) (zad (mIx (zbk 0) (fun _=>some (.int 2))) (fun _=>some [])))))) zbl)
  (zah (zb2 (mB (m2 dEq (mIx (zbk 0) (fun _=>some (.int 0))) (fun _=>some (.str "is")))) (zco (za9 m_8 (zad (mIx (zbk 0) (fun _=>some (.int 1))) (fun _=>some [])))) zbl)
  (zah (zb2 (mB (m2 dEq (mIx (zbk 0) (fun _=>some (.int 0))) (fun _=>some (.str "not")))) (zco (zb3 (zft (zb3 (zad (fun _=>some (.str "not")) (fun _=>some []))) (za9 m_8 (zad (mIx (zbk 0) (fun _=>some (.int 1))) (fun _=>some [])))))) zbl)
  (zah (zbm 2 (mX2 zcf (mX (zb3 (zad (mIx (zbk 0) (fun _=>some (.int 0))) (zad (m1 zf6 (mIx (zbk 0) (fun _=>some (.int 1)))) (zad (fun _=>some (.str "of")) (fun _=>some [])))))) (zhm 1 zqh (zac (mX (mIx (zbk 0) (fun _=>some (.int 2)))) zaa))))
  (zco (m2 zcf (zab 2) (za9 zku (zad (fun _=>some (.str "over")) (zad (mIx (zbk 0) (fun _=>some (.int 3))) (fun _=>some []))))))))))
noncomputable def ztz : Addr->List D->List D->List D->Option (List D×D):=zdk 3 b_55
noncomputable def b_34 : List Sl->Option Fl :=
 (zah (zep 3 (fun _=>some []))
  (zah (zes (zeo (zab 1)) (zb8 4) (zah (zhl 3 (mIx (zad (zab 0) (zad (fun _=>some (.str "and")) (fun _=>some []))) (zjd (m2 dGt (za9 zcs (zad (zkt 3) (fun _=>some []))) (fun _=>some (.int 0))))))
  (zgw 3 (zhm 2 ztz (zac (mX (zab 4)) zaa)))))
  (zfj 3 (zco (zab 3)))))
noncomputable def zqj : Addr->List D->List D->List D->Option (List D×D):=zdk 5 b_34
noncomputable def b_51 : List Sl->Option Fl :=
 (zah (zb2 (mB (m2 dEq (mIx (zbk 0) (fun _=>some (.int 0))) (fun _=>some (.str "kind")))) (zco (zb3 (zft (zb3 (zad (fun _=>some (.str "kind")) (zad (mIx (zbk 0) (fun _=>some (.int 1))) (fun _=>some [])))) (mIx (zbk 0) (fun _=>some (.int 2)))))) zbl)
  (zah (zb2 (mB (m2 dEq (mIx (zbk 0) (fun _=>some (.int 0))) (fun _=>some (.str "never")))) (zbw (mX2 zcf (zhm 1 zqj (zac (mX (fun _=>some (.str "never"))) (zac (mX (mIx (zbk 0) (fun _=>some (.int 1)))) zaa))) (mX (za9 zku (zad (fun _=>some (.str "for")) (zad (mIx (zbk 0) (fun _=>some (.int 2))) (fun _=>some []))))))) zbl)
  (zah (zb2 (mB (m2 dEq (mIx (zbk 0) (fun _=>some (.int 0))) (fun _=>some (.str "choose")))) (zah (znu 2 (mX (zb3 (zad (fun _=>some (.str "choose")) (zad (m1 zf6 (mIx (zbk 0) (fun _=>some (.int 1)))) (zad (fun _=>some (.str "to")) (zad (m1 zf6 (mIx (zbk 0) (fun _=>some (.int 2)))) (zad (fun _=>some (.str "of")) (fun _=>some [])))))))) (zhm 1 zqh (zac (mX (mIx (zbk 0) (fun _=>some (.int 3)))) zaa)))
  (zgw 2 (mX (za9 zku (zad (fun _=>some (.str "over")) (zad (mIx (zbk 0) (fun _=>some (.int 4))) (fun _=>some []))))))) (zep 2 (zft (zb3 (zad (mIx (zbk 0) (fun _=>some (.int 0))) (fun _=>some []))) (za9 m_8 (zad (mIx (zbk 0) (fun _=>some (.int 1))) (fun _=>some []))))))
  (zfj 2 (zbw (mX2 zcf (mX2 zcf (mX (zab 2)) (zhm 1 zqj (zac (mX (fun _=>some (.str "if"))) (zac (mX (mIx (zbk 0) (m1 zm9 (fun _=>some (.int 2))))) zaa)))) (mX (za9 zku (zad (fun _=>some (.str "for")) (zad (mIx (zbk 0) (m1 zm9 (fun _=>some (.int 1)))) (fun _=>some [])))))))))))
noncomputable def zqq : Addr->List D->List D->List D->Option (List D×D):=zdk 3 b_51
noncomputable def zxq (as:List D) : Option (List Str×List D):=z08 2 [("words",(zab 1)),("place",(fun _=>some (.int 0)))] as
noncomputable def b_49 : List Sl->Option Fl :=
 (zb2 (mB (m2 dLt (zho 0 "Reader" "place") (za9 zcs (zad (zho 0 "Reader" "words") (fun _=>some []))))) (fun _=>none) zbl)
noncomputable def m_49 : Addr->List D->List D->Option (List D×D):=zcq 1 "Reader" ["words","place"] b_49
noncomputable def b_2 : List Sl->Option Fl :=
 (zah (zef 2 (m2 zcf (zho 0 "Reader" "place") (zab 1)))
  (zco (vIf (mB (m2 dLt (zab 2) (za9 zcs (zad (zho 0 "Reader" "words") (fun _=>some []))))) (mIx (zeo (zho 0 "Reader" "words")) (zab 2)) (fun _=>some (.str "")))))
noncomputable def m_2 : Addr->List D->List D->Option (List D×D):=zcq 3 "Reader" ["words","place"] b_2
noncomputable def b_1 : List Sl->Option Fl :=
 (zah (ze2 (mBX (mX2 dNe (zau 0 "Reader" "coming" ["words","place"] m_2 (zac (mX (fun _=>some (.int 0))) zaa)) (mX (zab 1)))) (zco (fun _=>some (.bl false))) zbl)
  (zah (znq 0 "Reader" "place" (fun _=>some (.int 1)))
  (zco (fun _=>some (.bl true)))))
noncomputable def m_1 : Addr->List D->List D->Option (List D×D):=zcq 2 "Reader" ["words","place"] b_1
noncomputable def b_6 : List Sl->Option Fl :=
 (ze2 (zns (zdw (zau 0 "Reader" "passes" ["words","place"] m_1 (zac (mX (zab 1)) zaa)))) (fun _=>none) zbl)
noncomputable def m_6 : Addr->List D->List D->Option (List D×D):=zcq 2 "Reader" ["words","place"] b_6
noncomputable def b_12 : List Sl->Option Fl :=
 (zah (zbm 1 (zau 0 "Reader" "coming" ["words","place"] m_2 (zac (mX (fun _=>some (.int 0))) zaa)))
  (zah (znq 0 "Reader" "place" (fun _=>some (.int 1)))
  (zco (zab 1))))
noncomputable def m_12 : Addr->List D->List D->Option (List D×D):=zcq 2 "Reader" ["words","place"] b_12
noncomputable def b_15 : List Sl->Option Fl :=
 (zdp (zgn (zkm dLe dLe (fun _=>some (.int 1)) (za9 zcs (zad (zab 0) (fun _=>some []))) (zab 2)) (za9 zh0 (zad (zb3 (zd7 1 [1] (zks (zab 0)) (zb8 0) (fun _=>some true) (m2 zj5 (zab 0) (zab 1)))) (fun _=>some [])))))
noncomputable def zkv (as:List D) : Option D:=zdt 3 b_15 as
noncomputable def b_57 : List Sl->Option Fl :=
 (zdp (zgn (za9 zkv (zad (zab 0) (zad (fun _=>some (.str "abcdefghijklmnopqrstuvwxyz")) (zad (fun _=>some (.int 8)) (fun _=>some []))))) (m2 zh4 (zab 0) (fun _=>some (.kt (List.map D.str ["kind","rule","may","choose","never","if","and","not","unlike","least","most","of","to","over","in","for"]))))))
noncomputable def zt1 (as:List D) : Option D:=zdt 1 b_57 as
noncomputable def b_3 : List Sl->Option Fl :=
 (zah (zbm 1 (zau 0 "Reader" "take" ["words","place"] m_12 zaa))
  (zah (zb2 (zfk (zd1 (za9 zt1 (zad (zab 1) (fun _=>some []))))) (fun _=>none) zbl)
  (zco (zab 1))))
noncomputable def m_3 : Addr->List D->List D->Option (List D×D):=zcq 2 "Reader" ["words","place"] b_3
noncomputable def b_50 : List Sl->Option Fl :=
 (zdp (zgn (za9 zkv (zad (zjg (zab 0) (fun _=>some none) (mPt (fun _=>some (.int 1)))) (zad (fun _=>some (.str "ABCDEFGHIJKLMNOPQRSTUVWXYZ")) (zad (fun _=>some (.int 1)) (fun _=>some []))))) (vOr (m2 dEq (za9 zcs (zad (zab 0) (fun _=>some []))) (fun _=>some (.int 1))) (za9 zkv (zad (zjg (zab 0) (mPt (fun _=>some (.int 1))) (fun _=>some none)) (zad (fun _=>some (.str "abcdefghijklmnopqrstuvwxyz")) (zad (fun _=>some (.int 7)) (fun _=>some []))))))))
noncomputable def zqp (as:List D) : Option D:=zdt 1 b_50 as
noncomputable def b_25 : List Sl->Option Fl :=
 (zah (zbm 1 (zau 0 "Reader" "take" ["words","place"] m_12 zaa))
  (zah (zb2 (zfk (zd1 (za9 zqp (zad (zab 1) (fun _=>some []))))) (fun _=>none) zbl)
  (zco (zab 1))))
noncomputable def m_25 : Addr->List D->List D->Option (List D×D):=zcq 2 "Reader" ["words","place"] b_25
noncomputable def b_31 : List Sl->Option Fl :=
 (zah (zbm 1 (zau 0 "Reader" "read_variable" ["words","place"] m_25 zaa))
  (zah (zgd (zau 0 "Reader" "must_pass" ["words","place"] m_6 (zac (mX (fun _=>some (.str "in"))) zaa)))
  (zbw (zcw (zac (mX (zab 1)) (zac (zau 0 "Reader" "read_name" ["words","place"] m_3 zaa) zaa))))))
noncomputable def m_31 : Addr->List D->List D->Option (List D×D):=zcq 2 "Reader" ["words","place"] b_31
noncomputable def b_30 : List Sl->Option Fl :=
 (zah (zgz 1 (zau 0 "Reader" "read_pair" ["words","place"] m_31 zaa))
  (zah (zdx (zdw (zau 0 "Reader" "passes" ["words","place"] m_1 (zac (mX (fun _=>some (.str ","))) zaa))) (zer 1 (zau 0 "Reader" "read_pair" ["words","place"] m_31 zaa)) 1000000000)
  (zfj 1 (zco (zab 1)))))
noncomputable def m_30 : Addr->List D->List D->Option (List D×D):=zcq 2 "Reader" ["words","place"] b_30
noncomputable def b_16 : List Sl->Option Fl :=
 (zah (zb2 (mB (m2 dGt (za9 zcs (zad (zab 0) (fun _=>some []))) (zab 1))) (fun _=>none) zbl)
  (zfu 0))
noncomputable def zkw (as:List D) : Option D:=zdt 2 b_16 as
noncomputable def b_20 : List Sl->Option Fl :=
 (zbw (zgy (zdw (zau 0 "Reader" "passes" ["words","place"] m_1 (zac (mX (fun _=>some (.str "for"))) zaa))) (zen zkw (zac (zau 0 "Reader" "read_pairs" ["words","place"] m_30 zaa) (zac (mX (fun _=>some (.int 3))) zaa))) (mX (zb3 (fun _=>some [])))))
noncomputable def m_20 : Addr->List D->List D->Option (List D×D):=zcq 1 "Reader" ["words","place"] b_20
noncomputable def b_46 : List Sl->Option Fl :=
 (zah (zb2 (mB (m2 dEq (zab 0) (fun _=>some (.str "0")))) (zdp (fun _=>some (.bl true))) zbl)
  (zah (zef 1 (vIf (zd1 (m2 zj8 (zab 0) (fun _=>some (.str "-")))) (zjg (zab 0) (mPt (fun _=>some (.int 1))) (fun _=>some none)) (zab 0)))
  (zdp (zgn (za9 zkv (zad (zab 1) (zad (fun _=>some (.str "0123456789")) (zad (fun _=>some (.int 30)) (fun _=>some []))))) (zmu (m2 zj8 (zab 1) (fun _=>some (.str "0"))))))))
noncomputable def zqm (as:List D) : Option D:=zdt 2 b_46 as
noncomputable def b_14 : List Sl->Option Fl :=
 (zah (zbm 1 (zau 0 "Reader" "take" ["words","place"] m_12 zaa))
  (zah (zb2 (zfk (zd1 (za9 zqm (zad (zab 1) (fun _=>some []))))) (fun _=>none) zbl)
  (zco (m1 zm6 (zab 1)))))
noncomputable def m_14 : Addr->List D->List D->Option (List D×D):=zcq 2 "Reader" ["words","place"] b_14
noncomputable def b_19 : List Sl->Option Fl :=
 (zbw (zgy (zdw (zen zqp (zac (zau 0 "Reader" "coming" ["words","place"] m_2 (zac (mX (fun _=>some (.int 0))) zaa)) zaa))) (zau 0 "Reader" "read_variable" ["words","place"] m_25 zaa) (zau 0 "Reader" "read_name" ["words","place"] m_3 zaa)))
noncomputable def m_19 : Addr->List D->List D->Option (List D×D):=zcq 1 "Reader" ["words","place"] b_19
noncomputable def b_44 : List Sl->Option Fl :=
 (zah (zgz 1 (zau 0 "Reader" "read_arg" ["words","place"] m_19 zaa))
  (zah (zdx (zdw (zau 0 "Reader" "passes" ["words","place"] m_1 (zac (mX (fun _=>some (.str ","))) zaa))) (zer 1 (zau 0 "Reader" "read_arg" ["words","place"] m_19 zaa)) 1000000000)
  (zah (zgd (zau 0 "Reader" "must_pass" ["words","place"] m_6 (zac (mX (fun _=>some (.str ")"))) zaa)))
  (zfj 1 (zco (za9 zkw (zad (zab 1) (zad (fun _=>some (.int 3)) (fun _=>some [])))))))))
noncomputable def m_44 : Addr->List D->List D->Option (List D×D):=zcq 2 "Reader" ["words","place"] b_44
noncomputable def b_13 : List Sl->Option Fl :=
 (zah (zbm 1 (zau 0 "Reader" "read_name" ["words","place"] m_3 zaa))
  (zbw (zcw (zac (mX (zab 1)) (zac (zgy (zdw (zau 0 "Reader" "passes" ["words","place"] m_1 (zac (mX (fun _=>some (.str "("))) zaa))) (zau 0 "Reader" "read_args" ["words","place"] m_44 zaa) (mX (zb3 (fun _=>some [])))) zaa)))))
noncomputable def m_13 : Addr->List D->List D->Option (List D×D):=zcq 2 "Reader" ["words","place"] b_13
noncomputable def b_29 : List Sl->Option Fl :=
 (zah (zbm 1 (zgy (zdw (zen zqm (zac (zau 0 "Reader" "coming" ["words","place"] m_2 (zac (mX (fun _=>some (.int 0))) zaa)) zaa))) (zau 0 "Reader" "read_number" ["words","place"] m_14 zaa) (mX (fun _=>some (.int 1)))))
  (zah (zb2 (mB (m2 dLt (zab 1) (fun _=>some (.int 0)))) (fun _=>none) zbl)
  (zbw (zcw (zac (zau 0 "Reader" "read_thing" ["words","place"] m_13 zaa) (zac (mX (zab 1)) zaa))))))
noncomputable def m_29 : Addr->List D->List D->Option (List D×D):=zcq 2 "Reader" ["words","place"] b_29
noncomputable def b_28 : List Sl->Option Fl :=
 (zah (zgz 1 (zau 0 "Reader" "read_item" ["words","place"] m_29 zaa))
  (zah (zdx (zdw (zau 0 "Reader" "passes" ["words","place"] m_1 (zac (mX (fun _=>some (.str ","))) zaa))) (zer 1 (zau 0 "Reader" "read_item" ["words","place"] m_29 zaa)) 1000000000)
  (zfj 1 (zco (zab 1)))))
noncomputable def m_28 : Addr->List D->List D->Option (List D×D):=zcq 2 "Reader" ["words","place"] b_28
noncomputable def b_37 : List Sl->Option Fl :=
 (zbw (zgy (zdw (zau 0 "Reader" "passes" ["words","place"] m_1 (zac (mX (fun _=>some (.str "over"))) zaa))) (zen zkw (zac (zau 0 "Reader" "read_pairs" ["words","place"] m_30 zaa) (zac (mX (fun _=>some (.int 2))) zaa))) (mX (zb3 (fun _=>some [])))))
noncomputable def m_37 : Addr->List D->List D->Option (List D×D):=zcq 1 "Reader" ["words","place"] b_37
noncomputable def b_39 : List Sl->Option Fl :=
 (zah (zbm 1 (zau 0 "Reader" "take" ["words","place"] m_12 zaa))
  (zah (zbm 2 (zau 0 "Reader" "read_number" ["words","place"] m_14 zaa))
  (zah (zgd (zau 0 "Reader" "must_pass" ["words","place"] m_6 (zac (mX (fun _=>some (.str "of"))) zaa)))
  (zbw (zcw (zac (mX (zab 1)) (zac (mX (zab 2)) (zac (zau 0 "Reader" "read_items" ["words","place"] m_28 zaa) (zac (zau 0 "Reader" "read_over" ["words","place"] m_37 zaa) zaa)))))))))
noncomputable def m_39 : Addr->List D->List D->Option (List D×D):=zcq 3 "Reader" ["words","place"] b_39
noncomputable def b_45 : List Sl->Option Fl :=
 (zah (zbm 1 (zau 0 "Reader" "read_arg" ["words","place"] m_19 zaa))
  (zah (zgd (zau 0 "Reader" "must_pass" ["words","place"] m_6 (zac (mX (fun _=>some (.str "unlike"))) zaa)))
  (zbw (zcw (zac (mX (fun _=>some (.str "unlike"))) (zac (mX (zab 1)) (zac (zau 0 "Reader" "read_arg" ["words","place"] m_19 zaa) zaa)))))))
noncomputable def m_45 : Addr->List D->List D->Option (List D×D):=zcq 2 "Reader" ["words","place"] b_45
noncomputable def b_36 : List Sl->Option Fl :=
 (zah (ze2 (zdw (zau 0 "Reader" "passes" ["words","place"] m_1 (zac (mX (fun _=>some (.str "not"))) zaa))) (zbw (zcw (zac (mX (fun _=>some (.str "not"))) (zac (zau 0 "Reader" "read_thing" ["words","place"] m_13 zaa) zaa)))) zbl)
  (zah (ze2 (mBX (mX2 dIn (zau 0 "Reader" "coming" ["words","place"] m_2 (zac (mX (fun _=>some (.int 0))) zaa)) (mX (znv (zad (fun _=>some (.str "least")) (zad (fun _=>some (.str "most")) (fun _=>some []))))))) (zbw (zau 0 "Reader" "read_count" ["words","place"] m_39 zaa)) zbl)
  (zah (ze2 (mBX (mX2 dEq (zau 0 "Reader" "coming" ["words","place"] m_2 (zac (mX (fun _=>some (.int 1))) zaa)) (mX (fun _=>some (.str "unlike"))))) (zbw (zau 0 "Reader" "read_unlike" ["words","place"] m_45 zaa)) zbl)
  (zbw (zcw (zac (mX (fun _=>some (.str "is"))) (zac (zau 0 "Reader" "read_thing" ["words","place"] m_13 zaa) zaa)))))))
noncomputable def m_36 : Addr->List D->List D->Option (List D×D):=zcq 1 "Reader" ["words","place"] b_36
noncomputable def b_27 : List Sl->Option Fl :=
 (zah (zgz 1 (zau 0 "Reader" "read_part" ["words","place"] m_36 zaa))
  (zah (zdx (zdw (zau 0 "Reader" "passes" ["words","place"] m_1 (zac (mX (fun _=>some (.str "and"))) zaa))) (zer 1 (zau 0 "Reader" "read_part" ["words","place"] m_36 zaa)) 1000000000)
  (zfj 1 (zco (zab 1)))))
noncomputable def m_27 : Addr->List D->List D->Option (List D×D):=zcq 2 "Reader" ["words","place"] b_27
noncomputable def b_26 : List Sl->Option Fl :=
 (zbw (zgy (zdw (zau 0 "Reader" "passes" ["words","place"] m_1 (zac (mX (fun _=>some (.str "if"))) zaa))) (zau 0 "Reader" "read_body" ["words","place"] m_27 zaa) (mX (zb3 (fun _=>some [])))))
noncomputable def m_26 : Addr->List D->List D->Option (List D×D):=zcq 1 "Reader" ["words","place"] b_26
noncomputable def b_38 : List Sl->Option Fl :=
 (zah (zbm 1 (zau 0 "Reader" "read_number" ["words","place"] m_14 zaa))
  (zah (zgd (zau 0 "Reader" "must_pass" ["words","place"] m_6 (zac (mX (fun _=>some (.str "to"))) zaa)))
  (zah (zbm 2 (zau 0 "Reader" "read_number" ["words","place"] m_14 zaa))
  (zah (zgd (zau 0 "Reader" "must_pass" ["words","place"] m_6 (zac (mX (fun _=>some (.str "of"))) zaa)))
  (zbw (zcw (zac (mX (fun _=>some (.str "choose"))) (zac (mX (zab 1)) (zac (mX (zab 2)) (zac (zau 0 "Reader" "read_items" ["words","place"] m_28 zaa) (zac (zau 0 "Reader" "read_over" ["words","place"] m_37 zaa) (zac (zau 0 "Reader" "read_if" ["words","place"] m_26 zaa) (zac (zau 0 "Reader" "read_for" ["words","place"] m_20 zaa) zaa)))))))))))))
noncomputable def m_38 : Addr->List D->List D->Option (List D×D):=zcq 3 "Reader" ["words","place"] b_38
noncomputable def b_43 : List Sl->Option Fl :=
 (zah (zgz 1 (zau 0 "Reader" "read_name" ["words","place"] m_3 zaa))
  (zah (zdx (mBX (mX2 dNe (zau 0 "Reader" "coming" ["words","place"] m_2 (zac (mX (fun _=>some (.int 0))) zaa)) (mX (fun _=>some (.str ""))))) (zer 1 (zau 0 "Reader" "read_name" ["words","place"] m_3 zaa)) 1000000000)
  (zfj 1 (zco (za9 zkw (zad (zab 1) (zad (fun _=>some (.int 12)) (fun _=>some []))))))))
noncomputable def m_43 : Addr->List D->List D->Option (List D×D):=zcq 2 "Reader" ["words","place"] b_43
noncomputable def b_42 : List Sl->Option Fl :=
 (zah (zbm 1 (zau 0 "Reader" "read_body" ["words","place"] m_27 zaa))
  (zah (zb2 (zd1 (za9 zh0 (zad (zb3 (zd7 1 [] (zeo (zab 1)) (zb8 0) (fun _=>some true) (m2 dEq (mIx (zbk 0) (fun _=>some (.int 0))) (fun _=>some (.str "unlike"))))) (fun _=>some [])))) (fun _=>none) zbl)
  (zbw (zcw (zac (mX (fun _=>some (.str "never"))) (zac (mX (zab 1)) (zac (zau 0 "Reader" "read_for" ["words","place"] m_20 zaa) zaa)))))))
noncomputable def m_42 : Addr->List D->List D->Option (List D×D):=zcq 2 "Reader" ["words","place"] b_42
noncomputable def b_41 : List Sl->Option Fl :=
 (zah (zbm 1 (zau 0 "Reader" "take" ["words","place"] m_12 zaa))
  (zah (zb2 (mB (m2 dEq (zab 1) (fun _=>some (.str "kind")))) (zbw (zcw (zac (mX (fun _=>some (.str "kind"))) (zac (zau 0 "Reader" "read_name" ["words","place"] m_3 zaa) (zac (zau 0 "Reader" "read_names" ["words","place"] m_43 zaa) zaa))))) zbl)
  (zah (zb2 (mB (m2 dIn (zab 1) (znv (zad (fun _=>some (.str "rule")) (zad (fun _=>some (.str "may")) (fun _=>some [])))))) (zbw (zcw (zac (mX (zab 1)) (zac (zau 0 "Reader" "read_thing" ["words","place"] m_13 zaa) (zac (zau 0 "Reader" "read_if" ["words","place"] m_26 zaa) (zac (zau 0 "Reader" "read_for" ["words","place"] m_20 zaa) zaa)))))) zbl)
  (zah (zb2 (mB (m2 dEq (zab 1) (fun _=>some (.str "choose")))) (zbw (zau 0 "Reader" "read_choose" ["words","place"] m_38 zaa)) zbl)
  (zah (zb2 (mB (m2 dEq (zab 1) (fun _=>some (.str "never")))) (zbw (zau 0 "Reader" "read_never" ["words","place"] m_42 zaa)) zbl)
  (fun _=>none))))))
noncomputable def m_41 : Addr->List D->List D->Option (List D×D):=zcq 2 "Reader" ["words","place"] b_41
noncomputable def b_52 : List Sl->Option Fl :=
 (zah (znt 1 2 "()," (zab 0))
  (zkq (zd7 1 [] (zeo (m2 zna (zab 1) (fun _=>some (.str " ")))) (zb8 0) (mB (m2 dNe (zab 0) (fun _=>some (.str "")))) (zab 0))))
noncomputable def zny (as:List D) : Option D:=zdt 3 b_52 as
noncomputable def b_32 : List Sl->Option Fl :=
 (zah (zqd 1 "Reader" zxq (zad (za9 zny (zad (zab 0) (fun _=>some []))) (fun _=>some [])))
  (zah (zbm 2 (zje 1 "Reader" "read_form" ["words","place"] m_41 zaa))
  (zah (zgd (zje 1 "Reader" "must_end" ["words","place"] m_49 zaa))
  (zfu 2))))
noncomputable def zk0 (as:List D) : Option D:=zdt 3 b_32 as
noncomputable def b_9 : List Sl->Option Fl :=
 (zah (zef 1 (fun _=>some (.int 1)))
  (zah (zb2 (mB (m2 dGt (za9 zcs (zad (zab 0) (fun _=>some []))) (fun _=>some (.int 0)))) (zef 1 (m2 zcf (fun _=>some (.int 1)) (m2 zex (mIx (zbk 0) (fun _=>some (.int 0))) (fun _=>some (.int 3))))) zbl)
  (zah (zes (zeo (za9 zqn (zad (zab 0) (zad (zab 1) (fun _=>some []))))) (zb8 2) (zah (zep 3 (zad (zab 2) (fun _=>some [])))
  (zah (zbm 4 (zkl 3 zqg zaa))
  (zah (zbm 5 (zib 3 zqk (zac (zib 3 zqq (zac (mX (zab 4)) zaa)) zaa)))
  (zah (zkr 6 7 (zqa zk0 5) (zfk (zd1 (za9 (zfv 9) (zad (zab 6) (zad (zab 4) (fun _=>some [])))))) (zdp (fun _=>some (.bl false))) zq8 (fun ρ=>ρ.set 7 .no))
  (zb2 (zfk (zd1 (za9 (zfv 9) (zad (za9 zk0 (zad (zab 5) (fun _=>some []))) (zad (zab 4) (fun _=>some [])))))) (zdp (fun _=>some (.bl false))) zbl))))))
  (zdp (fun _=>some (.bl true))))))
noncomputable def m_9 (as:List D) : Option D:=zdt 8 b_9 as
section
variable {P:Program} {w:World} {K:PySem.W.Frag} {mg:Str->Option Value} {base:Heap}
theorem zcl {a:Wa} (W:Wd K mg a) : zav P w K mg base CX0 1 a.f_0 a.fd_0 ["_law_state","_law_many"] (spM ⟨K,cl a⟩ 0 ["_law_state","_law_many"].length m_0) :=
 zd0 (k:=0) (N:=["_law_state","_law_many"]) (F:=b_0) W.F_0 ybz fun cdv A outer s H E hr=>by
  unfold b_0;exact (zaj (z4q (pv 0) zae (zb9 zhq (zb9 zdd (zb9 zn5 (zby (zw8 0) zae) zae) zae) (zb9 zq7 (zb9 zjn zae zae) zae)))
  (zam (zcz (zb9 zhq (zb9 z79 (zby (zw8 0) zae) zae) (dv 1)))))
theorem z8e {a:Wa} (W:Wd K mg a) : zav P w K mg base CX0 2 a.f_35 a.fd_35 ["_law_words_here","_law_state"] (spM ⟨K,cl a⟩ 1 ["_law_words_here","_law_state"].length zqk) :=
 zd0 (k:=1) (N:=["_law_words_here","_law_state","_law_line_here","_law_last","_law_word","_law_gap"]) (F:=b_35) W.F_35 zii fun cdv A outer s H E hr=>have hu:=hr.units; by
  unfold b_35;exact (zaj (zf7 2 zii.nd zar)
  (zaj (zf7 3 zii.nd zar)
  (zaj (zgt PassesOwn.never rfl (zi1 (dv 0)) (zey 4 6 zii.nd) (zaj (zb1 5 zii.nd (za8 (zcl W) (hr.mono (by decide)) rfl W.g_0 W.F_0.kp W.b_0 (zbc 1 (zag (DE.dx zae) zak))))
  (zaj (zca (DW.dt (zpq (zcj (zc7 hu) zd4 (DE.db (dv 5)) (DE.db zae)) (zpq (zcj zt9 zu4 (DE.db (dv 4)) (DE.db (DO.de (zci (zan zar (zan zar (zan zar za6))))))) (zs4 (zcj zt9 zu4 (DE.db (dv 3)) (DE.db (DO.de (zci (zan zar (zan zar (zan zar za6))))))))))) (zam (zf7 5 zii.nd zae)) zbr)
  (zaj (zw4 2 zii.nd (DE.dx (zb9 zdd (zb9 zzf zar (dv 5)) (dv 4))))
  (zam (zf7 3 zii.nd (dv 4)))))))
  (zam (zb7 (zej zdd (DE.dx (dv 2)) (zej zzf (DE.dx zar) (za8 (zcl W) (hr.mono (by decide)) rfl W.g_0 W.F_0.kp W.b_0 (zbc 1 (zag (DE.dx zae) zak))))))))))
theorem zuf {a:Wa} (W:Wd K mg a) : zav P w K mg base CX0 1 a.f_21 a.fd_21 ([] : List Str) (spD ⟨K,cl a⟩ ([] : List Str).length zkz) :=
 zff (k:=0) (N:=["_law_first"]) (F:=b_21) W.F_21 z1g fun cdv A outer s H E hr=>by
  unfold b_21;exact (zaj (zf7 0 z1g.nd (DO.de (zci (zan zar (zan zar (zan zar (zan zar (zan zar (zan zar (zan zar (zan zar za6)))))))))))
  (zam (zw5 (zpn (dv 0) (DO.de (zci (zan zar (zan zar (zan zar (zan zar (zan zar (zan zar (zan zar (zan zar za6))))))))))))))
theorem zuc {a:Wa} (W:Wd K mg a) : zav P w K mg base CX0 2 a.f_17 a.fd_17 ["_law_state","_law_many","_law_span"] (spM ⟨K,cl a⟩ 0 ["_law_state","_law_many","_law_span"].length zkx) :=
 zd0 (k:=1) (N:=["_law_state","_law_many","_law_span","_law_word","_law_k"]) (F:=b_17) W.F_17 zrq fun cdv A outer s H E hr=>by
  unfold b_17;exact (zaj (zf7 3 zrq.nd zar)
  (zaj (zgt PassesOwn.never rfl (znd rfl W.z_range (zan (dv 1) za6)) (zey 4 5 zrq.nd) (zam (zw4 3 zrq.nd (zxb (DE.dx zar) (za8 (zcl W) (hr.mono (by decide)) rfl W.g_0 W.F_0.kp W.b_0 (zbc 0 (zag (DE.dx (dv 2)) zak)))))))
  (zam (zcz (dv 3)))))
theorem zn8 {a:Wa} (W:Wd K mg a) : zav P w K mg base CX0 3 a.f_4 a.fd_4 ["_law_state"] (spM ⟨K,cl a⟩ 0 ["_law_state"].length m_4) :=
 zd0 (k:=2) (N:=["_law_state","_law_way","_law_word"]) (F:=b_4) W.F_4 zuz fun cdv A outer s H E hr=>have hu:=hr.units; by
  unfold b_4;exact (zaj (zb1 1 zuz.nd (za8 (zcl W) (hr.mono (by decide)) rfl W.g_0 W.F_0.kp W.b_0 (zbc 0 (zag (DE.dx zae) zak))))
  (zaj (zca (zcj (zc7 hu) zd4 (DE.db (dv 1)) (DE.db zae)) (zam (zb7 (zej zdd (zi6 (DE.dx (zsq (zuf W) (hr.mono (by decide)) rfl W.g_21 W.F_21.kp W.b_21)) (za8 (zcl W) (hr.mono (by decide)) rfl W.g_0 W.F_0.kp W.b_0 (zbc 0 (zag (DE.dx zae) zak)))) (za8 (zuc W) (hr.mono (by decide)) rfl W.g_17 W.F_17.kp W.b_17 (zbc 0 (zag (DE.dx zae) (zag (DE.dx zae) zak))))))) zbr)
  (zaj (zca (zcj (zc7 hu) zd4 (DE.db (dv 1)) (DE.db zae)) (zam (zb7 (z47 (zi6 (DE.dx (zsq (zuf W) (hr.mono (by decide)) rfl W.g_21 W.F_21.kp W.b_21)) (za8 (zcl W) (hr.mono (by decide)) rfl W.g_0 W.F_0.kp W.b_0 (zbc 0 (zag (DE.dx zae) zak)))) zka (zkb (zpf zae))))) zbr)
  (zaj (zb1 2 zuz.nd (za8 (zuc W) (hr.mono (by decide)) rfl W.g_17 W.F_17.kp W.b_17 (zbc 0 (zag (zej zdd (DE.dx zae) (za8 (zcl W) (hr.mono (by decide)) rfl W.g_0 W.F_0.kp W.b_0 (zbc 0 (zag (DE.dx zae) zak)))) (zag (DE.dx (zby (DO.dc (zci (zan zae (zan zae za6)))) (zb9 zhq (dv 1) zae))) zak)))))
  (zaj (zca (zcj zt8 z1z (DE.db (dv 2)) (DE.db (zsq (zuf W) (hr.mono (by decide)) rfl W.g_21 W.F_21.kp W.b_21))) (zam (zcz (zb9 zdd zar (dv 2)))) zbr)
  (zam (zcz (dv 2))))))))
theorem zzt {a:Wa} (W:Wd K mg a) : zav P w K mg base CX0 3 a.f_40 a.fd_40 ["_law_state"] (spM ⟨K,cl a⟩ 0 ["_law_state"].length zql) :=
 zd0 (k:=2) (N:=["_law_state","_law_great"]) (F:=b_40) W.F_40 z1o fun cdv A outer s H E hr=>by
  unfold b_40;exact (zaj (zb1 1 z1o.nd (zxb (DE.dx zar) (za8 (zcl W) (hr.mono (by decide)) rfl W.g_0 W.F_0.kp W.b_0 (zbc 0 (zag (zi6 (DE.dx (DO.de (zci (zan zae (zan zae za6))))) (za8 (zcl W) (hr.mono (by decide)) rfl W.g_0 W.F_0.kp W.b_0 (zbc 0 (zag (DE.dx zae) zak)))) zak)))))
  (zam (zb7 (zej zdd (DE.dx (dv 1)) (za8 (zuc W) (hr.mono (by decide)) rfl W.g_17 W.F_17.kp W.b_17 (zbc 0 (zag (za8 (zcl W) (hr.mono (by decide)) rfl W.g_0 W.F_0.kp W.b_0 (zbc 0 (zag (DE.dx zae) zak))) (zag (zi6 (DE.dx (DO.de (zci (zan zae (zan zae za6))))) (za8 (zcl W) (hr.mono (by decide)) rfl W.g_0 W.F_0.kp W.b_0 (zbc 0 (zag (DE.dx zae) zak)))) zak))))))))
theorem zug {a:Wa} (W:Wd K mg a) : zav P w K mg base CX0 4 a.f_22 a.fd_22 ["_law_state"] (spM ⟨K,cl a⟩ 0 ["_law_state"].length znx) :=
 zd0 (k:=3) (N:=["_law_state"]) (F:=b_22) W.F_22 yb5 fun cdv A outer s H E hr=>have hu:=hr.units; by
  unfold b_22;exact (zaj (zgu (zhh (zc7 hu) (za8 (zcl W) (hr.mono (by decide)) rfl W.g_0 W.F_0.kp W.b_0 (zbc 0 (zag (DE.dx zae) zak))) (DE.dx zae)) (zam (zb7 (za8 (zzt W) (hr.mono (by decide)) rfl W.g_40 W.F_40.kp W.b_40 (zbc 0 zak)))) zbr)
  (zam (zb7 (za8 (zn8 W) (hr.mono (by decide)) rfl W.g_4 W.F_4.kp W.b_4 (zbc 0 zak)))))
theorem zrf {a:Wa} (W:Wd K mg a) : zav P w K mg base CX0 2 a.f_7 a.fd_7 ["_law_state"] (spM ⟨K,cl a⟩ 0 ["_law_state"].length m_7) :=
 zd0 (k:=1) (N:=["_law_state","_law_number_here","_law_k"]) (F:=b_7) W.F_7 zoo fun cdv A outer s H E hr=>have hu:=hr.units; by
  unfold b_7;exact (zaj (zb1 1 zoo.nd (za8 (zcl W) (hr.mono (by decide)) rfl W.g_0 W.F_0.kp W.b_0 (zbc 0 (zag (DE.dx zae) zak))))
  (zaj (zgu (zhh (zc7 hu) (za8 (zcl W) (hr.mono (by decide)) rfl W.g_0 W.F_0.kp W.b_0 (zbc 0 (zag (DE.dx zae) zak))) (DE.dx zae)) (zaj (zgt PassesOwn.never rfl (znd rfl W.z_range (zan zae za6)) (zey 2 3 zoo.nd) (zam (zb1 1 zoo.nd (zej zdd (DE.dx (zb9 zn5 (dv 1) (zb9 zjn zae zae))) (za8 (zcl W) (hr.mono (by decide)) rfl W.g_0 W.F_0.kp W.b_0 (zbc 0 (zag (DE.dx (zb9 zjn zae zae)) zak)))))))
  (zam (zb1 1 zoo.nd (zej zdd (DE.dx (zb9 zn5 (dv 1) (zb9 zjn zae zae))) (za8 (zcl W) (hr.mono (by decide)) rfl W.g_0 W.F_0.kp W.b_0 (zbc 0 (zag (DE.dx (zb9 zjn zae zae)) zak))))))) zbr)
  (zaj (zgu (zhh (zc7 hu) (za8 (zcl W) (hr.mono (by decide)) rfl W.g_0 W.F_0.kp W.b_0 (zbc 0 (zag (DE.dx zae) zak))) (DE.dx zae)) (zam (zcz (zpf (dv 1)))) zbr)
  (zam (zcz (dv 1))))))
theorem zn9 {a:Wa} (W:Wd K mg a) : zav P w K mg base CX0 5 a.f_5 a.fd_5 ["_law_state"] (spM ⟨K,cl a⟩ 0 ["_law_state"].length m_5) :=
 zd0 (k:=4) (N:=["_law_state","_law_name_here"]) (F:=b_5) W.F_5 z1v fun cdv A outer s H E hr=>by
  unfold b_5;exact (zaj (zb1 1 z1v.nd (za8 (zn8 W) (hr.mono (by decide)) rfl W.g_4 W.F_4.kp W.b_4 (zbc 0 zak)))
  (zam (zb7 (zdj (zag (DE.dx (dv 1)) (zag (zps 1 [0] 0 0 ["_law_k","_law_state"] rfl (zpt rfl W.z_range (zag (zw9 (z30 rfl) rfl W.z_max boot_max (zag (DE.dx zae) (zag (zej zq7 (za8 (zcl W) (hr.mono (by decide)) rfl W.g_0 W.F_0.kp W.b_0 (zbc 0 (zag (DE.dx zae) zak))) (DE.dx zae)) zak))) zak)) (fun _ _ _ _ _=>(dgc 0 1)) (fun _ _ _ _ _=>(za8 (zug W) (hr.mono (by decide)) (glc rfl) W.g_22 W.F_22.kp W.b_22 (zpm 1 zak)))) zak))))))
theorem z8r {a:Wa} (W:Wd K mg a) : zav P w K mg base CX0 6 a.f_54 a.fd_54 ["_law_state"] (spM ⟨K,cl a⟩ 0 ["_law_state"].length zty) :=
 zd0 (k:=5) (N:=["_law_state","_law_thing_here"]) (F:=b_54) W.F_54 z1x fun cdv A outer s H E hr=>have hu:=hr.units; by
  unfold b_54;exact (zaj (zb1 1 z1x.nd (za8 (zn9 W) (hr.mono (by decide)) rfl W.g_5 W.F_5.kp W.b_5 (zbc 0 zak)))
  (zaj (zgu (zhh (zc7 hu) (za8 (zcl W) (hr.mono (by decide)) rfl W.g_0 W.F_0.kp W.b_0 (zbc 0 (zag (DE.dx zae) zak))) (DE.dx zae)) (zam (zcz (zsu (zan (dv 1) (zan zae za6))))) zbr)
  (zam (zb7 (zdj (zag (DE.dx (dv 1)) (zag (zw9 z3z rfl W.z_abs boot_abs (zag (za8 (zrf W) (hr.mono (by decide)) rfl W.g_7 W.F_7.kp W.b_7 (zbc 0 zak)) zak)) zak)))))))
theorem zzv {a:Wa} (W:Wd K mg a) : zav P w K mg base CX0 7 a.f_48 a.fd_48 ["_law_state"] (spM ⟨K,cl a⟩ 0 ["_law_state"].length zqo) :=
 zd0 (k:=6) (N:=["_law_state"]) (F:=b_48) W.F_48 yb9 fun cdv A outer s H E hr=>have hu:=hr.units; by
  unfold b_48;exact (zam (zb7 (zps 1 [0] 0 0 ["_law_k","_law_state"] rfl (zpt rfl W.z_range (zag (zej zdd (DE.dx zae) (za8 (zcl W) (hr.mono (by decide)) rfl W.g_0 W.F_0.kp W.b_0 (zbc 0 (zag (zi6 (DE.dx (DO.de (zci (zan zae (zan zae za6))))) (z46 rfl W.z_int (z45 (zc7 hu) (za8 (zcl W) (hr.mono (by decide)) rfl W.g_0 W.F_0.kp W.b_0 (zbc 0 (zag (DE.dx zae) zak))) (DE.dx zae)))) zak)))) zak)) (fun _ _ _ _ _=>(dgc 0 1)) (fun _ _ _ _ _=>(za8 (z8r W) (hr.mono (by decide)) (glc rfl) W.g_54 W.F_54.kp W.b_54 (zpm 1 zak))))))
theorem zud {a:Wa} (W:Wd K mg a) : zav P w K mg base CX0 4 a.f_18 a.fd_18 ["_law_state","_law_many"] (spM ⟨K,cl a⟩ 0 ["_law_state","_law_many"].length zky) :=
 zd0 (k:=3) (N:=["_law_state","_law_many","_law_pairs_here","_law_k","_law_variable_here"]) (F:=b_18) W.F_18 zrr fun cdv A outer s H E hr=>by
  unfold b_18;exact (zaj (zi4 2 zrr.nd (zci za6))
  (zaj (zgt PassesOwn.never rfl (znd rfl W.z_range (zan (dv 1) za6)) (zey 3 5 zrr.nd) (zaj (zb1 4 zrr.nd (za8 (zzt W) (hr.mono (by decide)) rfl W.g_40 W.F_40.kp W.b_40 (zbc 0 zak)))
  (zam (zkc (zf0 (ze5 PySem.F.plainAttrs_list PySem.F.slot_list_append PySem.F.type_list_append zgf (pv 2) (zct (zdj (zag (DE.dx (dv 4)) (zag (za8 (zn8 W) (hr.mono (by decide)) rfl W.g_4 W.F_4.kp W.b_4 (zbc 0 zak)) zak))) zde)))))))
  (zam (zhf 2 (zcz (dv 2))))))
theorem zzp {a:Wa} (W:Wd K mg a) : zav P w K mg base CX0 8 a.f_33 a.fd_33 ["_law_state"] (spM ⟨K,cl a⟩ 0 ["_law_state"].length zqi) :=
 zd0 (k:=7) (N:=["_law_state","_law_word","_law_bound","_law_some"]) (F:=b_33) W.F_33 zrs fun cdv A outer s H E hr=>by
  unfold b_33;exact (zaj (zb1 1 zrs.nd (zi6 (DE.dx (DO.de (zci (zan zar (zan zar za6))))) (za8 (zcl W) (hr.mono (by decide)) rfl W.g_0 W.F_0.kp W.b_0 (zbc 0 (zag (DE.dx zae) zak)))))
  (zaj (zb1 2 zrs.nd (za8 (zrf W) (hr.mono (by decide)) rfl W.g_7 W.F_7.kp W.b_7 (zbc 0 zak)))
  (zaj (zb1 3 zrs.nd (za8 (zzv W) (hr.mono (by decide)) rfl W.g_48 W.F_48.kp W.b_48 (zbc 0 zak)))
  (zam (zb7 (zdj (zag (DE.dx (dv 1)) (zag (DE.dx (dv 2)) (zag (DE.dx (dv 3)) (zag (za8 (zud W) (hr.mono (by decide)) rfl W.g_18 W.F_18.kp W.b_18 (zbc 0 (zag (za8 (zcl W) (hr.mono (by decide)) rfl W.g_0 W.F_0.kp W.b_0 (zbc 0 (zag (DE.dx zae) zak))) zak))) zak))))))))))
theorem z8q {a:Wa} (W:Wd K mg a) : zav P w K mg base CX0 9 a.f_53 a.fd_53 ["_law_state"] (spM ⟨K,cl a⟩ 0 ["_law_state"].length ztx) :=
 zd0 (k:=8) (N:=["_law_state","_law_way","_law_one"]) (F:=b_53) W.F_53 zu0 fun cdv A outer s H E hr=>have hu:=hr.units; by
  unfold b_53;exact (zaj (zb1 1 zu0.nd (za8 (zcl W) (hr.mono (by decide)) rfl W.g_0 W.F_0.kp W.b_0 (zbc 0 (zag (DE.dx zae) zak))))
  (zaj (zca (zcj zk4 zmp (DE.db (dv 1)) (DE.db zae)) (zam (zb7 (za8 (zzp W) (hr.mono (by decide)) rfl W.g_33 W.F_33.kp W.b_33 (zbc 0 zak)))) zbr)
  (zaj (zca (zcj (zc7 hu) zd4 (DE.db (dv 1)) (DE.db zae)) (zaj (zb1 2 zu0.nd (za8 (zug W) (hr.mono (by decide)) rfl W.g_22 W.F_22.kp W.b_22 (zbc 0 zak)))
  (zam (zb7 (zdj (zag (DE.dx zar) (zag (DE.dx (dv 2)) (zag (za8 (zug W) (hr.mono (by decide)) rfl W.g_22 W.F_22.kp W.b_22 (zbc 0 zak)) zak))))))) zbr)
  (zam (zb7 (zdj (zag (DE.dx (zby (DO.dc (zci (zan zar (zan zar za6)))) (zb9 zq7 (dv 1) zae))) (zag (za8 (zn9 W) (hr.mono (by decide)) rfl W.g_5 W.F_5.kp W.b_5 (zbc 0 zak)) zak))))))))
theorem z8t {a:Wa} (W:Wd K mg a) : zav P w K mg base CX0 10 a.f_56 a.fd_56 ["_law_state"] (spM ⟨K,cl a⟩ 0 ["_law_state"].length zt0) :=
 zd0 (k:=9) (N:=["_law_state"]) (F:=b_56) W.F_56 ycc fun cdv A outer s H E hr=>by
  unfold b_56;exact (zam (zb7 (zps 1 [0] 0 0 ["_law_k","_law_state"] rfl (zpt rfl W.z_range (zag (za8 (zcl W) (hr.mono (by decide)) rfl W.g_0 W.F_0.kp W.b_0 (zbc 0 (zag (DE.dx zae) zak))) zak)) (fun _ _ _ _ _=>(dgc 0 1)) (fun _ _ _ _ _=>(za8 (z8q W) (hr.mono (by decide)) (glc rfl) W.g_53 W.F_53.kp W.b_53 (zpm 1 zak))))))
theorem z8d {a:Wa} (W:Wd K mg a) : zav P w K mg base CX0 11 a.f_23 a.fd_23 ["_law_state"] (spM ⟨K,cl a⟩ 0 ["_law_state"].length zqg) :=
 zd0 (k:=10) (N:=["_law_state","_law_way","_law_body_here","_law_pairs_here","_law_name_here","_law_at","_law_some","_law_low","_law_high"]) (F:=b_23) W.F_23 zg3 fun cdv A outer s H E hr=>have hu:=hr.units; by
  unfold b_23;exact (zaj (zb1 1 zg3.nd (za8 (zcl W) (hr.mono (by decide)) rfl W.g_0 W.F_0.kp W.b_0 (zbc 0 (zag (DE.dx zae) zak))))
  (zaj (zb1 2 zg3.nd (za8 (z8t W) (hr.mono (by decide)) rfl W.g_56 W.F_56.kp W.b_56 (zbc 0 zak)))
  (zaj (zb1 3 zg3.nd (za8 (zud W) (hr.mono (by decide)) rfl W.g_18 W.F_18.kp W.b_18 (zbc 0 (zag (za8 (zcl W) (hr.mono (by decide)) rfl W.g_0 W.F_0.kp W.b_0 (zbc 0 (zag (DE.dx zae) zak))) zak))))
  (zaj (zca (zcj (zc7 hu) zd4 (DE.db (dv 1)) (DE.db zae)) (zaj (zb1 4 zg3.nd (za8 (zn8 W) (hr.mono (by decide)) rfl W.g_4 W.F_4.kp W.b_4 (zbc 0 zak)))
  (zam (zb7 (zdj (zag (DE.dx zar) (zag (DE.dx (dv 4)) (zag (zps 1 [0] 0 0 ["_law_k","_law_state"] rfl (zpt rfl W.z_range (zag (zej zdd (DE.dx zae) (za8 (zcl W) (hr.mono (by decide)) rfl W.g_0 W.F_0.kp W.b_0 (zbc 0 (zag (DE.dx zae) zak)))) zak)) (fun _ _ _ _ _=>(dgc 0 1)) (fun _ _ _ _ _=>(za8 (zn8 W) (hr.mono (by decide)) (glc rfl) W.g_4 W.F_4.kp W.b_4 (zpm 1 zak)))) zak))))))) zbr)
  (zaj (zca (zcj zk4 zmp (DE.db (dv 1)) (DE.db zae)) (zaj (zb1 5 zg3.nd (za8 (zcl W) (hr.mono (by decide)) rfl W.g_0 W.F_0.kp W.b_0 (zbc 0 (zag (DE.dx (zb9 zdd (zed zev ze6 rfl W.z_len PySem.boot_len (zeb (DE.db (dv 2)) zec)) zae)) zak))))
  (zaj (zb1 6 zg3.nd (zxc (zag (za8 (zzp W) (hr.mono (by decide)) rfl W.g_33 W.F_33.kp W.b_33 (zbc 0 zak)) (zag (zdj (zag (DE.dx zar) (zag (za8 (zn9 W) (hr.mono (by decide)) rfl W.g_5 W.F_5.kp W.b_5 (zbc 0 zak)) zak))) (zag (zdj (zag (DE.dx zar) (zag (za8 (zn9 W) (hr.mono (by decide)) rfl W.g_5 W.F_5.kp W.b_5 (zbc 0 zak)) zak))) zak)))))
  (zam (zb7 (zdj (zag (DE.dx zar) (zag (zej zdd (zej zdd (DE.dx (DO.de (by refine zw2 ?a ?b ?c; (case a=>exact (dv 2)); (case b=>exact zka); (case c=>exact (zkb (dv 5)))))) (zxc (zag (zi6 (DE.dx (dv 6)) (za8 (zcl W) (hr.mono (by decide)) rfl W.g_0 W.F_0.kp W.b_0 (zbc 0 (zag (DE.dx zae) zak)))) zak))) (DE.dx (DO.de (by refine zw2 ?a ?b ?c; (case a=>exact (dv 2)); (case b=>exact (zkb (dv 5))); (case c=>exact zka))))) (zag (DE.dx (dv 3)) zak)))))))) zbr)
  (zaj (zca (zcj zk4 zmp (DE.db (dv 1)) (DE.db zae)) (zaj (zb1 7 zg3.nd (za8 (zrf W) (hr.mono (by decide)) rfl W.g_7 W.F_7.kp W.b_7 (zbc 0 zak)))
  (zaj (zb1 8 zg3.nd (za8 (zrf W) (hr.mono (by decide)) rfl W.g_7 W.F_7.kp W.b_7 (zbc 0 zak)))
  (zaj (zb1 6 zg3.nd (za8 (zzv W) (hr.mono (by decide)) rfl W.g_48 W.F_48.kp W.b_48 (zbc 0 zak)))
  (zam (zb7 (zdj (zag (DE.dx zar) (zag (DE.dx (dv 7)) (zag (DE.dx (dv 8)) (zag (DE.dx (dv 6)) (zag (za8 (zud W) (hr.mono (by decide)) rfl W.g_18 W.F_18.kp W.b_18 (zbc 0 (zag (za8 (zcl W) (hr.mono (by decide)) rfl W.g_0 W.F_0.kp W.b_0 (zbc 0 (zag (DE.dx zae) zak))) zak))) (zag (DE.dx (dv 2)) (zag (DE.dx (dv 3)) zak))))))))))))) zbr)
  (zam (zb7 (zdj (zag (DE.dx (zby (DO.dc (zci (zan zar (zan zar za6)))) (zb9 zhq (dv 1) zae))) (zag (za8 (zn9 W) (hr.mono (by decide)) rfl W.g_5 W.F_5.kp W.b_5 (zbc 0 zak)) (zag (DE.dx (dv 2)) (zag (DE.dx (dv 3)) zak)))))))))))))
theorem zub {a:Wa} (W:Wd K mg a) : ∀ j,zav P w K mg base CX0 (1 + j) a.f_10 a.fd_10 ["_law_found","_law_due"] (spD ⟨K,cl a⟩ ["_law_found","_law_due"].length (zfv j))
 | 0=>z5g (k:=0) (N:=["_law_found","_law_due"]) W.F_10 z1b
 | j + 1=>zff (k:=1 + j) (N:=["_law_found","_law_due"]) (F:=b_10 (zfv j)) W.F_10 z1b fun cdv A outer s H E hr=>have hu:=hr.units; by
  unfold b_10;exact (zaj (zca (zfe (DE.db (zhd (T:="str") (zxz W) rfl W.z_isinstance boot_str rfl W.z_str (DE.db (dv 1))))) (zam (zez (ziy (zhd (T:="str") (zxz W) rfl W.z_isinstance boot_str rfl W.z_str (DE.db (dv 0))) (ziz (zhc (zc7 hu) zd4 (DE.db (dv 0)) (DE.db (dv 1))))))) zbr)
  (zaj (zca (zfe (DE.db (zhd (T:="int") (zxy W) rfl W.z_isinstance boot_int rfl W.z_int (DE.db (dv 1))))) (zam (zez (ziy (zhd (T:="int") (zxy W) rfl W.z_isinstance boot_int rfl W.z_int (DE.db (dv 0))) (ziy (zwp (zhd (T:="bool") (z6f W) rfl W.z_isinstance boot_bool rfl W.z_bool (DE.db (dv 0)))) (ziz (zhc (zc7 hu) zd4 (DE.db (dv 0)) (DE.db (dv 1)))))))) zbr)
  (zaj (zca (DW.dt (zpq (zfe (DE.db (zhd (T:="tuple") (zx0 W) rfl W.z_isinstance boot_tuple rfl W.z_tuple (DE.db (dv 1))))) (zs4 (zi5 (zfe (DE.db (zhd (T:="tuple") (zx0 W) rfl W.z_isinstance boot_tuple rfl W.z_tuple (DE.db (dv 0))))))))) (zam (zez zhb)) zbr)
  (zaj (zca (DW.dt (zpq (zfe (DE.db (zhd (T:="list") (zth W) rfl W.z_isinstance boot_list rfl W.z_list (DE.db (dv 1))))) (zs4 (zi5 (zfe (DE.db (zhd (T:="list") (zth W) rfl W.z_isinstance boot_list rfl W.z_list (DE.db (dv 0))))))))) (zam (zez zhb)) zbr)
  (zaj (zca (zcj (zn6 hu) zu3 (DE.db (zed zev ze6 rfl W.z_len PySem.boot_len (zeb (DE.db (dv 0)) zec))) (DE.db (zed zev ze6 rfl W.z_len PySem.boot_len (zeb (DE.db (dv 1)) zec)))) (zam (zez zhb)) zbr)
  (zam (zez (zed (zsj rfl) zu2 rfl W.z_all boot_all (zeb (DE.db (DO.de (zpo 1 [0,1] ["_law_k","_law_found","_law_due"] rfl (DI.de (znd rfl W.z_range (zan (zed zev ze6 rfl W.z_len PySem.boot_len (zeb (DE.db (dv 1)) zec)) za6))) (fun _ _ _ _ _=>(dgc 0 1)) (fun _ _ _ _ _=>zni) (fun _ _ _ _ _=>(zdh (zub W j) hr (glc rfl) W.g_10 W.F_10.kp W.b_10 (zan (zby (zs3 1) (dvc 0)) (zan (zby (zs3 2) (dvc 0)) za6))))))) zec)))))))))
theorem z8m {a:Wa} (W:Wd K mg a) : zav P w K mg base CX0 1 a.f_47 a.fd_47 ["_law_script","_law_many"] (spD ⟨K,cl a⟩ ["_law_script","_law_many"].length zqn) :=
 zff (k:=0) (N:=["_law_script","_law_many","_law_seeds_here","_law_at","_law_cell","_law_seed"]) (F:=b_47) W.F_47 zon fun cdv A outer s H E hr=>by
  unfold b_47;exact (zaj (z4v 2 1 [] ["_law_k"] zon.nd rfl (DI.de (znd rfl W.z_range (zan (dv 1) za6))) (fun _ _ _ _ _=>(dgc 0 1)) (fun _ _ _ _ _=>zni) (fun _ _ _ _ _=>(zb9 zdd (zb9 zn5 (dvc 0) zae) zae)))
  (zaj (zgt PassesOwn.never rfl (zwz rfl W.z_enumerate (zan (dv 0) za6)) (zpj rfl (zh8 (zey 3 6 zon.nd) (zh8 (zey 4 6 zon.nd) zpk))) (zaj (zf7 5 zon.nd (zb9 zdd (zb9 zn5 (zby (dvC 2) (zb9 zhq (dv 3) (dv 1))) zae) (zb9 zhq (dv 4) (zb9 zjn zae zae))))
  (zam (z4p (pv 2) (zb9 zhq (dv 3) (dv 1)) (zb9 zhq (zb9 zdd (dv 5) (dv 3)) (zb9 zq7 (zb9 zjn zae zae) zae))))))
  (zam (znf 2))))
theorem zrg {a:Wa} (W:Wd K mg a) : zav P w K mg base CX0 1 a.f_8 a.fd_8 ["_law_thing_here"] (spD ⟨K,cl a⟩ ["_law_thing_here"].length m_8) :=
 zff (k:=0) (N:=["_law_thing_here","_law_words_here","_law_k","_law_arg_here"]) (F:=b_8) W.F_8 zop fun cdv A outer s H E hr=>by
  unfold b_8;exact (zaj (zi4 1 zop.nd (zci (zan (zby (dvC 0) zae) za6)))
  (zaj (zgt PassesOwn.never rfl (zwz rfl W.z_enumerate (zan (zby (dvC 0) zae) za6)) (zpj rfl (zh8 (zey 2 4 zop.nd) (zh8 (zey 3 4 zop.nd) zpk))) (zam (zne 1 zop.nd (DE.dx (DO.de (zci (zan (zby (DO.dc (zci (zan zar (zan zar za6)))) (zsr rfl W.z_int (zhc zjm zjt (DE.db (dv 2)) (DE.db zae)))) (zan (dv 3) za6))))))))
  (zaj (zca (zcj zjm zjt (DE.db (zed zev ze6 rfl W.z_len PySem.boot_len (zeb (DE.db (zby (dvC 0) zae)) zec))) (DE.db zae)) (zam (zpp (zf0 (ze5 PySem.F.plainAttrs_list PySem.F.slot_list_append PySem.F.type_list_append zgf (pv 1) (zct zar zde))))) zbr)
  (zam (znf 1)))))
theorem zzg {a:Wa} (W:Wd K mg a) : zav P w K mg base CX0 2 a.f_24 a.fd_24 ["_law_some","_law_state"] (spM ⟨K,cl a⟩ 1 ["_law_some","_law_state"].length zqh) :=
 zd0 (k:=1) (N:=["_law_some","_law_state","_law_words_here","_law_thing_here","_law_worth"]) (F:=b_24) W.F_24 zom fun cdv A outer s H E hr=>have hu:=hr.units; by
  unfold b_24;exact (zaj (zi4 2 zom.nd (zci za6))
  (zaj (zgt PassesOwn.never rfl (zi1 (dv 0)) (zpj rfl (zh8 (zey 3 5 zom.nd) (zh8 (zey 4 5 zom.nd) zpk))) (zaj (zca (zcj zjm zjt (DE.db (zed zev ze6 rfl W.z_len PySem.boot_len (zeb (dvB 2) zec))) (DE.db zae)) (zam (zpp (zf0 (ze5 PySem.F.plainAttrs_list PySem.F.slot_list_append PySem.F.type_list_append zgf (pv 2) (zct zar zde))))) zbr)
  (zaj (zgu (DWX.dtx (z43 (DT.dtx (zcj (zn6 hu) zu3 (DE.db (dv 4)) (DE.db zae))) (z42 (zhh (zc7 hu) (za8 (zcl W) (hr.mono (by decide)) rfl W.g_0 W.F_0.kp W.b_0 (zbc 1 (zag (DE.dx zae) zak))) (DE.dx zae))))) (zam (zpp (zf0 (ze5 PySem.F.plainAttrs_list PySem.F.slot_list_append PySem.F.type_list_append zgf (pv 2) (zct (zpg rfl W.z_str (dv 4)) zde))))) zbr)
  (zam (zne 2 zom.nd (DE.dx (zdh (zrg W) (hr.mono (by decide)) rfl W.g_8 W.F_8.kp W.b_8 (zan (dv 3) za6))))))))
  (zam (zhf 2 (zcz (dv 2))))))
theorem zq9 {a:Wa} (W:Wd K mg a) : zav P w K mg base CX0 1 a.f_11 a.fd_11 ["_law_opening","_law_pairs_here"] (spD ⟨K,cl a⟩ ["_law_opening","_law_pairs_here"].length zku) :=
 zff (k:=0) (N:=["_law_opening","_law_pairs_here","_law_words_here","_law_variable_here","_law_kind"]) (F:=b_11) W.F_11 zol fun cdv A outer s H E hr=>by
  unfold b_11;exact (zaj (zi4 2 zol.nd (zci za6))
  (zaj (zgt PassesOwn.never rfl (zi1 (dv 1)) (zpj rfl (zh8 (zey 3 5 zol.nd) (zh8 (zey 4 5 zol.nd) zpk))) (zam (zne 2 zol.nd (DE.dx (DO.de (zci (zan (zby (DO.dc (zci (zan (dv 0) (zan zar za6)))) (zsr rfl W.z_int (zhc zjm zjt (DE.db (zed zev ze6 rfl W.z_len PySem.boot_len (zeb (dvB 2) zec))) (DE.db zae)))) (zan (dv 3) (zan zar (zan (dv 4) za6))))))))))
  (zam (znf 2))))
theorem z8s {a:Wa} (W:Wd K mg a) : zav P w K mg base CX0 3 a.f_55 a.fd_55 ["_law_part_here","_law_state"] (spM ⟨K,cl a⟩ 1 ["_law_part_here","_law_state"].length ztz) :=
 zd0 (k:=2) (N:=["_law_part_here","_law_state","_law_words_here"]) (F:=b_55) W.F_55 z1y fun cdv A outer s H E hr=>have hu:=hr.units; by
  unfold b_55;exact (zaj (zca (zcj (zc7 hu) zd4 (DE.db (zby (dvC 0) zae)) (DE.db zar)) (zam (zcz (DO.de (zci (zan (zby (dvC 0) zae) (zan zar (zan (zby (dvC 0) zae) za6))))))) zbr)
  (zaj (zca (zcj (zc7 hu) zd4 (DE.db (zby (dvC 0) zae)) (DE.db zar)) (zam (zcz (zdh (zrg W) (hr.mono (by decide)) rfl W.g_8 W.F_8.kp W.b_8 (zan (zby (dvC 0) zae) za6)))) zbr)
  (zaj (zca (zcj (zc7 hu) zd4 (DE.db (zby (dvC 0) zae)) (DE.db zar)) (zam (zcz (DO.de (zpn (DO.de (zci (zan zar za6))) (zdh (zrg W) (hr.mono (by decide)) rfl W.g_8 W.F_8.kp W.b_8 (zan (zby (dvC 0) zae) za6)))))) zbr)
  (zaj (zb1 2 z1y.nd (zej zdd (DE.dx (DO.de (zci (zan (zby (dvC 0) zae) (zan (zpg rfl W.z_str (zby (dvC 0) zae)) (zan zar za6)))))) (znj (zzg W) (hr.mono (by decide)) rfl W.g_24 W.F_24.kp W.b_24 (zhe (DE.dx (zby (dvC 0) zae)) (zi2 1)))))
  (zam (zcz (zb9 zdd (dv 2) (zdh (zq9 W) (hr.mono (by decide)) rfl W.g_11 W.F_11.kp W.b_11 (zan zar (zan (zby (dvC 0) zae) za6))))))))))
theorem zzq {a:Wa} (W:Wd K mg a) : zav P w K mg base CX0 4 a.f_34 a.fd_34 ["_law_opening","_law_body_here","_law_state"] (spM ⟨K,cl a⟩ 2 ["_law_opening","_law_body_here","_law_state"].length zqj) :=
 zd0 (k:=3) (N:=["_law_opening","_law_body_here","_law_state","_law_words_here","_law_part_here"]) (F:=b_34) W.F_34 zrt fun cdv A outer s H E hr=>by
  unfold b_34;exact (zaj (zi4 3 zrt.nd (zci za6))
  (zaj (zgt PassesOwn.never rfl (zi1 (dv 1)) (zey 4 5 zrt.nd) (zaj (zpp (zf0 (ze5 PySem.F.plainAttrs_list PySem.F.slot_list_append PySem.F.type_list_append zgf (pv 3) (zct (zby (DO.dc (zci (zan (dv 0) (zan zar za6)))) (zsr rfl W.z_int (zhc zjm zjt (DE.db (zed zev ze6 rfl W.z_len PySem.boot_len (zeb (dvB 3) zec))) (DE.db zae)))) zde))))
  (zam (zne 3 zrt.nd (znj (z8s W) (hr.mono (by decide)) rfl W.g_55 W.F_55.kp W.b_55 (zhe (DE.dx (dv 4)) (zi2 2)))))))
  (zam (zhf 3 (zcz (dv 3))))))
theorem z8o {a:Wa} (W:Wd K mg a) : zav P w K mg base CX0 5 a.f_51 a.fd_51 ["_law_row_here","_law_state"] (spM ⟨K,cl a⟩ 1 ["_law_row_here","_law_state"].length zqq) :=
 zd0 (k:=4) (N:=["_law_row_here","_law_state","_law_words_here"]) (F:=b_51) W.F_51 zru fun cdv A outer s H E hr=>have hu:=hr.units; by
  unfold b_51;exact (zaj (zca (zcj (zc7 hu) zd4 (DE.db (zby (dvC 0) zae)) (DE.db zar)) (zam (zcz (DO.de (zpn (DO.de (zci (zan zar (zan (zby (dvC 0) zae) za6)))) (zby (dvC 0) zae))))) zbr)
  (zaj (zca (zcj (zc7 hu) zd4 (DE.db (zby (dvC 0) zae)) (DE.db zar)) (zam (zb7 (zej zdd (znj (zzq W) (hr.mono (by decide)) rfl W.g_34 W.F_34.kp W.b_34 (zhe (DE.dx zar) (zhe (DE.dx (zby (dvC 0) zae)) (zi2 1)))) (DE.dx (zdh (zq9 W) (hr.mono (by decide)) rfl W.g_11 W.F_11.kp W.b_11 (zan zar (zan (zby (dvC 0) zae) za6))))))) zbr)
  (zaj (zca (zcj (zc7 hu) zd4 (DE.db (zby (dvC 0) zae)) (DE.db zar)) (zaj (z4u 2 zru.nd (DE.dx (DO.de (zci (zan zar (zan (zpg rfl W.z_str (zby (dvC 0) zae)) (zan zar (zan (zpg rfl W.z_str (zby (dvC 0) zae)) (zan zar za6)))))))) (znj (zzg W) (hr.mono (by decide)) rfl W.g_24 W.F_24.kp W.b_24 (zhe (DE.dx (zby (dvC 0) zae)) (zi2 1))))
  (zam (zne 2 zru.nd (DE.dx (zdh (zq9 W) (hr.mono (by decide)) rfl W.g_11 W.F_11.kp W.b_11 (zan zar (zan (zby (dvC 0) zae) za6))))))) (zam (zi4 2 zru.nd (zpn (DO.de (zci (zan (zby (dvC 0) zae) za6))) (zdh (zrg W) (hr.mono (by decide)) rfl W.g_8 W.F_8.kp W.b_8 (zan (zby (dvC 0) zae) za6))))))
  (zam (zhf 2 (zb7 (zej zdd (zej zdd (DE.dx (dv 2)) (znj (zzq W) (hr.mono (by decide)) rfl W.g_34 W.F_34.kp W.b_34 (zhe (DE.dx zar) (zhe (DE.dx (zby (dvC 0) (zpf zae))) (zi2 1))))) (DE.dx (zdh (zq9 W) (hr.mono (by decide)) rfl W.g_11 W.F_11.kp W.b_11 (zan zar (zan (zby (dvC 0) (zpf zae)) za6)))))))))))
theorem z8v {a:Wa} (W:Wd K mg a) : zav P w K mg base CX0 1 a.f_58 a.fd_58 ["self","words"] (spI ⟨K,cl a⟩ "Reader" ["self","words"].length zxq) :=
 z5h (k:=0) (N:=["self","words"]) (cn:="Reader") W.F_58 yce fun cdv A outer s H E hr=>(zw7 (zax W) (zqw W) (pv 0) (dv 1) (zw7 (zax W) (zn2 W) (pv 0) zae z4x))
theorem z8n {a:Wa} (W:Wd K mg a) : zav P w K mg base CX0 1 a.f_49 a.fd_49 ["self"] (zcm ⟨K,cl a⟩ "Reader" ["words","place"] ["self"].length m_49) :=
 zc6 (k:=0) (N:=["self"]) (cn:="Reader") (ns:=["words","place"]) (F:=b_49) W.F_49 yca fun cdv A outer s H E hr=>by
  unfold b_49;exact (zam (zca (zcj zk4 zmp (DE.db (znb "Reader" (zax W) (zn2 W) (pv 0))) (DE.db (zed zev ze6 rfl W.z_len PySem.boot_len (zeb (DE.db (znb "Reader" (zax W) (zqw W) (pv 0))) zec)))) (zam zhg) zbr))
theorem zjo {a:Wa} (W:Wd K mg a) : zav P w K mg base CX0 1 a.f_2 a.fd_2 ["self","behind"] (zcm ⟨K,cl a⟩ "Reader" ["words","place"] ["self","behind"].length m_2) :=
 zc6 (k:=0) (N:=["self","behind","place"]) (cn:="Reader") (ns:=["words","place"]) (F:=b_2) W.F_2 z1f fun cdv A outer s H E hr=>by
  unfold b_2;exact (zaj (zf7 2 z1f.nd (zb9 zdd (znb "Reader" (zax W) (zn2 W) (pv 0)) (dv 1)))
  (zam (zcz (zwo (zcj zk4 zmp (DE.db (dv 2)) (DE.db (zed zev ze6 rfl W.z_len PySem.boot_len (zeb (DE.db (znb "Reader" (zax W) (zqw W) (pv 0))) zec)))) (zby (DE.dc (znb "Reader" (zax W) (zqw W) (pv 0))) (dv 2)) zar))))
theorem zg2 {a:Wa} (W:Wd K mg a) : zav P w K mg base CX0 2 a.f_1 a.fd_1 ["self","word"] (zcm ⟨K,cl a⟩ "Reader" ["words","place"] ["self","word"].length m_1) :=
 zc6 (k:=1) (N:=["self","word"]) (cn:="Reader") (ns:=["words","place"]) (F:=b_1) W.F_1 yb0 fun cdv A outer s H E hr=>have hu:=hr.units; by
  unfold b_1;exact (zaj (zgu (zhh (zn6 hu) (zdi (pv 0) (zax W) (zji W) (zjo W) (hr.mono (by decide)) W.b_2 (zag (DE.dx zae) zak)) (DE.dx (dv 1))) (zam (zcz zhb)) zbr)
  (zaj (zw3 "Reader" (zax W) (zn2 W) (pv 0) zae)
  (zam (zcz zhb))))
theorem zk6 {a:Wa} (W:Wd K mg a) : zav P w K mg base CX0 3 a.f_6 a.fd_6 ["self","word"] (zcm ⟨K,cl a⟩ "Reader" ["words","place"] ["self","word"].length m_6) :=
 zc6 (k:=2) (N:=["self","word"]) (cn:="Reader") (ns:=["words","place"]) (F:=b_6) W.F_6 ycf fun cdv A outer s H E hr=>by
  unfold b_6;exact (zam (zgu (z41 (zfq (zdi (pv 0) (zax W) (zg1 W) (zg2 W) (hr.mono (by decide)) W.b_1 (zag (DE.dx (dv 1)) zak)))) (zam zhg) zbr))
theorem zn7 {a:Wa} (W:Wd K mg a) : zav P w K mg base CX0 2 a.f_12 a.fd_12 ["self"] (zcm ⟨K,cl a⟩ "Reader" ["words","place"] ["self"].length m_12) :=
 zc6 (k:=1) (N:=["self","word"]) (cn:="Reader") (ns:=["words","place"]) (F:=b_12) W.F_12 z1c fun cdv A outer s H E hr=>by
  unfold b_12;exact (zaj (zb1 1 z1c.nd (zdi (pv 0) (zax W) (zji W) (zjo W) (hr.mono (by decide)) W.b_2 (zag (DE.dx zae) zak)))
  (zaj (zw3 "Reader" (zax W) (zn2 W) (pv 0) zae)
  (zam (zcz (dv 1)))))
theorem zrc {a:Wa} (W:Wd K mg a) : zav P w K mg base CX0 1 a.f_15 a.fd_15 ["word","signs","most"] (spD ⟨K,cl a⟩ ["word","signs","most"].length zkv) :=
 zff (k:=0) (N:=["word","signs","most"]) (F:=b_15) W.F_15 yb1 fun cdv A outer s H E hr=>by
  unfold b_15;exact (zam (zez (ziy (z4h zze z10 zze z10 (DE.db zae) (DE.db (zed zev ze6 rfl W.z_len PySem.boot_len (zeb (DE.db (dv 0)) zec))) (DE.db (dv 2))) (ziz (zed (zsj rfl) zu2 rfl W.z_all boot_all (zeb (DE.db (DO.de (zpo 1 [1] ["sign","signs"] rfl (DI.de (z4m (dv 0))) (fun _ _ _ _ _=>(dgc 0 1)) (fun _ _ _ _ _=>zni) (fun _ _ _ _ _=>(zhc z8a ycg (DE.db (dvc 0)) (DE.db (dvc 1))))))) zec))))))
theorem z8u {a:Wa} (W:Wd K mg a) : zav P w K mg base CX0 2 a.f_57 a.fd_57 ["word"] (spD ⟨K,cl a⟩ ["word"].length zt1) :=
 zff (k:=1) (N:=["word"]) (F:=b_57) W.F_57 ycd fun cdv A outer s H E hr=>by
  unfold b_57;exact (zam (zez (ziy (zdh (zrc W) (hr.mono (by decide)) rfl W.g_15 W.F_15.kp W.b_15 (zan (dv 0) (zan (zpe rfl W.g_SMALL) (zan zae za6)))) (ziz (zhc zt9 zu4 (DE.db (dv 0)) (DE.db (z4i rfl W.g_KEPT)))))))
theorem zk5 {a:Wa} (W:Wd K mg a) : zav P w K mg base CX0 3 a.f_3 a.fd_3 ["self"] (zcm ⟨K,cl a⟩ "Reader" ["words","place"] ["self"].length m_3) :=
 zc6 (k:=2) (N:=["self","word"]) (cn:="Reader") (ns:=["words","place"]) (F:=b_3) W.F_3 z1l fun cdv A outer s H E hr=>by
  unfold b_3;exact (zaj (zb1 1 z1l.nd (zbj (pv 0) (zax W) (znz W) (zn7 W) (hr.mono (by decide)) W.b_12))
  (zaj (zca (zi5 (zfe (DE.db (zdh (z8u W) (hr.mono (by decide)) rfl W.g_57 W.F_57.kp W.b_57 (zan (dv 1) za6))))) (zam zhg) zbr)
  (zam (zcz (dv 1)))))
theorem zzw {a:Wa} (W:Wd K mg a) : zav P w K mg base CX0 2 a.f_50 a.fd_50 ["word"] (spD ⟨K,cl a⟩ ["word"].length zqp) :=
 zff (k:=1) (N:=["word"]) (F:=b_50) W.F_50 ycb fun cdv A outer s H E hr=>have hu:=hr.units; by
  unfold b_50;exact (zam (zez (ziy (zdh (zrc W) (hr.mono (by decide)) rfl W.g_15 W.F_15.kp W.b_15 (zan (zst (dv 0) zka (zkb zae)) (zan (zpe rfl W.g_GREAT) (zan zae za6)))) (ziz (z4k (zhc (zc7 hu) zd4 (DE.db (zed zev ze6 rfl W.z_len PySem.boot_len (zeb (DE.db (dv 0)) zec))) (DE.db zae)) (ziz (zdh (zrc W) (hr.mono (by decide)) rfl W.g_15 W.F_15.kp W.b_15 (zan (zst (dv 0) (zkb zae) zka) (zan (zpe rfl W.g_SMALL) (zan zae za6))))))))))
theorem zzh {a:Wa} (W:Wd K mg a) : zav P w K mg base CX0 3 a.f_25 a.fd_25 ["self"] (zcm ⟨K,cl a⟩ "Reader" ["words","place"] ["self"].length m_25) :=
 zc6 (k:=2) (N:=["self","word"]) (cn:="Reader") (ns:=["words","place"]) (F:=b_25) W.F_25 z1h fun cdv A outer s H E hr=>by
  unfold b_25;exact (zaj (zb1 1 z1h.nd (zbj (pv 0) (zax W) (znz W) (zn7 W) (hr.mono (by decide)) W.b_12))
  (zaj (zca (zi5 (zfe (DE.db (zdh (zzw W) (hr.mono (by decide)) rfl W.g_50 W.F_50.kp W.b_50 (zan (dv 1) za6))))) (zam zhg) zbr)
  (zam (zcz (dv 1)))))
theorem zzn {a:Wa} (W:Wd K mg a) : zav P w K mg base CX0 4 a.f_31 a.fd_31 ["self"] (zcm ⟨K,cl a⟩ "Reader" ["words","place"] ["self"].length m_31) :=
 zc6 (k:=3) (N:=["self","variable"]) (cn:="Reader") (ns:=["words","place"]) (F:=b_31) W.F_31 z1n fun cdv A outer s H E hr=>by
  unfold b_31;exact (zaj (zb1 1 z1n.nd (zbj (pv 0) (zax W) (zy1 W) (zzh W) (hr.mono (by decide)) W.b_25))
  (zaj (zi3 (zdi (pv 0) (zax W) (zk1 W) (zk6 W) (hr.mono (by decide)) W.b_6 (zag (DE.dx zar) zak)))
  (zam (zb7 (zdj (zag (DE.dx (dv 1)) (zag (zbj (pv 0) (zax W) (zk2 W) (zk5 W) (hr.mono (by decide)) W.b_3) zak)))))))
theorem zzm {a:Wa} (W:Wd K mg a) : zav P w K mg base CX0 5 a.f_30 a.fd_30 ["self"] (zcm ⟨K,cl a⟩ "Reader" ["words","place"] ["self"].length m_30) :=
 zc6 (k:=4) (N:=["self","pairs"]) (cn:="Reader") (ns:=["words","place"]) (F:=b_30) W.F_30 z1m fun cdv A outer s H E hr=>by
  unfold b_30;exact (zaj (zng 1 z1m.nd (zbj (pv 0) (zax W) (zyy W) (zzn W) (hr.mono (by decide)) W.b_31))
  (zaj (znh 1000000000 PassesOwn.never (zfq (zdi (pv 0) (zax W) (zg1 W) (zg2 W) (hr.mono (by decide)) W.b_1 (zag (DE.dx zar) zak))) (zam (zkc (zf0 (ze5 PySem.F.plainAttrs_list PySem.F.slot_list_append PySem.F.type_list_append zgf (pv 1) (zct (zbj (pv 0) (zax W) (zyy W) (zzn W) (hr.mono (by decide)) W.b_31) zde))))))
  (zam (zhf 1 (zcz (dv 1))))))
theorem zrd {a:Wa} (W:Wd K mg a) : zav P w K mg base CX0 1 a.f_16 a.fd_16 ["listed","most"] (spD ⟨K,cl a⟩ ["listed","most"].length zkw) :=
 zff (k:=0) (N:=["listed","most"]) (F:=b_16) W.F_16 yb2 fun cdv A outer s H E hr=>by
  unfold b_16;exact (zaj (zca (zcj zjm zjt (DE.db (zed zev ze6 rfl W.z_len PySem.boot_len (zeb (DE.db (dv 0)) zec))) (DE.db (dv 1))) (zam zhg) zbr)
  (zam (znf 0)))
theorem zue {a:Wa} (W:Wd K mg a) : zav P w K mg base CX0 6 a.f_20 a.fd_20 ["self"] (zcm ⟨K,cl a⟩ "Reader" ["words","place"] ["self"].length m_20) :=
 zc6 (k:=5) (N:=["self"]) (cn:="Reader") (ns:=["words","place"]) (F:=b_20) W.F_20 yb4 fun cdv A outer s H E hr=>by
  unfold b_20;exact (zam (zb7 (zkd (zfq (zdi (pv 0) (zax W) (zg1 W) (zg2 W) (hr.mono (by decide)) W.b_1 (zag (DE.dx zar) zak))) (zpr (zrd W) (hr.mono (by decide)) rfl W.g_16 W.F_16.kp W.b_16 (zag (zbj (pv 0) (zax W) (zyz W) (zzm W) (hr.mono (by decide)) W.b_30) (zag (DE.dx zae) zak))) (DE.dx (DO.de (zci za6))))))
theorem zzu {a:Wa} (W:Wd K mg a) : zav P w K mg base CX0 2 a.f_46 a.fd_46 ["word"] (spD ⟨K,cl a⟩ ["word"].length zqm) :=
 zff (k:=1) (N:=["word","figures"]) (F:=b_46) W.F_46 z1u fun cdv A outer s H E hr=>have hu:=hr.units; by
  unfold b_46;exact (zaj (zca (zcj (zc7 hu) zd4 (DE.db (dv 0)) (DE.db zar)) (zam (zez zhb)) zbr)
  (zaj (zf7 1 z1u.nd (zwo (zfe (DE.db (zwr (ze5 PySem.F.plainAttrs_str PySem.F.slot_str_startswith PySem.F.type_str_startswith zy4 (dv 0) (zct zar zde))))) (zst (dv 0) (zkb zae) zka) (dv 0)))
  (zam (zez (ziy (zdh (zrc W) (hr.mono (by decide)) rfl W.g_15 W.F_15.kp W.b_15 (zan (dv 1) (zan (zpe rfl W.g_FIGURES) (zan zae za6)))) (ziz (zwp (zwr (ze5 PySem.F.plainAttrs_str PySem.F.slot_str_startswith PySem.F.type_str_startswith zy4 (dv 1) (zct zar zde))))))))))
theorem zrb {a:Wa} (W:Wd K mg a) : zav P w K mg base CX0 3 a.f_14 a.fd_14 ["self"] (zcm ⟨K,cl a⟩ "Reader" ["words","place"] ["self"].length m_14) :=
 zc6 (k:=2) (N:=["self","word"]) (cn:="Reader") (ns:=["words","place"]) (F:=b_14) W.F_14 z1e fun cdv A outer s H E hr=>by
  unfold b_14;exact (zaj (zb1 1 z1e.nd (zbj (pv 0) (zax W) (znz W) (zn7 W) (hr.mono (by decide)) W.b_12))
  (zaj (zca (zi5 (zfe (DE.db (zdh (zzu W) (hr.mono (by decide)) rfl W.g_46 W.F_46.kp W.b_46 (zan (dv 1) za6))))) (zam zhg) zbr)
  (zam (zcz (z4j rfl W.z_int (dv 1))))))
theorem zre {a:Wa} (W:Wd K mg a) : zav P w K mg base CX0 4 a.f_19 a.fd_19 ["self"] (zcm ⟨K,cl a⟩ "Reader" ["words","place"] ["self"].length m_19) :=
 zc6 (k:=3) (N:=["self"]) (cn:="Reader") (ns:=["words","place"]) (F:=b_19) W.F_19 yb3 fun cdv A outer s H E hr=>by
  unfold b_19;exact (zam (zb7 (zkd (zfq (zpr (zzw W) (hr.mono (by decide)) rfl W.g_50 W.F_50.kp W.b_50 (zag (zdi (pv 0) (zax W) (zji W) (zjo W) (hr.mono (by decide)) W.b_2 (zag (DE.dx zae) zak)) zak))) (zbj (pv 0) (zax W) (zy1 W) (zzh W) (hr.mono (by decide)) W.b_25) (zbj (pv 0) (zax W) (zk2 W) (zk5 W) (hr.mono (by decide)) W.b_3))))
theorem z8k {a:Wa} (W:Wd K mg a) : zav P w K mg base CX0 5 a.f_44 a.fd_44 ["self"] (zcm ⟨K,cl a⟩ "Reader" ["words","place"] ["self"].length m_44) :=
 zc6 (k:=4) (N:=["self","args"]) (cn:="Reader") (ns:=["words","place"]) (F:=b_44) W.F_44 z1s fun cdv A outer s H E hr=>by
  unfold b_44;exact (zaj (zng 1 z1s.nd (zbj (pv 0) (zax W) (zqt W) (zre W) (hr.mono (by decide)) W.b_19))
  (zaj (znh 1000000000 PassesOwn.never (zfq (zdi (pv 0) (zax W) (zg1 W) (zg2 W) (hr.mono (by decide)) W.b_1 (zag (DE.dx zar) zak))) (zam (zkc (zf0 (ze5 PySem.F.plainAttrs_list PySem.F.slot_list_append PySem.F.type_list_append zgf (pv 1) (zct (zbj (pv 0) (zax W) (zqt W) (zre W) (hr.mono (by decide)) W.b_19) zde))))))
  (zaj (zi3 (zdi (pv 0) (zax W) (zk1 W) (zk6 W) (hr.mono (by decide)) W.b_6 (zag (DE.dx zar) zak)))
  (zam (zhf 1 (zcz (zdh (zrd W) (hr.mono (by decide)) rfl W.g_16 W.F_16.kp W.b_16 (zan (dv 1) (zan zae za6)))))))))
theorem zra {a:Wa} (W:Wd K mg a) : zav P w K mg base CX0 6 a.f_13 a.fd_13 ["self"] (zcm ⟨K,cl a⟩ "Reader" ["words","place"] ["self"].length m_13) :=
 zc6 (k:=5) (N:=["self","name"]) (cn:="Reader") (ns:=["words","place"]) (F:=b_13) W.F_13 z1d fun cdv A outer s H E hr=>by
  unfold b_13;exact (zaj (zb1 1 z1d.nd (zbj (pv 0) (zax W) (zk2 W) (zk5 W) (hr.mono (by decide)) W.b_3))
  (zam (zb7 (zdj (zag (DE.dx (dv 1)) (zag (zkd (zfq (zdi (pv 0) (zax W) (zg1 W) (zg2 W) (hr.mono (by decide)) W.b_1 (zag (DE.dx zar) zak))) (zbj (pv 0) (zax W) (z7p W) (z8k W) (hr.mono (by decide)) W.b_44) (DE.dx (DO.de (zci za6)))) zak))))))
theorem zzl {a:Wa} (W:Wd K mg a) : zav P w K mg base CX0 7 a.f_29 a.fd_29 ["self"] (zcm ⟨K,cl a⟩ "Reader" ["words","place"] ["self"].length m_29) :=
 zc6 (k:=6) (N:=["self","worth"]) (cn:="Reader") (ns:=["words","place"]) (F:=b_29) W.F_29 z1k fun cdv A outer s H E hr=>by
  unfold b_29;exact (zaj (zb1 1 z1k.nd (zkd (zfq (zpr (zzu W) (hr.mono (by decide)) rfl W.g_46 W.F_46.kp W.b_46 (zag (zdi (pv 0) (zax W) (zji W) (zjo W) (hr.mono (by decide)) W.b_2 (zag (DE.dx zae) zak)) zak))) (zbj (pv 0) (zax W) (zqu W) (zrb W) (hr.mono (by decide)) W.b_14) (DE.dx zae)))
  (zaj (zca (zcj zk4 zmp (DE.db (dv 1)) (DE.db zae)) (zam zhg) zbr)
  (zam (zb7 (zdj (zag (zbj (pv 0) (zax W) (zqv W) (zra W) (hr.mono (by decide)) W.b_13) (zag (DE.dx (dv 1)) zak)))))))
theorem zzk {a:Wa} (W:Wd K mg a) : zav P w K mg base CX0 8 a.f_28 a.fd_28 ["self"] (zcm ⟨K,cl a⟩ "Reader" ["words","place"] ["self"].length m_28) :=
 zc6 (k:=7) (N:=["self","items"]) (cn:="Reader") (ns:=["words","place"]) (F:=b_28) W.F_28 z1j fun cdv A outer s H E hr=>by
  unfold b_28;exact (zaj (zng 1 z1j.nd (zbj (pv 0) (zax W) (zyv W) (zzl W) (hr.mono (by decide)) W.b_29))
  (zaj (znh 1000000000 PassesOwn.never (zfq (zdi (pv 0) (zax W) (zg1 W) (zg2 W) (hr.mono (by decide)) W.b_1 (zag (DE.dx zar) zak))) (zam (zkc (zf0 (ze5 PySem.F.plainAttrs_list PySem.F.slot_list_append PySem.F.type_list_append zgf (pv 1) (zct (zbj (pv 0) (zax W) (zyv W) (zzl W) (hr.mono (by decide)) W.b_29) zde))))))
  (zam (zhf 1 (zcz (dv 1))))))
theorem zzs {a:Wa} (W:Wd K mg a) : zav P w K mg base CX0 6 a.f_37 a.fd_37 ["self"] (zcm ⟨K,cl a⟩ "Reader" ["words","place"] ["self"].length m_37) :=
 zc6 (k:=5) (N:=["self"]) (cn:="Reader") (ns:=["words","place"]) (F:=b_37) W.F_37 yb8 fun cdv A outer s H E hr=>by
  unfold b_37;exact (zam (zb7 (zkd (zfq (zdi (pv 0) (zax W) (zg1 W) (zg2 W) (hr.mono (by decide)) W.b_1 (zag (DE.dx zar) zak))) (zpr (zrd W) (hr.mono (by decide)) rfl W.g_16 W.F_16.kp W.b_16 (zag (zbj (pv 0) (zax W) (zyz W) (zzm W) (hr.mono (by decide)) W.b_30) (zag (DE.dx zae) zak))) (DE.dx (DO.de (zci za6))))))
theorem z8g {a:Wa} (W:Wd K mg a) : zav P w K mg base CX0 9 a.f_39 a.fd_39 ["self"] (zcm ⟨K,cl a⟩ "Reader" ["words","place"] ["self"].length m_39) :=
 zc6 (k:=8) (N:=["self","word","number"]) (cn:="Reader") (ns:=["words","place"]) (F:=b_39) W.F_39 zuy fun cdv A outer s H E hr=>by
  unfold b_39;exact (zaj (zb1 1 zuy.nd (zbj (pv 0) (zax W) (znz W) (zn7 W) (hr.mono (by decide)) W.b_12))
  (zaj (zb1 2 zuy.nd (zbj (pv 0) (zax W) (zqu W) (zrb W) (hr.mono (by decide)) W.b_14))
  (zaj (zi3 (zdi (pv 0) (zax W) (zk1 W) (zk6 W) (hr.mono (by decide)) W.b_6 (zag (DE.dx zar) zak)))
  (zam (zb7 (zdj (zag (DE.dx (dv 1)) (zag (DE.dx (dv 2)) (zag (zbj (pv 0) (zax W) (zyw W) (zzk W) (hr.mono (by decide)) W.b_28) (zag (zbj (pv 0) (zax W) (zyx W) (zzs W) (hr.mono (by decide)) W.b_37) zak))))))))))
theorem z8l {a:Wa} (W:Wd K mg a) : zav P w K mg base CX0 5 a.f_45 a.fd_45 ["self"] (zcm ⟨K,cl a⟩ "Reader" ["words","place"] ["self"].length m_45) :=
 zc6 (k:=4) (N:=["self","first"]) (cn:="Reader") (ns:=["words","place"]) (F:=b_45) W.F_45 z1t fun cdv A outer s H E hr=>by
  unfold b_45;exact (zaj (zb1 1 z1t.nd (zbj (pv 0) (zax W) (zqt W) (zre W) (hr.mono (by decide)) W.b_19))
  (zaj (zi3 (zdi (pv 0) (zax W) (zk1 W) (zk6 W) (hr.mono (by decide)) W.b_6 (zag (DE.dx zar) zak)))
  (zam (zb7 (zdj (zag (DE.dx zar) (zag (DE.dx (dv 1)) (zag (zbj (pv 0) (zax W) (zqt W) (zre W) (hr.mono (by decide)) W.b_19) zak))))))))
theorem zzr {a:Wa} (W:Wd K mg a) : zav P w K mg base CX0 10 a.f_36 a.fd_36 ["self"] (zcm ⟨K,cl a⟩ "Reader" ["words","place"] ["self"].length m_36) :=
 zc6 (k:=9) (N:=["self"]) (cn:="Reader") (ns:=["words","place"]) (F:=b_36) W.F_36 yb7 fun cdv A outer s H E hr=>have hu:=hr.units; by
  unfold b_36;exact (zaj (zgu (zfq (zdi (pv 0) (zax W) (zg1 W) (zg2 W) (hr.mono (by decide)) W.b_1 (zag (DE.dx zar) zak))) (zam (zb7 (zdj (zag (DE.dx zar) (zag (zbj (pv 0) (zax W) (zqv W) (zra W) (hr.mono (by decide)) W.b_13) zak))))) zbr)
  (zaj (zgu (zhh zt8 (zdi (pv 0) (zax W) (zji W) (zjo W) (hr.mono (by decide)) W.b_2 (zag (DE.dx zae) zak)) (DE.dx (zsu (zan zar (zan zar za6))))) (zam (zb7 (zbj (pv 0) (zax W) (z7r W) (z8g W) (hr.mono (by decide)) W.b_39))) zbr)
  (zaj (zgu (zhh (zc7 hu) (zdi (pv 0) (zax W) (zji W) (zjo W) (hr.mono (by decide)) W.b_2 (zag (DE.dx zae) zak)) (DE.dx zar)) (zam (zb7 (zbj (pv 0) (zax W) (z7v W) (z8l W) (hr.mono (by decide)) W.b_45))) zbr)
  (zam (zb7 (zdj (zag (DE.dx zar) (zag (zbj (pv 0) (zax W) (zqv W) (zra W) (hr.mono (by decide)) W.b_13) zak))))))))
theorem zzj {a:Wa} (W:Wd K mg a) : zav P w K mg base CX0 11 a.f_27 a.fd_27 ["self"] (zcm ⟨K,cl a⟩ "Reader" ["words","place"] ["self"].length m_27) :=
 zc6 (k:=10) (N:=["self","body"]) (cn:="Reader") (ns:=["words","place"]) (F:=b_27) W.F_27 z1i fun cdv A outer s H E hr=>by
  unfold b_27;exact (zaj (zng 1 z1i.nd (zbj (pv 0) (zax W) (zy0 W) (zzr W) (hr.mono (by decide)) W.b_36))
  (zaj (znh 1000000000 PassesOwn.never (zfq (zdi (pv 0) (zax W) (zg1 W) (zg2 W) (hr.mono (by decide)) W.b_1 (zag (DE.dx zar) zak))) (zam (zkc (zf0 (ze5 PySem.F.plainAttrs_list PySem.F.slot_list_append PySem.F.type_list_append zgf (pv 1) (zct (zbj (pv 0) (zax W) (zy0 W) (zzr W) (hr.mono (by decide)) W.b_36) zde))))))
  (zam (zhf 1 (zcz (dv 1))))))
theorem zzi {a:Wa} (W:Wd K mg a) : zav P w K mg base CX0 12 a.f_26 a.fd_26 ["self"] (zcm ⟨K,cl a⟩ "Reader" ["words","place"] ["self"].length m_26) :=
 zc6 (k:=11) (N:=["self"]) (cn:="Reader") (ns:=["words","place"]) (F:=b_26) W.F_26 yb6 fun cdv A outer s H E hr=>by
  unfold b_26;exact (zam (zb7 (zkd (zfq (zdi (pv 0) (zax W) (zg1 W) (zg2 W) (hr.mono (by decide)) W.b_1 (zag (DE.dx zar) zak))) (zbj (pv 0) (zax W) (zyt W) (zzj W) (hr.mono (by decide)) W.b_27) (DE.dx (DO.de (zci za6))))))
theorem z8f {a:Wa} (W:Wd K mg a) : zav P w K mg base CX0 13 a.f_38 a.fd_38 ["self"] (zcm ⟨K,cl a⟩ "Reader" ["words","place"] ["self"].length m_38) :=
 zc6 (k:=12) (N:=["self","low","high"]) (cn:="Reader") (ns:=["words","place"]) (F:=b_38) W.F_38 zux fun cdv A outer s H E hr=>by
  unfold b_38;exact (zaj (zb1 1 zux.nd (zbj (pv 0) (zax W) (zqu W) (zrb W) (hr.mono (by decide)) W.b_14))
  (zaj (zi3 (zdi (pv 0) (zax W) (zk1 W) (zk6 W) (hr.mono (by decide)) W.b_6 (zag (DE.dx zar) zak)))
  (zaj (zb1 2 zux.nd (zbj (pv 0) (zax W) (zqu W) (zrb W) (hr.mono (by decide)) W.b_14))
  (zaj (zi3 (zdi (pv 0) (zax W) (zk1 W) (zk6 W) (hr.mono (by decide)) W.b_6 (zag (DE.dx zar) zak)))
  (zam (zb7 (zdj (zag (DE.dx zar) (zag (DE.dx (dv 1)) (zag (DE.dx (dv 2)) (zag (zbj (pv 0) (zax W) (zyw W) (zzk W) (hr.mono (by decide)) W.b_28) (zag (zbj (pv 0) (zax W) (zyx W) (zzs W) (hr.mono (by decide)) W.b_37) (zag (zbj (pv 0) (zax W) (zyu W) (zzi W) (hr.mono (by decide)) W.b_26) (zag (zbj (pv 0) (zax W) (zt2 W) (zue W) (hr.mono (by decide)) W.b_20) zak))))))))))))))
theorem z8j {a:Wa} (W:Wd K mg a) : zav P w K mg base CX0 4 a.f_43 a.fd_43 ["self"] (zcm ⟨K,cl a⟩ "Reader" ["words","place"] ["self"].length m_43) :=
 zc6 (k:=3) (N:=["self","names"]) (cn:="Reader") (ns:=["words","place"]) (F:=b_43) W.F_43 z1r fun cdv A outer s H E hr=>have hu:=hr.units; by
  unfold b_43;exact (zaj (zng 1 z1r.nd (zbj (pv 0) (zax W) (zk2 W) (zk5 W) (hr.mono (by decide)) W.b_3))
  (zaj (znh 1000000000 PassesOwn.never (zhh (zn6 hu) (zdi (pv 0) (zax W) (zji W) (zjo W) (hr.mono (by decide)) W.b_2 (zag (DE.dx zae) zak)) (DE.dx zar)) (zam (zkc (zf0 (ze5 PySem.F.plainAttrs_list PySem.F.slot_list_append PySem.F.type_list_append zgf (pv 1) (zct (zbj (pv 0) (zax W) (zk2 W) (zk5 W) (hr.mono (by decide)) W.b_3) zde))))))
  (zam (zhf 1 (zcz (zdh (zrd W) (hr.mono (by decide)) rfl W.g_16 W.F_16.kp W.b_16 (zan (dv 1) (zan zae za6))))))))
theorem z8i {a:Wa} (W:Wd K mg a) : zav P w K mg base CX0 12 a.f_42 a.fd_42 ["self"] (zcm ⟨K,cl a⟩ "Reader" ["words","place"] ["self"].length m_42) :=
 zc6 (k:=11) (N:=["self","body"]) (cn:="Reader") (ns:=["words","place"]) (F:=b_42) W.F_42 z1q fun cdv A outer s H E hr=>have hu:=hr.units; by
  unfold b_42;exact (zaj (zb1 1 z1q.nd (zbj (pv 0) (zax W) (zyt W) (zzj W) (hr.mono (by decide)) W.b_27))
  (zaj (zca (zfe (DE.db (zed (zsj rfl) zu2 rfl W.z_all boot_all (zeb (DE.db (DO.de (zpo 1 [] ["part"] rfl (DI.de (zi1 (dv 1))) (fun _ _ _ _ _=>(dgc 0 1)) (fun _ _ _ _ _=>zni) (fun _ _ _ _ _=>(zhc (zc7 hu) zd4 (DE.db (zby (zs3 0) zae)) (DE.db zar)))))) zec)))) (zam zhg) zbr)
  (zam (zb7 (zdj (zag (DE.dx zar) (zag (DE.dx (dv 1)) (zag (zbj (pv 0) (zax W) (zt2 W) (zue W) (hr.mono (by decide)) W.b_20) zak))))))))
theorem z8h {a:Wa} (W:Wd K mg a) : zav P w K mg base CX0 14 a.f_41 a.fd_41 ["self"] (zcm ⟨K,cl a⟩ "Reader" ["words","place"] ["self"].length m_41) :=
 zc6 (k:=13) (N:=["self","word"]) (cn:="Reader") (ns:=["words","place"]) (F:=b_41) W.F_41 z1p fun cdv A outer s H E hr=>have hu:=hr.units; by
  unfold b_41;exact (zaj (zb1 1 z1p.nd (zbj (pv 0) (zax W) (znz W) (zn7 W) (hr.mono (by decide)) W.b_12))
  (zaj (zca (zcj (zc7 hu) zd4 (DE.db (dv 1)) (DE.db zar)) (zam (zb7 (zdj (zag (DE.dx zar) (zag (zbj (pv 0) (zax W) (zk2 W) (zk5 W) (hr.mono (by decide)) W.b_3) (zag (zbj (pv 0) (zax W) (z7t W) (z8j W) (hr.mono (by decide)) W.b_43) zak)))))) zbr)
  (zaj (zca (zcj zt8 z1z (DE.db (dv 1)) (DE.db (zsu (zan zar (zan zar za6))))) (zam (zb7 (zdj (zag (DE.dx (dv 1)) (zag (zbj (pv 0) (zax W) (zqv W) (zra W) (hr.mono (by decide)) W.b_13) (zag (zbj (pv 0) (zax W) (zyu W) (zzi W) (hr.mono (by decide)) W.b_26) (zag (zbj (pv 0) (zax W) (zt2 W) (zue W) (hr.mono (by decide)) W.b_20) zak))))))) zbr)
  (zaj (zca (zcj (zc7 hu) zd4 (DE.db (dv 1)) (DE.db zar)) (zam (zb7 (zbj (pv 0) (zax W) (z7q W) (z8f W) (hr.mono (by decide)) W.b_38))) zbr)
  (zaj (zca (zcj (zc7 hu) zd4 (DE.db (dv 1)) (DE.db zar)) (zam (zb7 (zbj (pv 0) (zax W) (z7u W) (z8i W) (hr.mono (by decide)) W.b_42))) zbr)
  (zam zhg))))))
theorem z8p {a:Wa} (W:Wd K mg a) : zav P w K mg base CX0 1 a.f_52 a.fd_52 ["line"] (spD ⟨K,cl a⟩ ["line"].length zny) :=
 zff (k:=0) (N:=["line","spaced","sign"]) (F:=b_52) W.F_52 z1w fun cdv A outer s H E hr=>have hu:=hr.units; by
  unfold b_52;exact (z4y 1 2 PassesOwn.never rfl z1w.nd rfl W.g_LONE (dv 0)
  (zam (zw5 (zpo 1 [] ["word"] rfl (DI.de (zi1 (z4l (ze5 PySem.F.plainAttrs_str PySem.F.slot_str_split PySem.F.type_str_split z7y (dv 1) (zct zar zde))))) (fun _ _ _ _ _=>(dgc 0 1)) (fun _ _ _ _ _=>(z40 (zcj (zn6 hu) zu3 (DE.db (dvc 0)) (DE.db zar)))) (fun _ _ _ _ _=>(dvc 0))))))
theorem zzo {a:Wa} (W:Wd K mg a) : zav P w K mg base CX0 15 a.f_32 a.fd_32 ["line"] (spD ⟨K,cl a⟩ ["line"].length zk0) :=
 zff (k:=14) (N:=["line","reader","row"]) (F:=b_32) W.F_32 zuw fun cdv A outer s H E hr=>by
  unfold b_32;exact (zaj (z4o 1 "Reader" zuw.nd (z7x W) (z8v W) (hr.mono (by decide)) rfl (z5q W) W.b_58 (zan (zdh (z8p W) (hr.mono (by decide)) rfl W.g_52 W.F_52.kp W.b_52 (zan (dv 0) za6)) za6))
  (zaj (zb1 2 zuw.nd (zxd (pv 1) (zax W) (z7s W) (z8h W) (hr.mono (by decide)) W.b_41))
  (zaj (zi3 (zxd (pv 1) (zax W) (z7o W) (z8n W) (hr.mono (by decide)) W.b_49))
  (zam (znf 2)))))
theorem z8w {a:Wa} (W:Wd K mg a) : zav P w K mg base CX0 16 a.f_9 a.fd_9 ["_law_script"] (spD ⟨K,cl a⟩ ["_law_script"].length m_9) :=
 zff (k:=15) (N:=["_law_script","_law_many","_law_seed","_law_state","_law_due","_law_line_here","_law_found","_law_told"]) (F:=b_9) W.F_9 zhv fun cdv A outer s H E hr=>by
  unfold b_9;exact (zaj (zf7 1 zhv.nd zae)
  (zaj (zca (zcj zjm zjt (DE.db (zed zev ze6 rfl W.z_len PySem.boot_len (zeb (DE.db (dv 0)) zec))) (DE.db zae)) (zam (zf7 1 zhv.nd (zb9 zdd zae (zb9 zhq (zby (dvC 0) zae) zae)))) zbr)
  (zaj (zgt PassesOwn.never rfl (zi1 (zdh (z8m W) (hr.mono (by decide)) rfl W.g_47 W.F_47.kp W.b_47 (zan (dv 0) (zan (dv 1) za6)))) (zey 2 8 zhv.nd) (zaj (zi4 3 zhv.nd (zci (zan (dv 2) za6)))
  (zaj (zb1 4 zhv.nd (z44 (z8d W) (hr.mono (by decide)) rfl W.g_23 W.F_23.kp W.b_23 (zbc 3 zak)))
  (zaj (zb1 5 zhv.nd (zxa (z8e W) (hr.mono (by decide)) rfl W.g_35 W.F_35.kp W.b_35 (zhe (zxa (z8o W) (hr.mono (by decide)) rfl W.g_51 W.F_51.kp W.b_51 (zhe (DE.dx (dv 4)) (zi2 3))) (zi2 3))))
  (z4z 6 7 (zjq zhv.nd rfl (by first | exact Or.inl rfl | exact Or.inr rfl) (yak 5 (zzo W) (hr.mono (by decide)) rfl W.g_32 W.F_32.kp W.b_32 (pv 5))) (zi5 (zfe (DE.db (zdh (zub W 9) (hr.mono (by decide)) rfl W.g_10 W.F_10.kp W.b_10 (zan (dv 6) (zan (dv 4) za6)))))) (zam (zez zhb)) (ycv 6 7 (zth W) PassesOwn.never rfl (pv 6) (zup zhv.nd rfl (by first | exact Or.inl rfl | exact Or.inr rfl)) (yau rfl W.z_isinstance rfl W.z_list (pv 7)) (zf0 (ze5 PySem.F.plainAttrs_list PySem.F.slot_list_append PySem.F.type_list_append zgf (pv 7) (zct z0c zde))))
  (zam (zca (zi5 (zfe (DE.db (zdh (zub W 9) (hr.mono (by decide)) rfl W.g_10 W.F_10.kp W.b_10 (zan (zdh (zzo W) (hr.mono (by decide)) rfl W.g_32 W.F_32.kp W.b_32 (zan (dv 5) za6)) (zan (dv 4) za6)))))) (zam (zez zhb)) zbr)))))))
  (zam (zez zhb)))))
end
local macro_rules | `(tactic| walk_at "evS")=>`(tactic| first | decide | omega | assumption | exact ⟨by decide,by decide⟩ | exact ⟨by omega,by omega⟩ | exact .inl ⟨by decide,by decide⟩ | exact .inr ⟨by decide,by decide⟩ | exact .inl ⟨by omega,by omega⟩ | exact .inr ⟨by omega,by omega⟩ | exact ⟨by decide,by decide,by decide⟩)
local macro_rules | `(tactic| walk_at "evO")=>`(tactic| first | with_reducible exact zfd | with_reducible exact zpd | with_reducible exact zix | with_reducible exact zj4 | with_reducible exact zsp | with_reducible exact dGe_eq | with_reducible exact zew _ _ | with_reducible exact zm8 _ _ | ((with_reducible apply zg9); (focus walk_at "evS")) | ((with_reducible apply zwk); (focus walk_at "evS")) | ((with_reducible apply dMul_eq); (focus walk_at "evS")) | ((with_reducible apply zj7); (focus first | assumption | exact .inl (by walk_at "evS") | exact .inr ⟨by omega,by omega⟩)) | ((with_reducible apply zh5); (focus walk_at "evS")) | ((with_reducible apply dShr_eq); (focus walk_at "evS")) | with_reducible exact zso _ _ | with_reducible exact zwl _ _ | with_reducible exact dEq_bl _ _ | with_reducible exact dAndB_eq | exact dEq_nil _ _ | exact dNe_nil _ _ | assumption | rfl)
local macro_rules | `(tactic| walk_at "ev")=>`(tactic| first
 | with_reducible assumption
 | ((with_reducible apply zat); (focus walk_at "ev"); (focus walk_at "ev"); (focus walk_at "evO"))
 | ((with_reducible apply zbf); (focus walk_at "ev"))
 | ((with_reducible apply zie); (focus walk_at "ev"); (focus first | assumption | rfl))
 | ((with_reducible apply ztv); (focus walk_at "ev"); (focus walk_at "ev"))
 | ((with_reducible apply z7g); (focus walk_at "ev"); (focus walk_at "ev"))
 | ((with_reducible apply zko); (focus walk_at "ev"))
 | ((with_reducible apply zin); (focus walk_at "ev"); (focus walk_at "ev"))
 | ((with_reducible apply z2z); (focus walk_at "ev"); (focus walk_at "ev"))
 | ((with_reducible apply z2y); (focus walk_at "ev"))
 | ((with_reducible apply za1); (focus walk_at "ev"); (focus walk_at "ev"))
 | ((with_reducible apply tup_eq); (focus walk_at "ev"))
 | ((with_reducible apply zkj); (focus walk_at "ev"))
 | ((with_reducible apply zb0); (focus walk_at "ev"); (focus first | with_reducible assumption | with_reducible exact zjc _ _ | assumption | exact zjc _ _ | exact zyl _ _ | rfl))
 | ((with_reducible apply callS_is); (focus walk_at "ev"); (focus assumption); (focus rfl))
 | ((with_reducible apply zbh); (focus walk_at "ev"); (focus walk_at "ev"); (focus first | assumption | rfl))
 | ((with_reducible apply sl_kl); (focus walk_at "ev"); (focus rfl); (focus rfl))
 | ((with_reducible apply zu7); (focus walk_at "ev"); (focus rfl); (focus rfl))
 | ((with_reducible apply zry); (focus walk_at "ev"); (focus rfl))
 | rfl)
local macro_rules | `(tactic| walk_at "nrm")=>`(tactic| simp only [zye,List.set_cons_succ,List.set_cons_zero])
local macro_rules | `(tactic| walk_at "set")=>`(tactic| (apply zaf; (first | with_reducible apply zgq | with_reducible apply zhx); (focus walk_at "ev"); walk_at "nrm"))
local macro_rules | `(tactic| walk_at "if0")=>`(tactic| ((with_reducible first | apply zba | apply zgp); (focus walk_at "ev")))
open PySem.Builtin PySem.Builtin.Str
noncomputable abbrev tx (l:List Nat) : Str:=⟨l.toArray⟩
theorem zdl (l:List Nat) : (tx l).length=l.length:=by show l.toArray.size=_; simp
theorem zr6 (a b:List Nat) : tx a++tx b=tx (a++b):=by
 apply Str.ext';rw [Str.cps_append];simp
theorem zim (z:Str) : tx z.cps.toList=z:=by
 apply Str.ext';simp
theorem zgm {a b:List Nat} (h:tx a=tx b) : a=b:=by
 have:=congrArg (fun z:Str=>z.cps.toList) h
 simpa using this
theorem zap {f:List Sl->Option D} {ρ:List Sl} {d:D} (h:f ρ=some d) : mX f ρ=some (d,ρ):=by
 unfold mX;rw [h];rfl
theorem zb5 {m:D->D->Option D} {f g:Xe} {ρ ρ1 ρ2:List Sl} {x y d:D} (h1:f ρ=some (x,ρ1)) (h2:g ρ1=some (y,ρ2)) (h3:m x y=some d) : mX2 m f g ρ=some (d,ρ2):=by
 unfold mX2;rw [h1,Option.bind_some,h2,Option.bind_some,h3];rfl
theorem zaq {f:Xe} {g:Xa} {ρ ρ1 ρ2:List Sl} {d:D} {ds:List D} (h1:f ρ=some (d,ρ1)) (h2:g ρ1=some (ds,ρ2)) : zac f g ρ=some (d::ds,ρ2):=by
 unfold zac;rw [h1,Option.bind_some,h2];rfl
theorem ybn {f:Xa} {ρ ρ1:List Sl} {as ds:List D} (h1:f ρ=some (as,ρ1)) (h2:zih as=some ds) : zhp f ρ=some (ds,ρ1):=by
 unfold zhp;rw [h1,Option.bind_some,h2];rfl
theorem zg8 {i:Nat} {m:Addr->List D->List D->List D->Option (List D×D)} {f:Xa} {ρ ρ1:List Sl} {l l0:Addr} {xs0 xs ys ds:List D} {d:D} (h0:ρ[i]?=some (.pin l0 xs0)) (h1:f ρ=some (ds,ρ1)) (h2:ρ1[i]?=some (.pin l xs)) (h3:m l [] ds xs=some (ys,d)) : zaw i m f ρ=some (d,ρ1.set i (.pin l ys)):=by
 unfold zaw;rw [h0];show (f ρ).bind _=_;rw [h1,Option.bind_some];dsimp only;rw [h2];show (m l [] ds xs).map _=_;rw [h3];rfl
open Classical in
theorem z3t {i:Nat} {m:Addr->List D->List D->List D->Option (List D×D)} {f:Xa} {ρ ρ1:List Sl} {xs0 xs ys ds:List D} {d:D} (h0:ρ[i]?=some (.own xs0)) (h1:f ρ=some (ds,ρ1)) (h2:ρ1[i]?=some (.own xs)) (h3:∀ l,m l [] ds xs=some (ys,d)) : zkl i m f ρ=some (d,ρ1.set i (.own ys)):=by
 unfold zkl;rw [h0];show (f ρ).bind _=_;rw [h1,Option.bind_some];dsimp only;rw [h2];show (if h:∃ q,∀ l,m l [] ds xs=some q then _ else none)=_;rw [dif_pos ⟨(ys,d),h3⟩]
 have e : (⟨(ys,d),h3⟩ : ∃ q,∀ l,m l [] ds xs=some q).choose=(ys,d):=by
  have:=(⟨(ys,d),h3⟩ : ∃ q,∀ l,m l [] ds xs=some q).choose_spec 0;rw [h3 0] at this;exact Option.some.inj this.symm
 rw [e]
theorem zbu {i:Nat} {f:Xe} {ρ ρ1:List Sl} {d:D} {K:Fl->Prop} (h:f ρ=some (d,ρ1)) (k:K (.nx (ρ1.set i (.im d)))) : wp (zbm i f) ρ K:=⟨_,by unfold zbm; rw [h]; rfl,k⟩
theorem zbx {f:Xe} {ρ ρ1:List Sl} {d:D} {K:Fl->Prop} (h:f ρ=some (d,ρ1)) (k:K (.rtS d ρ1)) : wp (zbw f) ρ K:=⟨_,by unfold zbw; rw [h]; rfl,k⟩
theorem z27 {i:Nat} {f:Xe} {ρ ρ1:List Sl} {x d z:D} {K:Fl->Prop} (h0:ρ[i]?=some (.im x)) (h:f ρ=some (d,ρ1)) (h2:zh3 x d=some z) (k:K (.nx (ρ1.set i (.im z)))) : wp (zkk i f) ρ K:=⟨_,by
 unfold zkk;rw [h0];show (f ρ).bind _=_;rw [h,Option.bind_some,h2];rfl,k⟩
theorem zd9 {t:Xt} {F F':List Sl->Option Fl} {ρ ρ1:List Sl} {b:Bool} {K:Fl->Prop} (h:t ρ=some (b,ρ1)) (kT:b=true->wp F ρ1 K) (kF:b=false->wp F' ρ1 K) : wp (ze2 t F F') ρ K:=by
 unfold wp ze2;rw [h]
 cases b with
 | true=>exact kT rfl
 | false=>exact kF rfl
noncomputable def nx (s:Int) : Int:=(s * 1181783497276652981 + 12345678910987) % (2 ^ 61 - 1)
noncomputable def okS (s:Int) : Prop:=0<=s/\s < 2305843009213693951
theorem zbn (s:Int) : okS (nx s):=by
 have h1:=Int.emod_nonneg (s * 1181783497276652981 + 12345678910987) (show (2 ^ 61 - 1 : Int)≠0 by decide);have h2:=Int.emod_lt_of_pos (s * 1181783497276652981 + 12345678910987) (show (0 : Int) < 2 ^ 61 - 1 by decide);unfold okS nx;omega
noncomputable def dr (s k:Int) : Int:=nx s / 65537 % k
theorem zbv (s:Int) {k:Int} (h:0 < k) : 0<=dr s k/\dr s k < k:=⟨Int.emod_nonneg _ (by omega),Int.emod_lt_of_pos _ h⟩
theorem zn4 (l:Addr) (s k:Int) (h:okS s) (hk:0 < k) : m_0 l [] [.int k] [.int s]=some ([.int (nx s)],.int (dr s k)):=by
 obtain ⟨h0,h1⟩:=h
 have w : wp b_0 [.pin l [.int s],.im (.int k)] (fun o=>o=.rtS (.int (dr s k)) [.pin l [.int (nx s)],.im (.int k)]):=by
  unfold b_0;apply zaf;have hg : zhy s 1181783497276652981:=.inr ⟨by omega,by decide⟩;refine yef (d:=.int (nx s)) (k:=0) (xs:=[.int s]) ?_ rfl rfl (by decide) (by show (0 : Int) < 1; decide) ?_
  ·exact zat (zat (zat rfl rfl (zj7 hg)) rfl zfd) (zat (zat rfl rfl (zh5 (by decide))) rfl zpd) (zg9 (by decide))
  ·exact zc4 (zat (zat rfl rfl (zwk (by have:=zbn s; unfold okS at this; walk_at "evS"))) rfl (zg9 hk)) rfl
 obtain ⟨o,e,rfl⟩:=w;exact zd3 (ρ:=[.pin l [.int (nx s)],.im (.int k)]) e rfl
noncomputable def smL : List Nat:=("abcdefghijklmnopqrstuvwxyz" : Str).cps.toList
theorem zu9 : smL.length=26:=by decide +kernel
theorem smT : ("abcdefghijklmnopqrstuvwxyz" : Str)=tx smL:=(zim _).symm
noncomputable def stp (sp:Int) (p:Int×List Nat) : Int×List Nat:=(nx p.1,p.2++[smL.getD (dr p.1 sp).toNat 0])
noncomputable def its (sp:Int) : Nat->Int×List Nat->Int×List Nat
 | 0,p=>p
 | n + 1,p=>stp sp (its sp n p)
theorem ztl (sp:Int) (p:Int×List Nat) (h:okS p.1) : ∀ n,okS (its sp n p).1/\(its sp n p).2.length=p.2.length + n
 | 0=>⟨h,rfl⟩
 | n + 1=>by
  obtain ⟨a,c⟩:=ztl sp p h n;refine ⟨zbn _,?_⟩;show ((its sp n p).2++[_]).length=_;rw [List.length_append,c];rfl
theorem zsm (a b:List Nat) (h:a.length + b.length<=2000) : zcf (.str (tx a)) (.str (tx b))=some (.str (tx (a++b))):=by
 show (if (tx a).length + (tx b).length<=16777216 then some (D.str (tx a++tx b)) else none)=_;rw [zdl,zdl,if_pos (by omega),zr6]
theorem zx9 (sg:List Nat) (v:Int) (h:0<=v/\v < (sg.length : Nat)) (h1:sg.length<=1000) : zj6 (.str (tx sg)) (.int v)=some (.str (tx [sg.getD v.toNat 0])):=by
 show (if 0<=v/\v < 2 ^ 63/\v < ((tx sg).length : Int) then ((tx sg).cps[v.toNat]?).map (fun ch=>D.str ⟨#[ch]⟩) else none)=_;rw [if_pos ⟨h.1,by omega,by rw [zdl]; exact h.2⟩];show ((sg.toArray)[v.toNat]?).map _=_;have hl : v.toNat < sg.length:=by omega
 rw [List.getElem?_toArray,List.getElem?_eq_getElem hl,List.getD_eq_getElem?_getD,List.getElem?_eq_getElem hl];rfl
theorem zog (v:Int) (a:0<=v) (b:v<=500) : zih [D.int v]=some ((List.range v.toNat).map fun (i:Nat)=>D.int i):=by
 show (if -(2 ^ 62)<=v/\v < 2 ^ 62 then some (rng 0 v.toNat) else none)=_;rw [if_pos ⟨by omega,by omega⟩,ybo];simp
noncomputable def smP (n sp s:Int) : Int×List Nat:=its sp n.toNat (s,[])
theorem zmq (n sp s:Int) (h:okS s) (hn:0<=n) : okS (smP n sp s).1/\((smP n sp s).2.length : Int)=n:=by
 obtain ⟨a,c⟩:=ztl sp (s,[]) h n.toNat;refine ⟨a,?_⟩;unfold smP;rw [c];simp only [List.length_nil];omega
theorem ycu (l:Addr) (s n sp:Int) (h:okS s) (hn:0<=n/\n<=500) (hs:0 < sp/\sp<=26) : zkx l [] [.int n,.int sp] [.int s]=some ([.int (smP n sp s).1],.str (tx (smP n sp s).2)):=by
 have rk:=ztl sp (s,[]) h
 have w : wp b_17 [.pin l [.int s],.im (.int n),.im (.int sp),.no,.no] (fun o=>∃ a,o=.rtS (.str (tx (smP n sp s).2)) [.pin l [.int (smP n sp s).1],.im (.int n),.im (.int sp),.im (.str (tx (smP n sp s).2)),a]):=by
  unfold b_17;apply zaf;refine zgq (d:=.str (tx [])) rfl ?_;show wp _ [.pin l [.int s],.im (.int n),.im (.int sp),.im (.str (tx [])),.no] _;apply zaf;refine zg5 (List.range n.toNat) (fun (i:Nat)=>D.int i) (fun pre ρ=>∃ a,ρ=[.pin l [.int (its sp pre.length (s,[])).1],.im (.int n),.im (.int sp),.im (.str (tx (its sp pre.length (s,[])).2)),a]) ?_ ⟨_,rfl⟩ ?_ ?_
  ·have ef : zad (zab 1) (fun _=>some []) [.pin l [.int s],.im (.int n),.im (.int sp),.im (.str (tx [])),.no]=some [.int n]:=rfl;unfold ze3;rw [ef,Option.bind_some,zog n hn.1 hn.2]
  ·rintro pre x post ρ he ⟨a,rfl⟩;refine ⟨_,rfl,?_⟩;show wp _ [.pin l [.int (its sp pre.length (s,[])).1],.im (.int n),.im (.int sp),.im (.str (tx (its sp pre.length (s,[])).2)),.im (.int x)] _;obtain ⟨k1,k3⟩:=rk pre.length
   have hpre : pre.length < n.toNat:=by
    have:=congrArg List.length he;rw [List.length_range,List.length_append,List.length_cons] at this;omega
   generalize hp : its sp pre.length (s,[])=p at k1 k3;have dk:=zbv p.1 (k:=sp) hs.1;have ec : zaw 0 m_0 (zac (mX (zab 2)) zaa) [.pin l [.int p.1],.im (.int n),.im (.int sp),.im (.str (tx p.2)),.im (.int x)]=some (.int (dr p.1 sp),[.pin l [.int (nx p.1)],.im (.int n),.im (.int sp),.im (.str (tx p.2)),.im (.int x)]):=zg8 (i:=0) (ρ1:=[.pin l [.int p.1],.im (.int n),.im (.int sp),.im (.str (tx p.2)),.im (.int x)]) rfl (zaq (zap rfl) rfl) rfl (zn4 l p.1 sp k1 hs.1);refine z27 (x:=.str (tx p.2)) (d:=.str (tx [smL.getD (dr p.1 sp).toNat 0])) (z:=.str (tx (stp sp p).2)) rfl (zb5 (zap (d:=.str (tx smL)) (by rw [smT])) ec (zx9 smL _ (by rw [zu9]; omega) (by rw [zu9]; decide))) ?_ ?_
   ·show (if (tx p.2).length + (tx [_]).length<=16777216 then some (D.str (tx p.2++tx [_])) else none)=_;rw [zdl,zdl,if_pos (by rw [k3]; simp only [List.length_nil,List.length_cons]; omega),zr6];rfl
   ·refine ⟨.im (.int x),?_⟩;rw [List.length_append,show ([x] : List Nat).length=1 from rfl];show _=[Sl.pin l [.int (stp sp (its sp pre.length (s,[]))).1],.im (.int n),.im (.int sp),.im (.str (tx (stp sp (its sp pre.length (s,[]))).2)),.im (.int x)];rw [hp];rfl
  ·rintro ρ ⟨a,rfl⟩;rw [List.length_range];exact zc4 rfl ⟨a,rfl⟩
 obtain ⟨o,e,a,rfl⟩:=w;exact zd3 (ρ:=[.pin l [.int (smP n sp s).1],.im (.int n),.im (.int sp),.im (.str (tx (smP n sp s).2)),a]) e rfl
theorem zc9 (l:Addr) (s k:Int) (r:List Sl) {f:List Sl->Option D} (hf:f (.pin l [.int s]::r)=some (.int k)) (h:okS s) (hk:0 < k) : zaw 0 m_0 (zac (mX f) zaa) (.pin l [.int s]::r)=some (.int (dr s k),.pin l [.int (nx s)]::r):=zg8 (i:=0) (ρ1:=.pin l [.int s]::r) rfl (zaq (zap hf) rfl) rfl (zn4 l s k h hk)
noncomputable def itP {α : Type} (F:Int->Int×α) : Nat->Int->Int×List α
 | 0,s=>(s,[])
 | n + 1,s=>((itP F n (F s).1).1,(F s).2::(itP F n (F s).1).2)
theorem zf9 {α : Type} {F:Int->Int×α} (hF:∀ s,okS (F s).1) : ∀ n s,okS s->okS (itP F n s).1/\(itP F n s).2.length=n
 | 0,s,h=>⟨h,rfl⟩
 | n + 1,s,_=>⟨(zf9 hF n _ (hF s)).1,by show (_::(itP F n (F s).1).2).length=_; rw [List.length_cons,(zf9 hF n _ (hF s)).2]⟩
theorem zia {α : Type} {F:Int->Int×α} {P:α->Prop} (hP:∀ s,P (F s).2) : ∀ n s,∀ x∈(itP F n s).2,P x
 | 0,_,x,h=>(List.not_mem_nil h).elim
 | n + 1,s,x,h=>by
  rcases List.mem_cons.mp (show x∈(F s).2::(itP F n (F s).1).2 from h) with e | e
  ·rw [e]; exact hP s
  ·exact zia hP n _ x e
section
variable {α : Type} {m:Addr->List D->List D->List D->Option (List D×D)} {F:Int->Int×α} {toD:α->D} {l:Addr} {tl:List Sl} {s0:Sl}
theorem ydw (hm:∀ s,okS s->m l [] [] [.int s]=some ([.int (F s).1],toD (F s).2)) (d:D) (s:Int) (h:okS s) : zjw 1 [0] 0 0 (zb8 0) (zaw 1 m zaa) (s0::tl) l d [.int s]=some (toD (F s).2,[.int (F s).1]):=by
 have ec : zaw 1 m zaa [.im d,.pin l [.int s]]=some (toD (F s).2,[.im d,.pin l [.int (F s).1]]):=zg8 (i:=1) (ρ1:=[.im d,.pin l [.int s]]) rfl rfl rfl (hm s h);unfold zjw;show (some [Sl.im d,Sl.pin l [.int s]]).bind (fun ρ1=>_)=_;rw [Option.bind_some,ec,Option.bind_some];refine if_pos fun i hi=>?_
 cases i with
 | zero=>cases hi
 | succ i=>rfl
theorem zys (hm:∀ s,okS s->m l [] [] [.int s]=some ([.int (F s).1],toD (F s).2)) (hF:∀ s,okS (F s).1) : ∀ (ds:List D) (s:Int),okS s->zfs 1 [0] 0 0 (zb8 0) (zaw 1 m zaa) (s0::tl) l ds [.int s]=some ((itP F ds.length s).2.map toD,[.int (itP F ds.length s).1])
 | [],s,_=>rfl
 | d::ds,s,h=>by
  unfold zfs;rw [ydw hm d s h,Option.bind_some,zys hm hF ds (F s).1 (hF s)];rfl
theorem zo9 (hm:∀ s,okS s->m l [] [] [.int s]=some ([.int (F s).1],toD (F s).2)) (hF:∀ s,okS (F s).1) {fi:Xa} {ρ:List Sl} {ds:List D} {s:Int} (h:okS s) (hi:fi ρ=some (ds,.pin l [.int s]::tl)) (hz:ds.length<=1000) :
  zhn 1 [0] 0 0 fi (zb8 0) (zaw 1 m zaa) ρ=some (.lst ((itP F ds.length s).2.map toD),.pin l [.int (itP F ds.length s).1]::tl):=by
 unfold zhn;rw [hi,Option.bind_some];show (if ds.length<=16777216/\([0] : List Nat)[0]?=some 0/\(([0] : List Nat).all fun j=>j==0 || ((((Sl.pin l [.int s]::tl) : List Sl)[j]?).getD .no).calm)=true then (zfs 1 [0] 0 0 (zb8 0) (zaw 1 m zaa) (.pin l [.int s]::tl) l ds [.int s]).map fun q=>(D.lst q.1,((Sl.pin l [.int s]::tl) : List Sl).set 0 (.pin l q.2)) else none)=_;rw [if_pos ⟨by omega,rfl,rfl⟩,zys hm hF ds s h];rfl
end
noncomputable def grL : List Nat:=("ABCDEFGHIJKLMNOPQRSTUVWXYZ" : Str).cps.toList
theorem grT : ("ABCDEFGHIJKLMNOPQRSTUVWXYZ" : Str)=tx grL:=(zim _).symm
theorem ztc : grL.length=26:=by decide +kernel
noncomputable def kpS : List Str:=["kind","rule","may","choose","never","if","and","not","unlike","least","most","of","to","over","in","for"]
noncomputable def kpW : List (List Nat):=kpS.map fun z=>z.cps.toList
noncomputable def kept (w:List Nat) : Bool:=kpW.any fun k=>k==w
theorem kpD : kpS.map D.str=kpW.map fun w=>D.str (tx w):=by
 unfold kpW;rw [List.map_map];refine List.map_congr_left fun z _=>?_;show D.str z=D.str (tx z.cps.toList);rw [zim]
theorem zyi : zkz []=some (.lst (kpW.map fun w=>D.str (tx w))):=by
 rw [<- kpD];rfl
theorem inK (w:List Nat) : dIn (.str (tx w)) (.lst (kpW.map fun w=>D.str (tx w)))=some (.bl (kept w)):=by
 unfold dIn inD;show Option.map D.bl (if ((D.str (tx w)).scalar && (kpW.map fun w=>D.str (tx w)).all D.scalar)=true then some ((kpW.map fun w=>D.str (tx w)).any fun d=>eqX d (.str (tx w))) else none)=_;rw [if_pos (by rw [List.all_map]; exact (Bool.and_eq_true _ _).mpr ⟨rfl,List.all_eq_true.mpr fun _ _=>rfl⟩),List.any_map];unfold kept;show some (D.bl _)=_
 congr 2
 refine congrArg (fun p=>kpW.any p) (funext fun k=>?_);show (tx k==tx w)=(k==w);apply Bool.eq_iff_iff.mpr;rw [beq_iff_eq,beq_iff_eq];exact ⟨zgm,fun e=>by rw [e]⟩
noncomputable def zh1 (sg w:List Nat) : Bool:=w.all fun x=>decide (x∈sg)
noncomputable def made (w sg:List Nat) (most:Nat) : Bool:=(decide (1<=w.length) && decide (w.length<=most)) && zh1 sg w
noncomputable def zc1 (w:List Nat) : Bool:=made w smL 8 && !kept w
noncomputable def sp2 (v:Int) : Int:=if v=0 then 26 else 2
theorem zmr (v:Int) : 0 < sp2 v/\sp2 v<=26:=by unfold sp2; split <;> decide
noncomputable def zfi (k:Int) : List Nat:=kpW.getD k.toNat []
noncomputable def zbt (s:Int) : Int×List Nat :=
 if dr s 12=0 then ((smP 1 26 (nx (nx s))).1,zfi (dr (nx s) 16)++(smP 1 26 (nx (nx s))).2)
 else if dr s 12=1 then (nx (nx s),(zfi (dr (nx s) 16)).dropLast)
 else ((smP (1 + dr (nx s) 8) (sp2 (dr s 12 % 2)) (nx (nx s))).1,if kept (smP (1 + dr (nx s) 8) (sp2 (dr s 12 % 2)) (nx (nx s))).2 then 122::(smP (1 + dr (nx s) 8) (sp2 (dr s 12 % 2)) (nx (nx s))).2 else (smP (1 + dr (nx s) 8) (sp2 (dr s 12 % 2)) (nx (nx s))).2)
theorem ztp : kpW.length=16:=rfl
theorem z6y : ∀ w∈kpW,w.length<=6:=by decide +kernel
theorem zto {k:Int} (h:0<=k/\k < 16) : zfi k∈kpW:=by
 have hl : k.toNat < kpW.length:=by rw [ztp]; omega
 unfold zfi;rw [List.getD_eq_getElem?_getD,List.getElem?_eq_getElem hl];exact List.getElem_mem hl
theorem z6t {k:Int} (h:0<=k/\k < 16) : zea (.lst (kpW.map fun w=>D.str (tx w))) (.int k)=some (.str (tx (zfi k))):=by
 have hl : k.toNat < kpW.length:=by rw [ztp]; omega
 show atI (kpW.map fun w=>D.str (tx w)) k=_;unfold atI ixN;rw [if_pos h.1,if_pos (by rw [List.length_map,ztp]; omega),Option.bind_some,List.getElem?_map,List.getElem?_eq_getElem hl];show some _=some _;unfold zfi;rw [List.getD_eq_getElem?_getD,List.getElem?_eq_getElem hl];rfl
theorem zx7 (sp:Int) (hs:0 < sp/\sp<=26) (p:Int×List Nat) (h:∀ x∈p.2,x∈smL) : ∀ n,∀ x∈(its sp n p).2,x∈smL
 | 0,x,hx=>h x hx
 | n + 1,x,hx=>by
  rcases List.mem_append.mp (show x∈(its sp n p).2++[_] from hx) with e | e
  ·exact zx7 sp hs p h n x e
  ·have d:=zbv (its sp n p).1 (k:=sp) hs.1;rw [List.mem_singleton] at e;have hl : (dr (its sp n p).1 sp).toNat < smL.length:=by rw [zu9]; omega
   rw [e,List.getD_eq_getElem?_getD,List.getElem?_eq_getElem hl];exact List.getElem_mem hl
theorem zu8 (n sp s:Int) (hs:0 < sp/\sp<=26) : zh1 smL (smP n sp s).2=true:=List.all_eq_true.mpr fun x hx=>decide_eq_true (zx7 sp hs (s,[]) (fun x hx=>(List.not_mem_nil hx).elim) n.toNat x hx)
theorem z6v : ∀ k∈kpW,∀ x∈smL,zc1 (k++[x])=true:=by decide +kernel
theorem z6u : ∀ k∈kpW,zc1 k.dropLast=true:=by decide +kernel
theorem z6z : ∀ k∈kpW,zc1 (122::k)=true:=by decide +kernel
theorem zgg (s:Int) : okS (zbt s).1/\zc1 (zbt s).2=true:=by
 have d16:=zbv (nx s) (k:=16) (by decide);have d8:=zbv (nx s) (k:=8) (by decide);have d12:=zbv s (k:=12) (by decide);unfold zbt;split
 ·obtain ⟨a,b⟩:=zmq 1 26 (nx (nx s)) (zbn _) (by decide);have al:=zu8 1 26 (nx (nx s)) (by decide);refine ⟨a,?_⟩;generalize (smP 1 26 (nx (nx s))).2=w at b al
  match w,b,al with
  | [x],_,al =>
   exact z6v _ (zto d16) x (of_decide_eq_true (List.all_eq_true.mp al x List.mem_cons_self))
  | [],b,_=>simp at b
  | _::_::_,b,_=>exfalso; simp at b; omega
 ·split
  ·exact ⟨zbn _,z6u _ (zto d16)⟩
  ·have hsp:=zmr (dr s 12 % 2);obtain ⟨a,b⟩:=zmq (1 + dr (nx s) 8) (sp2 (dr s 12 % 2)) (nx (nx s)) (zbn _) (by omega);have al:=zu8 (1 + dr (nx s) 8) (sp2 (dr s 12 % 2)) (nx (nx s)) hsp;generalize smP (1 + dr (nx s) 8) (sp2 (dr s 12 % 2)) (nx (nx s))=q at a b al;refine ⟨a,?_⟩;show zc1 (if kept q.2 then 122::q.2 else q.2)=true
   cases hk : kept q.2 with
   | true =>
    rw [if_pos rfl];obtain ⟨k,hm,e⟩:=List.any_eq_true.mp hk;rw [<- beq_iff_eq.mp e]
    exact z6z k hm
   | false =>
    rw [if_neg (Bool.false_ne_true)];unfold zc1 made;rw [hk,al,decide_eq_true (show 1<=q.2.length by omega),decide_eq_true (show q.2.length<=8 by omega)];rfl
noncomputable abbrev sT (w:List Nat) : D:=.str (tx w)
theorem zdo {α : Type} {m:Addr->List D->List D->List D->Option (List D×D)} {F:Int->Int×α} {toD:α->D} {l:Addr} (hm:∀ s,okS s->m l [] [] [.int s]=some ([.int (F s).1],toD (F s).2)) (s:Int) (r:List Sl) (h:okS s) : zaw 0 m zaa (.pin l [.int s]::r)=some (toD (F s).2,.pin l [.int (F s).1]::r):=zg8 (i:=0) (ρ1:=.pin l [.int s]::r) rfl rfl rfl (hm s h)
theorem zva (l:Addr) (s n sp:Int) (r:List Sl) {ρ:List Sl} {fa:Xa} {xs:List D} (h0:ρ[0]?=some (.pin l xs)) (ha:fa ρ=some ([.int n,.int sp],.pin l [.int s]::r)) (h:okS s) (hn:0<=n/\n<=500) (hs:0 < sp/\sp<=26) : zaw 0 zkx fa ρ=some (.str (tx (smP n sp s).2),.pin l [.int (smP n sp s).1]::r):=zg8 (i:=0) (ρ1:=.pin l [.int s]::r) h0 ha rfl (ycu l s n sp h hn hs)
theorem zvb (v:Int) (h:0<=v/\v < 2) : zea (.lst [.int 26,.int 2]) (.int v)=some (.int (sp2 v)):=by
 have : v=0\/v=1:=by omega
 rcases this with e | e <;> (rw [e]; rfl)
theorem zT : ("z" : Str)=tx [122]:=by decide +kernel
theorem z6x : ∀ w∈kpW,Txt.slice (tx w) none (some (-1))=tx w.dropLast:=by decide +kernel
theorem bxX {f g:Xe} {m:D->D->Option D} {ρ ρ':List Sl} {b:Bool} (h:mX2 m f g ρ=some (.bl b,ρ')) : mBX (mX2 m f g) ρ=some (b,ρ'):=by
 unfold mBX;rw [h];rfl
theorem zn3 (l:Addr) (s:Int) (hs:okS s) : m_4 l [] [] [.int s]=some ([.int (zbt s).1],.str (tx (zbt s).2)):=by
 have d12:=zbv s (k:=12) (by decide);have d16:=zbv (nx s) (k:=16) (by decide);have d8:=zbv (nx s) (k:=8) (by decide);have n1:=zbn s;have n2:=zbn (nx s)
 have w : wp b_4 [.pin l [.int s],.no,.no] (fun o=>∃ a1 a2,o=.rtS (.str (tx (zbt s).2)) [.pin l [.int (zbt s).1],a1,a2]):=by
  unfold b_4 zbt;apply zaf;refine zbu (zc9 l s 12 _ rfl hs (by decide)) ?_;show wp _ [.pin l [.int (nx s)],.im (.int (dr s 12)),.no] _;generalize dr s 12=v at d12;generalize nx s=s1 at d16 d8 n1 n2;apply zaf;have ek : mX2 zea (mX (za9 zkz (fun _=>some []))) (zaw 0 m_0 (zac (mX (fun _=>some (.int 16))) zaa)) [.pin l [.int s1],.im (.int v),.no]=some (.str (tx (zfi (dr s1 16))),[.pin l [.int (nx s1)],.im (.int v),.no]):=zb5 (zap (zb0 rfl zyi)) (zc9 l s1 16 _ rfl n1 (by decide)) (z6t d16);have hkm:=zto d16;have hkl:=z6y _ hkm;refine zba (b:=v==0) (zbf (zat rfl rfl (zew _ _))) (fun e=>?_) fun e=>zbb ?_
  ·have e0 : v=0:=by simpa using e
   rw [if_pos e0];obtain ⟨g1,g2⟩:=zmq 1 26 (nx s1) n2 (by decide);exact zbx (zb5 ek (zva l (nx s1) 1 26 _ rfl rfl n2 (by decide) (by decide)) (zsm _ _ (by omega))) ⟨_,_,rfl⟩
  have e0 : ¬ v=0:=by simpa using e
  rw [if_neg e0];show wp _ [.pin l [.int s1],.im (.int v),.no] _;apply zaf;refine zba (b:=v==1) (zbf (zat rfl rfl (zew _ _))) (fun e=>?_) fun e=>zbb ?_
  ·have e1 : v=1:=by simpa using e
   rw [if_pos e1];refine zbx (d:=.str (tx (zfi (dr s1 16)).dropLast)) (ρ1:=[.pin l [.int (nx s1)],.im (.int v),.no]) ?_ ⟨_,_,rfl⟩;unfold zqe;rw [ek,Option.bind_some];show (zh6 (.str (tx (zfi (dr s1 16)))) none (some (-1))).map _=_
   have : zh6 (.str (tx (zfi (dr s1 16)))) none (some (-1))=some (.str (Txt.slice (tx (zfi (dr s1 16))) none (some (-1)))):=by
    show (if (tx (zfi (dr s1 16))).length<=16777216 then some (D.str (Txt.slice (tx (zfi (dr s1 16))) none (some (-1)))) else none)=_;rw [zdl,if_pos (by omega)]
   rw [this,z6x _ hkm];rfl
  have e1 : ¬ v=1:=by simpa using e
  rw [if_neg e1];show wp _ [.pin l [.int s1],.im (.int v),.no] _;apply zaf;have hsp:=zmr (v % 2);have ei : mIx (zad (fun _=>some (.int 26)) (zad (fun _=>some (.int 2)) (fun _=>some []))) (m2 zex (zab 1) (fun _=>some (.int 2))) [.pin l [.int (nx s1)],.im (.int v),.no]=some (.int (sp2 (v % 2))):=zbh rfl (zat rfl rfl (zg9 (by decide))) (zvb (v % 2) ⟨by omega,by omega⟩);refine zbu (zva l (nx s1) (1 + dr s1 8) (sp2 (v % 2)) _ rfl (zaq (zb5 (zap rfl) (zc9 l s1 8 _ rfl n1 (by decide)) zfd) (zaq (zap ei) rfl)) n2 ⟨by omega,by omega⟩ hsp) ?_;obtain ⟨g1,g2⟩:=zmq (1 + dr s1 8) (sp2 (v % 2)) (nx s1) n2 (by omega);generalize smP (1 + dr s1 8) (sp2 (v % 2)) (nx s1)=q at g1 g2;show wp _ [.pin l [.int q.1],.im (.int v),.im (.str (tx q.2))] _;apply zaf;refine zba (zbf (zat rfl (zb0 rfl zyi) (inK q.2))) (fun e=>?_) fun e=>zbb ?_
  ·rw [e];refine zc4 (d:=.str (tx (122::q.2))) (zat (x:=.str (tx [122])) (by rw [zT]) rfl (zsm [122] q.2 (by rw [List.length_singleton]; omega))) ?_;exact ⟨_,_,rfl⟩
  ·rw [e];exact zc4 rfl ⟨_,_,rfl⟩
 obtain ⟨o,e,a1,a2,rfl⟩:=w;exact zd3 (ρ:=[.pin l [.int (zbt s).1],a1,a2]) e rfl
noncomputable def zd5 (s:Int) : Int×List Nat :=
 ((smP (dr (nx (nx s)) 8) (sp2 (dr (nx (nx (nx s))) 2)) (nx (nx (nx (nx s))))).1,grL.getD (dr (nx s) (sp2 (dr s 2))).toNat 0::(smP (dr (nx (nx s)) 8) (sp2 (dr (nx (nx (nx s))) 2)) (nx (nx (nx (nx s))))).2)
noncomputable def zgo (w:List Nat) : Bool:=made (w.take 1) grL 1 && (decide (w.length=1) || made (w.drop 1) smL 7)
theorem zr7 (s:Int) : okS (zd5 s).1/\zgo (zd5 s).2=true:=by
 have d2:=zmr (dr s 2);have d0:=zbv (nx s) (k:=sp2 (dr s 2)) d2.1;have d8:=zbv (nx (nx s)) (k:=8) (by decide);have hsp:=zmr (dr (nx (nx (nx s))) 2);obtain ⟨a,b⟩:=zmq (dr (nx (nx s)) 8) (sp2 (dr (nx (nx (nx s))) 2)) (nx (nx (nx (nx s)))) (zbn _) d8.1;have al:=zu8 (dr (nx (nx s)) 8) (sp2 (dr (nx (nx (nx s))) 2)) (nx (nx (nx (nx s)))) hsp;unfold zd5;generalize smP (dr (nx (nx s)) 8) (sp2 (dr (nx (nx (nx s))) 2)) (nx (nx (nx (nx s))))=q at a b al;refine ⟨a,?_⟩;have hl : (dr (nx s) (sp2 (dr s 2))).toNat < grL.length:=by rw [ztc]; omega
 have hg : grL.getD (dr (nx s) (sp2 (dr s 2))).toNat 0∈grL:=by
  rw [List.getD_eq_getElem?_getD,List.getElem?_eq_getElem hl];exact List.getElem_mem hl
 generalize grL.getD (dr (nx s) (sp2 (dr s 2))).toNat 0=x at hg;show (made [x] grL 1 && (decide ((x::q.2).length=1) || made q.2 smL 7))=true
 have h1 : made [x] grL 1=true:=by
  unfold made zh1;rw [List.all_cons,decide_eq_true hg];rfl
 rw [h1,Bool.true_and,List.length_cons];unfold made;rw [al]
 by_cases e : q.2.length=0
 ·rw [decide_eq_true (show q.2.length + 1=1 by omega)]; rfl
 ·rw [decide_eq_true (show 1<=q.2.length by omega),decide_eq_true (show q.2.length<=7 by omega)];simp
theorem z21 (l:Addr) (s:Int) (hs:okS s) : zql l [] [] [.int s]=some ([.int (zd5 s).1],.str (tx (zd5 s).2)):=by
 have d2:=zbv s (k:=2) (by decide);have h2:=zmr (dr s 2);have d0:=zbv (nx s) (k:=sp2 (dr s 2)) h2.1;have d8:=zbv (nx (nx s)) (k:=8) (by decide);have d22:=zbv (nx (nx (nx s))) (k:=2) (by decide);have hsp:=zmr (dr (nx (nx (nx s))) 2)
 have w : wp b_40 [.pin l [.int s],.no] (fun o=>∃ a1,o=.rtS (.str (tx (zd5 s).2)) [.pin l [.int (zd5 s).1],a1]):=by
  unfold b_40 zd5;apply zaf
  have e1 : zaw 0 m_0 (zac (mX2 zea (mX (zb3 (zad (fun _=>some (.int 26)) (zad (fun _=>some (.int 2)) (fun _=>some []))))) (zaw 0 m_0 (zac (mX (fun _=>some (.int 2))) zaa))) zaa) [.pin l [.int s],.no]=some (.int (dr (nx s) (sp2 (dr s 2))),[.pin l [.int (nx (nx s))],.no]) :=
   zg8 (i:=0) (ρ1:=[.pin l [.int (nx s)],.no]) rfl (zaq (zb5 (zap rfl) (zc9 l s 2 _ rfl hs (by decide)) (zvb _ d2)) rfl) rfl (zn4 l (nx s) (sp2 (dr s 2)) (zbn _) h2.1)
  refine zbu (d:=.str (tx [grL.getD (dr (nx s) (sp2 (dr s 2))).toNat 0])) (zb5 (zap (d:=.str (tx grL)) (by rw [grT])) e1 (zx9 grL _ (by rw [ztc]; omega) (by rw [ztc]; decide))) ?_;generalize grL.getD (dr (nx s) (sp2 (dr s 2))).toNat 0=x;have hs2:=zbn (nx s);generalize nx (nx s)=s2 at *;show wp _ [.pin l [.int s2],.im (.str (tx [x]))] _;obtain ⟨a,b⟩:=zmq (dr s2 8) (sp2 (dr (nx s2) 2)) (nx (nx s2)) (zbn _) d8.1;refine zbx (d:=.str (tx (x::(smP (dr s2 8) (sp2 (dr (nx s2) 2)) (nx (nx s2))).2))) (zb5 (zap rfl) (zva l (nx (nx s2)) (dr s2 8) (sp2 (dr (nx s2) 2)) _ rfl (zaq (zc9 l s2 8 _ rfl hs2 (by decide)) (zaq (zb5 (zap rfl) (zc9 l (nx s2) 2 _ rfl (zbn _) (by decide)) (zvb _ d22)) rfl)) (zbn _) ⟨by omega,by omega⟩ hsp) (zsm [x] _ (by rw [List.length_singleton]; omega))) ⟨_,rfl⟩
 obtain ⟨o,e,a1,rfl⟩:=w;exact zd3 (ρ:=[.pin l [.int (zd5 s).1],a1]) e rfl
noncomputable def zdr (s:Int) : Int×List Nat:=if dr s 2=0 then zd5 (nx s) else zbt (nx s)
noncomputable def zc5 (w:List Nat) : Bool:=zgo w || zc1 w
theorem ziv (s:Int) : okS (zdr s).1/\zc5 (zdr s).2=true:=by
 unfold zdr zc5;split
 ·exact ⟨(zr7 _).1,by rw [(zr7 _).2]; rfl⟩
 ·exact ⟨(zgg _).1,by rw [(zgg _).2,Bool.or_true]⟩
theorem zse (l:Addr) (s:Int) (hs:okS s) : znx l [] [] [.int s]=some ([.int (zdr s).1],.str (tx (zdr s).2)):=by
 have w : wp b_22 [.pin l [.int s]] (fun o=>o=.rtS (.str (tx (zdr s).2)) [.pin l [.int (zdr s).1]]):=by
  unfold b_22 zdr;apply zaf;refine zd9 (b:=dr s 2==0) (ρ1:=[.pin l [.int (nx s)]]) (bxX (zb5 (zc9 l s 2 _ rfl hs (by decide)) (zap rfl) (zew _ _))) (fun e=>?_) fun e=>zbb ?_
  ·have e0 : dr s 2=0:=by simpa using e
   rw [if_pos e0];exact zbx (zdo (F:=zd5) (toD:=sT) (fun s h=>z21 l s h) (nx s) [] (zbn _)) rfl
  ·have e0 : ¬ dr s 2=0:=by simpa using e
   rw [if_neg e0];exact zbx (zdo (F:=zbt) (toD:=sT) (fun s h=>zn3 l s h) (nx s) [] (zbn _)) rfl
 obtain ⟨o,e,rfl⟩:=w;exact zd3 (ρ:=[.pin l [.int (zdr s).1]]) e rfl
noncomputable def zd8 (s:Int) : Int×Int:=if dr (nx s) 3=0 then (nx (nx (nx (nx (nx s)))),((dr s 9 * 10 ^ 10 + dr (nx (nx s)) (10 ^ 10)) * 10 ^ 10 + dr (nx (nx (nx s))) (10 ^ 10)) * 10 ^ 9 + dr (nx (nx (nx (nx s)))) (10 ^ 9)) else (nx (nx s),dr s 9)
noncomputable def za3 (s:Int) : Int×Int:=(nx (zd8 s).1,if dr (zd8 s).1 3=0 then -(zd8 s).2 else (zd8 s).2)
theorem zy8 (s:Int) : okS (zd8 s).1/\0<=(zd8 s).2/\(zd8 s).2 < 10 ^ 30:=by
 have d9:=zbv s (k:=9) (by decide);have a:=zbv (nx (nx s)) (k:=10 ^ 10) (by decide);have b:=zbv (nx (nx (nx s))) (k:=10 ^ 10) (by decide);have c:=zbv (nx (nx (nx (nx s)))) (k:=10 ^ 9) (by decide);unfold zd8;split
 ·refine ⟨zbn _,?_,?_⟩
  ·show 0<=((dr s 9 * 10 ^ 10 + dr (nx (nx s)) (10 ^ 10)) * 10 ^ 10 + dr (nx (nx (nx s))) (10 ^ 10)) * 10 ^ 9 + dr (nx (nx (nx (nx s)))) (10 ^ 9);omega
  ·show ((dr s 9 * 10 ^ 10 + dr (nx (nx s)) (10 ^ 10)) * 10 ^ 10 + dr (nx (nx (nx s))) (10 ^ 10)) * 10 ^ 9 + dr (nx (nx (nx (nx s)))) (10 ^ 9) < 10 ^ 30;omega
 ·exact ⟨zbn _,d9.1,by show dr s 9 < 10 ^ 30; omega⟩
theorem zjk (s:Int) : okS (za3 s).1/\-(10 ^ 30) < (za3 s).2/\(za3 s).2 < 10 ^ 30:=by
 obtain ⟨a,b,c⟩:=zy8 s;refine ⟨zbn _,?_⟩;show -(10 ^ 30) < (if dr (zd8 s).1 3=0 then -(zd8 s).2 else (zd8 s).2)/\(if dr (zd8 s).1 3=0 then -(zd8 s).2 else (zd8 s).2) < 10 ^ 30
 split <;> omega
theorem zq1 (l:Addr) (s:Int) (hs:okS s) : m_7 l [] [] [.int s]=some ([.int (za3 s).1],.int (za3 s).2):=by
 have d9:=zbv s (k:=9) (by decide)
 have w : wp b_7 [.pin l [.int s],.no,.no] (fun o=>∃ a1 a2,o=.rtS (.int (za3 s).2) [.pin l [.int (za3 s).1],a1,a2]):=by
  unfold b_7;apply zaf;refine zbu (zc9 l s 9 _ rfl hs (by decide)) ?_;show wp _ [.pin l [.int (nx s)],.im (.int (dr s 9)),.no] _;refine zjy (fun ρ=>∃ a2,ρ=[.pin l [.int (zd8 s).1],.im (.int (zd8 s).2),a2]) ?_ ?_
  ·unfold zd8;refine zd9 (b:=dr (nx s) 3==0) (ρ1:=[.pin l [.int (nx (nx s))],.im (.int (dr s 9)),.no]) (bxX (zb5 (zc9 l (nx s) 3 _ rfl (zbn _) (by decide)) (zap rfl) (zew _ _))) (fun e=>?_) fun e=>zbb ?_
   ·have e0 : dr (nx s) 3=0:=by simpa using e
    rw [if_pos e0];have a:=zbv (nx (nx s)) (k:=10 ^ 10) (by decide);have b:=zbv (nx (nx (nx s))) (k:=10 ^ 10) (by decide);generalize hn : dr s 9=n at d9;have hs2:=zbn (nx s);generalize nx (nx s)=s2 at *;apply zaf;refine zg5 [0,1] (fun (i:Nat)=>D.int i) (fun pre ρ=>∃ a2,ρ=[.pin l [.int (if pre.length=0 then s2 else if pre.length=1 then nx s2 else nx (nx s2))],.im (.int (if pre.length=0 then n else if pre.length=1 then n * 10 ^ 10 + dr s2 (10 ^ 10) else (n * 10 ^ 10 + dr s2 (10 ^ 10)) * 10 ^ 10 + dr (nx s2) (10 ^ 10))),a2]) rfl ⟨_,rfl⟩ ?_ ?_
    ·rintro pre k post ρ he ⟨a2,rfl⟩;refine ⟨_,rfl,?_⟩
     have step : ∀ (t n:Int),okS t->0<=n->n < 10 ^ 21->mX2 zcf (mX (m2 zha (zab 1) (m2 zf5 (fun _=>some (.int 10)) (fun _=>some (.int 10))))) (zaw 0 m_0 (zac (mX (m2 zf5 (fun _=>some (.int 10)) (fun _=>some (.int 10)))) zaa)) [.pin l [.int t],.im (.int n),.im (.int k)]=some (.int (n * 10 ^ 10 + dr t (10 ^ 10)),[.pin l [.int (nx t)],.im (.int n),.im (.int k)]):=fun t n ht h0 h1 =>
      zb5 (zap (zat rfl (zat rfl rfl (zh5 (by decide))) (zj7 (.inr ⟨by omega,by decide⟩)))) (zc9 l t (10 ^ 10) _ (zat rfl rfl (zh5 (by decide))) ht (by decide)) zfd
     match pre,he with
     | [],_ =>
      exact zbu (step s2 n hs2 d9.1 (by omega)) ⟨_,rfl⟩
     | [x],_ =>
      exact zbu (step (nx s2) (n * 10 ^ 10 + dr s2 (10 ^ 10)) (zbn _) (by omega) (by omega)) ⟨_,rfl⟩
     | x::y::r,he=>exfalso; have:=congrArg List.length he; simp at this
    ·rintro ρ ⟨a2,rfl⟩;show wp _ [.pin l [.int (nx (nx s2))],.im (.int ((n * 10 ^ 10 + dr s2 (10 ^ 10)) * 10 ^ 10 + dr (nx s2) (10 ^ 10))),a2] _;refine zbu (zb5 (zap (zat rfl (zat rfl rfl (zh5 (by decide))) (zj7 (.inr ⟨by omega,by decide⟩)))) (zc9 l (nx (nx s2)) (10 ^ 9) _ (zat rfl rfl (zh5 (by decide))) (zbn _) (by decide)) zfd) ?_;exact k_J ⟨_,rfl⟩
   ·have e0 : ¬ dr (nx s) 3=0:=by simpa using e
    rw [if_neg e0];exact k_J ⟨_,rfl⟩
  ·rintro ρ ⟨a2,rfl⟩;obtain ⟨q1,q2,q3⟩:=zy8 s;unfold za3;generalize zd8 s=p at q1 q2 q3;apply zaf;refine zd9 (b:=dr p.1 3==0) (ρ1:=[.pin l [.int (nx p.1)],.im (.int p.2),a2]) (bxX (zb5 (zc9 l p.1 3 _ rfl q1 (by decide)) (zap rfl) (zew _ _))) (fun e=>?_) fun e=>zbb ?_
   ·have e0 : dr p.1 3=0:=by simpa using e
    rw [if_pos e0];exact zc4 rfl ⟨_,_,rfl⟩
   ·have e0 : ¬ dr p.1 3=0:=by simpa using e
    rw [if_neg e0];exact zc4 rfl ⟨_,_,rfl⟩
 obtain ⟨o,e,a1,a2,rfl⟩:=w;exact zd3 (ρ:=[.pin l [.int (za3 s).1],a1,a2]) e rfl
theorem zvk {i:Nat} {f:Xe} {ρ ρ1:List Sl} {d:D} {xs0 xs:List D} {K:Fl->Prop} (h0:ρ[i]?=some (.own xs0)) (h:f ρ=some (d,ρ1)) (h1:ρ1[i]?=some (.own xs)) (hl:xs.length < 16777216) (k:K (.nx (ρ1.set i (.own (xs++[d]))))) : wp (zer i f) ρ K:=⟨_,by
 unfold zer;rw [h0];show (f ρ).bind _=_;rw [h,Option.bind_some];dsimp only;rw [h1];exact if_pos hl,k⟩
theorem zdf {f:Xa} {ρ ρ1:List Sl} {ds:List D} (h:f ρ=some (ds,ρ1)) : zcw f ρ=some (.tup ds,ρ1):=by
 unfold zcw;rw [h];rfl
noncomputable abbrev Th:=List Nat×List (List Nat)
noncomputable abbrev Ti:=Th×Int×Bool
noncomputable def thD (t:Th) : D:=.tup [.str (tx t.1),.lst (t.2.map sT)]
noncomputable def zce (z:Ti) : D:=.tup [thD z.1,.int z.2.1]
noncomputable def prD (p:List Nat×List Nat) : D:=.tup [.str (tx p.1),.str (tx p.2)]
inductive Pa where
 | is (t:Th)
 | no (t:Th)
 | un (a b:List Nat)
 | ct (w:Bool) (n:Int) (its:List Ti) (ov:List (List Nat×List Nat))
noncomputable def ctS (w:Bool) : Str:=if w then "least" else "most"
noncomputable def Pa.toD : Pa->D
 | .is t=>.tup [.str "is",thD t]
 | .no t=>.tup [.str "not",thD t]
 | .un a b=>.tup [.str "unlike",.str (tx a),.str (tx b)]
 | .ct w n its ov=>.tup [.str (ctS w),.int n,.lst (its.map zce),.lst (ov.map prD)]
inductive Ro where
 | kind (n:List Nat) (ns:List (List Nat))
 | rule (b:Bool) (t:Th) (bd:List Pa) (ps:List (List Nat×List Nat))
 | choose (lo hi:Int) (its:List Ti) (ov:List (List Nat×List Nat)) (bd:List Pa) (ps:List (List Nat×List Nat))
 | never (bd:List Pa) (ps:List (List Nat×List Nat))
noncomputable def ruS (b:Bool) : Str:=if b then "rule" else "may"
noncomputable def Ro.toD : Ro->D
 | .kind n ns=>.tup [.str "kind",.str (tx n),.lst (ns.map sT)]
 | .rule b t bd ps=>.tup [.str (ruS b),thD t,.lst (bd.map Pa.toD),.lst (ps.map prD)]
 | .choose lo hi its ov bd ps=>.tup [.str "choose",.int lo,.int hi,.lst (its.map zce),.lst (ov.map prD),.lst (bd.map Pa.toD),.lst (ps.map prD)]
 | .never bd ps=>.tup [.str "never",.lst (bd.map Pa.toD),.lst (ps.map prD)]
noncomputable def zdy (n:Int) : Prop:=-(10 ^ 30) < n/\n < 10 ^ 30
noncomputable def zeh (t:Th) : Prop:=zc1 t.1=true/\(∀ a∈t.2,zc5 a=true)/\t.2.length<=3
noncomputable def zcy (z:Ti) : Prop:=zeh z.1/\0<=z.2.1/\z.2.1 < 10 ^ 30
noncomputable def ze9 (p:List Nat×List Nat) : Prop:=zgo p.1=true/\zc1 p.2=true
noncomputable def zdg : Pa->Prop
 | .is t=>zeh t
 | .no t=>zeh t
 | .un a b=>zc5 a=true/\zc5 b=true
 | .ct _ n its ov=>zdy n/\(∀ z∈its,zcy z)/\(0 < its.length/\its.length<=9)/\(∀ p∈ov,ze9 p)/\ov.length<=2
noncomputable def Pa.unl : Pa->Bool
 | .un _ _=>true
 | _=>false
noncomputable def zdm (bd:List Pa) : Prop:=(∀ p∈bd,zdg p)/\bd.length<=4
noncomputable def zeq (ps:List (List Nat×List Nat)) : Prop:=(∀ p∈ps,ze9 p)/\ps.length<=3
noncomputable def zfn : Ro->Prop
 | .kind n ns=>zc1 n=true/\(∀ w∈ns,zc1 w=true)/\0 < ns.length/\ns.length<=12
 | .rule _ t bd ps=>zeh t/\zdm bd/\zeq ps
 | .choose lo hi its ov bd ps=>(zdy lo/\zdy hi)/\((∀ z∈its,zcy z)/\0 < its.length/\its.length<=9)/\((∀ p∈ov,ze9 p)/\ov.length<=2)/\zdm bd/\zeq ps
 | .never bd ps=>zdm bd/\(∃ p∈bd,p.unl=false)/\zeq ps
noncomputable def mx0 (v:Int) : Int:=if v > 0 then v else 0
noncomputable def thP (s:Int) : Int×Th:=((itP zdr (mx0 (dr (zbt s).1 5 - 1)).toNat (nx (zbt s).1)).1,((zbt s).2,(itP zdr (mx0 (dr (zbt s).1 5 - 1)).toNat (nx (zbt s).1)).2))
theorem zgk (s:Int) : okS (thP s).1/\zeh (thP s).2:=by
 obtain ⟨a,b⟩:=zgg s;have d5:=zbv (zbt s).1 (k:=5) (by decide)
 have hm : 0<=mx0 (dr (zbt s).1 5 - 1)/\mx0 (dr (zbt s).1 5 - 1)<=3:=by unfold mx0; split <;> omega
 obtain ⟨c,d⟩:=zf9 (fun s=>(ziv s).1) (mx0 (dr (zbt s).1 5 - 1)).toNat (nx (zbt s).1) (zbn _);refine ⟨c,b,zia (fun s=>(ziv s).2) _ _,?_⟩;show (itP zdr _ _).2.length<=3;rw [d];omega
theorem zro {f:Xe} {ρ ρ1:List Sl} {v:Int} (h:f ρ=some (.int v,ρ1)) (a:0<=v) (b:v<=500) : zhp (zac f zaa) ρ=some ((List.range v.toNat).map (fun (i:Nat)=>D.int i),ρ1):=ybn (zaq h rfl) (zog v a b)
theorem zig (v:Int) : ((List.range v.toNat).map fun (i:Nat)=>D.int i).length=v.toNat:=by rw [List.length_map,List.length_range]
theorem zos (l:Addr) (s:Int) (hs:okS s) : m_5 l [] [] [.int s]=some ([.int (thP s).1],thD (thP s).2):=by
 obtain ⟨a,_⟩:=zgg s;have d5:=zbv (zbt s).1 (k:=5) (by decide)
 have hm : 0<=mx0 (dr (zbt s).1 5 - 1)/\mx0 (dr (zbt s).1 5 - 1)<=3:=by unfold mx0; split <;> omega
 have w : wp b_5 [.pin l [.int s],.no] (fun o=>∃ a1,o=.rtS (thD (thP s).2) [.pin l [.int (thP s).1],a1]):=by
  unfold b_5 thP;apply zaf;refine zbu (zdo (F:=zbt) (toD:=sT) (fun s h=>zn3 l s h) s _ hs) ?_;generalize zbt s=q at a d5 hm;show wp _ [.pin l [.int q.1],.im (.str (tx q.2))] _
  have er : zen zqs (zac (mX (fun _=>some (.int 0))) (zac (mX2 zh7 (zaw 0 m_0 (zac (mX (fun _=>some (.int 5))) zaa)) (mX (fun _=>some (.int 1)))) zaa)) [.pin l [.int q.1],.im (.str (tx q.2))]=some (.int (mx0 (dr q.1 5 - 1)),[.pin l [.int (nx q.1)],.im (.str (tx q.2))]):=by
   unfold zen;rw [zaq (zap rfl) (zaq (zb5 (zc9 l q.1 5 _ rfl a (by decide)) (zap rfl) zpd) rfl)];rfl
  have ec:=zo9 (F:=zdr) (toD:=sT) (fun s h=>zse l s h) (fun s=>(ziv s).1) (zbn q.1) (zro er hm.1 (by omega)) (by rw [zig]; omega);rw [zig] at ec;exact zbx (zdf (zaq (zap rfl) (zaq ec rfl))) ⟨_,rfl⟩
 obtain ⟨o,e,a1,rfl⟩:=w;exact zd3 (ρ:=[.pin l [.int (thP s).1],a1]) e rfl
noncomputable def zfh (s:Int) : Int×Ti:=if dr (thP s).1 2=0 then (nx (thP s).1,((thP s).2,1,false)) else ((za3 (nx (thP s).1)).1,((thP s).2,(if (za3 (nx (thP s).1)).2 < 0 then -(za3 (nx (thP s).1)).2 else (za3 (nx (thP s).1)).2),false))
theorem ztk (s:Int) : okS (zfh s).1/\zcy (zfh s).2:=by
 obtain ⟨a,b⟩:=zgk s;obtain ⟨c,d,e⟩:=zjk (nx (thP s).1);unfold zfh;split
 ·exact ⟨zbn _,b,by show (0 : Int)<=1; decide,by show (1 : Int) < 10 ^ 30; decide⟩
 ·refine ⟨c,b,?_⟩;show 0<=(if (za3 (nx (thP s).1)).2 < 0 then -(za3 (nx (thP s).1)).2 else (za3 (nx (thP s).1)).2)/\(if (za3 (nx (thP s).1)).2 < 0 then -(za3 (nx (thP s).1)).2 else (za3 (nx (thP s).1)).2) < 10 ^ 30
  split <;> omega
theorem z6j (l:Addr) (s:Int) (hs:okS s) : zty l [] [] [.int s]=some ([.int (zfh s).1],zce (zfh s).2):=by
 obtain ⟨a,_⟩:=zgk s
 have w : wp b_54 [.pin l [.int s],.no] (fun o=>∃ a1,o=.rtS (zce (zfh s).2) [.pin l [.int (zfh s).1],a1]):=by
  unfold b_54 zfh;apply zaf;refine zbu (zdo (F:=thP) (toD:=thD) (fun s h=>zos l s h) s _ hs) ?_;generalize thP s=q at a;show wp _ [.pin l [.int q.1],.im (thD q.2)] _;apply zaf;refine zd9 (b:=dr q.1 2==0) (ρ1:=[.pin l [.int (nx q.1)],.im (thD q.2)]) (bxX (zb5 (zc9 l q.1 2 _ rfl a (by decide)) (zap rfl) (zew _ _))) (fun e=>?_) fun e=>zbb ?_
  ·have e0 : dr q.1 2=0:=by simpa using e
   rw [if_pos e0];exact zc4 rfl ⟨_,rfl⟩
  ·have e0 : ¬ dr q.1 2=0:=by simpa using e
   rw [if_neg e0];have en:=zdo (F:=za3) (toD:=D.int) (fun s h=>zq1 l s h) (nx q.1) [.im (thD q.2)] (zbn _)
   have ea : zen zoy (zac (zaw 0 m_7 zaa) zaa) [.pin l [.int (nx q.1)],.im (thD q.2)]=some (.int (if (za3 (nx q.1)).2 < 0 then -(za3 (nx q.1)).2 else (za3 (nx q.1)).2),[.pin l [.int (za3 (nx q.1)).1],.im (thD q.2)]):=by
    unfold zen;rw [zaq en rfl];rfl
   exact zbx (zdf (zaq (zap rfl) (zaq ea rfl))) ⟨_,rfl⟩
 obtain ⟨o,e,a1,rfl⟩:=w;exact zd3 (ρ:=[.pin l [.int (zfh s).1],a1]) e rfl
noncomputable def zgi (v:Int) : Int:=if v=0 then 9 else 4
noncomputable def zck (s:Int) : Int×List Ti:=itP zfh (1 + dr (nx s) (zgi (dr s 6))).toNat (nx (nx s))
theorem z2b (v:Int) : 0 < zgi v/\zgi v<=9:=by unfold zgi; split <;> decide
theorem zp3 (s:Int) : okS (zck s).1/\(∀ z∈(zck s).2,zcy z)/\0 < (zck s).2.length/\(zck s).2.length<=9:=by
 have h:=z2b (dr s 6);have d:=zbv (nx s) (k:=zgi (dr s 6)) h.1;obtain ⟨c,e⟩:=zf9 (fun s=>(ztk s).1) (1 + dr (nx s) (zgi (dr s 6))).toNat (nx (nx s)) (zbn _);refine ⟨c,zia (fun s=>(ztk s).2) _ _,?_⟩;show 0 < (itP zfh _ _).2.length/\(itP zfh _ _).2.length<=9;rw [e];omega
theorem zx4 (l:Addr) (s:Int) (hs:okS s) : zqo l [] [] [.int s]=some ([.int (zck s).1],.lst ((zck s).2.map zce)):=by
 have d6:=zbv s (k:=6) (by decide);have h:=z2b (dr s 6);have d:=zbv (nx s) (k:=zgi (dr s 6)) h.1
 have w : wp b_48 [.pin l [.int s]] (fun o=>o=.rtS (.lst ((zck s).2.map zce)) [.pin l [.int (zck s).1]]):=by
  unfold b_48 zck
  have e6 : mX1 zja (mX2 dEq (zaw 0 m_0 (zac (mX (fun _=>some (.int 6))) zaa)) (mX (fun _=>some (.int 0)))) [.pin l [.int s]]=some (.int (if dr s 6==0 then 1 else 0),[.pin l [.int (nx s)]]):=by
   unfold mX1;rw [zb5 (zc9 l s 6 _ rfl hs (by decide)) (zap rfl) (zew _ _)];rfl
  have e49 : zea (.lst [.int 4,.int 9]) (.int (if dr s 6==0 then 1 else 0))=some (.int (zgi (dr s 6))):=by
   unfold zgi
   by_cases e : dr s 6=0
   ·rw [if_pos e,e]; rfl
   ·rw [if_neg e,if_neg (by simpa using e)]; rfl
  have en : zaw 0 m_0 (zac (mX2 zea (mX (zb3 (zad (fun _=>some (.int 4)) (zad (fun _=>some (.int 9)) (fun _=>some []))))) (mX1 zja (mX2 dEq (zaw 0 m_0 (zac (mX (fun _=>some (.int 6))) zaa)) (mX (fun _=>some (.int 0)))))) zaa) [.pin l [.int s]]=some (.int (dr (nx s) (zgi (dr s 6))),[.pin l [.int (nx (nx s))]]) :=
   zg8 (i:=0) (ρ1:=[.pin l [.int (nx s)]]) rfl (zaq (zb5 (zap rfl) e6 e49) rfl) rfl (zn4 l (nx s) (zgi (dr s 6)) (zbn _) h.1)
  have ec:=zo9 (F:=zfh) (toD:=zce) (fun s h=>z6j l s h) (fun s=>(ztk s).1) (zbn (nx s)) (zro (zb5 (zap (f:=fun _=>some (.int 1)) rfl) en zfd) (by omega) (by omega)) (by rw [zig]; omega);rw [zig] at ec;exact zbx ec rfl
 obtain ⟨o,e,rfl⟩:=w;exact zd3 (ρ:=[.pin l [.int (zck s).1]]) e rfl
noncomputable def zcu (s:Int) : Int×(List Nat×List Nat):=((zbt (zd5 s).1).1,((zd5 s).2,(zbt (zd5 s).1).2))
theorem zif (s:Int) : okS (zcu s).1/\ze9 (zcu s).2:=⟨(zgg _).1,(zr7 _).2,(zgg _).2⟩
theorem zx1 {α : Type} (F:Int->Int×α) : ∀ (n:Nat) (s:Int),itP F (n + 1) s=((F (itP F n s).1).1,(itP F n s).2++[(F (itP F n s).1).2])
 | 0,s=>rfl
 | n + 1,s=>by
  show ((itP F (n + 1) (F s).1).1,(F s).2::(itP F (n + 1) (F s).1).2)=_;rw [zx1 F n (F s).1];rfl
theorem z9h (l:Addr) (s n:Int) (hs:okS s) (hn:0<=n/\n<=100) : zky l [] [.int n] [.int s]=some ([.int (itP zcu n.toNat s).1],.lst ((itP zcu n.toNat s).2.map prD)):=by
 have w : wp b_18 [.pin l [.int s],.im (.int n),.no,.no,.no] (fun o=>∃ a3 a4,o=.rtS (.lst ((itP zcu n.toNat s).2.map prD)) [.pin l [.int (itP zcu n.toNat s).1],.im (.int n),.im (.lst ((itP zcu n.toNat s).2.map prD)),a3,a4]):=by
  unfold b_18;apply zaf;refine zhx (d:=[]) rfl ?_;show wp _ [.pin l [.int s],.im (.int n),.own [],.no,.no] _;apply zaf;refine zg5 (List.range n.toNat) (fun (i:Nat)=>D.int i) (fun pre ρ=>∃ a3 a4,ρ=[.pin l [.int (itP zcu pre.length s).1],.im (.int n),.own ((itP zcu pre.length s).2.map prD),a3,a4]) ?_ ⟨_,_,rfl⟩ ?_ ?_
  ·unfold ze3;rw [show zad (zab 1) (fun _=>some []) [.pin l [.int s],.im (.int n),.own [],.no,.no]=some [.int n] from rfl,Option.bind_some,zog n hn.1 (by omega)]
  ·rintro pre x post ρ he ⟨a3,a4,rfl⟩;obtain ⟨k1,k2⟩:=zf9 (fun s=>(zif s).1) pre.length s hs
   have hpl : pre.length < n.toNat:=by
    have:=congrArg List.length he;rw [List.length_range,List.length_append,List.length_cons] at this;omega
   have hst : itP zcu (pre++[x]).length s=((zcu (itP zcu pre.length s).1).1,(itP zcu pre.length s).2++[(zcu (itP zcu pre.length s).1).2]):=by
    rw [List.length_append];exact zx1 zcu pre.length s
   rw [hst];generalize itP zcu pre.length s=p at k1 k2;refine ⟨_,rfl,?_⟩;show wp _ [.pin l [.int p.1],.im (.int n),.own (p.2.map prD),.im (.int x),a4] _;apply zaf;refine zbu (zdo (F:=zd5) (toD:=sT) (fun s h=>z21 l s h) p.1 _ k1) ?_;show wp _ [.pin l [.int (zd5 p.1).1],.im (.int n),.own (p.2.map prD),.im (.int x),.im (.str (tx (zd5 p.1).2))] _;refine zvk (xs:=p.2.map prD) (d:=prD (zcu p.1).2) rfl (zdf (zaq (zap rfl) (zaq (zdo (F:=zbt) (toD:=sT) (fun s h=>zn3 l s h) (zd5 p.1).1 _ (zr7 _).1) rfl))) rfl (by rw [List.length_map]; omega) ?_;refine ⟨.im (.int x),.im (.str (tx (zd5 p.1).2)),?_⟩;rw [List.map_append];rfl
  ·rintro ρ ⟨a3,a4,rfl⟩;rw [List.length_range];refine zg4 rfl ?_;exact zc4 rfl ⟨a3,a4,rfl⟩
 obtain ⟨o,e,a3,a4,rfl⟩:=w;exact zd3 (ρ:=[.pin l [.int (itP zcu n.toNat s).1],.im (.int n),.im (.lst ((itP zcu n.toNat s).2.map prD)),a3,a4]) e rfl
noncomputable def zcr (s:Int) : Int×Pa:=((itP zcu (dr (zck (za3 (nx s)).1).1 3).toNat (nx (zck (za3 (nx s)).1).1)).1,.ct (decide (dr s 2=0)) (za3 (nx s)).2 (zck (za3 (nx s)).1).2 (itP zcu (dr (zck (za3 (nx s)).1).1 3).toNat (nx (zck (za3 (nx s)).1).1)).2)
theorem zo8 (s:Int) : okS (zcr s).1/\zdg (zcr s).2/\(zcr s).2.unl=false:=by
 obtain ⟨a,b⟩:=zjk (nx s);obtain ⟨c,d,e⟩:=zp3 (za3 (nx s)).1;have d3:=zbv (zck (za3 (nx s)).1).1 (k:=3) (by decide);obtain ⟨f,g⟩:=zf9 (fun s=>(zif s).1) (dr (zck (za3 (nx s)).1).1 3).toNat (nx (zck (za3 (nx s)).1).1) (zbn _);refine ⟨f,⟨b,d,e,zia (fun s=>(zif s).2) _ _,?_⟩,rfl⟩;rw [g];omega
theorem zul (l:Addr) (n s:Int) (r:List Sl) {ρ:List Sl} {fa:Xe} {xs:List D} (h0:ρ[0]?=some (.pin l xs)) (ha:fa ρ=some (.int n,.pin l [.int s]::r)) (h:okS s) (hn:0<=n/\n<=100) : zaw 0 zky (zac fa zaa) ρ=some (.lst ((itP zcu n.toNat s).2.map prD),.pin l [.int (itP zcu n.toNat s).1]::r):=zg8 (i:=0) (ρ1:=.pin l [.int s]::r) h0 (zaq ha rfl) rfl (z9h l s n h hn)
theorem zwe (l:Addr) (s:Int) (hs:okS s) : zqi l [] [] [.int s]=some ([.int (zcr s).1],(zcr s).2.toD):=by
 have d2:=zbv s (k:=2) (by decide);obtain ⟨a,_⟩:=zjk (nx s);obtain ⟨c,_⟩:=zp3 (za3 (nx s)).1;have d3:=zbv (zck (za3 (nx s)).1).1 (k:=3) (by decide)
 have w : wp b_33 [.pin l [.int s],.no,.no,.no] (fun o=>∃ a1 a2 a3,o=.rtS (zcr s).2.toD [.pin l [.int (zcr s).1],a1,a2,a3]):=by
  unfold b_33 zcr;apply zaf
  have e2 : zea (.lst [.str "least",.str "most"]) (.int (dr s 2))=some (.str (ctS (decide (dr s 2=0)))):=by
   have : dr s 2=0\/dr s 2=1:=by omega
   rcases this with e | e <;> (rw [e]; rfl)
  refine zbu (zb5 (zap rfl) (zc9 l s 2 _ rfl hs (by decide)) e2) ?_;generalize decide (dr s 2=0)=b;show wp _ [.pin l [.int (nx s)],.im (.str (ctS b)),.no,.no] _;apply zaf;refine zbu (zdo (F:=za3) (toD:=D.int) (fun s h=>zq1 l s h) (nx s) _ (zbn _)) ?_;generalize za3 (nx s)=q at a c d3;show wp _ [.pin l [.int q.1],.im (.str (ctS b)),.im (.int q.2),.no] _;apply zaf;refine zbu (zdo (F:=zck) (toD:=fun z=>.lst (z.map zce)) (fun s h=>zx4 l s h) q.1 _ a) ?_;generalize zck q.1=z at c d3;show wp _ [.pin l [.int z.1],.im (.str (ctS b)),.im (.int q.2),.im (.lst (z.2.map zce))] _;exact zbx (zdf (zaq (zap rfl) (zaq (zap rfl) (zaq (zap rfl) (zaq (zul l (dr z.1 3) (nx z.1) _ rfl (zc9 l z.1 3 _ rfl c (by decide)) (zbn _) ⟨by omega,by omega⟩) rfl))))) ⟨_,_,_,rfl⟩
 obtain ⟨o,e,a1,a2,a3,rfl⟩:=w;exact zd3 (ρ:=[.pin l [.int (zcr s).1],a1,a2,a3]) e rfl
noncomputable def zfx (s:Int) : Int×Pa :=
 if dr s 5 < 2 then zcr (nx s)
 else if dr s 5=2 then ((zdr (zdr (nx s)).1).1,.un (zdr (nx s)).2 (zdr (zdr (nx s)).1).2)
 else ((thP (nx s)).1,if dr s 5=3 then .is (thP (nx s)).2 else .no (thP (nx s)).2)
theorem zum (s:Int) : okS (zfx s).1/\zdg (zfx s).2:=by
 unfold zfx;split
 ·exact ⟨(zo8 _).1,(zo8 _).2.1⟩
 ·split
  ·exact ⟨(ziv _).1,(ziv _).2,(ziv _).2⟩
  ·refine ⟨(zgk _).1,?_⟩;show zdg (if dr s 5=3 then .is (thP (nx s)).2 else .no (thP (nx s)).2);split
   ·exact (zgk _).2
   ·exact (zgk _).2
theorem z9i (l:Addr) (s:Int) (hs:okS s) : ztx l [] [] [.int s]=some ([.int (zfx s).1],(zfx s).2.toD):=by
 have d5:=zbv s (k:=5) (by decide)
 have w : wp b_53 [.pin l [.int s],.no,.no] (fun o=>∃ a1 a2,o=.rtS (zfx s).2.toD [.pin l [.int (zfx s).1],a1,a2]):=by
  unfold b_53 zfx;apply zaf;refine zbu (zc9 l s 5 _ rfl hs (by decide)) ?_;have n1:=zbn s;generalize nx s=s1 at n1;generalize dr s 5=v at d5;show wp _ [.pin l [.int s1],.im (.int v),.no] _;apply zaf;refine zba (b:=decide (v < 2)) (zbf (zat rfl rfl zix)) (fun e=>?_) fun e=>zbb ?_
  ·rw [if_pos (of_decide_eq_true e)];exact zbx (zdo (F:=zcr) (toD:=Pa.toD) (fun s h=>zwe l s h) s1 _ n1) ⟨_,_,rfl⟩
  rw [if_neg (of_decide_eq_false e)];have e2:=of_decide_eq_false e;show wp _ [.pin l [.int s1],.im (.int v),.no] _;apply zaf;refine zba (b:=v==2) (zbf (zat rfl rfl (zew _ _))) (fun e=>?_) fun e=>zbb ?_
  ·have e0 : v=2:=by simpa using e
   rw [if_pos e0];apply zaf;refine zbu (zdo (F:=zdr) (toD:=sT) (fun s h=>zse l s h) s1 _ n1) ?_;exact zbx (zdf (zaq (zap rfl) (zaq (zap rfl) (zaq (zdo (F:=zdr) (toD:=sT) (fun s h=>zse l s h) (zdr s1).1 _ (ziv _).1) rfl)))) ⟨_,_,rfl⟩
  have e0 : ¬ v=2:=by simpa using e
  rw [if_neg e0];show wp _ [.pin l [.int s1],.im (.int v),.no] _
  have ei : mIx (zad (fun _=>some (.str "is")) (zad (fun _=>some (.str "not")) (fun _=>some []))) (m2 zh7 (zab 1) (fun _=>some (.int 3))) [.pin l [.int s1],.im (.int v),.no]=some (.str (if v=3 then "is" else "not")):=by
   have : v=3\/v=4:=by omega
   rcases this with e | e <;> subst e <;> rfl
  refine zbx (d:=(if v=3 then Pa.is (thP s1).2 else Pa.no (thP s1).2).toD) (ρ1:=[.pin l [.int (thP s1).1],.im (.int v),.no]) ((zdf (zaq (zap ei) (zaq (zdo (F:=thP) (toD:=thD) (fun s h=>zos l s h) s1 _ n1) rfl))).trans ?_) ⟨_,_,rfl⟩
  by_cases e3 : v=3
  ·rw [if_pos e3,if_pos e3]; rfl
  ·rw [if_neg e3,if_neg e3]; rfl
 obtain ⟨o,e,a1,a2,rfl⟩:=w;exact zd3 (ρ:=[.pin l [.int (zfx s).1],a1,a2]) e rfl
noncomputable def zdn (s:Int) : Int×List Pa:=itP zfx (dr s 4).toNat (nx s)
theorem zv8 (s:Int) : okS (zdn s).1/\(∀ p∈(zdn s).2,zdg p)/\(zdn s).2.length<=3:=by
 have d:=zbv s (k:=4) (by decide);obtain ⟨c,e⟩:=zf9 (fun s=>(zum s).1) (dr s 4).toNat (nx s) (zbn _);refine ⟨c,zia (fun s=>(zum s).2) _ _,?_⟩;show (itP zfx _ _).2.length<=3;rw [e];omega
theorem z3p (l:Addr) (s:Int) (hs:okS s) : zt0 l [] [] [.int s]=some ([.int (zdn s).1],.lst ((zdn s).2.map Pa.toD)):=by
 have d:=zbv s (k:=4) (by decide)
 have w : wp b_56 [.pin l [.int s]] (fun o=>o=.rtS (.lst ((zdn s).2.map Pa.toD)) [.pin l [.int (zdn s).1]]):=by
  unfold b_56 zdn;have ec:=zo9 (F:=zfx) (toD:=Pa.toD) (fun s h=>z9i l s h) (fun s=>(zum s).1) (zbn s) (zro (zc9 l s 4 [] (f:=fun _=>some (.int 4)) rfl hs (by decide)) (by omega) (by omega)) (by rw [zig]; omega);rw [zig] at ec;exact zbx ec rfl
 obtain ⟨o,e,rfl⟩:=w;exact zd3 (ρ:=[.pin l [.int (zdn s).1]]) e rfl
noncomputable def zoc (k:Int) (a b c:Pa) : Pa:=if k=0 then a else if k=1 then b else c
noncomputable def z06 (s:Int) : Int×Ro:=((itP zbt (1 + dr (zbt s).1 12).toNat (nx (zbt s).1)).1,.kind (zbt s).2 (itP zbt (1 + dr (zbt s).1 12).toNat (nx (zbt s).1)).2)
noncomputable def zuv (bd:List Pa) (ps:List (List Nat×List Nat)) (s:Int) : Int×Ro :=
 (nx (thP (thP (zcr (nx s)).1).1).1,.never (bd.take (dr s (bd.length + 1)).toNat++[zoc (dr (thP (thP (zcr (nx s)).1).1).1 3) (zcr (nx s)).2 (.is (thP (zcr (nx s)).1).2) (.no (thP (thP (zcr (nx s)).1).1).2)]++bd.drop (dr s (bd.length + 1)).toNat) ps)
noncomputable def z05 (bd:List Pa) (ps:List (List Nat×List Nat)) (s:Int) : Int×Ro :=
 ((itP zcu (dr (zck (za3 (za3 s).1).1).1 3).toNat (nx (zck (za3 (za3 s).1).1).1)).1,.choose (za3 s).2 (za3 (za3 s).1).2 (zck (za3 (za3 s).1).1).2 (itP zcu (dr (zck (za3 (za3 s).1).1).1 3).toNat (nx (zck (za3 (za3 s).1).1).1)).2 bd ps)
noncomputable def z07 (v:Int) (bd:List Pa) (ps:List (List Nat×List Nat)) (s:Int) : Int×Ro:=((thP s).1,.rule (decide (v % 2=0)) (thP s).2 bd ps)
noncomputable def zoh (v:Int) (bd:List Pa) (ps:List (List Nat×List Nat)) (s:Int) : Int×Ro:=if v=0 then z06 s else if v < 3 then zuv bd ps s else if v < 5 then z05 bd ps s else z07 v bd ps s
noncomputable def zhu (s:Int) : Int×Ro:=zoh (dr s 9) (zdn (nx s)).2 (itP zcu (dr (zdn (nx s)).1 4).toNat (nx (zdn (nx s)).1)).2 (itP zcu (dr (zdn (nx s)).1 4).toNat (nx (zdn (nx s)).1)).1
theorem ybq (v:Int) (bd:List Pa) (ps:List (List Nat×List Nat)) (s:Int) (hb:(∀ p∈bd,zdg p)/\bd.length<=3) (hp:zeq ps) : okS (zoh v bd ps s).1/\zfn (zoh v bd ps s).2:=by
 have hb4 : zdm bd:=⟨hb.1,by omega⟩;unfold zoh;split
 ·have d:=zbv (zbt s).1 (k:=12) (by decide);obtain ⟨c,e⟩:=zf9 (fun s=>(zgg s).1) (1 + dr (zbt s).1 12).toNat (nx (zbt s).1) (zbn _);refine ⟨c,(zgg s).2,zia (P:=fun w=>zc1 w=true) (fun s=>(zgg s).2) _ _,?_⟩;show 0 < (itP zbt _ _).2.length/\(itP zbt _ _).2.length<=12;rw [e];omega
 ·split
  ·obtain ⟨c1,c2,c3⟩:=zo8 (nx s);obtain ⟨t1,t2⟩:=zgk (zcr (nx s)).1;obtain ⟨u1,u2⟩:=zgk (thP (zcr (nx s)).1).1;unfold zuv;generalize hx : zoc (dr (thP (thP (zcr (nx s)).1).1).1 3) (zcr (nx s)).2 (.is (thP (zcr (nx s)).1).2) (.no (thP (thP (zcr (nx s)).1).1).2)=x
   have hxo : zdg x/\x.unl=false:=by
    rw [<- hx];unfold zoc;split
    ·exact ⟨c2,c3⟩
    ·split
     ·exact ⟨t2,rfl⟩
     ·exact ⟨u2,rfl⟩
   refine ⟨zbn _,⟨fun p hq=>?_,?_⟩,⟨x,by simp,hxo.2⟩,hp⟩
   ·rcases List.mem_append.mp hq with q | q
    ·rcases List.mem_append.1 q with q | q
     ·exact hb.1 p (List.mem_of_mem_take q)
     ·rw [List.mem_singleton] at q; rw [q]; exact hxo.1
    ·exact hb.1 p (List.mem_of_mem_drop q)
   ·show (bd.take _++[x]++bd.drop _).length<=4;rw [List.length_append,List.length_append,List.length_singleton,List.length_take,List.length_drop];omega
  ·split
   ·obtain ⟨a1,a2⟩:=zjk s;obtain ⟨b1,b2⟩:=zjk (za3 s).1;obtain ⟨c,d,e⟩:=zp3 (za3 (za3 s).1).1;have d3:=zbv (zck (za3 (za3 s).1).1).1 (k:=3) (by decide);obtain ⟨f,g⟩:=zf9 (fun s=>(zif s).1) (dr (zck (za3 (za3 s).1).1).1 3).toNat (nx (zck (za3 (za3 s).1).1).1) (zbn _);refine ⟨f,⟨a2,b2⟩,⟨d,e⟩,⟨zia (fun s=>(zif s).2) _ _,?_⟩,hb4,hp⟩;rw [g];omega
   ·exact ⟨(zgk s).1,(zgk s).2,hb4,hp⟩
theorem ybs (s:Int) : okS (zhu s).1/\zfn (zhu s).2:=by
 obtain ⟨_,b⟩:=zv8 (nx s);have d4:=zbv (zdn (nx s)).1 (k:=4) (by decide);obtain ⟨f,g⟩:=zf9 (fun s=>(zif s).1) (dr (zdn (nx s)).1 4).toNat (nx (zdn (nx s)).1) (zbn _);exact ybq _ _ _ _ b ⟨zia (fun s=>(zif s).2) _ _,by rw [g]; omega⟩
theorem ycn {α : Type} (f:α->D) (bd:List α) (v:Int) (h:0<=v/\v<=bd.length) : ((bd.drop (HT.sIx bd.length 0 none)).take (HT.sIx bd.length bd.length (some v) - HT.sIx bd.length 0 none))=bd.take v.toNat/\((bd.drop (HT.sIx bd.length 0 (some v))).take (HT.sIx bd.length bd.length none - HT.sIx bd.length 0 (some v)))=bd.drop v.toNat:=by
 obtain ⟨n,rfl⟩ : ∃ n : Nat,v=n:=⟨v.toNat,by omega⟩;have hn : n<=bd.length:=by omega
 rw [HT.sIx_none,HT.sIx_none,HT.sIx_nat,HT.sIx_nat,Nat.min_eq_left hn,List.drop_zero,Nat.sub_zero,Int.toNat_natCast];exact ⟨rfl,List.take_of_length_le (by rw [List.length_drop]; omega)⟩
theorem ybr (l:Addr) (s:Int) (hs:okS s) : zqg l [] [] [.int s]=some ([.int (zhu s).1],(zhu s).2.toD):=by
 have d9:=zbv s (k:=9) (by decide);obtain ⟨b1,b2,b3⟩:=zv8 (nx s);have d4:=zbv (zdn (nx s)).1 (k:=4) (by decide);obtain ⟨p1,p2⟩:=zf9 (fun s=>(zif s).1) (dr (zdn (nx s)).1 4).toNat (nx (zdn (nx s)).1) (zbn _)
 have w : wp b_23 [.pin l [.int s],.no,.no,.no,.no,.no,.no,.no,.no] (fun o=>∃ a1 a2 a3 a4 a5 a6 a7 a8,o=.rtS (zhu s).2.toD [.pin l [.int (zhu s).1],a1,a2,a3,a4,a5,a6,a7,a8]):=by
  unfold b_23 zhu;apply zaf;refine zbu (zc9 l s 9 _ rfl hs (by decide)) ?_;show wp _ [.pin l [.int (nx s)],.im (.int (dr s 9)),.no,.no,.no,.no,.no,.no,.no] _;generalize dr s 9=v at d9;apply zaf;refine zbu (zdo (F:=zdn) (toD:=fun z=>.lst (z.map Pa.toD)) (fun s h=>z3p l s h) (nx s) _ (zbn _)) ?_;generalize zdn (nx s)=B at *;show wp _ [.pin l [.int B.1],.im (.int v),.im (.lst (B.2.map Pa.toD)),.no,.no,.no,.no,.no,.no] _;apply zaf;refine zbu (zul l (dr B.1 4) (nx B.1) _ rfl (zc9 l B.1 4 _ rfl b1 (by decide)) (zbn _) ⟨by omega,by omega⟩) ?_;generalize itP zcu (dr B.1 4).toNat (nx B.1)=P at *;show wp _ [.pin l [.int P.1],.im (.int v),.im (.lst (B.2.map Pa.toD)),.im (.lst (P.2.map prD)),.no,.no,.no,.no,.no] _;generalize hBd : D.lst (B.2.map Pa.toD)=Bd;generalize hPd : D.lst (P.2.map prD)=Pd;unfold zoh;apply zaf;refine zba (b:=v==0) (zbf (zat rfl rfl (zew _ _))) (fun e=>?_) fun e=>zbb ?_
  ·have e0 : v=0:=by simpa using e
   rw [if_pos e0];unfold z06;obtain ⟨n1,_⟩:=zgg P.1;have d12:=zbv (zbt P.1).1 (k:=12) (by decide);apply zaf;refine zbu (zdo (F:=zbt) (toD:=sT) (fun s h=>zn3 l s h) P.1 _ p1) ?_;generalize zbt P.1=q at n1 d12;show wp _ [.pin l [.int q.1],.im (.int v),.im Bd,.im Pd,.im (.str (tx q.2)),.no,.no,.no,.no] _;have ec:=zo9 (F:=zbt) (toD:=sT) (fun s h=>zn3 l s h) (fun s=>(zgg s).1) (tl:=[.im (.int v),.im Bd,.im Pd,.im (.str (tx q.2)),.no,.no,.no,.no]) (zbn q.1) (zro (zb5 (zap (f:=fun _=>some (.int 1)) rfl) (zc9 l q.1 12 _ (f:=fun _=>some (.int 12)) rfl n1 (by decide)) zfd) (by omega) (by omega)) (by rw [zig]; omega);rw [zig] at ec;exact zbx (zdf (zaq (zap rfl) (zaq (zap rfl) (zaq ec rfl)))) ⟨_,_,_,_,_,_,_,_,rfl⟩
  have e0 : ¬ v=0:=by simpa using e
  rw [if_neg e0];show wp _ [.pin l [.int P.1],.im (.int v),.im Bd,.im Pd,.no,.no,.no,.no,.no] _;apply zaf;refine zba (b:=decide (v < 3)) (zbf (zat rfl rfl zix)) (fun e=>?_) fun e=>zbb ?_
  ·rw [if_pos (of_decide_eq_true e)];unfold zuv;have da:=zbv P.1 (k:=(B.2.length : Int) + 1) (by omega);have hlen : zcs [Bd]=some (.int (B.2.length : Nat)):=by subst hBd; show some (D.int ((B.2.map Pa.toD).length : Int))=_; rw [List.length_map]
   apply zaf;refine zbu (zc9 l P.1 ((B.2.length : Int) + 1) _ (zat (zb0 rfl hlen) rfl zfd) p1 (by omega)) ?_;have hsa:=zbn P.1;generalize dr P.1 ((B.2.length : Int) + 1)=at_ at da;generalize nx P.1=s1 at hsa;show wp _ [.pin l [.int s1],.im (.int v),.im Bd,.im Pd,.no,.im (.int at_),.no,.no,.no] _;obtain ⟨c1,_⟩:=zo8 s1;obtain ⟨t1,_⟩:=zgk (zcr s1).1;obtain ⟨u1,_⟩:=zgk (thP (zcr s1).1).1;apply zaf;have lstX {f:Xa} {ρ ρ1:List Sl} {ds:List D} (h:f ρ=some (ds,ρ1)) : zkn f ρ=some (.lst ds,ρ1):=by unfold zkn; rw [h]; rfl
   refine zbu (lstX (zaq (zdo (F:=zcr) (toD:=Pa.toD) (fun s h=>zwe l s h) s1 _ hsa) (zaq (zdf (zaq (zap rfl) (zaq (zdo (F:=thP) (toD:=thD) (fun s h=>zos l s h) (zcr s1).1 _ c1) rfl))) (zaq (zdf (zaq (zap rfl) (zaq (zdo (F:=thP) (toD:=thD) (fun s h=>zos l s h) (thP (zcr s1).1).1 _ t1) rfl))) rfl)))) ?_;generalize (zcr s1).2=x1 at *;generalize thP (zcr s1).1=q1 at *;generalize thP q1.1=q2 at *;show wp _ [.pin l [.int q2.1],.im (.int v),.im Bd,.im Pd,.no,.im (.int at_),.im (.lst [x1.toD,.tup [.str "is",thD q1.2],.tup [.str "not",thD q2.2]]),.no,.no] _;have d3:=zbv q2.1 (k:=3) (by decide)
   have e3 : zea (.lst [x1.toD,.tup [.str "is",thD q1.2],.tup [.str "not",thD q2.2]]) (.int (dr q2.1 3))=some (zoc (dr q2.1 3) x1 (.is q1.2) (.no q2.2)).toD:=by
    have : dr q2.1 3=0\/dr q2.1 3=1\/dr q2.1 3=2:=by omega
    rcases this with e | e | e <;> (rw [e]; rfl)
   generalize zoc (dr q2.1 3) x1 (.is q1.2) (.no q2.2)=x at e3;obtain ⟨k1,k2⟩:=ycn Pa.toD B.2 at_ ⟨da.1,by omega⟩
   have s1' : ∀ r0 r8 : Sl,zb3 (mSl (zab 2) (fun _=>some none) (mPt (zab 5))) [r0,.im (.int v),.im Bd,.im Pd,.no,.im (.int at_),r8,.no,.no]=some (.lst ((B.2.take at_.toNat).map Pa.toD)):=fun r0 r8=>by
    subst hBd;rw [<- k1];exact zkj (zu7 rfl rfl rfl)
   have s2' : ∀ r0 r8 : Sl,zb3 (mSl (zab 2) (mPt (zab 5)) (fun _=>some none)) [r0,.im (.int v),.im Bd,.im Pd,.no,.im (.int at_),r8,.no,.no]=some (.lst ((B.2.drop at_.toNat).map Pa.toD)):=fun r0 r8=>by
    subst hBd;rw [<- k2];exact zkj (zu7 rfl rfl rfl)
   have add2 : ∀ a b : List D,a.length + b.length<=1000->zcf (.lst a) (.lst b)=some (.lst (a++b)):=fun a b h=>by
    show (if a.length + b.length<=16777216 then some (D.lst (a++b)) else none)=_;rw [if_pos (by omega)]
   refine zbx (zdf (zaq (zap rfl) (zaq (zb5 (zb5 (zap (s1' _ _)) (lstX (zaq (zb5 (zap rfl) (zc9 l q2.1 3 _ rfl u1 (by decide)) e3) rfl)) (add2 _ _ ?_)) (zap (s2' _ _)) (add2 _ _ ?_)) (zaq (zap rfl) rfl)))) ?_
   ·rw [List.length_map,List.length_take,List.length_singleton]; omega
   ·rw [List.length_append,List.length_map,List.length_map,List.length_take,List.length_drop,List.length_singleton]; omega
   ·subst hPd;refine ⟨.im (.int v),.im Bd,.im (.lst (P.2.map prD)),.no,.im (.int at_),.im (.lst [x1.toD,.tup [.str "is",thD q1.2],.tup [.str "not",thD q2.2]]),.no,.no,?_⟩;show Fl.rtS (.tup [.str "never",.lst _,.lst (P.2.map prD)]) _=Fl.rtS (.tup [.str "never",.lst (List.map Pa.toD (_++[x]++_)),.lst (P.2.map prD)]) _;rw [List.map_append,List.map_append];rfl
  rw [if_neg (of_decide_eq_false e)];show wp _ [.pin l [.int P.1],.im (.int v),.im Bd,.im Pd,.no,.no,.no,.no,.no] _;apply zaf;refine zba (b:=decide (v < 5)) (zbf (zat rfl rfl zix)) (fun e=>?_) fun e=>zbb ?_
  ·rw [if_pos (of_decide_eq_true e)];unfold z05;obtain ⟨a1,_⟩:=zjk P.1;obtain ⟨a2,_⟩:=zjk (za3 P.1).1;obtain ⟨c,_⟩:=zp3 (za3 (za3 P.1).1).1;have d3:=zbv (zck (za3 (za3 P.1).1).1).1 (k:=3) (by decide);apply zaf;refine zbu (zdo (F:=za3) (toD:=D.int) (fun s h=>zq1 l s h) P.1 _ p1) ?_;generalize za3 P.1=q1 at *;show wp _ [.pin l [.int q1.1],.im (.int v),.im Bd,.im Pd,.no,.no,.no,.im (.int q1.2),.no] _;apply zaf;refine zbu (zdo (F:=za3) (toD:=D.int) (fun s h=>zq1 l s h) q1.1 _ a1) ?_;generalize za3 q1.1=q2 at *;show wp _ [.pin l [.int q2.1],.im (.int v),.im Bd,.im Pd,.no,.no,.no,.im (.int q1.2),.im (.int q2.2)] _;apply zaf;refine zbu (zdo (F:=zck) (toD:=fun z=>.lst (z.map zce)) (fun s h=>zx4 l s h) q2.1 _ a2) ?_;generalize zck q2.1=z at *;show wp _ [.pin l [.int z.1],.im (.int v),.im Bd,.im Pd,.no,.no,.im (.lst (z.2.map zce)),.im (.int q1.2),.im (.int q2.2)] _;subst hBd hPd;exact zbx (zdf (zaq (zap rfl) (zaq (zap rfl) (zaq (zap rfl) (zaq (zap rfl) (zaq (zul l (dr z.1 3) (nx z.1) _ rfl (zc9 l z.1 3 _ rfl c (by decide)) (zbn _) ⟨by omega,by omega⟩) (zaq (zap rfl) (zaq (zap rfl) rfl)))))))) ⟨_,_,_,_,_,_,_,_,rfl⟩
  rw [if_neg (of_decide_eq_false e)];show wp _ [.pin l [.int P.1],.im (.int v),.im Bd,.im Pd,.no,.no,.no,.no,.no] _;unfold z07
  have ei : mIx (zad (fun _=>some (.str "rule")) (zad (fun _=>some (.str "may")) (fun _=>some []))) (m2 zex (zab 1) (fun _=>some (.int 2))) [.pin l [.int P.1],.im (.int v),.im Bd,.im Pd,.no,.no,.no,.no,.no]=some (.str (ruS (decide (v % 2=0)))):=by
   refine zbh rfl (zat rfl rfl (zg9 (by decide))) ?_;have : v % 2=0\/v % 2=1:=by omega
   rcases this with e | e <;> (rw [e]; rfl)
  subst hBd hPd;exact zbx (zdf (zaq (zap ei) (zaq (zdo (F:=thP) (toD:=thD) (fun s h=>zos l s h) P.1 _ p1) (zaq (zap rfl) (zaq (zap rfl) rfl))))) ⟨_,_,_,_,_,_,_,_,rfl⟩
 obtain ⟨o,e,a1,a2,a3,a4,a5,a6,a7,a8,rfl⟩:=w;exact zd3 (ρ:=[.pin l [.int (zhu s).1],a1,a2,a3,a4,a5,a6,a7,a8]) e rfl
theorem zwj (a b:List Nat) (h:a.length + b.length<=100000) : zcf (.str (tx a)) (.str (tx b))=some (.str (tx (a++b))):=by
 show (if (tx a).length + (tx b).length<=16777216 then some (D.str (tx a++tx b)) else none)=_;rw [zdl,zdl,if_pos (by omega),zr6]
theorem z4d (a b:List Nat) (h:a.length + b.length<=100000) : zh3 (.str (tx a)) (.str (tx b))=some (.str (tx (a++b))):=by
 show (if (tx a).length + (tx b).length<=16777216 then some (D.str (tx a++tx b)) else none)=_;rw [zdl,zdl,if_pos (by omega),zr6]
theorem zo0 {w:List Nat} (h:zc5 w=true) : 0 < w.length/\w.length<=8:=by
 unfold zc5 at h;rw [Bool.or_eq_true] at h
 rcases h with h | h
 ·unfold zgo at h;rw [Bool.and_eq_true] at h;obtain ⟨h1,h2⟩:=h;unfold made at h1 h2;simp only [Bool.and_eq_true,Bool.or_eq_true,decide_eq_true_eq,List.length_take,List.length_drop] at h1 h2;omega
 ·unfold zc1 made at h;simp only [Bool.and_eq_true,decide_eq_true_eq] at h;omega
theorem zqz {w:List Nat} (h:zc1 w=true) : 0 < w.length/\w.length<=8:=zo0 (by unfold zc5; rw [h,Bool.or_true])
theorem z24 {w:List Nat} (h:zgo w=true) : 0 < w.length/\w.length<=8:=zo0 (by unfold zc5; rw [h]; rfl)
theorem cmT : ("," : Str)=tx [44]:=by decide +kernel
theorem opT : ("(" : Str)=tx [40]:=by decide +kernel
theorem clT : (")" : Str)=tx [41]:=by decide +kernel
theorem zsi {f g:List Sl->Option D} {ρ:List Sl} {a b:List D} (h:f ρ=some (.lst a)) (h':g ρ=some (.lst b)) (hl:a.length + b.length<=16777216) : zft f g ρ=some (a++b):=by
 unfold zft;rw [h,h'];show (if a.length + b.length<=16777216 then some (a++b) else none)=_;rw [if_pos hl]
noncomputable def za0 (n:Int) : List Nat:=(Str.ofString (toString n)).cps.toList
theorem z75 (n:Int) : Str.ofString (toString n)=tx (za0 n):=(zim _).symm
theorem zq3 (m:Nat) : za0 (-((m + 1 : Nat) : Int))=45::za0 ((m + 1 : Nat) : Int):=by
 unfold za0;have e : toString (-((m + 1 : Nat) : Int))="-" ++ Nat.repr (m + 1):=rfl;rw [e,PySem.W.KIN.signs_num,signs_ofString,String.toList_append,List.map_append,Nat.toList_repr];rfl
theorem zq4 (m:Nat) (h:(m:Int) < 10 ^ 30) : 0 < (za0 (m:Int)).length/\(za0 (m:Int)).length<=30:=by
 have h1:=toString_length_le (v:=(m:Int)) (by omega) (k:=30) (by decide) h;have e : (Str.ofString (toString (m:Int))).length=(za0 (m:Int)).length:=rfl;refine ⟨?_,by rw [<- e]; exact h1⟩;unfold za0;rw [PySem.W.KIN.signs_num,List.length_map];exact List.length_pos_iff.mpr Nat.toDigits_ne_nil
theorem zq2 {n:Int} (h:zdy n) : 0 < (za0 n).length/\(za0 n).length<=31:=by
 obtain ⟨h1,h2⟩:=h
 by_cases h0 : 0<=n
 ·obtain ⟨m,rfl⟩ : ∃ m : Nat,n=m:=⟨n.toNat,by omega⟩;have:=zq4 m h2;omega
 ·obtain ⟨m,rfl⟩ : ∃ m : Nat,n=-((m + 1 : Nat) : Int):=⟨(-n).toNat - 1,by omega⟩;have:=zq4 (m + 1) (by omega);rw [zq3,List.length_cons];omega
theorem z65 {n:Int} (h:zdy n) : n.natAbs.log2 < 1920:=by
 obtain ⟨h1,h2⟩:=h
 have hb : n.natAbs < 2 ^ 100:=by
  have : (10 : Int) ^ 30 < 2 ^ 100:=by decide
  omega
 by_cases h0 : n.natAbs=0
 ·rw [h0]; decide
 ·have:=(Nat.log2_lt h0).mpr hb;omega
theorem zvg {n:Int} (h:zdy n) : zf6 (.int n)=some (.str (tx (za0 n))):=by
 show (if n.natAbs.log2 < 1920 then some (D.str (Str.ofString (toString n))) else none)=_;rw [if_pos (z65 h),z75]
theorem zx2 {z:Ti} (h:zcy z) : zdy z.2.1:=⟨by have h1:=h.2.1; have h2 : (0 : Int) < 10 ^ 30:=(by decide); omega,h.2.2⟩
noncomputable def cw (z:Str) : List Nat:=z.cps.toList
theorem cwT (z:Str) : z=tx (cw z):=(zim z).symm
theorem cwD (z:Str) : D.str z=sT (cw z):=by show D.str z=D.str (tx (cw z)); rw [<- cwT]
open PySem.Builtin PySem.Builtin.Str
noncomputable def spr (c:Nat) (l:List Nat) : List Nat:=l.flatMap fun x=>if x=c then [32,c,32] else [x]
theorem zoq (c:Nat) (a b:List Nat) : spr c (a++b)=spr c a++spr c b:=by unfold spr; rw [List.flatMap_append]
theorem zvc (c:Nat) : ∀ l : List Nat,c∉l->spr c l=l
 | [],_=>rfl
 | k::r,h=>by
  obtain ⟨h1,h2⟩:=not_or.mp (fun e=>h (List.mem_cons.mpr e));have ih:=zvc c r h2;unfold spr at ih ⊢;rw [List.flatMap_cons,if_neg (Ne.symm h1),ih];rfl
theorem zms (c:Nat) : ∀ l : List Nat,(spr c l).length<=3 * l.length
 | []=>Nat.le_refl _
 | k::r=>by
  have ih:=zms c r;unfold spr at ih ⊢;rw [List.flatMap_cons,List.length_append,List.length_cons]
  split <;> (simp only [List.length_cons,List.length_nil]; omega)
theorem z3k (c:Nat) : (zm2 c).cps.toList=[32,c,32]:=rfl
theorem z2c (c:Nat) : ∀ parts : List Str,(∀ p∈parts,c∉p.cps.toList)->spr c (Str.join ⟨#[c]⟩ parts).cps.toList=(Str.join (zm2 c) parts).cps.toList
 | [],_=>rfl
 | [p],h=>zvc c _ (h p (List.mem_singleton.mpr rfl))
 | p::q::r,h=>by
  have ih:=z2c c (q::r) fun a ha=>h a (List.mem_cons_of_mem _ ha);show spr c (p++⟨#[c]⟩++Str.join ⟨#[c]⟩ (q::r)).cps.toList=(p++zm2 c++Str.join (zm2 c) (q::r)).cps.toList;simp only [Array.toList_append,Str.cps_append];rw [zoq,zoq,ih,zvc c _ (h p (List.mem_cons_self ..)),z3k];show p.cps.toList++spr c [c]++_=_;have : spr c [c]=[32,c,32]:=by unfold spr; simp
  rw [this]
theorem zoj (l:List Nat) (c:Nat) : zcx (tx l) c=tx (spr c l):=by
 rw [<- zim (zcx (tx l) c)];unfold zcx;rw [StrLaws.replace_one,<- z2c c _ (StrLaws.split_free (tx l) c),StrLaws.join_split]
noncomputable def zdc (c:Nat) : List Nat->List Nat->List (List Nat)
 | [],cur=>[cur]
 | x::r,cur=>if x=c then cur::zdc c r [] else zdc c r (cur++[x])
theorem zsl (c:Nat) : ∀ (p r cur:List Nat),c∉p->zdc c (p++r) cur=zdc c r (cur++p)
 | [],r,cur,_=>by rw [List.nil_append,List.append_nil]
 | k::p,r,cur,h=>by
  have h1 : k≠c:=(List.ne_of_not_mem_cons h).symm;have ih:=zsl c p r (cur++[k]) fun m=>h (List.mem_cons_of_mem _ m);rw [List.cons_append,zdc,if_neg h1,ih,List.append_assoc];rfl
theorem zwi (c:Nat) : ∀ parts : List Str,parts≠[]->(∀ p∈parts,c∉p.cps.toList)->zdc c (Str.join ⟨#[c]⟩ parts).cps.toList []=parts.map fun p=>p.cps.toList
 | [],h,_=>absurd rfl h
 | [p],_,h=>by
  have:=zsl c p.cps.toList [] [] (h p (List.mem_singleton.mpr rfl));rw [List.append_nil,List.nil_append] at this
  exact this
 | p::q::r,_,h=>by
  have ih:=zwi c (q::r) (by simp) fun a ha=>h a (List.mem_cons_of_mem _ ha);show zdc c (p++⟨#[c]⟩++Str.join ⟨#[c]⟩ (q::r)).cps.toList []=_;simp only [Str.cps_append,Array.toList_append,List.append_assoc];rw [zsl c _ _ _ (h p (List.mem_cons_self ..)),List.nil_append];show zdc c (c::(Str.join ⟨#[c]⟩ (q::r)).cps.toList) p.cps.toList=_;rw [zdc,if_pos rfl,ih];rfl
theorem ycx (x y:Str) : Txt.split x y≠[]:=by
 unfold Txt.split;split
 ·simp
 ·split
  ·simp
  ·rw [StrLaws.partsBetween_eq];obtain ⟨p,r,e⟩:=StrLaws.partsFrom_ne x y.length 0 (occurrences x y 0 x.length (x.length + 1));rw [e];simp
theorem ycw (l:List Nat) : Txt.split (tx l) (" " : Str)=(zdc 32 l []).map tx:=by
 have e : (" " : Str)=⟨#[32]⟩:=rfl;rw [e];have h:=zwi 32 (Txt.split (tx l) ⟨#[32]⟩) (ycx _ _) (StrLaws.split_free (tx l) 32);rw [StrLaws.join_split] at h;rw [show (tx l).cps.toList=l from rfl] at h;rw [h,List.map_map]
 conv=>lhs; rw [<- List.map_id (Txt.split (tx l) ⟨#[32]⟩)]
 apply List.map_congr_left;intro p _;exact (zim p).symm
theorem z9k (x y:Str) : (zrh x y).length<=x.length + 2:=by
 unfold zrh partsBetween;have few:=StrLaws.occ_length_le x y 0 x.length (x.length + 1);simp only [List.length_map,List.length_zip,List.length_cons,List.length_append];omega
theorem z4f (l:List Nat) (h:l.length<=1000000) : zna (.str (tx l)) (.str " ")=some (.lst ((zdc 32 l []).map fun w=>.str (tx w))):=by
 unfold zna;dsimp only;have:=z9k (tx l) (" " : Str);rw [zdl] at this;rw [if_pos ⟨by decide,by rw [zdl]; omega,by omega⟩,ycw,List.map_map];rfl
noncomputable def zgb (x:Nat) : Bool:=x==40 || x==41 || x==44
noncomputable def fl (cur:List Nat) : List (List Nat):=if cur=[] then [] else [cur]
noncomputable def ws : List Nat->List Nat->List (List Nat)
 | [],cur=>fl cur
 | x::r,cur=>if x=32 then fl cur++ws r [] else if zgb x=true then fl cur++[x]::ws r [] else ws r (cur++[x])
noncomputable def ze7 (l:List Nat) : List Nat:=spr 44 (spr 41 (spr 40 l))
theorem ycy (x:Nat) (r:List Nat) : ze7 (x::r)=(if zgb x=true then [32,x,32] else [x])++ze7 r:=by
 unfold ze7;rw [show x::r=[x]++r from rfl,zoq,zoq,zoq]
 congr 1
 by_cases h0 : x=40
 ·subst h0; rfl
 ·by_cases h1 : x=41
  ·subst h1; rfl
  ·by_cases h2 : x=44
   ·subst h2; rfl
   ·have h3 : zgb x=false:=by simp [zgb,h0,h1,h2]
    rw [h3];simp [spr,h0,h1,h2]
theorem zpb : ∀ (l cur:List Nat),(zdc 32 (ze7 l) cur).filter (fun w=>!decide (w=[]))=ws l cur
 | [],cur=>by
  show ([cur] : List (List Nat)).filter _=fl cur;unfold fl
  by_cases h : cur=[] <;> simp [h]
 | x::r,cur=>by
  have flf : ∀ (z:List (List Nat)),(cur::z).filter (fun w=>!decide (w=[]))=fl cur++z.filter (fun w=>!decide (w=[])):=fun z=>by
   unfold fl
   by_cases h : cur=[] <;> simp [h]
  rw [ycy];unfold ws
  by_cases h : x=32
  ·subst h;rw [if_pos rfl,if_neg (by decide)];show (zdc 32 (32::ze7 r) cur).filter _=_;rw [zdc,if_pos rfl,flf,zpb r []]
  ·rw [if_neg h]
   by_cases h2 : zgb x=true
   ·rw [if_pos h2,if_pos h2];show (zdc 32 (32::x::32::ze7 r) cur).filter _=_;rw [zdc,if_pos rfl,flf,zdc,if_neg h,zdc,if_pos rfl];show _++([x]::zdc 32 (ze7 r) []).filter _=_;rw [List.filter_cons,if_pos (by simp),zpb r []]
   ·rw [if_neg h2,if_neg h2];show (zdc 32 (x::ze7 r) cur).filter _=_;rw [zdc,if_neg h,zpb r (cur++[x])]
theorem ycz (l:List Nat) : (ze7 l).length<=27 * l.length:=by
 have h1:=zms 40 l;have h2:=zms 41 (spr 40 l);have h3:=zms 44 (spr 41 (spr 40 l));unfold ze7;omega
noncomputable def plain (w:List Nat) : Prop:=∀ x∈w,x≠32/\zgb x=false
theorem z3c : ∀ (w r cur:List Nat),plain w->ws (w++r) cur=ws r (cur++w)
 | [],r,cur,_=>by rw [List.nil_append,List.append_nil]
 | x::w,r,cur,h=>by
  have hx:=h x (List.mem_cons_self ..);have ih:=z3c w r (cur++[x]) fun y hy=>h y (List.mem_cons_of_mem _ hy);rw [List.cons_append,ws,if_neg hx.1,if_neg (by rw [hx.2]; decide),ih,List.append_assoc];rfl
theorem zr8 : ∀ (n:Nat) (r:List Nat),ws (List.replicate n 32++r) []=ws r []
 | 0,r=>rfl
 | n + 1,r=>by
  rw [List.replicate_succ,List.cons_append,ws,if_pos rfl,zr8 n r];rfl
theorem z3b (n:Nat) (r cur:List Nat) : ws (List.replicate (n + 1) 32++r) cur=fl cur++ws r []:=by
 rw [List.replicate_succ,List.cons_append,ws,if_pos rfl,zr8 n r]
theorem zvm {x:Nat} (r cur:List Nat) (h:zgb x=true) : ws (x::r) cur=fl cur++[x]::ws r []:=by
 have h32 : ¬ x=32:=fun e=>by subst e; cases h
 rw [ws,if_neg h32,if_pos h]
noncomputable def wD (ws:List (List Nat)) : List D:=ws.map fun w=>.str (tx w)
theorem z67 : ("(),": Str).cps.toList=[40,41,44]:=rfl
theorem yec (l:List Nat) (h:l.length<=20000) : wp b_52 [.im (.str (tx l)),.no,.no] (fun o=>o=.rtO (wD (ws l []))):=by
 have l1:=zms 40 l;have l2:=zms 41 (spr 40 l);have l3:=ycz l
 have hok : zoi (tx l) [40,41,44]=true:=by
  unfold zoi;show ((decide (4 * (tx l).length + 3<=16777216)) && ((decide (4 * (zcx (tx l) 40).length + 3<=16777216)) && ((decide (4 * (zcx (zcx (tx l) 40) 41).length + 3<=16777216)) && true)))=true;rw [zoj,zoj,zdl,zdl,zdl,decide_eq_true (by omega),decide_eq_true (by omega),decide_eq_true (by omega)];rfl
 have h1 : znt 1 2 "()," (zab 0) [.im (.str (tx l)),.no,.no]=some (.nx [.im (.str (tx l)),.im (.str (tx (ze7 l))),.im (.str ⟨#[44]⟩)]):=by
  unfold znt;rw [show zab 0 [Sl.im (.str (tx l)),.no,.no]=some (.str (tx l)) from rfl,Option.bind_some,z67];show (if zoi (tx l) [40,41,44]=true then _ else none)=_;rw [if_pos hok];show some (Fl.nx [.im (.str (tx l)),.im (.str (zcx (zcx (zcx (tx l) 40) 41) 44)),.im (.str ⟨#[44]⟩)])=_;rw [zoj,zoj,zoj];rfl
 unfold b_52;apply zaf;refine zio h1 ?_;refine yeg (d:=wD (ws l [])) ?_ rfl;unfold wD;rw [<- zpb l []]
 have hl : ∀ (r cur:List Nat),(zdc 32 r cur).length<=r.length + 1:=by
  intro r
  induction r with
  | nil=>intro cur; exact Nat.le_refl _
  | cons x r ih =>
   intro cur;unfold zdc;split
   ·have:=ih []; simp only [List.length_cons]; omega
   ·have:=ih (cur++[x]); simp only [List.length_cons]; omega
 have hl3:=hl (ze7 l) [];refine z38 (zdc 32 (ze7 l) []) (fun w=>D.str (tx w)) (fun w=>!decide (w=[])) (fun w=>D.str (tx w)) (zry (zat rfl rfl (z4f _ (by omega))) rfl) (by omega) fun w _=>?_
 have e1 : ((tx w)==("" : Str))=decide (w=[]):=by
  by_cases hw : w=[]
  ·subst hw; rfl
  ·rw [decide_eq_false hw]
   cases e : ((tx w)==("" : Str)) with
   | false=>rfl
   | true=>exact absurd (zgm ((eq_of_beq e).trans (show ("" : Str)=tx [] from rfl))) hw
 have e2:=z2t (g:=zb8 0) (ft:=mB (m2 dNe (zab 0) (fun _=>some (.str "")))) (fe:=zab 0) (ρ:=zcv 1 [] [.im (.str (tx l)),.im (.str (tx (ze7 l))),.im (.str ⟨#[44]⟩)]) (d:=.str (tx w)) (b:=!decide (w=[])) (y:=.str (tx w)) rfl (zbf (zat rfl rfl (by rw [zwl,e1]))) fun _=>rfl;exact e2
theorem yeb (l:List Nat) (h:l.length<=20000) : zny [.str (tx l)]=some (.lst (wD (ws l []))):=by
 obtain ⟨o,e,rfl⟩:=yec l h;exact ybw e
open NumText PySem.Builtin PySem.Builtin.Str
noncomputable def dgL : List Nat:=("0123456789" : Str).cps.toList
theorem zpi (x:Nat) : x∈dgL↔48<=x/\x<=57:=by
 have e : dgL=[48,49,50,51,52,53,54,55,56,57]:=rfl;rw [e];simp only [List.mem_cons,List.not_mem_nil,or_false];omega
noncomputable def fgs (w:List Nat) : List Nat:=if w.head?=some 45 then w.tail else w
noncomputable def zjb (w:List Nat) : Bool:=if w==[48] then true else made (fgs w) dgL 30 && !decide ((fgs w).head?=some 48)
noncomputable abbrev asc (w:List Nat) : Prop:=w.all (· < 128)=true
theorem z3m {w:List Nat} (h:asc w) : (tx w).cps.all (· < 128)=true:=by
 show w.toArray.all _=true
 simpa using h
theorem z58 (x:Nat) (sg:List Nat) : inS ⟨#[x]⟩ (tx sg)=decide (x∈sg):=StrLaws.found_one (tx sg) x
theorem zym (w:List Nat) (h:w.length<=1000) : zcs [.str (tx w)]=some (.int (w.length : Int)):=by
 show (if (tx w).length<=16777216 then some (D.int ((tx w).length : Int)) else none)=_;rw [zdl,if_pos (by omega)]
theorem yc2 {f:List Sl->Option D} {ρ:List Sl} {w:List Nat} (h:f ρ=some (.str (tx w))) (ha:asc w) : zks f ρ=some (w.map fun x=>D.str ⟨#[x]⟩):=by
 unfold zks;rw [h,Option.bind_some];show (if (tx w).cps.all (· < 128)=true then some ((tx w).cps.toList.map fun ch=>D.str ⟨#[ch]⟩) else none)=_;rw [if_pos (z3m ha)]
theorem zsd (bs:List Bool) : zh0 [.lst (bs.map D.bl)]=some (.bl (bs.all id)):=by
 have : ∀ l : List Bool,zf4 (l.map D.bl)=some l:=by
  intro l
  induction l with
  | nil=>rfl
  | cons a l ih=>rw [List.map_cons]; unfold zf4; rw [ih]; rfl
 show ((zf4 (bs.map D.bl)).map fun bs=>D.bl (bs.all id))=_;rw [this];rfl
theorem zqr (w sg:List Nat) (most:Nat) (hw:w.length<=1000) (ha:asc w) : zkv [.str (tx w),.str (tx sg),.int (most:Int)]=some (.bl (made w sg most)):=by
 apply zg6;unfold b_15;show wp _ [.im (.str (tx w)),.im (.str (tx sg)),.im (.int (most:Int))] _;refine zgp ?_ (zfr rfl);unfold made;refine zin ?_ ?_
 ·have:=z31 (m:=dLe) (m':=dLe) (f:=fun _=>some (.int 1)) (g:=za9 zcs (zad (zab 0) (fun _=>some []))) (h:=zab 2) (ρ:=[.im (.str (tx w)),.im (.str (tx sg)),.im (.int (most:Int))]) rfl (zb0 rfl (zym w hw)) zsp rfl zsp;rw [this]
  congr 3 <;> exact decide_eq_decide.mpr (by omega)
 ·have hc : zd7 1 [1] (zks (zab 0)) (zb8 0) (fun _=>some true) (m2 zj5 (zab 0) (zab 1)) [.im (.str (tx w)),.im (.str (tx sg)),.im (.int (most:Int))]=some ((w.map fun x=>decide (x∈sg)).map D.bl):=by
   rw [List.map_map];exact zpa w (fun x=>D.str ⟨#[x]⟩) (fun x=>D.bl (decide (x∈sg))) (yc2 rfl ha) (by omega) fun x _=>zr5 rfl rfl (zat rfl rfl (show some (D.bl (inS ⟨#[x]⟩ (tx sg)))=_ by rw [z58]))
  refine zb0 (za1 (zkj hc) rfl) ?_;rw [zsd,List.all_map];rfl
theorem z72 (w:List Nat) : zh4 (.str (tx w)) (.kt (kpS.map D.str))=some (.bl (!kept w)):=by
 rw [kpD];show some (D.bl (!((kpW.map fun w=>D.str (tx w)).any fun d=>eqX d (.str (tx w)))))=_;rw [List.any_map];unfold kept
 congr 3
 refine congrArg (fun p=>kpW.any p) (funext fun k=>?_);show (tx k==tx w)=(k==w);apply Bool.eq_iff_iff.mpr;rw [beq_iff_eq,beq_iff_eq];exact ⟨zgm,fun e=>by rw [e]⟩
theorem dgT : ("0123456789" : Str)=tx dgL:=(zim _).symm
theorem z7z (w:List Nat) (hw:w.length<=1000) (ha:asc w) : zt1 [.str (tx w)]=some (.bl (zc1 w)):=by
 apply zg6;unfold b_57;show wp _ [.im (.str (tx w))] _;refine zgp (zin ?_ (zat rfl rfl (z72 w))) (zfr rfl);refine zb0 (za1 rfl (za1 rfl (za1 rfl rfl))) ?_;rw [smT];exact zqr w smL 8 hw ha
theorem z19 (w:List Nat) (i:Int) (h:0<=i/\i<=w.length) : Txt.slice (tx w) (some i) none=tx (w.drop i.toNat):=by
 have:=StrLaws.sliceText_from (x:=tx w) (i:=i) ⟨h.1,h.2⟩;show StrLaws.sliceText (tx w) (some i) none=_;rw [this]
 congr 2
 show (w.drop i.toNat).take _=_;rw [List.take_of_length_le (by rw [List.length_drop]; show _<=((w.length : Int) - i).toNat; omega)]
theorem ycr (w:List Nat) (i:Int) (h:(w.length : Int)<=i) : Txt.slice (tx w) (some i) none=tx (w.drop i.toNat):=by
 have e : PySem.Builtin.Str.strSliceIndices (some i) none 1 (tx w).length=PySem.Builtin.Str.strSliceIndices (some ((tx w).length : Int)) none 1 (tx w).length:=by
  have hl:=zdl w;have e1 : ¬ i < 0:=by omega
  have e2 : ¬ (((tx w).length : Nat) : Int) < 0:=by omega
  have e3 : min i (((tx w).length : Nat) : Int)=((tx w).length : Nat):=by omega
  simp [PySem.Builtin.Str.strSliceIndices,e1,e2,e3]
 have e0 : Txt.slice (tx w) (some i) none=Txt.slice (tx w) (some (w.length : Int)) none:=by
  unfold Txt.slice;rw [e,zdl]
 rw [e0,z19 w _ ⟨by omega,by omega⟩,List.drop_of_length_le (by omega),List.drop_of_length_le (by omega)]
theorem z18 (w:List Nat) (i:Int) (h:0<=i) : Txt.slice (tx w) (some i) none=tx (w.drop i.toNat):=by
 by_cases hi : i<=w.length
 ·exact z19 w i ⟨h,hi⟩
 ·exact ycr w i (by omega)
theorem yct (w:List Nat) (j:Int) (h:0<=j/\j<=w.length) : Txt.slice (tx w) none (some j)=tx (w.take j.toNat):=by
 have:=StrLaws.sliceText_to (x:=tx w) (j:=j) ⟨h.1,h.2⟩;show StrLaws.sliceText (tx w) none (some j)=_;rw [this];simp
theorem ycs (w:List Nat) : Txt.slice (tx w) none (some 1)=tx (w.take 1):=by
 cases w with
 | nil=>rfl
 | cons a w=>exact yct (a::w) 1 ⟨by decide,by rw [List.length_cons]; omega⟩
theorem z4e (w:List Nat) (lo hi:Option Int) (h:w.length<=1000) : zh6 (.str (tx w)) lo hi=some (.str (Txt.slice (tx w) lo hi)):=by
 show (if (tx w).length<=16777216 then some (D.str (Txt.slice (tx w) lo hi)) else none)=_;rw [zdl,if_pos (by omega)]
theorem zu6 {f:List Sl->Option D} {l h:List Sl->Option (Option Int)} {ρ:List Sl} {w:List Nat} {lo hi:Option Int} {r:Str} (e1:f ρ=some (.str (tx w))) (e2:l ρ=some lo) (e3:h ρ=some hi) (hw:w.length<=1000) (e4:Txt.slice (tx w) lo hi=r) : zjg f l h ρ=some (.str r):=by
 unfold zjg;rw [e1,Option.bind_some,e2,Option.bind_some,e3,Option.bind_some,z4e w lo hi hw,e4]
theorem zsf {a b:List Nat} (h:asc b) (hs:a ⊆ b) : asc a:=List.all_eq_true.mpr fun x hx=>List.all_eq_true.mp h x (hs hx)
theorem z22 (w:List Nat) (hw:w.length<=1000) (ha:asc w) : zqp [.str (tx w)]=some (.bl (zgo w)):=by
 apply zg6;unfold b_50;show wp _ [.im (.str (tx w))] _;refine zgp (zin ?_ (z2z ?_ ?_)) (zfr rfl)
 ·refine zb0 (za1 (zu6 (w:=w) rfl rfl rfl hw (ycs w)) (za1 rfl (za1 rfl rfl))) ?_;rw [grT];exact zqr (w.take 1) grL 1 (by rw [List.length_take]; omega) (zsf ha (List.take_subset _ _))
 ·refine zat (zb0 rfl (zym w hw)) rfl ((zew _ _).trans ?_)
  congr 2
  by_cases e : w.length=1
  ·rw [e]; rfl
  ·rw [decide_eq_false e]; exact beq_eq_false_iff_ne.mpr (by omega)
 ·refine zb0 (za1 (zu6 (w:=w) rfl rfl rfl hw (z18 w 1 (by decide))) (za1 rfl (za1 rfl rfl))) ?_;rw [smT];exact zqr (w.drop 1) smL 7 (by rw [List.length_drop]; omega) (zsf ha (List.drop_subset _ _))
theorem z2f (w:List Nat) (x:Nat) : Txt.startswith (tx w) ⟨#[x]⟩=decide (w.head?=some x):=by
 unfold Txt.startswith
 cases w with
 | nil=>rfl
 | cons a w =>
  rw [StrLaws.subAt_eq];show (decide (0 + 1<=(tx (a::w)).length) && (((a::w).drop 0).take 1==[x]))=_;rw [zdl,decide_eq_true (by simp)]
  by_cases e : a=x
  ·subst e; simp
  ·simp [e]
theorem zti (w:List Nat) (hw:w.length<=1000) (ha:asc w) : zqm [.str (tx w)]=some (.bl (zjb w)):=by
 apply zg6;unfold b_46 zjb;show wp _ [.im (.str (tx w)),.no] _
 have e0 : ((tx w)==("0" : Str))=(w==[48]):=by
  by_cases h : w=[48]
  ·subst h; rfl
  ·rw [beq_eq_false_iff_ne.mpr h];exact beq_eq_false_iff_ne.mpr fun e=>h (zgm (e.trans (show ("0" : Str)=tx [48] from rfl)))
 apply zaf;refine zba (b:=(w==[48])) (zbf (zat rfl rfl ((zso _ _).trans (by rw [e0])))) (fun h=>?_) (fun h=>?_)
 ·rw [h];exact zgp rfl (zfr rfl)
 ·rw [h];refine zbb ?_;show wp _ [.im (.str (tx w)),.no] _;apply zaf;have hs : zj8 (.str (tx w)) (.str "-")=some (.bl (decide (w.head?=some 45))):=congrArg (fun b=>some (D.bl b)) (z2f w 45);refine zgq (d:=.str (tx (fgs w))) (z2x (b:=decide (w.head?=some 45)) (zie (zat rfl rfl hs) rfl) (fun e=>?_) (fun e=>?_)) ?_
  ·have e:=of_decide_eq_true e;unfold fgs;rw [if_pos e];refine zu6 (w:=w) rfl rfl rfl hw ((z18 w 1 (by decide)).trans ?_)
   cases w <;> rfl
  ·have e:=of_decide_eq_false e;unfold fgs;rw [if_neg e];rfl
  ·show wp _ [.im (.str (tx w)),.im (.str (tx (fgs w)))] _
   have fl : (fgs w).length<=w.length/\fgs w ⊆ w:=by
    unfold fgs;split
    ·exact ⟨by rw [List.length_tail]; omega,fun _ h=>List.mem_of_mem_tail h⟩
    ·exact ⟨Nat.le_refl _,fun _ h=>h⟩
   have hs2 : zj8 (.str (tx (fgs w))) (.str "0")=some (.bl (decide ((fgs w).head?=some 48))):=congrArg (fun b=>some (D.bl b)) (z2f (fgs w) 48);refine zgp (zin ?_ (z2y (zat rfl rfl hs2))) (zfr rfl);refine zb0 (za1 rfl (za1 rfl (za1 rfl rfl))) ?_;rw [dgT];exact zqr (fgs w) dgL 30 (by omega) (zsf ha fl.2)
open NumText PySem.Builtin PySem.Builtin.Str
noncomputable def nz (cs:List Nat) : List Nat:=match cs.dropWhile (·==48) with
 | []=>[48]
 | c::r=>c::r
theorem z78 {cs:List Nat} (h:zh1 dgL cs=true) : ∀ x∈nz cs,48<=x/\x<=57:=by
 intro x hx;unfold nz at hx;split at hx
 ·rw [List.mem_singleton.mp hx]; decide
 ·rename_i e;have : x∈cs.dropWhile (·==48):=by rw [e]; exact hx
  have hm:=(List.dropWhile_sublist _).subset this;exact (zpi x).mp (of_decide_eq_true (List.all_eq_true.mp h x hm))
theorem yc0 {cs:List Nat} (h:zh1 dgL cs=true) : (Nat.toDigits 10 (digitsVal cs)).map Char.toNat=nz cs:=by
 have had : AllDigits cs:=fun x hx=>(zpi x).mp (of_decide_eq_true (List.all_eq_true.mp h x hx));rw [toDigits_all cs had];have nd:=z78 h;unfold nz at nd ⊢;split
 ·rename_i e; rw [e]; rfl
 ·rename_i c r e;rw [e] at nd ⊢;rw [List.map_map]
  conv=>rhs; rw [<- List.map_id (c::r)]
  apply List.map_congr_left;intro x hx;have:=nd x hx;have hb : ∀ y : Fin 58,(Char.ofNat y.val).toNat=y.val:=by decide
  exact hb ⟨x,by omega⟩
noncomputable def dig (m:Nat) : List Nat:=(Nat.toDigits 10 m).map Char.toNat
theorem zk3 (m:Nat) : za0 ((m:Nat) : Int)=dig m:=PySem.W.KIN.signs_num m
theorem zj9 (m:Nat) : AllDigits (dig m):=by
 intro c hc;unfold dig at hc;obtain ⟨ch,hm,rfl⟩:=List.mem_map.mp hc;exact digit_range (Nat.isDigit_of_mem_toDigits (by decide) (by decide) hm)
theorem zs1 (m:Nat) : zh1 dgL (dig m)=true:=List.all_eq_true.mpr fun x hx=>decide_eq_true ((zpi x).mpr (zj9 m x hx))
theorem zpl (m:Nat) : digitsVal (dig m)=m:=PySem.W.KIN.val_back m
theorem z4n (m:Nat) : dig m=nz (dig m):=by
 have:=yc0 (zs1 m);rw [zpl] at this;exact this
theorem zw0 (m:Nat) (h:dig m≠[48]) : (dig m).head?≠some 48:=by
 have e:=z4n m;unfold nz at e;split at e
 ·exact absurd e h
 ·rename_i c r hd;rw [e];intro z;have hc : c=48:=by simpa using z
  have:=List.head_dropWhile_not (p:=fun x : Nat=>x==48) (l:=dig m) (by rw [hd]; simp);simp only [hd,List.head_cons] at this;rw [hc] at this;exact absurd this (by decide)
theorem zw1 (m:Nat) : dig m≠[]:=by
 unfold dig;simp [Nat.toDigits_ne_nil]
theorem zza {n:Int} (h:zdy n) : zjb (za0 n)=true:=by
 obtain ⟨h1,h2⟩:=h
 by_cases h0 : 0<=n
 ·obtain ⟨m,rfl⟩ : ∃ m : Nat,n=m:=⟨n.toNat,by omega⟩;have l:=zq4 m h2;rw [zk3] at l ⊢;unfold zjb
  by_cases e : dig m=[48]
  ·rw [e]; rfl
  ·rw [if_neg (by simpa using e)]
   have ef : fgs (dig m)=dig m:=by
    unfold fgs;refine if_neg fun z=>?_;have:=zj9 m 45 (List.mem_of_mem_head? z);omega
   rw [ef,decide_eq_false (zw0 m e)];unfold made;rw [zs1,decide_eq_true (show 1<=(dig m).length by omega),decide_eq_true l.2];rfl
 ·obtain ⟨m,rfl⟩ : ∃ m : Nat,n=-((m + 1 : Nat) : Int):=⟨(-n).toNat - 1,by omega⟩;have l:=zq4 (m + 1) (by omega);rw [zq3];rw [zk3] at l ⊢;unfold zjb;rw [if_neg (by simp)];have ef : fgs (45::dig (m + 1))=dig (m + 1):=rfl
  have hn : dig (m + 1)≠[48]:=fun e=>by
   have:=zpl (m + 1);rw [e] at this;exact absurd this (by show ¬ 0=m + 1; omega)
  rw [ef,decide_eq_false (zw0 _ hn)];unfold made;rw [zs1,decide_eq_true (show 1<=(dig (m + 1)).length by omega),decide_eq_true l.2];rfl
theorem z76 {n:Int} (h:zdy n) : zm6 (.str (tx (za0 n)))=some (.int n):=by
 have l:=zq2 h;show (if (tx (za0 n)).length<=640 then (PySem.intText? (tx (za0 n))).map D.int else none)=_;rw [zdl,if_pos (by omega)];obtain ⟨h1,h2⟩:=h
 by_cases h0 : 0<=n
 ·obtain ⟨m,rfl⟩ : ∃ m : Nat,n=m:=⟨n.toNat,by omega⟩;rw [zk3] at l ⊢;rw [intText_digits (x:=tx (dig m)) (zj9 m) (zw1 m) (by rw [zdl]; omega)];show some (D.int ((digitsVal (dig m) : Nat) : Int))=_;rw [zpl]
 ·obtain ⟨m,rfl⟩ : ∃ m : Nat,n=-((m + 1 : Nat) : Int):=⟨(-n).toNat - 1,by omega⟩;rw [zq3,zk3] at l ⊢;rw [intText_neg (x:=tx (45::dig (m + 1))) (cs:=dig (m + 1)) rfl (zj9 _) (zw1 _) (by rw [zdl]; omega)];show some (D.int (-((digitsVal (dig (m + 1)) : Nat) : Int)))=_;rw [zpl]
theorem zzb {n:Int} : ∀ x∈za0 n,x=45\/(48<=x/\x<=57):=by
 intro x hx
 by_cases h0 : 0<=n
 ·obtain ⟨m,rfl⟩ : ∃ m : Nat,n=m:=⟨n.toNat,by omega⟩;rw [zk3] at hx;exact .inr (zj9 m x hx)
 ·obtain ⟨m,rfl⟩ : ∃ m : Nat,n=-((m + 1 : Nat) : Int):=⟨(-n).toNat - 1,by omega⟩;rw [zq3,zk3] at hx
  rcases List.mem_cons.mp hx with e | e
  ·exact .inl e
  ·exact .inr (zj9 _ x e)
theorem z2a : ∀ x∈smL,97<=x/\x<=122:=by decide +kernel
theorem z5v : ∀ x∈grL,65<=x/\x<=90:=by decide +kernel
theorem zsc {sg w:List Nat} (h:zh1 sg w=true) : ∀ x∈w,x∈sg:=fun x hx=>of_decide_eq_true (List.all_eq_true.mp h x hx)
theorem zy6 {w:List Nat} (h:zc1 w=true) : ∀ x∈w,97<=x/\x<=122:=by
 unfold zc1 made at h;simp only [(Bool.and_eq_true)] at h;exact fun x hx=>z2a x (zsc h.1.2 x hx)
theorem z25 {w:List Nat} (h:zgo w=true) : (∀ x∈w,65<=x/\x<=122)/\∃ c r,w=c::r/\c<=90:=by
 have hl:=z24 h;unfold zgo at h;rw [Bool.and_eq_true,Bool.or_eq_true] at h;obtain ⟨h1,h2⟩:=h;unfold made at h1 h2;simp only [Bool.and_eq_true,decide_eq_true_eq] at h1 h2
 cases w with
 | nil=>exact absurd hl.1 (by decide)
 | cons c r =>
  have hc:=z5v c (zsc h1.2 c (by simp));refine ⟨fun x hx=>?_,c,r,rfl,hc.2⟩
  rcases List.mem_cons.mp hx with e | e
  ·rw [e]; omega
  ·rcases h2 with q | q
   ·have : r=[]:=List.eq_nil_of_length_eq_zero (by rw [List.length_cons] at q; omega);rw [this] at e;exact (List.not_mem_nil e).elim
   ·have:=z2a x (zsc q.2 x e);omega
theorem zvt {w:List Nat} (h:zc5 w=true) : ∀ x∈w,65<=x/\x<=122:=by
 unfold zc5 at h;rw [Bool.or_eq_true] at h
 rcases h with h | h
 ·exact (z25 h).1
 ·intro x hx;have:=zy6 h x hx;omega
theorem yaj {w:List Nat} (h:∀ x∈w,65<=x/\x<=122) : plain w:=fun x hx=>by
 have:=h x hx;refine ⟨by omega,?_⟩;unfold zgb;simp only [Bool.or_eq_false_iff,beq_eq_false_iff_ne,ne_eq];omega
theorem z77 (n:Int) : plain (za0 n):=fun x hx=>by
 have:=zzb x hx;refine ⟨by omega,?_⟩;unfold zgb;simp only [Bool.or_eq_false_iff,beq_eq_false_iff_ne,ne_eq];omega
theorem zvu {w:List Nat} (h:∀ x∈w,x < 128) : asc w:=List.all_eq_true.mpr fun x hx=>decide_eq_true (h x hx)
theorem zoz {w:List Nat} (h:zc5 w=true) : asc w:=zvu fun x hx=>by have:=zvt h x hx; omega
theorem zjj {w:List Nat} (h:zc1 w=true) : zc5 w=true:=by unfold zc5; rw [h,Bool.or_true]
theorem z23 {w:List Nat} (h:zgo w=true) : zc5 w=true:=by unfold zc5; rw [h]; rfl
theorem zy9 (n:Int) : asc (za0 n):=zvu fun x hx=>by have:=zzb x hx; omega
theorem z70 {w:List Nat} (h:zc1 w=true) : zjb w=false:=by
 have hl:=zqz h
 cases w with
 | nil=>exact absurd hl.1 (by decide)
 | cons c r =>
  have hc:=zy6 h c List.mem_cons_self;unfold zjb;rw [if_neg (by simp; omega)];have ef : fgs (c::r)=c::r:=by unfold fgs; rw [if_neg (by simp; omega)]
  have hm : made (c::r) dgL 30=false:=by
   unfold made zh1;have : decide (c∈dgL)=false:=decide_eq_false fun z=>by have:=(zpi c).mp z; omega
   rw [List.all_cons,this,Bool.false_and,Bool.and_false]
  rw [ef,hm,Bool.false_and]
theorem z97 : plain (cw "and"):=by unfold plain; decide +kernel
noncomputable def zdu (c:List (List Nat)) : List (List (List Nat))->List (List Nat)
 | []=>[]
 | [x]=>x
 | x::y::r=>x++c++zdu c (y::r)
noncomputable def zb6 (t:Th) : List (List Nat):=t.1::(if t.2=[] then [] else [40]::(zdu [[44]] (t.2.map fun a=>[a])++[[41]]))
noncomputable def zd2 (p:List Nat×List Nat) : List (List Nat):=[p.1,cw "in",p.2]
noncomputable def zbo (ps:List (List Nat×List Nat)) : List (List Nat):=zdu [[44]] (ps.map zd2)
noncomputable def zfg (z:Ti) : List (List Nat):=(if z.2.1=1/\z.2.2=false then [] else [za0 z.2.1])++zb6 z.1
noncomputable def zbs (its:List Ti) : List (List Nat):=zdu [[44]] (its.map zfg)
noncomputable def zbg (w:List Nat) (xs:List (List Nat)) : List (List Nat):=if xs=[] then [] else w::xs
noncomputable def zfw (its:List Ti) (ov:List (List Nat×List Nat)) : List (List Nat):=zbs its++zbg (cw "over") (zbo ov)
noncomputable def pWd : Pa->List (List Nat)
 | .is t=>zb6 t
 | .no t=>cw "not" :: zb6 t
 | .un a b=>[a,cw "unlike",b]
 | .ct w n its ov=>[cw (ctS w),za0 n,cw "of"]++zfw its ov
noncomputable def bWd (bd:List Pa) : List (List Nat):=zdu [cw "and"] (bd.map pWd)
noncomputable def zcg (bd:List Pa) (ps:List (List Nat×List Nat)) : List (List Nat):=zbg (cw "if") (bWd bd)++zbg (cw "for") (zbo ps)
noncomputable def zda : Ro->List (List Nat)
 | .kind n ns=>cw "kind" :: n::ns
 | .never bd ps=>cw "never" :: (bWd bd++zbg (cw "for") (zbo ps))
 | .choose lo hi its ov bd ps=>[cw "choose",za0 lo,cw "to",za0 hi,cw "of"]++(zfw its ov++zcg bd ps)
 | .rule b t bd ps=>cw (ruS b)::(zb6 t++zcg bd ps)
theorem yab : plain (cw "in"):=by unfold plain; decide +kernel
theorem zrx {α : Type} {c:List (List Nat)} {g:α->List (List Nat)} {L:List α} (h:∀ x∈L,g x≠[]) : zdu c (L.map g)=[]↔L=[]:=by
 match L with
 | []=>exact ⟨fun _=>rfl,fun _=>rfl⟩
 | [x]=>exact ⟨fun e=>absurd e (h x List.mem_cons_self),fun e=>by cases e⟩
 | x::y::r =>
  refine ⟨fun e=>?_,fun e=>by cases e⟩;have e' : g x++c++zdu c ((y::r).map g)=[]:=e;have:=(List.append_eq_nil_iff.mp (List.append_eq_nil_iff.mp e').1).1;exact absurd this (h x List.mem_cons_self)
theorem zz1 (p:Pa) : pWd p≠[]:=by
 cases p <;> (intro e; cases e)
theorem yae : plain (cw "not")/\cw "not" ≠ []:=by unfold plain; decide +kernel
theorem yai : plain (cw "unlike")/\cw "unlike" ≠ []:=by unfold plain; decide +kernel
theorem z0l : plain (cw "of")/\cw "of" ≠ []:=by unfold plain; decide +kernel
theorem yah : plain (cw "to")/\cw "to" ≠ []:=by unfold plain; decide +kernel
theorem yaf : plain (cw "over")/\cw "over" ≠ []:=by unfold plain; decide +kernel
theorem yaa : plain (cw "if")/\cw "if" ≠ []:=by unfold plain; decide +kernel
theorem z0k : plain (cw "for")/\cw "for" ≠ []:=by unfold plain; decide +kernel
theorem yac : plain (cw "kind")/\cw "kind" ≠ []:=by unfold plain; decide +kernel
theorem yad : plain (cw "never")/\cw "never" ≠ []:=by unfold plain; decide +kernel
theorem z98 : plain (cw "choose")/\cw "choose" ≠ []:=by unfold plain; decide +kernel
theorem z99 (w:Bool) : plain (cw (ctS w))/\cw (ctS w)≠[]:=by cases w <;> (unfold plain; decide +kernel)
theorem yag (w:Bool) : plain (cw (ruS w))/\cw (ruS w)≠[]:=by cases w <;> (unfold plain; decide +kernel)
noncomputable abbrev rN : List Str:=["words","place"]
noncomputable abbrev fls (W:List (List Nat)) (p:Nat) : List D:=[.lst (wD W),.int ((p:Nat) : Int)]
noncomputable abbrev rd (l:Addr) (W:List (List Nat)) (p:Nat) : Sl:=.pino l "Reader" rN (fls W p)
noncomputable def kR (l:Addr) (W:List (List Nat)) (p:Nat) (d:D) (o:Fl) : Prop:=∃ ρ,(o=.rtS d (rd l W p::ρ)\/(d=.non/\o=.nx (rd l W p::ρ)))
theorem zcb {l:Addr} {W:List (List Nat)} {p:Nat} {d:D} {ρ:List Sl} : kR l W p d (.rtS d (rd l W p::ρ)):=⟨ρ,.inl rfl⟩
theorem zyd {l:Addr} {W:List (List Nat)} {p:Nat} {ρ:List Sl} : kR l W p .non (.nx (rd l W p::ρ)):=⟨ρ,.inr ⟨rfl,rfl⟩⟩
theorem zc2 {N:Nat} {F:List Sl->Option Fl} {l:Addr} {ds xs:List D} {W:List (List Nat)} {p:Nat} {d:D} (w:wp F (zo2 N l "Reader" rN ds xs) (kR l W p d)) : zcq N "Reader" rN F l ds xs=some (fls W p,d):=by
 obtain ⟨o,e,ρ,h⟩:=w;unfold zcq;rw [e,Option.bind_some]
 rcases h with h | ⟨hd,h⟩
 ·subst h;show (zfz l "Reader" rN (rd l W p::ρ)).map (fun ys=>(ys,d))=_;rw [z0i (ys:=fls W p) rfl];rfl
 ·subst h hd;show (zfz l "Reader" rN (rd l W p::ρ)).map (fun ys=>(ys,D.non))=_;rw [z0i (ys:=fls W p) rfl];rfl
theorem ze4 {nm:Str} {m:Addr->List D->List D->Option (List D×D)} {f:Xa} {l:Addr} {W:List (List Nat)} {p q:Nat} {tl tl':List Sl} {ds:List D} {d:D} (hn:rN.contains nm=false) (h1:f (rd l W p::tl)=some (ds,rd l W p::tl')) (h2:m l ds (fls W p)=some (fls W q,d)) : zau 0 "Reader" nm rN m f (rd l W p::tl)=some (d,rd l W q::tl'):=by
 unfold zau;show (if ("Reader" : Str)="Reader" /\ rN=rN/\rN.contains nm=false then (f (rd l W p::tl)).bind _ else none)=_;rw [if_pos ⟨rfl,rfl,hn⟩,h1,Option.bind_some];show (if ("Reader" : Str)="Reader" /\ rN=rN then (m l ds (fls W p)).map _ else none)=_;rw [if_pos ⟨rfl,rfl⟩,h2];rfl
theorem zs6 (l:Addr) (W:List (List Nat)) (p:Nat) (tl:List Sl) : zho 0 "Reader" "words" (rd l W p::tl)=some (.lst (wD W)):=rfl
theorem zxh (l:Addr) (W:List (List Nat)) (p:Nat) (tl:List Sl) : zho 0 "Reader" "place" (rd l W p::tl)=some (.int ((p:Nat) : Int)):=rfl
theorem zvx (l:Addr) (W:List (List Nat)) (p:Nat) (tl:List Sl) : znq 0 "Reader" "place" (fun _=>some (.int 1)) (rd l W p::tl)=some (.nx (rd l W (p + 1)::tl)):=rfl
theorem zmt {f:Xe} {ρ ρ1:List Sl} {b:Bool} (h:f ρ=some (.bl b,ρ1)) : zdw f ρ=some (b,ρ1):=by
 unfold zdw;rw [h];rfl
theorem z74 {f:Xt} {ρ ρ1:List Sl} {b:Bool} (h:f ρ=some (b,ρ1)) : zns f ρ=some (!b,ρ1):=by
 unfold zns;rw [h];rfl
theorem zf8 {t:Xt} {f g:Xe} {ρ ρ1:List Sl} {b:Bool} {r:Option (D×List Sl)} (h:t ρ=some (b,ρ1)) (hT:b=true->f ρ1=r) (hF:b=false->g ρ1=r) : zgy t f g ρ=r:=by
 unfold zgy;rw [h,Option.bind_some]
 cases b with
 | true=>exact hT rfl
 | false=>exact hF rfl
theorem zm5 {m:List D->Option D} {f:Xa} {ρ ρ1:List Sl} {ds:List D} {d:D} (h1:f ρ=some (ds,ρ1)) (h2:m ds=some d) : zen m f ρ=some (d,ρ1):=by
 unfold zen;rw [h1,Option.bind_some,h2];rfl
theorem eqT (a b:List Nat) : dEq (sT a) (sT b)=some (.bl (decide (a=b))):=by
 show some (D.bl (tx a==tx b))=_
 congr 2
 apply Bool.eq_iff_iff.mpr;rw [beq_iff_eq,decide_eq_true_iff];exact ⟨zgm,fun e=>by rw [e]⟩
theorem neT (a b:List Nat) : dNe (sT a) (sT b)=some (.bl (!decide (a=b))):=by
 show some (D.bl (!(tx a==tx b)))=_
 congr 3
 apply Bool.eq_iff_iff.mpr;rw [beq_iff_eq,decide_eq_true_iff];exact ⟨zgm,fun e=>by rw [e]⟩
theorem zyk (W:List (List Nat)) : zcs [.lst (wD W)]=some (.int W.length):=zjc W sT
theorem z32 (l:Addr) (W:List (List Nat)) (p b:Nat) : m_2 l [.int ((b:Nat) : Int)] (fls W p)=some (fls W p,sT (W.getD (p + b) [])):=by
 refine zc2 ?_;unfold b_2;show wp _ [rd l W p,.im (.int ((b:Nat) : Int)),.no] _;apply zaf;refine zgq (zat (zxh l W p _) rfl zfd) ?_;show wp _ [rd l W p,.im (.int ((b:Nat) : Int)),.im (.int ((p:Int) + (b:Int)))] _;refine zc4 (d:=sT (W.getD (p + b) [])) (z2x (b:=decide ((p:Int) + (b:Int) < (W.length : Int))) (zbf (zat rfl (zb0 (za1 (zs6 l W p _) rfl) (zyk W)) zix)) (fun e=>?_) fun e=>?_) zcb
 ·have h:=of_decide_eq_true e;have hl : p + b < W.length:=by omega
  refine zbh (zry (zs6 l W p _) rfl) rfl ?_;unfold atI ixN;rw [if_pos (by omega),if_pos (by unfold wD; rw [List.length_map]; omega),Option.bind_some];have ei : ((p:Int) + (b:Int)).toNat=p + b:=by omega
  unfold wD;rw [ei,List.getElem?_map,List.getElem?_eq_getElem hl,List.getD_eq_getElem?_getD,List.getElem?_eq_getElem hl];rfl
 ·have h:=of_decide_eq_false e;rw [List.getD_eq_getElem?_getD,List.getElem?_eq_none (by omega)];rfl
theorem zfc (l:Addr) (W:List (List Nat)) (p b:Nat) (tl:List Sl) {f:List Sl->Option D} (hf:f (rd l W p::tl)=some (.int ((b:Nat) : Int))) : zau 0 "Reader" "coming" rN m_2 (zac (mX f) zaa) (rd l W p::tl)=some (sT (W.getD (p + b) []),rd l W p::tl):=ze4 rfl (zaq (zap hf) rfl) (z32 l W p b)
theorem zz2 {l:Addr} {W:List (List Nat)} {p:Nat} {z:List Nat} (h:W.getD p []=z) : m_1 l [sT z] (fls W p)=some (fls W (p + 1),.bl true):=by
 refine zc2 ?_;unfold b_1;show wp _ [rd l W p,.im (sT z)] _;apply zaf;refine zd9 (b:=false) (bxX (zb5 (zfc l W p 0 _ rfl) (zap rfl) ((neT _ _).trans (by rw [Nat.add_zero,decide_eq_true h]; rfl)))) (fun e=>by cases e) fun _=>zbb ?_;show wp _ [rd l W p,.im (sT z)] _;apply zaf;refine zio (zvx l W p _) ?_;exact zc4 rfl zcb
theorem z9m {l:Addr} {W:List (List Nat)} {p:Nat} {z:List Nat} (h:W.getD p []≠z) : m_1 l [sT z] (fls W p)=some (fls W p,.bl false):=by
 refine zc2 ?_;unfold b_1;show wp _ [rd l W p,.im (sT z)] _;apply zaf;refine zd9 (b:=true) (bxX (zb5 (zfc l W p 0 _ rfl) (zap rfl) ((neT _ _).trans (by rw [Nat.add_zero,decide_eq_false h]; rfl)))) (fun _=>?_) fun e=>by cases e
 exact zc4 rfl zcb
theorem zor (l:Addr) (W:List (List Nat)) (p:Nat) : m_12 l [] (fls W p)=some (fls W (p + 1),sT (W.getD p [])):=by
 refine zc2 ?_;unfold b_12;show wp _ [rd l W p,.no] _;apply zaf;refine zbu (zfc l W p 0 _ rfl) ?_;show wp _ [rd l W p,.im (sT (W.getD p []))] _;apply zaf;refine zio (zvx l W p _) ?_;exact zc4 rfl zcb
theorem z9l {l:Addr} {W:List (List Nat)} {p:Nat} {z:List Nat} (h:W.getD p []=z) : m_6 l [sT z] (fls W p)=some (fls W (p + 1),.non):=by
 refine zc2 ?_;unfold b_6;show wp _ [rd l W p,.im (sT z)] _;refine zd9 (b:=false) (ρ1:=[rd l W (p + 1),.im (sT z)]) (z74 (b:=true) (zmt (ze4 rfl (zaq (zap rfl) rfl) (zz2 h)))) (fun e=>by cases e) fun _=>zbb zyd
theorem z49 {l:Addr} {W:List (List Nat)} {p:Nat} (h:W.length<=p) : m_49 l [] (fls W p)=some (fls W p,.non):=by
 refine zc2 ?_;unfold b_49;show wp _ [rd l W p] _;refine zba (b:=false) (zbf (zat (zxh l W p _) (zb0 (za1 (zs6 l W p _) rfl) (zyk W)) (zix.trans (by congr 2; exact decide_eq_false (by omega))))) (fun e=>by cases e) fun _=>zbb zyd
noncomputable abbrev hd (ys:List (List Nat)) : List Nat:=ys.headD []
noncomputable def Rds (m:Addr->List D->List D->Option (List D×D)) (bad xs:List (List Nat)) (d:D) : Prop:=∀ l W p post,W.drop p=xs++post->hd post∉bad->m l [] (fls W p)=some (fls W (p + xs.length),d)
theorem zvw {W ys:List (List Nat)} {p:Nat} (h:W.drop p=ys) (b:Nat) : W.getD (p + b) []=ys.getD b []:=by
 rw [<- h,List.getD_eq_getElem?_getD,List.getD_eq_getElem?_getD,List.getElem?_drop]
theorem zo3 {W ys:List (List Nat)} {p:Nat} (h:W.drop p=ys) : W.getD p []=hd ys:=by
 have:=zvw h 0;rw [Nat.add_zero] at this;rw [this]
 cases ys <;> rfl
theorem zfb {W ys:List (List Nat)} {p:Nat} {x:List Nat} (h:W.drop p=x::ys) : W.getD p []=x:=zo3 h
theorem zd6 {W xs post:List (List Nat)} {p:Nat} (h:W.drop p=xs++post) : W.drop (p + xs.length)=post:=by
 rw [<- List.drop_drop,h,List.drop_left]
theorem zei {W post:List (List Nat)} {p:Nat} {x:List Nat} (h:W.drop p=x::post) : W.drop (p + 1)=post:=zd6 (xs:=[x]) h
theorem zcc {m:Addr->List D->List D->Option (List D×D)} {bad xs post:List (List Nat)} {d:D} (R:Rds m bad xs d) {nm:Str} (hn:rN.contains nm=false) {l:Addr} {W:List (List Nat)} {p:Nat} {tl:List Sl} (h:W.drop p=xs++post) (hb:hd post∉bad) : zau 0 "Reader" nm rN m zaa (rd l W p::tl)=some (d,rd l W (p + xs.length)::tl):=ze4 hn rfl (R l W p post h hb)
theorem zk8 {l:Addr} {W post:List (List Nat)} {p:Nat} {tl:List Sl} {z:Str} {x:List Nat} (hz:D.str z=sT x) (h:W.drop p=x::post) : zau 0 "Reader" "must_pass" rN m_6 (zac (mX (fun _=>some (.str z))) zaa) (rd l W p::tl)=some (.non,rd l W (p + 1)::tl):=ze4 rfl (zaq (zap (d:=sT x) (congrArg some hz)) rfl) (z9l (zfb h))
theorem zmw {l:Addr} {W post:List (List Nat)} {p:Nat} {tl:List Sl} {z:Str} {x:List Nat} (hz:D.str z=sT x) (h:W.drop p=x::post) : zdw (zau 0 "Reader" "passes" rN m_1 (zac (mX (fun _=>some (.str z))) zaa)) (rd l W p::tl)=some (true,rd l W (p + 1)::tl):=zmt (ze4 rfl (zaq (zap (d:=sT x) (congrArg some hz)) rfl) (zz2 (zfb h)))
theorem noX {l:Addr} {W post:List (List Nat)} {p:Nat} {tl:List Sl} {z:Str} {x:List Nat} (hz:D.str z=sT x) (h:W.drop p=post) (hx:hd post≠x) : zdw (zau 0 "Reader" "passes" rN m_1 (zac (mX (fun _=>some (.str z))) zaa)) (rd l W p::tl)=some (false,rd l W p::tl):=zmt (ze4 rfl (zaq (zap (d:=sT x) (congrArg some hz)) rfl) (z9m (by rw [zo3 h]; exact hx)))
theorem cmS : D.str ","=sT [44]:=by rw [cmT]
theorem opS : D.str "("=sT [40]:=by rw [opT]
theorem clS : D.str ")"=sT [41]:=by rw [clT]
theorem zjs {w:List Nat} (h:zc1 w=true) : Rds m_3 [] [w] (sT w):=fun l W p post hd _=>by
 have hl:=zqz h;refine zc2 ?_;unfold b_3;show wp _ [rd l W p,.no] _;apply zaf;refine zbu (ze4 (p:=p) rfl rfl (zor l W p)) ?_;rw [zfb hd];show wp _ [rd l W (p + 1),.im (sT w)] _;apply zaf;refine zba (b:=false) (zko (b:=true) (zie (zb0 rfl (z7z w (by omega) (zoz (zjj h)))) (by rw [h]; rfl))) (fun e=>by cases e) fun _=>zbb ?_;exact zc4 rfl zcb
theorem z03 {w:List Nat} (h:zgo w=true) : Rds m_25 [] [w] (sT w):=fun l W p post hd _=>by
 have hl:=z24 h;refine zc2 ?_;unfold b_25;show wp _ [rd l W p,.no] _;apply zaf;refine zbu (ze4 (p:=p) rfl rfl (zor l W p)) ?_;rw [zfb hd];show wp _ [rd l W (p + 1),.im (sT w)] _;apply zaf;refine zba (b:=false) (zko (b:=true) (zie (zb0 rfl (z22 w (by omega) (zoz (z23 h)))) (by rw [h]; rfl))) (fun e=>by cases e) fun _=>zbb ?_;exact zc4 rfl zcb
theorem zrm {n:Int} (h:zdy n) : Rds m_14 [] [za0 n] (.int n):=fun l W p post hd _=>by
 have hl:=zq2 h;refine zc2 ?_;unfold b_14;show wp _ [rd l W p,.no] _;apply zaf;refine zbu (ze4 (p:=p) rfl rfl (zor l W p)) ?_;rw [zfb hd];show wp _ [rd l W (p + 1),.im (sT (za0 n))] _;apply zaf;refine zba (b:=false) (zko (b:=true) (zie (zb0 rfl (zti (za0 n) (by omega) (zy9 n))) (by rw [zza h]; rfl))) (fun e=>by cases e) fun _=>zbb ?_;exact zc4 (d:=.int n) (show zm6 (sT (za0 n))=_ from z76 h) zcb
theorem zus {w:List Nat} (h:zc5 w=true) : Rds m_19 [] [w] (sT w):=fun l W p post hd hb=>by
 have hl:=zo0 h;refine zc2 ?_;unfold b_19;show wp _ [rd l W p] _;refine zbx (d:=sT w) (ρ1:=[rd l W (p + 1)]) (zf8 (b:=zgo w) (ρ1:=[rd l W p]) (zmt (zm5 (zaq (zfc l W p 0 [] rfl) rfl) ?_)) (fun e=>?_) fun e=>?_) zcb
 ·rw [Nat.add_zero,zfb hd];exact z22 w (by omega) (zoz h)
 ·exact zcc (z03 e) rfl hd hb
 ·unfold zc5 at h;rw [e,Bool.false_or] at h;exact zcc (zjs h) rfl hd hb
theorem ybi {q:List Nat×List Nat} (h:ze9 q) : Rds m_31 [] (zd2 q) (prD q):=fun l W p post hd hb=>by
 have h0 : W.drop p=[q.1]++(cw "in" :: q.2::post):=hd;have h1:=zd6 h0;have h2:=zei h1;refine zc2 ?_;unfold b_31;show wp _ [rd l W p,.no] _;apply zaf;refine zbu (zcc (z03 h.1) rfl h0 (by simp)) ?_;show wp _ [rd l W (p + 1),.im (sT q.1)] _;apply zaf;refine zjx (zk8 (cwD "in") h1) ?_;show wp _ [rd l W (p + 1 + 1),.im (sT q.1)] _;exact zbx (zdf (zaq (zap rfl) (zaq (zcc (zjs h.2) rfl (post:=post) h2 (by simp)) rfl))) zcb
noncomputable def tlW {α : Type} (c:List Nat) (g:α->List (List Nat)) (L:List α) : List (List Nat):=L.flatMap fun x=>c::g x
theorem zju {α : Type} (c:List Nat) (g:α->List (List Nat)) : ∀ (x:α) (L:List α),zdu [c] ((x::L).map g)=g x++tlW c g L
 | x,[]=>by show g x=g x++[]; rw [List.append_nil]
 | x,y::L=>by
  show g x++[c]++zdu [c] ((y::L).map g)=g x++(c::g y++tlW c g L);rw [zju c g y L];simp
section
variable {α : Type} {m:Addr->List D->List D->Option (List D×D)} {nm:Str} {g:α->List (List Nat)} {toD:α->D} {bad:List (List Nat)} {c:List Nat} {cs:Str} {l:Addr} {W:List (List Nat)}
theorem zyr (hn:rN.contains nm=false) (hz:D.str cs=sT c) (hc:c∉bad) {post:List (List Nat)} (hb:hd post∉bad) (hp:hd post≠c) : ∀ (L:List α) (n p:Nat) (acc:List D),(∀ x∈L,Rds m bad (g x) (toD x))->L.length < n->acc.length + L.length<=1000->W.drop p=tlW c g L++post ->
  zdx (zdw (zau 0 "Reader" "passes" rN m_1 (zac (mX (fun _=>some (.str cs))) zaa))) (zer 1 (zau 0 "Reader" nm rN m zaa)) n [rd l W p,.own acc]=some (.nx [rd l W (p + (tlW c g L).length),.own (acc++L.map toD)])
 | [],n + 1,p,acc,_,_,_,h=>by
  unfold zdx;rw [noX hz h hp,Option.bind_some];show some (Fl.nx [rd l W p,.own acc])=some (Fl.nx [rd l W (p + 0),.own (acc++[])])
  rw [List.append_nil,Nat.add_zero]
 | x::L,n + 1,p,acc,hR,hl,ha,h=>by
  have h0 : W.drop p=c::(g x++(tlW c g L++post)):=by
   rw [h];show (c::g x++tlW c g L)++post=_;simp
  have h1:=zei h0;have h2:=zd6 h1
  have hbad : hd (tlW c g L++post)∉bad:=by
   cases L with
   | nil=>exact hb
   | cons y L=>exact hc
  have ih:=zyr hn hz hc hb hp L n (p + 1 + (g x).length) (acc++[toD x]) (fun y hy=>hR y (List.mem_cons_of_mem _ hy)) (by simp only [List.length_cons] at hl; omega) (by simp only [List.length_cons,List.length_append,List.length_nil] at ha ⊢; omega) h2;obtain ⟨o,eo,ko⟩:=zvk (i:=1) (ρ:=[rd l W (p + 1),.own acc]) (K:=fun o=>o=.nx [rd l W (p + 1 + (g x).length),.own (acc++[toD x])]) rfl (zcc (hR x List.mem_cons_self) hn (tl:=[.own acc]) h1 hbad) (xs:=acc) rfl (by simp only [List.length_cons] at ha; omega) rfl;subst ko;unfold zdx;rw [zmw hz h0,Option.bind_some];show (zer 1 (zau 0 "Reader" nm rN m zaa) [rd l W (p + 1),.own acc]).bind _=_;rw [eo,Option.bind_some];show zdx _ _ n [rd l W (p + 1 + (g x).length),.own (acc++[toD x])]=_;rw [ih]
  have e1 : (tlW c g (x::L)).length=1 + (g x).length + (tlW c g L).length:=by
   show (c::g x++tlW c g L).length=_;simp only [List.length_append,List.length_cons];omega
  rw [e1,List.map_cons,List.append_assoc];have e2 : p + 1 + (g x).length + (tlW c g L).length=p + (1 + (g x).length + (tlW c g L).length):=by omega
  rw [e2];rfl
theorem zp5 {zbp:List Sl->Option Fl} {K:Fl->Prop} {p:Nat} {post:List (List Nat)} (L:List α) (hn:rN.contains nm=false) (hz:D.str cs=sT c) (hc:c∉bad) (hb:hd post∉bad) (hp:hd post≠c) (hR:∀ x∈L,Rds m bad (g x) (toD x)) (hL:L≠[]) (hl:L.length<=900) (h:W.drop p=zdu [c] (L.map g)++post) (k:wp zbp [rd l W (p + (zdu [c] (L.map g)).length),.own (L.map toD)] K) :
  wp (zah (zgz 1 (zau 0 "Reader" nm rN m zaa)) (zah (zdx (zdw (zau 0 "Reader" "passes" rN m_1 (zac (mX (fun _=>some (.str cs))) zaa))) (zer 1 (zau 0 "Reader" nm rN m zaa)) 1000000000) zbp)) [rd l W p,.no] K:=by
 cases L with
 | nil=>exact absurd rfl hL
 | cons x L =>
  rw [zju] at h k;rw [List.append_assoc] at h;have h2:=zd6 h
  have hbad : hd (tlW c g L++post)∉bad:=by
   cases L with
   | nil=>exact hb
   | cons y L=>exact hc
  apply zaf;refine zio (o:=.nx [rd l W (p + (g x).length),.own [toD x]]) ?_ ?_
  ·unfold zgz;rw [zcc (hR x List.mem_cons_self) hn (tl:=[.no]) h hbad];rfl
  ·show wp _ [rd l W (p + (g x).length),.own [toD x]] _;apply zaf;refine zio (zyr hn hz hc hb hp L 1000000000 (p + (g x).length) [toD x] (fun y hy=>hR y (List.mem_cons_of_mem _ hy)) (by simp only [List.length_cons] at hl; omega) (by simp only [List.length_cons,List.length_nil] at hl ⊢; omega) h2) ?_;rw [List.length_append,<- Nat.add_assoc] at k;exact k
end
theorem zoa {l:Addr} {W:List (List Nat)} {p:Nat} {ds:List D} : zpv 1 [rd l W p,.own ds]=[rd l W p,.im (.lst ds)]:=rfl
theorem zo4 (xs:List D) (n:Nat) (h:xs.length<=n) : zkw [.lst xs,.int ((n:Nat) : Int)]=some (.lst xs):=by
 apply zg6;unfold b_16;show wp _ [.im (.lst xs),.im (.int ((n:Nat) : Int))] _;apply zaf;refine zba (b:=false) (zbf (zat (zb0 rfl (show zcs [.lst xs]=some (.int xs.length) from rfl)) rfl (zj4.trans (by congr 2; exact decide_eq_false (by omega))))) (fun e=>by cases e) fun _=>zbb ?_;exact z29 rfl (zfr rfl)
theorem z02 {ps:List (List Nat×List Nat)} (h:∀ q∈ps,ze9 q) (hn:ps≠[]) (hl:ps.length<=900) : Rds m_30 [[44]] (zbo ps) (.lst (ps.map prD)):=fun l W p post hd hb=>by
 refine zc2 ?_;unfold b_30;show wp _ [rd l W p,.no] _;refine zp5 (c:=[44]) (g:=zd2) (toD:=prD) (bad:=[]) ps rfl cmS (by simp) (by simp) (fun e=>hb (by rw [e]; exact List.mem_singleton.mpr rfl)) (fun x hx=>ybi (h x hx)) hn hl hd ?_;refine zg4 zoa ?_;exact zc4 rfl zcb
theorem zqx {bad xs q:List (List Nat)} {w:List Nat} (h1:w∉bad) (h2:hd q∉bad) : hd (zbg w xs++q)∉bad:=by
 unfold zbg;split
 ·exact h2
 ·exact h1
theorem z0n {ps:List (List Nat×List Nat)} : zbo ps=[]↔ps=[]:=zrx fun _ _ e=>by cases e
theorem zvy {bd:List Pa} : bWd bd=[]↔bd=[]:=zrx fun p _=>zz1 p
theorem z0z {ps:List (List Nat×List Nat)} (h:zeq ps) : Rds m_20 [cw "for",[44]] (zbg (cw "for") (zbo ps)) (.lst (ps.map prD)):=fun l W p post hd hb=>by
 refine zc2 ?_;unfold b_20;show wp _ [rd l W p] _
 by_cases e : ps=[]
 ·subst e;exact zbx (zf8 (b:=false) (noX (cwD "for") (show W.drop p=post from hd) fun z=>hb (by rw [z]; exact List.mem_cons_self)) (fun e=>by cases e) fun _=>zap rfl) zcb
 ·have e1 : zbg (cw "for") (zbo ps)=cw "for" :: zbo ps:=if_neg fun z=>e (z0n.mp z);rw [e1] at hd ⊢;have h1:=zei (show W.drop p=cw "for" :: (zbo ps++post) from hd);refine zbx (zf8 (b:=true) (zmw (cwD "for") hd) (fun _=>zm5 (zaq (zcc (z02 h.1 e (by have:=h.2; omega)) rfl h1 fun z=>hb (List.mem_cons_of_mem _ z)) (zaq (zap rfl) rfl)) (zo4 _ 3 (by rw [List.length_map]; exact h.2))) fun e=>by cases e) ?_;rw [List.length_cons,show p + ((zbo ps).length + 1)=p + 1 + (zbo ps).length by omega];exact zcb
theorem z01 {ps:List (List Nat×List Nat)} (h:(∀ p∈ps,ze9 p)/\ps.length<=2) : Rds m_37 [cw "over",[44]] (zbg (cw "over") (zbo ps)) (.lst (ps.map prD)):=fun l W p post hd hb=>by
 refine zc2 ?_;unfold b_37;show wp _ [rd l W p] _
 by_cases e : ps=[]
 ·subst e;exact zbx (zf8 (b:=false) (noX (cwD "over") (show W.drop p=post from hd) fun z=>hb (by rw [z]; exact List.mem_cons_self)) (fun e=>by cases e) fun _=>zap rfl) zcb
 ·have e1 : zbg (cw "over") (zbo ps)=cw "over" :: zbo ps:=if_neg fun z=>e (z0n.mp z);rw [e1] at hd ⊢;have h1:=zei (show W.drop p=cw "over" :: (zbo ps++post) from hd);refine zbx (zf8 (b:=true) (zmw (cwD "over") hd) (fun _=>zm5 (zaq (zcc (z02 h.1 e (by have:=h.2; omega)) rfl h1 fun z=>hb (List.mem_cons_of_mem _ z)) (zaq (zap rfl) rfl)) (zo4 _ 2 (by rw [List.length_map]; exact h.2))) fun e=>by cases e) ?_;rw [List.length_cons,show p + ((zbo ps).length + 1)=p + 1 + (zbo ps).length by omega];exact zcb
theorem ybb {as:List (List Nat)} (h:∀ a∈as,zc5 a=true) (hn:as≠[]) (hl:as.length<=3) : Rds m_44 [] (zdu [[44]] (as.map fun a=>[a])++[[41]]) (.lst (as.map sT)):=fun l W p post hd hb=>by
 have h0 : W.drop p=zdu [[44]] (as.map fun a=>[a])++([41]::post):=by rw [hd]; simp
 have h1:=zd6 h0;refine zc2 ?_;unfold b_44;show wp _ [rd l W p,.no] _;refine zp5 (c:=[44]) (g:=fun a=>[a]) (toD:=sT) (bad:=[]) (post:=[41]::post) as rfl cmS (by simp) (by simp) (show ([41] : List Nat)≠[44] by decide) (fun x hx=>zus (h x hx)) hn (by omega) h0 ?_;apply zaf;refine zjx (zk8 clS h1) ?_;show wp _ [rd l W (p + (zdu [[44]] (as.map fun a=>[a])).length + 1),.own (as.map sT)] _;refine zg4 zoa ?_;refine zc4 (zb0 (za1 rfl (za1 rfl rfl)) (zo4 _ 3 (by rw [List.length_map]; exact hl))) ?_;rw [List.length_append,List.length_singleton,<- Nat.add_assoc];exact zcb
theorem zrn {t:Th} (h:zeh t) : Rds m_13 [[40]] (zb6 t) (thD t):=fun l W p post hd hb=>by
 obtain ⟨h1,h2,h3⟩:=h;refine zc2 ?_;unfold b_13;show wp _ [rd l W p,.no] _;unfold zb6 at hd ⊢;apply zaf
 by_cases e : t.2=[]
 ·rw [if_pos e] at hd ⊢;refine zbu (zcc (zjs h1) rfl (show W.drop p=[t.1]++post from hd) (by simp)) ?_;show wp _ [rd l W (p + 1),.im (sT t.1)] _;have h4:=zei (show W.drop p=t.1::post from hd);refine zbx (d:=thD t) (zdf (zaq (zap rfl) (zaq (zf8 (b:=false) (r:=some (.lst (t.2.map sT),[rd l W (p + 1),.im (sT t.1)])) (noX opS h4 fun z=>hb (by rw [z]; exact List.mem_cons_self)) (fun e=>by cases e) fun _=>by rw [e]; exact zap rfl) rfl))) zcb
 ·rw [if_neg e] at hd ⊢;have h4 : W.drop p=[t.1]++([40]::(zdu [[44]] (t.2.map fun a=>[a])++[[41]]++post)):=by rw [hd]; rfl
  have h5:=zd6 h4;have h6:=zei h5;refine zbu (zcc (zjs h1) rfl h4 (by simp)) ?_;show wp _ [rd l W (p + 1),.im (sT t.1)] _;refine zbx (d:=thD t) (zdf (zaq (zap rfl) (zaq (zf8 (b:=true) (zmw opS h5) (fun _=>zcc (ybb h2 e h3) rfl h6 (by simp)) fun e=>by cases e) rfl))) ?_;have e2 : ∀ q : Nat,p + (q + 1 + 1)=p + 1 + 1 + q:=fun q=>by omega
  rw [List.length_cons,List.length_cons,e2];exact zcb
theorem ybf {z:Ti} (h:zcy z) : Rds m_29 [[40]] (zfg z) (zce z):=fun l W p post hd hb=>by
 obtain ⟨h1,h2⟩:=h;refine zc2 ?_;unfold b_29;show wp _ [rd l W p,.no] _;unfold zfg at hd ⊢;apply zaf
 have hnn : ∀ q : Nat,wp (zah (zb2 (mB (m2 dLt (zab 1) (fun _=>some (.int 0)))) (fun _=>none) zbl) (zbw (zcw (zac (zau 0 "Reader" "read_thing" rN m_13 zaa) (zac (mX (zab 1)) zaa))))) [rd l W q,.im (.int z.2.1)] (kR l W (q + (zb6 z.1).length) (zce z))\/¬ W.drop q=zb6 z.1++post:=fun q=>by
  by_cases hq : W.drop q=zb6 z.1++post
  ·left;apply zaf;refine zba (b:=false) (zbf (zat rfl rfl (zix.trans (by congr 2; exact decide_eq_false (by omega))))) (fun e=>by cases e) fun _=>zbb ?_;exact zbx (zdf (zaq (zcc (zrn h1) rfl hq hb) (zaq (zap rfl) rfl))) zcb
  ·exact .inr hq
 by_cases e : z.2.1=1/\z.2.2=false
 ·rw [if_pos e,List.nil_append] at hd ⊢;have hw : W.getD p []=z.1.1:=zfb (show W.drop p=z.1.1::_ from hd);have hl:=zqz h1.1;refine zbu (zf8 (b:=false) (r:=some (.int z.2.1,[rd l W p,.no])) (zmt (zm5 (zaq (zfc l W p 0 [.no] rfl) rfl) ?_)) (fun e=>by cases e) fun _=>by rw [e.1]; exact zap rfl) ?_
  ·rw [Nat.add_zero,hw,zti _ (by omega) (zoz (zjj h1.1)),z70 h1.1]
  ·exact (hnn p).resolve_right fun q=>q hd
 ·rw [if_neg e] at hd ⊢;have hN : zdy z.2.1:=⟨by have h5 : (0 : Int) < 10 ^ 30:=(by decide); omega,h2.2⟩;have hl:=zq2 hN;have h4 : W.drop p=[za0 z.2.1]++(zb6 z.1++post):=by rw [hd]; rfl
  have h5:=zd6 h4;refine zbu (zf8 (b:=true) (r:=some (.int z.2.1,[rd l W (p + 1),.no])) (zmt (zm5 (zaq (zfc l W p 0 [.no] rfl) rfl) ?_)) (fun _=>zcc (zrm hN) rfl h4 (by simp)) fun e=>by cases e) ?_
  ·rw [Nat.add_zero,zfb (show W.drop p=za0 z.2.1::_ from h4),zti _ (by omega) (zy9 _),zza hN]
  ·have:=(hnn (p + 1)).resolve_right fun q=>q h5;rw [List.length_append,List.length_singleton,<- Nat.add_assoc];exact this
theorem z00 {its:List Ti} (h:∀ z∈its,zcy z) (hn:its≠[]) (hl:its.length<=900) : Rds m_28 [[40],[44]] (zbs its) (.lst (its.map zce)):=fun l W p post hd hb=>by
 refine zc2 ?_;unfold b_28;show wp _ [rd l W p,.no] _;refine zp5 (c:=[44]) (g:=zfg) (toD:=zce) (bad:=[[40]]) its rfl cmS (by decide) (fun z=>hb ?_) (fun e=>hb (by rw [e]; decide)) (fun x hx=>ybf (h x hx)) hn hl hd ?_
 ·rw [List.mem_singleton.mp z]; decide
 refine zg4 zoa ?_;exact zc4 rfl zcb
theorem zzz : cw "over" ∉ ([[40],[44]] : List (List Nat)):=by decide +kernel
theorem ybd {w:Bool} {n:Int} {its:List Ti} {ov:List (List Nat×List Nat)} (h:zdg (.ct w n its ov)) : Rds m_39 [[40],[44],cw "over"] (pWd (.ct w n its ov)) (Pa.toD (.ct w n its ov)):=fun l W p post hd hb=>by
 obtain ⟨h1,h2,h3,h4,h5⟩:=(show zdy n/\(∀ z∈its,zcy z)/\(0 < its.length/\its.length<=9)/\(∀ p∈ov,ze9 p)/\ov.length<=2 from h);have hn : its≠[]:=fun e=>by rw [e] at h3; exact absurd h3.1 (by decide)
 have d0 : W.drop p=cw (ctS w)::([za0 n]++(cw "of" :: (zbs its++(zbg (cw "over") (zbo ov)++post)))):=by
  rw [hd];show [cw (ctS w),za0 n,cw "of"]++(zbs its++zbg (cw "over") (zbo ov))++post=_;simp
 have d1:=zei d0;have d2:=zd6 d1;have d3:=zei d2;have d4:=zd6 d3;refine zc2 ?_;unfold b_39;show wp _ [rd l W p,.no,.no] _;apply zaf;refine zbu (ze4 (p:=p) rfl rfl (zor l W p)) ?_;rw [zfb d0];show wp _ [rd l W (p + 1),.im (sT (cw (ctS w))),.no] _;apply zaf;refine zbu (zcc (zrm h1) rfl d1 (by simp)) ?_;show wp _ [rd l W (p + 1 + 1),.im (sT (cw (ctS w))),.im (.int n)] _;apply zaf;refine zjx (zk8 (cwD "of") d2) ?_;show wp _ [rd l W (p + 1 + 1 + 1),.im (sT (cw (ctS w))),.im (.int n)] _;refine zbx (d:=Pa.toD (.ct w n its ov)) (ρ1:=[rd l W (p + 1 + 1 + 1 + (zbs its).length + (zbg (cw "over") (zbo ov)).length),.im (sT (cw (ctS w))),.im (.int n)]) ((zdf (zaq (zap rfl) (zaq (zap rfl) (zaq (zcc (z00 h2 hn (by omega)) rfl d3 (zqx zzz fun z=>hb ?_)) (zaq (zcc (z01 ⟨h4,h5⟩) rfl d4 fun z=>hb ?_) rfl))))).trans ?_) ?_
 ·rcases List.mem_cons.mp z with e | e
  ·rw [e]; simp
  ·rw [List.mem_singleton.mp e]; simp
 ·rcases List.mem_cons.mp z with e | e
  ·rw [e]; simp
  ·rw [List.mem_singleton.mp e]; simp
 ·show some (D.tup [sT (cw (ctS w)),.int n,.lst (its.map zce),.lst (ov.map prD)],_)=some (D.tup [.str (ctS w),.int n,.lst (its.map zce),.lst (ov.map prD)],_);rw [<- cwD];rfl
 ·have e : p + (pWd (.ct w n its ov)).length=p + 1 + 1 + 1 + (zbs its).length + (zbg (cw "over") (zbo ov)).length:=by
   show p + ([cw (ctS w),za0 n,cw "of"]++(zbs its++zbg (cw "over") (zbo ov))).length=_;simp only [List.length_append,List.length_cons,List.length_nil];omega
  rw [e];exact zcb
theorem z6w : ∀ k∈kpW,k≠[]/\∀ x∈k,97<=x:=by decide +kernel
theorem zj0 {w k:List Nat} (h:zc5 w=true) (hk:k∈kpW) : w≠k:=fun e=>by
 subst e;unfold zc5 at h;rw [Bool.or_eq_true] at h
 rcases h with h | h
 ·obtain ⟨_,c,r,rfl,hc⟩:=z25 h;have:=(z6w _ hk).2 c List.mem_cons_self;omega
 ·unfold zc1 at h;rw [Bool.and_eq_true] at h;have : kept w=true:=List.any_eq_true.mpr ⟨w,hk,beq_self_eq_true _⟩;rw [this] at h;exact absurd h.2 (by decide)
theorem zyh : cw "not" ∈ kpW:=by decide +kernel
theorem zyf : cw "least" ∈ kpW:=by decide +kernel
theorem zyg : cw "most" ∈ kpW:=by decide +kernel
theorem zxr {w:List Nat} (h1:w≠cw "least") (h2:w≠cw "most") : dIn (sT w) (.tup [.str "least",.str "most"])=some (.bl false):=by
 have a : (("least" : Str)==tx w)=false:=beq_eq_false_iff_ne.mpr fun e=>h1 (zgm (e.symm.trans (cwT "least")));have b : (("most" : Str)==tx w)=false:=beq_eq_false_iff_ne.mpr fun e=>h2 (zgm (e.symm.trans (cwT "most")));show some (D.bl ((("least" : Str)==tx w) || ((("most" : Str)==tx w) || false)))=_;rw [a,b];rfl
theorem z56 (b:Bool) : dIn (sT (cw (ctS b))) (.tup [.str "least",.str "most"])=some (.bl true):=by
 rw [<- cwD]
 cases b <;> rfl
theorem ybk {a b:List Nat} (h1:zc5 a=true) (h2:zc5 b=true) : Rds m_45 [] [a,cw "unlike",b] (Pa.toD (.un a b)):=fun l W p post hd hb=>by
 have d0 : W.drop p=[a]++(cw "unlike" :: ([b]++post)):=hd;have d1:=zd6 d0;have d2:=zei d1;refine zc2 ?_;unfold b_45;show wp _ [rd l W p,.no] _;apply zaf;refine zbu (zcc (zus h1) rfl d0 (by simp)) ?_;show wp _ [rd l W (p + 1),.im (sT a)] _;apply zaf;refine zjx (zk8 (cwD "unlike") d1) ?_;show wp _ [rd l W (p + 1 + 1),.im (sT a)] _;exact zbx (zdf (zaq (zap rfl) (zaq (zap rfl) (zaq (zcc (zus h2) rfl d2 hb) rfl)))) zcb
noncomputable abbrev bdP : List (List Nat):=[[40],[44],cw "over",cw "unlike"]
theorem yd4 : ([40] : List Nat)≠cw "unlike":=by decide +kernel
theorem z39 (w:Bool) : cw (ctS w)≠cw "not":=by cases w <;> decide +kernel
theorem ybj {q:Pa} (h:zdg q) : Rds m_36 bdP (pWd q) q.toD:=fun l W p post hd hb=>by
 refine zc2 ?_;unfold b_36;show wp _ [rd l W p] _;apply zaf
 cases q with
 | no t =>
  have d0 : W.drop p=cw "not" :: (zb6 t++post):=hd;have d1:=zei d0;refine zd9 (b:=true) (zmw (cwD "not") d0) (fun _=>?_) fun e=>by cases e
  refine zbx (zdf (zaq (zap rfl) (zaq (zcc (zrn (show zeh t from h)) rfl d1 fun z=>hb (by rw [List.mem_singleton.mp z]; exact List.mem_cons_self)) rfl))) ?_;show kR l W (p + ((zb6 t).length + 1)) _ _;rw [show p + ((zb6 t).length + 1)=p + 1 + (zb6 t).length by omega]
  exact zcb
 | ct w n its ov =>
  have d0 : W.drop p=cw (ctS w)::([za0 n,cw "of"]++zfw its ov++post):=hd;refine zd9 (b:=false) (noX (cwD "not") d0 (z39 w)) (fun e=>by cases e) fun _=>zbb ?_;show wp _ [rd l W p] _;apply zaf;refine zd9 (b:=true) (ρ1:=[rd l W p]) (bxX (zb5 (zfc l W p 0 [] rfl) (zap rfl) (by rw [Nat.add_zero,zfb d0]; exact z56 w))) (fun _=>?_) fun e=>by cases e
  refine zbx (zcc (ybd h) rfl hd fun z=>hb ?_) zcb
  rcases List.mem_cons.mp z with e | z
  ·rw [e]; simp
  rcases List.mem_cons.mp z with e | z
  ·rw [e]; simp
  ·rw [List.mem_singleton.mp z]; simp
 | un a b =>
  obtain ⟨h1,h2⟩:=(show zc5 a=true/\zc5 b=true from h);have d0 : W.drop p=a::(cw "unlike" :: b::post):=hd;refine zd9 (b:=false) (noX (cwD "not") d0 (zj0 h1 zyh)) (fun e=>by cases e) fun _=>zbb ?_;show wp _ [rd l W p] _;apply zaf;refine zd9 (b:=false) (ρ1:=[rd l W p]) (bxX (zb5 (zfc l W p 0 [] rfl) (zap rfl) (by rw [Nat.add_zero,zfb d0]; exact zxr (zj0 h1 zyf) (zj0 h1 zyg)))) (fun e=>by cases e) fun _=>zbb ?_;show wp _ [rd l W p] _;apply zaf;refine zd9 (b:=true) (ρ1:=[rd l W p]) (bxX (zb5 (zfc l W p 1 [] rfl) (zap (d:=sT (cw "unlike")) (congrArg some (cwD "unlike"))) ((eqT _ _).trans (by rw [zvw d0 1]; exact congrArg (fun b=>some (D.bl b)) (decide_eq_true rfl))))) (fun _=>?_) fun e=>by cases e
  exact zbx (zcc (ybk h1 h2) rfl hd (by simp)) zcb
 | is t =>
  have ht : zeh t:=h;have hn:=zjj ht.1;have d0 : W.drop p=t.1::((if t.2=[] then [] else [40]::(zdu [[44]] (t.2.map fun a=>[a])++[[41]]))++post):=hd;refine zd9 (b:=false) (noX (cwD "not") d0 (zj0 hn zyh)) (fun e=>by cases e) fun _=>zbb ?_;show wp _ [rd l W p] _;apply zaf;refine zd9 (b:=false) (ρ1:=[rd l W p]) (bxX (zb5 (zfc l W p 0 [] rfl) (zap rfl) (by rw [Nat.add_zero,zfb d0]; exact zxr (zj0 hn zyf) (zj0 hn zyg)))) (fun e=>by cases e) fun _=>zbb ?_;show wp _ [rd l W p] _;apply zaf
  have hu : W.getD (p + 1) []≠cw "unlike":=by
   rw [zo3 (zei d0)];split
   ·exact fun z=>hb (by rw [show N_k74.hd post=cw "unlike" from z]; simp)
   ·exact yd4
  refine zd9 (b:=false) (ρ1:=[rd l W p]) (bxX (zb5 (zfc l W p 1 [] rfl) (zap (d:=sT (cw "unlike")) (congrArg some (cwD "unlike"))) ((eqT _ _).trans (by rw [decide_eq_false hu])))) (fun e=>by cases e) fun _=>zbb ?_;show wp _ [rd l W p] _;exact zbx (zdf (zaq (zap rfl) (zaq (zcc (zrn ht) rfl (show W.drop p=zb6 t++post from hd) fun z=>hb (by rw [List.mem_singleton.mp z]; exact List.mem_cons_self)) rfl))) zcb
noncomputable abbrev bdB : List (List Nat):=[cw "and",[40],[44],cw "over",cw "unlike"]
theorem z3i : cw "and" ∉ bdP:=by decide +kernel
theorem z0x {bd:List Pa} (h:zdm bd) (hn:bd≠[]) : Rds m_27 bdB (bWd bd) (.lst (bd.map Pa.toD)):=fun l W p post hd hb=>by
 refine zc2 ?_;unfold b_27;show wp _ [rd l W p,.no] _;refine zp5 (c:=cw "and") (g:=pWd) (toD:=Pa.toD) (bad:=bdP) bd rfl (cwD "and") z3i (fun z=>hb (List.mem_cons_of_mem _ z)) (fun e=>hb (by rw [e]; exact List.mem_cons_self)) (fun x hx=>ybj (h.1 x hx)) hn (by have:=h.2; omega) hd ?_;refine zg4 zoa ?_;exact zc4 rfl zcb
theorem ybe {bd:List Pa} (h:zdm bd) : Rds m_26 (cw "if" :: bdB) (zbg (cw "if") (bWd bd)) (.lst (bd.map Pa.toD)):=fun l W p post hd hb=>by
 refine zc2 ?_;unfold b_26;show wp _ [rd l W p] _
 by_cases e : bd=[]
 ·subst e;exact zbx (zf8 (b:=false) (noX (cwD "if") (show W.drop p=post from hd) fun z=>hb (by rw [z]; exact List.mem_cons_self)) (fun e=>by cases e) fun _=>zap rfl) zcb
 ·have e1 : zbg (cw "if") (bWd bd)=cw "if" :: bWd bd:=if_neg fun z=>e (zvy.mp z);rw [e1] at hd ⊢;have h1:=zei (show W.drop p=cw "if" :: (bWd bd++post) from hd);refine zbx (zf8 (b:=true) (zmw (cwD "if") hd) (fun _=>zcc (z0x h e) rfl h1 fun z=>hb (List.mem_cons_of_mem _ z)) fun e=>by cases e) ?_;rw [List.length_cons,show p + ((bWd bd).length + 1)=p + 1 + (bWd bd).length by omega];exact zcb
theorem z5j : cw "for" ∉ (cw "if" :: bdB):=by decide +kernel
theorem z48 (bd:List Pa) (ps:List (List Nat×List Nat)) : hd (zcg bd ps)=cw "if" \/ hd (zcg bd ps)=cw "for" \/ hd (zcg bd ps)=[]:=by
 unfold zcg zbg;split
 ·split
  ·exact .inr (.inr rfl)
  ·exact .inr (.inl rfl)
 ·exact .inl rfl
theorem zxe (bd:List Pa) (ps:List (List Nat×List Nat)) : hd (zcg bd ps)∉bdB:=by
 rcases z48 bd ps with e | e | e <;> (rw [e]; decide +kernel)
theorem z0y {bd:List Pa} {ps:List (List Nat×List Nat)} (h:zdm bd) (h2:zeq ps) {l:Addr} {W:List (List Nat)} {p:Nat} {tl:List Sl} (hd:W.drop p=zcg bd ps) :
  zac (zau 0 "Reader" "read_if" rN m_26 zaa) (zac (zau 0 "Reader" "read_for" rN m_20 zaa) zaa) (rd l W p::tl)=some ([.lst (bd.map Pa.toD),.lst (ps.map prD)],rd l W (p + (zcg bd ps).length)::tl):=by
 have d0 : W.drop p=zbg (cw "if") (bWd bd)++(zbg (cw "for") (zbo ps)++[]):=by rw [hd,List.append_nil]; rfl
 have d1:=zd6 d0;have e : p + (zcg bd ps).length=p + (zbg (cw "if") (bWd bd)).length + (zbg (cw "for") (zbo ps)).length:=by unfold zcg; rw [List.length_append,Nat.add_assoc]
 rw [e];exact zaq (zcc (ybe h) rfl d0 (zqx z5j (by decide +kernel))) (zaq (zcc (z0z h2) rfl d1 (by decide +kernel)) rfl)
theorem zy5 {l:Addr} {W:List (List Nat)} : ∀ (L:List (List Nat)) (n p:Nat) (acc:List D),(∀ x∈L,zc1 x=true)->L.length < n->acc.length + L.length<=1000->W.drop p=L ->
  zdx (mBX (mX2 dNe (zau 0 "Reader" "coming" rN m_2 (zac (mX (fun _=>some (.int 0))) zaa)) (mX (fun _=>some (.str ""))))) (zer 1 (zau 0 "Reader" "read_name" rN m_3 zaa)) n [rd l W p,.own acc]=some (.nx [rd l W (p + L.length),.own (acc++L.map sT)])
 | [],n + 1,p,acc,_,_,_,h=>by
  unfold zdx;rw [bxX (b:=false) (ρ':=[rd l W p,.own acc]) (zb5 (zfc l W p 0 [.own acc] rfl) (zap (d:=sT []) rfl) ((neT _ _).trans (by rw [Nat.add_zero,zo3 h]; rfl))),Option.bind_some];show some (Fl.nx [rd l W p,.own acc])=some (Fl.nx [rd l W (p + 0),.own (acc++[])])
  rw [List.append_nil,Nat.add_zero]
 | x::L,n + 1,p,acc,hR,hl,ha,h=>by
  have h2:=zei h;have hx:=hR x List.mem_cons_self;have hne : x≠[]:=fun e=>by have:=(zqz hx).1; rw [e] at this; exact absurd this (by decide)
  have ih:=zy5 (l:=l) L n (p + 1) (acc++[sT x]) (fun y hy=>hR y (List.mem_cons_of_mem _ hy)) (by simp only [List.length_cons] at hl; omega) (by simp only [List.length_cons,List.length_append,List.length_nil] at ha ⊢; omega) h2;obtain ⟨o,eo,ko⟩:=zvk (i:=1) (ρ:=[rd l W p,.own acc]) (K:=fun o=>o=.nx [rd l W (p + 1),.own (acc++[sT x])]) rfl (zcc (nm:="read_name") (zjs hx) rfl (tl:=[.own acc]) (show W.drop p=[x]++L from h) (by simp)) (xs:=acc) rfl (by simp only [List.length_cons] at ha; omega) rfl;subst ko;unfold zdx;rw [bxX (b:=true) (ρ':=[rd l W p,.own acc]) (zb5 (zfc l W p 0 [.own acc] rfl) (zap (d:=sT []) rfl) ((neT _ _).trans (by rw [Nat.add_zero,zfb h,decide_eq_false hne]; rfl))),Option.bind_some];show (zer 1 (zau 0 "Reader" "read_name" rN m_3 zaa) [rd l W p,.own acc]).bind _=_;rw [eo,Option.bind_some];show zdx _ _ n [rd l W (p + 1),.own (acc++[sT x])]=_;rw [ih,List.length_cons,List.map_cons,List.append_assoc,show p + 1 + L.length=p + (L.length + 1) by omega];rfl
theorem ybg {ns:List (List Nat)} (h:∀ x∈ns,zc1 x=true) (hn:ns≠[]) (hl:ns.length<=12) {l:Addr} {W:List (List Nat)} {p:Nat} (hd:W.drop p=ns) : m_43 l [] (fls W p)=some (fls W (p + ns.length),.lst (ns.map sT)):=by
 cases ns with
 | nil=>exact absurd rfl hn
 | cons x L =>
  have h1:=zei hd;refine zc2 ?_;unfold b_43;show wp _ [rd l W p,.no] _;apply zaf;refine zio (o:=.nx [rd l W (p + 1),.own [sT x]]) ?_ ?_
  ·unfold zgz;rw [zcc (zjs (h x List.mem_cons_self)) rfl (tl:=[.no]) (show W.drop p=[x]++L from hd) (by simp)];rfl
  ·show wp _ [rd l W (p + 1),.own [sT x]] _;apply zaf;refine zio (zy5 L 1000000000 (p + 1) [sT x] (fun y hy=>h y (List.mem_cons_of_mem _ hy)) (by simp only [List.length_cons] at hl; omega) (by simp only [List.length_cons,List.length_nil] at hl ⊢; omega) h1) ?_;show wp _ [rd l W (p + 1 + L.length),.own ((x::L).map sT)] _;refine zg4 zoa ?_;refine zc4 (zb0 (za1 rfl (za1 rfl rfl)) (zo4 _ 12 (by rw [List.length_map]; exact hl))) ?_;rw [List.length_cons,show p + (L.length + 1)=p + 1 + L.length by omega];exact zcb
theorem z3o (bs:List Bool) : zh0 [.lst (bs.map D.bl)]=some (.bl (bs.all id)):=zsd bs
theorem yd6 (q:Pa) : m2 dEq (mIx (zbk 0) (fun _=>some (.int 0))) (fun _=>some (.str "unlike")) [.im q.toD]=some (.bl q.unl):=by
 cases q with
 | is t=>rfl
 | no t=>rfl
 | un a b=>rfl
 | ct w n its ov=>cases w <;> rfl
theorem ybh {bd:List Pa} {ps:List (List Nat×List Nat)} (h1:zdm bd) (h2:∃ p∈bd,p.unl=false) (h3:zeq ps) {l:Addr} {W:List (List Nat)} {p:Nat} (hd:W.drop p=bWd bd++zbg (cw "for") (zbo ps)) : m_42 l [] (fls W p)=some (fls W (p + (bWd bd++zbg (cw "for") (zbo ps)).length),Ro.toD (.never bd ps)):=by
 have hn : bd≠[]:=fun e=>by obtain ⟨q,hq,_⟩:=h2; rw [e] at hq; exact List.not_mem_nil hq
 have d1:=zd6 hd;have hl:=h1.2;refine zc2 ?_;unfold b_42;show wp _ [rd l W p,.no] _;apply zaf
 have hnb : N_k74.hd (zbg (cw "for") (zbo ps))∉bdB:=by
  have:=zqx (bad:=bdB) (xs:=zbo ps) (q:=[]) (w:=cw "for") (by decide +kernel) (by decide +kernel);rw [List.append_nil] at this;exact this
 refine zbu (zcc (z0x h1 hn) rfl hd hnb) ?_;show wp _ [rd l W (p + (bWd bd).length),.im (.lst (bd.map Pa.toD))] _;apply zaf
 have hc : zd7 1 [] (zeo (zab 1)) (zb8 0) (fun _=>some true) (m2 dEq (mIx (zbk 0) (fun _=>some (.int 0))) (fun _=>some (.str "unlike"))) [rd l W (p + (bWd bd).length),.im (.lst (bd.map Pa.toD))]=some ((bd.map Pa.unl).map D.bl):=by
  rw [List.map_map];exact zpa bd Pa.toD _ rfl (by omega) fun q _=>zr5 rfl rfl (yd6 q)
 refine zba (b:=false) (zie (d:=.bl ((bd.map Pa.unl).all id)) (zb0 (za1 (zkj hc) rfl) (z3o _)) ?_) (fun e=>by cases e) fun _=>zbb ?_
 ·have : (bd.map Pa.unl).all id=false:=by
   obtain ⟨q,hq,e⟩:=h2;rw [List.all_map];exact List.all_eq_false.mpr ⟨q,hq,by show ¬ q.unl=true; rw [e]; decide⟩
  rw [this];rfl
 ·refine zbx (d:=Ro.toD (.never bd ps)) (ρ1:=[rd l W (p + (bWd bd).length + (zbg (cw "for") (zbo ps)).length),.im (.lst (bd.map Pa.toD))]) (zdf (zaq (zap rfl) (zaq (zap rfl) (zaq (zcc (z0z h3) rfl (post:=[]) (by rw [List.append_nil]; exact d1) (by decide +kernel)) rfl)))) ?_;rw [List.length_append,<- Nat.add_assoc];exact zcb
theorem ybc {lo hi:Int} {its:List Ti} {ov:List (List Nat×List Nat)} {bd:List Pa} {ps:List (List Nat×List Nat)} (h:zfn (.choose lo hi its ov bd ps)) {l:Addr} {W:List (List Nat)} {p:Nat} (hd:W.drop p=[za0 lo,cw "to",za0 hi,cw "of"]++(zfw its ov++zcg bd ps)) : m_38 l [] (fls W p)=some (fls W (p + ([za0 lo,cw "to",za0 hi,cw "of"]++(zfw its ov++zcg bd ps)).length),Ro.toD (.choose lo hi its ov bd ps)):=by
 obtain ⟨h1,h2,h3,h4,h5⟩:=(show (zdy lo/\zdy hi)/\((∀ z∈its,zcy z)/\0 < its.length/\its.length<=9)/\((∀ p∈ov,ze9 p)/\ov.length<=2)/\zdm bd/\zeq ps from h);have hn : its≠[]:=fun e=>by rw [e] at h2; exact absurd h2.2.1 (by decide)
 have d0 : W.drop p=[za0 lo]++(cw "to" :: ([za0 hi]++(cw "of" :: (zbs its++(zbg (cw "over") (zbo ov)++zcg bd ps))))):=by
  rw [hd];show [za0 lo,cw "to",za0 hi,cw "of"]++(zbs its++zbg (cw "over") (zbo ov)++zcg bd ps)=_;simp
 have d1:=zd6 d0;have d2:=zei d1;have d3:=zd6 d2;have d4:=zei d3;have d5:=zd6 d4;have d6:=zd6 d5;have eb:=zxe bd ps;refine zc2 ?_;unfold b_38;show wp _ [rd l W p,.no,.no] _;apply zaf;refine zbu (zcc (zrm h1.1) rfl d0 (by simp)) ?_;show wp _ [rd l W (p + 1),.im (.int lo),.no] _;apply zaf;refine zjx (zk8 (cwD "to") d1) ?_;show wp _ [rd l W (p + 1 + 1),.im (.int lo),.no] _;apply zaf;refine zbu (zcc (zrm h1.2) rfl d2 (by simp)) ?_;show wp _ [rd l W (p + 1 + 1 + 1),.im (.int lo),.im (.int hi)] _;apply zaf;refine zjx (zk8 (cwD "of") d3) ?_;show wp _ [rd l W (p + 1 + 1 + 1 + 1),.im (.int lo),.im (.int hi)] _;refine zbx (d:=Ro.toD (.choose lo hi its ov bd ps)) (ρ1:=[rd l W (p + 1 + 1 + 1 + 1 + (zbs its).length + (zbg (cw "over") (zbo ov)).length + (zcg bd ps).length),.im (.int lo),.im (.int hi)]) (zdf (zaq (zap rfl) (zaq (zap rfl) (zaq (zap rfl) (zaq (zcc (z00 h2.1 hn (by omega)) rfl d4 (zqx zzz fun z=>eb ?_)) (zaq (zcc (z01 h3) rfl d5 fun z=>eb ?_) (z0y h4 h5 d6))))))) ?_
 ·rcases List.mem_cons.mp z with e | z
  ·rw [e]; simp
  ·rw [List.mem_singleton.mp z]; simp
 ·rcases List.mem_cons.mp z with e | z
  ·rw [e]; simp
  ·rw [List.mem_singleton.mp z]; simp
 ·have e : p + ([za0 lo,cw "to",za0 hi,cw "of"]++(zfw its ov++zcg bd ps)).length=p + 1 + 1 + 1 + 1 + (zbs its).length + (zbg (cw "over") (zbo ov)).length + (zcg bd ps).length:=by
   unfold zfw;simp only [List.length_append,List.length_cons,List.length_nil];omega
  rw [e];exact zcb
theorem zxs {w:List Nat} (h1:w≠cw "rule") (h2:w≠cw "may") : dIn (sT w) (.tup [.str "rule",.str "may"])=some (.bl false):=by
 have a : (("rule" : Str)==tx w)=false:=beq_eq_false_iff_ne.mpr fun e=>h1 (zgm (e.symm.trans (cwT "rule")));have b : (("may" : Str)==tx w)=false:=beq_eq_false_iff_ne.mpr fun e=>h2 (zgm (e.symm.trans (cwT "may")));show some (D.bl ((("rule" : Str)==tx w) || ((("may" : Str)==tx w) || false)))=_;rw [a,b];rfl
theorem z57 (b:Bool) : dIn (sT (cw (ruS b))) (.tup [.str "rule",.str "may"])=some (.bl true):=by
 rw [<- cwD]
 cases b <;> rfl
theorem eqC (w:List Nat) (z:Str) : dEq (sT w) (.str z)=some (.bl (decide (w=cw z))):=by rw [cwD z]; exact eqT _ _
theorem z5l {r:Ro} (h:zfn r) (l:Addr) : m_41 l [] (fls (zda r) 0)=some (fls (zda r) (zda r).length,r.toD):=by
 refine zc2 ?_;unfold b_41;show wp _ [rd l (zda r) 0,.no] _;apply zaf;refine zbu (ze4 (p:=0) rfl rfl (zor l (zda r) 0)) ?_
 cases r with
 | kind n ns =>
  obtain ⟨h1,h2,h3,h4⟩:=(show zc1 n=true/\(∀ w∈ns,zc1 w=true)/\0 < ns.length/\ns.length<=12 from h);have hne : ns≠[]:=fun e=>by rw [e] at h3; exact absurd h3 (by decide)
  show wp _ [rd l (cw "kind" :: n::ns) (0 + 1),.im (sT (cw "kind"))] _;have d1 : (cw "kind" :: n::ns).drop (0 + 1)=[n]++ns:=rfl;have d2:=zd6 d1;apply zaf;refine zba (b:=true) (zbf (zat rfl rfl ((eqC _ _).trans (by rw [decide_eq_true rfl])))) (fun _=>?_) fun e=>by cases e
  refine zbx (d:=Ro.toD (.kind n ns)) (ρ1:=[rd l (cw "kind" :: n::ns) (0 + 1 + 1 + ns.length),.im (sT (cw "kind"))]) (zdf (zaq (zap rfl) (zaq (zcc (zjs h1) rfl d1 (by simp)) (zaq (ze4 (ds:=[]) rfl rfl (ybg h2 hne h4 d2)) rfl)))) ?_;show kR l (cw "kind" :: n::ns) (ns.length + 1 + 1) _ _;rw [show ns.length + 1 + 1=0 + 1 + 1 + ns.length by omega]
  exact zcb
 | rule b t bd ps =>
  obtain ⟨h1,h2,h3⟩:=(show zeh t/\zdm bd/\zeq ps from h);show wp _ [rd l (cw (ruS b)::(zb6 t++zcg bd ps)) (0 + 1),.im (sT (cw (ruS b)))] _;have d1 : (cw (ruS b)::(zb6 t++zcg bd ps)).drop (0 + 1)=zb6 t++zcg bd ps:=rfl;have d2:=zd6 d1;have eb:=zxe bd ps;generalize hW : cw (ruS b)::(zb6 t++zcg bd ps)=W at d1 d2;have hWl : W.length=0 + 1 + (zb6 t).length + (zcg bd ps).length:=by rw [<- hW,List.length_cons,List.length_append]; omega
  apply zaf
  refine zba (b:=false) (zbf (zat rfl rfl ((eqC _ _).trans (by rw [decide_eq_false (by cases b <;> decide +kernel)])))) (fun e=>by cases e) fun _=>zbb ?_
  show wp _ [rd l W (0 + 1),.im (sT (cw (ruS b)))] _;apply zaf;refine zba (b:=true) (zbf (zat rfl rfl (z57 b))) (fun _=>?_) fun e=>by cases e
  refine zbx (d:=Ro.toD (.rule b t bd ps)) (ρ1:=[rd l W (0 + 1 + (zb6 t).length + (zcg bd ps).length),.im (sT (cw (ruS b)))]) ((zdf (zaq (zap rfl) (zaq (zcc (zrn h1) rfl d1 fun z=>eb (by rw [List.mem_singleton.mp z]; simp)) (z0y h2 h3 d2)))).trans ?_) ?_
  ·show some (D.tup [sT (cw (ruS b)),thD t,.lst (bd.map Pa.toD),.lst (ps.map prD)],_)=some (D.tup [.str (ruS b),thD t,.lst (bd.map Pa.toD),.lst (ps.map prD)],_);rw [<- cwD]
  ·have : zda (.rule b t bd ps)=W:=hW;rw [this,hWl]
   exact zcb
 | choose lo hi its ov bd ps =>
  show wp _ [rd l (cw "choose" :: ([za0 lo,cw "to",za0 hi,cw "of"]++(zfw its ov++zcg bd ps))) (0 + 1),.im (sT (cw "choose"))] _;have d1 : (cw "choose" :: ([za0 lo,cw "to",za0 hi,cw "of"]++(zfw its ov++zcg bd ps))).drop (0 + 1)=[za0 lo,cw "to",za0 hi,cw "of"]++(zfw its ov++zcg bd ps):=rfl;generalize hX : [za0 lo,cw "to",za0 hi,cw "of"]++(zfw its ov++zcg bd ps)=X at d1;apply zaf;refine zba (b:=false) (zbf (zat rfl rfl ((eqC _ _).trans (by rw [decide_eq_false (by decide +kernel)])))) (fun e=>by cases e) fun _=>zbb ?_;show wp _ [rd l (cw "choose" :: X) (0 + 1),.im (sT (cw "choose"))] _;apply zaf;refine zba (b:=false) (zbf (zat rfl rfl (zxs (by decide +kernel) (by decide +kernel)))) (fun e=>by cases e) fun _=>zbb ?_;show wp _ [rd l (cw "choose" :: X) (0 + 1),.im (sT (cw "choose"))] _;apply zaf;refine zba (b:=true) (zbf (zat rfl rfl ((eqC _ _).trans (by rw [decide_eq_true rfl])))) (fun _=>?_) fun e=>by cases e
  have em:=ybc h (l:=l) (W:=cw "choose" :: X) (p:=0 + 1) (by rw [hX]; exact d1);rw [hX] at em;refine zbx (ze4 (ds:=[]) rfl rfl em) ?_;have : zda (.choose lo hi its ov bd ps)=cw "choose" :: X:=by rw [<- hX]; rfl
  rw [this,List.length_cons,show X.length + 1=0 + 1 + X.length by omega]
  exact zcb
 | never bd ps =>
  obtain ⟨h1,h2,h3⟩:=(show zdm bd/\(∃ p∈bd,p.unl=false)/\zeq ps from h);show wp _ [rd l (cw "never" :: (bWd bd++zbg (cw "for") (zbo ps))) (0 + 1),.im (sT (cw "never"))] _;have d1 : (cw "never" :: (bWd bd++zbg (cw "for") (zbo ps))).drop (0 + 1)=bWd bd++zbg (cw "for") (zbo ps):=rfl;generalize hX : bWd bd++zbg (cw "for") (zbo ps)=X at d1;apply zaf;refine zba (b:=false) (zbf (zat rfl rfl ((eqC _ _).trans (by rw [decide_eq_false (by decide +kernel)])))) (fun e=>by cases e) fun _=>zbb ?_;show wp _ [rd l (cw "never" :: X) (0 + 1),.im (sT (cw "never"))] _;apply zaf;refine zba (b:=false) (zbf (zat rfl rfl (zxs (by decide +kernel) (by decide +kernel)))) (fun e=>by cases e) fun _=>zbb ?_;show wp _ [rd l (cw "never" :: X) (0 + 1),.im (sT (cw "never"))] _;apply zaf;refine zba (b:=false) (zbf (zat rfl rfl ((eqC _ _).trans (by rw [decide_eq_false (by decide +kernel)])))) (fun e=>by cases e) fun _=>zbb ?_;show wp _ [rd l (cw "never" :: X) (0 + 1),.im (sT (cw "never"))] _;apply zaf;refine zba (b:=true) (zbf (zat rfl rfl ((eqC _ _).trans (by rw [decide_eq_true rfl])))) (fun _=>?_) fun e=>by cases e
  have em:=ybh h1 h2 h3 (l:=l) (W:=cw "never" :: X) (p:=0 + 1) (by rw [hX]; exact d1);rw [hX] at em;refine zbx (ze4 (ds:=[]) rfl rfl em) ?_;have : zda (.never bd ps)=cw "never" :: X:=by rw [<- hX]; rfl
  rw [this,List.length_cons,show X.length + 1=0 + 1 + X.length by omega];exact zcb
open Classical in
theorem zy2 {nm:Str} {m:Addr->List D->List D->Option (List D×D)} {W:List (List Nat)} {p q:Nat} {d:D} {a b:Sl} (hn:rN.contains nm=false) (h:∀ l,m l [] (fls W p)=some (fls W q,d)) : zje 1 "Reader" nm rN m zaa [a,.obj "Reader" rN (fls W p),b]=some (d,[a,.obj "Reader" rN (fls W q),b]):=by
 unfold zje;show (if ("Reader" : Str)="Reader" /\ rN=rN/\rN.contains nm=false then _ else none)=_;rw [if_pos ⟨rfl,rfl,hn⟩];show (if ("Reader" : Str)="Reader" /\ rN=rN then (if h:∃ q,∀ l,m l [] (fls W p)=some q then some (h.choose.2,[a,.obj "Reader" rN h.choose.1,b]) else none) else none)=_;rw [if_pos ⟨rfl,rfl⟩,dif_pos ⟨(fls W q,d),h⟩]
 have e : (⟨(fls W q,d),h⟩ : ∃ q,∀ l,m l [] (fls W p)=some q).choose=(fls W q,d):=by
  have:=(⟨(fls W q,d),h⟩ : ∃ q,∀ l,m l [] (fls W p)=some q).choose_spec 0;rw [h 0] at this;exact Option.some.inj this.symm
 rw [e]
theorem ybl {r:Ro} {T:List Nat} (h:zfn r) (hw:zny [.str (tx T)]=some (.lst (wD (zda r)))) : zk0 [.str (tx T)]=some r.toD:=by
 apply zg6;unfold b_32;show wp _ [.im (.str (tx T)),.no,.no] _;apply zaf;refine zio (o:=.nx [.im (.str (tx T)),.obj "Reader" rN (fls (zda r) 0),.no]) ?_ ?_
 ·unfold zqd;rw [za1 (zb0 rfl hw) rfl];rfl
 show wp _ [.im (.str (tx T)),.obj "Reader" rN (fls (zda r) 0),.no] _;apply zaf;refine zbu (zy2 rfl fun l=>z5l h l) ?_;show wp _ [.im (.str (tx T)),.obj "Reader" rN (fls (zda r) (zda r).length),.im r.toD] _;apply zaf;refine zjx (zy2 rfl fun l=>z49 (Nat.le_refl _)) ?_;exact z29 rfl (zfr rfl)
noncomputable def ze0 : Nat->D->Prop
 | 0,_=>False
 | _ + 1,.str _=>True
 | _ + 1,.int _=>True
 | n + 1,.tup ds=>ds.length<=500/\∀ d∈ds,ze0 n d
 | n + 1,.lst ds=>ds.length<=500/\∀ d∈ds,ze0 n d
 | _ + 1,_=>False
theorem z1a {n:Nat} (ih:∀ d,ze0 n d->zfv n [d,d]=some (.bl true)) (x:D) (ds:List D) (hx:zbk 0 [.im x]=some ds) (hv:∀ i : Sl,zbk 1 [i,.im x,.im x]=some ds/\zbk 2 [i,.im x,.im x]=some ds) (hlen:zcs [x]=some (.int ds.length)) (h:ds.length<=500/\∀ d∈ds,ze0 n d) :
  za9 zh0 (zad (zb3 (zd7 1 [0,1] (ze3 (zad (za9 zcs (zad (zab 1) (fun _=>some []))) (fun _=>some []))) (zb8 0) (fun _=>some true) (za9 (zfv n) (zad (mIx (zbk 1) (zab 0)) (zad (mIx (zbk 2) (zab 0)) (fun _=>some [])))))) (fun _=>some [])) [.im x,.im x]=some (.bl true):=by
 have hc : zd7 1 [0,1] (ze3 (zad (za9 zcs (zad (zab 1) (fun _=>some []))) (fun _=>some []))) (zb8 0) (fun _=>some true) (za9 (zfv n) (zad (mIx (zbk 1) (zab 0)) (zad (mIx (zbk 2) (zab 0)) (fun _=>some [])))) [.im x,.im x]=some (((List.range ds.length).map fun _=>true).map D.bl):=by
  rw [List.map_map];refine zpa (List.range ds.length) (fun (i:Nat)=>D.int i) _ ?_ (by rw [List.length_range]; omega) fun i hi=>?_
  ·unfold ze3;rw [za1 (zb0 (m:=zcs) (f:=zad (zab 1) (fun _=>some [])) (ρ:=[.im x,.im x]) rfl hlen) rfl,Option.bind_some,zog _ (by omega) (by omega),Int.toNat_natCast]
  ·have hil : i < ds.length:=List.mem_range.mp hi
   have ha : atI ds ((i:Nat) : Int)=some ds[i]:=by
    unfold atI ixN;rw [if_pos (by omega),if_pos (by omega),Option.bind_some,Int.toNat_natCast,List.getElem?_eq_getElem hil]
   exact zr5 rfl rfl (zb0 (za1 (zbh (hv _).1 rfl ha) (za1 (zbh (hv _).2 rfl ha) rfl)) (ih _ (h.2 _ (List.getElem_mem hil))))
 refine zb0 (za1 (zkj hc) rfl) ((zsd _).trans ?_);rw [List.all_map]
 congr 2
 exact List.all_eq_true.mpr fun _ _=>rfl
theorem z09 : ∀ (n:Nat) (d:D),ze0 n d->zfv n [d,d]=some (.bl true)
 | 0,_,h=>h.elim
 | n + 1,d,h=>by
  have ih:=z09 n;show zdt 2 (b_10 (zfv n)) [d,d]=_;apply zg6;unfold b_10
  cases d with
  | str z =>
   show wp _ [.im (.str z),.im (.str z)] _;apply zaf;refine zba (b:=true) rfl (fun _=>?_) fun e=>by cases e
   exact zgp (zin (a:=true) rfl (zat rfl rfl (zso z z))) (zfr (by rw [beq_self_eq_true]; rfl))
  | int i =>
   show wp _ [.im (.int i),.im (.int i)] _;apply zaf;refine zba (b:=false) rfl (fun e=>by cases e) fun _=>zbb ?_;apply zaf;refine zba (b:=true) rfl (fun _=>?_) fun e=>by cases e
   exact zgp (zin (a:=true) rfl (zin (a:=true) rfl (zat rfl rfl (zew i i)))) (zfr (by rw [beq_self_eq_true]; rfl))
  | tup ds =>
   show wp _ [.im (.tup ds),.im (.tup ds)] _;apply zaf;refine zba (b:=false) rfl (fun e=>by cases e) fun _=>zbb ?_;apply zaf;refine zba (b:=false) rfl (fun e=>by cases e) fun _=>zbb ?_;apply zaf;refine zba (b:=false) rfl (fun e=>by cases e) fun _=>zbb ?_;apply zaf;refine zba (b:=false) rfl (fun e=>by cases e) fun _=>zbb ?_;apply zaf;refine zba (b:=false) (zbf (zat rfl rfl ((zm8 _ _).trans (by simp)))) (fun e=>by cases e) fun _=>zbb ?_
   exact zgp (z1a ih (.tup ds) ds rfl (fun _=>⟨rfl,rfl⟩) rfl h) (zfr rfl)
  | lst ds =>
   show wp _ [.im (.lst ds),.im (.lst ds)] _;apply zaf;refine zba (b:=false) rfl (fun e=>by cases e) fun _=>zbb ?_;apply zaf;refine zba (b:=false) rfl (fun e=>by cases e) fun _=>zbb ?_;apply zaf;refine zba (b:=false) rfl (fun e=>by cases e) fun _=>zbb ?_;apply zaf;refine zba (b:=false) rfl (fun e=>by cases e) fun _=>zbb ?_;apply zaf;refine zba (b:=false) (zbf (zat rfl rfl ((zm8 _ _).trans (by simp)))) (fun e=>by cases e) fun _=>zbb ?_
   exact zgp (z1a ih (.lst ds) ds rfl (fun _=>⟨rfl,rfl⟩) rfl h) (zfr rfl)
  | non=>exact h.elim
  | bl _=>exact h.elim
  | kl _=>exact h.elim
  | kt _=>exact h.elim
  | dic _ _=>exact h.elim
  | ins _ _ _=>exact h.elim
  | kd _ _=>exact h.elim
theorem zi8 {α : Type} {n:Nat} {f:α->D} {L:List α} (h:∀ x∈L,ze0 n (f x)) : ∀ d∈L.map f,ze0 n d:=fun d hd=>by
 obtain ⟨x,hx,rfl⟩:=List.mem_map.mp hd;exact h x hx
theorem zpx {t:Th} (h:zeh t) (n:Nat) : ze0 (n + 3) (thD t):=by
 refine ⟨by simp,fun d hd=>?_⟩
 rcases List.mem_cons.mp hd with e | hd
 ·rw [e]; exact trivial
 ·rw [List.mem_singleton.mp hd];exact ⟨by rw [List.length_map]; have:=h.2.2; omega,zi8 fun _ _=>trivial⟩
theorem zxj {z:Ti} (h:zcy z) (n:Nat) : ze0 (n + 4) (zce z):=by
 refine ⟨by simp,fun d hd=>?_⟩
 rcases List.mem_cons.mp hd with e | hd
 ·rw [e]; exact zpx h.1 n
 ·rw [List.mem_singleton.mp hd]; exact trivial
theorem zxk (p:List Nat×List Nat) (n:Nat) : ze0 (n + 2) (prD p):=by
 refine ⟨by simp,fun d hd=>?_⟩
 rcases List.mem_cons.mp hd with e | hd
 ·rw [e]; exact trivial
 ·rw [List.mem_singleton.mp hd]; exact trivial
theorem z5r {p:Pa} (h:zdg p) (n:Nat) : ze0 (n + 6) p.toD:=by
 cases p with
 | is t =>
  refine ⟨by simp,fun d hd=>?_⟩
  rcases List.mem_cons.mp hd with e | hd
  ·rw [e]; exact trivial
  ·rw [List.mem_singleton.mp hd]; exact zpx (show zeh t from h) (n + 2)
 | no t =>
  refine ⟨by simp,fun d hd=>?_⟩
  rcases List.mem_cons.mp hd with e | hd
  ·rw [e]; exact trivial
  ·rw [List.mem_singleton.mp hd]; exact zpx (show zeh t from h) (n + 2)
 | un a b =>
  refine ⟨by simp,fun d hd=>?_⟩
  rcases List.mem_cons.mp hd with e | hd
  ·rw [e]; exact trivial
  rcases List.mem_cons.mp hd with e | hd
  ·rw [e]; exact trivial
  ·rw [List.mem_singleton.mp hd]; exact trivial
 | ct w m its ov =>
  obtain ⟨h1,h2,h3,h4,h5⟩:=(show zdy m/\(∀ z∈its,zcy z)/\(0 < its.length/\its.length<=9)/\(∀ p∈ov,ze9 p)/\ov.length<=2 from h);refine ⟨by simp,fun d hd=>?_⟩
  rcases List.mem_cons.mp hd with e | hd
  ·rw [e]; exact trivial
  rcases List.mem_cons.mp hd with e | hd
  ·rw [e]; exact trivial
  rcases List.mem_cons.mp hd with e | hd
  ·rw [e]; exact ⟨by rw [List.length_map]; omega,zi8 fun z hz=>zxj (h2 z hz) n⟩
  ·rw [List.mem_singleton.mp hd]; exact ⟨by rw [List.length_map]; omega,zi8 fun z hz=>zxk z (n + 2)⟩
theorem zpw {ps:List (List Nat×List Nat)} (h:ps.length<=3) (n:Nat) : ze0 (n + 3) (.lst (ps.map prD)):=⟨by rw [List.length_map]; omega,zi8 fun z _=>zxk z n⟩
theorem ztb {bd:List Pa} (h:zdm bd) (n:Nat) : ze0 (n + 7) (.lst (bd.map Pa.toD)):=⟨by rw [List.length_map]; have:=h.2; omega,zi8 fun z hz=>z5r (h.1 z hz) n⟩
theorem z5s {r:Ro} (h:zfn r) : ze0 9 r.toD:=by
 cases r with
 | kind n ns =>
  obtain ⟨h1,h2,h3,h4⟩:=(show zc1 n=true/\(∀ w∈ns,zc1 w=true)/\0 < ns.length/\ns.length<=12 from h);refine ⟨by simp,fun d hd=>?_⟩
  rcases List.mem_cons.mp hd with e | hd
  ·rw [e]; exact trivial
  rcases List.mem_cons.mp hd with e | hd
  ·rw [e]; exact trivial
  ·rw [List.mem_singleton.mp hd]; exact ⟨by rw [List.length_map]; omega,zi8 fun _ _=>trivial⟩
 | never bd ps =>
  obtain ⟨h1,h2,h3⟩:=(show zdm bd/\(∃ p∈bd,p.unl=false)/\zeq ps from h);refine ⟨by simp,fun d hd=>?_⟩
  rcases List.mem_cons.mp hd with e | hd
  ·rw [e]; exact trivial
  rcases List.mem_cons.mp hd with e | hd
  ·rw [e]; exact ztb h1 1
  ·rw [List.mem_singleton.mp hd]; exact zpw h3.2 5
 | choose lo hi its ov bd ps =>
  obtain ⟨h1,h2,h3,h4,h5⟩:=(show (zdy lo/\zdy hi)/\((∀ z∈its,zcy z)/\0 < its.length/\its.length<=9)/\((∀ p∈ov,ze9 p)/\ov.length<=2)/\zdm bd/\zeq ps from h);refine ⟨by simp,fun d hd=>?_⟩
  rcases List.mem_cons.mp hd with e | hd
  ·rw [e]; exact trivial
  rcases List.mem_cons.mp hd with e | hd
  ·rw [e]; exact trivial
  rcases List.mem_cons.mp hd with e | hd
  ·rw [e]; exact trivial
  rcases List.mem_cons.mp hd with e | hd
  ·rw [e]; exact ⟨by rw [List.length_map]; omega,zi8 fun z hz=>zxj (h2.1 z hz) 3⟩
  rcases List.mem_cons.mp hd with e | hd
  ·rw [e]; exact zpw (by omega) 5
  rcases List.mem_cons.mp hd with e | hd
  ·rw [e]; exact ztb h4 1
  ·rw [List.mem_singleton.mp hd]; exact zpw h5.2 5
 | rule b t bd ps =>
  obtain ⟨h1,h2,h3⟩:=(show zeh t/\zdm bd/\zeq ps from h);refine ⟨by simp,fun d hd=>?_⟩
  rcases List.mem_cons.mp hd with e | hd
  ·rw [e]; exact trivial
  rcases List.mem_cons.mp hd with e | hd
  ·rw [e]; exact zpx h1 5
  rcases List.mem_cons.mp hd with e | hd
  ·rw [e]; exact ztb h2 1
  ·rw [List.mem_singleton.mp hd]; exact zpw h3.2 5
theorem z5a {α : Type} {f:List Sl->Option (List D)} {ρ:List Sl} {g:α->D} {xs:List α} (d:α) (e:f ρ=some [.kl (xs.map g)]) : zic f ρ=some ((List.range xs.length).map fun i=>D.tup [.int (i:Nat),g (xs.getD i d)]):=by
 unfold zic;rw [e,<- zzd];rfl
theorem yci (ns:List Int) (many:Int) (hm:0 < many/\many<=3) : ∃ ss : List Int,(∀ s∈ss,okS s)/\zqn [.kl (ns.map D.int),.int many]=some (.lst (ss.map D.int)):=by
 have w : wp b_47 [.im (.kl (ns.map D.int)),.im (.int many),.no,.no,.no,.no] (zkf fun d=>∃ ss : List Int,d=.lst (ss.map D.int)/\∀ s∈ss,okS s):=by
  unfold b_47;generalize hSc : D.kl (ns.map D.int)=Sc;apply zaf
  have hc : zd7 1 [] (ze3 (zad (zab 1) (fun _=>some []))) (zb8 0) (fun _=>some true) (m2 zcf (m2 zha (zab 0) (fun _=>some (.int 7368787))) (fun _=>some (.int 1000003))) [.im Sc,.im (.int many),.no,.no,.no,.no]=some (((List.range many.toNat).map fun (k:Nat)=>(k:Int) * 7368787 + 1000003).map D.int):=by
   rw [List.map_map];refine zpa (List.range many.toNat) (fun (i:Nat)=>D.int i) _ ?_ (by rw [List.length_range]; omega) fun i hi=>?_
   ·unfold ze3;rw [show zad (zab 1) (fun _=>some []) [.im Sc,.im (.int many),.no,.no,.no,.no]=some [.int many] from rfl,Option.bind_some,zog _ (by omega) (by omega)]
   ·have hil : i < many.toNat:=List.mem_range.mp hi;exact zr5 rfl rfl (zat (zat rfl rfl (zj7 (.inl (.inr ⟨by decide,by decide⟩)))) rfl zfd)
  refine zhx hc ?_;show wp _ [.im Sc,.im (.int many),.own (((List.range many.toNat).map fun (k:Nat)=>(k:Int) * 7368787 + 1000003).map D.int),.no,.no,.no] _;apply zaf;refine zg5 (List.range ns.length) (fun i=>D.tup [.int (i:Nat),.int (ns.getD i 0)]) (fun _ ρ=>∃ (ss:List Int) (a3 a4 a5:Sl),(ss.length=many.toNat/\∀ s∈ss,okS s)/\ρ=[.im Sc,.im (.int many),.own (ss.map D.int),a3,a4,a5]) (by subst hSc; exact z5a 0 rfl) ⟨_,_,_,_,⟨by rw [List.length_map,List.length_range],fun s hs=>?_⟩,rfl⟩ ?_ ?_
  ·obtain ⟨k,hk,rfl⟩:=List.mem_map.mp hs;have:=List.mem_range.mp hk;unfold okS;omega
  ·rintro pre i post ρ he ⟨ss,a3,a4,a5,⟨hl,hs⟩,rfl⟩;refine ⟨_,rfl,?_⟩;generalize ns.getD i 0=c;show wp _ [.im Sc,.im (.int many),.own (ss.map D.int),.im (.int (i:Nat)),.im (.int c),a5] _;have hq : 0<=((i:Nat) : Int) % many/\((i:Nat) : Int) % many < many:=⟨Int.emod_nonneg _ (by omega),Int.emod_lt_of_pos _ hm.1⟩;have ei : ∀ (b4 b5:Sl),m2 zex (zab 3) (zab 1) [.im Sc,.im (.int many),.own (ss.map D.int),.im (.int (i:Nat)),b4,b5]=some (.int (((i:Nat) : Int) % many)):=fun _ _=>zat rfl rfl (zg9 hm.1);generalize ((i:Nat) : Int) % many=q at hq ei;have hql : q.toNat < ss.length:=by omega
   have ea : atI (ss.map D.int) q=some (.int ss[q.toNat]):=by
    unfold atI ixN;rw [if_pos hq.1,if_pos (by rw [List.length_map]; omega),Option.bind_some,List.getElem?_map,List.getElem?_eq_getElem hql];rfl
   have ho:=hs _ (List.getElem_mem hql);unfold okS at ho;generalize ss[q.toNat]=s at ea ho;apply zaf;refine zgq (d:=.int (s * 1000003 + c % 10 ^ 30)) (zat (zat (zbh rfl (ei _ _) ea) rfl (zj7 (.inr ⟨by omega,by decide⟩))) (zat rfl (zat rfl rfl (zh5 (by decide))) (zg9 (by decide))) zfd) ?_;show wp _ [.im Sc,.im (.int many),.own (ss.map D.int),.im (.int (i:Nat)),.im (.int c),.im (.int (s * 1000003 + c % 10 ^ 30))] _;refine yee (d:=.int ((s * 1000003 + c % 10 ^ 30 + (i:Nat)) % (2 ^ 61 - 1))) (k:=q) (xs:=ss.map D.int) (zat (zat rfl rfl zfd) (zat (zat rfl rfl (zh5 (by decide))) rfl zpd) (zg9 (by decide))) (ei _ _) rfl hq.1 (by rw [List.length_map]; omega) ?_;refine ⟨ss.set q.toNat ((s * 1000003 + c % 10 ^ 30 + (i:Nat)) % (2 ^ 61 - 1)),.im (.int (i:Nat)),.im (.int c),.im (.int (s * 1000003 + c % 10 ^ 30)),⟨by rw [List.length_set]; exact hl,fun z hz=>?_⟩,?_⟩
   ·rcases List.mem_or_eq_of_mem_set hz with e | e
    ·exact hs z e
    ·have h1:=Int.emod_nonneg (s * 1000003 + c % 10 ^ 30 + (i:Nat)) (show (2 ^ 61 - 1 : Int)≠0 by decide);have h2:=Int.emod_lt_of_pos (s * 1000003 + c % 10 ^ 30 + (i:Nat)) (show (0 : Int) < 2 ^ 61 - 1 by decide);rw [e];exact ⟨h1,h2⟩
   ·rw [List.map_set];rfl
  ·rintro ρ ⟨ss,a3,a4,a5,⟨hl,hs⟩,rfl⟩;exact zvl rfl (ztm ⟨ss,rfl,hs⟩)
 obtain ⟨d,e,ss,rfl,hs⟩:=z3a (n:=6) (ds:=[.kl (ns.map D.int),.int many]) w;exact ⟨ss,hs,e⟩
theorem zov {i:Nat} {f:Xe} {ρ ρ1:List Sl} {xs0 xs ds:List D} {K:Fl->Prop} (h0:ρ[i]?=some (.own xs0)) (h:f ρ=some (.lst ds,ρ1)) (h':ρ1[i]?=some (.own xs)) (hl:xs.length + ds.length<=16777216) (k:K (.nx (ρ1.set i (.own (xs++ds))))) : wp (zgw i f) ρ K:=⟨_,by
 unfold zgw;rw [h0];show (f ρ).bind _=_;rw [h,Option.bind_some];dsimp only;rw [h'];show (if xs.length + ds.length<=16777216 then some (Fl.nx (ρ1.set i (.own (xs++ds)))) else none)=_;rw [if_pos hl],k⟩
theorem yeh {i:Nat} {f g:Xe} {ρ ρ1 ρ2:List Sl} {xs ys:List D} {K:Fl->Prop} (h1:f ρ=some (.lst xs,ρ1)) (h2:g ρ1=some (.lst ys,ρ2)) (hl:xs.length + ys.length<=16777216) (k:K (.nx (ρ2.set i (.own (xs++ys))))) : wp (znu i f g) ρ K:=⟨_,by
 unfold znu;rw [h1,Option.bind_some];dsimp only;rw [h2,Option.bind_some];dsimp only;rw [if_pos hl],k⟩
theorem zj2 {i:Nat} {m:Addr->List D->List D->List D->Option (List D×D)} {f:Xa} {ρ ρ1:List Sl} {l l0:Addr} {xs0 xs ys ds:List D} {d:D} (h0:ρ[i]?=some (.pin l0 xs0)) (h1:f ρ=some (ds,ρ1)) (h2:ρ1[i]?=some (.pin l xs)) (h3:m l ds [] xs=some (ys,d)) : zhm i m f ρ=some (d,ρ1.set i (.pin l ys)):=by
 unfold zhm;rw [h0];show (f ρ).bind _=_;rw [h1,Option.bind_some];dsimp only;rw [h2];show (m l ds [] xs).map _=_;rw [h3];rfl
open Classical in
theorem zwa {i:Nat} {m:Addr->List D->List D->List D->Option (List D×D)} {f:Xa} {ρ ρ1:List Sl} {xs0 xs ys ds:List D} {d:D} (h0:ρ[i]?=some (.own xs0)) (h1:f ρ=some (ds,ρ1)) (h2:ρ1[i]?=some (.own xs)) (h3:∀ l,m l ds [] xs=some (ys,d)) : zib i m f ρ=some (d,ρ1.set i (.own ys)):=by
 unfold zib;rw [h0];show (f ρ).bind _=_;rw [h1,Option.bind_some];dsimp only;rw [h2];show (if h:∃ q,∀ l,m l ds [] xs=some q then _ else none)=_;rw [dif_pos ⟨(ys,d),h3⟩]
 have e : (⟨(ys,d),h3⟩ : ∃ q,∀ l,m l ds [] xs=some q).choose=(ys,d):=by
  have:=(⟨(ys,d),h3⟩ : ∃ q,∀ l,m l ds [] xs=some q).choose_spec 0;rw [h3 0] at this;exact Option.some.inj this.symm
 rw [e]
theorem zuq {fa fb fn:List Sl->Option D} {ρ:List Sl} {a b:D} {n:Nat} (ha:fa ρ=some a) (hb:fb ρ=some b) (hn:fn ρ=some (.int (n:Nat))) : mIx (zad fa (zad fb (fun _=>some []))) (zjd (m2 dGt fn (fun _=>some (.int 0)))) ρ=some (if n=0 then a else b):=by
 refine zbh (i:=if decide ((n:Int) > 0) then 1 else 0) (za1 ha (za1 hb rfl)) ?_ ?_
 ·unfold zjd;rw [zat hn rfl zj4];rfl
 ·by_cases e : n=0
  ·subst e; rfl
  ·rw [if_pos (by exact decide_eq_true (show (n:Int) > 0 by omega)),if_neg e]; rfl
noncomputable def opW {α : Type} (a c:List Nat) (g:α->List (List Nat)) : List α->List (List Nat)
 | []=>[]
 | x::L=>a::(g x++tlW c g L)
section
variable {α : Type} {a c:List Nat} {g:α->List (List Nat)}
theorem z2q (L:List α) (x:α) : tlW c g (L++[x])=tlW c g L++(c::g x):=by
 unfold tlW;rw [List.flatMap_append];simp
theorem zuj (L:List α) (x:α) : opW a c g (L++[x])=opW a c g L++((if L=[] then a else c)::g x):=by
 cases L with
 | nil=>show a::(g x++tlW c g [])=_; simp [tlW,opW]
 | cons y L =>
  show a::(g y++tlW c g (L++[x]))=a::(g y++tlW c g L)++_;rw [z2q,if_neg (by simp)];simp
theorem zui {L:List α} (h:∀ x∈L,g x≠[]) : zbg a (zdu [c] (L.map g))=opW a c g L:=by
 cases L with
 | nil=>rfl
 | cons x L =>
  unfold zbg;rw [zju,if_neg fun e=>h x List.mem_cons_self (List.append_eq_nil_iff.mp e).1];rfl
theorem zzy {L:List α} : opW a c g L=[]↔L=[]:=by
 cases L with
 | nil=>exact ⟨fun _=>rfl,fun _=>rfl⟩
 | cons x L=>exact ⟨fun e=>(by cases e),fun e=>(by cases e)⟩
theorem z11 (L:List α) (x:α) : zdu [c] ((L++[x]).map g)=(if L=[] then [] else zdu [c] (L.map g)++[c])++g x:=by
 cases L with
 | nil=>rfl
 | cons y L =>
  rw [if_neg (by simp),List.cons_append,zju,zju,z2q];simp
theorem zvj {B:Nat} : ∀ L : List α,(∀ x∈L,(g x).length<=B)->(tlW c g L).length<=L.length * (B + 1)
 | [],_=>Nat.zero_le _
 | x::L,h=>by
  have h1:=zvj L fun y hy=>h y (List.mem_cons_of_mem _ hy);have h2:=h x List.mem_cons_self;show ((c::g x)++tlW c g L).length<=_;rw [List.length_append,List.length_cons,List.length_cons,Nat.succ_mul];omega
theorem zk7 {B:Nat} (L:List α) (h:∀ x∈L,(g x).length<=B) : (opW a c g L).length<=L.length * (B + 1):=by
 cases L with
 | nil=>exact Nat.zero_le _
 | cons x L =>
  have h1:=zvj (c:=c) L fun y hy=>h y (List.mem_cons_of_mem _ hy);have h2:=h x List.mem_cons_self;show (a::(g x++tlW c g L)).length<=_;rw [List.length_cons,List.length_append,List.length_cons,Nat.succ_mul];omega
theorem ycj {B:Nat} (L:List α) (h:∀ x∈L,(g x).length<=B) : (zdu [c] (L.map g)).length<=L.length * (B + 1):=by
 cases L with
 | nil=>exact Nat.zero_le _
 | cons x L =>
  have h1:=zvj (c:=c) L fun y hy=>h y (List.mem_cons_of_mem _ hy);have h2:=h x List.mem_cons_self;rw [zju,List.length_append,List.length_cons,Nat.succ_mul];omega
end
theorem ze8 (a b:List (List Nat)) : wD (a++b)=wD a++wD b:=List.map_append
theorem zdb (a:List (List Nat)) : (wD a).length=a.length:=List.length_map ..
theorem z2p (t:Th) : zb6 t=t.1::(opW [40] [44] (fun a=>[a]) t.2++(if t.2=[] then [] else [[41]])):=by
 unfold zb6
 by_cases e : t.2=[]
 ·rw [if_pos e,if_pos e,e]; rfl
 ·rw [if_neg e,if_neg e,<- zui (a:=[40]) (c:=[44]) (g:=fun a=>[a]) (L:=t.2) fun _ _ e=>by cases e];unfold zbg;rw [if_neg fun z=>e ((zrx fun _ _ e=>by cases e).mp z)];rfl
theorem zjv {t:Th} (h:zeh t) : 0 < (zb6 t).length/\(zb6 t).length<=8:=by
 rw [z2p,List.length_cons,List.length_append];have h1:=zk7 (a:=[40]) (c:=[44]) (g:=fun a : List Nat=>[a]) (B:=1) t.2 fun _ _=>Nat.le_refl _;have h2:=h.2.2
 have h3 : (if t.2=[] then [] else [[41]] : List (List Nat)).length<=1:=by split <;> decide
 omega
theorem zr4 (t:Th) (h:zeh t) : m_8 [thD t]=some (.lst (wD (zb6 t))):=by
 obtain ⟨h1,h2,h3⟩:=h;rw [z2p];apply zg6;unfold b_8;show wp _ [.im (thD t),.no,.no,.no] _;apply zaf;refine zhx (d:=wD (t.1::opW [40] [44] (fun a=>[a]) ([] : List (List Nat)))) (za1 (zbh rfl rfl rfl) rfl) ?_;show wp _ [.im (thD t),.own (wD (t.1::opW [40] [44] (fun a=>[a]) ([] : List (List Nat)))),.no,.no] _;apply zaf;refine zg5 (List.range t.2.length) (fun i=>D.tup [.int (i:Nat),.str (tx (t.2.getD i []))]) (fun pre ρ=>∃ a2 a3,ρ=[.im (thD t),.own (wD (t.1::opW [40] [44] (fun a=>[a]) (t.2.take pre.length))),a2,a3]) (z5b (g:=fun w=>D.str (tx w)) (xs:=t.2) [] (za1 (zbh rfl rfl rfl) rfl)) ⟨_,_,rfl⟩ ?_ ?_
 ·rintro pre i post ρ he ⟨a2,a3,rfl⟩
  have hi : i=pre.length/\i < t.2.length:=by
   have h2 : (List.range t.2.length)[pre.length]?=some i:=by rw [he,List.getElem?_append_right (Nat.le_refl _),Nat.sub_self]; rfl
   obtain ⟨hlt,e⟩:=List.getElem?_eq_some_iff.mp h2;rw [List.getElem_range] at e;rw [List.length_range] at hlt;omega
  obtain ⟨hi1,hi2⟩:=hi;have hg : t.2[i]?=some (t.2.getD i []):=by rw [List.getD_eq_getElem?_getD,List.getElem?_eq_getElem hi2]; rfl
  have htk : t.2.take (i + 1)=t.2.take i++[t.2.getD i []]:=by rw [List.take_add_one,hg]; rfl
  rw [List.length_append,show ([i] : List Nat).length=1 from rfl,<- hi1,htk,zuj];have hlt : (t.2.take i).length=i:=by rw [List.length_take]; omega
  have hne : t.2.take i=[]↔i=0:=⟨fun e=>by rw [e] at hlt; exact hlt.symm,fun e=>by rw [e]; rfl⟩;have hb:=zk7 (a:=[40]) (c:=[44]) (g:=fun a : List Nat=>[a]) (B:=1) (t.2.take i) fun _ _=>Nat.le_refl _;generalize t.2.getD i []=w;generalize t.2.take i=pr at hlt hne hb;refine ⟨_,rfl,?_⟩;show wp _ [.im (thD t),.own (wD (t.1::opW [40] [44] (fun a=>[a]) pr)),.im (.int (i:Nat)),.im (.str (tx w))] _;refine zov (ds:=wD [if pr=[] then [40] else [44],w]) rfl (zap ?_) rfl ?_ ⟨.im (.int (i:Nat)),.im (.str (tx w)),?_⟩
  ·unfold zb3;rw [za1 (zuq (n:=i) rfl rfl rfl) (za1 rfl rfl)]
   by_cases e : i=0
   ·rw [if_pos e,if_pos (hne.mpr e),opS]; rfl
   ·rw [if_neg e,if_neg fun z=>e (hne.mp z),cmS]; rfl
  ·rw [zdb,zdb,List.length_cons];show _ + 2<=_;omega
  ·show [_,Sl.own (wD _++wD _),_,_]=_;rw [<- ze8];rfl
 ·rintro ρ ⟨a2,a3,rfl⟩;rw [List.length_range,List.take_length];have hb:=zk7 (a:=[40]) (c:=[44]) (g:=fun a : List Nat=>[a]) (B:=1) t.2 fun _ _=>Nat.le_refl _;refine zjy (fun ρ=>ρ=[.im (thD t),.own (wD (t.1::(opW [40] [44] (fun a=>[a]) t.2++(if t.2=[] then [] else [[41]])))),a2,a3]) ?_ ?_
  ·refine zba (b:=decide ((t.2.length : Int) > 0)) (zbf (zat (zb0 (za1 (zbh rfl rfl rfl) rfl) (zjc t.2 sT)) rfl zj4)) (fun e=>?_) fun e=>zbb (k_J ?_)
   ·have e0 : t.2≠[]:=fun z=>by rw [z] at e; cases e
    rw [if_neg e0];refine zou (d:=.str ")") (xs:=wD (t.1::opW [40] [44] (fun a=>[a]) t.2)) rfl rfl (by rw [zdb,List.length_cons]; omega) (k_J ?_);show [_,Sl.own (wD _++[_]),_,_]=_;rw [clS,show [sT [41]]=wD [[41]] from rfl,<- ze8];rfl
   ·have e0 : t.2=[]:=by
     have:=of_decide_eq_false e;exact List.length_eq_zero_iff.mp (by omega)
    rw [if_pos e0,List.append_nil]
  ·rintro ρ rfl;exact zvl rfl (ztm rfl)
noncomputable def stI (p:Int×List Ti) (z:Ti) : Int×List Ti:=if z.2.1=1 then (nx p.1,p.2++[(z.1,z.2.1,decide (dr p.1 3=0))]) else (p.1,p.2++[(z.1,z.2.1,false)])
noncomputable def zbq (L:List Ti) (s:Int) : Int×List Ti:=L.foldl stI (s,[])
theorem z2e : ∀ (L:List Ti) (p:Int×List Ti),okS p.1->okS (L.foldl stI p).1/\(L.foldl stI p).2.map zce=p.2.map zce++L.map zce/\((∀ z∈p.2,zcy z)->(∀ z∈L,zcy z)->∀ z∈(L.foldl stI p).2,zcy z)
 | [],p,h=>⟨h,by simp,fun a _=>a⟩
 | z::L,p,h=>by
  have hp : okS (stI p z).1/\(stI p z).2.map zce=p.2.map zce++[zce z]/\((∀ y∈p.2,zcy y)->zcy z->∀ y∈(stI p z).2,zcy y):=by
   unfold stI;split
   ·refine ⟨zbn _,by simp [zce],fun a b y hy=>?_⟩
    rcases List.mem_append.1 hy with hy | hy
    ·exact a y hy
    ·rw [List.mem_singleton.1 hy]; exact b
   ·refine ⟨h,by simp [zce],fun a b y hy=>?_⟩
    rcases List.mem_append.1 hy with hy | hy
    ·exact a y hy
    ·rw [List.mem_singleton.1 hy]; exact b
  obtain ⟨h1,h2,h3⟩:=z2e L (stI p z) hp.1;refine ⟨h1,?_,fun a b=>h3 (hp.2.2 a (b z List.mem_cons_self)) fun y hy=>b y (List.mem_cons_of_mem _ hy)⟩;rw [List.foldl_cons,h2,hp.2.1];simp
theorem znn {L:List Ti} {s:Int} (hs:okS s) (h:∀ z∈L,zcy z) : okS (zbq L s).1/\(zbq L s).2.map zce=L.map zce/\(∀ z∈(zbq L s).2,zcy z)/\(zbq L s).2.length=L.length:=by
 obtain ⟨h1,h2,h3⟩:=z2e L (s,[]) hs;refine ⟨h1,h2,h3 (fun _ h=>by cases h) h,?_⟩;have:=congrArg List.length h2;unfold zbq
 simpa using this
theorem z6i (z:Ti) : zfg z≠[]:=by
 unfold zfg zb6
 split <;> simp
theorem z6h {z:Ti} (h:zcy z) : (zfg z).length<=9:=by
 have h1:=zjv h.1;unfold zfg
 split <;> (simp only [List.length_append,List.length_nil,List.length_singleton]; omega)
theorem znm {L:List Ti} (h:∀ z∈L,zcy z) : (zbs L).length<=L.length * 10:=ycj L fun z hz=>z6h (h z hz)
theorem zxx {L:List Ti} : zbs L=[]↔L=[]:=zrx fun z _=>z6i z
theorem z9g {f g:Xt} {ρ ρ1:List Sl} (h:f ρ=some (true,ρ1)) : zid f g ρ=some (true,ρ1):=by
 unfold zid;rw [h];rfl
theorem z9f {f g:Xt} {ρ ρ1:List Sl} {r:Option (Bool×List Sl)} (h:f ρ=some (false,ρ1)) (h2:g ρ1=r) : zid f g ρ=r:=by
 unfold zid;rw [h];exact h2
theorem z2o {f:List Sl->Option Bool} {ρ:List Sl} {b:Bool} (h:f ρ=some b) : mTX f ρ=some (b,ρ):=by
 unfold mTX;rw [h];rfl
theorem zt5 (i:Nat) (l:Addr) (s k:Int) {ρ:List Sl} {f:List Sl->Option D} (h0:ρ[i]?=some (.pin l [.int s])) (hf:f ρ=some (.int k)) (h:okS s) (hk:0 < k) : zaw i m_0 (zac (mX f) zaa) ρ=some (.int (dr s k),ρ.set i (.pin l [.int (nx s)])):=zg8 h0 (zaq (zap hf) rfl) h0 (zn4 l s k h hk)
theorem zx5 (l:Addr) (its:List Ti) (s:Int) (h:∀ z∈its,zcy z) (hl:its.length<=9) (hs:okS s) : zqh l [.lst (its.map zce)] [] [.int s]=some ([.int (zbq its s).1],.lst (wD (zbs (zbq its s).2))):=by
 generalize hS : D.lst (its.map zce)=Sc
 have w : wp b_24 [.im Sc,.pin l [.int s],.no,.no,.no] (fun o=>∃ a3 a4,o=.rtS (.lst (wD (zbs (zbq its s).2))) [.im Sc,.pin l [.int (zbq its s).1],.im (.lst (wD (zbs (zbq its s).2))),a3,a4]):=by
  unfold b_24;apply zaf;refine zhx (d:=wD (zbs (zbq [] s).2)) rfl ?_;show wp _ [.im Sc,.pin l [.int (zbq [] s).1],.own (wD (zbs (zbq [] s).2)),.no,.no] _;apply zaf;refine zg5 its zce (fun pre ρ=>∃ a3 a4,ρ=[.im Sc,.pin l [.int (zbq pre s).1],.own (wD (zbs (zbq pre s).2)),a3,a4]) (by rw [<- hS]; rfl) ⟨_,_,rfl⟩ ?_ ?_
  ·rintro pre z post ρ he ⟨a3,a4,rfl⟩;have hz : zcy z:=h z (by rw [he]; simp);have hp : ∀ y∈pre,zcy y:=fun y hy=>h y (by rw [he]; simp [hy]);have hpl : pre.length<=9:=by have:=congrArg List.length he; rw [List.length_append] at this; omega
   obtain ⟨o1,o2,o3,o4⟩:=znn hs hp;have hsn : zbq (pre++[z]) s=stI (zbq pre s) z:=by unfold zbq; rw [List.foldl_append]; rfl
   rw [hsn];generalize zbq pre s=p at o1 o2 o3 o4;have b1:=znm o3;have b2:=zjv hz.1;rw [o4] at b1;refine ⟨_,rfl,?_⟩;show wp _ [.im Sc,.pin l [.int p.1],.own (wD (zbs p.2)),.im (thD z.1),.im (.int z.2.1)] _;refine zjy (fun ρ=>ρ=[.im Sc,.pin l [.int p.1],.own (wD (if p.2=[] then [] else zbs p.2++[[44]])),.im (thD z.1),.im (.int z.2.1)]) ?_ ?_
   ·refine zba (b:=decide (((zbs p.2).length : Int) > 0)) (zbf (zat (zb0 (za1 rfl rfl) (zjc (zbs p.2) sT)) rfl zj4)) (fun e=>?_) fun e=>zbb (k_J ?_)
    ·have e0 : p.2≠[]:=fun q=>by rw [zxx.mpr q] at e; cases e
     rw [if_neg e0];refine zou (d:=.str ",") (xs:=wD (zbs p.2)) rfl rfl (by rw [zdb]; omega) (k_J ?_);show [_,_,Sl.own (wD _++[_]),_,_]=_;rw [cmS,show [sT [44]]=wD [[44]] from rfl,<- ze8]
    ·have e0 : zbs p.2=[]:=by
      have:=of_decide_eq_false e;exact List.length_eq_zero_iff.mp (by omega)
     rw [if_pos (zxx.mp e0),e0]
   ·rintro ρ rfl
    have b3 : (if p.2=[] then [] else zbs p.2++[[44]]).length<=101:=by
     split
     ·exact Nat.zero_le _
     ·simp only [List.length_append,List.length_singleton]; omega
    have hW : zbs (p.2++[(z.1,z.2.1,decide (dr p.1 3=0))])=(if p.2=[] then [] else zbs p.2++[[44]])++zfg (z.1,z.2.1,decide (dr p.1 3=0)):=z11 ..;have hW2 : zbs (p.2++[(z.1,z.2.1,false)])=(if p.2=[] then [] else zbs p.2++[[44]])++zfg (z.1,z.2.1,false):=z11 ..;generalize (if p.2=[] then [] else zbs p.2++[[44]])=X at b3 hW hW2;have hN:=zx2 hz
    have last : ∀ (q:Int) (Y:List (List Nat)),Y.length<=1->wp (zgw 2 (mX (za9 m_8 (zad (zab 3) (fun _=>some []))))) [.im Sc,.pin l [.int q],.own (wD (X++Y)),.im (thD z.1),.im (.int z.2.1)] (fun o=>o=.nx [.im Sc,.pin l [.int q],.own (wD (X++(Y++zb6 z.1))),.im (thD z.1),.im (.int z.2.1)]):=fun q Y hY=>by
     refine zov (xs:=wD (X++Y)) (ds:=wD (zb6 z.1)) rfl (zap (zb0 (za1 rfl rfl) (zr4 z.1 hz.1))) rfl (by rw [zdb,zdb,List.length_append]; omega) ?_;show Fl.nx [_,_,Sl.own (wD _++wD _),_,_]=_;rw [<- ze8,List.append_assoc]
    by_cases e1 : z.2.1=1
    ·have es : stI p z=(nx p.1,p.2++[(z.1,z.2.1,decide (dr p.1 3=0))]):=if_pos e1;rw [es];dsimp only;rw [hW];unfold zfg;dsimp only
     have et : zid (mTX (mB (m2 dNe (zab 4) (fun _=>some (.int 1))))) (mBX (mX2 dEq (zaw 1 m_0 (zac (mX (fun _=>some (.int 3))) zaa)) (mX (fun _=>some (.int 0))))) [.im Sc,.pin l [.int p.1],.own (wD X),.im (thD z.1),.im (.int z.2.1)]=some (dr p.1 3==0,[.im Sc,.pin l [.int (nx p.1)],.own (wD X),.im (thD z.1),.im (.int z.2.1)]):=by
      refine z9f (z2o (zbf (zat rfl rfl (zm8 _ _ |>.trans ?_)))) (bxX (zb5 (zt5 1 l p.1 3 rfl rfl o1 (by decide)) (zap rfl) (zew _ _)));rw [e1]; rfl
     apply zaf;refine zd9 et (fun e=>?_) fun e=>zbb ?_
     ·have e0 : dr p.1 3=0:=by simpa using e
      rw [if_neg (by rw [decide_eq_true e0]; simp)];refine zou (d:=.str (tx (za0 z.2.1))) (xs:=wD X) (by show (zab 4 _).bind zf6=_; exact zvg hN) rfl (by rw [zdb]; omega) ?_;obtain ⟨o,ho,rfl⟩:=last (nx p.1) [za0 z.2.1] (Nat.le_refl _);rw [ze8] at ho;exact ⟨_,ho,⟨_,_,rfl⟩⟩
     ·have e0 : ¬ dr p.1 3=0:=by simpa using e
      rw [if_pos ⟨e1,decide_eq_false e0⟩];obtain ⟨o,ho,rfl⟩:=last (nx p.1) [] (by decide);rw [List.append_nil] at ho;exact ⟨_,ho,⟨_,_,rfl⟩⟩
    ·have es : stI p z=(p.1,p.2++[(z.1,z.2.1,false)]):=if_neg e1;rw [es];dsimp only;rw [hW2];unfold zfg;dsimp only;rw [if_neg fun q=>e1 q.1];apply zaf;refine zd9 (b:=true) (z9g (z2o (zbf (zat rfl rfl (zm8 _ _ |>.trans ?_))))) (fun _=>?_) fun e=>by cases e
     ·rw [show (z.2.1==1)=false from beq_eq_false_iff_ne.mpr e1]; rfl
     refine zou (d:=.str (tx (za0 z.2.1))) (xs:=wD X) (by show (zab 4 _).bind zf6=_; exact zvg hN) rfl (by rw [zdb]; omega) ?_;obtain ⟨o,ho,rfl⟩:=last p.1 [za0 z.2.1] (Nat.le_refl _);rw [ze8] at ho;exact ⟨_,ho,⟨_,_,rfl⟩⟩
  ·rintro ρ ⟨a3,a4,rfl⟩;refine zg4 (ρ':=[.im Sc,.pin l [.int (zbq its s).1],.im (.lst (wD (zbs (zbq its s).2))),a3,a4]) rfl ?_;exact zc4 rfl ⟨_,_,rfl⟩
 obtain ⟨o,e,a3,a4,rfl⟩:=w;exact zd3 (ρ:=[.im Sc,.pin l [.int (zbq its s).1],.im (.lst (wD (zbs (zbq its s).2))),a3,a4]) e rfl
theorem zob (z:Str) (ps:List (List Nat×List Nat)) (hl:ps.length<=3) : zku [.str z,.lst (ps.map prD)]=some (.lst (wD (opW (cw z) [44] zd2 ps))):=by
 apply zg6;unfold b_11;show wp _ [.im (.str z),.im (.lst (ps.map prD)),.no,.no,.no] _;apply zaf;refine zhx (d:=wD (opW (cw z) [44] zd2 [])) rfl ?_;show wp _ [.im (.str z),.im (.lst (ps.map prD)),.own (wD (opW (cw z) [44] zd2 [])),.no,.no] _;apply zaf;refine zg5 ps prD (fun pre ρ=>∃ a3 a4,ρ=[.im (.str z),.im (.lst (ps.map prD)),.own (wD (opW (cw z) [44] zd2 pre)),a3,a4]) rfl ⟨_,_,rfl⟩ ?_ ?_
 ·rintro pre q post ρ he ⟨a3,a4,rfl⟩;have hpl : pre.length<=3:=by have:=congrArg List.length he; rw [List.length_append] at this; omega
  have hb:=zk7 (a:=cw z) (c:=[44]) (g:=zd2) (B:=3) pre fun _ _=>Nat.le_refl _;refine ⟨_,rfl,?_⟩;show wp _ [.im (.str z),.im (.lst (ps.map prD)),.own (wD (opW (cw z) [44] zd2 pre)),.im (.str (tx q.1)),.im (.str (tx q.2))] _;rw [zuj];have hne : opW (cw z) [44] zd2 pre=[]↔pre=[]:=zzy;generalize opW (cw z) [44] zd2 pre=X at hb hne;refine zov (ds:=wD ((if pre=[] then cw z else [44])::zd2 q)) rfl (zap ?_) rfl ?_ ⟨.im (.str (tx q.1)),.im (.str (tx q.2)),?_⟩
  ·unfold zb3;rw [za1 (zuq (n:=X.length) rfl rfl (zb0 (za1 rfl rfl) (zjc X sT))) (za1 rfl (za1 rfl (za1 rfl rfl)))]
   by_cases e : pre=[]
   ·rw [if_pos e,hne.mpr e,if_pos (show ([] : List (List Nat)).length=0 from rfl),cwD z,cwD "in"]; rfl
   ·rw [if_neg e,if_neg fun q=>e (hne.mp (List.length_eq_zero_iff.mp q)),cmS,cwD "in"]; rfl
  ·rw [zdb,zdb];show _ + 4<=_;omega
  ·show [_,_,Sl.own (wD _++wD _),_,_]=_;rw [<- ze8]
 ·rintro ρ ⟨a3,a4,rfl⟩;exact zvl rfl (ztm rfl)
noncomputable def prS (s:Int) : Pa->Int×Pa
 | .ct w n its ov=>((zbq its s).1,.ct w n (zbq its s).2 ov)
 | p=>(s,p)
theorem z0m {p:Pa} {s:Int} (hs:okS s) (h:zdg p) : okS (prS s p).1/\zdg (prS s p).2/\(prS s p).2.toD=p.toD/\(prS s p).2.unl=p.unl:=by
 cases p with
 | ct w n its ov =>
  obtain ⟨h1,h2,h3,h4⟩:=h;obtain ⟨o1,o2,o3,o4⟩:=znn hs h2;refine ⟨o1,⟨h1,o3,by rw [o4]; exact h3,h4⟩,?_,rfl⟩;show D.tup [_,_,.lst ((zbq its s).2.map zce),_]=_;rw [o2]
  rfl
 | _=>exact ⟨hs,h,rfl,rfl⟩
theorem yao (q:List Nat×List Nat) : zd2 q≠[]:=fun e=>by cases e
theorem zhs (a:List Nat) (ps:List (List Nat×List Nat)) : zbg a (zbo ps)=opW a [44] zd2 ps:=zui fun q _=>yao q
theorem zm3 (a:List Nat) (bd:List Pa) : zbg a (bWd bd)=opW a (cw "and") pWd bd:=zui fun q _=>zz1 q
theorem zht (a:List Nat) {ps:List (List Nat×List Nat)} (h:ps.length<=3) : (opW a [44] zd2 ps).length<=12:=by
 have:=zk7 (a:=a) (c:=[44]) (g:=zd2) (B:=3) ps fun _ _=>Nat.le_refl _;omega
theorem zz0 {p:Pa} (h:zdg p) : (pWd p).length<=105:=by
 cases p with
 | is t=>have:=zjv (t:=t) h; show (zb6 t).length<=105; omega
 | no t=>have:=zjv (t:=t) h; show (cw "not" :: zb6 t).length<=105; rw [List.length_cons]; omega
 | un a b=>show 3<=105; decide
 | ct w n its ov =>
  obtain ⟨h1,h2,h3,h4,h5⟩:=h;have a1:=znm h2;have a2:=zht (cw "over") (ps:=ov) (by omega);show ([cw (ctS w),za0 n,cw "of"]++(zbs its++zbg (cw "over") (zbo ov))).length<=105;rw [zhs];simp only [List.length_append,List.length_cons,List.length_nil];omega
theorem eqZ {a b:Str} {t:Bool} (h:decide (cw a=cw b)=t) : dEq (.str a) (.str b)=some (.bl t):=by
 rw [cwD a,cwD b,eqT,h]
theorem m1S {f:List Sl->Option D} {ρ:List Sl} {n:Int} (h:f ρ=some (.int n)) (hn:zdy n) : m1 zf6 f ρ=some (.str (tx (za0 n))):=by
 unfold m1;rw [h];exact zvg hn
theorem z9j (l:Addr) (p:Pa) (s:Int) (h:zdg p) (hs:okS s) : ztz l [p.toD] [] [.int s]=some ([.int (prS s p).1],.lst (wD (pWd (prS s p).2))):=by
 have w : wp b_55 [.im p.toD,.pin l [.int s],.no] (fun o=>∃ a2,o=.rtS (.lst (wD (pWd (prS s p).2))) [.im p.toD,.pin l [.int (prS s p).1],a2]):=by
  unfold b_55
  cases p with
  | un a b =>
   apply zaf;refine zba (b:=true) (zbf (zat (zbh rfl rfl rfl) rfl rfl)) (fun _=>?_) fun e=>by cases e
   refine zc4 (d:=.lst (wD [a,cw "unlike",b])) ?_ ⟨_,rfl⟩;unfold zb3;rw [za1 (zbh rfl rfl rfl) (za1 rfl (za1 (zbh rfl rfl rfl) rfl)),cwD "unlike"]
   rfl
  | is t =>
   apply zaf;refine zba (b:=false) (zbf (zat (zbh rfl rfl rfl) rfl (eqZ (by decide +kernel)))) (fun e=>by cases e) fun _=>zbb ?_;apply zaf;refine zba (b:=true) (zbf (zat (zbh rfl rfl rfl) rfl (eqZ (by decide +kernel)))) (fun _=>?_) fun e=>by cases e
   exact zc4 (zb0 (za1 (zbh rfl rfl rfl) rfl) (zr4 t h)) ⟨_,rfl⟩
  | no t =>
   have hb:=zjv (t:=t) h;apply zaf;refine zba (b:=false) (zbf (zat (zbh rfl rfl rfl) rfl (eqZ (by decide +kernel)))) (fun e=>by cases e) fun _=>zbb ?_;apply zaf;refine zba (b:=false) (zbf (zat (zbh rfl rfl rfl) rfl (eqZ (by decide +kernel)))) (fun e=>by cases e) fun _=>zbb ?_;apply zaf;refine zba (b:=true) (zbf (zat (zbh rfl rfl rfl) rfl (eqZ (by decide +kernel)))) (fun _=>?_) fun e=>by cases e
   refine zc4 (d:=.lst (wD (cw "not" :: zb6 t))) ?_ ⟨_,rfl⟩;have e : zft (zb3 (zad (fun _=>some (.str "not")) (fun _=>some []))) (za9 m_8 (zad (mIx (zbk 0) (fun _=>some (.int 1))) (fun _=>some []))) [.im (Pa.toD (.no t)),.pin l [.int s],.no]=some ([.str "not"]++wD (zb6 t)):=zsi rfl (zb0 (za1 (zbh rfl rfl rfl) rfl) (zr4 t h)) (by rw [zdb]; show 1 + _<=_; omega);show (zft _ _ _).map D.lst=_;rw [e,cwD "not"]
   rfl
  | ct w n its ov =>
   obtain ⟨h1,h2,h3,h4,h5⟩:=h;obtain ⟨o1,o2,o3,o4⟩:=znn hs h2;have b1:=znm o3;have b2:=zht (cw "over") (ps:=ov) (by omega);rw [o4] at b1
   have ne : ∀ z : Str,z="unlike" \/ z="is" \/ z="not" -> dEq (.str (ctS w)) (.str z)=some (.bl false):=fun z hz=>by
    rcases hz with rfl | rfl | rfl <;> (cases w <;> exact eqZ (by decide +kernel))
   apply zaf;refine zba (b:=false) (zbf (zat (zbh rfl rfl rfl) rfl (ne _ (by simp)))) (fun e=>by cases e) fun _=>zbb ?_;apply zaf;refine zba (b:=false) (zbf (zat (zbh rfl rfl rfl) rfl (ne _ (by simp)))) (fun e=>by cases e) fun _=>zbb ?_;apply zaf;refine zba (b:=false) (zbf (zat (zbh rfl rfl rfl) rfl (ne _ (by simp)))) (fun e=>by cases e) fun _=>zbb ?_
   have e0 : mX (zb3 (zad (mIx (zbk 0) (fun _=>some (.int 0))) (zad (m1 zf6 (mIx (zbk 0) (fun _=>some (.int 1)))) (zad (fun _=>some (.str "of")) (fun _=>some []))))) [.im (Pa.toD (.ct w n its ov)),.pin l [.int s],.no]=some (.lst (wD [cw (ctS w),za0 n,cw "of"]),[.im (Pa.toD (.ct w n its ov)),.pin l [.int s],.no]):=by
    refine zap ?_;unfold zb3;rw [za1 (zbh rfl rfl rfl) (za1 (m1S (zbh rfl rfl rfl) h1) (za1 rfl rfl)),cwD "of",cwD (ctS w)];rfl
   apply zaf;refine zbu (zb5 e0 (zj2 rfl (zaq (zap (zbh rfl rfl rfl)) rfl) rfl (zx5 l its s h2 h3.2 hs)) (d:=.lst (wD ([cw (ctS w),za0 n,cw "of"]++zbs (zbq its s).2))) ?_) ?_
   ·show (if (wD [cw (ctS w),za0 n,cw "of"]).length + (wD (zbs (zbq its s).2)).length<=16777216 then some (D.lst (wD _++wD _)) else none)=_;rw [if_pos (by rw [zdb,zdb]; show 3 + _<=_; omega),ze8]
   ·show wp _ [.im (Pa.toD (.ct w n its ov)),.pin l [.int (zbq its s).1],.im (.lst (wD ([cw (ctS w),za0 n,cw "of"]++zbs (zbq its s).2)))] _;refine zc4 (d:=.lst (wD (pWd (prS s (.ct w n its ov)).2))) (zat rfl (zb0 (za1 rfl (za1 (zbh rfl rfl rfl) rfl)) (zob "over" ov (by omega))) ?_) ⟨_,rfl⟩;show (if (wD ([cw (ctS w),za0 n,cw "of"]++zbs (zbq its s).2)).length + (wD (opW (cw "over") [44] zd2 ov)).length<=16777216 then some (D.lst (wD _++wD _)) else none)=_;rw [if_pos (by rw [zdb,zdb,List.length_append]; show 3 + _ + _<=_; omega),<- ze8];show _=some (D.lst (wD ([cw (ctS w),za0 n,cw "of"]++(zbs (zbq its s).2++zbg (cw "over") (zbo ov)))));rw [zhs,List.append_assoc]
 obtain ⟨o,e,a2,rfl⟩:=w;exact zd3 (ρ:=[.im p.toD,.pin l [.int (prS s p).1],a2]) e rfl
noncomputable def stB (p:Int×List Pa) (q:Pa) : Int×List Pa:=((prS p.1 q).1,p.2++[(prS p.1 q).2])
noncomputable def bdS (L:List Pa) (s:Int) : Int×List Pa:=L.foldl stB (s,[])
theorem z2d : ∀ (L:List Pa) (p:Int×List Pa),okS p.1->(∀ q∈L,zdg q)->okS (L.foldl stB p).1/\(L.foldl stB p).2.map Pa.toD=p.2.map Pa.toD++L.map Pa.toD/\(L.foldl stB p).2.map Pa.unl=p.2.map Pa.unl++L.map Pa.unl/\((∀ z∈p.2,zdg z)->∀ z∈(L.foldl stB p).2,zdg z)
 | [],p,h,_=>⟨h,by simp,by simp,fun a=>a⟩
 | q::L,p,h,hL=>by
  obtain ⟨a1,a2,a3,a4⟩:=z0m h (hL q List.mem_cons_self);obtain ⟨h1,h2,h3,h4⟩:=z2d L (stB p q) a1 fun y hy=>hL y (List.mem_cons_of_mem _ hy);refine ⟨h1,?_,?_,fun b=>h4 fun z hz=>?_⟩
  ·rw [List.foldl_cons,h2];show (p.2++[(prS p.1 q).2]).map Pa.toD++_=_;simp [a3]
  ·rw [List.foldl_cons,h3];show (p.2++[(prS p.1 q).2]).map Pa.unl++_=_;simp [a4]
  ·rcases List.mem_append.1 hz with hz | hz
   ·exact b z hz
   ·rw [List.mem_singleton.1 hz]; exact a2
theorem zo5 {L:List Pa} {s:Int} (hs:okS s) (h:∀ q∈L,zdg q) : okS (bdS L s).1/\(bdS L s).2.map Pa.toD=L.map Pa.toD/\(bdS L s).2.map Pa.unl=L.map Pa.unl/\(∀ z∈(bdS L s).2,zdg z)/\(bdS L s).2.length=L.length:=by
 obtain ⟨h1,h2,h3,h4⟩:=z2d L (s,[]) hs h;refine ⟨h1,h2,h3,h4 (fun _ h=>by cases h),?_⟩;have:=congrArg List.length h2;unfold bdS
 simpa using this
theorem zvz (a:List Nat) {bd:List Pa} (h:∀ q∈bd,zdg q) : (opW a (cw "and") pWd bd).length<=bd.length * 106:=zk7 bd fun q hq=>zz0 (h q hq)
theorem zsh (l:Addr) (z:Str) (bd:List Pa) (s:Int) (h:zdm bd) (hs:okS s) : zqj l [.str z,.lst (bd.map Pa.toD)] [] [.int s]=some ([.int (bdS bd s).1],.lst (wD (opW (cw z) (cw "and") pWd (bdS bd s).2))):=by
 obtain ⟨h1,h2⟩:=h;generalize hS : D.lst (bd.map Pa.toD)=Sc
 have w : wp b_34 [.im (.str z),.im Sc,.pin l [.int s],.no,.no] (fun o=>∃ a4,o=.rtS (.lst (wD (opW (cw z) (cw "and") pWd (bdS bd s).2))) [.im (.str z),.im Sc,.pin l [.int (bdS bd s).1],.im (.lst (wD (opW (cw z) (cw "and") pWd (bdS bd s).2))),a4]):=by
  unfold b_34;apply zaf;refine zhx (d:=wD (opW (cw z) (cw "and") pWd (bdS [] s).2)) rfl ?_;show wp _ [.im (.str z),.im Sc,.pin l [.int (bdS [] s).1],.own (wD (opW (cw z) (cw "and") pWd (bdS [] s).2)),.no] _;apply zaf;refine zg5 bd Pa.toD (fun pre ρ=>∃ a4,ρ=[.im (.str z),.im Sc,.pin l [.int (bdS pre s).1],.own (wD (opW (cw z) (cw "and") pWd (bdS pre s).2)),a4]) (by rw [<- hS]; rfl) ⟨_,rfl⟩ ?_ ?_
  ·rintro pre q post ρ he ⟨a4,rfl⟩;have hq : zdg q:=h1 q (by rw [he]; simp);have hp : ∀ y∈pre,zdg y:=fun y hy=>h1 y (by rw [he]; simp [hy]);have hpl : pre.length<=4:=by have:=congrArg List.length he; rw [List.length_append] at this; omega
   obtain ⟨o1,o2,_,o3,o4⟩:=zo5 hs hp;have hsn : bdS (pre++[q]) s=stB (bdS pre s) q:=by unfold bdS; rw [List.foldl_append]; rfl
   rw [hsn];generalize bdS pre s=p at o1 o2 o3 o4;have b1:=zvz (cw z) o3;rw [o4] at b1;obtain ⟨q1,q2,_,_⟩:=z0m o1 hq;have b2:=zz0 q2;unfold stB;dsimp only;rw [zuj];have hne : opW (cw z) (cw "and") pWd p.2=[]↔p.2=[]:=zzy;generalize opW (cw z) (cw "and") pWd p.2=X at b1 hne;refine ⟨_,rfl,?_⟩;show wp _ [.im (.str z),.im Sc,.pin l [.int p.1],.own (wD X),.im q.toD] _;apply zaf
   have ed : (if X.length=0 then D.str z else D.str "and")=sT (if p.2=[] then cw z else cw "and"):=by
    by_cases e : p.2=[]
    ·rw [if_pos e,hne.mpr e,if_pos (show ([] : List (List Nat)).length=0 from rfl),cwD z]
    ·rw [if_neg e,if_neg fun y=>e (hne.mp (List.length_eq_zero_iff.mp y)),cwD "and"]
   refine zou (d:=sT (if p.2=[] then cw z else cw "and")) (xs:=wD X) (by rw [<- ed]; exact zuq (n:=X.length) rfl rfl (zb0 (za1 rfl rfl) (zjc X sT))) rfl (by rw [zdb]; omega) ?_;show wp _ [.im (.str z),.im Sc,.pin l [.int p.1],.own (wD X++wD [if p.2=[] then cw z else cw "and"]),.im q.toD] _;rw [<- ze8];refine zov (xs:=wD (X++[if p.2=[] then cw z else cw "and"])) rfl (zj2 rfl (zaq (zap rfl) rfl) rfl (z9j l q p.1 hq o1)) rfl (by rw [zdb,zdb,List.length_append,List.length_singleton]; omega) ⟨.im q.toD,?_⟩;show [_,_,_,Sl.own (wD _++wD _),_]=_;rw [<- ze8,List.append_assoc];rfl
  ·rintro ρ ⟨a4,rfl⟩;refine zg4 (ρ':=[.im (.str z),.im Sc,.pin l [.int (bdS bd s).1],.im (.lst (wD (opW (cw z) (cw "and") pWd (bdS bd s).2))),a4]) rfl ?_;exact zc4 rfl ⟨_,rfl⟩
 obtain ⟨o,e,a4,rfl⟩:=w;exact zd3 (ρ:=[.im (.str z),.im Sc,.pin l [.int (bdS bd s).1],.im (.lst (wD (opW (cw z) (cw "and") pWd (bdS bd s).2))),a4]) e rfl
noncomputable def roS (s:Int) : Ro->Int×Ro
 | .kind n ns=>(s,.kind n ns)
 | .rule b t bd ps=>((bdS bd s).1,.rule b t (bdS bd s).2 ps)
 | .choose lo hi its ov bd ps=>((bdS bd (zbq its s).1).1,.choose lo hi (zbq its s).2 ov (bdS bd (zbq its s).1).2 ps)
 | .never bd ps=>((bdS bd s).1,.never (bdS bd s).2 ps)
theorem zj1 {bd:List Pa} {s:Int} (hs:okS s) (h:zdm bd) : okS (bdS bd s).1/\zdm (bdS bd s).2/\(bdS bd s).2.map Pa.toD=bd.map Pa.toD:=by
 obtain ⟨a,b,_,c,d⟩:=zo5 hs h.1;exact ⟨a,⟨c,by rw [d]; exact h.2⟩,b⟩
theorem ybp {r:Ro} {s:Int} (hs:okS s) (h:zfn r) : okS (roS s r).1/\zfn (roS s r).2/\(roS s r).2.toD=r.toD:=by
 cases r with
 | kind n ns=>exact ⟨hs,h,rfl⟩
 | rule b t bd ps =>
  obtain ⟨h1,h2,h3⟩:=h;obtain ⟨a,c,d⟩:=zj1 hs h2;refine ⟨a,⟨h1,c,h3⟩,?_⟩;show D.tup [_,_,.lst ((bdS bd s).2.map Pa.toD),_]=_
  rw [d]; rfl
 | choose lo hi its ov bd ps =>
  obtain ⟨h1,h2,h3,h4,h5⟩:=h;obtain ⟨o1,o2,o3,o4⟩:=znn hs h2.1;obtain ⟨a,c,d⟩:=zj1 o1 h4;refine ⟨a,⟨h1,⟨o3,by rw [o4]; exact h2.2⟩,h3,c,h5⟩,?_⟩;show D.tup [_,_,_,.lst ((zbq its s).2.map zce),_,.lst ((bdS bd (zbq its s).1).2.map Pa.toD),_]=_
  rw [d,o2]; rfl
 | never bd ps =>
  obtain ⟨h1,h2,h3⟩:=h;obtain ⟨a,c,d⟩:=zj1 hs h1;refine ⟨a,⟨c,?_,h3⟩,?_⟩
  ·obtain ⟨p,hp,e⟩:=h2;have hm : false∈bd.map Pa.unl:=List.mem_map.2 ⟨p,hp,e⟩;rw [<- (zo5 hs h1.1).2.2.1] at hm;obtain ⟨q,hq,e'⟩:=List.mem_map.1 hm;exact ⟨q,hq,e'⟩
  ·show D.tup [_,.lst ((bdS bd s).2.map Pa.toD),_]=_;rw [d]; rfl
theorem znp {a b:List (List Nat)} (h:a.length + b.length<=100000) : zcf (.lst (wD a)) (.lst (wD b))=some (.lst (wD (a++b))):=by
 show (if (wD a).length + (wD b).length<=16777216 then some (D.lst (wD a++wD b)) else none)=_;rw [if_pos (by rw [zdb,zdb]; omega),ze8]
theorem zm4 (a:List Nat) {bd:List Pa} (h:zdm bd) : (opW a (cw "and") pWd bd).length<=424:=by
 have:=zvz a h.1;have:=h.2;omega
theorem yea (l:Addr) (r:Ro) (s:Int) (h:zfn r) (hs:okS s) : zqq l [r.toD] [] [.int s]=some ([.int (roS s r).1],.lst (wD (zda (roS s r).2))):=by
 have w : wp b_51 [.im r.toD,.pin l [.int s],.no] (fun o=>∃ a2,o=.rtS (.lst (wD (zda (roS s r).2))) [.im r.toD,.pin l [.int (roS s r).1],a2]):=by
  unfold b_51
  cases r with
  | kind n ns =>
   obtain ⟨h1,h2,h3,h4⟩:=h;apply zaf;refine zba (b:=true) (zbf (zat (zbh rfl rfl rfl) rfl (eqZ (by decide +kernel)))) (fun _=>?_) fun e=>by cases e
   refine zc4 (d:=.lst (wD (cw "kind" :: n::ns))) ?_ ⟨_,rfl⟩;show (zft _ _ _).map D.lst=_;rw [zsi (a:=[.str "kind",.str (tx n)]) (b:=ns.map sT) ?_ (zbh rfl rfl rfl) (by rw [List.length_map]; show 2 + _<=_; omega),cwD "kind"]
   ·rfl
   ·show (zad _ _ _).map D.lst=_;rw [za1 rfl (za1 (zbh rfl rfl rfl) rfl)]
    rfl
  | never bd ps =>
   obtain ⟨h1,h2,h3⟩:=h;obtain ⟨a,c,d⟩:=zj1 hs h1;have b1:=zm4 (cw "never") c;have b2:=zht (cw "for") h3.2;apply zaf;refine zba (b:=false) (zbf (zat (zbh rfl rfl rfl) rfl (eqZ (by decide +kernel)))) (fun e=>by cases e) fun _=>zbb ?_;apply zaf;refine zba (b:=true) (zbf (zat (zbh rfl rfl rfl) rfl (eqZ (by decide +kernel)))) (fun _=>?_) fun e=>by cases e
   refine zbx (d:=.lst (wD (zda (roS s (.never bd ps)).2))) (zb5 (zj2 rfl (zaq (zap rfl) (zaq (zap (zbh rfl rfl rfl)) rfl)) rfl (zsh l "never" bd s h1 hs)) (zap (zb0 (za1 rfl (za1 (zbh rfl rfl rfl) rfl)) (zob "for" ps h3.2))) ?_) ⟨_,rfl⟩;rw [znp (by omega),<- zm3,<- zhs]
   have hne : bWd (bdS bd s).2≠[]:=fun e=>by
    have e2:=zvy.mp e;obtain ⟨p,hp,_⟩:=h2;have:=(zo5 hs h1.1).2.2.2.2;rw [e2] at this;rw [List.length_eq_zero_iff.mp this.symm] at hp;cases hp
   show some (D.lst (wD (zbg (cw "never") (bWd (bdS bd s).2)++_)))=some (.lst (wD (cw "never" :: (bWd (bdS bd s).2++zbg (cw "for") (zbo ps)))));rw [show zbg (cw "never") (bWd (bdS bd s).2)=cw "never" :: bWd (bdS bd s).2 from if_neg hne]
   rfl
  | choose lo hi its ov bd ps =>
   obtain ⟨h1,h2,h3,h4,h5⟩:=h;obtain ⟨o1,o2,o3,o4⟩:=znn hs h2.1;obtain ⟨a,c,d⟩:=zj1 o1 h4;have b0:=znm o3;rw [o4] at b0;have b1:=zm4 (cw "if") c;have b2:=zht (cw "for") h5.2;have b3:=zht (cw "over") (ps:=ov) (by have:=h3.2; omega);apply zaf;refine zba (b:=false) (zbf (zat (zbh rfl rfl rfl) rfl (eqZ (by decide +kernel)))) (fun e=>by cases e) fun _=>zbb ?_;apply zaf;refine zba (b:=false) (zbf (zat (zbh rfl rfl rfl) rfl (eqZ (by decide +kernel)))) (fun e=>by cases e) fun _=>zbb ?_;refine zjy (fun ρ=>ρ=[.im (Ro.toD (.choose lo hi its ov bd ps)),.pin l [.int (zbq its s).1],.own (wD ([cw "choose",za0 lo,cw "to",za0 hi,cw "of"]++zbs (zbq its s).2++opW (cw "over") [44] zd2 ov))]) ?_ ?_
   ·refine zba (b:=true) (zbf (zat (zbh rfl rfl rfl) rfl (eqZ (by decide +kernel)))) (fun _=>?_) fun e=>by cases e
    apply zaf;refine yeh (xs:=wD [cw "choose",za0 lo,cw "to",za0 hi,cw "of"]) (zap ?_) (zj2 rfl (zaq (zap (zbh rfl rfl rfl)) rfl) rfl (zx5 l its s h2.1 h2.2.2 hs)) (by rw [zdb,zdb]; show 5 + _<=_; omega) ?_
    ·show (zad _ _ _).map D.lst=_;rw [za1 rfl (za1 (m1S (zbh rfl rfl rfl) h1.1) (za1 rfl (za1 (m1S (zbh rfl rfl rfl) h1.2) (za1 rfl rfl)))),cwD "choose",cwD "to",cwD "of"];rfl
    show wp _ [_,.pin l [.int (zbq its s).1],.own (wD _++wD _)] _;rw [<- ze8];refine zov (xs:=wD ([cw "choose",za0 lo,cw "to",za0 hi,cw "of"]++zbs (zbq its s).2)) rfl (zap (zb0 (za1 rfl (za1 (zbh rfl rfl rfl) rfl)) (zob "over" ov (by have:=h3.2; omega)))) rfl (by rw [zdb,zdb,List.length_append]; show 5 + _ + _<=_; omega) (k_J ?_);show [_,_,Sl.own (wD _++wD _)]=_;rw [<- ze8]
   ·rintro ρ rfl;refine zg4 (ρ':=[.im (Ro.toD (.choose lo hi its ov bd ps)),.pin l [.int (zbq its s).1],.im (.lst (wD ([cw "choose",za0 lo,cw "to",za0 hi,cw "of"]++zbs (zbq its s).2++opW (cw "over") [44] zd2 ov)))]) rfl ?_;refine zbx (d:=.lst (wD (zda (roS s (.choose lo hi its ov bd ps)).2))) (zb5 (zb5 (zap rfl) (zj2 rfl (zaq (zap rfl) (zaq (zap (zbh rfl rfl rfl)) rfl)) rfl (zsh l "if" bd (zbq its s).1 h4 o1)) (znp (by rw [List.length_append,List.length_append]; show 5 + _ + _ + _<=_; omega))) (zap (zb0 (za1 rfl (za1 (zbh rfl rfl rfl) rfl)) (zob "for" ps h5.2))) ?_) ⟨_,rfl⟩;rw [znp (by rw [List.length_append,List.length_append,List.length_append]; show 5 + _ + _ + _ + _<=_; omega),<- zm3,<- zhs,<- zhs]
    congr 3
    show _=[cw "choose",za0 lo,cw "to",za0 hi,cw "of"]++((zbs (zbq its s).2++zbg (cw "over") (zbo ov))++(zbg (cw "if") (bWd (bdS bd (zbq its s).1).2)++zbg (cw "for") (zbo ps)))
    simp only [List.append_assoc]
  | rule b t bd ps =>
   obtain ⟨h1,h2,h3⟩:=h;obtain ⟨a,c,d⟩:=zj1 hs h2;have b0:=zjv h1;have b1:=zm4 (cw "if") c;have b2:=zht (cw "for") h3.2
   have ne : ∀ z : Str,z="kind" \/ z="never" \/ z="choose" -> dEq (.str (ruS b)) (.str z)=some (.bl false):=fun z hz=>by
    rcases hz with rfl | rfl | rfl <;> (cases b <;> exact eqZ (by decide +kernel))
   apply zaf;refine zba (b:=false) (zbf (zat (zbh rfl rfl rfl) rfl (ne _ (by simp)))) (fun e=>by cases e) fun _=>zbb ?_;apply zaf;refine zba (b:=false) (zbf (zat (zbh rfl rfl rfl) rfl (ne _ (by simp)))) (fun e=>by cases e) fun _=>zbb ?_;refine zjy (fun ρ=>ρ=[.im (Ro.toD (.rule b t bd ps)),.pin l [.int s],.own (wD ([cw (ruS b)]++zb6 t))]) ?_ ?_
   ·refine zba (b:=false) (zbf (zat (zbh rfl rfl rfl) rfl (ne _ (by simp)))) (fun e=>by cases e) fun _=>?_;refine zhx (d:=[.str (ruS b)]++wD (zb6 t)) (zsi ?_ (zb0 (za1 (zbh rfl rfl rfl) rfl) (zr4 t h1)) (by rw [zdb]; show 1 + _<=_; omega)) (k_J ?_)
    ·show (zad _ _ _).map D.lst=_;rw [za1 (zbh rfl rfl rfl) rfl];rfl
    ·rw [cwD (ruS b)];rfl
   ·rintro ρ rfl;refine zg4 (ρ':=[.im (Ro.toD (.rule b t bd ps)),.pin l [.int s],.im (.lst (wD ([cw (ruS b)]++zb6 t)))]) rfl ?_;refine zbx (d:=.lst (wD (zda (roS s (.rule b t bd ps)).2))) (zb5 (zb5 (zap rfl) (zj2 rfl (zaq (zap rfl) (zaq (zap (zbh rfl rfl rfl)) rfl)) rfl (zsh l "if" bd s h2 hs)) (znp (by rw [List.length_append]; show 1 + _ + _<=_; omega))) (zap (zb0 (za1 rfl (za1 (zbh rfl rfl rfl) rfl)) (zob "for" ps h3.2))) ?_) ⟨_,rfl⟩;rw [znp (by rw [List.length_append,List.length_append]; show 1 + _ + _ + _<=_; omega),<- zm3,<- zhs]
    congr 3
    show _=cw (ruS b)::(zb6 t++(zbg (cw "if") (bWd (bdS bd s).2)++zbg (cw "for") (zbo ps)));simp only [List.append_assoc,List.singleton_append];rfl
 obtain ⟨o,e,a2,rfl⟩:=w;exact zd3 (ρ:=[.im r.toD,.pin l [.int (roS s r).1],a2]) e rfl
noncomputable def lon (w:List Nat) : Bool:=decide (w=[40]) || decide (w=[41]) || decide (w=[44])
noncomputable def GW (w:List Nat) : Prop:=((plain w/\w≠[])\/lon w=true)/\w.length<=31
noncomputable def gap (s:Int) (w last:List Nat) : Int:=if dr s 3=0/\lon w=false/\lon last=false then 1 else dr s 3
noncomputable def stL (p:Int×List Nat×List Nat) (w:List Nat) : Int×List Nat×List Nat:=(nx p.1,p.2.1++(List.replicate (gap p.1 w p.2.2).toNat 32++w),w)
noncomputable def lnS (W:List (List Nat)) (s:Int) : Int×List Nat×List Nat:=W.foldl stL (s,[],[40])
noncomputable def lnP (W:List (List Nat)) (s:Int) : Int×List Nat:=(nx (lnS W s).1,(lnS W s).2.1++List.replicate (dr (lnS W s).1 3).toNat 32)
theorem zta (s:Int) (w last:List Nat) : 0<=gap s w last/\gap s w last < 3:=by
 have:=zbv s (k:=3) (by decide);unfold gap;split
 ·exact ⟨by decide,by decide⟩
 ·exact this
theorem z5p {s:Int} {w last:List Nat} (h:gap s w last=0) : lon w=true\/lon last=true:=by
 unfold gap at h;split at h
 ·cases h
 ·rename_i q
  cases e1 : lon w with
  | true=>exact .inl rfl
  | false =>
   cases e2 : lon last with
   | true=>exact .inr rfl
   | false=>exact absurd ⟨h,e1,e2⟩ q
theorem zts {w:List Nat} (h:lon w=true) : ∃ c,zgb c=true/\w=[c]:=by
 unfold lon at h;simp only [Bool.or_eq_true,decide_eq_true_eq] at h
 rcases h with (h | h) | h
 ·exact ⟨40,rfl,h⟩
 ·exact ⟨41,rfl,h⟩
 ·exact ⟨44,rfl,h⟩
theorem z66 {w:List Nat} (h:plain w) : lon w=false:=by
 cases e : lon w with
 | false=>rfl
 | true =>
  obtain ⟨c,hc,rfl⟩:=zts e;have:=(h c List.mem_cons_self).2;rw [hc] at this;cases this
noncomputable def brk (r:List Nat) : Prop:=r=[]\/∃ x q,r=x::q/\(x=32\/zgb x=true)
theorem yej {w:List Nat} (h:plain w) (hn:w≠[]) {r:List Nat} (hr:brk r) : ws (w++r) []=w::ws r []:=by
 rw [z3c w r [] h,List.nil_append]
 rcases hr with rfl | ⟨x,q,rfl,rfl | hx⟩
 ·show fl w=w::fl [];unfold fl;rw [if_neg hn];rfl
 ·have e:=z3b 0 q w;have e2:=z3b 0 q [];rw [show List.replicate (0 + 1) 32++q=32::q from rfl] at e e2;rw [e,e2];unfold fl;rw [if_neg hn];rfl
 ·rw [zvm q w hx,zvm q [] hx];unfold fl;rw [if_neg hn];rfl
theorem zyo : ∀ (W:List (List Nat)) (p:Int×List Nat×List Nat) (V:List (List Nat)),(∀ w∈W,GW w)->(∀ r,brk r\/lon p.2.2=true->ws (p.2.1++r) []=V++ws r [])->∀ r,brk r\/lon (W.foldl stL p).2.2=true->ws ((W.foldl stL p).2.1++r) []=V++W++ws r []
 | [],p,V,_,h=>fun r hr=>by rw [List.append_nil]; exact h r hr
 | w::W,p,V,hW,h=>by
  have hw:=(hW w List.mem_cons_self).1;have:=zyo W (stL p w) (V++[w]) (fun y hy=>hW y (List.mem_cons_of_mem _ hy)) fun r hr=>?_
  ·intro r hr;rw [List.foldl_cons] at hr ⊢;rw [this r hr];simp
  ·show ws (p.2.1++(List.replicate (gap p.1 w p.2.2).toNat 32++w)++r) []=_;replace hr : brk r\/lon w=true:=hr;have hg:=zta p.1 w p.2.2;rw [List.append_assoc,List.append_assoc,h]
   ·rw [zr8]
    rcases hw with ⟨hp,hn⟩ | hl
    ·have hb : brk r:=hr.resolve_right fun e=>by rw [z66 hp] at e; cases e
     rw [yej hp hn hb];simp
    ·obtain ⟨c,hc,rfl⟩:=zts hl;show V++ws (c::r) []=_;rw [zvm r [] hc];show V++([]++_)=_;simp
   ·by_cases e0 : gap p.1 w p.2.2=0
    ·rcases z5p e0 with hl | hl
     ·obtain ⟨c,hc,rfl⟩:=zts hl;rw [e0];exact .inl (.inr ⟨c,r,rfl,.inr hc⟩)
     ·exact .inr hl
    ·obtain ⟨n,hn⟩ : ∃ n,(gap p.1 w p.2.2).toNat=n + 1:=⟨(gap p.1 w p.2.2).toNat - 1,by omega⟩;rw [hn];exact .inl (.inr ⟨32,_,rfl,.inl rfl⟩)
theorem z64 {W:List (List Nat)} (s:Int) (h:∀ w∈W,GW w) : ws (lnP W s).2 []=W:=by
 have:=zyo W (s,[],[40]) [] h (fun r _=>rfl) (List.replicate (dr (lnS W s).1 3).toNat 32) (.inl ?_)
 ·refine this.trans ?_;have e:=zr8 (dr (lnS W s).1 3).toNat [];rw [List.append_nil] at e;rw [e];show []++W++fl []=W;simp [fl]
 ·cases (dr (lnS W s).1 3).toNat with
  | zero=>exact .inl rfl
  | succ n=>exact .inr ⟨32,_,rfl,.inl rfl⟩
theorem zyp : ∀ (W:List (List Nat)) (p:Int×List Nat×List Nat),okS p.1->(∀ w∈W,GW w)->okS (W.foldl stL p).1/\(W.foldl stL p).2.1.length<=p.2.1.length + W.length * 33
 | [],p,h,_=>⟨h,Nat.le_refl _⟩
 | w::W,p,h,hW=>by
  have hg:=zta p.1 w p.2.2;have hw:=(hW w List.mem_cons_self).2;obtain ⟨a,b⟩:=zyp W (stL p w) (zbn _) fun y hy=>hW y (List.mem_cons_of_mem _ hy);refine ⟨a,?_⟩;rw [List.foldl_cons];replace b : _<=(p.2.1++(List.replicate (gap p.1 w p.2.2).toNat 32++w)).length + W.length * 33:=b;rw [List.length_append,List.length_append,List.length_replicate] at b;rw [List.length_cons,Nat.succ_mul];omega
theorem ztr {W:List (List Nat)} {s:Int} (hs:okS s) (h:∀ w∈W,GW w) : okS (lnS W s).1/\(lnS W s).2.1.length<=W.length * 33:=by
 have:=zyp W (s,[],[40]) hs h;rw [show ((s,[],[40]) : Int×List Nat×List Nat).2.1.length=0 from rfl,Nat.zero_add] at this;exact this
theorem zy7 (w:List Nat) : zh4 (sT w) (.lst [.str "(",.str ")",.str ","])=some (.bl (!lon w)):=by
 rw [opS,clS,cmS];show some (D.bl (!((tx [40]==tx w) || ((tx [41]==tx w) || ((tx [44]==tx w) || false)))))=_
 have e : ∀ a : List Nat,(tx a==tx w)=decide (w=a):=fun a=>by
  apply Bool.eq_iff_iff.mpr;rw [beq_iff_eq,decide_eq_true_eq];exact ⟨fun h=>(zgm h).symm,fun h=>by rw [h]⟩
 rw [e,e,e,Bool.or_false];unfold lon;rw [Bool.or_assoc]
theorem zv5 (g:Int) (h:0<=g/\g < 3) : zm7 (.str " ") (.int g)=some (.str (tx (List.replicate g.toNat 32))):=by
 show (if (" " : Str).length=1/\0<=g/\g<=1000 then some (D.str ⟨(List.replicate g.toNat ((" " : Str).cps.getD 0 0)).toArray⟩) else none)=_;rw [if_pos ⟨by decide,h.1,by omega⟩];rfl
theorem z63 (l:Addr) (W:List (List Nat)) (s:Int) (hs:okS s) (h:∀ w∈W,GW w) (hl:W.length<=600) : zqk l [.lst (wD W)] [] [.int s]=some ([.int (lnP W s).1],.str (tx (lnP W s).2)):=by
 generalize hS : D.lst (wD W)=Sc
 have w : wp b_35 [.im Sc,.pin l [.int s],.no,.no,.no,.no] (fun o=>∃ a2 a3 a4 a5,o=.rtS (.str (tx (lnP W s).2)) [.im Sc,.pin l [.int (lnP W s).1],a2,a3,a4,a5]):=by
  unfold b_35;apply zaf;refine zgq (d:=.str (tx (lnS [] s).2.1)) rfl ?_;apply zaf;refine zgq (d:=sT (lnS [] s).2.2) (by rw [opS]; rfl) ?_;show wp _ [.im Sc,.pin l [.int (lnS [] s).1],.im (.str (tx (lnS [] s).2.1)),.im (sT (lnS [] s).2.2),.no,.no] _;apply zaf;refine zg5 W sT (fun pre ρ=>∃ a4 a5,ρ=[.im Sc,.pin l [.int (lnS pre s).1],.im (.str (tx (lnS pre s).2.1)),.im (sT (lnS pre s).2.2),a4,a5]) (by rw [<- hS]; rfl) ⟨_,_,rfl⟩ ?_ ?_
  ·rintro pre w post ρ he ⟨a4,a5,rfl⟩;have hw : GW w:=h w (by rw [he]; simp);have hp : ∀ y∈pre,GW y:=fun y hy=>h y (by rw [he]; simp [hy]);have hpl : pre.length<=600:=by have:=congrArg List.length he; rw [List.length_append] at this; omega
   obtain ⟨o1,o2⟩:=ztr hs hp;have hsn : lnS (pre++[w]) s=stL (lnS pre s) w:=by unfold lnS; rw [List.foldl_append]; rfl
   rw [hsn];generalize lnS pre s=p at o1 o2;have hg:=zta p.1 w p.2.2;have hwl:=hw.2;unfold stL;dsimp only;refine ⟨_,rfl,?_⟩;show wp _ [.im Sc,.pin l [.int p.1],.im (.str (tx p.2.1)),.im (sT p.2.2),.im (sT w),a5] _;apply zaf;refine zbu (zt5 1 l p.1 3 rfl rfl o1 (by decide)) ?_;show wp _ [.im Sc,.pin l [.int (nx p.1)],.im (.str (tx p.2.1)),.im (sT p.2.2),.im (sT w),.im (.int (dr p.1 3))] _;refine zjy (fun ρ=>ρ=[.im Sc,.pin l [.int (nx p.1)],.im (.str (tx p.2.1)),.im (sT p.2.2),.im (sT w),.im (.int (gap p.1 w p.2.2))]) ?_ ?_
   ·refine zba (b:=(dr p.1 3==0) && (!lon w && !lon p.2.2)) (ztv (zbf (zat rfl rfl (zew _ _))) (ztv (zbf (zat rfl rfl (zy7 w))) (zbf (zat rfl rfl (zy7 p.2.2))))) (fun e=>?_) fun e=>zbb (k_J ?_)
    ·have e1 : gap p.1 w p.2.2=1:=by
      unfold gap;simp only [Bool.and_eq_true,beq_iff_eq,Bool.not_eq_true'] at e;rw [if_pos ⟨e.1,e.2.1,e.2.2⟩]
     rw [e1];exact zgq rfl (k_J rfl)
    ·have e1 : gap p.1 w p.2.2=dr p.1 3:=by
      unfold gap;rw [if_neg];rintro ⟨q1,q2,q3⟩;rw [q1,q2,q3] at e;cases e
     rw [e1]
   ·rintro ρ rfl;apply zaf;have ea : (List.replicate (gap p.1 w p.2.2).toNat 32++w).length<=40:=by rw [List.length_append,List.length_replicate]; omega
    refine z27 (x:=.str (tx p.2.1)) rfl (zap (zat (zat rfl rfl (zv5 _ hg)) rfl (zwj (List.replicate (gap p.1 w p.2.2).toNat 32) w (by rw [List.length_replicate]; omega)))) (z4d _ _ (by omega)) ?_;exact zgq rfl ⟨_,_,rfl⟩
  ·rintro ρ ⟨a4,a5,rfl⟩;obtain ⟨o1,o2⟩:=ztr hs h;have hd:=zbv (lnS W s).1 (k:=3) (by decide);refine zbx (zb5 (zap rfl) (zb5 (zap rfl) (zt5 1 l (lnS W s).1 3 rfl rfl o1 (by decide)) (zv5 _ hd)) (zwj _ _ (by rw [List.length_replicate]; omega))) ⟨_,_,_,_,rfl⟩
 obtain ⟨o,e,a2,a3,a4,a5,rfl⟩:=w;exact zd3 (ρ:=[.im Sc,.pin l [.int (lnP W s).1],a2,a3,a4,a5]) e rfl
theorem zrw {α : Type} {c w:List Nat} {g:α->List (List Nat)} {L:List α} (h:w∈zdu [c] (L.map g)) : w=c\/∃ x∈L,w∈g x:=by
 cases L with
 | nil=>cases h
 | cons x L =>
  rw [zju] at h
  rcases List.mem_append.1 h with h | h
  ·exact .inr ⟨x,List.mem_cons_self,h⟩
  ·obtain ⟨y,hy,h⟩:=List.mem_flatMap.1 h
   rcases List.mem_cons.1 h with h | h
   ·exact .inl h
   ·exact .inr ⟨y,List.mem_cons_of_mem _ hy,h⟩
theorem z3j {a w:List Nat} {xs:List (List Nat)} (h:w∈zbg a xs) : w=a\/w∈xs:=by
 unfold zbg at h;split at h
 ·cases h
 ·exact List.mem_cons.1 h
theorem zem {z:Str} (h:plain (cw z)/\cw z≠[]) (hl:(cw z).length<=31) : GW (cw z):=⟨.inl h,hl⟩
theorem zh9 {w:List Nat} (h:zc5 w=true) : GW w:=by
 have:=zo0 h;exact ⟨.inl ⟨yaj (zvt h),fun e=>by rw [e] at this; exact absurd this.1 (by decide)⟩,by omega⟩
theorem zp0 {n:Int} (h:zdy n) : GW (za0 n):=by
 have:=zq2 h;exact ⟨.inl ⟨z77 n,fun e=>by rw [e] at this; exact absurd this.1 (by decide)⟩,this.2⟩
theorem ztd : GW [44]:=⟨.inr rfl,by decide⟩
theorem zp1 {t:Th} (h:zeh t) : ∀ w∈zb6 t,GW w:=fun w hw=>by
 obtain ⟨h1,h2,h3⟩:=h;unfold zb6 at hw
 rcases List.mem_cons.1 hw with rfl | hw
 ·exact zh9 (zjj h1)
 ·split at hw
  ·cases hw
  ·rcases List.mem_cons.1 hw with rfl | hw
   ·exact ⟨.inr rfl,by decide⟩
   ·rcases List.mem_append.1 hw with hw | hw
    ·rcases zrw hw with rfl | ⟨x,hx,hw⟩
     ·exact ztd
     ·rw [List.mem_singleton.1 hw]; exact zh9 (h2 x hx)
    ·rw [List.mem_singleton.1 hw]; exact ⟨.inr rfl,by decide⟩
theorem ztf {ps:List (List Nat×List Nat)} (h:∀ q∈ps,ze9 q) : ∀ w∈zbo ps,GW w:=fun w hw=>by
 rcases zrw hw with rfl | ⟨q,hq,hw⟩
 ·exact ztd
 ·obtain ⟨a,b⟩:=h q hq
  rcases List.mem_cons.1 hw with rfl | hw
  ·exact zh9 (z23 a)
  ·rcases List.mem_cons.1 hw with rfl | hw
   ·exact zem ⟨yab,by decide +kernel⟩ (by decide +kernel)
   ·rw [List.mem_singleton.1 hw]; exact zh9 (zjj b)
theorem z5w {its:List Ti} (h:∀ z∈its,zcy z) : ∀ w∈zbs its,GW w:=fun w hw=>by
 rcases zrw hw with rfl | ⟨z,hz,hw⟩
 ·exact ztd
 ·unfold zfg at hw
  rcases List.mem_append.1 hw with hw | hw
  ·split at hw
   ·cases hw
   ·rw [List.mem_singleton.1 hw]; exact zp0 (zx2 (h z hz))
  ·exact zp1 (h z hz).1 w hw
theorem zpz {a:List Nat} {xs:List (List Nat)} (h1:GW a) (h2:∀ w∈xs,GW w) : ∀ w∈zbg a xs,GW w:=fun w hw=>by
 rcases z3j hw with rfl | hw
 ·exact h1
 ·exact h2 w hw
theorem zi9 {xs ys:List (List Nat)} (h1:∀ w∈xs,GW w) (h2:∀ w∈ys,GW w) : ∀ w∈xs++ys,GW w:=fun w hw=>by
 rcases List.mem_append.1 hw with hw | hw
 ·exact h1 w hw
 ·exact h2 w hw
theorem zel {a:List Nat} {ys:List (List Nat)} (h1:GW a) (h2:∀ w∈ys,GW w) : ∀ w∈a::ys,GW w:=fun w hw=>by
 rcases List.mem_cons.1 hw with rfl | hw
 ·exact h1
 ·exact h2 w hw
theorem zte : ∀ w∈([] : List (List Nat)),GW w:=fun w hw=>by cases hw
theorem zxp {its:List Ti} {ov:List (List Nat×List Nat)} (h:∀ z∈its,zcy z) (h2:∀ q∈ov,ze9 q) : ∀ w∈zfw its ov,GW w:=zi9 (z5w h) (zpz (zem yaf (by decide +kernel)) (ztf h2))
theorem z5x {p:Pa} (h:zdg p) : ∀ w∈pWd p,GW w:=by
 cases p with
 | is t=>exact zp1 h
 | no t=>exact zel (zem yae (by decide +kernel)) (zp1 h)
 | un a b=>exact zel (zh9 h.1) (zel (zem yai (by decide +kernel)) (zel (zh9 h.2) zte))
 | ct w n its ov =>
  obtain ⟨h1,h2,h3,h4,h5⟩:=h
  exact zi9 (zel (zem (z99 w) (by cases w <;> decide +kernel)) (zel (zp0 h1) (zel (zem z0l (by decide +kernel)) zte))) (zxp h2 h4)
theorem zxn {bd:List Pa} (h:zdm bd) : ∀ w∈bWd bd,GW w:=fun w hw=>by
 rcases zrw hw with rfl | ⟨p,hp,hw⟩
 ·exact zem ⟨z97,by decide +kernel⟩ (by decide +kernel)
 ·exact z5x (h.1 p hp) w hw
theorem zxo {bd:List Pa} {ps:List (List Nat×List Nat)} (h:zdm bd) (h2:zeq ps) : ∀ w∈zcg bd ps,GW w:=zi9 (zpz (zem yaa (by decide +kernel)) (zxn h)) (zpz (zem z0k (by decide +kernel)) (ztf h2.1))
theorem z5y {r:Ro} (h:zfn r) : ∀ w∈zda r,GW w:=by
 cases r with
 | kind n ns=>exact zel (zem yac (by decide +kernel)) (zel (zh9 (zjj h.1)) fun w hw=>zh9 (zjj (h.2.1 w hw)))
 | rule b t bd ps=>exact zel (zem (yag b) (by cases b <;> decide +kernel)) (zi9 (zp1 h.1) (zxo h.2.1 h.2.2))
 | never bd ps=>exact zel (zem yad (by decide +kernel)) (zi9 (zxn h.1) (zpz (zem z0k (by decide +kernel)) (ztf h.2.2.1)))
 | choose lo hi its ov bd ps =>
  obtain ⟨h1,h2,h3,h4,h5⟩:=h;exact zi9 (zel (zem z98 (by decide +kernel)) (zel (zp0 h1.1) (zel (zem yah (by decide +kernel)) (zel (zp0 h1.2) (zel (zem z0l (by decide +kernel)) zte))))) (zi9 (zxp h2.1 h3.1) (zxo h4 h5))
theorem ybt {r:Ro} (h:zfn r) : (zda r).length<=600:=by
 have eW : ∀ {bd ps},zdm bd->zeq ps->(zcg bd ps).length<=436:=fun {bd ps} h1 h2=>by
  unfold zcg;rw [zm3,zhs,List.length_append];have:=zm4 (cw "if") h1;have:=zht (cw "for") h2.2;omega
 cases r with
 | kind n ns =>
  have:=h.2.2.2;show ns.length + 1 + 1<=600
  omega
 | rule b t bd ps =>
  have:=zjv h.1;have:=eW h.2.1 h.2.2;show (zb6 t++zcg bd ps).length + 1<=600;rw [List.length_append]
  omega
 | never bd ps =>
  have a1:=zm4 (cw "and") h.1;have a2:=zht (cw "for") h.2.2.2;rw [<- zm3] at a1
  have a3 : (bWd bd).length<=425:=by
   unfold zbg at a1;split at a1
   ·rename_i e; rw [e]; exact Nat.zero_le _
   ·rw [List.length_cons] at a1; omega
  show (bWd bd++zbg (cw "for") (zbo ps)).length + 1<=600;rw [zhs,List.length_append]
  omega
 | choose lo hi its ov bd ps =>
  obtain ⟨h1,h2,h3,h4,h5⟩:=h;have a1:=znm h2.1;have a2:=zht (cw "over") (ps:=ov) (by have:=h3.2; omega);have a3:=eW h4 h5;have a4:=h2.2.2;show ([cw "choose",za0 lo,cw "to",za0 hi,cw "of"]++((zbs its++zbg (cw "over") (zbo ov))++zcg bd ps)).length<=600;rw [zhs,List.length_append,List.length_append,List.length_append];show 5 + _<=600;omega
theorem yei {i j:Nat} {f:List Sl->Option D} {t:List Sl->Option Bool} {F2:List Sl->Option Fl} {ok:D->Bool} {fg:List Sl->List Sl} {ρ:List Sl} {d:D} {K:Fl->Prop} (h1:f ρ=some d) (h2:t (ρ.set i (.im d))=some false) (h3:ok d=true) (hi:i < ρ.length) (hj:j < ρ.length) (k:K (.nx (fg (ρ.set i .no)))) : wp (zkr i j f t F2 ok fg) ρ K:=⟨_,by
 unfold zkr;rw [h1,Option.bind_some,h2,Option.bind_some,if_neg (by decide),if_pos ⟨h3,hi,hj⟩],k⟩
theorem z8x {r:Ro} (h:zfn r) : zq8 r.toD=true:=by
 cases r with
 | kind n ns =>
  have:=h.2.2.2;show (List.all [D.str "kind",D.str (tx n),D.lst (ns.map sT)] fun x=>(tyN x).isSome && decide (zgj x + 3 < 16777216))=true;simp [tyN,zgj]
  omega
 | rule b t bd ps =>
  have h1:=h.2.1.2;have h2:=h.2.2.2;show (List.all [D.str (ruS b),thD t,D.lst (bd.map Pa.toD),D.lst (ps.map prD)] fun x=>(tyN x).isSome && decide (zgj x + 4 < 16777216))=true;simp [tyN,zgj,thD]
  omega
 | never bd ps =>
  have h1:=h.1.2;have h2:=h.2.2.2;show (List.all [D.str "never",D.lst (bd.map Pa.toD),D.lst (ps.map prD)] fun x=>(tyN x).isSome && decide (zgj x + 3 < 16777216))=true;simp [tyN,zgj]
  omega
 | choose lo hi its ov bd ps =>
  obtain ⟨h1,h2,h3,h4,h5⟩:=h;have a1:=h2.2.2;have a2:=h3.2;have a3:=h4.2;have a4:=h5.2;show (List.all [D.str "choose",D.int lo,D.int hi,D.lst (its.map zce),D.lst (ov.map prD),D.lst (bd.map Pa.toD),D.lst (ps.map prD)] fun x=>(tyN x).isSome && decide (zgj x + 7 < 16777216))=true;simp [tyN,zgj];omega
theorem z61 (ns:List Int) (h:ns.length<=63) : m_9 [.kl (ns.map D.int)]=some (.bl true):=by
 apply zg6;unfold b_9;generalize hSc : D.kl (ns.map D.int)=Sc;show wp _ [.im Sc,.no,.no,.no,.no,.no,.no,.no] _;apply zaf;refine zgq (d:=.int 1) rfl ?_;show wp _ [.im Sc,.im (.int 1),.no,.no,.no,.no,.no,.no] _
 have go : ∀ many : Int,0 < many/\many<=3->∀ F,wp (zah (zes (zeo (za9 zqn (zad (zab 0) (zad (zab 1) (fun _=>some []))))) (zb8 2) F) (zdp (fun _=>some (.bl true)))) [.im Sc,.im (.int many),.no,.no,.no,.no,.no,.no] (zkf fun d=>d=.bl true)\/¬ (∀ s,okS s->∀ a3 a4 a5 a6 a7,wp F [.im Sc,.im (.int many),.im (.int s),a3,a4,a5,a6,a7] (kJ fun ρ=>∃ a3 a4 a5 a6 a7,ρ=[.im Sc,.im (.int many),.im (.int s),a3,a4,a5,a6,a7])):=fun many hm F=>by
  by_cases hF : ∀ s,okS s->∀ a3 a4 a5 a6 a7,wp F [.im Sc,.im (.int many),.im (.int s),a3,a4,a5,a6,a7] (kJ fun ρ=>∃ a3 a4 a5 a6 a7,ρ=[.im Sc,.im (.int many),.im (.int s),a3,a4,a5,a6,a7])
  ·left;obtain ⟨ss,hs,es⟩:=yci ns many hm;rw [hSc] at es;apply zaf;refine zg5 ss D.int (fun _ ρ=>∃ a2 a3 a4 a5 a6 a7,ρ=[.im Sc,.im (.int many),a2,a3,a4,a5,a6,a7]) (zry (zb0 rfl es) rfl) ⟨_,_,_,_,_,_,rfl⟩ ?_ ?_
   ·rintro pre s post ρ he ⟨a2,a3,a4,a5,a6,a7,rfl⟩;refine ⟨_,rfl,?_⟩;obtain ⟨o,e,ρ',rfl,b3,b4,b5,b6,b7,rfl⟩:=hF s (hs s (by rw [he]; simp)) a3 a4 a5 a6 a7;exact ⟨_,e,⟨_,_,_,_,_,_,rfl⟩⟩
   ·rintro ρ ⟨a2,a3,a4,a5,a6,a7,rfl⟩;exact zgp rfl (zfr rfl)
  ·exact .inr hF
 have step : ∀ many : Int,∀ s,okS s->∀ a3 a4 a5 a6 a7,wp (zah (zep 3 (zad (zab 2) (fun _=>some []))) (zah (zbm 4 (zkl 3 zqg zaa)) (zah (zbm 5 (zib 3 zqk (zac (zib 3 zqq (zac (mX (zab 4)) zaa)) zaa))) (zah (zkr 6 7 (zqa zk0 5) (zfk (zd1 (za9 (zfv 9) (zad (zab 6) (zad (zab 4) (fun _=>some [])))))) (zdp (fun _=>some (.bl false))) zq8 (fun ρ=>ρ.set 7 .no)) (zb2 (zfk (zd1 (za9 (zfv 9) (zad (za9 zk0 (zad (zab 5) (fun _=>some []))) (zad (zab 4) (fun _=>some [])))))) (zdp (fun _=>some (.bl false))) zbl))))) [.im Sc,.im (.int many),.im (.int s),a3,a4,a5,a6,a7] (kJ fun ρ=>∃ a3 a4 a5 a6 a7,ρ=[.im Sc,.im (.int many),.im (.int s),a3,a4,a5,a6,a7]):=fun many s hs a3 a4 a5 a6 a7=>by
  obtain ⟨o0,hR⟩:=ybs s;apply zaf;refine zhx (d:=[.int s]) rfl ?_;show wp _ [.im Sc,.im (.int many),.im (.int s),.own [.int s],a4,a5,a6,a7] _;apply zaf;refine zbu (z3t rfl rfl rfl fun l=>ybr l s hs) ?_;generalize zhu s=q at o0 hR;obtain ⟨s1,r⟩:=q;dsimp only at o0 hR ⊢;show wp _ [.im Sc,.im (.int many),.im (.int s),.own [.int s1],.im r.toD,a5,a6,a7] _;obtain ⟨o1,hR1,hD⟩:=ybp o0 hR;have hG:=z5y hR1;have hL:=ybt hR1;have hlen:=(ztr o1 hG).2;have hd:=zbv (lnS (zda (roS s1 r).2) (roS s1 r).1).1 (k:=3) (by decide)
  have hW : zny [.str (tx (lnP (zda (roS s1 r).2) (roS s1 r).1).2)]=some (.lst (wD (zda (roS s1 r).2))):=by
   have:=yeb (lnP (zda (roS s1 r).2) (roS s1 r).1).2 (by show (_++List.replicate _ 32).length<=_; rw [List.length_append,List.length_replicate]; omega);rw [z64 _ hG] at this;exact this
  have hRead:=ybl hR1 hW;rw [hD] at hRead;apply zaf;refine zbu (zwa rfl (zaq (zwa rfl (zaq (zap rfl) rfl) rfl fun l=>yea l r s1 hR o0) rfl) rfl fun l=>z63 l _ _ o1 hG hL) ?_;generalize lnP (zda (roS s1 r).2) (roS s1 r).1=T at hRead;show wp _ [.im Sc,.im (.int many),.im (.int s),.own [.int T.1],.im r.toD,.im (.str (tx T.2)),a6,a7] _;have hg:=z09 9 _ (z5s hR);apply zaf;refine yei (d:=r.toD) hRead (zko (b:=true) (zie (zb0 (za1 rfl (za1 rfl rfl)) hg) rfl)) (z8x hR) (by show 6 < 8; decide) (by show 7 < 8; decide) ?_;show wp _ [.im Sc,.im (.int many),.im (.int s),.own [.int T.1],.im r.toD,.im (.str (tx T.2)),.no,.no] _;refine zba (b:=false) (zko (b:=true) (zie (zb0 (za1 (zb0 rfl hRead) (za1 rfl rfl)) hg) rfl)) (fun e=>by cases e) fun _=>zbb (k_J ⟨_,_,_,_,_,rfl⟩)
 refine zjy (fun ρ=>∃ many : Int,(0 < many/\many<=3)/\ρ=[.im Sc,.im (.int many),.no,.no,.no,.no,.no,.no]) ?_ ?_
 ·subst hSc;refine zba (b:=decide ((ns.length : Int) > 0)) (zbf (zat (zb0 rfl (zyl ns D.int)) rfl zj4)) (fun e=>?_) fun e=>zbb (k_J ⟨1,by decide,rfl⟩);have hl : 0 < ns.length:=by have:=of_decide_eq_true e; omega
  have ea : atI (ns.map D.int) 0=some (.int ns[0]):=by
   unfold atI ixN;rw [if_pos (by decide),if_pos (by rw [List.length_map]; omega),Option.bind_some,List.getElem?_map];show (ns[0]?).map D.int=_;rw [List.getElem?_eq_getElem hl];rfl
  have h1:=Int.emod_nonneg ns[0] (show (3 : Int)≠0 by decide);have h2:=Int.emod_lt_of_pos ns[0] (show (0 : Int) < 3 by decide);refine zgq (d:=.int (1 + ns[0] % 3)) (zat rfl (zat (zbh rfl rfl ea) rfl (zg9 (by decide))) zfd) (k_J ⟨1 + ns[0] % 3,by omega,rfl⟩)
 ·rintro ρ ⟨many,hm,rfl⟩;exact (go many hm _).resolve_right fun q=>q (step many)
section
variable {P:Program} {w:World} {K:PySem.W.Frag} {mg:Str->Option Value} {base:Heap}
noncomputable def sp_law (K:PySem.W.Frag) : Sp:=fun vs H Q _=>∃ (a:Addr) (ns:List Int),vs=[.ref a]/\SqL K H a (ns.map V.int)/\ns.length<=63/\∀ H',Q (.bl true) H'
theorem sp_law_of {K:PySem.W.Frag} {H:Hp} {a:Addr} {ns:List Int} {E:XK} (hl:ns.length<=63) (hS:SqL K H a (ns.map V.int)) : sp_law K [.ref a] H (fun v _=>v=.bl true) E:=⟨a,ns,rfl,hS,hl,fun _=>rfl⟩
theorem law_ok {a:Wa} (W:Wd K mg a) : zav P w K mg base CX0 16 a.f_9 a.fd_9 ["_law_script"] (sp_law K):=(z8w W).imp fun vs H Q E ⟨a,ns,ev,hS,hl,k⟩ =>
 ⟨H,[.kl (ns.map D.int)],.bl true,zas.refl _,⟨.ref a,[],ev,⟨a,_,rfl,hS,zao.ints ns⟩,rfl⟩,rfl,z61 ns hl,fun v Hf' H' x r=>by rw [show v=V.bl true from r]; exact k H'⟩
end
section
variable {K:PySem.W.Frag} {mg:Str->Option Value}
theorem zp4 {P:List Value->Prop} (h:P []) : ∀ us : List Value,us.length=0->P us:=fun us e=>by
 rw [List.eq_nil_of_length_eq_zero e];exact h
theorem zkh {n:Nat} {P:List Value->Prop} (h:∀ a (us:List Value),us.length=n->P (a::us)) : ∀ us : List Value,us.length=n + 1->P us:=fun us e=>by
 cases us with
 | nil=>cases e
 | cons a us=>exact h a us (Nat.succ.inj e)
theorem z62 {P:List Value->Prop} (h:P []) : ∀ us : List Value,us.length=0->P us:=zp4 (h)
theorem zb4 {P:List Value->Prop} (h:∀ a0 : Value,P [a0]) : ∀ us : List Value,us.length=1->P us:=zkh (P:=fun us=>P (us)) fun a0=>zp4 (h a0)
theorem ze1 {P:List Value->Prop} (h:∀ a0 a1 : Value,P [a0,a1]) : ∀ us : List Value,us.length=2->P us:=zkh (P:=fun us=>P (us)) fun a0=>zkh (P:=fun us=>P (a0::us)) fun a1=>zp4 (h a0 a1)
theorem ztq {P:List Value->Prop} (h:∀ a0 a1 a2 : Value,P [a0,a1,a2]) : ∀ us : List Value,us.length=3->P us:=zkh (P:=fun us=>P (us)) fun a0=>zkh (P:=fun us=>P (a0::us)) fun a1=>zkh (P:=fun us=>P (a0::a1::us)) fun a2=>zp4 (h a0 a1 a2)
set_option autoImplicit true in
theorem all_mk {l:W.OpenLaw} {w:World} {h:Heap} {f_KEPT n_KEPT:Nat} {t_KEPT0 t_KEPT1 t_KEPT2 t_KEPT3 t_KEPT4 t_KEPT5 t_KEPT6 t_KEPT7 t_KEPT8 t_KEPT9 t_KEPT10 t_KEPT11 t_KEPT12 t_KEPT13 t_KEPT14 t_KEPT15:Tok} {t_SMALL:Tok} {t_GREAT:Tok} {t_FIGURES:Tok} {t_LONE:Tok} {fa:Addr} (X:K.In h) (G:h.Ns mainGlobals mg) (hfa:mg "law"=some (.ref fa))
  (aC_Reader:W.nsIn K mainGlobals "Reader"=some (some (.ref C_Reader)))
  (a_52:W.nsIn K mainGlobals "words_of"=some (some (.ref f_52)))
  (l_52:K.lookup f_52=some ⟨oc_52,od_52,.func (W.fnOf "words_of" "words_of" (za7 zmi) (za2 zmi) (zai zmi) .none kV_52 dc_52 pm_52 an_52 cd_52 ct_52),sl_52⟩)
  (c_52:W.codeIn K cd_52 "words_of"=true)
  (k_52:W.keepIn K (.ref f_52)=true)
  (a_15:W.nsIn K mainGlobals "is_made_of"=some (some (.ref f_15)))
  (l_15:K.lookup f_15=some ⟨oc_15,od_15,.func (W.fnOf "is_made_of" "is_made_of" (za7 zlh) (za2 zlh) (zai zlh) .none kV_15 dc_15 pm_15 an_15 cd_15 ct_15),sl_15⟩)
  (c_15:W.codeIn K cd_15 "is_made_of"=true)
  (k_15:W.keepIn K (.ref f_15)=true)
  (a_57:W.nsIn K mainGlobals "is_name"=some (some (.ref f_57)))
  (l_57:K.lookup f_57=some ⟨oc_57,od_57,.func (W.fnOf "is_name" "is_name" (za7 zmn) (za2 zmn) (zai zmn) .none kV_57 dc_57 pm_57 an_57 cd_57 ct_57),sl_57⟩)
  (c_57:W.codeIn K cd_57 "is_name"=true)
  (k_57:W.keepIn K (.ref f_57)=true)
  (a_50:W.nsIn K mainGlobals "is_variable"=some (some (.ref f_50)))
  (l_50:K.lookup f_50=some ⟨oc_50,od_50,.func (W.fnOf "is_variable" "is_variable" (za7 zmg) (za2 zmg) (zai zmg) .none kV_50 dc_50 pm_50 an_50 cd_50 ct_50),sl_50⟩)
  (c_50:W.codeIn K cd_50 "is_variable"=true)
  (k_50:W.keepIn K (.ref f_50)=true)
  (a_46:W.nsIn K mainGlobals "is_number"=some (some (.ref f_46)))
  (l_46:K.lookup f_46=some ⟨oc_46,od_46,.func (W.fnOf "is_number" "is_number" (za7 zmc) (za2 zmc) (zai zmc) .none kV_46 dc_46 pm_46 an_46 cd_46 ct_46),sl_46⟩)
  (c_46:W.codeIn K cd_46 "is_number"=true)
  (k_46:W.keepIn K (.ref f_46)=true)
  (a_32:W.nsIn K mainGlobals "read_row"=some (some (.ref f_32)))
  (l_32:K.lookup f_32=some ⟨oc_32,od_32,.func (W.fnOf "read_row" "read_row" (za7 zly) (za2 zly) (zai zly) .none kV_32 dc_32 pm_32 an_32 cd_32 ct_32),sl_32⟩)
  (c_32:W.codeIn K cd_32 "read_row"=true)
  (k_32:W.keepIn K (.ref f_32)=true)
  (a_16:W.nsIn K mainGlobals "at_most"=some (some (.ref f_16)))
  (l_16:K.lookup f_16=some ⟨oc_16,od_16,.func (W.fnOf "at_most" "at_most" (za7 zli) (za2 zli) (zai zli) .none kV_16 dc_16 pm_16 an_16 cd_16 ct_16),sl_16⟩)
  (c_16:W.codeIn K cd_16 "at_most"=true)
  (k_16:W.keepIn K (.ref f_16)=true)
  (a_0:W.nsIn K mainGlobals "_law_next"=some (some (.ref f_0)))
  (l_0:K.lookup f_0=some ⟨oc_0,od_0,.func (W.fnOf "_law_next" "_law_next" (za7 s_0) (za2 s_0) (zai s_0) .none kV_0 dc_0 pm_0 an_0 cd_0 ct_0),sl_0⟩)
  (c_0:W.codeIn K cd_0 "_law_next"=true)
  (k_0:W.keepIn K (.ref f_0)=true)
  (a_47:W.nsIn K mainGlobals "_law_seeds"=some (some (.ref f_47)))
  (l_47:K.lookup f_47=some ⟨oc_47,od_47,.func (W.fnOf "_law_seeds" "_law_seeds" (za7 zmd) (za2 zmd) (zai zmd) .none kV_47 dc_47 pm_47 an_47 cd_47 ct_47),sl_47⟩)
  (c_47:W.codeIn K cd_47 "_law_seeds"=true)
  (k_47:W.keepIn K (.ref f_47)=true)
  (a_17:W.nsIn K mainGlobals "_law_small"=some (some (.ref f_17)))
  (l_17:K.lookup f_17=some ⟨oc_17,od_17,.func (W.fnOf "_law_small" "_law_small" (za7 zlj) (za2 zlj) (zai zlj) .none kV_17 dc_17 pm_17 an_17 cd_17 ct_17),sl_17⟩)
  (c_17:W.codeIn K cd_17 "_law_small"=true)
  (k_17:W.keepIn K (.ref f_17)=true)
  (a_21:W.nsIn K mainGlobals "_law_kept"=some (some (.ref f_21)))
  (l_21:K.lookup f_21=some ⟨oc_21,od_21,.func (W.fnOf "_law_kept" "_law_kept" (za7 zln) (za2 zln) (zai zln) .none kV_21 dc_21 pm_21 an_21 cd_21 ct_21),sl_21⟩)
  (c_21:W.codeIn K cd_21 "_law_kept"=true)
  (k_21:W.keepIn K (.ref f_21)=true)
  (a_4:W.nsIn K mainGlobals "_law_name"=some (some (.ref f_4)))
  (l_4:K.lookup f_4=some ⟨oc_4,od_4,.func (W.fnOf "_law_name" "_law_name" (za7 s_4) (za2 s_4) (zai s_4) .none kV_4 dc_4 pm_4 an_4 cd_4 ct_4),sl_4⟩)
  (c_4:W.codeIn K cd_4 "_law_name"=true)
  (k_4:W.keepIn K (.ref f_4)=true)
  (a_40:W.nsIn K mainGlobals "_law_variable"=some (some (.ref f_40)))
  (l_40:K.lookup f_40=some ⟨oc_40,od_40,.func (W.fnOf "_law_variable" "_law_variable" (za7 zl6) (za2 zl6) (zai zl6) .none kV_40 dc_40 pm_40 an_40 cd_40 ct_40),sl_40⟩)
  (c_40:W.codeIn K cd_40 "_law_variable"=true)
  (k_40:W.keepIn K (.ref f_40)=true)
  (a_7:W.nsIn K mainGlobals "_law_number"=some (some (.ref f_7)))
  (l_7:K.lookup f_7=some ⟨oc_7,od_7,.func (W.fnOf "_law_number" "_law_number" (za7 s_7) (za2 s_7) (zai s_7) .none kV_7 dc_7 pm_7 an_7 cd_7 ct_7),sl_7⟩)
  (c_7:W.codeIn K cd_7 "_law_number"=true)
  (k_7:W.keepIn K (.ref f_7)=true)
  (a_22:W.nsIn K mainGlobals "_law_arg"=some (some (.ref f_22)))
  (l_22:K.lookup f_22=some ⟨oc_22,od_22,.func (W.fnOf "_law_arg" "_law_arg" (za7 zlo) (za2 zlo) (zai zlo) .none kV_22 dc_22 pm_22 an_22 cd_22 ct_22),sl_22⟩)
  (c_22:W.codeIn K cd_22 "_law_arg"=true)
  (k_22:W.keepIn K (.ref f_22)=true)
  (a_5:W.nsIn K mainGlobals "_law_thing"=some (some (.ref f_5)))
  (l_5:K.lookup f_5=some ⟨oc_5,od_5,.func (W.fnOf "_law_thing" "_law_thing" (za7 s_5) (za2 s_5) (zai s_5) .none kV_5 dc_5 pm_5 an_5 cd_5 ct_5),sl_5⟩)
  (c_5:W.codeIn K cd_5 "_law_thing"=true)
  (k_5:W.keepIn K (.ref f_5)=true)
  (a_54:W.nsIn K mainGlobals "_law_item"=some (some (.ref f_54)))
  (l_54:K.lookup f_54=some ⟨oc_54,od_54,.func (W.fnOf "_law_item" "_law_item" (za7 zmk) (za2 zmk) (zai zmk) .none kV_54 dc_54 pm_54 an_54 cd_54 ct_54),sl_54⟩)
  (c_54:W.codeIn K cd_54 "_law_item"=true)
  (k_54:W.keepIn K (.ref f_54)=true)
  (a_48:W.nsIn K mainGlobals "_law_items"=some (some (.ref f_48)))
  (l_48:K.lookup f_48=some ⟨oc_48,od_48,.func (W.fnOf "_law_items" "_law_items" (za7 zme) (za2 zme) (zai zme) .none kV_48 dc_48 pm_48 an_48 cd_48 ct_48),sl_48⟩)
  (c_48:W.codeIn K cd_48 "_law_items"=true)
  (k_48:W.keepIn K (.ref f_48)=true)
  (a_18:W.nsIn K mainGlobals "_law_pairs"=some (some (.ref f_18)))
  (l_18:K.lookup f_18=some ⟨oc_18,od_18,.func (W.fnOf "_law_pairs" "_law_pairs" (za7 zlk) (za2 zlk) (zai zlk) .none kV_18 dc_18 pm_18 an_18 cd_18 ct_18),sl_18⟩)
  (c_18:W.codeIn K cd_18 "_law_pairs"=true)
  (k_18:W.keepIn K (.ref f_18)=true)
  (a_33:W.nsIn K mainGlobals "_law_count"=some (some (.ref f_33)))
  (l_33:K.lookup f_33=some ⟨oc_33,od_33,.func (W.fnOf "_law_count" "_law_count" (za7 zlz) (za2 zlz) (zai zlz) .none kV_33 dc_33 pm_33 an_33 cd_33 ct_33),sl_33⟩)
  (c_33:W.codeIn K cd_33 "_law_count"=true)
  (k_33:W.keepIn K (.ref f_33)=true)
  (a_53:W.nsIn K mainGlobals "_law_part"=some (some (.ref f_53)))
  (l_53:K.lookup f_53=some ⟨oc_53,od_53,.func (W.fnOf "_law_part" "_law_part" (za7 zmj) (za2 zmj) (zai zmj) .none kV_53 dc_53 pm_53 an_53 cd_53 ct_53),sl_53⟩)
  (c_53:W.codeIn K cd_53 "_law_part"=true)
  (k_53:W.keepIn K (.ref f_53)=true)
  (a_56:W.nsIn K mainGlobals "_law_body"=some (some (.ref f_56)))
  (l_56:K.lookup f_56=some ⟨oc_56,od_56,.func (W.fnOf "_law_body" "_law_body" (za7 zmm) (za2 zmm) (zai zmm) .none kV_56 dc_56 pm_56 an_56 cd_56 ct_56),sl_56⟩)
  (c_56:W.codeIn K cd_56 "_law_body"=true)
  (k_56:W.keepIn K (.ref f_56)=true)
  (a_23:W.nsIn K mainGlobals "_law_row"=some (some (.ref f_23)))
  (l_23:K.lookup f_23=some ⟨oc_23,od_23,.func (W.fnOf "_law_row" "_law_row" (za7 zlp) (za2 zlp) (zai zlp) .none kV_23 dc_23 pm_23 an_23 cd_23 ct_23),sl_23⟩)
  (c_23:W.codeIn K cd_23 "_law_row"=true)
  (k_23:W.keepIn K (.ref f_23)=true)
  (a_8:W.nsIn K mainGlobals "_law_thing_words"=some (some (.ref f_8)))
  (l_8:K.lookup f_8=some ⟨oc_8,od_8,.func (W.fnOf "_law_thing_words" "_law_thing_words" (za7 s_8) (za2 s_8) (zai s_8) .none kV_8 dc_8 pm_8 an_8 cd_8 ct_8),sl_8⟩)
  (c_8:W.codeIn K cd_8 "_law_thing_words"=true)
  (k_8:W.keepIn K (.ref f_8)=true)
  (a_24:W.nsIn K mainGlobals "_law_items_words"=some (some (.ref f_24)))
  (l_24:K.lookup f_24=some ⟨oc_24,od_24,.func (W.fnOf "_law_items_words" "_law_items_words" (za7 zlq) (za2 zlq) (zai zlq) .none kV_24 dc_24 pm_24 an_24 cd_24 ct_24),sl_24⟩)
  (c_24:W.codeIn K cd_24 "_law_items_words"=true)
  (k_24:W.keepIn K (.ref f_24)=true)
  (a_11:W.nsIn K mainGlobals "_law_pairs_words"=some (some (.ref f_11)))
  (l_11:K.lookup f_11=some ⟨oc_11,od_11,.func (W.fnOf "_law_pairs_words" "_law_pairs_words" (za7 zld) (za2 zld) (zai zld) .none kV_11 dc_11 pm_11 an_11 cd_11 ct_11),sl_11⟩)
  (c_11:W.codeIn K cd_11 "_law_pairs_words"=true)
  (k_11:W.keepIn K (.ref f_11)=true)
  (a_55:W.nsIn K mainGlobals "_law_part_words"=some (some (.ref f_55)))
  (l_55:K.lookup f_55=some ⟨oc_55,od_55,.func (W.fnOf "_law_part_words" "_law_part_words" (za7 zml) (za2 zml) (zai zml) .none kV_55 dc_55 pm_55 an_55 cd_55 ct_55),sl_55⟩)
  (c_55:W.codeIn K cd_55 "_law_part_words"=true)
  (k_55:W.keepIn K (.ref f_55)=true)
  (a_34:W.nsIn K mainGlobals "_law_body_words"=some (some (.ref f_34)))
  (l_34:K.lookup f_34=some ⟨oc_34,od_34,.func (W.fnOf "_law_body_words" "_law_body_words" (za7 zl0) (za2 zl0) (zai zl0) .none kV_34 dc_34 pm_34 an_34 cd_34 ct_34),sl_34⟩)
  (c_34:W.codeIn K cd_34 "_law_body_words"=true)
  (k_34:W.keepIn K (.ref f_34)=true)
  (a_51:W.nsIn K mainGlobals "_law_words"=some (some (.ref f_51)))
  (l_51:K.lookup f_51=some ⟨oc_51,od_51,.func (W.fnOf "_law_words" "_law_words" (za7 zmh) (za2 zmh) (zai zmh) .none kV_51 dc_51 pm_51 an_51 cd_51 ct_51),sl_51⟩)
  (c_51:W.codeIn K cd_51 "_law_words"=true)
  (k_51:W.keepIn K (.ref f_51)=true)
  (a_35:W.nsIn K mainGlobals "_law_line"=some (some (.ref f_35)))
  (l_35:K.lookup f_35=some ⟨oc_35,od_35,.func (W.fnOf "_law_line" "_law_line" (za7 zl1) (za2 zl1) (zai zl1) .none kV_35 dc_35 pm_35 an_35 cd_35 ct_35),sl_35⟩)
  (c_35:W.codeIn K cd_35 "_law_line"=true)
  (k_35:W.keepIn K (.ref f_35)=true)
  (a_10:W.nsIn K mainGlobals "_law_same"=some (some (.ref f_10)))
  (l_10:K.lookup f_10=some ⟨oc_10,od_10,.func (W.fnOf "_law_same" "_law_same" (za7 zlc) (za2 zlc) (zai zlc) .none kV_10 dc_10 pm_10 an_10 cd_10 ct_10),sl_10⟩)
  (c_10:W.codeIn K cd_10 "_law_same"=true)
  (k_10:W.keepIn K (.ref f_10)=true)
  (a_9:W.nsIn K mainGlobals "law"=some (some (.ref f_9)))
  (l_9:K.lookup f_9=some ⟨oc_9,od_9,.func (W.fnOf "law" "law" (za7 s_9) (za2 s_9) (zai s_9) .none kV_9 dc_9 pm_9 an_9 cd_9 ct_9),sl_9⟩)
  (c_9:W.codeIn K cd_9 "law"=true)
  (k_9:W.keepIn K (.ref f_9)=true)
  (a_58:W.findIn K (.ref C_Reader) "__init__"=some (some (.ref f_58)))
  (i_58:W.isFn K (.ref f_58)=true)
  (l_58:K.lookup f_58=some ⟨oc_58,od_58,.func (W.fnOf "__init__" "Reader.__init__" (za7 zmo) (za2 zmo) (zai zmo) .none kV_58 dc_58 pm_58 an_58 cd_58 ct_58),sl_58⟩)
  (c_58:W.codeIn K cd_58 "Reader.__init__"=true)
  (k_58:W.keepIn K (.ref f_58)=true)
  (a_2:W.findIn K (.ref C_Reader) "coming"=some (some (.ref f_2)))
  (i_2:W.isFn K (.ref f_2)=true)
  (l_2:K.lookup f_2=some ⟨oc_2,od_2,.func (W.fnOf "coming" "Reader.coming" (za7 s_2) (za2 s_2) (zai s_2) .none kV_2 dc_2 pm_2 an_2 cd_2 ct_2),sl_2⟩)
  (c_2:W.codeIn K cd_2 "Reader.coming"=true)
  (k_2:W.keepIn K (.ref f_2)=true)
  (a_12:W.findIn K (.ref C_Reader) "take"=some (some (.ref f_12)))
  (i_12:W.isFn K (.ref f_12)=true)
  (l_12:K.lookup f_12=some ⟨oc_12,od_12,.func (W.fnOf "take" "Reader.take" (za7 zle) (za2 zle) (zai zle) .none kV_12 dc_12 pm_12 an_12 cd_12 ct_12),sl_12⟩)
  (c_12:W.codeIn K cd_12 "Reader.take"=true)
  (k_12:W.keepIn K (.ref f_12)=true)
  (a_1:W.findIn K (.ref C_Reader) "passes"=some (some (.ref f_1)))
  (i_1:W.isFn K (.ref f_1)=true)
  (l_1:K.lookup f_1=some ⟨oc_1,od_1,.func (W.fnOf "passes" "Reader.passes" (za7 s_1) (za2 s_1) (zai s_1) .none kV_1 dc_1 pm_1 an_1 cd_1 ct_1),sl_1⟩)
  (c_1:W.codeIn K cd_1 "Reader.passes"=true)
  (k_1:W.keepIn K (.ref f_1)=true)
  (a_6:W.findIn K (.ref C_Reader) "must_pass"=some (some (.ref f_6)))
  (i_6:W.isFn K (.ref f_6)=true)
  (l_6:K.lookup f_6=some ⟨oc_6,od_6,.func (W.fnOf "must_pass" "Reader.must_pass" (za7 s_6) (za2 s_6) (zai s_6) .none kV_6 dc_6 pm_6 an_6 cd_6 ct_6),sl_6⟩)
  (c_6:W.codeIn K cd_6 "Reader.must_pass"=true)
  (k_6:W.keepIn K (.ref f_6)=true)
  (a_49:W.findIn K (.ref C_Reader) "must_end"=some (some (.ref f_49)))
  (i_49:W.isFn K (.ref f_49)=true)
  (l_49:K.lookup f_49=some ⟨oc_49,od_49,.func (W.fnOf "must_end" "Reader.must_end" (za7 zmf) (za2 zmf) (zai zmf) .none kV_49 dc_49 pm_49 an_49 cd_49 ct_49),sl_49⟩)
  (c_49:W.codeIn K cd_49 "Reader.must_end"=true)
  (k_49:W.keepIn K (.ref f_49)=true)
  (a_41:W.findIn K (.ref C_Reader) "read_form"=some (some (.ref f_41)))
  (i_41:W.isFn K (.ref f_41)=true)
  (l_41:K.lookup f_41=some ⟨oc_41,od_41,.func (W.fnOf "read_form" "Reader.read_form" (za7 zl7) (za2 zl7) (zai zl7) .none kV_41 dc_41 pm_41 an_41 cd_41 ct_41),sl_41⟩)
  (c_41:W.codeIn K cd_41 "Reader.read_form"=true)
  (k_41:W.keepIn K (.ref f_41)=true)
  (a_38:W.findIn K (.ref C_Reader) "read_choose"=some (some (.ref f_38)))
  (i_38:W.isFn K (.ref f_38)=true)
  (l_38:K.lookup f_38=some ⟨oc_38,od_38,.func (W.fnOf "read_choose" "Reader.read_choose" (za7 zl4) (za2 zl4) (zai zl4) .none kV_38 dc_38 pm_38 an_38 cd_38 ct_38),sl_38⟩)
  (c_38:W.codeIn K cd_38 "Reader.read_choose"=true)
  (k_38:W.keepIn K (.ref f_38)=true)
  (a_42:W.findIn K (.ref C_Reader) "read_never"=some (some (.ref f_42)))
  (i_42:W.isFn K (.ref f_42)=true)
  (l_42:K.lookup f_42=some ⟨oc_42,od_42,.func (W.fnOf "read_never" "Reader.read_never" (za7 zl8) (za2 zl8) (zai zl8) .none kV_42 dc_42 pm_42 an_42 cd_42 ct_42),sl_42⟩)
  (c_42:W.codeIn K cd_42 "Reader.read_never"=true)
  (k_42:W.keepIn K (.ref f_42)=true)
  (a_3:W.findIn K (.ref C_Reader) "read_name"=some (some (.ref f_3)))
  (i_3:W.isFn K (.ref f_3)=true)
  (l_3:K.lookup f_3=some ⟨oc_3,od_3,.func (W.fnOf "read_name" "Reader.read_name" (za7 s_3) (za2 s_3) (zai s_3) .none kV_3 dc_3 pm_3 an_3 cd_3 ct_3),sl_3⟩)
  (c_3:W.codeIn K cd_3 "Reader.read_name"=true)
  (k_3:W.keepIn K (.ref f_3)=true)
  (a_43:W.findIn K (.ref C_Reader) "read_names"=some (some (.ref f_43)))
  (i_43:W.isFn K (.ref f_43)=true)
  (l_43:K.lookup f_43=some ⟨oc_43,od_43,.func (W.fnOf "read_names" "Reader.read_names" (za7 zl9) (za2 zl9) (zai zl9) .none kV_43 dc_43 pm_43 an_43 cd_43 ct_43),sl_43⟩)
  (c_43:W.codeIn K cd_43 "Reader.read_names"=true)
  (k_43:W.keepIn K (.ref f_43)=true)
  (a_25:W.findIn K (.ref C_Reader) "read_variable"=some (some (.ref f_25)))
  (i_25:W.isFn K (.ref f_25)=true)
  (l_25:K.lookup f_25=some ⟨oc_25,od_25,.func (W.fnOf "read_variable" "Reader.read_variable" (za7 zlr) (za2 zlr) (zai zlr) .none kV_25 dc_25 pm_25 an_25 cd_25 ct_25),sl_25⟩)
  (c_25:W.codeIn K cd_25 "Reader.read_variable"=true)
  (k_25:W.keepIn K (.ref f_25)=true)
  (a_14:W.findIn K (.ref C_Reader) "read_number"=some (some (.ref f_14)))
  (i_14:W.isFn K (.ref f_14)=true)
  (l_14:K.lookup f_14=some ⟨oc_14,od_14,.func (W.fnOf "read_number" "Reader.read_number" (za7 zlg) (za2 zlg) (zai zlg) .none kV_14 dc_14 pm_14 an_14 cd_14 ct_14),sl_14⟩)
  (c_14:W.codeIn K cd_14 "Reader.read_number"=true)
  (k_14:W.keepIn K (.ref f_14)=true)
  (a_19:W.findIn K (.ref C_Reader) "read_arg"=some (some (.ref f_19)))
  (i_19:W.isFn K (.ref f_19)=true)
  (l_19:K.lookup f_19=some ⟨oc_19,od_19,.func (W.fnOf "read_arg" "Reader.read_arg" (za7 zll) (za2 zll) (zai zll) .none kV_19 dc_19 pm_19 an_19 cd_19 ct_19),sl_19⟩)
  (c_19:W.codeIn K cd_19 "Reader.read_arg"=true)
  (k_19:W.keepIn K (.ref f_19)=true)
  (a_13:W.findIn K (.ref C_Reader) "read_thing"=some (some (.ref f_13)))
  (i_13:W.isFn K (.ref f_13)=true)
  (l_13:K.lookup f_13=some ⟨oc_13,od_13,.func (W.fnOf "read_thing" "Reader.read_thing" (za7 zlf) (za2 zlf) (zai zlf) .none kV_13 dc_13 pm_13 an_13 cd_13 ct_13),sl_13⟩)
  (c_13:W.codeIn K cd_13 "Reader.read_thing"=true)
  (k_13:W.keepIn K (.ref f_13)=true)
  (a_44:W.findIn K (.ref C_Reader) "read_args"=some (some (.ref f_44)))
  (i_44:W.isFn K (.ref f_44)=true)
  (l_44:K.lookup f_44=some ⟨oc_44,od_44,.func (W.fnOf "read_args" "Reader.read_args" (za7 zma) (za2 zma) (zai zma) .none kV_44 dc_44 pm_44 an_44 cd_44 ct_44),sl_44⟩)
  (c_44:W.codeIn K cd_44 "Reader.read_args"=true)
  (k_44:W.keepIn K (.ref f_44)=true)
  (a_26:W.findIn K (.ref C_Reader) "read_if"=some (some (.ref f_26)))
  (i_26:W.isFn K (.ref f_26)=true)
  (l_26:K.lookup f_26=some ⟨oc_26,od_26,.func (W.fnOf "read_if" "Reader.read_if" (za7 zls) (za2 zls) (zai zls) .none kV_26 dc_26 pm_26 an_26 cd_26 ct_26),sl_26⟩)
  (c_26:W.codeIn K cd_26 "Reader.read_if"=true)
  (k_26:W.keepIn K (.ref f_26)=true)
  (a_27:W.findIn K (.ref C_Reader) "read_body"=some (some (.ref f_27)))
  (i_27:W.isFn K (.ref f_27)=true)
  (l_27:K.lookup f_27=some ⟨oc_27,od_27,.func (W.fnOf "read_body" "Reader.read_body" (za7 zlt) (za2 zlt) (zai zlt) .none kV_27 dc_27 pm_27 an_27 cd_27 ct_27),sl_27⟩)
  (c_27:W.codeIn K cd_27 "Reader.read_body"=true)
  (k_27:W.keepIn K (.ref f_27)=true)
  (a_36:W.findIn K (.ref C_Reader) "read_part"=some (some (.ref f_36)))
  (i_36:W.isFn K (.ref f_36)=true)
  (l_36:K.lookup f_36=some ⟨oc_36,od_36,.func (W.fnOf "read_part" "Reader.read_part" (za7 zl2) (za2 zl2) (zai zl2) .none kV_36 dc_36 pm_36 an_36 cd_36 ct_36),sl_36⟩)
  (c_36:W.codeIn K cd_36 "Reader.read_part"=true)
  (k_36:W.keepIn K (.ref f_36)=true)
  (a_45:W.findIn K (.ref C_Reader) "read_unlike"=some (some (.ref f_45)))
  (i_45:W.isFn K (.ref f_45)=true)
  (l_45:K.lookup f_45=some ⟨oc_45,od_45,.func (W.fnOf "read_unlike" "Reader.read_unlike" (za7 zmb) (za2 zmb) (zai zmb) .none kV_45 dc_45 pm_45 an_45 cd_45 ct_45),sl_45⟩)
  (c_45:W.codeIn K cd_45 "Reader.read_unlike"=true)
  (k_45:W.keepIn K (.ref f_45)=true)
  (a_39:W.findIn K (.ref C_Reader) "read_count"=some (some (.ref f_39)))
  (i_39:W.isFn K (.ref f_39)=true)
  (l_39:K.lookup f_39=some ⟨oc_39,od_39,.func (W.fnOf "read_count" "Reader.read_count" (za7 zl5) (za2 zl5) (zai zl5) .none kV_39 dc_39 pm_39 an_39 cd_39 ct_39),sl_39⟩)
  (c_39:W.codeIn K cd_39 "Reader.read_count"=true)
  (k_39:W.keepIn K (.ref f_39)=true)
  (a_28:W.findIn K (.ref C_Reader) "read_items"=some (some (.ref f_28)))
  (i_28:W.isFn K (.ref f_28)=true)
  (l_28:K.lookup f_28=some ⟨oc_28,od_28,.func (W.fnOf "read_items" "Reader.read_items" (za7 zlu) (za2 zlu) (zai zlu) .none kV_28 dc_28 pm_28 an_28 cd_28 ct_28),sl_28⟩)
  (c_28:W.codeIn K cd_28 "Reader.read_items"=true)
  (k_28:W.keepIn K (.ref f_28)=true)
  (a_29:W.findIn K (.ref C_Reader) "read_item"=some (some (.ref f_29)))
  (i_29:W.isFn K (.ref f_29)=true)
  (l_29:K.lookup f_29=some ⟨oc_29,od_29,.func (W.fnOf "read_item" "Reader.read_item" (za7 zlv) (za2 zlv) (zai zlv) .none kV_29 dc_29 pm_29 an_29 cd_29 ct_29),sl_29⟩)
  (c_29:W.codeIn K cd_29 "Reader.read_item"=true)
  (k_29:W.keepIn K (.ref f_29)=true)
  (a_37:W.findIn K (.ref C_Reader) "read_over"=some (some (.ref f_37)))
  (i_37:W.isFn K (.ref f_37)=true)
  (l_37:K.lookup f_37=some ⟨oc_37,od_37,.func (W.fnOf "read_over" "Reader.read_over" (za7 zl3) (za2 zl3) (zai zl3) .none kV_37 dc_37 pm_37 an_37 cd_37 ct_37),sl_37⟩)
  (c_37:W.codeIn K cd_37 "Reader.read_over"=true)
  (k_37:W.keepIn K (.ref f_37)=true)
  (a_20:W.findIn K (.ref C_Reader) "read_for"=some (some (.ref f_20)))
  (i_20:W.isFn K (.ref f_20)=true)
  (l_20:K.lookup f_20=some ⟨oc_20,od_20,.func (W.fnOf "read_for" "Reader.read_for" (za7 zlm) (za2 zlm) (zai zlm) .none kV_20 dc_20 pm_20 an_20 cd_20 ct_20),sl_20⟩)
  (c_20:W.codeIn K cd_20 "Reader.read_for"=true)
  (k_20:W.keepIn K (.ref f_20)=true)
  (a_30:W.findIn K (.ref C_Reader) "read_pairs"=some (some (.ref f_30)))
  (i_30:W.isFn K (.ref f_30)=true)
  (l_30:K.lookup f_30=some ⟨oc_30,od_30,.func (W.fnOf "read_pairs" "Reader.read_pairs" (za7 zlw) (za2 zlw) (zai zlw) .none kV_30 dc_30 pm_30 an_30 cd_30 ct_30),sl_30⟩)
  (c_30:W.codeIn K cd_30 "Reader.read_pairs"=true)
  (k_30:W.keepIn K (.ref f_30)=true)
  (a_31:W.findIn K (.ref C_Reader) "read_pair"=some (some (.ref f_31)))
  (i_31:W.isFn K (.ref f_31)=true)
  (l_31:K.lookup f_31=some ⟨oc_31,od_31,.func (W.fnOf "read_pair" "Reader.read_pair" (za7 zlx) (za2 zlx) (zai zlx) .none kV_31 dc_31 pm_31 an_31 cd_31 ct_31),sl_31⟩)
  (c_31:W.codeIn K cd_31 "Reader.read_pair"=true)
  (k_31:W.keepIn K (.ref f_31)=true)
  (pg_Reader:W.plainGet K C_Reader Str.empty=true)
  (hd_Reader:W.hasDictIn K C_Reader=true)
  (po_Reader:W.plainOver K C_Reader=true)
  (sa_Reader:W.findIn K (.ref C_Reader) "__setattr__"=some (some (.builtin "object.__setattr__")))
  (mk_Reader:W.makesIn K C_Reader=true)
  (kc_Reader:W.keepIn K (.ref C_Reader)=true)
  (na_Reader_words:W.findIn K (.ref C_Reader) "words"=some none)
  (na_Reader_place:W.findIn K (.ref C_Reader) "place"=some none)
  (kd3:W.kitOne K (.type "NoneType") (.type "bool")=some false)
  (kb9:W.kitOne K (.type "bool") (.type "bool")=some true)
  (ka4:W.kitOne K (.type "int") (.type "bool")=some false)
  (kb1:W.kitOne K (.type "str") (.type "bool")=some false)
  (kc0:W.kitOne K (.type "list") (.type "bool")=some false)
  (kc4:W.kitOne K (.type "tuple") (.type "bool")=some false)
  (kb6:W.kitOne K (.type "dict") (.type "bool")=some false)
  (kd0:W.kitOne K (.type "NoneType") (.type "int")=some false)
  (ka8:W.kitOne K (.type "bool") (.type "int")=some true)
  (ka0:W.kitOne K (.type "int") (.type "int")=some true)
  (ka2:W.kitOne K (.type "str") (.type "int")=some false)
  (kb0:W.kitOne K (.type "list") (.type "int")=some false)
  (kc2:W.kitOne K (.type "tuple") (.type "int")=some false)
  (ka6:W.kitOne K (.type "dict") (.type "int")=some false)
  (kd2:W.kitOne K (.type "NoneType") (.type "list")=some false)
  (kb8:W.kitOne K (.type "bool") (.type "list")=some false)
  (ka7:W.kitOne K (.type "int") (.type "list")=some false)
  (ka9:W.kitOne K (.type "str") (.type "list")=some false)
  (kb5:W.kitOne K (.type "list") (.type "list")=some true)
  (kc7:W.kitOne K (.type "tuple") (.type "list")=some false)
  (kb4:W.kitOne K (.type "dict") (.type "list")=some false)
  (kd1:W.kitOne K (.type "NoneType") (.type "str")=some false)
  (kb3:W.kitOne K (.type "bool") (.type "str")=some false)
  (ka3:W.kitOne K (.type "int") (.type "str")=some false)
  (ka1:W.kitOne K (.type "str") (.type "str")=some true)
  (ka5:W.kitOne K (.type "list") (.type "str")=some false)
  (kb7:W.kitOne K (.type "tuple") (.type "str")=some false)
  (kb2:W.kitOne K (.type "dict") (.type "str")=some false)
  (kd4:W.kitOne K (.type "NoneType") (.type "tuple")=some false)
  (kc5:W.kitOne K (.type "bool") (.type "tuple")=some false)
  (kc1:W.kitOne K (.type "int") (.type "tuple")=some false)
  (kc3:W.kitOne K (.type "str") (.type "tuple")=some false)
  (kc6:W.kitOne K (.type "list") (.type "tuple")=some false)
  (kc9:W.kitOne K (.type "tuple") (.type "tuple")=some true)
  (kc8:W.kitOne K (.type "dict") (.type "tuple")=some false)
  (a_KEPT:W.nsIn K mainGlobals "KEPT"=some (some (.ref f_KEPT)))
  (l_KEPT:K.lookup f_KEPT=some ⟨.type "tuple",od_KEPT,.seq #[.str "kind" t_KEPT0,.str "rule" t_KEPT1,.str "may" t_KEPT2,.str "choose" t_KEPT3,.str "never" t_KEPT4,.str "if" t_KEPT5,.str "and" t_KEPT6,.str "not" t_KEPT7,.str "unlike" t_KEPT8,.str "least" t_KEPT9,.str "most" t_KEPT10,.str "of" t_KEPT11,.str "to" t_KEPT12,.str "over" t_KEPT13,.str "in" t_KEPT14,.str "for" t_KEPT15] n_KEPT,sl_KEPT⟩)
  (a_SMALL:W.nsIn K mainGlobals "SMALL"=some (some (.str "abcdefghijklmnopqrstuvwxyz" t_SMALL)))
  (a_GREAT:W.nsIn K mainGlobals "GREAT"=some (some (.str "ABCDEFGHIJKLMNOPQRSTUVWXYZ" t_GREAT)))
  (a_FIGURES:W.nsIn K mainGlobals "FIGURES"=some (some (.str "0123456789" t_FIGURES)))
  (a_LONE:W.nsIn K mainGlobals "LONE"=some (some (.str "()," t_LONE)))
  (z_ValueError:W.nsIn K mainGlobals "ValueError"=some none)
  (z_abs:W.nsIn K mainGlobals "abs"=some none)
  (z_all:W.nsIn K mainGlobals "all"=some none)
  (z_bool:W.nsIn K mainGlobals "bool"=some none)
  (z_enumerate:W.nsIn K mainGlobals "enumerate"=some none)
  (z_int:W.nsIn K mainGlobals "int"=some none)
  (z_isinstance:W.nsIn K mainGlobals "isinstance"=some none)
  (z_len:W.nsIn K mainGlobals "len"=some none)
  (z_list:W.nsIn K mainGlobals "list"=some none)
  (z_max:W.nsIn K mainGlobals "max"=some none)
  (z_range:W.nsIn K mainGlobals "range"=some none)
  (z_str:W.nsIn K mainGlobals "str"=some none)
  (z_tuple:W.nsIn K mainGlobals "tuple"=some none)
  : ∃ fd : FuncData,(∀ (s:Shared) (v:Value),BindsTo s fd ⟨[v],[]⟩ [("_law_script",v)])/\∃ a : Wa,∃ W : Wd K mg a,a.f_9=fa/\a.fd_9=fd:=by
 have e:=hfa.symm.trans (W.mg_of X G a_9);cases e;have F_52:=zbd (st:=zmi) l_52 c_52 k_52;have F_15:=zbd (st:=zlh) l_15 c_15 k_15;have F_57:=zbd (st:=zmn) l_57 c_57 k_57;have F_50:=zbd (st:=zmg) l_50 c_50 k_50;have F_46:=zbd (st:=zmc) l_46 c_46 k_46;have F_32:=zbd (st:=zly) l_32 c_32 k_32;have F_16:=zbd (st:=zli) l_16 c_16 k_16;have F_0:=zbd (st:=s_0) l_0 c_0 k_0;have F_47:=zbd (st:=zmd) l_47 c_47 k_47;have F_17:=zbd (st:=zlj) l_17 c_17 k_17;have F_21:=zbd (st:=zln) l_21 c_21 k_21;have F_4:=zbd (st:=s_4) l_4 c_4 k_4;have F_40:=zbd (st:=zl6) l_40 c_40 k_40;have F_7:=zbd (st:=s_7) l_7 c_7 k_7;have F_22:=zbd (st:=zlo) l_22 c_22 k_22;have F_5:=zbd (st:=s_5) l_5 c_5 k_5;have F_54:=zbd (st:=zmk) l_54 c_54 k_54;have F_48:=zbd (st:=zme) l_48 c_48 k_48;have F_18:=zbd (st:=zlk) l_18 c_18 k_18;have F_33:=zbd (st:=zlz) l_33 c_33 k_33;have F_53:=zbd (st:=zmj) l_53 c_53 k_53;have F_56:=zbd (st:=zmm) l_56 c_56 k_56;have F_23:=zbd (st:=zlp) l_23 c_23 k_23;have F_8:=zbd (st:=s_8) l_8 c_8 k_8;have F_24:=zbd (st:=zlq) l_24 c_24 k_24;have F_11:=zbd (st:=zld) l_11 c_11 k_11;have F_55:=zbd (st:=zml) l_55 c_55 k_55;have F_34:=zbd (st:=zl0) l_34 c_34 k_34;have F_51:=zbd (st:=zmh) l_51 c_51 k_51;have F_35:=zbd (st:=zl1) l_35 c_35 k_35;have F_10:=zbd (st:=zlc) l_10 c_10 k_10;have F_9:=zbd (st:=s_9) l_9 c_9 k_9;have F_58:=zbd (st:=zmo) l_58 c_58 k_58;have F_2:=zbd (st:=s_2) l_2 c_2 k_2;have F_12:=zbd (st:=zle) l_12 c_12 k_12;have F_1:=zbd (st:=s_1) l_1 c_1 k_1;have F_6:=zbd (st:=s_6) l_6 c_6 k_6;have F_49:=zbd (st:=zmf) l_49 c_49 k_49;have F_41:=zbd (st:=zl7) l_41 c_41 k_41;have F_38:=zbd (st:=zl4) l_38 c_38 k_38;have F_42:=zbd (st:=zl8) l_42 c_42 k_42;have F_3:=zbd (st:=s_3) l_3 c_3 k_3;have F_43:=zbd (st:=zl9) l_43 c_43 k_43;have F_25:=zbd (st:=zlr) l_25 c_25 k_25;have F_14:=zbd (st:=zlg) l_14 c_14 k_14;have F_19:=zbd (st:=zll) l_19 c_19 k_19;have F_13:=zbd (st:=zlf) l_13 c_13 k_13;have F_44:=zbd (st:=zma) l_44 c_44 k_44;have F_26:=zbd (st:=zls) l_26 c_26 k_26;have F_27:=zbd (st:=zlt) l_27 c_27 k_27;have F_36:=zbd (st:=zl2) l_36 c_36 k_36;have F_45:=zbd (st:=zmb) l_45 c_45 k_45;have F_39:=zbd (st:=zl5) l_39 c_39 k_39;have F_28:=zbd (st:=zlu) l_28 c_28 k_28;have F_29:=zbd (st:=zlv) l_29 c_29 k_29;have F_37:=zbd (st:=zl3) l_37 c_37 k_37;have F_20:=zbd (st:=zlm) l_20 c_20 k_20;have F_30:=zbd (st:=zlw) l_30 c_30 k_30;have F_31:=zbd (st:=zlx) l_31 c_31 k_31
 exact ⟨W.fnOf "law" "law" (za7 s_9) (za2 s_9) (zai s_9) .none kV_9 dc_9 pm_9 an_9 cd_9 ct_9,fun s v=>.of_eq rfl,{
  f_52:=f_52,
  fd_52:=_,
  f_15:=f_15,
  fd_15:=_,
  f_57:=f_57,
  fd_57:=_,
  f_50:=f_50,
  fd_50:=_,
  f_46:=f_46,
  fd_46:=_,
  f_32:=f_32,
  fd_32:=_,
  f_16:=f_16,
  fd_16:=_,
  f_0:=f_0,
  fd_0:=_,
  f_47:=f_47,
  fd_47:=_,
  f_17:=f_17,
  fd_17:=_,
  f_21:=f_21,
  fd_21:=_,
  f_4:=f_4,
  fd_4:=_,
  f_40:=f_40,
  fd_40:=_,
  f_7:=f_7,
  fd_7:=_,
  f_22:=f_22,
  fd_22:=_,
  f_5:=f_5,
  fd_5:=_,
  f_54:=f_54,
  fd_54:=_,
  f_48:=f_48,
  fd_48:=_,
  f_18:=f_18,
  fd_18:=_,
  f_33:=f_33,
  fd_33:=_,
  f_53:=f_53,
  fd_53:=_,
  f_56:=f_56,
  fd_56:=_,
  f_23:=f_23,
  fd_23:=_,
  f_8:=f_8,
  fd_8:=_,
  f_24:=f_24,
  fd_24:=_,
  f_11:=f_11,
  fd_11:=_,
  f_55:=f_55,
  fd_55:=_,
  f_34:=f_34,
  fd_34:=_,
  f_51:=f_51,
  fd_51:=_,
  f_35:=f_35,
  fd_35:=_,
  f_10:=f_10,
  fd_10:=_,
  f_9:=f_9,
  fd_9:=_,
  f_58:=f_58,
  fd_58:=_,
  f_2:=f_2,
  fd_2:=_,
  f_12:=f_12,
  fd_12:=_,
  f_1:=f_1,
  fd_1:=_,
  f_6:=f_6,
  fd_6:=_,
  f_49:=f_49,
  fd_49:=_,
  f_41:=f_41,
  fd_41:=_,
  f_38:=f_38,
  fd_38:=_,
  f_42:=f_42,
  fd_42:=_,
  f_3:=f_3,
  fd_3:=_,
  f_43:=f_43,
  fd_43:=_,
  f_25:=f_25,
  fd_25:=_,
  f_14:=f_14,
  fd_14:=_,
  f_19:=f_19,
  fd_19:=_,
  f_13:=f_13,
  fd_13:=_,
  f_44:=f_44,
  fd_44:=_,
  f_26:=f_26,
  fd_26:=_,
  f_27:=f_27,
  fd_27:=_,
  f_36:=f_36,
  fd_36:=_,
  f_45:=f_45,
  fd_45:=_,
  f_39:=f_39,
  fd_39:=_,
  f_28:=f_28,
  fd_28:=_,
  f_29:=f_29,
  fd_29:=_,
  f_37:=f_37,
  fd_37:=_,
  f_20:=f_20,
  fd_20:=_,
  f_30:=f_30,
  fd_30:=_,
  f_31:=f_31,
  fd_31:=_,
  C_Reader:=C_Reader },{
  F_52:=F_52,
  b_52:=F_52.binds fun _ _ _ _ _ _ us hl=>by
   revert us hl
   exact zb4 fun _=>rfl,
  g_52:=W.mg_of X G a_52,
  F_15:=F_15,
  b_15:=F_15.binds fun _ _ _ _ _ _ us hl=>by
   revert us hl
   exact ztq fun _ _ _=>rfl,
  g_15:=W.mg_of X G a_15,
  F_57:=F_57,
  b_57:=F_57.binds fun _ _ _ _ _ _ us hl=>by
   revert us hl
   exact zb4 fun _=>rfl,
  g_57:=W.mg_of X G a_57,
  F_50:=F_50,
  b_50:=F_50.binds fun _ _ _ _ _ _ us hl=>by
   revert us hl
   exact zb4 fun _=>rfl,
  g_50:=W.mg_of X G a_50,
  F_46:=F_46,
  b_46:=F_46.binds fun _ _ _ _ _ _ us hl=>by
   revert us hl
   exact zb4 fun _=>rfl,
  g_46:=W.mg_of X G a_46,
  F_32:=F_32,
  b_32:=F_32.binds fun _ _ _ _ _ _ us hl=>by
   revert us hl
   exact zb4 fun _=>rfl,
  g_32:=W.mg_of X G a_32,
  F_16:=F_16,
  b_16:=F_16.binds fun _ _ _ _ _ _ us hl=>by
   revert us hl
   exact ze1 fun _ _=>rfl,
  g_16:=W.mg_of X G a_16,
  F_0:=F_0,
  b_0:=F_0.binds fun _ _ _ _ _ _ us hl=>by
   revert us hl
   exact ze1 fun _ _=>rfl,
  g_0:=W.mg_of X G a_0,
  F_47:=F_47,
  b_47:=F_47.binds fun _ _ _ _ _ _ us hl=>by
   revert us hl
   exact ze1 fun _ _=>rfl,
  g_47:=W.mg_of X G a_47,
  F_17:=F_17,
  b_17:=F_17.binds fun _ _ _ _ _ _ us hl=>by
   revert us hl
   exact ztq fun _ _ _=>rfl,
  g_17:=W.mg_of X G a_17,
  F_21:=F_21,
  b_21:=F_21.binds fun _ _ _ _ _ _ us hl=>by
   revert us hl
   exact z62 rfl,
  g_21:=W.mg_of X G a_21,
  F_4:=F_4,
  b_4:=F_4.binds fun _ _ _ _ _ _ us hl=>by
   revert us hl
   exact zb4 fun _=>rfl,
  g_4:=W.mg_of X G a_4,
  F_40:=F_40,
  b_40:=F_40.binds fun _ _ _ _ _ _ us hl=>by
   revert us hl
   exact zb4 fun _=>rfl,
  g_40:=W.mg_of X G a_40,
  F_7:=F_7,
  b_7:=F_7.binds fun _ _ _ _ _ _ us hl=>by
   revert us hl
   exact zb4 fun _=>rfl,
  g_7:=W.mg_of X G a_7,
  F_22:=F_22,
  b_22:=F_22.binds fun _ _ _ _ _ _ us hl=>by
   revert us hl
   exact zb4 fun _=>rfl,
  g_22:=W.mg_of X G a_22,
  F_5:=F_5,
  b_5:=F_5.binds fun _ _ _ _ _ _ us hl=>by
   revert us hl
   exact zb4 fun _=>rfl,
  g_5:=W.mg_of X G a_5,
  F_54:=F_54,
  b_54:=F_54.binds fun _ _ _ _ _ _ us hl=>by
   revert us hl
   exact zb4 fun _=>rfl,
  g_54:=W.mg_of X G a_54,
  F_48:=F_48,
  b_48:=F_48.binds fun _ _ _ _ _ _ us hl=>by
   revert us hl
   exact zb4 fun _=>rfl,
  g_48:=W.mg_of X G a_48,
  F_18:=F_18,
  b_18:=F_18.binds fun _ _ _ _ _ _ us hl=>by
   revert us hl
   exact ze1 fun _ _=>rfl,
  g_18:=W.mg_of X G a_18,
  F_33:=F_33,
  b_33:=F_33.binds fun _ _ _ _ _ _ us hl=>by
   revert us hl
   exact zb4 fun _=>rfl,
  g_33:=W.mg_of X G a_33,
  F_53:=F_53,
  b_53:=F_53.binds fun _ _ _ _ _ _ us hl=>by
   revert us hl
   exact zb4 fun _=>rfl,
  g_53:=W.mg_of X G a_53,
  F_56:=F_56,
  b_56:=F_56.binds fun _ _ _ _ _ _ us hl=>by
   revert us hl
   exact zb4 fun _=>rfl,
  g_56:=W.mg_of X G a_56,
  F_23:=F_23,
  b_23:=F_23.binds fun _ _ _ _ _ _ us hl=>by
   revert us hl
   exact zb4 fun _=>rfl,
  g_23:=W.mg_of X G a_23,
  F_8:=F_8,
  b_8:=F_8.binds fun _ _ _ _ _ _ us hl=>by
   revert us hl
   exact zb4 fun _=>rfl,
  g_8:=W.mg_of X G a_8,
  F_24:=F_24,
  b_24:=F_24.binds fun _ _ _ _ _ _ us hl=>by
   revert us hl
   exact ze1 fun _ _=>rfl,
  g_24:=W.mg_of X G a_24,
  F_11:=F_11,
  b_11:=F_11.binds fun _ _ _ _ _ _ us hl=>by
   revert us hl
   exact ze1 fun _ _=>rfl,
  g_11:=W.mg_of X G a_11,
  F_55:=F_55,
  b_55:=F_55.binds fun _ _ _ _ _ _ us hl=>by
   revert us hl
   exact ze1 fun _ _=>rfl,
  g_55:=W.mg_of X G a_55,
  F_34:=F_34,
  b_34:=F_34.binds fun _ _ _ _ _ _ us hl=>by
   revert us hl
   exact ztq fun _ _ _=>rfl,
  g_34:=W.mg_of X G a_34,
  F_51:=F_51,
  b_51:=F_51.binds fun _ _ _ _ _ _ us hl=>by
   revert us hl
   exact ze1 fun _ _=>rfl,
  g_51:=W.mg_of X G a_51,
  F_35:=F_35,
  b_35:=F_35.binds fun _ _ _ _ _ _ us hl=>by
   revert us hl
   exact ze1 fun _ _=>rfl,
  g_35:=W.mg_of X G a_35,
  F_10:=F_10,
  b_10:=F_10.binds fun _ _ _ _ _ _ us hl=>by
   revert us hl
   exact ze1 fun _ _=>rfl,
  g_10:=W.mg_of X G a_10,
  F_9:=F_9,
  b_9:=F_9.binds fun _ _ _ _ _ _ us hl=>by
   revert us hl
   exact zb4 fun _=>rfl,
  g_9:=W.mg_of X G a_9,
  F_58:=F_58,
  b_58:=F_58.binds fun _ _ _ _ _ _ us hl=>by
   revert us hl
   exact ze1 fun _ _=>rfl,
  F_2:=F_2,
  b_2:=F_2.binds fun _ _ _ _ _ _ us hl=>by
   revert us hl
   exact ze1 fun _ _=>rfl,
  F_12:=F_12,
  b_12:=F_12.binds fun _ _ _ _ _ _ us hl=>by
   revert us hl
   exact zb4 fun _=>rfl,
  F_1:=F_1,
  b_1:=F_1.binds fun _ _ _ _ _ _ us hl=>by
   revert us hl
   exact ze1 fun _ _=>rfl,
  F_6:=F_6,
  b_6:=F_6.binds fun _ _ _ _ _ _ us hl=>by
   revert us hl
   exact ze1 fun _ _=>rfl,
  F_49:=F_49,
  b_49:=F_49.binds fun _ _ _ _ _ _ us hl=>by
   revert us hl
   exact zb4 fun _=>rfl,
  F_41:=F_41,
  b_41:=F_41.binds fun _ _ _ _ _ _ us hl=>by
   revert us hl
   exact zb4 fun _=>rfl,
  F_38:=F_38,
  b_38:=F_38.binds fun _ _ _ _ _ _ us hl=>by
   revert us hl
   exact zb4 fun _=>rfl,
  F_42:=F_42,
  b_42:=F_42.binds fun _ _ _ _ _ _ us hl=>by
   revert us hl
   exact zb4 fun _=>rfl,
  F_3:=F_3,
  b_3:=F_3.binds fun _ _ _ _ _ _ us hl=>by
   revert us hl
   exact zb4 fun _=>rfl,
  F_43:=F_43,
  b_43:=F_43.binds fun _ _ _ _ _ _ us hl=>by
   revert us hl
   exact zb4 fun _=>rfl,
  F_25:=F_25,
  b_25:=F_25.binds fun _ _ _ _ _ _ us hl=>by
   revert us hl
   exact zb4 fun _=>rfl,
  F_14:=F_14,
  b_14:=F_14.binds fun _ _ _ _ _ _ us hl=>by
   revert us hl
   exact zb4 fun _=>rfl,
  F_19:=F_19,
  b_19:=F_19.binds fun _ _ _ _ _ _ us hl=>by
   revert us hl
   exact zb4 fun _=>rfl,
  F_13:=F_13,
  b_13:=F_13.binds fun _ _ _ _ _ _ us hl=>by
   revert us hl
   exact zb4 fun _=>rfl,
  F_44:=F_44,
  b_44:=F_44.binds fun _ _ _ _ _ _ us hl=>by
   revert us hl
   exact zb4 fun _=>rfl,
  F_26:=F_26,
  b_26:=F_26.binds fun _ _ _ _ _ _ us hl=>by
   revert us hl
   exact zb4 fun _=>rfl,
  F_27:=F_27,
  b_27:=F_27.binds fun _ _ _ _ _ _ us hl=>by
   revert us hl
   exact zb4 fun _=>rfl,
  F_36:=F_36,
  b_36:=F_36.binds fun _ _ _ _ _ _ us hl=>by
   revert us hl
   exact zb4 fun _=>rfl,
  F_45:=F_45,
  b_45:=F_45.binds fun _ _ _ _ _ _ us hl=>by
   revert us hl
   exact zb4 fun _=>rfl,
  F_39:=F_39,
  b_39:=F_39.binds fun _ _ _ _ _ _ us hl=>by
   revert us hl
   exact zb4 fun _=>rfl,
  F_28:=F_28,
  b_28:=F_28.binds fun _ _ _ _ _ _ us hl=>by
   revert us hl
   exact zb4 fun _=>rfl,
  F_29:=F_29,
  b_29:=F_29.binds fun _ _ _ _ _ _ us hl=>by
   revert us hl
   exact zb4 fun _=>rfl,
  F_37:=F_37,
  b_37:=F_37.binds fun _ _ _ _ _ _ us hl=>by
   revert us hl
   exact zb4 fun _=>rfl,
  F_20:=F_20,
  b_20:=F_20.binds fun _ _ _ _ _ _ us hl=>by
   revert us hl
   exact zb4 fun _=>rfl,
  F_30:=F_30,
  b_30:=F_30.binds fun _ _ _ _ _ _ us hl=>by
   revert us hl
   exact zb4 fun _=>rfl,
  F_31:=F_31,
  b_31:=F_31.binds fun _ _ _ _ _ _ us hl=>by
   revert us hl
   exact zb4 fun _=>rfl,
  g_Reader:=W.mg_of X G aC_Reader,
  cl_Reader:=⟨pg_Reader,hd_Reader,po_Reader,sa_Reader⟩,
  mk_Reader:=⟨mk_Reader,a_58,i_58,kc_Reader⟩,
  na_Reader_words:=na_Reader_words,
  na_Reader_place:=na_Reader_place,
  m_2:=⟨a_2,i_2,k_2⟩,
  m_12:=⟨a_12,i_12,k_12⟩,
  m_1:=⟨a_1,i_1,k_1⟩,
  m_6:=⟨a_6,i_6,k_6⟩,
  m_49:=⟨a_49,i_49,k_49⟩,
  m_41:=⟨a_41,i_41,k_41⟩,
  m_38:=⟨a_38,i_38,k_38⟩,
  m_42:=⟨a_42,i_42,k_42⟩,
  m_3:=⟨a_3,i_3,k_3⟩,
  m_43:=⟨a_43,i_43,k_43⟩,
  m_25:=⟨a_25,i_25,k_25⟩,
  m_14:=⟨a_14,i_14,k_14⟩,
  m_19:=⟨a_19,i_19,k_19⟩,
  m_13:=⟨a_13,i_13,k_13⟩,
  m_44:=⟨a_44,i_44,k_44⟩,
  m_26:=⟨a_26,i_26,k_26⟩,
  m_27:=⟨a_27,i_27,k_27⟩,
  m_36:=⟨a_36,i_36,k_36⟩,
  m_45:=⟨a_45,i_45,k_45⟩,
  m_39:=⟨a_39,i_39,k_39⟩,
  m_28:=⟨a_28,i_28,k_28⟩,
  m_29:=⟨a_29,i_29,k_29⟩,
  m_37:=⟨a_37,i_37,k_37⟩,
  m_20:=⟨a_20,i_20,k_20⟩,
  m_30:=⟨a_30,i_30,k_30⟩,
  m_31:=⟨a_31,i_31,k_31⟩,
  kd3:=kd3,
  kb9:=kb9,
  ka4:=ka4,
  kb1:=kb1,
  kc0:=kc0,
  kc4:=kc4,
  kb6:=kb6,
  kd0:=kd0,
  ka8:=ka8,
  ka0:=ka0,
  ka2:=ka2,
  kb0:=kb0,
  kc2:=kc2,
  ka6:=ka6,
  kd2:=kd2,
  kb8:=kb8,
  ka7:=ka7,
  ka9:=ka9,
  kb5:=kb5,
  kc7:=kc7,
  kb4:=kb4,
  kd1:=kd1,
  kb3:=kb3,
  ka3:=ka3,
  ka1:=ka1,
  ka5:=ka5,
  kb7:=kb7,
  kb2:=kb2,
  kd4:=kd4,
  kc5:=kc5,
  kc1:=kc1,
  kc3:=kc3,
  kc6:=kc6,
  kc9:=kc9,
  kc8:=kc8,
  g_KEPT:=⟨_,_,_,_,W.mg_of X G a_KEPT,l_KEPT,rfl,rfl,(show 16<=sizeLine by decide),.cons ⟨_,rfl⟩ (.cons ⟨_,rfl⟩ (.cons ⟨_,rfl⟩ (.cons ⟨_,rfl⟩ (.cons ⟨_,rfl⟩ (.cons ⟨_,rfl⟩ (.cons ⟨_,rfl⟩ (.cons ⟨_,rfl⟩ (.cons ⟨_,rfl⟩ (.cons ⟨_,rfl⟩ (.cons ⟨_,rfl⟩ (.cons ⟨_,rfl⟩ (.cons ⟨_,rfl⟩ (.cons ⟨_,rfl⟩ (.cons ⟨_,rfl⟩ (.cons ⟨_,rfl⟩ (.nil))))))))))))))))⟩,
  g_SMALL:=⟨_,W.mg_of X G a_SMALL⟩,
  g_GREAT:=⟨_,W.mg_of X G a_GREAT⟩,
  g_FIGURES:=⟨_,W.mg_of X G a_FIGURES⟩,
  g_LONE:=⟨_,W.mg_of X G a_LONE⟩,
  z_ValueError:=W.mg_none_of X G z_ValueError,
  z_abs:=W.mg_none_of X G z_abs,
  z_all:=W.mg_none_of X G z_all,
  z_bool:=W.mg_none_of X G z_bool,
  z_enumerate:=W.mg_none_of X G z_enumerate,
  z_int:=W.mg_none_of X G z_int,
  z_isinstance:=W.mg_none_of X G z_isinstance,
  z_len:=W.mg_none_of X G z_len,
  z_list:=W.mg_none_of X G z_list,
  z_max:=W.mg_none_of X G z_max,
  z_range:=W.mg_none_of X G z_range,
  z_str:=W.mg_none_of X G z_str,
  z_tuple:=W.mg_none_of X G z_tuple },rfl,rfl⟩
end
end N_k74
theorem PySem.W.Fast.te6852337446951067691 : True:=trivial
theorem PySem.W.Fast.te16063805142712034410 : True:=trivial
theorem PySem.W.Fast.te1564879561991546993 : True:=trivial
theorem PySem.W.Fast.te4161641409683660064 : True:=trivial
theorem PySem.W.Fast.te8743356776470312200 : True:=trivial
theorem PySem.W.Fast.te14444676285705392949 : True:=trivial
theorem PySem.W.Fast.te4791548801998660988 : True:=trivial
theorem PySem.W.Fast.te1961945082771596710 : True:=trivial
theorem PySem.W.Fast.te8375500965931206945 : True:=trivial
theorem PySem.W.Fast.te220293300137983792 : True:=trivial
theorem PySem.W.Fast.te8295640623235945671 : True:=trivial
theorem PySem.W.Fast.te15812103220184736919 : True:=trivial
theorem PySem.W.Fast.te18291497142574563831 : True:=trivial
theorem PySem.W.Fast.te466436126801284936 : True:=trivial
theorem PySem.W.Fast.te15087555583814560868 : True:=trivial
theorem PySem.W.Fast.te13236908636392451610 : True:=trivial
theorem PySem.W.Fast.te3787931557894736315 : True:=trivial
theorem PySem.W.Fast.te4907441813188047105 : True:=trivial
theorem PySem.W.Fast.te1187120310221369390 : True:=trivial
theorem PySem.W.Fast.te4237708524839378590 : True:=trivial
theorem PySem.W.Fast.te10184744138260287030 : True:=trivial
theorem PySem.W.Fast.te2811395776654455657 : True:=trivial
theorem PySem.W.Fast.te13778388662909218041 : True:=trivial
theorem PySem.W.Fast.te12570361693885707202 : True:=trivial
theorem PySem.W.Fast.te11762654677374313234 : True:=trivial
theorem PySem.W.Fast.te14054853532418796424 : True:=trivial
theorem PySem.W.Fast.te2580027891311835347 : True:=trivial
theorem PySem.W.Fast.te15961729992618489417 : True:=trivial
theorem PySem.W.Fast.te7821572254233824884 : True:=trivial
theorem PySem.W.Fast.te17443253408456592377 : True:=trivial
theorem PySem.W.Fast.te5560686066927166945 : True:=trivial
theorem PySem.W.Fast.te2785350497445389110 : True:=trivial
theorem PySem.W.Fast.te6300263053289991859 : True:=trivial
open PySem PySem.W PyProof.Rows
set_option maxRecDepth 100000 in
set_option maxHeartbeats 0 in
theorem PySem.Challenge.cw_standstill_k74_bodies_read_holds : PySem.Challenge.rw_standstill_k74_bodies_read.Holds := by
 w_on; o_law; k_head; (case hw=>w_witness2)
 k_fill
 refine L2.walk_ofK (l:=PySem.Challenge.rw_standstill_k74_bodies_read) (n:=63) (k:=16) (x:="_law_script") (CX:=L2.CX0) (sp:=N_k74.sp_law) rfl (by decide) rfl ⟨rfl,by decide,by decide⟩ (fun w h Y=>PySem.W.kIn_of Y) ?F (fun _ _ a ns hl _ hS=>N_k74.sp_law_of hl hS) (fun _ _ _ _ z=>z)
 case F =>
  intro w mg fa h KX G hmg
  have TT : ∃ fd : FuncData,(∀ (s:Shared) (v:Value),BindsTo s fd ⟨[v],[]⟩ [("_law_script",v)]) /\ ∃ a : N_k74.Wa,∃ W : N_k74.Wd (L2.KOf KX) mg a,a.f_9=fa /\ a.fd_9=fd:=by
   dsimp only [L2.KOf]
   refine' N_k74.all_mk (l:=PySem.Challenge.rw_standstill_k74_bodies_read) (w:=w) KX G hmg ..
   all_goals first | k_is | kit_is | skip
  obtain ⟨fd,hb,a,W,e1,e2⟩:=TT
  subst e1 e2
  exact ⟨_,hb,fun base kb nb=>N_k74.law_ok W⟩
