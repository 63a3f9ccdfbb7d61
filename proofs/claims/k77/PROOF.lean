import PyProof.Rows.All
import Wide.All
import OpenK.AllK
import Wide.FinOn
import Lean
import PyProof.EqAt
import PyProof.EqKinds
import PyProof.TupleCall
import PyProof.NeKinds
import PySem.Challenge.RW_standstill_k77_texts_of_rows
set_option Elab.async false
set_option genSizeOf false
set_option linter.all false
set_option maxRecDepth 100000
abbrev PRS:=PySem.Value->PySem.Shared->Prop
abbrev MGT:=PySem.Str->Option PySem.Value
abbrev PNS:=List (PySem.Addr×PySem.Obj)
abbrev LN:=List Nat
abbrev L2N:=List LN
abbrev LSt:=List PySem.Str
abbrev LVa:=List PySem.Value
abbrev LAd:=List PySem.Addr
abbrev LEx:=List PySem.Expr
theorem gq{α}{l:List α}{i:Nat}{a:α}(h:l[i]?=some a):∃ h:i<l.length,l[i]=a:=List.getElem?_eq_some_iff.mp h
theorem fq:false≠true:=Bool.false_ne_true
set_option hygiene false
local macro_rules
|`(@0)=>`((X.comp scope Nc cl C ex s₂ H₂))
|`(@1)=>`((model X.prog X.w))
|`(@2)=>`((za3 (zb5 W) hr (za6 0 (zae (DE.dx zag) zal))))
|`(@3)=>`((zae (DE.dx zag) zal))
|`(@4)=>`((k==NameKind.free && env.scope.kind==.function && env.kindOf n==some .cell))
|`(@5)=>`((zbf rfl rfl rfl))
|`(@6)=>`((zfa (zct (pv 0) (zgb W) hr (zae (DE.dx zaj) zal))))
|`(@7)=>`((.ListComp elt [⟨tg,iter,ifs,0⟩] scope pos))
|`(@8)=>`((.Call (.Name x p) (e::es) [] pos))
|`(@9)=>`((zh2 pk.ok (hr0.mono hk0) hg pk.g pk.kp pk.b .nil zfu ha.pa hdb he hpl))
set_option hygiene true
namespace L2
open List
open Option (bind_some)
open PySem PySem.Spec PyProof.Rows
noncomputable abbrev Key:=Sum Int Str
inductive V where
 | non | bl (b:Bool) | int (i:Int) | str (x:Str) | byt (b:Array UInt8) | flt (b:UInt64) | ref (a:Addr) | ty (n:String)
 deriving DecidableEq
def za7 : V->Value->Prop
 | .non,u=>u=Value.none
 | .bl b,u=>u=Value.bool b
 | .int i,u=>∃ t,u=Value.int i t
 | .str x,u=>∃ t,u=Value.str x t
 | .byt b,u=>∃ t,u=Value.bytes b t
 | .flt b,u=>∃ t,u=Value.float b t
 | .ref a,u=>u=Value.ref a
 | .ty n,u=>u=Value.type n
abbrev zay : List V->LVa->Prop:=Paired za7
variable {xs:List V} {us:LVa}
theorem zay.length (r:zay xs us) : xs.length=us.length:=Paired.length r
theorem zay.get : ∀ {xs:List V} {us:LVa} {i:Nat} {x:V},zay xs us->xs[i]?=some x->∃ u,us[i]?=some u/\za7 x u
 | _,_,_,_,.nil,e=>by simp at e
 | _,_,0,_,.cons r _,e=>by simp at e; subst e; exact ⟨_,rfl,r⟩
 | _,_,i + 1,x,.cons _ t,e=>by
  obtain ⟨u,h1,h2⟩:=zay.get (i:=i) (x:=x) t (by simpa using e);exact ⟨u,by simpa using h1,h2⟩
theorem zay.set {x:V} {u:Value} (r:za7 x u) : ∀ {xs:List V} {us:LVa} (i:Nat),zay xs us->zay (xs.set i x) (us.set i u)
 | _,_,_,.nil=>.nil
 | _,_,0,.cons _ t=>.cons r t
 | _,_,i + 1,.cons q t=>.cons q (zay.set r i t)
theorem zay.append : ∀ {xs ys:List V} {us ws:LVa},zay xs us->zay ys ws->zay (xs++ys) (us++ws)
 | _,_,_,_,.nil,s=>s
 | _,_,_,_,.cons r t,s=>.cons r (zay.append t s)
theorem zay.take : ∀ {xs:List V} {us:LVa} (n:Nat),zay xs us->zay (xs.take n) (us.take n)
 | _,_,0,_=>.nil
 | _,_,_ + 1,.nil=>.nil
 | _,_,n + 1,.cons r t=>.cons r (zay.take n t)
theorem zay.drop : ∀ {xs:List V} {us:LVa} (n:Nat),zay xs us->zay (xs.drop n) (us.drop n)
 | _,_,0,r=>r
 | _,_,_ + 1,.nil=>.nil
 | _,_,n + 1,.cons _ t=>zay.drop n t
def zht : Option V->Option Value->Prop
 | some v,some u=>za7 v u
 | none,none=>True
 | _,_=>False
noncomputable def kV : Key->V
 | .inl i=>.int i
 | .inr x=>.str x
inductive HO where
 | lst (xs:List V)
 | tup (xs:List V)
 | set (S:Int->Bool) (n:Nat)
 | ins (C dx:Addr) (fs:List (Str×V))
 | own (x:Addr)
 | xd (fs:List (Str×V))
 | met (f x:Addr)
 | rng (lo hi:Int)
 | frz (o:Obj) (u:HO)
 | tbl (ps:Array Value)
 | ext (φ : Heap->Prop)
noncomputable abbrev Hp:=Addr->Option HO
noncomputable def upd (H:Hp) (a:Addr) (o:HO) : Hp:=fun b=>if b=a then some o else H b
variable {H:Hp} {a:Addr} {o:HO}
theorem zb8 : upd H a o a=some o:=by unfold upd; rw [if_pos rfl]
variable {b:Addr}
theorem zbs (h:b≠a) : upd H a o b=H b:=by unfold upd; rw [if_neg h]
theorem zfd (h:H a=some o) (h':H b=none) : a≠b:=by
 intro e; subst e; rw [h] at h'; cases h'
section
variable (P:Program) (w:World)
def zd5 (H:Hp) (h:Heap) (a:Addr) : HO->Prop
 | .lst xs=>xs.length<=sizeLine/\∃ (its:LVa) (n:Nat),zay xs its/\h.get? a=some { cls:=.type "list",data:=.seq its.toArray n }
 | .tup xs=>xs.length<=sizeLine/\∃ its : LVa,zay xs its/\IsTup h a its.toArray
 | .set S n=>h.SetOf (intKind P w) a S n
 | .ins C dx fs=>H dx=some (.own a)/\fs.length<=1000/\dx≠a/\h.get? a=some (W.instObj C dx) /\
   ∃ mA,h.Ns1 dx mA/\(∀ f,zht (fs.lookup f) (mA f))/\PySem.Within mA (fs.map (·.1))
 | .own _=>∃ o,h.get? a=some o
 | .xd fs=>∃ mA,h.Ns1 a mA/\∀ f,zht (fs.lookup f) (mA f)
 | .rng lo hi=>∃ t u v,h.get? a=some { cls:=.type "range",data:=.fields #[.int lo t,.int hi u,.int 1 v] }
 | .frz o u=>h.get? a=some o/\zd5 H h a u
 | .tbl ps=>h.get? a=some { cls:=.none,data:=.fields ps }
 | .met f x=>h.get? a=some (W.methodObj (.ref f) (.ref x))
 | .ext φ=>φ h/\(∃ o,h.get? a=some o)/\∀ h1 h2 : Heap,φ h1->(∀ o,h1.get? a=some o->h2.get? a=some o)->φ h2
def HOk (H:Hp) (h:Heap) : Prop:=∀ a o,H a=some o->zd5 P w H h a o
end
variable {P:Program} {w:World} {h:Heap}
theorem zd5.lt (x:zd5 P w H h a o) : a < h.objs.size:=by
 cases o with
 | lst xs=>obtain ⟨_,_,_,_,e⟩:=x; exact Heap.lt_size e
 | tup xs=>obtain ⟨_,_,_,p⟩:=x; exact p.lt
 | set S n=>obtain ⟨o,_,_,_,e,_⟩:=x; exact Heap.lt_size e
 | ins C dx fs=>obtain ⟨_,_,_,e,_⟩:=x; exact Heap.lt_size e
 | own y=>obtain ⟨_,e⟩:=x; exact Heap.lt_size e
 | xd fs=>obtain ⟨_,⟨_,_,_,e,_⟩,_⟩:=x; exact Heap.lt_size e
 | rng lo hi=>obtain ⟨_,_,_,e⟩:=x; exact Heap.lt_size e
 | frz ob u=>obtain ⟨e,_⟩:=x; exact Heap.lt_size e
 | tbl ps=>exact Heap.lt_size (show h.get? a=some _ from x)
 | met f y=>exact Heap.lt_size (show h.get? a=some _ from x)
 | ext φ=>obtain ⟨_,⟨_,e⟩,_⟩:=x; exact Heap.lt_size e
variable {H':Hp} {h':Heap}
theorem zd5.stay (x:zd5 P w H h a o) (k:∀ b u,(b=a\/H b=some (.own a))->h.get? b=some u->h'.get? b=some u)
  (ho:∀ b,H b=some (.own a)->H' b=some (.own a)) (ht:∀ b xs,H b=some (.tup xs)->H' b=some (.tup xs)) : zd5 P w H' h' a o:=by
 induction o with
 | lst xs=>obtain ⟨z,its,n,r,e⟩:=x; exact ⟨z,its,n,r,k _ _ (.inl rfl) e⟩
 | tup xs=>obtain ⟨z,its,r,ob,e,c⟩:=x; exact ⟨z,its,r,ob,k _ _ (.inl rfl) e,c⟩
 | set S n=>obtain ⟨ob,es,ep,t,e,c⟩:=x; exact ⟨ob,es,ep,t,k _ _ (.inl rfl) e,c⟩
 | ins C dx fs =>
  obtain ⟨d,z,ne,e,mA,⟨od,es,ep,e2,c⟩,r⟩:=x
  exact ⟨ho _ d,z,ne,k _ _ (.inl rfl) e,mA,⟨od,es,ep,k _ _ (.inr d) e2,c⟩,r⟩
 | own y=>obtain ⟨ob,e⟩:=x; exact ⟨ob,k _ _ (.inl rfl) e⟩
 | xd fs=>obtain ⟨mA,⟨od,es,ep,e,c⟩,r⟩:=x; exact ⟨mA,⟨od,es,ep,k _ _ (.inl rfl) e,c⟩,r⟩
 | rng lo hi=>obtain ⟨t,u,v,e⟩:=x; exact ⟨t,u,v,k _ _ (.inl rfl) e⟩
 | frz ob u ih=>obtain ⟨e,q⟩:=x; exact ⟨k _ _ (.inl rfl) e,ih q⟩
 | tbl ps =>
  have e : h.get? a=some { cls:=.none,data:=.fields ps }:=x;show h'.get? a=some { cls:=.none,data:=.fields ps }
  exact k a _ (.inl rfl) e
 | met f y =>
  have e : h.get? a=some (W.methodObj (.ref f) (.ref y)):=x;show h'.get? a=some (W.methodObj (.ref f) (.ref y))
  exact k a _ (.inl rfl) e
 | ext φ=>obtain ⟨p,⟨o,e⟩,st⟩:=x; exact ⟨st _ _ p fun o q=>k _ _ (.inl rfl) q,⟨o,k _ _ (.inl rfl) e⟩,st⟩
theorem HOk.lt (x:HOk P w H h) (e:H a=some o) : a < h.objs.size:=(x a o e).lt
theorem HOk.fresh (x:HOk P w H h) (e:h.objs.size<=a) : H a=none:=by
 cases q : H a with
 | none=>rfl
 | some u=>exact absurd (Nat.lt_of_lt_of_le (x.lt q) e) (Nat.lt_irrefl _)
theorem HOk.kept (x:HOk P w H h) (k:∀ b u,h.get? b=some u->h'.get? b=some u) : HOk P w H h':=fun a o e =>
 (x a o e).stay (fun b u _ q=>k b u q) (fun _ q=>q) fun _ _ q=>q
theorem HOk.laid (x:HOk P w H h) (k:∀ b u,h.get? b=some u->h'.get? b=some u) (hp:h.objs.size<=a) (new:zd5 P w (upd H a o) h' a o) : HOk P w (upd H a o) h':=fun b u e=>by
 have hn:=x.fresh hp
 by_cases hb : b=a
 ·subst hb; rw [zb8] at e; cases e; exact new
 ·rw [zbs hb] at e;exact (x b u e).stay (fun c v _ q=>k c v q) (fun c q=>by rw [zbs (zfd q hn)]; exact q) fun c xs q=>by rw [zbs (zfd q hn)]; exact q
def Rd (H:Hp) (a:Addr) (u:HO) : Prop:=H a=some u\/∃ o,H a=some (.frz o u)
theorem Rd.ok {u:HO} (r:Rd H a u) (x:HOk P w H h) : zd5 P w H h a u:=by
 rcases r with r | ⟨o,r⟩
 ·exact x a u r
 ·obtain ⟨_,q⟩:=x a _ r;exact q
def Mut : Option HO->Prop
 | some (.lst _)=>True
 | some (.set _ _)=>True
 | some (.ins _ _ _)=>True
 | some (.ext _)=>True
 | _=>False
variable {x e:Addr} {o':HO}
theorem HOk.write (ok:HOk P w H h) (mu:Mut (H x)) (he:e=x\/H e=some (.own x)) (k:∀ b u,b≠e->h.get? b=some u->h'.get? b=some u) (heo:∃ u,h'.get? e=some u)
  (new:zd5 P w (upd H x o') h' x o') : HOk P w (upd H x o') h':=fun b u q=>by
 have nown : ∀ c y,H c=some (.own y)->c≠x:=fun c y r z=>by subst z; rw [r] at mu; exact mu
 have ntup : ∀ c xs,H c=some (.tup xs)->c≠x:=fun c xs r z=>by subst z; rw [r] at mu; exact mu
 by_cases hb : b=x
 ·subst hb; rw [zb8] at q; cases q; exact new
 ·rw [zbs hb] at q
  by_cases hbe : b=e
  ·have q' : H b=some (.own x):=by
    rcases he with z | z
    ·exact absurd (hbe.trans z) hb
    ·rw [hbe]; exact z
   rw [q] at q'; cases q';obtain ⟨v,hv⟩:=heo;exact ⟨v,by rw [hbe]; exact hv⟩
  ·refine (ok b u q).stay (fun c v hc r=>k c v ?_ r) (fun c r=>by rw [zbs (nown c b r)]; exact r) fun c xs r=>by rw [zbs (ntup c xs r)]; exact r
   rcases hc with rfl | hc
   ·exact hbe
   ·rintro rfl
    rcases he with z | z
    ·exact nown c b hc z
    ·rw [hc] at z; cases z; exact hb rfl
structure Un (fs ex:LAd) (H H':Hp) (h h':Heap) : Prop where
 keep : ∀ b o,h.get? b=some o->H b=none->b∉fs->b∉ex->h'.get? b=some o
 slot : ∀ b o,h.get? b=some o->H b=none->b∈fs->b∉ex->∃ sl,h'.get? b=some { o with slots:=sl }
 free : ∀ b o,h.get? b=some o->H b=none->b∉ex->H' b=none
 there : ∀ b o,h.get? b=some o->b∉ex->∃ o',h'.get? b=some o'
 tups : ∀ b xs,H b=some (.tup xs)->H' b=some (.tup xs)
 frzs : ∀ b o u,H b=some (.frz o u)->H' b=some (.frz o u)
 tbls : ∀ b ps,H b=some (.tbl ps)->∃ more,H' b=some (.tbl (ps++more))
variable {ex:LAd} {H1:Hp} {h1:Heap}
section
variable {fs:LAd}
theorem Un.any (u:Un fs ex H H1 h h1) {ob:Obj} (q:h.get? b=some ob) (n:H b=none) (hx:b∉ex) : ∃ sl,h1.get? b=some { ob with slots:=sl }:=by
 by_cases hb : b∈fs
 ·exact u.slot b ob q n hb hx
 ·exact ⟨ob.slots,u.keep b ob q n hb hx⟩
end
section
variable {fs:LAd}
theorem Un.kept (k:∀ b u,h.get? b=some u->h'.get? b=some u) : Un fs ex H H h h' :=
 ⟨fun b ob q _ _ _=>k b ob q,fun b ob q _ _ _=>⟨ob.slots,k b ob q⟩,fun _ _ _ n _=>n,fun b ob q _=>⟨ob,k b ob q⟩,fun _ _ q=>q,fun _ _ _ q=>q,fun _ ps q=>⟨#[],by rw [q]; simp⟩⟩
end
section
variable {fs:LAd}
theorem Un.refl : Un fs ex H H h h:=Un.kept fun _ _ q=>q
end
section
variable {fs:LAd}
theorem Un.laid (k:∀ b u,h.get? b=some u->h'.get? b=some u) (hp:h.objs.size<=a) (hn:H a=none) : Un fs ex H (upd H a o) h h' where
 keep:=fun b u q _ _ _=>k b u q
 slot:=fun b u q _ _ _=>⟨u.slots,k b u q⟩
 free:=fun b u q n _=>by rw [zbs (Nat.ne_of_lt (Nat.lt_of_lt_of_le (Heap.lt_size q) hp))]; exact n
 there:=fun b u q _=>⟨u,k b u q⟩
 tups:=fun b xs q=>by rw [zbs (zfd q hn)]; exact q
 frzs:=fun b u xs q=>by rw [zbs (zfd q hn)]; exact q
 tbls:=fun b ps q=>⟨#[],by rw [zbs (zfd q hn),q]; simp⟩
end
section
variable {fs:LAd}
theorem Un.write (mu:Mut (H x)) (he:e=x\/H e=some (.own x)) (k:∀ b u,b≠e->h.get? b=some u->h'.get? b=some u) (heo:∃ u,h'.get? e=some u) : Un fs ex H (upd H x o) h h':=by
 have hx : ∀ b,H b=none->b≠x:=fun b n z=>by subst z; rw [n] at mu; exact mu
 have hb : ∀ b,H b=none->b≠e:=fun b n z=>by
  subst z
  rcases he with r | r
  ·exact hx b n r
  ·rw [n] at r; cases r
 have hm : ∀ b u,H b=some u->¬ Mut (some u)->b≠x:=fun b u q nm z=>by subst z; rw [q] at mu; exact nm mu
 refine ⟨fun b u q n _ _=>k b u (hb b n) q,fun b u q n _ _=>⟨u.slots,k b u (hb b n) q⟩,fun b u q n _=>by rw [zbs (hx b n)]; exact n,fun b u q _=>?_,
  fun b xs q=>by rw [zbs (hm b _ q fun z=>z)]; exact q,fun b u xs q=>by rw [zbs (hm b _ q fun z=>z)]; exact q,fun b ps q=>⟨#[],by rw [zbs (hm b _ q fun z=>z),q]; simp⟩⟩
 by_cases hbe : b=e
 ·subst hbe; exact heo
 ·exact ⟨u,k b u hbe q⟩
end
noncomputable def trk (h:Heap) (H:Hp) : LAd:=(List.range h.objs.size).filter fun a=>(H a).isSome
noncomputable def zih (h:Heap) (H:Hp) : Heap:=W.hideAll h (trk h H)
theorem yc2 (h:Heap) (H:Hp) : (zih h H).objs.size=h.objs.size:=W.hideAll_size _ _
variable {o:Obj}
theorem yc1 (e:h.get? b=some o) (n:H b=none) : (zih h H).get? b=some o :=
 W.hideAll_get _ e fun hm=>by
  have q : (H b).isSome=true:=(mem_filter.mp hm).2;rw [n] at q; simp at q
theorem yff (e:(zih h H).get? b=some o) : h.get? b=some o/\H b=none:=by
 have e' : h.get? b=some o:=W.of_hideAll (trk h H) e;refine ⟨e',?_⟩
 cases q : H b with
 | none=>rfl
 | some x =>
  have hm : b∈trk h H:=mem_filter.mpr ⟨mem_range.mpr (Heap.lt_size e'),by simp [q]⟩;have z : (zih h H).get? b=none:=W.hideAll_none (trk h H) hm;rw [z] at e; cases e
noncomputable def z9r (g h:Heap) (L:Addr) : PNS:=(List.range h.objs.size).filterMap fun a=>if a=L\/(g.get? a).isSome=true then none else (h.get? a).map fun o=>(a,o)
noncomputable def za9 (g h:Heap) (L d:Addr) : PNS:=(z9r g h L).filter fun p=>decide (p.1≠d)
structure Mod (K:W.Frag) (mg:MGT) (base:Heap) : Prop where
 kin : K.In base
 glob : base.Ns mainGlobals mg
 blt : ∃ mb,base.Ns builtinsNs mb/\∀ x : Str,x ≠ "__name__" -> mb x=bootBuiltins x
 nolimit : base.NoLimit
set_option genInjectivity false in
structure Cx where
 prog : Program
 w : World
 K : W.Frag
 mg : Str->Option Value
 base : Heap
 A : Around
 N : LSt
 s₀ : Shared
 H₀ : Hp
 env : Env
 outer : List Env
 stack : List Env
 ex : LAd
 fn : Str->Bool
 calm : Bool
 pn : PNS
 xe : Value->Shared->Prop
abbrev NDb (x:Str):=(x==("__debug__" : Str))=false
abbrev NCd (x:Str):=(x==("__classdict__" : Str))=false
abbrev StE (X:Cx) (e:Expr) (es:LEx):=starEach (e::es) X.env=(false,eval e X.env)::starEach es X.env
abbrev BkE (X:Cx) (pos:Pos) (es:LEx):=(backTo pos (starEach es X.env)).any (·.1)=false
abbrev LcF (X:Cx) (x:Str):=X.fn x=true\/X.env.scope.names.lookup x=some .local
noncomputable def frs (l:List Env) : LAd:=l.filterMap (·.frame)
noncomputable abbrev Cx.fs (X:Cx) : LAd:=frs X.outer
def Vis (sc:Scope) (x:Str) : Prop:=sc.names.lookup x=some .local\/sc.names.lookup x=some .cell\/sc.names.lookup x=some .free
def Loc (sc:Scope) (x:Str) : Prop:=sc.names.lookup x=some .local\/sc.names.lookup x=some .cell
def z1b (env:Env) (h:Heap) (m:MGT) (x:Str) (u:Value) : Prop :=
 (env.kindOf x=some .local/\m x=some u)\/((env.kindOf x=some .cell\/env.kindOf x=some .free)/\∃ c,env.cells.lookup x=some c/\h.IsCell c (some u))
structure Cx.Ok (X:Cx) : Prop where
 mod : Mod X.K X.mg X.base
 kind : X.env.scope.kind=.function
 glob : X.env.globals=mainGlobals
 blt : X.env.builtins=builtinsNs
 above : X.s₀.heap.objs.size<=X.env.locals
 inj : ∀ x y c,X.env.cells.lookup x=some c->X.env.cells.lookup y=some c->x=y
 has : ∀ x,(X.env.kindOf x=some .cell\/X.env.kindOf x=some .free)->∃ c,X.env.cells.lookup x=some c
 cab : ∀ x c,X.fn x=true->X.env.cells.lookup x=some c->X.s₀.heap.objs.size<=c
 hd : X.calm=true->X.A.handled=none
 frames : X.A.frames=some X.stack
 stk : X.stack=X.outer\/(X.stack=X.env::X.outer/\X.env.frame=some X.env.locals)
 exf : ∀ b∈X.ex,b≠X.env.locals/\∀ x c,X.env.cells.lookup x=some c->c≠b
 bs : ∀ b o,X.base.get? b=some o->X.s₀.heap.get? b=some o/\X.H₀ b=none
 bsz : X.base.objs.size<=X.s₀.heap.objs.size
 noex : ∀ b o,X.base.get? b=some o->b∉X.ex
 exfs : ∀ b∈X.ex,b∉X.fs
 funs : X.s₀.heap.FunFrames X.base X.outer
 frf : ∀ b∈X.fs,X.H₀ b=none
structure Inv (X:Cx) (pins:PNS) (σ:List (Option V)) (H:Hp) (s:Shared) : Prop where
 ok : X.Ok
 os : s.os=X.s₀.os
 bare : AllBare s.gens
 base : Un X.fs X.ex X.H₀ H X.s₀.heap s.heap
 loc : ∃ m,s.heap.Ns X.env.locals m/\∀ (i:Nat) (x:Str) (v:V),X.N[i]?=some x->σ[i]?=some (some v)->Vis X.env.scope x->∃ u,za7 v u/\z1b X.env s.heap m x u
 cell : ∀ x c,X.env.cells.lookup x=some c->∃ v,s.heap.IsCell c v
 free : H X.env.locals=none
 freeC : ∀ x c,X.env.cells.lookup x=some c->H c=none
 pin : ∀ p∈X.pn++pins,s.heap.get? p.1=some p.2/\H p.1=none/\p.1≠X.env.locals/\p.1∉X.fs/\∀ v,p.2.data≠.cell v
 hok : HOk X.prog X.w H s.heap
 len : σ.length=X.N.length
variable {X:Cx}
theorem Cx.Ok.nofr (ok:X.Ok) (e:X.base.get? b=some o) : b∉X.fs:=fun hb=>by
 have:=(ok.funs.mem hb).1;rw [e] at this; cases this
variable {pins:PNS} {σ:List (Option V)}
section
variable {s:Shared}
theorem Inv.bs (I:Inv X pins σ H s) : ∀ b o,X.base.get? b=some o->s.heap.get? b=some o/\H b=none:=fun b o e =>
 ⟨I.base.keep b o (I.ok.bs b o e).1 (I.ok.bs b o e).2 (I.ok.nofr e) (I.ok.noex b o e),I.base.free b o (I.ok.bs b o e).1 (I.ok.bs b o e).2 (I.ok.noex b o e)⟩
end
section
variable {s:Shared}
theorem Inv.bk (I:Inv X pins σ H s) : ∀ b o,X.base.get? b=some o->s.heap.get? b=some o:=fun b o e=>(I.bs b o e).1
end
section
variable {s:Shared}
theorem Inv.mod (I:Inv X pins σ H s) : Mod X.K X.mg X.base:=I.ok.mod
end
section
variable {s:Shared}
theorem Inv.kIn (I:Inv X pins σ H s) : X.K.In s.heap:=I.ok.mod.kin.keeps I.bk
end
section
variable {s:Shared}
theorem Inv.lt (I:Inv X pins σ H s) : X.env.locals < s.heap.objs.size:=let ⟨_,hn,_⟩:=I.loc; hn.lt
end
section
variable {s:Shared}
theorem Inv.sz (I:Inv X pins σ H s) : X.s₀.heap.objs.size<=s.heap.objs.size:=Nat.le_trans I.ok.above (Nat.le_of_lt I.lt)
end
section
variable {s:Shared}
theorem Inv.nofs (I:Inv X pins σ H s) (h:s.heap.objs.size<=a) : a∉X.fs:=fun hb=>by
 obtain ⟨_,o,ho,_⟩:=I.ok.funs.mem hb;exact absurd (Nat.lt_of_lt_of_le (Heap.lt_size ho) (Nat.le_trans I.sz h)) (Nat.lt_irrefl _)
end
section
variable {s:Shared}
theorem Inv.cne (I:Inv X pins σ H s) : ∀ x c,X.env.cells.lookup x=some c->c≠X.env.locals:=fun x c e z=>by
 obtain ⟨v,o,ho,hd⟩:=I.cell x c e;obtain ⟨m,⟨o',es,ep,ho',hd',_⟩,_⟩:=I.loc;rw [z,ho'] at ho; cases ho; rw [hd'] at hd; cases hd
end
section
variable {s:Shared}
theorem Inv.funs (I:Inv X pins σ H s) : s.heap.FunFrames X.base X.outer:=by
 have all : ∀ (l:List Env),(∀ b∈frs l,b∈X.fs)->X.s₀.heap.FunFrames X.base l->s.heap.FunFrames X.base l:=by
  intro l
  induction l with
  | nil=>intro _ _; trivial
  | cons env r ih =>
   intro hs hl;obtain ⟨hk,⟨L,o,hf,hn,ho,hd⟩,hr⟩:=hl;have hL : L∈X.fs:=hs L (by unfold frs; rw [filterMap_cons,hf]; exact mem_cons_self);obtain ⟨sl,e⟩:=I.base.slot L o ho (I.ok.frf L hL) hL fun z=>I.ok.exfs L z hL;exact ⟨hk,⟨L,_,hf,hn,e,hd⟩,ih (fun b hb=>hs b (by unfold frs; rw [filterMap_cons,hf]; exact mem_cons_of_mem _ hb)) hr⟩
 exact all X.outer (fun _ hb=>hb) I.ok.funs
end
section
variable {s:Shared}
theorem Inv.stack (I:Inv X pins σ H s) : s.heap.FunFrames X.base X.stack:=by
 rcases I.ok.stk with e | ⟨e,hf⟩
 ·rw [e]; exact I.funs
 ·rw [e];obtain ⟨m,hn,_⟩:=I.loc;refine .cons (by rw [I.ok.kind]; decide) hf hn ?_ I.funs;exact Heap.get?_none_of_le (Nat.le_trans I.ok.bsz I.ok.above)
end
section
variable {s:Shared}
theorem Inv.stkSub (I:Inv X pins σ H s) : ∀ b∈frs X.stack,b∈X.env.locals::X.fs:=fun b hb=>by
 rcases I.ok.stk with e | ⟨e,hf⟩
 ·rw [e] at hb; exact mem_cons_of_mem _ hb
 ·rw [e] at hb;unfold frs at hb;rw [filterMap_cons,hf] at hb;exact hb
end
section
variable {s:Shared}
theorem Inv.stkFree (I:Inv X pins σ H s) : ∀ b∈frs X.stack,H b=none:=fun b hb=>by
 rcases mem_cons.mp (I.stkSub b hb) with e | hb
 ·rw [e]; exact I.free
 ·obtain ⟨_,o,ho,_⟩:=I.ok.funs.mem hb;exact I.base.free b o ho (I.ok.frf b hb) fun z=>I.ok.exfs b z hb
end
variable {g':Array GenState} {t':Nat} {d':Drawn} {ch:LAd}
section
variable {s:Shared}
theorem Inv.step (I:Inv X pins σ H s)
  (hch:∀ b∈ch,(b∈X.ex\/X.s₀.heap.objs.size<=b)/\b≠X.env.locals/\(∀ x c,X.env.cells.lookup x=some c->c≠b)/\∀ p∈X.pn++pins,p.1≠b)
  (keep:∀ b o,b≠X.env.locals->b∉X.fs->b∉ch->s.heap.get? b=some o->H b=none->h'.get? b=some o)
  (slot:∀ b o,b≠X.env.locals->b∈X.fs->b∉ch->s.heap.get? b=some o->H b=none->∃ sl,h'.get? b=some { o with slots:=sl }) (free:∀ b o,b∉ch->s.heap.get? b=some o->H b=none->H' b=none)
  (there:∀ b o,b∉ch->s.heap.get? b=some o->∃ o',h'.get? b=some o')
  (tups:∀ b xs,H b=some (.tup xs)->H' b=some (.tup xs)) (frzs:∀ b o u,H b=some (.frz o u)->H' b=some (.frz o u)) (tbls:∀ b ps,H b=some (.tbl ps)->∃ more,H' b=some (.tbl (ps++more)))
  (ns:∀ m,s.heap.Ns X.env.locals m->h'.Ns X.env.locals m) (hok:HOk X.prog X.w H' h') (hg:AllBare g') :
  Inv X pins σ H' { s with heap:=h',gens:=g',drawn:=d',toks:=t' }:=by
 have neL : ∀ b o,X.s₀.heap.get? b=some o->b≠X.env.locals:=fun b o e=>Nat.ne_of_lt (Nat.lt_of_lt_of_le (Heap.lt_size e) I.ok.above)
 have neC : ∀ b o,X.s₀.heap.get? b=some o->b∉X.ex->b∉ch:=fun b o e hx hb=>by
  rcases (hch b hb).1 with z | z
  ·exact hx z
  ·exact absurd (Nat.lt_of_lt_of_le (Heap.lt_size e) z) (Nat.lt_irrefl _)
 have cellK : ∀ x c,X.env.cells.lookup x=some c->∀ v,s.heap.IsCell c v->h'.IsCell c v:=fun x c e v q_=>by
  obtain ⟨o,ho,hd⟩:=q_;have nch : c∉ch:=fun z=>(hch c z).2.2.1 x c e rfl
  by_cases hc : c∈X.fs
  ·obtain ⟨sl,q⟩:=slot c o (I.cne x c e) hc nch ho (I.freeC x c e);exact ⟨_,q,hd⟩
  ·exact ⟨o,keep c o (I.cne x c e) hc nch ho (I.freeC x c e),hd⟩
 refine ⟨I.ok,I.os,hg,⟨fun b o e n hb hx=>?_,fun b o e n hb hx=>?_,fun b o e n hx=>?_,fun b o e hx=>?_,fun b xs e=>tups b xs (I.base.tups b xs e),fun b o xs e=>frzs b o xs (I.base.frzs b o xs e),fun b ps e=>?_⟩,?_,fun x c e=>?_,?_,fun x c e=>?_,fun p hp=>?_,hok,I.len⟩
 ·exact keep b o (neL b o e) hb (neC b o e hx) (I.base.keep b o e n hb hx) (I.base.free b o e n hx)
 ·obtain ⟨sl,e1⟩:=I.base.slot b o e n hb hx;obtain ⟨sl',e2⟩:=slot b _ (neL b o e) hb (neC b o e hx) e1 (I.base.free b o e n hx);exact ⟨sl',e2⟩
 ·obtain ⟨o',e1⟩:=I.base.there b o e hx;exact free b o' (neC b o e hx) e1 (I.base.free b o e n hx)
 ·obtain ⟨o',e1⟩:=I.base.there b o e hx;exact there b o' (neC b o e hx) e1
 ·obtain ⟨m1,e1⟩:=I.base.tbls b ps e;obtain ⟨m2,e2⟩:=tbls b _ e1;exact ⟨m1++m2,by rw [e2,Array.append_assoc]⟩
 ·obtain ⟨m,hn,hl⟩:=I.loc;refine ⟨m,ns m hn,fun i x v e1 e2 e3=>?_⟩;obtain ⟨u,r,l⟩:=hl i x v e1 e2 e3;refine ⟨u,r,?_⟩
  rcases l with l | ⟨k,c,e,z⟩
  ·exact .inl l
  ·exact .inr ⟨k,c,e,cellK x c e _ z⟩
 ·obtain ⟨v,z⟩:=I.cell x c e;exact ⟨v,cellK x c e v z⟩
 ·obtain ⟨m,⟨o,_,_,ho,_⟩,_⟩:=I.loc;exact free _ o (fun z=>(hch _ z).2.1 rfl) ho I.free
 ·obtain ⟨v,o,ho,hd⟩:=I.cell x c e;exact free c o (fun z=>(hch c z).2.2.1 x c e rfl) ho (I.freeC x c e)
 ·obtain ⟨e,n,ne,nf,d⟩:=I.pin p hp;have nch : p.1∉ch:=fun z=>(hch p.1 z).2.2.2 p hp rfl;exact ⟨keep p.1 p.2 ne nf nch e n,free p.1 p.2 nch e n,ne,nf,d⟩
end
section
variable {s:Shared}
theorem Inv.un (I:Inv X pins σ H s) (u:Un X.fs [] H H' s.heap h') (hok:HOk X.prog X.w H' h') : Inv X pins σ H' { s with heap:=h',toks:=t' }:=by
 obtain ⟨m,⟨o,es,ep,ho,r⟩,_⟩:=id I.loc;obtain ⟨sl,hL⟩:=u.any ho I.free (by simp)
 exact I.step (g':=s.gens) (d':=s.drawn) (ch:=[]) (fun _ z=>nomatch z) (fun b o _ hb _ e n=>u.keep b o e n hb (by simp)) (fun b o _ hb _ e n=>u.slot b o e n hb (by simp)) (fun b o _ e n=>u.free b o e n (by simp)) (fun b o _ e=>u.there b o e (by simp)) u.tups u.frzs u.tbls (fun m' hm=>by
  obtain ⟨o',es',ep',ho',r'⟩:=hm;rw [ho] at ho'; cases ho';exact ⟨_,es',ep',hL,r'⟩) hok I.bare
end
section
variable {s:Shared}
theorem Inv.call (I:Inv X pins σ H s) (u:Un (frs X.stack) ch H H' s.heap h') (hok:HOk X.prog X.w H' h') (hg:AllBare g')
  (hch:∀ b∈ch,(b∈X.ex\/X.s₀.heap.objs.size<=b)/\b≠X.env.locals/\(∀ x c,X.env.cells.lookup x=some c->c≠b)/\∀ p∈X.pn++pins,p.1≠b) :
  Inv X pins σ H' { s with heap:=h',gens:=g',drawn:=d',toks:=t' }:=by
 obtain ⟨m,⟨o,es,ep,ho,r⟩,_⟩:=id I.loc;obtain ⟨sl,hL⟩:=u.any ho I.free fun z=>(hch _ z).2.1 rfl
 exact I.step (ch:=ch) hch (fun b o hL hb hc e n=>u.keep b o e n (fun z=>(mem_cons.mp (I.stkSub b z)).elim hL hb) hc) (fun b o _ _ hc e n=>u.any e n hc) (fun b o hc e n=>u.free b o e n hc) (fun b o hc e=>u.there b o e hc) u.tups u.frzs u.tbls (fun m' hm=>by
  obtain ⟨o',es',ep',ho',r'⟩:=hm;rw [ho] at ho'; cases ho';exact ⟨_,es',ep',hL,r'⟩) hok hg
end
variable {it:Addr}
section
variable {s:Shared}
theorem Inv.turned (I:Inv X pins σ H s) (k:∀ b o,b≠it->s.heap.get? b=some o->h'.get? b=some o) (hn:H it=none) (hL:it≠X.env.locals)
  (h1:it∈X.ex\/X.s₀.heap.objs.size<=it) (h2:∀ x c,X.env.cells.lookup x=some c->c≠it) (h3:∀ p∈X.pn++pins,p.1≠it) : Inv X pins σ H { s with heap:=h',toks:=t' }:=by
 have nit : ∀ b u,H b=some u->b≠it:=fun b u e z=>by rw [z,hn] at e; cases e
 refine I.step (g':=s.gens) (d':=s.drawn) (ch:=[it]) (fun b hb=>?_) (fun b o _ _ hc e _=>k b o (fun z=>hc (by simp [z])) e) (fun b o _ _ hc e _=>⟨o.slots,k b o (fun z=>hc (by simp [z])) e⟩) (fun _ _ _ _ n=>n)
  (fun b o hc e=>⟨o,k b o (fun z=>hc (by simp [z])) e⟩) (fun _ _ e=>e) (fun _ _ _ e=>e) (fun b ps e=>⟨#[],by rw [e]; simp⟩) (fun m hm=>?_) (fun b u e=>?_) I.bare
 ·have e : b=it:=by simpa using hb
  subst e;exact ⟨h1,hL,h2,h3⟩
 ·obtain ⟨o,es,ep,ho,r⟩:=hm;exact ⟨o,es,ep,k _ o (Ne.symm hL) ho,r⟩
 ·refine (I.hok b u e).stay (fun c v hc q=>k c v ?_ q) (fun _ q=>q) fun _ _ q=>q
  rcases hc with z | z
  ·rw [z]; exact nit b u e
  ·exact nit c _ z
end
section
variable {s:Shared}
theorem Inv.tok (I:Inv X pins σ H s) (t:Nat) : Inv X pins σ H { s with toks:=t }:=I.un (h':=s.heap) (t':=t) Un.refl I.hok
end
section
variable {s:Shared}
theorem Inv.kept (I:Inv X pins σ H s) (k:∀ b u,s.heap.get? b=some u->h'.get? b=some u) : Inv X pins σ H { s with heap:=h',toks:=t' }:=I.un (Un.kept k) (I.hok.kept k)
end
section
variable {s:Shared}
theorem Inv.laid {o:HO} (I:Inv X pins σ H s) (k:∀ b u,s.heap.get? b=some u->h'.get? b=some u) (hp:s.heap.objs.size<=a) (new:zd5 X.prog X.w (upd H a o) h' a o) :
  Inv X pins σ (upd H a o) { s with heap:=h',toks:=t' }:=I.un (Un.laid k hp (I.hok.fresh hp)) (I.hok.laid k hp new)
end
section
variable {s:Shared}
theorem Inv.write {o:HO} (I:Inv X pins σ H s) (mu:Mut (H x)) (he:e=x\/H e=some (.own x)) (k:∀ b u,b≠e->s.heap.get? b=some u->h'.get? b=some u) (heo:∃ u,h'.get? e=some u)
  (new:zd5 X.prog X.w (upd H x o) h' x o) : Inv X pins σ (upd H x o) { s with heap:=h',toks:=t' }:=I.un (Un.write mu he k heo) (I.hok.write mu he k heo new)
end
variable {pins':PNS}
section
variable {s:Shared}
theorem Inv.pins_of (I:Inv X pins σ H s) (h:∀ p∈pins',s.heap.get? p.1=some p.2/\H p.1=none/\p.1≠X.env.locals/\p.1∉X.fs/\∀ v,p.2.data≠.cell v) : Inv X pins' σ H s :=
 ⟨I.ok,I.os,I.bare,I.base,I.loc,I.cell,I.free,I.freeC,fun p hp=>(mem_append.mp hp).elim (fun z=>I.pin p (mem_append_left _ z)) (h p),I.hok,I.len⟩
end
variable {N:LSt} {i:Nat} {x:Str}
theorem zxr (hN:N.Nodup) {j:Nat} (a:N[i]?=some x) (b:N[j]?=some x) : i=j:=by
 obtain ⟨h1,e1⟩:=gq a;obtain ⟨h2,e2⟩:=gq b;exact (List.getElem_inj hN).mp (e1.trans e2.symm)
variable {M:Model} {A:Around} {E:PRS} {v:V} {u:Value} {Q:Unit->Shared->Prop}
section
variable {s:Shared}
theorem z8o (I:Inv X pins σ H s) (hN:X.N.Nodup) (hi:X.N[i]?=some x) (hx:Loc X.env.scope x) (r:za7 v u)
  (h:∀ s',Inv X pins (σ.set i (some v)) H s'->(∃ a,Heap.SameBut a s.heap s'.heap/\(a=X.env.locals\/X.env.cells.lookup x=some a))->Q () s') (hf:LcF X x:=by first | exact .inl rfl | exact .inr rfl | assumption) : wpAny M A (storeName X.env x u) Q E s:=by
 obtain ⟨m,hn,hl⟩:=id I.loc;have hcls : (X.env.scope.kind==.class || (X.env.scope.kind==.module && X.env.locals != X.env.globals))=false:=by rw [I.ok.kind]; rfl
 have hiσ : i < σ.length:=by rw [I.len]; exact (gq hi).1
 have cne:=I.cne
 have tracked : ∀ {a:Addr} {h':Heap},(∃ o,s.heap.get? a=some o/\H a=none)->Heap.SameBut a s.heap h'->HOk X.prog X.w H h':=fun {a h'} ha hs b ob e=>by
  obtain ⟨_,_,hfree⟩:=ha;refine (I.hok b ob e).stay (fun c w' hc q=>(hs.2 c ?_).trans q) (fun _ q=>q) fun _ _ q=>q;rintro rfl
  rcases hc with rfl | hc
  ·rw [hfree] at e; cases e
  ·rw [hfree] at hc; cases hc
 rcases hx with hk | hk
 ·refine wpAny_storeName_local hk hn (fun h' hn' hs=>?_) hcls;obtain ⟨oL,_,_,hoL,_⟩:=id hn;refine h _ ⟨I.ok,I.os,I.bare,⟨fun b o e n hb hx=>?_,fun b o e n hb hx=>?_,I.base.free,fun b o e hx=>?_,I.base.tups,I.base.frzs,I.base.tbls⟩,⟨_,hn',fun j y v' e1 e2 e3=>?_⟩,fun y c e=>?_,I.free,I.freeC,fun p hp=>?_,tracked ⟨oL,hoL,I.free⟩ hs,by simpa using I.len⟩ ⟨_,hs,.inl rfl⟩
  ·exact (hs.2 b (Nat.ne_of_lt (Nat.lt_of_lt_of_le (Heap.lt_size e) I.ok.above))).trans (I.base.keep b o e n hb hx)
  ·obtain ⟨sl,e1⟩:=I.base.slot b o e n hb hx;exact ⟨sl,(hs.2 b (Nat.ne_of_lt (Nat.lt_of_lt_of_le (Heap.lt_size e) I.ok.above))).trans e1⟩
  ·obtain ⟨o',e1⟩:=I.base.there b o e hx;exact ⟨o',(hs.2 b (Nat.ne_of_lt (Nat.lt_of_lt_of_le (Heap.lt_size e) I.ok.above))).trans e1⟩
  ·by_cases hj : j=i
   ·subst hj;rw [hi] at e1; cases e1;rw [List.getElem?_set_self hiσ] at e2;cases e2;exact ⟨u,r,.inl ⟨hk,by simp⟩⟩
   ·rw [List.getElem?_set_ne (Ne.symm hj)] at e2;obtain ⟨u',r',q⟩:=hl j y v' e1 e2 e3;refine ⟨u',r',?_⟩
    rcases q with ⟨k,e⟩ | ⟨k,c,e,z⟩
    ·refine .inl ⟨k,?_⟩;have : y≠x:=fun e=>hj (zxr hN e1 (e ▸ hi));simp [this,e]
    ·exact .inr ⟨k,c,e,z.sameBut hs (cne y c e)⟩
  ·obtain ⟨w',z⟩:=I.cell y c e;exact ⟨w',z.sameBut hs (cne y c e)⟩
  ·obtain ⟨e,n,ne,nf,d⟩:=I.pin p hp;exact ⟨(hs.2 p.1 ne).trans e,n,ne,nf,d⟩
 ·have hfn : X.fn x=true:=by
   rcases hf with z | z
   ·exact z
   ·rw [z] at hk; cases hk
  obtain ⟨c,hc⟩:=I.ok.has x (.inl hk);obtain ⟨w',z⟩:=I.cell x c hc;refine wpAny_storeName_cell I.ok.kind hk hc z (fun h' hc' hs=>?_);obtain ⟨oc,hoc,hocd⟩:=id z
  refine h { s with heap:=h' } ⟨I.ok,I.os,I.bare,⟨fun b o e n hb hx=>?_,fun b o e n hb hx=>?_,I.base.free,fun b o e hx=>?_,I.base.tups,I.base.frzs,I.base.tbls⟩,⟨m,hn.sameBut hs (Ne.symm (cne x c hc)),fun j y v' e1 e2 e3=>?_⟩,fun y c' e=>?_,I.free,I.freeC,fun p hp=>?_,tracked ⟨oc,hoc,I.freeC x c hc⟩ hs,by simpa using I.len⟩ ⟨c,hs,.inr hc⟩
  ·exact (hs.2 b (Nat.ne_of_lt (Nat.lt_of_lt_of_le (Heap.lt_size e) (I.ok.cab x c hfn hc)))).trans (I.base.keep b o e n hb hx)
  ·obtain ⟨sl,e1⟩:=I.base.slot b o e n hb hx;exact ⟨sl,(hs.2 b (Nat.ne_of_lt (Nat.lt_of_lt_of_le (Heap.lt_size e) (I.ok.cab x c hfn hc)))).trans e1⟩
  ·obtain ⟨o',e1⟩:=I.base.there b o e hx;exact ⟨o',(hs.2 b (Nat.ne_of_lt (Nat.lt_of_lt_of_le (Heap.lt_size e) (I.ok.cab x c hfn hc)))).trans e1⟩
  ·by_cases hj : j=i
   ·subst hj;rw [hi] at e1; cases e1;rw [List.getElem?_set_self hiσ] at e2;cases e2;exact ⟨u,r,.inr ⟨.inl hk,c,hc,hc'⟩⟩
   ·rw [List.getElem?_set_ne (Ne.symm hj)] at e2;obtain ⟨u',r',q⟩:=hl j y v' e1 e2 e3;refine ⟨u',r',?_⟩
    rcases q with q | ⟨k,c',e,z'⟩
    ·exact .inl q
    ·refine .inr ⟨k,c',e,z'.sameBut hs ?_⟩;rintro rfl;exact hj (zxr hN e1 (I.ok.inj _ _ _ e hc ▸ hi))
  ·by_cases hcc : c'=c
   ·subst hcc; exact ⟨_,hc'⟩
   ·obtain ⟨w2,z2⟩:=I.cell y c' e;exact ⟨w2,z2.sameBut hs hcc⟩
  ·obtain ⟨e,n,ne,nf,d⟩:=I.pin p hp;refine ⟨(hs.2 p.1 ?_).trans e,n,ne,nf,d⟩;intro q;rw [q,hoc] at e;have q' : oc=p.2:=Option.some.inj e;exact d w' (by rw [<- q']; exact hocd)
end
section
variable {s:Shared}
theorem zqg (I:Inv X pins σ H s) (hN:X.N.Nodup) (hi:X.N[i]?=some x) (hx:Loc X.env.scope x) (r:za7 v u)
  (h:∀ s',Inv X pins (σ.set i (some v)) H s'->Q () s') (hf:LcF X x:=by first | exact .inl rfl | exact .inr rfl | assumption) : wpAny M A (storeName X.env x u) Q E s :=
 z8o I hN hi hx r (fun s' I' _=>h s' I') hf
end
variable {s':Shared}
section
variable {s:Shared}
theorem Inv.call' (I:Inv X pins σ H s) (ho:s'.os=s.os) (u:Un (frs X.stack) ch H H' s.heap s'.heap) (hok:HOk X.prog X.w H' s'.heap) (hg:AllBare s'.gens)
  (hch:∀ b∈ch,(b∈X.ex\/X.s₀.heap.objs.size<=b)/\b≠X.env.locals/\(∀ x c,X.env.cells.lookup x=some c->c≠b)/\∀ p∈X.pn++pins,p.1≠b) : Inv X pins σ H' s':=by
 obtain ⟨h',g',d',t',o'⟩:=s';have e : o'=s.os:=ho;subst e;exact I.call (g':=g') (t':=t') (d':=d') u hok hg hch
end
noncomputable abbrev XK:=Value->Option Addr->Hp->Prop
noncomputable abbrev St:=List (Option V)
noncomputable abbrev VK:=V->Hp->Prop
noncomputable abbrev TE:=St->Hp->VK->Prop
noncomputable abbrev TT:=St->Hp->(Bool->Hp->Prop)->Prop
noncomputable abbrev TA:=St->Hp->(List V->Hp->Prop)->Prop
structure zhr where
 nx : St->Hp->Prop
 rt : VK
 bk : St->Hp->Prop:=fun _ _=>False
 ct : St->Hp->Prop:=fun _ _=>False
noncomputable abbrev TS:=zhr->St->Hp->Prop
def EP (X:Cx) (pins:PNS) (σ:St) (Q:VK) (u:Value) (s':Shared) : Prop:=∃ v H',Inv X pins σ H' s'/\za7 v u/\Q v H'
def TP (X:Cx) (pins:PNS) (σ:St) (Q:Bool->Hp->Prop) (b:Bool) (s':Shared) : Prop:=∃ H',Inv X pins σ H' s'/\Q b H'
def AP (X:Cx) (pins:PNS) (σ:St) (Q:List V->Hp->Prop) (us:LVa) (s':Shared) : Prop:=∃ vs H',Inv X pins σ H' s'/\zay vs us/\Q vs H'
def SP (X:Cx) (pins:PNS) (D:zhr) (f:Flow) (s':Shared) : Prop :=
 match f with
 | .next=>∃ σ' H',Inv X pins σ' H' s'/\D.nx σ' H'
 | .brk=>∃ σ' H',Inv X pins σ' H' s'/\D.bk σ' H'
 | .cont=>∃ σ' H',Inv X pins σ' H' s'/\D.ct σ' H'
 | .ret u=>∃ v σ' H',Inv X pins σ' H' s'/\za7 v u/\D.rt v H'
def PE (X:Cx) (e:Expr) (t:TE) : Prop :=
 ∀ (pins:PNS) (s:Shared) (σ:St) (H:Hp) (Q:VK),Inv X pins σ H s->t σ H Q->wpAny @1 X.A (eval e X.env) (EP X pins σ Q) X.xe s
def PT (X:Cx) (e:Expr) (t:TT) : Prop :=
 ∀ (pins:PNS) (s:Shared) (σ:St) (H:Hp) (Q:Bool->Hp->Prop),Inv X pins σ H s->t σ H Q->wpAny @1 X.A (isTrue e X.env (eval e X.env)) (TP X pins σ Q) X.xe s
def PW (X:Cx) (e:Expr) (t:TT) : Prop :=
 ∀ (whole:Sem Value) (pins:PNS) (s:Shared) (σ:St) (H:Hp) (Q:Bool->Hp->Prop),Inv X pins σ H s->t σ H Q->wpAny @1 X.A (isTrue e X.env whole) (TP X pins σ Q) X.xe s
variable {e:Expr}
theorem PW.pt {t:TT} (h:PW X e t) : PT X e t:=h _
def PA (X:Cx) (es:LEx) (t:TA) : Prop :=
 ∀ (pos:Pos) (pins:PNS) (s:Shared) (σ:St) (H:Hp) (Q:List V->Hp->Prop),Inv X pins σ H s->t σ H Q->wpAny @1 X.A (spliced (backTo pos (starEach es X.env))) (AP X pins σ Q) X.xe s
def PS (X:Cx) (st:Stmt) (t:TS) : Prop :=
 ∀ (pins:PNS) (s:Shared) (σ:St) (H:Hp) (D:zhr),Inv X pins σ H s->t D σ H->wpAny @1 X.A (exec st X.env) (SP X pins D) X.xe s
def PSs (X:Cx) (st:List Stmt) (t:TS) : Prop :=
 ∀ (pins:PNS) (s:Shared) (σ:St) (H:Hp) (D:zhr),Inv X pins σ H s->t D σ H->wpAny @1 X.A (execs st X.env) (SP X pins D) X.xe s
theorem thn {α : Type} {t:Sem α} {Q Q':α->Shared->Prop} {s:Shared} (h:wpAny M A t Q E s) (hQ:∀ a s,Q a s->Q' a s) : wpAny M A t Q' E s:=wpAny_mono h hQ fun _ _ x=>x
def zc2 (i:Nat) : TE:=fun σ H Q=>∃ v,σ[i]?=some (some v)/\Q v H
def tC (v:V) : TE:=fun _ H Q=>Q v H
variable {pos:Pos}
theorem ziq (hN:X.N[i]?=some x) (hv:Vis X.env.scope x) (hd:NDb x:=by decide) (hcd:NCd x:=by decide) : PE X (.Name x pos) (zc2 i):=by
 intro pins s σ H Q I h;obtain ⟨v,e,h⟩:=h;obtain ⟨m,hn,hl⟩:=I.loc;obtain ⟨u,r,l⟩:=hl i x v hN e hv;have fin : EP X pins σ Q u s:=⟨v,H,I,r,h⟩
 rcases l with ⟨hk,hm⟩ | ⟨hk,c,hc,hcell⟩
 ·exact wpAny_Name (wpAny_loadName_local I.ok.kind hk hn hm fin) hd
 ·rcases hk with hk | hk
  ·exact wpAny_Name (wpAny_loadName_cell I.ok.kind hk hc hcell fin) hd
  ·exact wpAny_Name (wpAny_loadName_free I.ok.kind hk hc hcell fin hcd) hd
theorem ygw {i j pos} : PE X (.Constant (.int i) j pos) (tC (.int i)):=fun _ _ _ H _ I h=>wpAny_Constant_int ⟨.int i,H,I.tok _,⟨_,rfl⟩,h⟩
theorem ygr {b j pos} : PE X (.Constant (.bool b) j pos) (tC (.bl b)):=fun _ _ _ H _ I h=>Constant_bool ⟨.bl b,H,I,rfl,h⟩
theorem yg6 {x j pos} : PE X (.Constant (.str x) j pos) (tC (.str x)):=fun _ _ _ H _ I h=>Calls.Constant_str ⟨.str x,H,I.tok _,⟨_,rfl⟩,h⟩
def Gl (X:Cx) (x:Str) : Prop:=X.env.kindOf x=some .globalImplicit
variable {σ:St}
theorem zkp {s:Shared} {Q:PRS} (I:Inv X pins σ H s) (hg:Gl X x) (hm:X.mg x=some u) (h:Q u s)
  (hd:NDb x:=by decide) : wpAny @1 X.A (eval (.Name x pos) X.env) Q E s :=
 Calls.Name_function_global I.ok.kind hg (Calls.loadGlobal_global (by rw [I.ok.glob]; exact I.mod.glob.keeps I.bk) hm h) hd
theorem zmc {s:Shared} {Q:PRS} (I:Inv X pins σ H s) (hg:Gl X x) (hm:X.mg x=none) (hv:bootBuiltins x=some u) (h:Q u s)
  (hn:x ≠ "__name__":=by decide) (hd:NDb x:=by decide) : wpAny @1 X.A (eval (.Name x pos) X.env) Q E s:=by
 obtain ⟨mb,h1,h2⟩:=I.mod.blt;exact Calls.Name_function_global I.ok.kind hg (Calls.loadGlobal_builtin (by rw [I.ok.glob]; exact I.mod.glob.keeps I.bk) hm (by rw [I.ok.blt]; exact h1.keeps I.bk) ((h2 x hn).trans hv) h) hd
theorem zm3 (hg:Gl X x) (hm:X.mg x=some u) (r:za7 v u) (hd:NDb x:=by decide) : PE X (.Name x pos) (tC v) :=
 fun _ _ _ H _ I h=>zkp I hg hm ⟨v,H,I,r,h⟩ hd
theorem z54 (hg:Gl X x) (hm:X.mg x=none) (hv:bootBuiltins x=some u) (r:za7 v u) (hn:x ≠ "__name__":=by decide) (hd:NDb x:=by decide) : PE X (.Name x pos) (tC v) :=
 fun _ _ _ H _ I h=>zmc I hg hm hv ⟨v,H,I,r,h⟩ hn hd
def ykk (t u:TT) : TT:=fun σ H Q=>t σ H fun c H1=>if c=true then u σ H1 Q else Q false H1
def tOr (t u:TT) : TT:=fun σ H Q=>t σ H fun c H1=>if c=true then Q true H1 else u σ H1 Q
def ykz (t:TT) : TT:=fun σ H Q=>t σ H fun c H1=>Q (!c) H1
variable {a:Expr} {tA:TT}
theorem yh8 (ha:PT X a tA) : PW X (.BoolOp .And [a] pos) tA:=by
 intro wh pins s σ H Q I h;refine isTrue_and (thn (ha pins s σ H Q I h) fun c s1 e=>?_)
 cases c with
 | true=>exact isTrue_and_nil e
 | false=>exact e
theorem yia (ha:PT X a tA) : PW X (.BoolOp .Or [a] pos) tA:=by
 intro wh pins s σ H Q I h;refine isTrue_or (thn (ha pins s σ H Q I h) fun c s1 e=>?_)
 cases c with
 | false=>exact isTrue_or_nil e
 | true=>exact e
variable {b:Expr} {tB':TT}
section
variable {za9:LEx}
theorem yh7 (ha:PT X a tA) (hb:PW X (.BoolOp .And (b::za9) pos) tB') : PW X (.BoolOp .And (a::b::za9) pos) (ykk tA tB'):=by
 intro wh pins s σ H Q I h;refine isTrue_and (thn (ha pins s σ H _ I h) fun c s1 q_=>?_);obtain ⟨H1,I1,q1⟩:=q_
 cases c with
 | true=>exact hb wh pins s1 σ H1 Q I1 q1
 | false=>exact ⟨H1,I1,q1⟩
end
section
variable {za9:LEx}
theorem yh9 (ha:PT X a tA) (hb:PW X (.BoolOp .Or (b::za9) pos) tB') : PW X (.BoolOp .Or (a::b::za9) pos) (tOr tA tB'):=by
 intro wh pins s σ H Q I h;refine isTrue_or (thn (ha pins s σ H _ I h) fun c s1 q_=>?_);obtain ⟨H1,I1,q1⟩:=q_
 cases c with
 | true=>exact ⟨H1,I1,q1⟩
 | false=>exact hb wh pins s1 σ H1 Q I1 q1
end
theorem z6o (ha:PT X a tA) : PT X (.UnaryOp .Not a pos) (ykz tA):=by
 intro pins s σ H Q I h;exact isTrue_not (ha pins s σ H (fun c H1=>Q (!c) H1) I h)
def ykl (ta tb:TE) : TE:=fun σ H Q=>ta σ H fun x H1=>∃ c,x=.bl c/\if c=true then tb σ H1 Q else Q (.bl false) H1
def yk1 (ta tb:TE) : TE:=fun σ H Q=>ta σ H fun x H1=>∃ c,x=.bl c/\if c=true then Q (.bl true) H1 else tb σ H1 Q
def yk0 (ta:TE) : TE:=fun σ H Q=>ta σ H fun x H1=>∃ c,x=.bl c/\Q (.bl (!c)) H1
theorem yg4 {op} {t:TE} (h:PE X a t) : PE X (.BoolOp op [a] pos) t:=fun pins s σ H Q I hw=>BoolOp_one (h pins s σ H Q I hw)
variable {ta tb:TE}
section
variable {za9:LEx}
theorem ygq (ha:PE X a ta) (hb:PE X (.BoolOp .And (b::za9) pos) tb) : PE X (.BoolOp .And (a::b::za9) pos) (ykl ta tb):=by
 intro pins s σ H Q I h;refine BoolOp_and (thn (ha pins s σ H _ I h) fun v s1 q_=>?_);obtain ⟨x,H1,I1,r1,q1⟩:=q_;obtain ⟨c,rfl,q1⟩:=q1;cases r1;refine wpAny_truthy_bool ?_
 cases c with
 | true=>exact hb pins s1 σ H1 Q I1 q1
 | false=>exact ⟨.bl false,H1,I1,rfl,q1⟩
end
section
variable {za9:LEx}
theorem yg5 (ha:PE X a ta) (hb:PE X (.BoolOp .Or (b::za9) pos) tb) : PE X (.BoolOp .Or (a::b::za9) pos) (yk1 ta tb):=by
 intro pins s σ H Q I h;refine BoolOp_or (thn (ha pins s σ H _ I h) fun v s1 q_=>?_);obtain ⟨x,H1,I1,r1,q1⟩:=q_;obtain ⟨c,rfl,q1⟩:=q1;cases r1;refine wpAny_truthy_bool ?_
 cases c with
 | false=>exact hb pins s1 σ H1 Q I1 q1
 | true=>exact ⟨.bl true,H1,I1,rfl,q1⟩
end
theorem yg3 (ha:PE X a ta) : PE X (.UnaryOp .Not a pos) (yk0 ta):=by
 intro pins s σ H Q I h;refine UnaryOp_ (thn (ha pins s σ H _ I h) fun v s1 q_=>?_);obtain ⟨x,H1,I1,r1,q1⟩:=q_;obtain ⟨c,rfl,q1⟩:=q1;cases r1;exact not_of (wpAny_truthy_bool ⟨.bl (!c),H1,I1,rfl,q1⟩)
def tIf (t:TT) (ta tb:TE) : TE:=fun σ H Q=>t σ H fun c H1=>if c=true then ta σ H1 Q else tb σ H1 Q
variable {c:Expr}
theorem zyg (hc:PT X c tA) (ha:PE X a ta) (hb:PE X b tb) : PE X (.IfExp c a b pos) (tIf tA ta tb):=by
 intro pins s σ H Q I h;refine wpAny_IfExp (thn (hc pins s σ H _ I h) fun d s1 q_=>?_);obtain ⟨H1,I1,q1⟩:=q_
 cases d with
 | true=>exact ha pins s1 σ H1 Q I1 q1
 | false=>exact hb pins s1 σ H1 Q I1 q1
def SqL (K:W.Frag) (H:Hp) (a:Addr) (xs:List V) : Prop :=
 Rd H a (.lst xs) \/
  ∃ (o:Obj) (its:Array Value) (n:Nat),K.lookup a=some o/\o.cls=.type "list" /\ o.dict=none/\o.data=.seq its n/\its.size<=sizeLine/\zay xs its.toList
def SqT (K:W.Frag) (H:Hp) (a:Addr) (xs:List V) : Prop :=
 Rd H a (.tup xs) \/
  ∃ (o:Obj) (its:Array Value) (n:Nat),K.lookup a=some o/\o.cls=.type "tuple" /\ o.data=.seq its n/\its.size<=sizeLine/\zay xs its.toList
noncomputable def z9q : Value->Option V
 | .none=>some .non
 | .bool b=>some (.bl b)
 | .int i _=>some (.int i)
 | .str x _=>some (.str x)
 | .bytes b _=>some (.byt b)
 | .float b _=>some (.flt b)
 | .ref a=>some (.ref a)
 | .type n=>some (.ty n)
 | _=>none
theorem za7.abs {x:V} (r:za7 x u) : z9q u=some x:=by
 cases x with
 | non=>cases r; rfl
 | bl _=>cases r; rfl
 | int _=>obtain ⟨t,rfl⟩:=r; rfl
 | str _=>obtain ⟨t,rfl⟩:=r; rfl
 | byt _=>obtain ⟨t,rfl⟩:=r; rfl
 | flt _=>obtain ⟨t,rfl⟩:=r; rfl
 | ref _=>cases r; rfl
 | ty _=>cases r; rfl
variable {y:V}
theorem za7.inj {x:V} (r:za7 x u) (q:za7 y u) : x=y:=Option.some.inj (r.abs.symm.trans q.abs)
theorem zay.inj : ∀ {xs ys:List V} {us:LVa},zay xs us->zay ys us->xs=ys
 | _,_,_,.nil,.nil=>rfl
 | _,_,_,.cons r t,.cons r' t'=>by rw [r.inj r',zay.inj t t']
variable {a:Addr} {K:W.Frag}
theorem SqL.of (h:H a=some (.lst xs)) : SqL K H a xs:=.inl (.inl h)
theorem SqT.of (h:H a=some (.tup xs)) : SqT K H a xs:=.inl (.inl h)
section
variable {s:Shared}
theorem Inv.list (I:Inv X pins σ H s) (h:SqL X.K H a xs) : ∃ its : LVa,zay xs its/\PlainL s.heap a its.toArray/\xs.length<=sizeLine:=by
 rcases h with h | ⟨o,its,n,hk,hc,hd,hs,hz,r⟩
 ·obtain ⟨z,its,n,r,e⟩:=h.ok I.hok;exact ⟨its,r,⟨_,n,e,rfl,rfl,rfl⟩,z⟩
 ·refine ⟨its.toList,r,⟨o,n,I.kIn a o hk,hc,hd,by simpa using hs⟩,?_⟩;have e:=r.length;simp only [Array.length_toList] at e;omega
end
section
variable {s:Shared}
theorem Inv.tuple (I:Inv X pins σ H s) (h:SqT X.K H a xs) : ∃ its : LVa,zay xs its/\IsTup s.heap a its.toArray/\xs.length<=sizeLine:=by
 rcases h with h | ⟨o,its,n,hk,hc,hs,hz,r⟩
 ·obtain ⟨z,its,r,p⟩:=h.ok I.hok;exact ⟨its,r,p,z⟩
 ·refine ⟨its.toList,r,⟨o,I.kIn a o hk,hc,n,by simpa using hs⟩,?_⟩;have e:=r.length;simp only [Array.length_toList] at e;omega
end
variable {ys:List V}
section
variable {s:Shared}
theorem Inv.list_inj (I:Inv X pins σ H s) (h:SqL X.K H a xs) (h':SqL X.K H a ys) : xs=ys:=by
 obtain ⟨its,r,⟨o,n,e,_,_,d⟩,_⟩:=I.list h;obtain ⟨its',r',⟨o',n',e',_,_,d'⟩,_⟩:=I.list h';rw [e] at e'; cases e';rw [d] at d'
 injection d' with d1 _
 have : its=its':=by simpa using congrArg Array.toList d1
 subst this;exact r.inj r'
end
section
variable {s:Shared}
theorem Inv.tuple_inj (I:Inv X pins σ H s) (h:SqT X.K H a xs) (h':SqT X.K H a ys) : xs=ys:=by
 obtain ⟨its,r,⟨o,e,_,n,d⟩,_⟩:=I.tuple h;obtain ⟨its',r',⟨o',e',_,n',d'⟩,_⟩:=I.tuple h';rw [e] at e'; cases e';rw [d] at d'
 injection d' with d1 _
 have : its=its':=by simpa using congrArg Array.toList d1
 subst this;exact r.inj r'
end
noncomputable abbrev Cx.wish (X:Cx) (E:PRS) : Cx:={ X with xe:=E }
noncomputable abbrev Cx.nox (X:Cx) : Cx:=X.wish fun _ _=>False
theorem Cx.Ok.wish (ok:X.Ok) (E:PRS) : (X.wish E).Ok :=
 ⟨ok.mod,ok.kind,ok.glob,ok.blt,ok.above,ok.inj,ok.has,ok.cab,ok.hd,ok.frames,ok.stk,ok.exf,ok.bs,ok.bsz,ok.noex,ok.exfs,ok.funs,ok.frf⟩
theorem Cx.Ok.unwish (ok:(X.wish E).Ok) : X.Ok :=
 ⟨ok.mod,ok.kind,ok.glob,ok.blt,ok.above,ok.inj,ok.has,ok.cab,ok.hd,ok.frames,ok.stk,ok.exf,ok.bs,ok.bsz,ok.noex,ok.exfs,ok.funs,ok.frf⟩
section
variable {s:Shared}
theorem Inv.wish (I:Inv X pins σ H s) (E:PRS) : Inv (X.wish E) pins σ H s:=⟨I.ok.wish E,I.os,I.bare,I.base,I.loc,I.cell,I.free,I.freeC,I.pin,I.hok,I.len⟩
end
section
variable {s:Shared}
theorem Inv.unwish (I:Inv (X.wish E) pins σ H s) : Inv X pins σ H s:=⟨I.ok.unwish,I.os,I.bare,I.base,I.loc,I.cell,I.free,I.freeC,I.pin,I.hok,I.len⟩
end
theorem SP.unwish {D:zhr} {f:Flow} (h:SP (X.wish E) pins D f s') : SP X pins D f s':=by
 cases f with
 | next=>obtain ⟨σ',H',I,q⟩:=h; exact ⟨σ',H',I.unwish,q⟩
 | brk=>obtain ⟨σ',H',I,q⟩:=h; exact ⟨σ',H',I.unwish,q⟩
 | cont=>obtain ⟨σ',H',I,q⟩:=h; exact ⟨σ',H',I.unwish,q⟩
 | ret u=>obtain ⟨v,σ',H',I,r,q⟩:=h; exact ⟨v,σ',H',I.unwish,r,q⟩
variable {t:TS}
theorem PSs.nox {st:List Stmt} (h:PSs X.nox st t) : PSs X st t:=fun pins s σ H D I hw =>
 wpAny_mono (h pins s σ H D (I.wish _) hw) (fun _ _ q=>q.unwish) fun _ _ z=>False.elim z
def ykx : TS:=fun D σ H=>D.nx σ H
def yk4 (t u:TS) : TS:=fun D σ H=>t { D with nx:=u D } σ H
theorem z6m : PSs X [] ykx:=fun _ _ σ H _ I h=>wpAny_execs_nil ⟨σ,H,I,h⟩
variable {st:Stmt} {u:TS}
section
variable {za9:List Stmt}
theorem zub (h1:PS X st t) (h2:PSs X za9 u) : PSs X (st::za9) (yk4 t u):=by
 intro pins s σ H D I h
 refine wpAny_execs_cons (thn (h1 pins s σ H { D with nx:=u D } I h) fun f s1 q=>?_)
 cases f with
 | next =>
  obtain ⟨σ',H',I',q⟩:=q
  exact h2 pins s1 σ' H' D I' q
 | ret v=>exact q
 | brk=>exact q
 | cont=>exact q
end
theorem zyl (h1:PS X st t) : PSs X [st] t:=by
 intro pins s σ H D I h;refine wpAny_execs_cons (thn (h1 pins s σ H D I h) fun f s1 q=>?_)
 cases f with
 | next=>exact wpAny_execs_nil q
 | ret v=>exact q
 | brk=>exact q
 | cont=>exact q
theorem Inv.quiet {s:Shared} (I:Inv X pins σ H s) : interactive X.env=false:=by simp [interactive,I.ok.kind]
def zu3 (te:TE) : TS:=fun D σ H=>te σ H fun _ H1=>D.nx σ H1
variable {te:TE}
theorem zer (he:PE X e te) (hs:swapsWith e none pos.line X.env=pure false:=by rfl) : PS X (.Expr e pos) (zu3 te):=by
 intro pins s σ H D I h;exact wpAny_Expr_any (thn (he pins s σ H _ I h) fun v s1 ⟨x,H1,I1,r1,q1⟩=>⟨σ,H1,I1,q1⟩) I.quiet hs
def yk3 (te:TE) : TS:=fun D σ H=>te σ H D.rt
theorem zm5 (he:PE X e te) : PS X (.Return (some e) pos) (yk3 te):=by
 intro pins s σ H D I h;exact wpAny_Return_some (thn (he pins s σ H _ I h) fun v s1 ⟨x,H1,I1,r1,q1⟩=>⟨x,σ,H1,I1,r1,q1⟩)
def ykt (c:TT) (t u:TS) : TS:=fun D σ H=>c σ H fun b H1=>if b=true then t D σ H1 else u D σ H1
variable {tc:TT}
theorem zyk {a b:List Stmt} (hc:PT X c tc) (ha:PSs X a t) (hb:PSs X b u) : PS X (.If c a b pos) (ykt tc t u):=by
 intro pins s σ H D I h;refine wpAny_If (thn (hc pins s σ H _ I h) fun d s1 q_=>?_);obtain ⟨H1,I1,q1⟩:=q_
 cases d with
 | true=>exact ha pins s1 σ H1 D I1 q1
 | false=>exact hb pins s1 σ H1 D I1 q1
noncomputable abbrev TG:=V->St->Hp->(St->Hp->Prop)->Prop
noncomputable abbrev TGs:=List V->St->Hp->(St->Hp->Prop)->Prop
def PG (X:Cx) (target:Expr) (t:TG) : Prop :=
 ∀ (pins:PNS) (s:Shared) (σ:St) (H:Hp) (v:V) (u:Value) (Q:St->Hp->Prop),Inv X pins σ H s->za7 v u->t v σ H Q ->
  wpAny @1 X.A (assign target X.env u) (fun _ s'=>∃ σ' H',Inv X pins σ' H' s'/\Q σ' H') X.xe s
def PGs (X:Cx) (ts:LEx) (t:TGs) : Prop :=
 ∀ (pins:PNS) (s:Shared) (σ:St) (H:Hp) (vs:List V) (us:LVa) (Q:St->Hp->Prop),Inv X pins σ H s->zay vs us->t vs σ H Q ->
  wpAny @1 X.A (assignInOrder ((assignEach ts X.env).map (·.2)) us) (fun _ s'=>∃ σ' H',Inv X pins σ' H' s'/\Q σ' H') X.xe s
noncomputable abbrev zve:=V->V->V->Hp->(Hp->Prop)->Prop
def z1c (X:Cx) (t:zve) : Prop :=
 ∀ (pins:PNS) (s:Shared) (σ:St) (H:Hp) (o i v:V) (ov iv u:Value) (Q:Hp->Prop),Inv X pins σ H s->za7 o ov->za7 i iv->za7 v u->t o i v H Q ->
  wpAny @1 X.A (setItem ov iv u) (fun _ s'=>∃ H',Inv X pins σ H' s'/\Q H') X.xe s
noncomputable abbrev TIp:=V->V->Hp->VK->Prop
def PIp (X:Cx) (op:Operator) (t:TIp) : Prop :=
 ∀ (pins:PNS) (s:Shared) (σ:St) (H:Hp) (x y:V) (v u:Value) (Q:VK),Inv X pins σ H s->za7 x v->za7 y u->t x y H Q ->
  wpAny @1 X.A (inplaceOp op v u) (EP X pins σ Q) X.xe s
def zjg (i:Nat) : TG:=fun v σ H Q=>Q (σ.set i (some v)) H
theorem z6a (hN:X.N.Nodup) (hi:X.N[i]?=some x) (hx:Loc X.env.scope x) (hf:LcF X x:=by first | exact .inl rfl | exact .inr rfl | assumption) : PG X (.Name x pos) (zjg i):=by
 intro pins s σ H v u Q I r h;exact wpAny_assign_Name (zqg I hN hi hx r (fun s' I'=>⟨_,H,I',h⟩) hf)
def ycq : TGs:=fun vs σ H Q=>vs=[]/\Q σ H
def ycp (t:TG) (u:TGs) : TGs:=fun vs σ H Q=>∃ v r,vs=v::r/\t v σ H fun σ' H'=>u r σ' H' Q
theorem yha : PGs X [] ycq:=by
 intro pins s σ H vs us Q I r h;obtain ⟨e,h⟩:=h;subst e;cases r;exact assignInOrder_nil ⟨σ,H,I,h⟩
variable {es:LEx}
theorem yg9 {t:TG} {u:TGs} (h1:PG X e t) (h2:PGs X es u)
  (hs:(assignEach (e::es) X.env).map (·.2)=assign e X.env::(assignEach es X.env).map (·.2):=by rfl) : PGs X (e::es) (ycp t u):=by
 intro pins s σ H vs us Q I r h;obtain ⟨v,vr,e1,h⟩:=h;subst e1
 cases r with
 | cons r rr =>
  rw [hs];refine assignInOrder_cons (thn (h1 pins s σ H _ _ _ I r h) fun _ s1 q_=>?_);obtain ⟨σ1,H1,I1,q1⟩:=q_;exact h2 pins s1 σ1 H1 _ _ Q I1 rr q1
def ycr (K:W.Frag) (n:Nat) (t:TGs) : TG:=fun v σ H Q=>∃ a xs,v=.ref a/\SqT K H a xs/\xs.length=n/\t xs σ H Q
theorem yg8 {k:Nat} {t:TGs} {n:Nat} (hc:X.calm=true) (h:PGs X es t)
  (hn:(assignEach es X.env).length=n:=by rfl) (hst:(assignEach es X.env).findIdx? (·.1)=none:=by rfl) : PG X (.Tuple es k pos) (ycr X.K n t):=by
 intro pins s σ H v u Q I r hw;obtain ⟨a,xs,e1,hq,hl,hw⟩:=hw;subst e1;cases r;obtain ⟨its,rv,ht,hz⟩:=I.tuple hq;refine assign_Tuple_tuple (I.ok.hd hc) ht (by simp [hn,<- hl,rv.length]) hst fun h' hx=>?_
 have I1 : Inv X pins σ H { s with heap:=h' }:=I.kept (t':=s.toks) fun b o e=>hx b o (Nat.ne_of_lt (Heap.lt_size e)) e
 exact h pins _ σ H xs _ Q I1 (by simpa using rv) hw
def zwn (to ti:TE) (t:zve) : TG:=fun v σ H Q=>to σ H fun o H1=>ti σ H1 fun i H2=>t o i v H2 fun H3=>Q σ H3
theorem z6b {o i:Expr} {to ti:TE} {t:zve} (ho:PE X o to) (hi:PE X i ti) (hs:z1c X t)
  (ha:∀ v,assign (.Subscript o i pos) X.env v=(do
   let ov <- holding [v] (eval o X.env)
   let iv <- holding [v,ov] (eval i X.env)
   standAt pos
   holding [v,ov,iv] (setItem ov iv v)
   release [v,ov,iv] []):=by intro _; rfl) : PG X (.Subscript o i pos) (zwn to ti t):=by
 intro pins s σ H v u Q I r h;rw [ha];refine wpAny_bind (wpAny_holding (thn (ho pins s σ H _ I h) fun ov s1 q_=>?_));obtain ⟨x,H1,I1,r1,q1⟩:=q_;refine wpAny_bind (wpAny_holding (thn (hi pins s1 σ H1 _ I1 q1) fun iv s2 q_=>?_));obtain ⟨y,H2,I2,r2,q2⟩:=q_;refine wpAny_bind (wpAny_standAt (wpAny_bind (wpAny_holding (thn (hs pins s2 σ H2 x y v ov iv u _ I2 r1 r2 r q2) fun _ s3 q_=>?_))));obtain ⟨H3,I3,q3⟩:=q_;exact wpAny_release ⟨σ,H3,I3,q3⟩
def zj1 (te:TE) (g:TG) : TS:=fun D σ H=>te σ H fun x H1=>g x σ H1 D.nx
variable {tg:Expr} {g:TG}
theorem z6k (he:PE X e te) (hg:PG X tg g) (hs:swapsWithSole [tg] e pos.line X.env=pure false:=by rfl) (hw:swappedStores [tg] e X.env=pure none:=by rfl)
  (h1:(assignEach [tg] X.env).map (·.2)=[assign tg X.env]:=by rfl) : PS X (.Assign [tg] e pos) (zj1 te g):=by
 intro pins s σ H D I h;refine wpAny_Assign_stores (thn (he pins s σ H _ I h) fun v s1 q_=>?_) hs hw;obtain ⟨x,H1,I1,r1,q1⟩:=q_;rw [h1];exact thn (hg pins s1 σ H1 x v _ I1 r1 q1) fun _ s2 q=>q
variable {pos':Pos}
theorem zjt (hN:X.N.Nodup) (hi:X.N[i]?=some x) (hx:Loc X.env.scope x) (he:PE X e te) (hs:swapsWith e (some (.Name x pos')) pos.line X.env=pure false:=by rfl) (hf:LcF X x:=by first | exact .inl rfl | exact .inr rfl | assumption) :
  PS X (.Assign [.Name x pos'] e pos) (zj1 te (zjg i)):=by
 intro pins s σ H D I h;refine wpAny_Assign_Name (thn (he pins s σ H _ I h) fun v s1 q_=>?_) hs;obtain ⟨y,H1,I1,r1,q1⟩:=q_;exact zqg I1 hN hi hx r1 (fun s2 I2=>⟨_,H1,I2,q1⟩) hf
def ykm (i:Nat) (te:TE) (ti:TIp) : TS:=fun D σ H=>∃ x,σ[i]?=some (some x)/\te σ H fun y H1=>ti x y H1 fun z H2=>D.nx (σ.set i (some z)) H2
variable {op:Operator}
theorem z6l {ti:TIp} (hN:X.N.Nodup) (hi:X.N[i]?=some x) (hx:Loc X.env.scope x) (he:PE X e te) (ho:PIp X op ti) (hf:LcF X x:=by first | exact .inl rfl | exact .inr rfl | assumption) :
  PS X (.AugAssign (.Name x pos') op e pos) (ykm i te ti):=by
 intro pins s σ H D I h;obtain ⟨v,e1,h⟩:=h;obtain ⟨m,hn,hl⟩:=I.loc
 have vis : Vis X.env.scope x:=by rcases hx with k | k; exact .inl k; exact .inr (.inl k)
 obtain ⟨u,r,l⟩:=hl i x v hi e1 vis;refine wpAny_AugAssign_Name ?_
 have go : wpAny @1 X.A (eval e X.env) (fun w s₂=>wpAny @1 X.A (inplaceOp op u w) (fun r s₃=>wpAny @1 X.A (storeName X.env x r) (fun _=>SP X pins D .next) X.xe s₃) X.xe s₂) X.xe s:=by
  refine thn (he pins s σ H _ I h) fun w s1 q_=>?_;obtain ⟨y,H1,I1,r1,q1⟩:=q_;refine thn (ho pins s1 σ H1 v y u w _ I1 r r1 q1) fun z s2 q_=>?_;obtain ⟨zv,H2,I2,r2,q2⟩:=q_;exact zqg I2 hN hi hx r2 (fun s3 I3=>⟨_,H2,I3,q2⟩) hf
 rcases l with ⟨hk,hm⟩ | ⟨hk,c,hc,hcell⟩
 ·exact wpAny_loadName_local I.ok.kind hk hn hm go
 ·rcases hk with hk | hk
  ·exact wpAny_loadName_cell I.ok.kind hk hc hcell go
  ·rcases hx with k | k
   ·have : X.env.scope.names.lookup x=some .free:=hk;rw [k] at this; cases this
   ·have : X.env.scope.names.lookup x=some .free:=hk;rw [k] at this; cases this
def ipI (f:Int->Int->Int) : TIp:=fun x y H Q=>∃ i j,x=.int i/\y=.int j/\Q (.int (f i j)) H
theorem ydj : PIp X .Add (ipI fun i j=>i + j):=by
 intro pins s σ H x y v u Q I r1 r2 h;obtain ⟨i,j,e1,e2,q⟩:=h;subst e1; subst e2;obtain ⟨t,rfl⟩:=r1;obtain ⟨t',rfl⟩:=r2;exact iadd_int ⟨.int _,H,I.tok _,⟨_,rfl⟩,q⟩
def yk7 (c:TT) (tb:TS) : TS:=fun D σ H=>∃ W : Nat->St->Hp->Prop,(∃ m,W m σ H)/\∀ m σ H,W m σ H ->
 c σ H fun b H1=>if b=true then ∃ N : St->Hp->Prop,(∀ σ' H',N σ' H'->∃ m',m' < m/\W m' σ' H')/\tb { D with nx:=N,ct:=N,bk:=D.nx } σ H1 else D.nx σ H1
variable {body:List Stmt}
theorem yh3 {tb:TS} (hp:PassesOwn @1 X.A X.env X.xe) (hc:PT X c tc) (hb:PSs X body tb) : PS X (.While c body [] pos) (yk7 tc tb):=by
 intro pins s σ H D I h;obtain ⟨W,⟨m0,w0⟩,turn⟩:=h;refine wpAny_While (codeAny_whileLoop (fun n s'=>∃ σ' H',Inv X pins σ' H' s'/\W n σ' H') ?_ m0 ⟨σ,H,I,w0⟩);rintro n s1 ⟨σ1,H1,I1,w1⟩;refine wpAny_passesOwn hp (thn (hc pins s1 σ1 H1 _ I1 (turn n σ1 H1 w1)) fun b s2 q_=>?_);obtain ⟨H2,I2,q2⟩:=q_
 cases b with
 | true =>
  obtain ⟨N,hN,q2⟩:=q2;rw [if_pos rfl];refine wpAny_passesOwn hp (thn (hb pins s2 σ1 H2 _ I2 q2) fun f s3 q3=>?_)
  cases f with
  | next =>
   obtain ⟨σ3,H3,I3,n3⟩:=q3;obtain ⟨m',hm,w3⟩:=hN σ3 H3 n3
   exact ⟨m',hm,σ3,H3,I3,w3⟩
  | cont =>
   obtain ⟨σ3,H3,I3,n3⟩:=q3;obtain ⟨m',hm,w3⟩:=hN σ3 H3 n3
   exact ⟨m',hm,σ3,H3,I3,w3⟩
  | brk=>exact q3
  | ret v=>exact q3
 | false =>
  rw [if_neg fq];exact wpAny_execs_nil ⟨σ1,H2,I2,q2⟩
structure It where
 go : Nat->Hp->Prop
 yld : Nat->Hp->V->Hp->Prop
 stop : Nat->Hp->Prop
def zec (X:Cx) (pins:PNS) (H:Hp) (b:Addr) : Prop :=
 H b=none/\b≠X.env.locals/\b∉X.fs/\(b∈X.ex\/X.s₀.heap.objs.size<=b)/\(∀ x c,X.env.cells.lookup x=some c->c≠b)/\∀ p∈X.pn++pins,p.1≠b
theorem Inv.fpOk {s:Shared} {b:Addr} (I:Inv X pins σ H s) (hb:s.heap.objs.size<=b) (hn:H' b=none) : zec X pins H' b:=by
 refine ⟨hn,Nat.ne_of_gt (Nat.lt_of_lt_of_le I.lt hb),I.nofs hb,.inr (Nat.le_trans I.sz hb),fun x c e z=>?_,fun p hp z=>?_⟩
 ·obtain ⟨v,q⟩:=I.cell x c e;exact absurd (Nat.lt_of_lt_of_le q.lt (by rw [z]; exact hb)) (Nat.lt_irrefl _)
 ·exact absurd (Nat.lt_of_lt_of_le (Heap.lt_size (I.pin p hp).1) (by rw [z]; exact hb)) (Nat.lt_irrefl _)
structure zh7 (P:Program) (w:World) (K:W.Frag) (tg:Expr) (J:It) (fp:LAd) (it:Addr) (tn:Nat->Heap->Prop) : Prop where
 mem : it∈fp
 obj : ∀ i h,tn i h->∀ b∈fp,∃ o,h.get? b=some o/\∀ v,o.data≠.cell v
 keep : ∀ i h h',tn i h->(∀ b∈fp,∀ o,h.get? b=some o->h'.get? b=some o)->tn i h'
 item : ∀ (X:Cx),X.prog=P->X.w=w->X.K=K->X.calm=true->∀ (i:Nat) (pins:PNS) (s:Shared) (σ:St) (H:Hp) (E:PRS),Inv X pins σ H s->(∀ b∈fp,zec X pins H b)->tn i s.heap->J.go i H ->
  wpAny (model P w) X.A (pyNext (.ref it)) (fun r s1=>∃ u,r=some u /\
   wpAny (model P w) X.A (letOwnedTupleGo tg (.ref it) u) (fun _ s2=>∃ x H',Inv X pins σ H' s2/\za7 x u/\J.yld i H x H'/\tn (i + 1) s2.heap/\∀ b∈fp,H' b=none) E s1) E s
 done : ∀ (X:Cx),X.prog=P->X.w=w->X.K=K->X.calm=true->∀ (i:Nat) (pins:PNS) (s:Shared) (σ:St) (H:Hp) (E:PRS),Inv X pins σ H s->(∀ b∈fp,zec X pins H b)->tn i s.heap->J.stop i H ->
  wpAny (model P w) X.A (pyNext (.ref it)) (fun r s1=>r=none/\Inv X pins σ H s1) E s
 self : ∀ (A:Around) (i:Nat) (s:Shared) (Q:PRS) (E:PRS),tn i s.heap->Q (.ref it) s->wpAny (model P w) A (pyIter (.ref it)) Q E s
noncomputable abbrev TI:=St->Hp->(It->Hp->Prop)->Prop
def PIE (X:Cx) (pins:PNS) (σ:St) (tg:Expr) (R:It->Hp->Prop) (itv:Value) (s2:Shared) : Prop :=
 ∃ (it:Addr) (fp:LAd) (tn:Nat->Heap->Prop) (J:It) (H':Hp),itv=.ref it/\Inv X pins σ H' s2/\zh7 X.prog X.w X.K tg J fp it tn/\tn 0 s2.heap/\(∀ b∈fp,zec X pins H' b)/\R J H'
def PI (X:Cx) (tg iter:Expr) (wi:TI) : Prop :=
 ∀ (pins:PNS) (s:Shared) (σ:St) (H:Hp) (R:It->Hp->Prop),Inv X pins σ H s->wi σ H R ->
  wpAny @1 X.A (eval iter X.env) (fun v s1=>wpAny @1 X.A (pyIter v) (PIE X pins σ tg R) X.xe s1) X.xe s
theorem zo3 {s : Shared} {u:Value} {n:String} {vs:Array Value} (ho : s.heap.get? it = some o) (hc : o.cls = .type n) (hd : o.data = .fields vs)
    (hn : ["enumerate", "zip", "dict_itemiterator", "dict_reverseitemiterator", "odict_iterator", "itertools.zip_longest", "itertools.pairwise"].contains n = false) (hQ : Q () s) : wpAny M A (letOwnedTupleGo tg (.ref it) u) Q E s := by
  unfold letOwnedTupleGo
  cases tg <;> first
    | exact wpAny_pure hQ
    | (cases u <;> first
        | exact wpAny_pure hQ
        | (refine wpAny_bind (wpAny_load ho ?_)
           rw [hc, hd];show wpAny M A (if (["enumerate", "zip", "dict_itemiterator", "dict_reverseitemiterator", "odict_iterator", "itertools.zip_longest", "itertools.pairwise"].contains n && vs[0]?==some (rawInt _)) = true then _ else _) Q E s;rw [if_neg (by intro h; rw [hn, Bool.false_and] at h; cases h)];exact wpAny_pure hQ))
noncomputable def Itl (K:W.Frag) (a:Addr) : It :=
 ⟨fun i H=>∃ xs x,SqL K H a xs/\xs[i]?=some x,fun i H x H'=>H'=H/\∀ xs,SqL K H a xs->xs[i]?=some x,fun i H=>∃ xs,SqL K H a xs/\xs.length<=i⟩
noncomputable def Itt (K:W.Frag) (a:Addr) : It :=
 ⟨fun i H=>∃ xs x,SqT K H a xs/\xs[i]?=some x,fun i H x H'=>H'=H/\∀ xs,SqT K H a xs->xs[i]?=some x,fun i H=>∃ xs,SqT K H a xs/\xs.length<=i⟩
noncomputable def Itr (lo:Int) (n:Nat) : It:=⟨fun i _=>i < n,fun i H x H'=>H'=H/\x=.int (lo + i),fun i _=>n<=i⟩
theorem ylg (a it:Addr) : zh7 P w K tg (Itl K a) [it] it (fun i h=>h.IsListIter it a i) where
 mem:=by simp
 obj:=fun i h st b hb=>by
  have e : b=it:=by simpa using hb
  subst e;obtain ⟨o,e,c,d⟩:=st;exact ⟨o,e,fun v z=>by rw [d] at z; cases z⟩
 keep:=fun i h h' st k=>st.at fun o e=>k it (by simp) o e
 item:=by
  intro X hP hw hK hc i pins s σ H E I hf st hg;subst hP hw hK;obtain ⟨xs,x,hq,hx⟩:=hg;obtain ⟨its,rv,p,hz⟩:=I.list hq;obtain ⟨u,hu,ru⟩:=rv.get hx;obtain ⟨f0,f1,f2,f3,f4,f5⟩:=hf it (by simp);refine wpAny_pyNext_list_item st p.isList (x:=u) (by simpa using hu) fun h' st' sb=>?_
  have I1 : Inv X pins σ H { s with heap:=h' }:=I.turned (t':=s.toks) (fun b o hb e=>(sb.2 b hb).trans e) f0 f1 f3 f4 f5
  obtain ⟨o,e,c,d⟩:=id st'
  exact ⟨u,rfl,zo3 (s:={ s with heap:=h' }) e c d (by decide) ⟨x,H,I1,ru,⟨rfl,fun ys hy=>by rw [I.list_inj hy hq]; exact hx⟩,st',fun b hb=>(hf b hb).1⟩⟩
 done:=by
  intro X hP hw hK hc i pins s σ H E I hf st hg;subst hP hw hK;obtain ⟨xs,hq,hx⟩:=hg;obtain ⟨its,rv,p,hz⟩:=I.list hq;obtain ⟨f0,f1,f2,f3,f4,f5⟩:=hf it (by simp);have hl:=rv.length;exact wpAny_pyNext_list_end (I.ok.hd hc) st p.isList (by simp; omega) fun h' eb=>⟨rfl,I.turned (t':=s.toks) (fun b o hb e=>eb b o hb e) f0 f1 f3 f4 f5⟩
 self:=fun _ _ _ _ _ st h=>wpAny_pyIter_listiter st h
theorem ylj (a it:Addr) : zh7 P w K tg (Itt K a) [it] it (fun i h=>h.IsTupleIter it a i) where
 mem:=by simp
 obj:=fun i h st b hb=>by
  have e : b=it:=by simpa using hb
  subst e;obtain ⟨o,e,c,d⟩:=st;exact ⟨o,e,fun v z=>by rw [d] at z; cases z⟩
 keep:=fun i h h' st k=>st.at fun o e=>k it (by simp) o e
 item:=by
  intro X hP hw hK hc i pins s σ H E I hf st hg;subst hP hw hK;obtain ⟨xs,x,hq,hx⟩:=hg;obtain ⟨its,rv,p,hz⟩:=I.tuple hq;obtain ⟨u,hu,ru⟩:=rv.get hx;obtain ⟨f0,f1,f2,f3,f4,f5⟩:=hf it (by simp);refine wpAny_pyNext_tuple_item st (show s.heap.IsTuple a its.toArray from p) (x:=u) (by simpa using hu) fun h' st' sb=>?_
  have I1 : Inv X pins σ H { s with heap:=h' }:=I.turned (t':=s.toks) (fun b o hb e=>(sb.2 b hb).trans e) f0 f1 f3 f4 f5
  obtain ⟨o,e,c,d⟩:=id st'
  exact ⟨u,rfl,zo3 (s:={ s with heap:=h' }) e c d (by decide) ⟨x,H,I1,ru,⟨rfl,fun ys hy=>by rw [I.tuple_inj hy hq]; exact hx⟩,st',fun b hb=>(hf b hb).1⟩⟩
 done:=by
  intro X hP hw hK hc i pins s σ H E I hf st hg;subst hP hw hK;obtain ⟨xs,hq,hx⟩:=hg;obtain ⟨its,rv,p,hz⟩:=I.tuple hq;obtain ⟨f0,f1,f2,f3,f4,f5⟩:=hf it (by simp);have hl:=rv.length;exact wpAny_pyNext_tuple_end (I.ok.hd hc) st (show s.heap.IsTuple a its.toArray from p) (by simp; omega) fun h' eb=>⟨rfl,I.turned (t':=s.toks) (fun b o hb e=>eb b o hb e) f0 f1 f3 f4 f5⟩
 self:=fun _ _ _ _ _ st h=>wpAny_pyIter_tupleiter st h
theorem ylh (it:Addr) (lo:Int) (n:Nat) : zh7 P w K tg (Itr lo n) [it] it (fun i h=>IsRangeIter h it (lo + (i:Nat) * 1) ((n:Int) - (i:Nat)) 1) where
 mem:=by simp
 obj:=fun i h st b hb=>by
  have e : b=it:=by simpa using hb
  subst e
  exact ⟨_,st,fun v z=>by
   have z' : Data.fields _=Data.cell v:=z;cases z'⟩
 keep:=fun i h h' st k=>k it (by simp) _ st
 item:=by
  intro X hP hw hK hc i pins s σ H E I hf st hg;subst hP hw hK;obtain ⟨f0,f1,f2,f3,f4,f5⟩:=hf it (by simp);have W:=Walks.range (prog:=X.prog) (w:=X.w) (I.ok.hd hc) it lo 1 n;refine W.item i s _ _ hg st fun v h' tk hv st' kk=>?_;obtain ⟨t,rfl⟩:=hv
  have I1 : Inv X pins σ H { s with heap:=h',toks:=tk }:=I.turned (fun b o hb e=>kk b o (by simpa using hb) e) f0 f1 f3 f4 f5
  refine ⟨_,rfl,zo3 (s:={ s with heap:=h',toks:=tk }) (n:="range_iterator") st' rfl rfl (by decide) ⟨.int (lo + i),H,I1,⟨t,?_⟩,⟨rfl,rfl⟩,st',fun b hb=>(hf b hb).1⟩⟩
  rw [Int.mul_one]
 done:=by
  intro X hP hw hK hc i pins s σ H E I hf st hg;subst hP hw hK;obtain ⟨f0,f1,f2,f3,f4,f5⟩:=hf it (by simp);exact wpAny_pyNext_range_end (I.ok.hd hc) st (by have:n<=i:=hg; omega) fun h' eb=>⟨rfl,I.turned (t':=s.toks) (fun b o hb e=>eb b o hb e) f0 f1 f3 f4 f5⟩
 self:=fun _ _ _ _ _ st h=>wpAny_pyIter_rangeiter st h
def yc4 (K:W.Frag) (tl:TE) : TI:=fun σ H R=>tl σ H fun x H1=>∃ a,x=.ref a/\(∃ xs,SqL K H1 a xs)/\R (Itl K a) H1
def yc6 (K:W.Frag) (tl:TE) : TI:=fun σ H R=>tl σ H fun x H1=>∃ a,x=.ref a/\(∃ xs,SqT K H1 a xs)/\R (Itt K a) H1
variable {l:Expr} {tl:TE}
theorem yhd (hl:PE X l tl) : PI X tg l (yc4 X.K tl):=by
 intro pins s σ H R I h;refine thn (hl pins s σ H _ I h) fun v s1 q_=>?_;obtain ⟨x,H1,I1,r1,q1⟩:=q_;obtain ⟨a,e,⟨xs,hq⟩,q⟩:=q1;subst e;cases r1;obtain ⟨its,rv,p,hz⟩:=I1.list hq;refine wpAny_pyIter_list p.isList ?_;refine ⟨s1.heap.objs.size,[s1.heap.objs.size],_,_,H1,rfl,I1.kept (t':=s1.toks) fun b o e=>Heap.get?_push_of_some _ e,ylg a _,⟨_,Heap.get?_push_size _ rfl,rfl,rfl⟩,fun b hb=>?_,q⟩;have e : b=s1.heap.objs.size:=by simpa using hb
 subst e;exact I1.fpOk (Nat.le_refl _) (I1.hok.fresh (Nat.le_refl _))
theorem yhf (hl:PE X l tl) : PI X tg l (yc6 X.K tl):=by
 intro pins s σ H R I h;refine thn (hl pins s σ H _ I h) fun v s1 q_=>?_;obtain ⟨x,H1,I1,r1,q1⟩:=q_;obtain ⟨a,e,⟨xs,hq⟩,q⟩:=q1;subst e;cases r1;obtain ⟨its,rv,p,hz⟩:=I1.tuple hq;refine wpAny_pyIter_tuple (show s1.heap.IsTuple a its.toArray from p) ?_;refine ⟨s1.heap.objs.size,[s1.heap.objs.size],_,_,H1,rfl,I1.kept (t':=s1.toks) fun b o e=>Heap.get?_push_of_some _ e,ylj a _,⟨_,Heap.get?_push_size _ rfl,rfl,rfl⟩,fun b hb=>?_,q⟩;have e : b=s1.heap.objs.size:=by simpa using hb
 subst e;exact I1.fpOk (Nat.le_refl _) (I1.hok.fresh (Nat.le_refl _))
variable {tk:Nat}
theorem yii {s:Shared} {R:It->Hp->Prop} {lo hi:Int} {t u v:Tok} (I:Inv X pins σ H s) (h1:-(2 ^ 62)<=lo) (h2:lo < 2 ^ 62) (h3:-(2 ^ 62)<=hi) (h4:hi < 2 ^ 62)
  (q:R (Itr lo (hi - lo).toNat) H) : wpAny @1 X.A (pyIter (.ref s.heap.objs.size)) (PIE X pins σ tg R) E { s with heap:=s.heap.push { cls:=.type "range",data:=.fields #[.int lo t,.int hi u,.int 1 v] },toks:=tk }:=by
 refine wpAny_pyIter_range (IsRange.new ..) (small_one h1 h2 h3 h4) ?_
 have I1 : Inv X pins σ H { s with heap:=s.heap.push { cls:=.type "range",data:=.fields #[.int lo t,.int hi u,.int 1 v] },toks:=tk }:=I.kept fun b o e=>Heap.get?_push_of_some _ e
 refine ⟨(s.heap.push { cls:=.type "range",data:=.fields #[.int lo t,.int hi u,.int 1 v] }).objs.size,[(s.heap.push { cls:=.type "range",data:=.fields #[.int lo t,.int hi u,.int 1 v] }).objs.size],_,_,H,rfl,
  I1.kept (t':=tk) fun b o e=>Heap.get?_push_of_some _ e,ylh _ lo (hi - lo).toNat,?_,fun b hb=>?_,q⟩
 ·have e1 : lo + ((0 : Nat) : Int) * 1=lo:=by simp
  have e2 : (((hi - lo).toNat : Nat) : Int) - ((0 : Nat) : Int)=Builtin.Range.rangeSize lo hi 1:=by rw [rangeSize_one]; split <;> omega
  show IsRangeIter _ _ (lo + ((0 : Nat) : Int) * 1) ((((hi - lo).toNat : Nat) : Int) - ((0 : Nat) : Int)) 1;rw [e1,e2];exact Heap.get?_push_size _ rfl
 ·have e : b=(s.heap.push { cls:=.type "range",data:=.fields #[.int lo t,.int hi u,.int 1 v] }).objs.size:=by simpa using hb
  subst e;exact I1.fpOk (Nat.le_refl _) (I1.hok.fresh (Nat.le_refl _))
def yc5 (ta:TA) : TI:=fun σ H R=>ta σ H fun vs H1=>∃ j : Int,vs=[.int j]/\-(2 ^ 62)<=j/\j < 2 ^ 62/\R (Itr 0 j.toNat) H1
variable {a:Expr}
theorem z6c {ta:TA} {p:Pos} (hg:Gl X "range") (hm:X.mg "range"=none) (ha:PA X [a] ta) (hs:starEach [a] X.env=[(false,eval a X.env)]:=by rfl) : PI X tg (.Call (.Name "range" p) [a] [] pos) (yc5 ta):=by
 intro pins s σ H R I h;refine Call_ (zmc I hg hm boot_range (PyProof.Rows.callWith_type1 (thn (ha pos pins s σ H _ I h) fun us s1 ⟨vs,H1,I1,r1,q1⟩=>?_) hs rfl));obtain ⟨j,e,q1,q2,q⟩:=q1;subst e
 cases r1 with
 | cons r rr =>
  cases rr;obtain ⟨t,rfl⟩:=r;exact call_range_1 (yii I1 (by omega) (by omega) q1 q2 (by simpa using q))
def yks (wi:TI) (g:TG) (tb:TS) : TS:=fun D σ H=>wi σ H fun J H1=>∃ W : Nat->Nat->St->Hp->Prop,(∃ m,W 0 m σ H1)/\∀ i m σ H,W i m σ H ->
 (J.stop i H/\D.nx σ H)\/(J.go i H/\∃ N : St->Hp->Prop,(∀ σ' H',N σ' H'->∃ m',m' < m/\W (i + 1) m' σ' H')/\∀ x H',J.yld i H x H'->g x σ H' fun σ2 H2=>tb { D with nx:=N,ct:=N,bk:=D.nx } σ2 H2)
noncomputable def zpv (fp:LAd) (h:Heap) : PNS:=fp.filterMap fun b=>(h.get? b).map fun o=>(b,o)
variable {fp:LAd}
theorem zpk {b:Addr} (hb:b∈fp) (e:h.get? b=some o) : (b,o)∈zpv fp h:=mem_filterMap.mpr ⟨b,hb,by rw [e]; rfl⟩
theorem yfg {p:Addr×Obj} (hp:p∈zpv fp h) : p.1∈fp/\h.get? p.1=some p.2:=by
 obtain ⟨b,hb,e⟩:=mem_filterMap.mp hp
 cases q : h.get? b with
 | none=>rw [q] at e; cases e
 | some o =>
  rw [q] at e;have e' : (b,o)=p:=Option.some.inj e;subst e';exact ⟨hb,q⟩
theorem Inv.pinned {s:Shared} (I:Inv X pins σ H s) (hf:∀ b∈fp,zec X pins H b) (ho:∀ b∈fp,∃ o,s.heap.get? b=some o/\∀ v,o.data≠.cell v) : Inv X (pins++zpv fp s.heap) σ H s :=
 I.pins_of fun p hp=>(mem_append.mp hp).elim (fun z=>I.pin p (mem_append_right _ z)) fun z=>by
  obtain ⟨hb,e⟩:=yfg z;obtain ⟨f0,f1,f2,_⟩:=hf p.1 hb;obtain ⟨o,e',d⟩:=ho p.1 hb;rw [e] at e'; cases e';exact ⟨e,f0,f1,f2,d⟩
theorem Inv.unpinned {pl:PNS} {s:Shared} (I:Inv X (pins++pl) σ H s) : Inv X pins σ H s:=I.pins_of fun p hp=>I.pin p (mem_append_right _ (mem_append_left _ hp))
variable {iter:Expr} {wi:TI}
theorem yh0 {tb:TS} (hp:PassesOwn @1 X.A X.env X.xe) (hc:X.calm=true) (hi:PI X tg iter wi) (hg:PG X tg g) (hb:PSs X body tb)
  (hs:∀ x,foldedSetIterable iter X.env x=pure x:=by intro _; rfl) : PS X (.For tg iter body [] pos) (yks wi g tb):=by
 intro pins s σ H D I h;refine wpAny_For (thn (hi pins s σ H _ I h) fun v s1 h1=>thn h1 fun itv s2 h2=>?_) hs;obtain ⟨it,fp,tn,J,H2,e,I2,T,st2,f2,W,⟨m0,w0⟩,turn⟩:=h2;subst e;have stat : ∀ {H':Hp},(∀ b∈fp,H' b=none)->∀ b∈fp,zec X pins H' b:=fun hn b hb=>⟨hn b hb,(f2 b hb).2⟩;refine codeAny_forLoop_any (fun n s'=>∃ i σ' H',Inv X pins σ' H' s'/\tn i s'.heap/\(∀ b∈fp,H' b=none)/\W i n σ' H') ?_ m0 ⟨0,σ,H2,I2,st2,fun b hb=>(f2 b hb).1,w0⟩;rintro n s3 ⟨i,σ3,H3,I3,st3,fr3,w3⟩
 rcases turn i n σ3 H3 w3 with ⟨stop,qn⟩ | ⟨go,N,hN,step⟩
 ·refine wpAny_passesOwn hp (thn (T.done X rfl rfl rfl hc i pins s3 σ3 H3 X.xe I3 (stat fr3) st3 stop) fun r s4 ⟨hr,I4⟩=>?_);subst hr;exact wpAny_execs_nil ⟨σ3,H3,I4,qn⟩
 ·refine wpAny_passesOwn hp (thn (T.item X rfl rfl rfl hc i pins s3 σ3 H3 X.xe I3 (stat fr3) st3 go) fun r s4 q_=>?_);obtain ⟨u,hr,h4⟩:=q_;subst hr;refine wpAny_passesOwn hp (thn h4 fun _ s5 q_=>?_);obtain ⟨x,H5,I5,r5,y5,st5,fr5⟩:=q_;have I5':=I5.pinned (stat fr5) (T.obj _ _ st5);refine wpAny_passesOwn hp (thn (hg _ s5 σ3 H5 x u _ I5' r5 (step x H5 y5)) fun _ s6 q_=>?_);obtain ⟨σ6,H6,I6,q6⟩:=q_;refine wpAny_passesOwn hp (thn (hb _ s6 σ6 H6 _ I6 q6) fun f s7 q7=>?_)
  have again : ∀ {σ7:St} {H7:Hp},Inv X (pins++zpv fp s5.heap) σ7 H7 s7->N σ7 H7->∃ m,m < n/\∃ i σ' H',Inv X pins σ' H' s7/\tn i s7.heap/\(∀ b∈fp,H' b=none)/\W i m σ' H':=fun {σ7 H7} I7 n7=>by
   obtain ⟨m',hm,w7⟩:=hN σ7 H7 n7;refine ⟨m',hm,i + 1,σ7,H7,I7.unpinned,T.keep _ _ _ st5 fun b hb o e=>(I7.pin (b,o) (mem_append_right _ (mem_append_right _ (zpk hb e)))).1,fun b hb=>?_,w7⟩;obtain ⟨o,e,d⟩:=T.obj _ _ st5 b hb;exact (I7.pin (b,o) (mem_append_right _ (mem_append_right _ (zpk hb e)))).2.1
  cases f with
  | next=>obtain ⟨σ7,H7,I7,n7⟩:=q7; exact again I7 n7
  | cont=>obtain ⟨σ7,H7,I7,n7⟩:=q7; exact again I7 n7
  | brk=>obtain ⟨σ7,H7,I7,q7⟩:=q7; exact ⟨σ7,H7,I7.unpinned,q7⟩
  | ret v=>obtain ⟨x7,σ7,H7,I7,r7,q7⟩:=q7; exact ⟨x7,σ7,H7,I7.unpinned,r7,q7⟩
noncomputable abbrev R2:=V->V->Hp->VK->Prop
def OpR (X:Cx) (f:Value->Value->Sem Value) (r:R2) : Prop :=
 ∀ (pins:PNS) (s:Shared) (σ:St) (H:Hp) (x y:V) (v u:Value) (Q:VK),Inv X pins σ H s->za7 x v->za7 y u->r x y H Q ->
  wpAny @1 X.A (f v u) (EP X pins σ Q) X.xe s
def UnR (X:Cx) (f:Value->Sem Value) (r:V->Hp->VK->Prop) : Prop :=
 ∀ (pins:PNS) (s:Shared) (σ:St) (H:Hp) (x:V) (v:Value) (Q:VK),Inv X pins σ H s->za7 x v->r x H Q ->
  wpAny @1 X.A (f v) (EP X pins σ Q) X.xe s
def zgg (X:Cx) (f:Value) (r:List V->Hp->VK->Prop) : Prop :=
 ∀ (pins:PNS) (s:Shared) (σ:St) (H:Hp) (xs:List V) (us:LVa) (Q:VK),Inv X pins σ H s->zay xs us->r xs H Q ->
  wpAny @1 X.A (call f us) (EP X pins σ Q) X.xe s
def z9o (X:Cx) (r:V->Hp->(Bool->Hp->Prop)->Prop) : Prop :=
 ∀ (pins:PNS) (s:Shared) (σ:St) (H:Hp) (x:V) (v:Value) (Q:Bool->Hp->Prop),Inv X pins σ H s->za7 x v->r x H Q ->
  wpAny @1 X.A (truthy v) (TP X pins σ Q) X.xe s
def tOp (r:R2) (ta tb:TE) : TE:=fun σ H Q=>ta σ H fun x H1=>tb σ H1 fun y H2=>r x y H2 Q
def tUn (r:V->Hp->VK->Prop) (ta:TE) : TE:=fun σ H Q=>ta σ H fun x H1=>r x H1 Q
def rI (C:Int->Int->Prop) (g:Int->Int->V) : R2:=fun x y H Q=>∃ i j,x=.int i/\y=.int j/\C i j/\Q (g i j) H
def rI0 (g:Int->Int->V) : R2:=fun x y H Q=>∃ i j,x=.int i/\y=.int j/\Q (g i j) H
def rU (g:Int->V) : V->Hp->VK->Prop:=fun x H Q=>∃ i,x=.int i/\Q (g i) H
variable {f:Value->Value->Sem Value}
theorem zrj (ha:PE X a ta) (hb:PE X b tb) {s:Shared} {R:V->V->Hp->Prop} (I:Inv X pins σ H s)
  (h:ta σ H fun x H1=>tb σ H1 fun y H2=>R x y H2) {Q:PRS}
  (hf:∀ v u s2 x y H2,Inv X pins σ H2 s2->za7 x v->za7 y u->R x y H2->wpAny @1 X.A (f v u) Q X.xe s2) :
  wpAny @1 X.A (eval a X.env) (fun v s₁=>wpAny @1 X.A (eval b X.env) (fun u s₂=>wpAny @1 X.A (f v u) Q X.xe s₂) X.xe s₁) X.xe s:=by
 refine thn (ha pins s σ H _ I h) fun v s1 q_=>?_;obtain ⟨x,H1,I1,r1,q1⟩:=q_;refine thn (hb pins s1 σ H1 _ I1 q1) fun u s2 q_=>?_;obtain ⟨y,H2,I2,r2,q2⟩:=q_;exact hf v u s2 x y H2 I2 r1 r2 q2
theorem zt9 {r:R2} (ho:OpR X (binaryOp op) r) (ha:PE X a ta) (hb:PE X b tb) : PE X (.BinOp a op b pos) (tOp r ta tb):=by
 intro pins s σ H Q I h;exact wpAny_BinOp (zrj ha hb I h fun v u s2 x y H2 I2 rx ry q=>ho pins s2 σ H2 x y v u Q I2 rx ry q)
theorem yg7 {op:UnaryOp} {r:V->Hp->VK->Prop} (ho:UnR X (unaryOp op) r) (ha:PE X a ta) : PE X (.UnaryOp op a pos) (tUn r ta):=by
 intro pins s σ H Q I h;exact UnaryOp_ (thn (ha pins s σ H _ I h) fun v s1 ⟨x,H1,I1,r1,q1⟩=>ho pins s1 σ H1 x v Q I1 r1 q1)
theorem opI {C:Int->Int->Prop} {g:Int->Int->Int}
  (rule:∀ (i j:Int) (t u:Tok) (s:Shared) (Q:PRS) (E:PRS),C i j->Q (.int (g i j) s.toks) { s with toks:=s.toks + 1 }->wpAny @1 X.A (f (.int i t) (.int j u)) Q E s) :
  OpR X f (rI C fun i j=>.int (g i j)):=by
 intro pins s σ H x y v u Q I rx ry h;obtain ⟨i,j,rfl,rfl,hc,q⟩:=h;obtain ⟨t,rfl⟩:=rx;obtain ⟨t',rfl⟩:=ry;exact rule i j t t' s _ _ hc ⟨.int (g i j),H,I.tok _,⟨_,rfl⟩,q⟩
theorem z5x {g:Int->Int->Int}
  (rule:∀ (i j:Int) (t u:Tok) (s:Shared) (Q:PRS) (E:PRS),Q (.int (g i j) s.toks) { s with toks:=s.toks + 1 }->wpAny @1 X.A (f (.int i t) (.int j u)) Q E s) :
  OpR X f (rI0 fun i j=>.int (g i j)):=by
 intro pins s σ H x y v u Q I rx ry h;obtain ⟨i,j,rfl,rfl,q⟩:=h;obtain ⟨t,rfl⟩:=rx;obtain ⟨t',rfl⟩:=ry;exact rule i j t t' s _ _ ⟨.int (g i j),H,I.tok _,⟨_,rfl⟩,q⟩
theorem zya {g:Int->Int->Bool}
  (rule:∀ (i j:Int) (t u:Tok) (s:Shared) (Q:PRS) (E:PRS),Q (.bool (g i j)) s->wpAny @1 X.A (f (.int i t) (.int j u)) Q E s) :
  OpR X f (rI0 fun i j=>.bl (g i j)):=by
 intro pins s σ H x y v u Q I rx ry h;obtain ⟨i,j,rfl,rfl,q⟩:=h;obtain ⟨t,rfl⟩:=rx;obtain ⟨t',rfl⟩:=ry;exact rule i j t t' s _ _ ⟨.bl (g i j),H,I,rfl,q⟩
def znt (i j:Int) : Prop:=0 < j/\j < 1073741824
def znv (i j:Int) : Prop:=0<=j/\j<=1000000/\i.natAbs < 2 ^ 64
def znu (i j:Int) : Prop:=(-(2 ^ 64) < i/\i < 2 ^ 64)\/(-(2 ^ 64) < j/\j < 2 ^ 64)
variable {j:Int}
theorem znu.ok {i:Int} (h:znu i j) : IntMulOk i j:=by
 rcases h with ⟨h1,h2⟩ | ⟨h1,h2⟩
 ·exact .of_left (intBits_le_64 h1 h2)
 ·exact .of_right (intBits_le_64 h1 h2)
theorem yf4 : OpR X (binaryOp .Add) (rI0 fun i j=>.int (i + j)):=z5x fun _ _ _ _ _ _ _ q=>add_int q
theorem ygh : OpR X (binaryOp .Sub) (rI0 fun i j=>.int (i - j)):=z5x fun _ _ _ _ _ _ _ q=>sub_int q
theorem yf7 : OpR X (binaryOp .FloorDiv) (rI znt fun i j=>.int (i / j)):=opI fun i j _ _ _ _ _ hc q=>by
 have h1 : (0 : Int) < j:=hc.1;have h2 : j < 1073741824:=hc.2;exact floordiv_int (by omega) (by rw [Int.fdiv_eq_ediv_of_nonneg i (by omega)]; exact q) (.inl (PyProof.noPylong_small (by omega)))
theorem ygc : OpR X (binaryOp .Mod) (rI (fun _ j=>0 < j) fun i j=>.int (i % j)):=opI fun i j _ _ _ _ _ hc q=>by
 have h1 : (0 : Int) < j:=hc;exact mod_int' (by omega) (by rw [Int.fmod_eq_emod_of_nonneg i (by omega)]; exact q)
theorem ygg : OpR X (binaryOp .Pow) (rI znv fun i j=>.int (i ^ j.toNat)):=opI fun _ _ _ _ _ _ _ hc q=>pow_int_small hc.1 hc.2.1 hc.2.2 q
theorem unI {f:Value->Sem Value} {g:Int->Int}
  (rule:∀ (i:Int) (t:Tok) (s:Shared) (Q:PRS) (E:PRS),Q (.int (g i) s.toks) { s with toks:=s.toks + 1 }->wpAny @1 X.A (f (.int i t)) Q E s) :
  UnR X f (rU fun i=>.int (g i)):=by
 intro pins s σ H x v Q I rx h;obtain ⟨i,rfl,q⟩:=h;obtain ⟨t,rfl⟩:=rx;exact rule i t s _ _ ⟨.int (g i),H,I.tok _,⟨_,rfl⟩,q⟩
theorem ylo : UnR X (unaryOp .USub) (rU fun i=>.int (-i)):=unI fun _ _ _ _ _ q=>neg_int q
noncomputable def z0o : V->V->Bool
 | .non,.non=>true | .non,.int _=>true | .int _,.non=>true | .non,.bl _=>true | .bl _,.non=>true | .non,.str _=>true | .str _,.non=>true
 | .int _,.int _=>true | .bl _,.bl _=>true | .str _,.str _=>true | .byt _,.byt _=>true
 | .int _,.str _=>true | .str _,.int _=>true | .bl _,.str _=>true | .str _,.bl _=>true
 | _,_=>false
def rEq : R2:=fun x y H Q=>z0o x y=true/\Q (.bl (decide (x=y))) H
def rNe : R2:=fun x y H Q=>z0o x y=true/\Q (.bl (!decide (x=y))) H
theorem zv9 {i:Int} : decide (V.int i=V.int j)=(i==j):=by
 rw [Bool.eq_iff_iff];simp
theorem zv8 {i j:Bool} : decide (V.bl i=V.bl j)=(i==j):=by
 rw [Bool.eq_iff_iff];simp
theorem zwa {i j:Str} : decide (V.str i=V.str j)=(i==j):=by
 rw [Bool.eq_iff_iff];simp
theorem z2j {i j:Array UInt8} : decide (V.byt i=V.byt j)=(i.toList==j.toList):=by
 rw [Bool.eq_iff_iff];cases i;cases j;simp
theorem zco {s:Shared} {Q:VK} {k k':Bool} (I:Inv X pins σ H s) (q:Q (.bl k) H) (e:k=k') : EP X pins σ Q (.bool k') s:=by
 subst e;exact ⟨.bl k,H,I,rfl,q⟩
theorem yf6 : OpR X (compareOp .Eq) rEq:=by
 intro pins s σ H x y v u Q I rx ry h;obtain ⟨hs,q⟩:=h
 cases x with
 | non =>
  cases rx
  cases y with
  | non=>cases ry; exact PySem.EqNone.eq_none_none (zco I q (by simp))
  | bl j=>cases ry; exact PySem.EqNone.eq_none_bool (zco I q (by simp))
  | int j=>obtain ⟨t',rfl⟩:=ry; exact PySem.EqNone.eq_none_int (zco I q (by simp))
  | str j=>obtain ⟨t',rfl⟩:=ry; exact PySem.EqNone.eq_none_str (zco I q (by simp))
  | _=>exact absurd (show false=true from hs) fq
 | bl i =>
  cases rx
  cases y with
  | non=>cases ry; exact PySem.EqNone.eq_bool_none (zco I q (by simp))
  | bl j=>cases ry; exact eq_bool (zco I q zv8)
  | str j=>obtain ⟨t',rfl⟩:=ry; exact PySem.EqMixed.eq_bool_str (zco I q (by simp))
  | _=>exact absurd (show false=true from hs) fq
 | int i =>
  obtain ⟨t,rfl⟩:=rx
  cases y with
  | non=>cases ry; exact PySem.EqNone.eq_int_none (zco I q (by simp))
  | int j=>obtain ⟨t',rfl⟩:=ry; exact eq_int (zco I q zv9)
  | str j=>obtain ⟨t',rfl⟩:=ry; exact PySem.EqMixed.eq_int_str (zco I q (by simp))
  | _=>exact absurd (show false=true from hs) fq
 | str i =>
  obtain ⟨t,rfl⟩:=rx
  cases y with
  | non=>cases ry; exact PySem.EqNone.eq_str_none (zco I q (by simp))
  | bl j=>cases ry; exact PySem.EqMixed.eq_str_bool (zco I q (by simp))
  | int j=>obtain ⟨t',rfl⟩:=ry; exact PySem.EqMixed.eq_str_int (zco I q (by simp))
  | str j=>obtain ⟨t',rfl⟩:=ry; exact eq_str (zco I q zwa)
  | _=>exact absurd (show false=true from hs) fq
 | byt i =>
  obtain ⟨t,rfl⟩:=rx
  cases y with
  | byt j=>obtain ⟨t',rfl⟩:=ry; exact W.eq_bytes (zco I q z2j)
  | _=>exact absurd (show false=true from hs) fq
 | _=>cases y <;> exact absurd (show false=true from hs) fq
theorem yge : OpR X (compareOp .NotEq) rNe:=by
 intro pins s σ H x y v u Q I rx ry h;obtain ⟨hs,q⟩:=h
 cases x with
 | non =>
  cases rx
  cases y with
  | non=>cases ry; exact PySem.EqNone.ne_none_none (zco I q (by simp))
  | bl j=>cases ry; exact PySem.EqNone.ne_none_bool (zco I q (by simp))
  | int j=>obtain ⟨t',rfl⟩:=ry; exact PySem.EqNone.ne_none_int (zco I q (by simp))
  | str j=>obtain ⟨t',rfl⟩:=ry; exact PySem.EqNone.ne_none_str (zco I q (by simp))
  | _=>exact absurd (show false=true from hs) fq
 | bl i =>
  cases rx
  cases y with
  | non=>cases ry; exact PySem.EqNone.ne_bool_none (zco I q (by simp))
  | bl j=>cases ry; exact ne_bool (zco I q (congrArg not zv8))
  | str j=>obtain ⟨t',rfl⟩:=ry; exact PySem.EqMixed.ne_bool_str (zco I q (by simp))
  | _=>exact absurd (show false=true from hs) fq
 | int i =>
  obtain ⟨t,rfl⟩:=rx
  cases y with
  | non=>cases ry; exact PySem.EqNone.ne_int_none (zco I q (by simp))
  | int j=>obtain ⟨t',rfl⟩:=ry; exact ne_int (zco I q (congrArg not zv9))
  | str j=>obtain ⟨t',rfl⟩:=ry; exact PySem.EqMixed.ne_int_str (zco I q (by simp))
  | _=>exact absurd (show false=true from hs) fq
 | str i =>
  obtain ⟨t,rfl⟩:=rx
  cases y with
  | non=>cases ry; exact PySem.EqNone.ne_str_none (zco I q (by simp))
  | bl j=>cases ry; exact PySem.EqMixed.ne_str_bool (zco I q (by simp))
  | int j=>obtain ⟨t',rfl⟩:=ry; exact PySem.EqMixed.ne_str_int (zco I q (by simp))
  | str j=>obtain ⟨t',rfl⟩:=ry; exact ne_str (zco I q (congrArg not zwa))
  | _=>exact absurd (show false=true from hs) fq
 | byt i =>
  obtain ⟨t,rfl⟩:=rx
  cases y with
  | byt j=>obtain ⟨t',rfl⟩:=ry; exact W.ne_bytes (zco I q (congrArg not z2j))
  | _=>exact absurd (show false=true from hs) fq
 | _=>cases y <;> exact absurd (show false=true from hs) fq
theorem ygb : OpR X (compareOp .Lt) (rI0 fun i j=>.bl (decide (i < j))):=zya fun _ _ _ _ _ _ _ q=>lt_int q
theorem yga : OpR X (compareOp .LtE) (rI0 fun i j=>.bl (decide (i<=j))):=zya fun _ _ _ _ _ _ _ q=>le_int q
theorem yf8 : OpR X (compareOp .Gt) (rI0 fun i j=>.bl (decide (j < i))):=zya fun _ _ _ _ _ _ _ q=>gt_int q
variable {op:CmpOp}
theorem ztn (b:Expr) (h:op≠.In:=by decide) (h2:op≠.NotIn:=by decide) : behindInMarks op b=false:=by
 have e1 : (op==CmpOp.In)=false:=by cases op <;> first | rfl | exact absurd rfl h
 have e2 : (op==CmpOp.NotIn)=false:=by cases op <;> first | rfl | exact absurd rfl h2
 cases b <;> simp [behindInMarks,e1,e2]
variable {r:R2}
theorem z56 (ho:OpR X (compareOp op) r) (ha:PE X a ta) (hb:PE X b tb) (hm:behindInMarks op b=false) : PE X (.Compare a [op] [b] pos) (tOp r ta tb):=by
 intro pins s σ H Q I h;exact wpAny_Compare1 (zrj ha hb I h fun v u s2 x y H2 I2 rx ry q=>ho pins s2 σ H2 x y v u Q I2 rx ry q) hm
def yk5 (t:TE) : TT:=fun σ H Q=>t σ H fun x H'=>∃ k,x=.bl k/\Q k H'
theorem z6n (ho:OpR X (compareOp op) r) (ha:PE X a ta) (hb:PE X b tb) (hm:behindInMarks op b=false) : PT X (.Compare a [op] [b] pos) (yk5 (tOp r ta tb)):=by
 intro pins s σ H Q I h
 refine wpAny_isTrue_Compare1 (thn (ha pins s σ H _ I h) fun v s1 ⟨x,H1,I1,r1,q1⟩=>thn (hb pins s1 σ H1 _ I1 q1) fun u s2 ⟨y,H2,I2,r2,q2⟩ =>
  thn (ho pins s2 σ H2 x y v u _ I2 r1 r2 q2) fun c s3 ⟨z,H3,I3,r3,k,e,q3⟩=>?_) hm
 subst e;cases r3;exact wpAny_truthy_bool ⟨H3,I3,q3⟩
def ykn (r r':R2) (ta tb tc:TE) : TE:=fun σ H Q=>ta σ H fun x H1=>tb σ H1 fun y H2=>r x y H2 fun z H3=>∃ k,z=.bl k /\
 (if k=true then tc σ H3 fun w' H4=>r' y w' H4 Q else Q (.bl false) H3)
variable {tc:TE} {op':CmpOp} {r':R2}
theorem ygt (ho:OpR X (compareOp op) r) (ho':OpR X (compareOp op') r') (ha:PE X a ta) (hb:PE X b tb) (hc:PE X c tc)
  (hm:lastMarks [op,op'] [b,c]=false:=by with_unfolding_all rfl) : PE X (.Compare a [op,op'] [b,c] pos) (ykn r r' ta tb tc):=by
 intro pins s σ H Q I h
 refine Compare_chain (thn (ha pins s σ H _ I h) fun v s1 ⟨x,H1,I1,r1,q1⟩=>chain_link (thn (hb pins s1 σ H1 _ I1 q1) fun u s2 ⟨y,H2,I2,r2,q2⟩ =>
  thn (ho pins s2 σ H2 x y v u _ I2 r1 r2 q2) fun d s3 ⟨z,H3,I3,r3,k,e,q3⟩=>?_)) hm
 subst e;cases r3;refine wpAny_truthy_bool ?_
 cases k with
 | false=>exact ite_ff ⟨.bl false,H3,I3,rfl,q3⟩
 | true=>exact ite_tt (chain_last (thn (hc pins s3 σ H3 _ I3 q3) fun w' s4 ⟨z',H4,I4,r4,q4⟩=>ho' pins s4 σ H4 y z' u w' Q I4 r2 r4 q4))
def zvf (K:W.Frag) (x:V) (H:Hp) (k:Bool) : Prop :=
 match x with
 | .non=>k=false
 | .bl b=>k=b
 | .int i=>k=(i != 0)
 | .str y=>y.length<=sizeLine/\k=((y.length : Int) != 0)
 | .byt y=>y.size<=sizeLine/\k=((y.size : Int) != 0)
 | .ref p=>(∃ xs,SqL K H p xs/\k=!xs.isEmpty)\/(∃ xs,SqT K H p xs/\k=!xs.isEmpty)
 | _=>False
theorem z3y {its:LVa} (r:zay xs its) : (!its.toArray.isEmpty)=!xs.isEmpty:=by
 cases r <;> simp
theorem zme : (sizeLine:Nat) < 2 ^ 63:=by rw [sizeLine_eq]; decide
theorem ylb : z9o X (fun x H Q=>∃ k,zvf X.K x H k/\Q k H):=by
 intro pins s σ H x v Q I rx h;obtain ⟨k,e,q⟩:=h;have hl:=zme;have hs : sizeLine=16777216:=sizeLine_eq
 cases x with
 | non =>
  cases rx;have e' : k=false:=e;subst e'
  exact truthy_none ⟨H,I,q⟩
 | bl b =>
  cases rx;have e' : k=b:=e;subst e'
  exact wpAny_truthy_bool ⟨H,I,q⟩
 | int i =>
  obtain ⟨t,rfl⟩:=rx;have e' : k=(i != 0):=e;subst e'
  exact PySem.P.truthy_int ⟨H,I,q⟩
 | str y =>
  obtain ⟨t,rfl⟩:=rx;obtain ⟨hy,e'⟩ : y.length<=sizeLine/\k=((y.length : Int) != 0):=e;subst e'
  exact PySem.P.truthy_str (by omega) ⟨H,I.tok _,q⟩
 | byt y =>
  obtain ⟨t,rfl⟩:=rx;obtain ⟨hy,e'⟩ : y.size<=sizeLine/\k=((y.size : Int) != 0):=e;subst e'
  exact W.truthy_bytes (by omega) ⟨H,I.tok _,q⟩
 | ref p =>
  cases rx;have e' : (∃ xs,SqL X.K H p xs/\k=!xs.isEmpty)\/(∃ xs,SqT X.K H p xs/\k=!xs.isEmpty):=e
  rcases e' with ⟨xs,hx,e'⟩ | ⟨xs,hx,e'⟩
  ·subst e';obtain ⟨its,r,pl,hz⟩:=I.list hx;have hlen:=r.length;exact wpAny_truthy_list pl.isList (by simp only [size_toArray]; omega) ⟨H,I.tok _,by rw [z3y r]; exact q⟩
  ·subst e';obtain ⟨its,r,pl,hz⟩:=I.tuple hx;have hlen:=r.length
   exact truthy_tuple pl (by simp only [size_toArray]; omega) ⟨H,I.tok _,by rw [z3y r]; exact q⟩
 | _=>exact (show False from e).elim
theorem z6p (ha:PE X a ta) (he:∀ whole,isTrue a X.env whole=(do let v <- whole; standAt a.pos; holding [v] (truthy v))) :
  PT X a (fun σ H Q=>ta σ H fun x H'=>∃ k,zvf X.K x H' k/\Q k H'):=by
 intro pins s σ H Q I h;exact isTrue_plain (thn (ha pins s σ H _ I h) fun v s1 ⟨x,H1,I1,r1,q1⟩=>ylb pins s1 σ H1 x v Q I1 r1 q1) (he _)
theorem yf5 : OpR X (binaryOp .Add) (fun x y H Q=>∃ i j,x=.str i/\y=.str j/\i.length + j.length<=sizeLine/\Q (.str (i++j)) H):=by
 intro pins s σ H x y v u Q I rx ry h;obtain ⟨i,j,rfl,rfl,hz,q⟩:=h;obtain ⟨t,rfl⟩:=rx;obtain ⟨t',rfl⟩:=ry;exact add_str (fun t' tk=>⟨.str (i++j),H,I.tok _,⟨_,rfl⟩,q⟩) hz
theorem ydi : OpR X (inplaceOp .Add) (fun x y H Q=>∃ i j,x=.str i/\y=.str j/\i.length + j.length<=sizeLine/\Q (.str (i++j)) H):=by
 intro pins s σ H x y v u Q I rx ry h;obtain ⟨i,j,rfl,rfl,hz,q⟩:=h;obtain ⟨t,rfl⟩:=rx;obtain ⟨t',rfl⟩:=ry;exact iadd_str (fun t' tk=>⟨.str (i++j),H,I.tok _,⟨_,rfl⟩,q⟩) hz
def z1d (b:Expr) : Prop:=∀ o i,subscripted b false o i=operate [o,i] (getItem o i)
theorem yg0 (ha:PE X a ta) (hb:PE X b tb) (hs:z1d b) :
  PE X (.Subscript a b pos) (tOp (fun x y H Q=>∃ z i c,x=.str z/\y=.int i/\0<=i/\i < 2 ^ 63/\i < z.length/\z.cps[i.toNat]?=some c/\Q (.str ⟨#[c]⟩) H) ta tb):=by
 intro pins s σ H Q I h;refine Subscript_ (zrj ha hb I h fun v u s2 x y H2 I2 rx ry q=>?_);obtain ⟨z,i,c,rfl,rfl,h0,h63,h1,hc,q⟩:=q;obtain ⟨t,rfl⟩:=rx;obtain ⟨t',rfl⟩:=ry;have e : seqIndex? i z.length=some i.toNat:=PySem.StrLaws.seqIndex_nonneg h0 h1
 exact tail_any (typeIs_str s2 z t) slot_str_getitem.lookup (getItem_str (c:=c) (by
  have e1 : decide (i < -(2 ^ 63 : Int))=false:=decide_eq_false (by omega);have e2 : decide (i ≥ 2 ^ 63)=false:=decide_eq_false (by omega)
  rw [e1,e2] <;> rfl) (by rw [e]; exact hc) ⟨.str ⟨#[c]⟩,H2,I2.tok _,⟨_,rfl⟩,q⟩) (hs _ _)
theorem zns {x:V} (r:zay [x] us) : ∃ u,us=[u]/\za7 x u:=by
 cases r with
 | cons r1 r2=>cases r2; exact ⟨_,rfl,r1⟩
theorem zqj {x:V} (r:zay [x,y] us) : ∃ u w',us=[u,w']/\za7 x u/\za7 y w':=by
 cases r with
 | cons r1 r2 =>
  cases r2 with
  | cons r3 r4=>cases r4; exact ⟨_,_,rfl,r1,r3⟩
theorem yak : zgg X (.type "str") (fun xs H Q=>∃ i,xs=[.int i]/\i.natAbs.log2 < 1920/\Q (.str (toString i)) H):=by
 intro pins s σ H xs us Q I r h;obtain ⟨i,rfl,hz,q⟩:=h;obtain ⟨u,rfl,t,rfl⟩:=zns r;exact PySem.P.str_of_int hz ⟨.str _,H,I.tok _,⟨_,rfl⟩,q⟩
structure zj5 (h:Heap) (x dx C:Addr) (mA:MGT) : Prop where
 obj : h.get? x=some (W.instObj C dx)
 ns : h.Ns1 dx mA
 ne : dx≠x
variable {mA:MGT}
theorem yed {dx:Addr} (n:h.Ns1 dx mA) : ∃ od,h.get? dx=some od/\∀ name,W.lookIn name od=some (mA name):=by
 obtain ⟨o,es,ep,ho,hd,hk,_,hm⟩:=n;refine ⟨o,ho,fun name=>?_⟩;have e:=hm name;unfold nsFind findBy at e;rw [<- Array.find?_toList] at e;unfold W.lookIn;rw [hd];dsimp only;split
 ·rename_i y q;rw [q] at e;exact congrArg some e
 ·rename_i q;rw [q] at e
  have a : es.toList.any (·.refKey)=false:=by
   rw [any_eq_false];intro y hy;obtain ⟨z,t,hkey⟩:=hk y (Array.mem_toList_iff.mp hy);simp [DictEntry.refKey,hkey]
  have a' : ¬ es.toList.any (·.refKey)=true:=by rw [a]; exact fq
  rw [if_neg a'];exact congrArg some e
theorem zj5.look {x dx C:Addr} (I:zj5 h x dx C mA) : ∃ od,W.InstAt h x (W.instObj C dx) C (some od)/\∀ name,W.lookIn name od=some (mA name) :=
 let ⟨od,ho,hl⟩:=yed I.ns
 ⟨od,⟨I.obj,rfl,rfl,ho⟩,hl⟩
variable {prog:Program} {x C:Addr} {name:Str} {v:Value}
section
variable {s:Shared} {dx:Addr}
theorem ycv {expr:Bool} {Q:PRS} (X:K.In s.heap) (I:zj5 s.heap x dx C mA) (hg:W.plainGet K C name=true) (hh:W.hasDictIn K C=true)
  (ha:W.findIn K (.ref C) name=some none) (hv:mA name=some v) (hv':W.handedIn v=true) (h:Q v { s with toks:=s.toks + 1 }) :
  wpAny (model prog w) A (getAttr (.ref x) name expr) Q E s:=by
 obtain ⟨od,J,hl⟩:=I.look;exact W.get_value X J (W.plainGet_of hg).1 (W.findObj_own hh ha rfl (by rw [hl,hv])) hv' h
end
variable {f:Addr} {pl:Sem Bool}
section
variable {s:Shared} {dx:Addr}
theorem ycw {Q:Value×LVa->Shared->Prop} (X:K.In s.heap) (I:zj5 s.heap x dx C mA) (hg:W.plainGet K C name=true)
  (hf:W.findIn K (.ref C) name=some (some (.ref f))) (ht:W.isFn K (.ref f)=true) (hv:mA name=none) (h:Q (.ref f,[.ref x]) s) :
  wpAny (model prog w) A (getMethod (.ref x) name pl) Q E s:=by
 obtain ⟨od,J,hl⟩:=I.look;exact W.method_fn X J (W.plainGet_of hg).1 (W.plainGet_of hg).2 hf (beq_iff_eq.mp ht) (by show (W.lookIn name od).map (·.isSome)=some false; rw [hl,hv]; rfl) h
end
section
variable {s:Shared} {dx:Addr}
theorem yj2 {ns:LSt} (X:K.In s.heap) (I:zj5 s.heap x dx C mA)
  (hs:W.findIn K (.ref C) "__setattr__"=some (some (.builtin "object.__setattr__"))) (hp:W.plainOver K C=true) (ht:W.takerIn K C name=some none) (hh:W.hasDictIn K C=true)
  (hw:PySem.Within mA ns) (hsz:ns.length<=sizeLine)
  (h:∀ h',zj5 h' x dx C (fun y=>if y=name then some v else mA y)->Heap.SameBut dx s.heap h'->Q () { s with heap:=h',toks:=s.toks + 2 }) :
  wpAny (model prog w) A (setAttr (.ref x) name v) Q E s:=by
 obtain ⟨od,J,hl⟩:=I.look
 refine W.set_plain X J hs (W.osa_open (s:={ s with toks:=s.toks + 1 }) (r:=none) X J hp ht fun b=>?_)
 obtain ⟨cd,hc,hd'⟩:=W.any_some hh;have hx : s.heap.get? x=some ⟨.ref C,some dx,.plain,#[]⟩:=I.obj
 refine wpAny_bind (wpAny_pure (wpAny_bind (wpAny_bind (wpAny_loadPart hx (wpAny_bind (W.Looks.here (s:={ s with toks:=s.toks + 1 }) (W.looks_clsIn X hc) ?_))))))
 rw [hd'];refine wpAny_pure (a:=some dx) (wpAny_bind (wpAny_pure (wpAny_bind ?_)))
 refine wpAny_nsSet1 (s:={ s with toks:=s.toks + 1 }) I.ns fun h' hn2 hs2=>?_
 obtain ⟨oD,esD,epD,hoD,hdD,hcD⟩:=hn2.count (PySem.Within.cons name v hw);refine wpAny_bind (wpAny_lookBehind hoD (by rw [hdD]; exact pastItsLine_dict (Nat.le_trans hcD (by rw [length_cons]; omega))) ?_);exact wpAny_pure (h _ ⟨(hs2.2 _ (Ne.symm I.ne)).trans I.obj,hn2,I.ne⟩ hs2)
end
variable {R:Result->Shared->Prop} {kw:List (Str×Value)}
section
variable {s:Shared}
theorem yeo {vs:LVa} (X:K.In s.heap) (hm:W.makesIn K C=true)
  (hi:W.findIn K (.ref C) "__init__"=some (some (.ref f))) (hf:W.typeIn K (.ref f)=some (.type "function"))
  (h:codeAny (model prog w) (A.under (.builtin "type.__call__" ⟨.ref C::vs,kw⟩)) (.call (.ref f) ⟨.ref (s.heap.objs.size + 1)::vs,kw⟩) (W.InitBack (s.heap.objs.size + 1) R)
   { s with heap:=(s.heap.push W.emptyDict).push (W.instObj C s.heap.objs.size) }) :
  codeAny (model prog w) A (.call (.ref C) ⟨vs,kw⟩) R s:=by
 obtain ⟨hh,g,d,t,os⟩:=s;exact W.make_core (W.makes_of X hm) (W.looks_findIn X hi) (fun self=>W.bind_fn X self hf) (.inl rfl) h
end
noncomputable def zdu (f:Str) (v:V) : List (Str×V)->List (Str×V)
 | []=>[(f,v)]
 | (g,x)::r=>if g=f then (g,v)::r else (g,x)::zdu f v r
theorem z4o (f g:Str) (v:V) : ∀ fs : List (Str×V),(zdu f v fs).lookup g=if g=f then some v else fs.lookup g
 | []=>by
  show List.lookup g [(f,v)]=_
  by_cases h : g=f
  ·have hb : (g==f)=true:=beq_iff_eq.mpr h;simp only [List.lookup,hb,if_pos h]
  ·have hb : (g==f)=false:=beq_eq_false_iff_ne.mpr h
   simp only [List.lookup,hb,if_neg h]
 | (k,x)::r=>by
  have ih:=z4o f g v r;rw [show zdu f v ((k,x)::r)=(if k=f then (k,v)::r else (k,x)::zdu f v r) from rfl]
  by_cases hk : k=f
  ·rw [if_pos hk]
   by_cases h : g=k
   ·have hb : (g==k)=true:=beq_iff_eq.mpr h;simp only [List.lookup,hb,if_pos (h.trans hk)]
   ·have hb : (g==k)=false:=beq_eq_false_iff_ne.mpr h;simp only [List.lookup,hb,if_neg (fun e:g=f=>h (e.trans hk.symm))]
  ·rw [if_neg hk]
   by_cases h : g=k
   ·have hb : (g==k)=true:=beq_iff_eq.mpr h;simp only [List.lookup,hb,if_neg (fun e:g=f=>hk (h.symm.trans e))]
   ·have hb : (g==k)=false:=beq_eq_false_iff_ne.mpr h;simp only [List.lookup,hb];exact ih
theorem zw7 (f:Str) (v:V) : ∀ fs : List (Str×V),f∈(zdu f v fs).map (·.1)/\∀ g,g∈fs.map (·.1)->g∈(zdu f v fs).map (·.1)
 | []=>⟨by simp [zdu],fun g h=>by simp at h⟩
 | (k,x)::r=>by
  obtain ⟨i1,i2⟩:=zw7 f v r;rw [show zdu f v ((k,x)::r)=(if k=f then (k,v)::r else (k,x)::zdu f v r) from rfl]
  by_cases hk : k=f
  ·rw [if_pos hk];subst hk;exact ⟨by simp,fun g h=>by simpa using h⟩
  ·rw [if_neg hk];refine ⟨?_,fun g h=>?_⟩
   ·rw [map_cons];exact mem_cons_of_mem _ i1
   ·rw [map_cons] at h ⊢
    rcases mem_cons.mp h with e | e
    ·exact mem_cons.mpr (.inl e)
    ·exact mem_cons_of_mem _ (i2 g e)
theorem z4l (f:Str) (v:V) : ∀ fs : List (Str×V),(zdu f v fs).length<=fs.length + 1
 | []=>by simp [zdu]
 | (k,x)::r=>by
  have ih:=z4l f v r;rw [show zdu f v ((k,x)::r)=(if k=f then (k,v)::r else (k,x)::zdu f v r) from rfl]
  by_cases hk : k=f
  ·rw [if_pos hk,length_cons,length_cons]; omega
  ·rw [if_neg hk,length_cons,length_cons]; omega
variable {v:V}
theorem zht.some_of {o:Option Value} (r:zht (some v) o) : ∃ u,o=some u/\za7 v u:=by
 cases o with
 | none=>exact (show False from r).elim
 | some u=>exact ⟨u,rfl,r⟩
theorem zht.none_of {o:Option Value} (r:zht none o) : o=none:=by
 cases o with
 | none=>rfl
 | some u=>exact (show False from r).elim
variable {u:Value}
theorem yc0 (r:za7 v u) : W.handedIn u=true:=by
 cases v with
 | non=>cases (show u=Value.none from r); rfl
 | bl b=>cases (show u=Value.bool b from r); rfl
 | int i=>obtain ⟨t,e⟩:=(show ∃ t,u=Value.int i t from r); cases e; rfl
 | str x=>obtain ⟨t,e⟩:=(show ∃ t,u=Value.str x t from r); cases e; rfl
 | byt b=>obtain ⟨t,e⟩:=(show ∃ t,u=Value.bytes b t from r); cases e; rfl
 | flt b=>obtain ⟨t,e⟩:=(show ∃ t,u=Value.float b t from r); cases e; rfl
 | ref a=>cases (show u=Value.ref a from r); rfl
 | ty n=>cases (show u=Value.type n from r); rfl
variable {a:Addr} {fs:List (Str×V)}
section
variable {dx:Addr}
theorem zsi (hok:HOk P w H h) (e:H a=some (.ins C dx fs)) : ∃ mA,zj5 h a dx C mA/\(∀ f,zht (fs.lookup f) (mA f))/\PySem.Within mA (fs.map (·.1))/\fs.length<=1000/\H dx=some (.own a):=by
 obtain ⟨d,z,ne,ob,mA,n,r,q⟩:=(show zd5 P w H h a (.ins C dx fs) from hok a _ e);exact ⟨mA,⟨ob,n,ne⟩,r,q,z,d⟩
end
structure Cls (K:W.Frag) (C:Addr) : Prop where
 pg : W.plainGet K C Str.empty=true
 hd : W.hasDictIn K C=true
 po : W.plainOver K C=true
 sa : W.findIn K (.ref C) "__setattr__"=some (some (.builtin "object.__setattr__"))
theorem Cls.get (c:Cls K C) (f:Str) : W.plainGet K C f=true:=c.pg
def zgh (K:W.Frag) (C:Addr) (f:Str) : Prop:=W.findIn K (.ref C) f=some none
variable {f:Str}
theorem zgh.taker (n:zgh K C f) : W.takerIn K C f=some none:=by
 unfold W.takerIn;rw [show W.findIn K (.ref C) f=some none from n];rfl
structure znw (K:W.Frag) (C:Addr) (m:Str) (f:Addr) : Prop where
 at_ : W.findIn K (.ref C) m=some (some (.ref f))
 fn : W.isFn K (.ref f)=true
 kp : W.keepIn K (.ref f)=true
section
variable {s:Shared} {dx:Addr}
theorem z3m {b:Bool} {Q:PRS} (I:Inv X pins σ H s) (e:H a=some (.ins C dx fs)) (c:Cls X.K C) (n:zgh X.K C f) (l:fs.lookup f=some v)
  (h:∀ u s',Inv X pins σ H s'->za7 v u->Q u s') : wpAny @1 A (getAttr (.ref a) f b) Q E s:=by
 obtain ⟨mA,O,r,_,_,_⟩:=zsi I.hok e;obtain ⟨u,hu,ru⟩:=zht.some_of (v:=v) (o:=mA f) (by rw [<- l]; exact r f);exact ycv I.kIn O (c.get f) c.hd n hu (yc0 ru) (h u _ (I.tok _) ru)
end
variable {m:Str}
section
variable {s:Shared} {dx:Addr}
theorem z3n {g:Addr} {Q:Value×LVa->Shared->Prop} (I:Inv X pins σ H s) (e:H a=some (.ins C dx fs)) (c:Cls X.K C) (k:znw X.K C m g) (l:fs.lookup m=none)
  (h:Q (.ref g,[.ref a]) s) : wpAny @1 A (getMethod (.ref a) m pl) Q E s:=by
 obtain ⟨mA,O,r,_,_,_⟩:=zsi I.hok e;have hn : mA m=none:=zht.none_of (by rw [<- l]; exact r m);exact ycw I.kIn O (c.get m) k.at_ k.fn hn h
end
section
variable {s:Shared} {dx:Addr}
theorem z8c (I:Inv X pins σ H s) (e:H a=some (.ins C dx fs)) (c:Cls X.K C) (n:zgh X.K C f) (hl:fs.length < 1000) (ry:za7 y u)
  (h:∀ s',Inv X pins σ (upd H a (.ins C dx (zdu f y fs))) s'->Q () s') : wpAny @1 A (setAttr (.ref a) f u) Q E s:=by
 obtain ⟨mA,O,r,wi,_,ho⟩:=zsi I.hok e;have hz : (fs.map (·.1)).length<=sizeLine:=by rw [length_map,sizeLine_eq]; omega
 refine yj2 I.kIn O c.sa c.po n.taker c.hd wi hz fun h' O' sb=>h _ ?_;have hd : ∃ o,h'.get? dx=some o:=let ⟨o,_,_,e',_⟩:=O'.ns; ⟨o,e'⟩;refine I.write (x:=a) (e:=dx) (by rw [e]; exact True.intro) (.inr ho) (fun b q hb z=>(sb.2 b hb).trans z) hd ?_;refine ⟨by rw [zbs O.ne]; exact ho,?_,O.ne,O'.obj,_,O'.ns,fun g=>?_,fun g hg=>?_⟩
 ·have:=z4l f y fs; omega
 ·show zht ((zdu f y fs).lookup g) (if g=f then some u else mA g);rw [z4o]
  by_cases q : g=f
  ·rw [if_pos q,if_pos q]; exact ry
  ·rw [if_neg q,if_neg q]; exact r g
 ·by_cases q : g=f
  ·rw [q]; exact (zw7 f y fs).1
  ·refine (zw7 f y fs).2 g (wi g fun z=>hg ?_);show (if g=f then some u else mA g)=none;rw [if_neg q]; exact z
end
section
variable {s:Shared}
theorem Inv.made (I:Inv X pins σ H s) : Inv X pins σ (upd (upd H s.heap.objs.size (.own (s.heap.objs.size + 1))) (s.heap.objs.size + 1) (.ins C s.heap.objs.size []))
  { s with heap:=(s.heap.push W.emptyDict).push (W.instObj C s.heap.objs.size) }:=by
 have e1 : (s.heap.push W.emptyDict).get? s.heap.objs.size=some W.emptyDict:=Heap.get?_push_size s.heap rfl
 have e2 : ((s.heap.push W.emptyDict).push (W.instObj C s.heap.objs.size)).get? (s.heap.objs.size + 1)=some (W.instObj C s.heap.objs.size):=by
  have:=Heap.get?_push_size (s.heap.push W.emptyDict) (o:=W.instObj C s.heap.objs.size) rfl
  rwa [Heap.size_push] at this
 have e3 : (s.heap.push W.emptyDict).Ns s.heap.objs.size (fun _=>none):=⟨W.emptyDict,#[],_,e1,rfl,(fun e he=>absurd he (by simp)),fun _=>rfl⟩;have I1:=I.laid (a:=s.heap.objs.size) (o:=.own (s.heap.objs.size + 1)) (h':=s.heap.push W.emptyDict) (t':=s.toks) (fun b u q=>Heap.get?_push_of_some _ q) (Nat.le_refl _) ⟨_,e1⟩;refine I1.laid (a:=s.heap.objs.size + 1) (o:=.ins C s.heap.objs.size []) (t':=s.toks) (fun b u q=>Heap.get?_push_of_some _ q) (Nat.le_of_eq (Heap.size_push _ _)) ?_;have ne : s.heap.objs.size≠s.heap.objs.size + 1:=Nat.ne_of_lt (Nat.lt_succ_self _);refine ⟨by rw [zbs ne,zb8],Nat.zero_le _,ne,e2,fun _=>none,(Heap.Ns1.of_empty e3).at fun o q=>Heap.get?_push_of_some _ q,fun _=>True.intro,fun y hy=>absurd rfl hy⟩
end
variable {env:Env}
theorem z9w {s:Shared} {Q:PRS} (hb:attributeBase e f env (eval e env)=eval e env)
  (h:wpAny (model prog w) A (eval e env) (fun o s₁=>wpAny (model prog w) A (getAttr o f true) Q E s₁) E s) : wpAny (model prog w) A (eval (.Attribute e f pos) env) Q E s :=
 Attribute_any_ h (by rw [arm_eval_Attribute,hb])
def ykr (K:W.Frag) (ta:TE) (f:Str) : TE:=fun σ H Q=>ta σ H fun x H1=>∃ a C dx fs v,x=.ref a/\H1 a=some (.ins C dx fs)/\Cls K C/\zgh K C f/\fs.lookup f=some v/\Q v H1
def yjf (K:W.Frag) (ta tv:TE) (f:Str) : TS:=fun D σ H=>tv σ H fun y H1=>ta σ H1 fun x H2=>∃ a C dx fs,x=.ref a/\H2 a=some (.ins C dx fs)/\Cls K C/\zgh K C f/\fs.length < 1000 /\
 D.nx σ (upd H2 a (.ins C dx (zdu f y fs)))
def z9m (X:Cx) (op:Operator) (rd:V->V->Hp->VK->Prop) : Prop :=
 ∀ (pins:PNS) (s:Shared) (σ:St) (H:Hp) (x y:V) (u v:Value) (Q:VK),Inv X pins σ H s->za7 x u->za7 y v->rd x y H Q->wpAny @1 X.A (inplaceOp op u v) (EP X pins σ Q) X.xe s
def yjg (K:W.Frag) (ta tv:TE) (rd:V->V->Hp->VK->Prop) (f:Str) : TS:=fun D σ H=>ta σ H fun x H1=>∃ a C dx fs v,x=.ref a/\H1 a=some (.ins C dx fs)/\Cls K C/\zgh K C f/\fs.lookup f=some v /\
 tv σ H1 fun y H2=>rd v y H2 fun z H3=>∃ dx' fs',H3 a=some (.ins C dx' fs')/\fs'.length < 1000/\D.nx σ (upd H3 a (.ins C dx' (zdu f z fs')))
theorem ygv (he:PE X e ta) (hb:attributeBase e f X.env (eval e X.env)=eval e X.env) : PE X (.Attribute e f pos) (ykr X.K ta f):=by
 intro pins s σ H Q I h;refine z9w hb (thn (he pins s σ H _ I h) fun u s1 q_=>?_);obtain ⟨x,H1,I1,rx,a,C,dx,fs,v,ex,ea,c,n,l,q⟩:=q_;subst ex;obtain rfl : u=Value.ref a:=rx;exact z3m I1 ea c n l fun u' s2 I2 ru=>⟨v,H1,I2,ru,q⟩
variable {o value:Expr} {tv:TE}
theorem yhy (ha:PE X o ta) (hv:PE X value tv) (hs:swapsWith value (some (.Attribute o f pos')) pos.line X.env=pure false) : PS X (.Assign [.Attribute o f pos'] value pos) (yjf X.K ta tv f):=by
 intro pins s σ H D I h;refine plainObj_wpAny_Assign_Attribute (thn (hv pins s σ H _ I h) fun u s1 ⟨y,H1,I1,ry,q⟩=>thn (ha pins s1 σ H1 _ I1 q) fun ov s2 q_=>?_) hs;obtain ⟨x,H2,I2,rx,a,C,dx,fs,ex,ea,c,n,l,q2⟩:=q_;subst ex;obtain rfl : ov=Value.ref a:=rx;exact z8c I2 ea c n l ry fun s3 I3=>⟨σ,_,I3,q2⟩
variable {tpos:Pos}
theorem yhz {op:Operator} {rd:V->V->Hp->VK->Prop} (ha:PE X o ta) (hv:PE X value tv) (hop:z9m X op rd) : PS X (.AugAssign (.Attribute o f tpos) op value pos) (yjg X.K ta tv rd f):=by
 intro pins s σ H D I h;refine wpAny_AugAssign_AttributeAny (thn (ha pins s σ H _ I h) fun ov s1 q_=>?_);obtain ⟨x,H1,I1,rx,a,C,dx,fs,v,ex,ea,c,n,l,q⟩:=q_;subst ex;obtain rfl : ov=Value.ref a:=rx;refine z3m I1 ea c n l fun u s2 I2 ru=>thn (hv pins s2 σ H1 _ I2 q) fun w3 s3 ⟨y,H2,I3,ry,q3⟩=>thn (hop pins s3 σ H2 v y u w3 _ I3 ru ry q3) fun w4 s4 q_=>?_;obtain ⟨z,H3,I4,rz,dx',fs',ea',l',q4⟩:=q_;exact z8c I4 ea' c n l' rz fun s5 I5=>⟨σ,_,I5,q4⟩
inductive zgj (K:W.Frag) (H:Hp) : V->Value->Prop where
 | non : zgj K H .non (.type "NoneType")
 | bl (x:Bool) : zgj K H (.bl x) (.type "bool")
 | int (i:Int) : zgj K H (.int i) (.type "int")
 | str (x:Str) : zgj K H (.str x) (.type "str")
 | flt (x:UInt64) : zgj K H (.flt x) (.type "float")
 | lst {a:Addr} {xs:List V} (e:H a=some (.lst xs)) : zgj K H (.ref a) (.type "list")
 | frz {a:Addr} {o:Obj} {xs:List V} (e:H a=some (.frz o (.lst xs))) : zgj K H (.ref a) (.type "list")
 | tup {a:Addr} {xs:List V} (e:H a=some (.tup xs)) : zgj K H (.ref a) (.type "tuple")
 | ins {a C dx:Addr} {fs:List (Str×V)} (e:H a=some (.ins C dx fs)) (cl:Cls K C) (ha:W.findIn K (.ref C) "__class__"=some (some (.builtin "object.__class__")))
   (hn:W.specialIn K (.builtin "object.__class__") "__get__"=some (some (.builtin "getset_descriptor.__get__"))) (htk:W.takesIn K (.builtin "object.__class__")=some true)
   (hm:W.mroIn K C (.type "object")=some true) : zgj K H (.ref a) (.ref C)
variable {Q:PRS} {c:Value} {b:Bool}
section
variable {s:Shared}
theorem ydl {x:V} {t:Value} (I:Inv X pins σ H s) (rx:za7 x u) (ty:zgj X.K H x t) (e:W.kitOne X.K t c=some b) (h:∀ tk,Q (.bool b) { s with toks:=tk }) :
  wpAny @1 A (call (.builtin "isinstance") [u,c]) Q E s:=by
 cases ty with
 | non=>cases (show u=Value.none from rx); exact W.kia_one W.kitx_none I.kIn True.intro e (fun z=>nomatch z) h
 | bl y=>cases (show u=Value.bool y from rx); exact W.kia_one W.kitx_bool I.kIn True.intro e (fun z=>nomatch z) h
 | int i=>obtain ⟨t,q⟩:=(show ∃ t,u=Value.int i t from rx); cases q; exact W.kia_one W.kitx_int I.kIn True.intro e (fun z=>nomatch z) h
 | str y=>obtain ⟨t,q⟩:=(show ∃ t,u=Value.str y t from rx); cases q; exact W.kia_one W.kitx_str I.kIn True.intro e (fun z=>nomatch z) h
 | flt y=>obtain ⟨t,q⟩:=(show ∃ t,u=Value.float y t from rx); cases q; exact W.kia_one W.kitx_float I.kIn True.intro e (fun z=>nomatch z) h
 | @lst a xs ea =>
  cases (show u=Value.ref a from rx);obtain ⟨_,_,n,_,h1⟩:=(show zd5 X.prog X.w H s.heap a (.lst xs) from I.hok a _ ea)
  exact W.kia_one W.kitx_list I.kIn ⟨_,h1,rfl⟩ e (fun z=>nomatch z) h
 | @frz a ob xs ea =>
  cases (show u=Value.ref a from rx);obtain ⟨_,_,_,n,_,h1⟩:=(show zd5 X.prog X.w H s.heap a (.frz ob (.lst xs)) from I.hok a _ ea)
  exact W.kia_one W.kitx_list I.kIn ⟨_,h1,rfl⟩ e (fun z=>nomatch z) h
 | @tup a xs ea =>
  cases (show u=Value.ref a from rx);obtain ⟨_,_,_,p⟩:=(show zd5 X.prog X.w H s.heap a (.tup xs) from I.hok a _ ea);obtain ⟨o,h1,h2,_⟩:=p
  exact W.kia_one W.kitx_tuple I.kIn ⟨o,h1,h2⟩ e (fun z=>nomatch z) h
 | @ins a C dx fs ea cl ha hn htk hm =>
  cases (show u=Value.ref a from rx);obtain ⟨mA,O,_⟩:=zsi I.hok ea;obtain ⟨od,J,_⟩:=O.look;exact W.kia_one (W.kitx_own (cl.get _) cl.hd ha hn htk hm) I.kIn J e (fun z=>nomatch z) h
end
structure zbl (k:Nat) (A:Around) : Prop where
 hd : A.handled=none
 dp : A.depth + 3 * k + 5 < recursionLimit
 un : A.units + 16 * k + 200 < cLine
variable {j k:Nat}
theorem zbl.mono (r:zbl k A) (h:j<=k) : zbl j A:=⟨r.hd,by have:=r.dp; omega,by have:=r.un; omega⟩
theorem zbl.deeper (r:zbl (k + 1) A) (env:Env) : zbl k (A.deeper env) :=
 ⟨r.hd,by have:=r.dp; show A.depth + 1 + 3 * k + 5 < _; omega,by have:=r.un; show A.units + 3 + 16 * k + 200 < _; omega⟩
theorem yen : (A.under (.builtin "type.__call__" ⟨.ref C::us,kw⟩)).depth=A.depth + 1:=by
 first | rfl | simp [Around.under,Code.weight,Code.isCreation,Code.isGuard,Code.isCaller,Code.frames,Code.isFrame,guardIds]
theorem yep : (A.under (.builtin "type.__call__" ⟨.ref C::us,kw⟩)).units=A.units + 1:=by
 first | rfl | simp [Around.under,Code.cUnits,Code.frames,Code.isFrame]
theorem zbl.make (r:zbl (k + 1) A) (C:Addr) (us:LVa) (kw:List (Str×Value)) : zbl k (A.under (.builtin "type.__call__" ⟨.ref C::us,kw⟩)) :=
 ⟨r.hd,by have:=r.dp; rw [yen]; omega,by have:=r.un; rw [yep]; omega⟩
theorem zbl.depth (r:zbl k A) : A.depth < recursionLimit:=by have:=r.dp; omega
theorem zbl.units (r:zbl k A) : A.units + 64 < cLine:=by have:=r.un; omega
def ziv : TA:=fun _ H Q=>Q [] H
def zli (ta:TE) (tr:TA) : TA:=fun σ H Q=>ta σ H fun x H1=>tr σ H1 fun xs H2=>Q (x::xs) H2
theorem zcd : PA X [] ziv:=fun _ _ _ _ H Q I h=>Calls.spliced_nil ⟨[],H,I,.nil,h⟩
variable {t:TA}
theorem zbv (ha:PE X e te) (hr:PA X es t) (hs:StE X e es:=by rfl) : PA X (e::es) (zli te t):=by
 intro pos pins s σ H Q I h;rw [hs];show wpAny _ _ (spliced ((false,eval e X.env)::backTo pos (starEach es X.env))) _ _ s;refine Calls.spliced_cons (thn (ha pins s σ H _ I h) fun u s1 q_=>?_);obtain ⟨x,H1,I1,r1,q1⟩:=q_;exact thn (hr pos pins s1 σ H1 _ I1 q1) fun us s2 ⟨xs,H2,I2,r2,q2⟩=>⟨x::xs,H2,I2,.cons r1 r2,q2⟩
def yk6 (t:TA) : TE:=fun σ H Q=>t σ H fun xs H1=>xs.length<=sizeLine/\∀ p,H1 p=none->Q (.ref p) (upd H1 p (.tup xs))
def z8v (t:TA) : TE:=fun σ H Q=>t σ H fun xs H1=>xs.length<=sizeLine/\∀ p,H1 p=none->Q (.ref p) (upd H1 p (.lst xs))
theorem zua {x1} (h:PA X es t) : PE X (.Tuple es x1 pos) (yk6 t):=by
 intro pins s σ H Q I hq;refine wpAny_Tuple_spliced (thn (h pos pins s σ H _ I hq) fun us s1 ⟨xs,H1,I1,r,z,q⟩=>⟨by rw [<- r.length]; exact z,?_⟩);have hf : H1 s1.heap.objs.size=none:=I1.hok.fresh (Nat.le_refl _);refine ⟨.ref s1.heap.objs.size,upd H1 s1.heap.objs.size (.tup xs),I1.laid (t':=s1.toks) (fun b u e=>Heap.get?_push_of_some _ e) (Nat.le_refl _) ?_,rfl,q _ hf⟩;exact ⟨z,us,r,⟨_,Heap.get?_push_size _ rfl,rfl,_,rfl⟩⟩
theorem zm4 (h:PA X es t) : PE X (.List es pos) (z8v t):=by
 intro pins s σ H Q I hq;refine wpAny_List_spliced (thn (h pos pins s σ H _ I hq) fun us s1 ⟨xs,H1,I1,r,z,q⟩=>⟨by rw [<- r.length]; exact z,?_⟩);have hf : H1 s1.heap.objs.size=none:=I1.hok.fresh (Nat.le_refl _);refine ⟨.ref s1.heap.objs.size,upd H1 s1.heap.objs.size (.lst xs),I1.laid (t':=s1.toks) (fun b u e=>Heap.get?_push_of_some _ e) (Nat.le_refl _) ?_,rfl,q _ hf⟩;exact ⟨z,us,0,r,Heap.get?_push_size _ rfl⟩
noncomputable abbrev Sp:=List V->Hp->VK->XK->Prop
noncomputable abbrev CXT:=List Env->Hp->Shared->XK->PRS
structure zj3 (P:Program) (w:World) (K:W.Frag) (mg:MGT) (base:Heap) (A:Around) (outer:List Env) (s:Shared) (H:Hp) : Prop where
 frames : A.frames=some outer
 mod : Mod K mg base
 bs : ∀ b o,base.get? b=some o->s.heap.get? b=some o/\H b=none
 bsz : base.objs.size<=s.heap.objs.size
 funs : s.heap.FunFrames base outer
 frf : ∀ b∈frs outer,H b=none
 hok : HOk P w H s.heap
 bare : AllBare s.gens
def CE (outer:List Env) (P:Program) (w:World) (H:Hp) (s:Shared) (Q:VK) (u:Value) (s':Shared) : Prop :=
 ∃ v H',s'.os=s.os/\AllBare s'.gens/\Un (frs outer) [] H H' s.heap s'.heap/\HOk P w H' s'.heap/\za7 v u/\Q v H'
def CR (CX:CXT) (outer:List Env) (P:Program) (w:World) (H:Hp) (s:Shared) (Q:VK) (E:XK) (r:Result) (s':Shared) : Prop :=
 match r with
 | .ok (.ret u)=>CE outer P w H s Q u s'
 | .ok _=>False
 | .error e=>CX outer H s E e s'
structure zcn (P:Program) (w:World) (K:W.Frag) (mg:MGT) (base:Heap) (CX:CXT) (k:Nat) (f:Addr) (fd:FuncData) (ps:LSt) (sp:Sp) : Prop where
 len : ∀ vs H Q E,sp vs H Q E->vs.length=ps.length
 run : ∀ (A:Around) (outer:List Env) (s:Shared) (H:Hp) (args:Args) (us:LVa) (vs:List V) (Q:VK) (E:XK),zbl k A->zj3 P w K mg base A outer s H->BindsTo s fd args (ps.zip us)->zay vs us->sp vs H Q E ->
  codeAny (model P w) A (.call (.ref f) args) (CR CX outer P w H s Q E) s
variable {mg:MGT} {base:Heap} {CX:CXT} {f:Addr} {fd:FuncData} {ps:LSt} {sp:Sp}
theorem zcn.imp {sp':Sp} (F:zcn P w K mg base CX k f fd ps sp)
  (h:∀ vs H Q E,sp' vs H Q E->sp vs H Q E) : zcn P w K mg base CX k f fd ps sp' :=
 ⟨fun vs H Q E q=>F.len vs H Q E (h _ _ _ _ q),fun A outer s H args us vs Q E hr he hb hv hs=>F.run A outer s H args us vs Q E hr he hb hv (h _ _ _ _ hs)⟩
variable {outer:List Env}
theorem zj3.make {s:Shared} (e:zj3 P w K mg base A outer s H) (C:Addr) (us:LVa) (kw:List (Str×Value)) :
  zj3 P w K mg base (A.under (.builtin "type.__call__" ⟨.ref C::us,kw⟩)) outer s H:=⟨by first | exact e.frames | (simpa [Around.under,Code.envs,Code.isFrame,pushEnvs] using e.frames),e.mod,e.bs,e.bsz,e.funs,e.frf,e.hok,e.bare⟩
section
variable {s:Shared}
theorem Inv.env0 (I:Inv X pins σ H s) : zj3 X.prog X.w X.K X.mg X.base X.A X.stack s H :=
 ⟨I.ok.frames,I.ok.mod,I.bs,Nat.le_trans I.ok.bsz I.sz,I.stack,I.stkFree,I.hok,I.bare⟩
end
variable {Q:VK}
section
variable {s:Shared}
theorem Inv.after (I:Inv X pins σ H s) (h:CE X.stack X.prog X.w H s Q u s') : EP X pins σ Q u s':=by
 obtain ⟨v,H',os,bare,un,hok,r,q⟩:=h;obtain ⟨hh,g,d,t,os'⟩:=s';obtain rfl : os'=s.os:=os;exact ⟨v,H',I.call (h':=hh) (g':=g) (d':=d) (t':=t) (ch:=[]) un hok bare (fun b z=>absurd z (by simp)),r,q⟩
end
def z8s (sp:Sp) (dvs:List V) (E:XK) (t:TA) : TE:=fun σ H Q=>t σ H fun vs H1=>sp (vs++dvs) H1 Q E
def znm (C:Addr) (m:Str) (sp:Sp) (dvs:List V) (E:XK) (ta:TE) (t:TA) : TE:=fun σ H Q=>ta σ H fun x H1=>∃ a dx fs,x=.ref a/\H1 a=some (.ins C dx fs)/\fs.lookup m=none /\
 t σ H1 fun vs H2=>sp (x::(vs++dvs)) H2 Q E
def ykw (C:Addr) (sp:Sp) (dvs:List V) (E:XK) (t:TA) : TE:=fun σ H Q=>t σ H fun vs H1=>∀ x dx,H1 x=none->H1 dx=none->dx≠x ->
 sp (.ref x::(vs++dvs)) (upd (upd H1 dx (.own x)) x (.ins C dx [])) (fun v H2=>v=.non/\Q (.ref x) H2) E
def ze5 (K:W.Frag) (fd:FuncData) (ps:LSt) (ds:LVa) : Prop :=
 ∀ (s:Shared) (us:LVa),K.In s.heap->(us++ds).length=ps.length->BindsTo s fd ⟨us,[]⟩ (ps.zip (us++ds))
theorem ze5.all (h:∀ us : LVa,us.length=ps.length->bindArgs fd ⟨us,[]⟩=pure (ps.zip us)) : ze5 K fd ps []:=fun s us _ hl=>by
 rw [append_nil] at hl ⊢;exact .of_eq (h us hl)
def zed (CX:CXT) (X:Cx) (E:XK) : Prop:=∀ (pins:PNS) (σ:St) (H:Hp) (s:Shared) (e:Value) (s':Shared),Inv X pins σ H s->CX X.stack H s E e s'->X.xe e s'
variable {dvs vs:List V} {ds:LVa} {E:XK}
theorem zuj {s:Shared} (F:zcn X.prog X.w X.K X.mg X.base CX k f fd ps sp) (hr:zbl k X.A) (hb:ze5 X.K fd ps ds) (hd:zay dvs ds) (hx:zed CX X E)
  (I:Inv X pins σ H s) (r:zay vs us) (h:sp (vs++dvs) H Q E) : wpAny @1 X.A (call (.ref f) us) (EP X pins σ Q) X.xe s:=by
 have r2 : zay (vs++dvs) (us++ds):=r.append hd;have hl : (us++ds).length=ps.length:=by rw [<- r2.length]; exact F.len _ _ _ _ h
 refine wpAny_call (codeAny_mono (F.run X.A X.stack s H ⟨us,[]⟩ (us++ds) (vs++dvs) Q E hr I.env0 (hb s us I.kIn hl) r2 h) fun r s' hq=>?_)
 cases r with
 | error e=>exact hx pins σ H s e s' I hq
 | ok fl =>
  cases fl with
  | ret u=>exact I.after hq
  | next=>exact False.elim hq
  | brk=>exact False.elim hq
  | cont=>exact False.elim hq
variable {x:Str} {p:Pos}
theorem zh2 (F:zcn X.prog X.w X.K X.mg X.base CX k f fd ps sp) (hr:zbl k X.A) (hg:Gl X x) (hm:X.mg x=some (.ref f)) (hk:W.keepIn X.K (.ref f)=true) (hb:ze5 X.K fd ps ds) (hd:zay dvs ds) (hx:zed CX X E)
  (ha:PA X (e::es) t) (hdb:NDb x:=by decide) (he:StE X e es:=by rfl) (hpl:BkE X pos es:=by rfl) :
  PE X @8 (z8s sp dvs E t):=by
 intro pins s σ H Q I h;refine wpAny_Call_Name_kw (zkp I hg hm ?_ hdb);refine W.callWith_K (h₀:=X.base) I.ok.mod.kin hk (thn (ha pos pins s σ H _ I h) fun us s1 ⟨vs,H1,I1,r,q⟩=>⟨I1.kIn,?_⟩) he hpl;exact zuj F hr hb hd hx I1 r q
theorem ygs (F:zcn X.prog X.w X.K X.mg X.base CX k f fd ps sp) (hr:zbl k X.A) (hg:Gl X x) (hm:X.mg x=some (.ref f)) (hk:W.keepIn X.K (.ref f)=true) (hb:ze5 X.K fd ps ds) (hd:zay dvs ds) (hx:zed CX X E)
  (hdb:NDb x:=by decide) : PE X (.Call (.Name x p) [] [] pos) (z8s sp dvs E ziv):=by
 intro pins s σ H Q I h;refine wpAny_Call_Name_kw (zkp I hg hm ?_ hdb);exact W.callWith_K0 I.kIn hk (zuj (us:=[]) F hr hb hd hx I .nil h)
variable {apos:Pos}
theorem yg2 (he:PE X o ta) (c:Cls X.K C) (hm:znw X.K C m f) (F:zcn X.prog X.w X.K X.mg X.base CX k f fd ps sp) (hr:zbl k X.A) (hb:ze5 X.K fd ps ds) (hd:zay dvs ds) (hx:zed CX X E) (ha:PA X (e::es) t)
  (hst:StE X e es:=by rfl) (hpl:BkE X pos es:=by rfl)
  (ht:eval (.Call (.Attribute o m apos) (e::es) [] pos) X.env=(do
   let ov <- eval o X.env
   standAt apos.atName
   let (f,first) <- holding [ov] (getMethod ov m pl)
   callWith pos f first (backTo pos (starEach (e::es) X.env)) (backToKw pos (keywordEach [] X.env))):=by rfl) :
  PE X (.Call (.Attribute o m apos) (e::es) [] pos) (znm C m sp dvs E ta t):=by
 intro pins s σ H Q I h;refine W.methodCall_KW (pl:=pl) (thn (he pins s σ H _ I h) fun u s1 q_=>?_) ht;obtain ⟨x,H1,I1,rx,a,dx,fs,ex,ea,l,q⟩:=q_;subst ex;obtain rfl : u=Value.ref a:=rx;refine z3n I1 ea c hm l ?_
 refine W.callWith_K (first:=[.ref a]) (h₀:=X.base) I.ok.mod.kin hm.kp (thn (ha pos pins s1 σ H1 _ I1 q) fun us s2 ⟨vs,H2,I2,r,q2⟩=>⟨I2.kIn,?_⟩) hst hpl
 exact zuj (us:=.ref a::us) (vs:=.ref a::vs) F hr hb hd hx I2 (.cons rfl r) q2
theorem zt8 (he:PE X o ta) (c:Cls X.K C) (hm:znw X.K C m f) (F:zcn X.prog X.w X.K X.mg X.base CX k f fd ps sp) (hr:zbl k X.A) (hb:ze5 X.K fd ps ds) (hd:zay dvs ds) (hx:zed CX X E)
  (ht:eval (.Call (.Attribute o m apos) [] [] pos) X.env=(do
   let ov <- eval o X.env
   standAt apos.atName
   let (f,first) <- holding [ov] (getMethod ov m pl)
   callWith pos f first (backTo pos (starEach [] X.env)) (backToKw pos (keywordEach [] X.env))):=by rfl) :
  PE X (.Call (.Attribute o m apos) [] [] pos) (znm C m sp dvs E ta ziv):=by
 intro pins s σ H Q I h;refine W.methodCall_KW (pl:=pl) (thn (he pins s σ H _ I h) fun u s1 q_=>?_) ht;obtain ⟨x,H1,I1,rx,a,dx,fs,ex,ea,l,q⟩:=q_;subst ex;obtain rfl : u=Value.ref a:=rx;refine z3n I1 ea c hm l ?_
 exact W.callWith_K0 (first:=[.ref a]) I1.kIn hm.kp (zuj (us:=[.ref a]) (vs:=[.ref a]) F hr hb hd hx I1 (.cons rfl .nil) q)
structure Mk (K:W.Frag) (C f:Addr) : Prop where
 makes : W.makesIn K C=true
 init : W.findIn K (.ref C) "__init__"=some (some (.ref f))
 fn : W.isFn K (.ref f)=true
 kp : W.keepIn K (.ref C)=true
theorem yjc {s:Shared} (M:Mk X.K C f) (F:zcn X.prog X.w X.K X.mg X.base CX k f fd ps sp) (hr:zbl (k + 1) X.A) (hb:ze5 X.K fd ps ds) (hd:zay dvs ds)
  (hx:zed CX X E) (I:Inv X pins σ H s) (r:zay vs us)
  (h:∀ x dx,H x=none->H dx=none->dx≠x->sp (.ref x::(vs++dvs)) (upd (upd H dx (.own x)) x (.ins C dx [])) (fun v H2=>v=.non/\Q (.ref x) H2) E) :
  wpAny @1 X.A (call (.ref C) us) (EP X pins σ Q) X.xe s:=by
 have hq:=h (s.heap.objs.size + 1) s.heap.objs.size (I.hok.fresh (Nat.le_succ _)) (I.hok.fresh (Nat.le_refl _)) (Nat.ne_of_lt (Nat.lt_succ_self _));have I2:=Inv.made (C:=C) I;have r2 : zay (V.ref (s.heap.objs.size + 1)::(vs++dvs)) (Value.ref (s.heap.objs.size + 1)::(us++ds)):=.cons rfl (r.append hd)
 have hl : (Value.ref (s.heap.objs.size + 1)::us++ds).length=ps.length:=by
  have e:=r2.length;rw [F.len _ _ _ _ hq] at e;exact e.symm
 refine wpAny_call (yeo (f:=f) I.kIn M.makes M.init (beq_iff_eq.mp M.fn) (codeAny_mono (F.run _ X.stack _ _ ⟨Value.ref (s.heap.objs.size + 1)::us,[]⟩ (Value.ref (s.heap.objs.size + 1)::(us++ds)) _ _ E (hr.make C us [])
  (I2.env0.make C us []) (hb _ (Value.ref (s.heap.objs.size + 1)::us) I2.kIn hl) r2 hq) fun r s' hq'=>?_))
 cases r with
 | error e=>exact hx pins σ _ _ e s' I2 hq'
 | ok fl =>
  cases fl with
  | ret u =>
   obtain ⟨v,H',I3,rv,ev,q3⟩:=I2.after hq';subst ev
   exact ⟨rv,⟨V.ref (s.heap.objs.size + 1),H',I3,rfl,q3⟩⟩
  | next=>exact False.elim hq'
  | brk=>exact False.elim hq'
  | cont=>exact False.elim hq'
theorem yg1 (M:Mk X.K C f) (F:zcn X.prog X.w X.K X.mg X.base CX k f fd ps sp) (hr:zbl (k + 1) X.A) (hg:Gl X x) (hm:X.mg x=some (.ref C)) (hb:ze5 X.K fd ps ds) (hd:zay dvs ds) (hx:zed CX X E)
  (ha:PA X (e::es) t) (hdb:NDb x:=by decide) (he:StE X e es:=by rfl) (hpl:BkE X pos es:=by rfl) :
  PE X @8 (ykw C sp dvs E t):=by
 intro pins s σ H Q I h;refine wpAny_Call_Name_kw (zkp I hg hm ?_ hdb);refine W.callWith_K (h₀:=X.base) I.ok.mod.kin M.kp (thn (ha pos pins s σ H _ I h) fun us s1 ⟨vs,H1,I1,r,q⟩=>⟨I1.kIn,?_⟩) he hpl;exact yjc M F hr hb hd hx I1 r q
structure za1 (N P:LSt) (sc:Scope) : Prop where
 kind : sc.kind=.function
 co : sc.isCoroutine=false
 gen : sc.isGenerator=false
 nd : N.Nodup
 pre : N.take P.length=P
 par : ∀ x∈P,sc.names.lookup x=some .local\/sc.names.lookup x=some .cell
 nofree : ∀ y∈sc.names,y.2≠.free
theorem z1p {kindOf:Str->Option NameKind} {x:Str} : ∀ {binds:List (Str×Value)} {m:MGT},(∀ v,(x,v)∉binds)->bindL kindOf binds m x=m x
 | [],_,_=>rfl
 | (n,v)::r,m,h=>by
  unfold bindL;rw [z1p fun w hw=>h w (mem_cons_of_mem _ hw)];split
  ·have : x≠n:=by rintro rfl; exact h v mem_cons_self
   simp [this]
  ·rfl
theorem z1n {kindOf:Str->Option NameKind} {x:Str} : ∀ {binds:List (Str×Value)} {m:MGT},(∀ v,(x,v)∉binds)->bindC kindOf binds m x=m x
 | [],_,_=>rfl
 | (n,v)::r,m,h=>by
  unfold bindC;rw [z1n fun w hw=>h w (mem_cons_of_mem _ hw)];split
  ·rfl
  ·have : x≠n:=by rintro rfl; exact h v mem_cons_self
   simp [this]
theorem z1o {kindOf:Str->Option NameKind} {x:Str} {v:Value} : ∀ {P:LSt} {vs:LVa} {i:Nat} {m:MGT},P.Nodup->P[i]?=some x->vs[i]?=some v->kindOf x=some .local ->
  bindL kindOf (P.zip vs) m x=some v
 | [],_,_,_,_,h,_,_=>by simp at h
 | _::_,[],_,_,_,_,h,_=>by simp at h
 | p::P,w::vs,0,m,nd,h1,h2,hk=>by
  simp at h1 h2; subst h1; subst h2;show bindL kindOf ((p,w)::P.zip vs) m p=_;unfold bindL;rw [z1p fun v hv=>(nodup_cons.mp nd).1 (of_mem_zip hv).1,if_pos hk]
  simp
 | p::P,w::vs,i + 1,m,nd,h1,h2,hk=>by
  show bindL kindOf ((p,w)::P.zip vs) m x=_;unfold bindL;exact z1o (i:=i) (nodup_cons.mp nd).2 (by simpa using h1) (by simpa using h2) hk
theorem z1m {kindOf:Str->Option NameKind} {x:Str} {v:Value} : ∀ {P:LSt} {vs:LVa} {i:Nat} {m:MGT},P.Nodup->P[i]?=some x->vs[i]?=some v->kindOf x≠some .local ->
  bindC kindOf (P.zip vs) m x=some v
 | [],_,_,_,_,h,_,_=>by simp at h
 | _::_,[],_,_,_,_,h,_=>by simp at h
 | p::P,w::vs,0,m,nd,h1,h2,hk=>by
  simp at h1 h2; subst h1; subst h2;show bindC kindOf ((p,w)::P.zip vs) m p=_;unfold bindC;rw [z1n fun v hv=>(nodup_cons.mp nd).1 (of_mem_zip hv).1,if_neg hk]
  simp
 | p::P,w::vs,i + 1,m,nd,h1,h2,hk=>by
  show bindC kindOf ((p,w)::P.zip vs) m x=_;unfold bindC;exact z1m (i:=i) (nodup_cons.mp nd).2 (by simpa using h1) (by simpa using h2) hk
noncomputable def start (N:LSt) (vs:List V) : St:=vs.map some++List.replicate (N.length - vs.length) none
noncomputable def zen (CX:CXT) (P:Program) (w:World) (K:W.Frag) (mg:MGT) (base:Heap) (N:LSt) (qual:Str) (scope:Scope) (f:Addr) (cd:Value) (A:Around) (outer:List Env) (s:Shared) (H:Hp) (E:XK) : Cx where
 prog:=P
 w:=w
 K:=K
 mg:=mg
 base:=base
 A:=A.deeper (envOfC qual scope s.heap.objs.size f cd)
 N:=N
 s₀:=s
 H₀:=H
 env:=envOfC qual scope s.heap.objs.size f cd
 outer:=outer
 stack:=envOfC qual scope s.heap.objs.size f cd::outer
 ex:=[]
 calm:=true
 fn:=fun _=>true
 pn:=[]
 xe:=fun e s'=>wpAny (model P w) (A.deeper (envOfC qual scope s.heap.objs.size f cd)) (leaving (envOfC qual scope s.heap.objs.size f cd) e) (fun _ s''=>CX outer H s E e s'') (fun e' s''=>CX outer H s E e' s'') s'
variable {n:Nat}
theorem z11 {sc:Scope} (h:sc.names.lookup x=some .cell) : ∃ c,(cellsFrom n sc.names []).lookup x=some c:=by
 have q:=W.cellsFrom_some sc.names n [] (.inl h);exact Option.isSome_iff_exists.mp q
variable {qual:Str} {scope:Scope}
theorem yde {cd:Value} {s s1:Shared}
  (S:za1 N ps scope) (hd:A.handled=none) (e0:zj3 P w K mg base A outer s H) (hl:vs.length=ps.length) (r:zay vs us)
  (x:InCallC s s.heap.objs.size (bindL (envOfC qual scope s.heap.objs.size f cd).kindOf (ps.zip us) fun _=>none) (cellsFrom (s.heap.objs.size + 1) scope.names []) (bindC (envOfC qual scope s.heap.objs.size f cd).kindOf (ps.zip us) fun _=>none) s1) :
  Inv (zen CX P w K mg base N qual scope f cd A outer s H E) [] (start N vs) H s1:=by
 have hpl : ps.length<=N.length:=by have:=congrArg List.length S.pre; rw [length_take] at this; omega
 obtain ⟨h1,tk,rfl,hk⟩:=x.done;have noA : ∀ b : Addr,b∉(zen CX P w K mg base N qual scope f cd A outer s H E).ex:=fun b z=>absurd (show b∈([] : LAd) from z) (by simp)
 refine ⟨⟨e0.mod,S.kind,rfl,rfl,Nat.le_refl _,fun y z c h1 h2=>?_,fun y hy=>?_,fun y c _ h=>?_,fun _=>hd,Around.frames_deeper e0.frames,.inr ⟨rfl,rfl⟩,fun b z=>absurd z (noA b),e0.bs,e0.bsz,fun b _ _=>noA b,fun b z=>absurd z (noA b),e0.funs,e0.frf⟩,
  rfl,e0.bare,Un.kept hk,⟨_,x.toInCall.ns,fun i y v h1 h2 h3=>?_⟩,fun y c h=>⟨_,x.cell y c h⟩,e0.hok.fresh (Nat.le_refl _),fun y c h=>?_,fun p hp=>absurd (show p∈([] : PNS) from hp) (by simp),e0.hok.kept hk,?_⟩
 ·exact name_of_addr x.apart (PySem.mem_of_lookup h1) (PySem.mem_of_lookup h2)
 ·have hy : scope.names.lookup y=some .cell\/scope.names.lookup y=some .free:=hy
  rcases hy with hy | hy
  ·exact z11 hy
  ·exact absurd rfl (S.nofree _ (PySem.mem_of_lookup hy))
 ·exact Nat.le_of_lt (x.above y c (PySem.mem_of_lookup h))
 ·have hi : i < vs.length:=by
   unfold start at h2
   by_cases hi : i < vs.length
   ·exact hi
   ·rw [List.getElem?_append_right (by simpa using hi)] at h2;rw [List.getElem?_replicate] at h2
    split at h2 <;> cases h2
  have ha : vs[i]?=some v:=by
   unfold start at h2;rw [List.getElem?_append_left (by simpa using hi),List.getElem?_map] at h2
   cases e : vs[i]? with
   | none=>rw [e] at h2; cases h2
   | some a=>rw [e] at h2; cases h2; rfl
  obtain ⟨u,hu,rv⟩:=r.get ha
  have hp : ps[i]?=some y:=by
   rw [<- S.pre,List.getElem?_take_of_lt (by omega)]; exact h1
  have ndP : ps.Nodup:=by rw [<- S.pre]; exact S.nd.sublist (take_sublist _ _)
  refine ⟨u,rv,?_⟩
  rcases S.par y (mem_of_getElem? hp) with k | k
  ·exact .inl ⟨k,z1o ndP hp hu k⟩
  ·obtain ⟨c,e⟩:=z11 (n:=s.heap.objs.size + 1) k;refine .inr ⟨.inl k,c,e,?_⟩;have q:=x.cell y c e;rw [z1m ndP hp hu (by show scope.names.lookup y≠_; rw [k]; decide)] at q;exact q
 ·exact e0.hok.fresh (Nat.le_of_lt (x.above y c (PySem.mem_of_lookup h)))
 ·unfold start;show _=N.length;rw [length_append,length_map,length_replicate];omega
variable {an od:Option Addr} {osl:Array (Option Value)}
theorem z3e {params:Arguments} {dV kV doc pm cdv ct oc:Value}
   (lk:K.lookup f=some ⟨oc,od,.func (W.fnOf name qual params body scope dV kV doc pm an cdv ct),osl⟩) (hcd:W.codeIn K cdv qual=true) (S:za1 N ps scope)
  (len:∀ vs H Q E,sp vs H Q E->vs.length=ps.length)
  (hbody:∀ (A:Around) (outer:List Env) (s:Shared) (H:Hp) (vs:List V) (Q:VK) (E:XK),zbl k (A.deeper (envOfC qual scope s.heap.objs.size f cdv))->sp vs H Q E ->
   ∃ t,PSs (zen CX P w K mg base N qual scope f cdv A outer s H E) body t/\t { nx:=fun _ H'=>Q .non H',rt:=Q } (start N vs) H) :
  zcn P w K mg base CX (k + 1) f (W.fnOf name qual params body scope dV kV doc pm an cdv ct) ps sp:=by
 refine ⟨len,fun A outer s H args us vs Q E hr e0 hb r hsp=>?_⟩;have hl:=len _ _ _ _ hsp;have KX : K.In s.heap:=e0.mod.kin.keeps fun b o e=>(e0.bs b o e).1;have lim : s.heap.NoLimit:=e0.mod.nolimit.keeps fun b o e=>(e0.bs b o e).1
 have hkind : ∀ y∈ps.zip us,scope.names.lookup y.1=some .local\/(scope.names.lookup y.1=some .cell/\((cellsFrom (s.heap.objs.size + 1) scope.names []).lookup y.1).isSome=true):=fun ⟨n,v⟩ hy=>by
  rcases S.par n (of_mem_zip hy).1 with q | q
  ·exact .inl q
  ·exact .inr ⟨q,W.cellsFrom_some _ _ _ (.inl q)⟩
 refine codeAny_call_function hr.depth (KX _ _ lk) rfl S.co S.gen rfl (W.codeRec_of KX hcd) (hb _ _ _ _ ?_);refine wpAny_newFunctionEnv_cells S.kind hkind fun env he s1 x=>?_;subst he;refine ⟨lim.keeps x.toInCall.keep,codeAny_func ?_⟩;obtain ⟨t,ht,hq⟩:=hbody A outer s H vs Q E (hr.deeper _) hsp;have I : Inv (zen CX P w K mg base N qual scope f cdv A outer s H E) [] (start N vs) H s1:=yde S hr.hd e0 hl r x;refine wpAny_mono (ht [] s1 (start N vs) H _ I hq) (fun fl s' hs=>?_) fun e s' hs=>hs
 have fin : ∀ {σ':St} {H':Hp} {v:V} {u:Value},Inv (zen CX P w K mg base N qual scope f cdv A outer s H E) [] σ' H' s'->za7 v u->Q v H'->CE outer P w H s Q u s' :=
  fun {σ' H' v u} J rv q=>⟨v,H',J.os,J.bare,J.base,J.hok,rv,q⟩
 cases fl with
 | ret u =>
  obtain ⟨v,σ',H',J,rv,q⟩:=hs
  exact fin J rv q
 | next =>
  obtain ⟨σ',H',J,q⟩:=hs
  exact fin (v:=V.non) (u:=Value.none) J rfl q
 | brk =>
  obtain ⟨_,_,_,q⟩:=hs
  exact False.elim q
 | cont =>
  obtain ⟨_,_,_,q⟩:=hs;exact False.elim q
def tCB (r:List V->Hp->VK->Prop) (t:TA) : TE:=fun σ H Q=>t σ H fun vs H1=>r vs H1 Q
variable {r:List V->Hp->VK->Prop}
section
variable {id:String}
theorem zm2 (hc:zgg X (.builtin id) r) (hg:Gl X x) (hm:X.mg x=none) (hv:bootBuiltins x=some (.builtin id)) (ha:PA X (e::es) t) (hn:x ≠ "__name__":=by decide) (hdb:NDb x:=by decide)
  (he:StE X e es:=by rfl) (hpl:BkE X pos es:=by rfl) : PE X @8 (tCB r t):=by
 intro pins s σ H Q I h;refine wpAny_Call_Name_kw (zmc I hg hm hv ?_ hn hdb);exact PyProof.Rows.callWith_builtin1 (thn (ha pos pins s σ H _ I h) fun us s1 ⟨vs,H1,I1,r1,q1⟩=>hc pins s1 σ H1 vs us Q I1 r1 q1) he hpl
end
variable {T:String}
theorem z55 (hc:zgg X (.type T) r) (hg:Gl X x) (hm:X.mg x=none) (hv:bootBuiltins x=some (.type T)) (ha:PA X (e::es) t) (hn:x ≠ "__name__":=by decide) (hdb:NDb x:=by decide)
  (he:StE X e es:=by rfl) (hpl:BkE X pos es:=by rfl) : PE X @8 (tCB r t):=by
 intro pins s σ H Q I h;refine wpAny_Call_Name_kw (zmc I hg hm hv ?_ hn hdb);exact PyProof.Rows.callWith_type1 (thn (ha pos pins s σ H _ I h) fun us s1 ⟨vs,H1,I1,r1,q1⟩=>hc pins s1 σ H1 vs us Q I1 r1 q1) he hpl
end L2
namespace HT
open List
open Option (bind_some)
open PySem PyProof.Rows
open PySem.SeqAt
open PySem.AutoSeq1 (wpAny_loadPart')
open PySem.MeetsSeq PySem.MeetsSeq2 PySem.MeetsSeq3
noncomputable def sIx (n d:Nat) : Option Int->Nat
 | none=>d
 | some v=>if v < 0 then (v + (n:Int)).toNat else min v.toNat n
theorem sIx_none (n d:Nat) : sIx n d none=d:=rfl
theorem sIx_nat (n d k:Nat) : sIx n d (some (k:Int))=min k n:=by
 show (if (k:Int) < 0 then ((k:Int) + (n:Int)).toNat else min (k:Int).toNat n)=min k n;rw [if_neg (by omega),Int.toNat_natCast]
end HT
namespace L2
open List
open Option (bind_some)
open PySem PySem.Spec PyProof.Rows
noncomputable abbrev TO:=St->Hp->(Option Int->Hp->Prop)->Prop
def PO (X:Cx) (e:Option Expr) (t:TO) : Prop :=
 ∀ (pins:PNS) (s:Shared) (σ:St) (H:Hp) (Q:Option Int->Hp->Prop),Inv X pins σ H s->t σ H Q ->
  wpAny @1 X.A (evalPart e X.env) (fun u s'=>∃ o H',Inv X pins σ H' s'/\IsPart u o/\Q o H') X.xe s
def yky : TO:=fun _ H Q=>Q none H
def yk2 (t:TE) : TO:=fun σ H Q=>t σ H fun x H1=>∃ i,x=.int i/\Q (some i) H1
variable {X:Cx}
theorem yhu : PO X none yky:=by
 intro pins s σ H Q I h;rw [evalPart_none];exact wpAny_pure ⟨none,H,I,.none,h⟩
variable {e:Expr} {te:TE}
theorem yhv (h:PE X e te) : PO X (some e) (yk2 te):=by
 intro pins s σ H Q I hw;rw [evalPart_some];refine thn (h pins s σ H _ I hw) fun u s1 q_=>?_;obtain ⟨x,H1,I1,r1,q1⟩:=q_;obtain ⟨i,rfl,q⟩:=q1;obtain ⟨t,rfl⟩:=r1;exact ⟨some i,H1,I1,.int i t,q⟩
variable {lo hi:Option Expr}
def SlR (X:Cx) (r:V->Option Int->Option Int->Hp->VK->Prop) : Prop :=
 ∀ (pins:PNS) (s:Shared) (σ:St) (H:Hp) (x:V) (v vl vu:Value) (lo hi:Option Int) (sl:Addr) (Q:VK),Inv X pins σ H s->za7 x v->s.heap.IsSliceOf sl vl vu .none->IsPart vl lo->IsPart vu hi->r x lo hi H Q ->
  ∃ T id,typeLookup (.type T) "__getitem__"=pure (some (.builtin id))/\s.TypeIs v T/\wpAny @1 X.A (getItem v (.ref sl)) (EP X pins σ Q) X.xe s
def tSl (r:V->Option Int->Option Int->Hp->VK->Prop) (te:TE) (tl th:TO) : TE:=fun σ H Q=>te σ H fun x H1=>tl σ H1 fun l H2=>th σ H2 fun u H3=>r x l u H3 Q
variable {tl th:TO} {pos p2:Pos}
theorem zyh {r:V->Option Int->Option Int->Hp->VK->Prop} (hr:SlR X r) (he:PE X e te) (hl:PO X lo tl) (hu:PO X hi th) : PE X (.Subscript e (.Slice lo hi none p2) pos) (tSl r te tl th):=by
 intro pins s σ H Q I h;refine Subscript_ (thn (he pins s σ H _ I h) fun v s1 q_=>?_);obtain ⟨x,H1,I1,r1,q1⟩:=q_;refine wpAny_Slice (thn (hl pins s1 σ H1 _ I1 q1) fun vl s2 ⟨l,H2,I2,pl,q2⟩=>thn (hu pins s2 σ H2 _ I2 q2) fun vu s3 q_=>?_);obtain ⟨u,H3,I3,pu,q3⟩:=q_;rw [evalPart_none];refine wpAny_pure ?_
 have I4 : Inv X pins σ H3 { s3 with heap:=s3.heap.push { cls:=.type "slice",data:=.fields #[vl,vu,.none] } }:=I3.kept (t':=s3.toks) fun b ob q=>Heap.get?_push_of_some _ q
 obtain ⟨T,id,hT,ht,hg⟩:=hr pins { s3 with heap:=s3.heap.push { cls:=.type "slice",data:=.fields #[vl,vu,.none] } } σ H3 x v vl vu l u s3.heap.objs.size Q I4 r1 (Heap.IsSliceOf.new ..) pl pu q3
 show wpAny @1 X.A (subscriptTail e (.Slice lo hi none p2) v (.ref s3.heap.objs.size)) (EP X pins σ Q) X.xe { s3 with heap:=s3.heap.push { cls:=.type "slice",data:=.fields #[vl,vu,.none] } }
 exact tail_any (ops:=[.ref s3.heap.objs.size,v]) ht hT hg (by with_unfolding_all rfl)
noncomputable def zi4 (xs:List V) (lo hi:Option Int) : List V:=(xs.drop (HT.sIx xs.length 0 lo)).take (HT.sIx xs.length xs.length hi - HT.sIx xs.length 0 lo)
theorem yax (xs:List V) (lo hi:Option Int) : (zi4 xs lo hi).length<=xs.length:=by
 unfold zi4;rw [length_take,length_drop];omega
noncomputable def ixN (n:Nat) (i:Int) : Option Nat:=if 0<=i then (if i < n then some i.toNat else none) else if -(n:Int)<=i then some (i + n).toNat else none
noncomputable def atI {α : Type} (xs:List α) (i:Int) : Option α:=(ixN xs.length i).bind fun j=>xs[j]?
variable {n j:Nat} {i:Int}
theorem z35 (h:ixN n i=some j) : seqIndex? i n=some j/\j < n/\-(n:Int)<=i/\i < n:=by
 unfold ixN at h
 by_cases h0 : 0<=i
 ·rw [if_pos h0] at h
  by_cases h1 : i < n
  ·rw [if_pos h1] at h;have e : i.toNat=j:=Option.some.inj h;exact ⟨by rw [seqIndex_of h0 h1,e],by omega,by omega,h1⟩
  ·rw [if_neg h1] at h; cases h
 ·rw [if_neg h0] at h
  by_cases h1 : -(n:Int)<=i
  ·rw [if_pos h1] at h;have e : (i + n).toNat=j:=Option.some.inj h;exact ⟨by rw [seqIndex_neg (by omega) h1,e],by omega,h1,by omega⟩
  ·rw [if_neg h1] at h; cases h
theorem z1i {α : Type} {xs:List α} {v:α} (h:atI xs i=some v) : ∃ j,seqIndex? i xs.length=some j/\xs[j]?=some v/\j < xs.length/\-(xs.length : Int)<=i/\i < xs.length:=by
 unfold atI at h
 cases e : ixN xs.length i with
 | none=>rw [e] at h; cases h
 | some j =>
  rw [e] at h;obtain ⟨h1,h2,h3,h4⟩:=z35 e;exact ⟨j,h1,h,h2,h3,h4⟩
def zvd (b:Expr) : Prop:=∀ o i,subscripted b false o i=operate [o,i] (getItem o i)
def IxR (X:Cx) (r:R2) : Prop :=
 ∀ (value slice:Expr) (pins:PNS) (s:Shared) (σ:St) (H:Hp) (x y:V) (v u:Value) (Q:VK),Inv X pins σ H s->za7 x v->za7 y u->r x y H Q ->
  subscripted slice false v u=operate [v,u] (getItem v u)->wpAny @1 X.A (subscriptTail value slice v u) (EP X pins σ Q) X.xe s
def MtR (X:Cx) (id:String) (r:V->List V->Hp->VK->Prop) : Prop :=
 ∀ (pins:PNS) (s:Shared) (σ:St) (H:Hp) (x:V) (xs:List V) (v:Value) (us:LVa) (Q:VK),Inv X pins σ H s->za7 x v->zay xs us->r x xs H Q ->
  wpAny @1 X.A (call (.builtin id) (v::us)) (EP X pins σ Q) X.xe s
variable {r:R2}
theorem IxR.or {r':R2} (h:IxR X r) (h':IxR X r') : IxR X (fun x y H Q=>r x y H Q\/r' x y H Q):=by
 intro value slice pins s σ H x y v u Q I rx ry q hs
 rcases q with q | q
 ·exact h value slice pins s σ H x y v u Q I rx ry q hs
 ·exact h' value slice pins s σ H x y v u Q I rx ry q hs
variable {a b:Expr} {ta tb:TE}
theorem z59 (hr:IxR X r) (ha:PE X a ta) (hb:PE X b tb) (hs:zvd b) : PE X (.Subscript a b pos) (tOp r ta tb):=by
 intro pins s σ H Q I h;exact Subscript_ (zrj ha hb I h fun v u s2 x y H2 I2 rx ry q=>hr a b pins s2 σ H2 x y v u Q I2 rx ry q (hs _ _))
def yid (K:W.Frag) : R2:=fun x y H Q=>∃ p xs i v,x=.ref p/\y=.int i/\SqL K H p xs/\atI xs i=some v/\Q v H
def yie (K:W.Frag) : R2:=fun x y H Q=>∃ p xs i v,x=.ref p/\y=.int i/\SqT K H p xs/\atI xs i=some v/\Q v H
theorem z37 : IxR X (yid X.K):=by
 intro value slice pins s σ H x y v u Q I rx ry h hs;obtain ⟨p,xs,i,z,rfl,rfl,hq,he,q⟩:=h;cases rx;obtain ⟨t,rfl⟩:=ry;obtain ⟨its,r,pl,hz⟩:=I.list hq;obtain ⟨j,h1,h2,h3,h4,h5⟩:=z1i he;obtain ⟨w,ew,rw'⟩:=r.get h2;have hl:=r.length;have hn:=zme;have fin : EP X pins σ Q w s:=⟨z,H,I,rw',q⟩
 by_cases h0 : 0<=i
 ·have hj : i.toNat=j:=by
   rw [seqIndex_of h0 h5] at h1;exact Option.some.inj h1
  exact item_listR pl.isList h0 (by omega) (by rw [hj]; simpa using ew) fin hs
 ·have hj : (i + (its.toArray.size : Int)).toNat=j:=by
   rw [seqIndex_neg (by omega) h4] at h1;rw [size_toArray,<- hl];exact Option.some.inj h1
  exact subscriptTail_builtinR (x:=w) pl.isList.typeIs slot_list_getitem.lookup
   (wpAny_getItem_list_neg (Q:=fun r s'=>r=w/\EP X pins σ Q r s') pl.isList (by omega) (by rw [size_toArray] <;> omega) (by omega) (by rw [hj]; simpa using ew) ⟨rfl,fin⟩) hs
theorem z38 : IxR X (yie X.K):=by
 intro value slice pins s σ H x y v u Q I rx ry h hs;obtain ⟨p,xs,i,z,rfl,rfl,hq,he,q⟩:=h;cases rx;obtain ⟨t,rfl⟩:=ry;obtain ⟨its,r,pl,hz⟩:=I.tuple hq;obtain ⟨j,h1,h2,h3,h4,h5⟩:=z1i he;obtain ⟨w,ew,rw'⟩:=r.get h2;have hl:=r.length;have hn:=zme;have fin : EP X pins σ Q w s:=⟨z,H,I,rw',q⟩
 exact subscriptTail_builtinR (x:=w) pl.typeIs slot_tuple_getitem.lookup
  (getItem_tuple (j:=j) (Q:=fun r s'=>r=w/\EP X pins σ Q r s') pl (by omega) (by omega) (by rw [size_toArray,<- hl]; exact h1) (by simpa using ew) ⟨rfl,fin⟩) hs
theorem yeq (its:LVa) (n j:Nat) (u:Value) : Obj.mapSeq (·.setIfInBounds j u) { cls:=.type "list",data:=.seq its.toArray n }={ cls:=.type "list",data:=.seq (its.set j u).toArray n }:=by
 simp [Obj.mapSeq]
variable {pins:PNS} {σ:St} {H:Hp} {p:Addr} {xs:List V}
theorem Inv.lst {s:Shared} (I:Inv X pins σ H s) (h:H p=some (.lst xs)) :
  ∃ (its:LVa) (n:Nat),zay xs its/\s.heap.get? p=some { cls:=.type "list",data:=.seq its.toArray n }/\xs.length<=sizeLine:=by
 obtain ⟨z,its,n,r,e⟩:=I.hok p _ h;exact ⟨its,n,r,e,z⟩
variable {ys:List V}
theorem Inv.lstUpd {s:Shared} {its its':LVa} {n':Nat} {f:Obj->Obj} (I:Inv X pins σ H s) (h:H p=some (.lst xs))
  (ho:s.heap.get? p=some { cls:=.type "list",data:=.seq its.toArray n }) (hf:f { cls:=.type "list",data:=.seq its.toArray n }={ cls:=.type "list",data:=.seq its'.toArray n' }) (r:zay ys its') (hz:ys.length<=sizeLine) (t:Nat) :
  Inv X pins σ (upd H p (.lst ys)) { s with heap:=s.heap.update p f,toks:=t }:=by
 have e : (s.heap.update p f).get? p=some { cls:=.type "list",data:=.seq its'.toArray n' }:=by
  rw [Heap.get?_update_self f ho (by rw [hf] <;> rfl),hf]
 refine I.write (x:=p) (e:=p) (by rw [h]; trivial) (.inl rfl) (fun b u hb q=>(Heap.get?_update_other _ _ (Ne.symm hb)).trans q) ⟨_,e⟩ ?_;exact ⟨hz,its',n',r,e⟩
def zyo : V->V->V->Hp->(Hp->Prop)->Prop:=fun o i v H Q=>∃ p xs k j,o=.ref p/\i=.int k/\H p=some (.lst xs)/\ixN xs.length k=some j/\Q (upd H p (.lst (xs.set j v)))
theorem z8b : z1c X zyo:=by
 intro pins s σ H o i v ov iv u Q I ro ri rv h;obtain ⟨p,xs,k,j,rfl,rfl,hp,hj,q⟩:=h;cases ro;obtain ⟨t,rfl⟩:=ri;obtain ⟨its,n,r,ho,hz⟩:=I.lst hp;obtain ⟨h1,h2,h3,h4⟩:=z35 hj;have hl:=r.length;have hn:=zme
 have I' : Inv X pins σ (upd H p (.lst (xs.set j v))) { s with heap:=s.heap.update p (Obj.mapSeq (·.setIfInBounds j u)) } :=
  I.lstUpd hp ho (yeq its n j u) (r.set rv j) (by rw [length_set]; exact hz) s.toks
 by_cases h0 : 0<=k
 ·have hk : k.toNat=j:=by
   rw [seqIndex_of h0 h4] at h1;exact Option.some.inj h1
  exact W.ki_setAt ho h0 (by omega) (by rw [size_toArray,<- hl]; exact h4) (by rw [hk]; exact ⟨_,I',q⟩)
 ·have hk : (k + (its.toArray.size : Int)).toNat=j:=by
   rw [seqIndex_neg (by omega) h3] at h1;rw [size_toArray,<- hl];exact Option.some.inj h1
  exact W.ki_setBack ho (by omega) (by rw [size_toArray,<- hl]; exact h3) (by omega) (by rw [hk]; exact ⟨_,I',q⟩)
theorem yj6 (lo hi:Option Int) (n:Nat) : (sliceBounds lo hi none n).1=((HT.sIx n 0 lo : Nat) : Int)/\(sliceBounds lo hi none n).2.1=((HT.sIx n n hi : Nat) : Int)/\(sliceBounds lo hi none n).2.2=1:=by
 refine ⟨?_,?_,rfl⟩
 ·cases lo with
  | none=>simp [sliceBounds,HT.sIx]
  | some i =>
   simp only [sliceBounds,HT.sIx,Option.getD_none,show (1 : Int) > 0 by decide,if_true]
   by_cases h : i < 0
   ·simp only [h,if_true] <;> omega
   ·simp only [h,if_false] <;> omega
 ·cases hi with
  | none=>simp [sliceBounds,HT.sIx]
  | some i =>
   simp only [sliceBounds,HT.sIx,Option.getD_none,show (1 : Int) > 0 by decide,if_true]
   by_cases h : i < 0
   ·simp only [h,if_true] <;> omega
   ·simp only [h,if_false] <;> omega
theorem yj5 (its:LVa) (lo hi:Option Int) : slicePick its.toArray lo hi none=((its.drop (HT.sIx its.length 0 lo)).take (HT.sIx its.length its.length hi - HT.sIx its.length 0 lo)).toArray:=by
 obtain ⟨h1,h2,h3⟩:=yj6 lo hi its.toArray.size;unfold slicePick;rw [h1,h2,h3]
 simp only [sliceRange_one,pick_run,size_toArray] <;> rfl
def yif (K:W.Frag) : V->Option Int->Option Int->Hp->VK->Prop:=fun x lo hi H Q=>∃ a xs,x=.ref a/\SqL K H a xs/\∀ p,H p=none->Q (.ref p) (upd H p (.lst (zi4 xs lo hi)))
theorem yj4 : SlR X (yif X.K):=by
 intro pins s σ H x v vl vu lo hi sl Q I rx hs pl pu h;obtain ⟨a,xs,rfl,hx,q⟩:=h;cases rx;obtain ⟨its,r,ht,hz⟩:=I.list hx;have hlen:=r.length;refine ⟨"list",_,slot_list_getitem.lookup,ht.isList.typeIs,?_⟩
 refine wpAny_getItem_list_slice ht.isList hs pl pu .none (by simp) ?_ (by rw [size_toArray] <;> omega)
 rw [yj5,<- hlen];refine ⟨.ref s.heap.objs.size,_,I.laid (t':=s.toks) (o:=.lst (zi4 xs lo hi)) (fun b ob q=>Heap.get?_push_of_some _ q) (Nat.le_refl _) ?_,rfl,q _ (I.hok.fresh (Nat.le_refl _))⟩;exact ⟨Nat.le_trans (yax xs lo hi) hz,_,0,(r.drop (HT.sIx xs.length 0 lo)).take (HT.sIx xs.length xs.length hi - HT.sIx xs.length 0 lo),Heap.get?_push_size _ rfl⟩
noncomputable def zew : V->Bool
 | .non=>true
 | .bl _=>true
 | .int _=>true
 | .str _=>true
 | _=>false
noncomputable def eqV : V->V->Bool
 | .non,.non=>true
 | .bl a,.bl b=>a==b
 | .bl a,.int b=>(if a then 1 else 0)==b
 | .int a,.bl b=>a==(if b then 1 else 0)
 | .int a,.int b=>a==b
 | .str a,.str b=>a==b
 | _,_=>false
variable {y x:V} {u v:Value}
theorem z28 {A:Around} {s:Shared} (ry:za7 y u) (rx:za7 x v) (fy:zew y=true) (fx:zew x=true) : SeqAt.EqAt A s u v (eqV y x):=by
 cases y with
 | non =>
  cases ry
  cases x with
  | non=>cases rx; exact SeqAt.EqAt.same _
  | bl b=>cases rx; exact SeqAt.EqAt.none_bool b
  | int b=>obtain ⟨t,rfl⟩:=rx; exact SeqAt.EqAt.none_int b t
  | str b=>obtain ⟨t,rfl⟩:=rx; exact SeqAt.EqAt.none_str b t
  | _=>exact absurd (show false=true from fx) fq
 | bl a =>
  cases ry
  cases x with
  | non=>cases rx; exact SeqAt.EqAt.bool_none a
  | bl b=>cases rx; exact SeqAt.EqAt.bool_bool a b
  | int b=>obtain ⟨t,rfl⟩:=rx; exact SeqAt.EqAt.bool_int a b t
  | str b=>obtain ⟨t,rfl⟩:=rx; exact SeqAt.EqAt.bool_str a b t
  | _=>exact absurd (show false=true from fx) fq
 | int a =>
  obtain ⟨t',rfl⟩:=ry
  cases x with
  | non=>cases rx; exact SeqAt.EqAt.int_none a t'
  | bl b=>cases rx; exact SeqAt.EqAt.int_bool a t' b
  | int b=>obtain ⟨t,rfl⟩:=rx; exact SeqAt.EqAt.int_int a t' b t
  | str b=>obtain ⟨t,rfl⟩:=rx; exact SeqAt.EqAt.int_str a t' b t
  | _=>exact absurd (show false=true from fx) fq
 | str a =>
  obtain ⟨t',rfl⟩:=ry
  cases x with
  | non=>cases rx; exact SeqAt.EqAt.str_none a t'
  | bl b=>cases rx; exact SeqAt.EqAt.str_bool a t' b
  | int b=>obtain ⟨t,rfl⟩:=rx; exact SeqAt.EqAt.str_int a t' b t
  | str b=>obtain ⟨t,rfl⟩:=rx; exact SeqAt.EqAt.str_str a t' b t
  | _=>exact absurd (show false=true from fx) fq
 | _=>exact absurd (show false=true from fy) fq
noncomputable def eqU (x:V) (u:Value) : Bool:=match u with
 | .none=>eqV .non x
 | .bool b=>eqV (.bl b) x
 | .int i _=>eqV (.int i) x
 | .str z _=>eqV (.str z) x
 | _=>false
theorem z29 (r:za7 y u) (f:zew y=true) : eqU x u=eqV y x:=by
 cases y with
 | non=>cases r; rfl
 | bl b=>cases r; rfl
 | int i=>obtain ⟨t,rfl⟩:=r; rfl
 | str z=>obtain ⟨t,rfl⟩:=r; rfl
 | _=>exact absurd (show false=true from f) fq
theorem znx {x:V} : ∀ {xs:List V} {us:LVa},zay xs us->xs.all zew=true->us.any (eqU x)=xs.any fun y=>eqV y x
 | _,_,.nil,_=>rfl
 | y::xs,u::us,.cons r t,f=>by
  rw [all_cons,Bool.and_eq_true] at f;rw [any_cons,any_cons,z29 r f.1,znx t f.2]
theorem zpj {A:Around} {s:Shared} {x:V} {v:Value} (rx:za7 x v) (fx:zew x=true) : ∀ {xs:List V} {us:LVa},zay xs us->xs.all zew=true->∀ u∈us,SeqAt.EqAt A s u v (eqU x u)
 | _,_,.nil,_=>fun u hu=>by cases hu
 | y::xs,u::us,.cons r t,f=>fun u' hu=>by
  rw [all_cons,Bool.and_eq_true] at f
  rcases mem_cons.mp hu with rfl | hu
  ·rw [z29 r f.1]; exact z28 r rx f.1 fx
  ·exact zpj rx fx t f.2 u' hu
noncomputable def inV (x:V) (xs:List V) : Bool:=xs.any fun y=>eqV y x
def rIn (K:W.Frag) (neg:Bool) : R2:=fun x y H Q=>∃ p xs,y=.ref p/\(SqL K H p xs\/SqT K H p xs)/\zew x=true/\xs.all zew=true/\Q (.bl (if neg then !inV x xs else inV x xs)) H
theorem yf9 : OpR X (compareOp .In) (rIn X.K false):=by
 intro pins s σ H x y v u Q I rx ry h;obtain ⟨p,xs,rfl,hq,fx,fs,q⟩:=h;cases ry
 rcases hq with hq | hq
 ·obtain ⟨its,r,pl,hz⟩:=I.list hq;refine SeqAt.in_listAt (eqU x) pl.isList (fun w hw=>zpj rx fx r fs w (by simpa using hw)) ⟨.bl _,H,I,rfl,?_⟩;rw [show its.toArray.any (eqU x)=its.any (eqU x) by simp,znx r fs];exact q
 ·obtain ⟨its,r,pl,hz⟩:=I.tuple hq;refine SeqAt.in_tupleAt (eqU x) pl (fun w hw=>zpj rx fx r fs w (by simpa using hw)) ⟨.bl _,H,I,rfl,?_⟩;rw [show its.toArray.any (eqU x)=its.any (eqU x) by simp,znx r fs];exact q
theorem ygf : OpR X (compareOp .NotIn) (rIn X.K true):=by
 intro pins s σ H x y v u Q I rx ry h;obtain ⟨p,xs,rfl,hq,fx,fs,q⟩:=h;cases ry
 rcases hq with hq | hq
 ·obtain ⟨its,r,pl,hz⟩:=I.list hq;refine SeqAt.notIn_listAt (eqU x) pl.isList (fun w hw=>zpj rx fx r fs w (by simpa using hw)) ⟨.bl _,H,I,rfl,?_⟩;rw [show its.toArray.any (eqU x)=its.any (eqU x) by simp,znx r fs];exact q
 ·obtain ⟨its,r,pl,hz⟩:=I.tuple hq;refine SeqAt.notIn_tupleAt (eqU x) pl (fun w hw=>zpj rx fx r fs w (by simpa using hw)) ⟨.bl _,H,I,rfl,?_⟩;rw [show its.toArray.any (eqU x)=its.any (eqU x) by simp,znx r fs];exact q
theorem yai : zgg X (.builtin "len") (fun xs H Q=>∃ p ys,xs=[.ref p]/\(SqL X.K H p ys\/SqT X.K H p ys)/\Q (.int ys.length) H):=by
 intro pins s σ H xs us Q I r h;obtain ⟨p,ys,rfl,hq,q⟩:=h;obtain ⟨u,rfl,rx⟩:=zns r;cases rx;have hn:=zme
 rcases hq with hq | hq
 ·obtain ⟨its,r',pl,hz⟩:=I.list hq;have hlen:=r'.length
  exact Calls.call_len_list pl.isList (by simp only [size_toArray] <;> omega) ⟨.int ys.length,H,I.tok _,⟨s.toks + 1,by rw [size_toArray,hlen]⟩,q⟩
 ·obtain ⟨its,r',pl,hz⟩:=I.tuple hq;have hlen:=r'.length
  exact len_tuple pl (by simp only [size_toArray] <;> omega) ⟨.int ys.length,H,I.tok _,⟨s.toks + 1,by rw [size_toArray,hlen]⟩,q⟩
theorem yaj : zgg X (.builtin "len") (fun xs H Q=>∃ z,xs=[.str z]/\z.length<=sizeLine/\Q (.int z.length) H):=by
 intro pins s σ H xs us Q I r h;obtain ⟨z,rfl,hz,q⟩:=h;obtain ⟨u,rfl,t,rfl⟩:=zns r;have hn:=zme;exact len_str (by omega) ⟨.int z.length,H,I.tok _,⟨_,rfl⟩,q⟩
def tyV (K:W.Frag) (T:String) (x:V) (H:Hp) : Prop:=match x with
 | .str _=>T="str"
 | .int _=>T="int"
 | .ref p=>(T="list" /\ ∃ xs,SqL K H p xs)\/(T="tuple" /\ ∃ o,K.lookup p=some o/\o.cls=.type "tuple" /\ o.dict=none)\/(T="set" /\ ∃ S n,H p=some (.set S n))
 | _=>False
variable {T:String}
theorem yll {s:Shared} (I:Inv X pins σ H s) (r:za7 x v) (ty:tyV X.K T x H) :
  s.TypeIs v T/\∀ a,v=.ref a->∃ ob,s.heap.get? a=some ob/\ob.dict=none:=by
 cases x with
 | str z =>
  obtain ⟨t,rfl⟩:=r;cases (show T="str" from ty)
  exact ⟨typeIs_str s z t,fun _ e=>nomatch e⟩
 | int i =>
  obtain ⟨t,rfl⟩:=r;cases (show T="int" from ty)
  exact ⟨typeIs_int s i t,fun _ e=>nomatch e⟩
 | ref p =>
  cases r
  rcases ty with ⟨rfl,xs,hq⟩ | ⟨rfl,o,hk,hc,hd⟩ | ⟨rfl,S,n,hk⟩
  ·obtain ⟨its,_,pl,_⟩:=I.list hq;refine ⟨pl.isList.typeIs,fun a e=>?_⟩;cases e;obtain ⟨o,n,e,c,hd,_⟩:=pl;exact ⟨o,e,hd⟩
  ·refine ⟨⟨o,I.kIn p o hk,hc⟩,fun a e=>?_⟩;cases e;exact ⟨o,I.kIn _ o hk,hd⟩
  ·obtain ⟨o,_,_,_,e,ex,_⟩:=I.hok p _ hk;refine ⟨⟨o,e,ex.1⟩,fun a e2=>?_⟩;cases e2
   exact ⟨o,e,ex.2.1⟩
 | _=>exact False.elim ty
def tBM (K:W.Frag) (T:String) (r:V->List V->Hp->VK->Prop) (to:TE) (t:TA) : TE:=fun σ H Q=>to σ H fun x H1=>tyV K T x H1/\t σ H1 fun xs H2=>r x xs H2 Q
variable {o:Expr} {es:LEx} {t:TA} {name:Str} {apos cpos:Pos} {r:V->List V->Hp->VK->Prop}
section
variable {to:TE} {id:String}
theorem zdt (pa:PlainAttrs T) (slot:Slot T name id) (hty:typeOf (.builtin id)=pure (.type "method_descriptor")) (hm:MtR X id r) (ho:PE X o to) (ha:PA X (e::es) t)
  (hbase:attributeBase o name X.env (eval o X.env)=eval o X.env:=by rfl)
  (hfew:((backTo cpos (starEach (e::es) X.env)).all (fun x=>!x.1) && (backToKw cpos (keywordEach [] X.env)).all (fun x=>x.1.isSome)
   && decide ((e::es).length + ([] : List Keyword).length + (if ([] : List Keyword).isEmpty then 0 else 1) < 30))=true:=by rfl)
  (hline:(apos.endLine==cpos.line)=true:=by rfl) (hs:StE X e es:=by rfl) (hplain:(backTo cpos (starEach es X.env)).any (·.1)=false:=by rfl) :
  PE X (.Call (.Attribute o name apos) (e::es) [] cpos) (tBM X.K T r to t):=by
 intro pins s σ H Q I h;refine wpAny_Call_method_late hbase hfew hline rfl (thn (ho pins s σ H _ I h) fun v s1 q_=>?_);obtain ⟨x,H1,I1,r1,ty,q1⟩:=q_;obtain ⟨h1,h2⟩:=yll I1 r1 ty;refine ⟨T,id,pa,slot,hty,h1,h2,?_⟩;have hA:=ha cpos pins s1 σ H1 _ I1 q1;rw [hs] at hA ⊢
 refine Calls.callWith_builtin (by show (false || (backTo cpos (starEach es X.env)).any (·.1))=false; rw [hplain] <;> rfl) (Calls.evalArgs_plain ?_)
 exact thn hA fun us s2 ⟨vs,H2,I2,r2,q2⟩=>hm pins s2 σ H2 x vs v us Q I2 r1 r2 q2
end
def MtM (X:Cx) (id:String) (r:V->List V->Hp->VK->Prop) : Prop :=
 ∀ (pins:PNS) (s:Shared) (σ:St) (H:Hp) (x:V) (xs:List V) (v:Value) (us:LVa) (Q:VK),Inv X pins σ H s->za7 x v->zay xs us->r x xs H Q ->
  wpAny @1 X.A (call (.builtin id) (v::us)) (EP X pins σ Q) X.xe s
theorem zay.one : ∀ {x:V} {us:LVa},zay [x] us->∃ u,us=[u]/\za7 x u
 | _,_,.cons r .nil=>⟨_,rfl,r⟩
theorem zay.rep {xs:List V} {us:LVa} (h:zay xs us) : ∀ k : Nat,zay (List.replicate k xs).flatten (List.replicate k us).flatten
 | 0=>.nil
 | k + 1=>by
  rw [replicate_succ,replicate_succ,flatten_cons,flatten_cons];exact zay.append h (zay.rep h k)
variable {l:Addr} {t':Nat}
section
variable {s:Shared}
theorem Inv.lset {its its':LVa} {f:Array Value->Array Value} (I:Inv X pins σ H s) (hH:H l=some (.lst xs))
  (e:s.heap.get? l=some { cls:=.type "list",data:=.seq its.toArray n }) (hf:f its.toArray=its'.toArray) (hv:zay ys its') (hz:ys.length<=sizeLine) :
  Inv X pins σ (upd H l (.lst ys)) { s with heap:=s.heap.update l (Obj.mapSeq f),toks:=t' }:=by
 have q:=PySem.IsL.update e f;rw [hf] at q;refine I.write (x:=l) (e:=l) (by rw [hH]; exact trivial) (.inl rfl) (fun b' u hb hu=>(Heap.get?_update_other s.heap (Obj.mapSeq f) (Ne.symm hb)).trans hu) ⟨_,q⟩ ?_;exact ⟨hz,its',_,hv,q⟩
end
section
variable {s:Shared}
theorem Inv.lnew {its:LVa} (I:Inv X pins σ H s) (hv:zay ys its) (hz:ys.length<=sizeLine) :
  Inv X pins σ (upd H s.heap.objs.size (.lst ys)) { s with heap:=s.heap.push { cls:=.type "list",data:=.seq its.toArray },toks:=t' } :=
 I.laid (fun _ _ q=>Heap.get?_push_of_some _ q) (Nat.le_refl _) ⟨hz,its,0,hv,Heap.get?_push_size _ rfl⟩
end
section
variable {s:Shared}
theorem Inv.fresh (I:Inv X pins σ H s) : H s.heap.objs.size=none:=I.hok.fresh (Nat.le_refl _)
end
section
variable {s:Shared}
theorem Inv.lstM (I:Inv X pins σ H s) (hH:H l=some (.lst xs)) : xs.length<=sizeLine/\∃ (its:LVa) (n:Nat),zay xs its/\xs.length=its.length/\s.heap.get? l=some { cls:=.type "list",data:=.seq its.toArray n }:=by
 obtain ⟨z,its,n,r,e⟩:=I.hok l _ hH;exact ⟨z,its,n,r,r.length,e⟩
end
theorem ye4 (h:n<=sizeLine) : Builtin.List.listTooLong n=false:=by
 unfold Builtin.List.listTooLong;exact decide_eq_false (by omega)
def zym : V->List V->Hp->VK->Prop:=fun x vs H Q=>∃ l xs y,x=.ref l/\vs=[y]/\H l=some (.lst xs)/\xs.length < sizeLine/\Q .non (upd H l (.lst (xs++[y])))
theorem zga : MtM X "list.append" zym:=by
 intro pins s σ H x vs v us Q I rx rv h;obtain ⟨l,xs,y,rfl,rfl,hH,hz,q⟩:=h;cases rx;obtain ⟨u,rfl,ru⟩:=rv.one;obtain ⟨z,its,n,r,hl,e⟩:=I.lstM hH;refine call_meets F.slot_list_append ⟨_,e,rfl⟩ F.entry_list_append (F.args_list_append_2 _ _) (PySem.list_append l its.toArray n u (by rw [size_toArray]; omega)) ⟨e,?_⟩;refine ⟨.non,_,I.lset (its':=its++[u]) hH e (by simp) (r.append (.cons ru .nil)) ?_,rfl,q⟩;rw [length_append,length_singleton];omega
def yib : R2:=fun x y H Q=>∃ l b xs zs,x=.ref l/\y=.ref b/\H l=some (.lst xs)/\H b=some (.lst zs)/\xs.length + zs.length<=sizeLine/\∀ p,H p=none->Q (.ref p) (upd H p (.lst (xs++zs)))
theorem zyd : OpR X (binaryOp .Add) yib:=by
 intro pins s σ H x y v u Q I rx ry h;obtain ⟨l,b,xs,zs,rfl,rfl,hH,hB,hz,q⟩:=h;cases rx;cases ry;obtain ⟨z,its,n,r,hl,e⟩:=I.lstM hH;obtain ⟨z2,its2,n2,r2,hl2,e2⟩:=I.lstM hB;refine PySem.P.add_list e e2 ?_ (by rw [size_toArray,size_toArray]; omega);have ea : its.toArray++its2.toArray=(its++its2).toArray:=by simp
 rw [ea];exact ⟨.ref _,_,I.lnew (t':=s.toks) (r.append r2) (by rw [length_append]; omega),rfl,q _ I.fresh⟩
end L2
namespace Att
open List
open Option (bind_some)
open PySem PySem.W PySem.Calls PyProof.Rows
variable {P:Params} {h:Heap}
theorem ydb : ∀ (ns:List Int) (vs:LVa),WellAll P h vs (ns.map WData.int)->IntsAre vs ns:=by
 intro ns
 induction ns with
 | nil =>
  intro vs w;rw [map_nil] at w;cases w
  exact .nil
 | cons n ns ih =>
  intro vs w;rw [map_cons] at w
  cases w with
  | cons a b =>
   cases a;exact .cons _ _ (ih _ b)
variable {l:OpenLaw} {n:Nat}
theorem yjx (hn:l.most=some n) {args:List WData} {vals:LVa}
  (hpre:l.row.toRowW.claim.pre args=true) (hwl:WellAll P h vals args) :
  ∃ a vs ns,vals=[Value.ref a]/\args=[WData.list (ns.map WData.int)]/\h.get? a=some { cls:=.type "list",data:=.seq vs.toArray }/\IntsAre vs ns/\ns.length<=n:=by
 have hsh : WShape.hasAll [] args [.list .int]=true:=(pre_splitW hpre).1;have hc : l.pre.holds [] { args:=args }=true:=(pre_splitW hpre).2;obtain ⟨d,r,rfl,h1,h2⟩:=hasAllW_cons hsh;obtain rfl:=hasAllW_nil h2;obtain ⟨xs,rfl,h3⟩:=hasW_list h1;obtain ⟨ns,rfl⟩:=items_int h3
 have hlen : ns.length<=n:=by
  unfold OpenLaw.pre at hc
  have h4 : (WTm.not (.lt (.lit (.int (n:Int))) (.len (.arg 0)))).holds [] { args:=[.list (ns.map .int)] }=true:=by
   have h4:=(holds_andW hc).1;rw [hn] at h4;exact h4
  have h5:=condW_of h4 (w_not (w_lt w_lit (w_len_list (w_arg rfl))));rw [length_map] at h5;refine Nat.le_of_not_lt fun q=>?_;have q' : (n:Int) < ((ns.length : Nat) : Int):=by omega
  first
   | (rw [decide_eq_true q'] at h5; exact absurd h5 (by decide))
   | (simp at h5; omega)
 cases hwl with
 | cons w1 w2 =>
  cases w2
  cases w1 with
  | list ho hall=>exact ⟨_,_,ns,rfl,rfl,ho,ydb ns _ hall,hlen⟩
theorem yhw (l:OpenLaw) (args:List WData) : l.row.toRowW.claim.post args (.bool true) args=true :=
 postW_of (r:=l.row.toRowW) (X:=(true==true))
  (show WShape.has [] (.bool true) .bool=true by first | rfl | decide | simp [WShape.has,WShape.arms,WShape.armsAll])
  (show (WTm.eq .res (.lit (.bool true))).value [] { args:=args,res:=some (.bool true),after:=args }=some (.bool (true==true)) from w_eq_bool (w_res rfl) w_lit) rfl
variable {q:Program} {loose:LSt} {XP:MGT->Heap->Prop} {YP:World->Heap->Prop} {d:DefRec}
theorem attach_call
  (hn:l.most=some n) (hdf:d.params.defaults=[])
  (call:∀ (w:World) (s₀ s₁:Shared) (mg mb:MGT) (fa:Addr) (o:Obj) (pm cd doc:Value) (a:Addr) (vs:LVa) (ns:List Int),
   Ground q loose [] XP w s₀ mg mb s₁.heap->YP w s₁.heap ->
   s₁.heap.get? fa=some o->o.data=.func (docDef d.name d.params d.body d.scope pm cd doc)->s₁.heap.CodeRec cd d.name->mg d.name=some (.ref fa) ->
   s₁.heap.get? a=some { cls:=.type "list",data:=.seq vs.toArray }->IntsAre vs ns->ns.length<=n->s₁.gens=#[] ->
   codeAny (model l.prog w) callerA (.call (.ref fa) ⟨[.ref a],[]⟩) (fun r s'=>r=.ok (.ret (.bool true))/\OldK s₁.heap s'.heap/\s'.os=s₁.os/\AllBare s'.gens) s₁) :
  WalkO q loose XP YP l.row.toRowW d [] (fun f vs=>PySem.call f vs):=by
 intro w s₀ s₁ mg mb G Y fa o pm cd doc dV kV ho hd hcd hD hmg hg args vals as hpre hlay hrd hwl hlo;obtain rfl : dV=.none:=Dflts.none hD hdf;obtain rfl : kV=.none:=Dflts.noKw hD;obtain ⟨a,vs,ns,rfl,rfl,hobj,hints,hlen⟩:=yjx hn hpre hwl;refine enter_call (codeAny_mono (call w s₀ s₁ mg mb fa o pm cd doc a vs ns G Y ho (fd_plain hd) hcd hmg hobj hints hlen hg) fun r s' hq=>?_);obtain ⟨rfl,h2,h3,h4⟩:=hq;exact ⟨.inl ⟨.bool true,.bool true,[],rfl,fun _=>rfl,.bool true,yhw l _,fun _=>⟨List.Pairwise.nil,fun _ hm=>(nomatch hm)⟩⟩,h2,h3,h4⟩
end Att
namespace L2
open List
open Option (bind_some)
open PySem PySem.Spec PyProof.Rows
theorem z88 : ∀ {vs:LVa} {ns:List Int},IntsAre vs ns->zay (ns.map V.int) vs
 | _,_,.nil=>.nil
 | _,_,.cons n t h=>.cons ⟨t,rfl⟩ (z88 h)
def zqm (H:Hp) : Prop:=∀ b,H b=none\/∃ o xs,H b=some (.frz o (.lst xs))
variable {P:Program} {w:World} {K:W.Frag} {mg:MGT} {k:Nat} {a:Addr} {fd:FuncData} {x:Str}
theorem yd1 {mb:MGT} {CX:CXT} {fa:Addr} {sp:Sp} {s₁:Shared} {vs:LVa} {ns:List Int}
  (KX:K.In s₁.heap) (hns:s₁.heap.Ns mainGlobals mg) (hb:s₁.heap.Ns builtinsNs mb) (hbb:∀ x : Str,x ≠ "__name__" -> mb x=bootBuiltins x) (hlim:s₁.heap.NoLimit) (hg:s₁.gens=#[])
  (ha:s₁.heap.get? a=some { cls:=.type "list",data:=.seq vs.toArray }) (hi:IntsAre vs ns) (hl:ns.length<=sizeLine) (hr:zbl k callerA)
  (F:∀ base : Heap,K.In base->base.Ns mainGlobals mg->zcn P w K mg base CX k fa fd [x] sp) (hbind:∀ (s:Shared) (u:Value),BindsTo s fd ⟨[u],[]⟩ [(x,u)])
  (hsp:∀ H : Hp,zqm H->SqL K H a (ns.map V.int)->sp [.ref a] H (fun v _=>v=.bl true) fun _ _ _=>False)
  (hCX:∀ H e s',CX [] H s₁ (fun _ _ _=>False) e s'->False) :
  codeAny (model P w) callerA (.call (.ref fa) ⟨[.ref a],[]⟩) (fun r s'=>r=.ok (.ret (.bool true))/\OldK s₁.heap s'.heap/\s'.os=s₁.os/\AllBare s'.gens) s₁:=by
 have rv:=z88 hi;have lenV:=hi.length
 have core : ∀ H : Hp,zqm H->SqL K H a (ns.map V.int)->HOk P w H s₁.heap->(∀ b,H b≠none->b=a)->(H a≠none->K.lookup a=none) ->
   codeAny (model P w) callerA (.call (.ref fa) ⟨[.ref a],[]⟩) (fun r s'=>r=.ok (.ret (.bool true))/\OldK s₁.heap s'.heap/\s'.os=s₁.os/\AllBare s'.gens) s₁:=by
  intro H hO hS hok hA hK;have base_of : ∀ {b:Addr} {o:Obj},s₁.heap.get? b=some o->H b=none->(zih s₁.heap H).get? b=some o:=fun e n=>yc1 e n
  have noA : ∀ {b:Addr} {o:Obj} {es:Array DictEntry} {ep:Nat},s₁.heap.get? b=some o->o.data=.dict es ep->H b=none:=fun {b o es ep} e d=>by
   cases q : H b with
   | none=>rfl
   | some u =>
    have e' : b=a:=hA b (by rw [q]; simp);subst e';rw [ha] at e; cases e;have d' : Data.seq vs.toArray _=Data.dict es ep:=d;cases d'
  have nsK : ∀ {b:Addr} {m:MGT},s₁.heap.Ns b m->(zih s₁.heap H).Ns b m:=fun {b m} ⟨o,es,ep,e,d,r⟩=>⟨o,es,ep,base_of e (noA e d),d,r⟩
  have hKb : K.In (zih s₁.heap H):=fun b o e=>base_of (KX b o e) (by
   cases q : H b with
   | none=>rfl
   | some u =>
    have e' : b=a:=hA b (by rw [q]; simp);subst e';rw [hK (by rw [q]; simp)] at e; cases e)
  have hM : Mod K mg (zih s₁.heap H):=⟨hKb,nsK hns,⟨mb,nsK hb,hbb⟩,let ⟨mc,h1,h2⟩:=hlim; ⟨mc,nsK h1,h2⟩⟩;have e0 : zj3 P w K mg (zih s₁.heap H) callerA [] s₁ H:=⟨rfl,hM,fun b o e=>yff e,Nat.le_of_eq (yc2 _ _),trivial,fun b hb=>absurd (show b∈([] : LAd) from hb) (by simp),hok,.of_eq hg⟩;refine codeAny_mono ((F _ hKb (nsK hns)).run callerA [] s₁ H ⟨[.ref a],[]⟩ [.ref a] [.ref a] _ _ hr e0 (hbind s₁ (.ref a)) (.cons rfl .nil) (hsp H hO hS)) fun r s' h=>?_
  cases r with
  | error e=>exact (hCX H e s' h).elim
  | ok fl =>
   cases fl with
   | next=>exact False.elim h
   | brk=>exact False.elim h
   | cont=>exact False.elim h
   | ret u =>
    obtain ⟨v,H',os,bare,un,hok',r',q⟩:=h;have q' : v=.bl true:=q;subst q';obtain rfl : u=Value.bool true:=r';refine ⟨rfl,OldK.of_keep fun b o e=>?_,os,bare⟩
    cases q : H b with
    | none=>exact un.keep b o e q (by intro z; exact absurd (show b∈([] : LAd) from z) (by simp)) (by simp)
    | some u =>
     rcases hO b with z | ⟨ob,xs,z⟩
     ·rw [q] at z; cases z
     ·have z2:=un.frzs b ob _ z;obtain ⟨e1,_⟩:=hok b _ z;obtain ⟨e2,_⟩:=hok' b _ z2;rw [e] at e1; cases e1;exact e2
 cases hk : K.lookup a with
 | some o =>
  have e:=KX a o hk;rw [ha] at e;cases e
  refine core (fun _=>none) (fun _=>.inl rfl) (.inr ⟨_,vs.toArray,_,hk,rfl,rfl,rfl,by rw [size_toArray,lenV]; exact hl,by simpa using rv⟩) (fun b u z=>by have z' : (none:Option HO)=some u:=z; cases z') (fun b z=>absurd rfl z) fun z=>absurd rfl z
 | none =>
  refine core (fun b=>if b=a then some (.frz { cls:=.type "list",data:=.seq vs.toArray } (.lst (ns.map V.int))) else none) (fun b=>?_) (.inl (.inr ⟨{ cls:=.type "list",data:=.seq vs.toArray },if_pos rfl⟩)) (fun b u z=>?_) (fun b z=>?_) fun _=>hk
  ·by_cases hb : b=a
   ·exact .inr ⟨_,_,if_pos hb⟩
   ·exact .inl (if_neg hb)
  ·by_cases hb : b=a
   ·have z':=(if_pos hb).symm.trans z;cases z';subst hb;exact ⟨ha,by rw [length_map]; exact hl,vs,_,rv,ha⟩
   ·have z':=(if_neg hb).symm.trans z;cases z'
  ·by_cases hb : b=a
   ·exact hb
   ·exact absurd (if_neg hb) z
variable {h:Heap}
noncomputable abbrev KOf (_:K.In h) : W.Frag:=K
variable {l:W.OpenLaw} {n:Nat} {q:Program} {loose:LSt} {XP:MGT->Heap->Prop} {YP:World->Heap->Prop} {d:DefRec}
theorem ylv {K:Params->W.Frag} {CX:World->CXT} {sp:World->Sp}
  (hn:l.most=some n) (hn2:n<=sizeLine) (hdf:d.params.defaults=[]) (hr:zbl k callerA)
  (hY:∀ (w:World) (h:Heap),YP w h->(K w.params).In h)
  (F:∀ (w:World) (mg:MGT) (fa:Addr) (h:Heap),(K w.params).In h->h.Ns mainGlobals mg->mg d.name=some (.ref fa) ->
   ∃ fd : FuncData,(∀ (s:Shared) (u:Value),BindsTo s fd ⟨[u],[]⟩ [(x,u)]) /\
    ∀ base : Heap,(K w.params).In base->base.Ns mainGlobals mg->zcn l.prog w (K w.params) mg base (CX w) k fa fd [x] (sp w))
  (hsp:∀ (w:World) (H:Hp) (a:Addr) (ns:List Int),ns.length<=n->zqm H->SqL (K w.params) H a (ns.map V.int)->sp w [.ref a] H (fun v _=>v=.bl true) fun _ _ _=>False)
  (hCX:∀ (w:World) (H:Hp) (s:Shared) (e:Value) (s':Shared),CX w [] H s (fun _ _ _=>False) e s'->False) :
  W.WalkO q loose XP YP l.row.toRowW d [] (fun f vs=>PySem.call f vs):=by
 refine Att.attach_call hn hdf fun w s₀ s₁ mg mb fa o pm cd doc a vs ns G Y ho hd hcd hmg hobj hints hlen hg=>?_;have KX:=hY w _ Y;obtain ⟨fd,hb,hF⟩:=F w mg fa _ KX G.T.g hmg;exact yd1 KX G.T.g G.T.b G.T.builtins G.T.nolimit hg hobj hints (Nat.le_trans hlen hn2) hr hF hb (fun H hO hS=>hsp w H a ns hlen hO hS) fun H e s'=>hCX w H s₁ e s'
variable {CX:CXT}
theorem walk_ofK {K:Params->W.Frag} {sp:W.Frag->Sp}
  (hn:l.most=some n) (hn2:n<=sizeLine) (hdf:d.params.defaults=[]) (hr:zbl k callerA)
  (hY:∀ (w:World) (h:Heap),YP w h->(K w.params).In h)
  (F:∀ (w:World) (mg:MGT) (fa:Addr) (h:Heap),(K w.params).In h->h.Ns mainGlobals mg->mg d.name=some (.ref fa) ->
   ∃ fd : FuncData,(∀ (s:Shared) (u:Value),BindsTo s fd ⟨[u],[]⟩ [(x,u)]) /\
    ∀ base : Heap,(K w.params).In base->base.Ns mainGlobals mg->zcn l.prog w (K w.params) mg base CX k fa fd [x] (sp (K w.params)))
  (hsp:∀ (K:W.Frag) (H:Hp) (a:Addr) (ns:List Int),ns.length<=n->zqm H->SqL K H a (ns.map V.int)->sp K [.ref a] H (fun v _=>v=.bl true) fun _ _ _=>False)
  (hCX:∀ (H:Hp) (s:Shared) (e:Value) (s':Shared),CX [] H s (fun _ _ _=>False) e s'->False) :
  W.WalkO q loose XP YP l.row.toRowW d [] (fun f vs=>PySem.call f vs) :=
 ylv (K:=K) (CX:=fun _=>CX) (sp:=fun w=>sp (K w.params)) hn hn2 hdf hr hY F (fun w H a ns h1 h2 h3=>hsp (K w.params) H a ns h1 h2 h3) fun _ H s e s'=>hCX H s e s'
noncomputable def zc1 (s:Stmt) (j:Nat) : Stmt:=match s with
 | .ClassDef _ _ _ body _ _ _ _ _ _ _=>body.getD j (.Pass ⟨0,0,0,0⟩)
 | _=>.Pass ⟨0,0,0,0⟩
noncomputable def zow (s:Stmt) : Arguments:=match s with
 | .FunctionDef _ a _ _ _ _ _ _ _ _=>a
 | _=>{ posonlyargs:=[],args:=[],vararg:=none,kwonlyargs:=[],kw_defaults:=[],kwarg:=none,defaults:=[] }
noncomputable def zfj (s:Stmt) : List Stmt:=match s with
 | .FunctionDef _ _ b _ _ _ _ _ _ _=>b
 | _=>[]
noncomputable def zau (s:Stmt) : Scope:=match s with
 | .FunctionDef _ _ _ _ _ _ sc _ _ _=>sc
 | _=>{ kind:=.function,names:=[],isGenerator:=false,isCoroutine:=false }
abbrev CX0 : CXT:=fun _ _ _ _ _ _=>False
abbrev E0 : XK:=fun _ _ _=>False
variable {X:Cx}
theorem zfu : zed CX0 X E0:=fun _ _ _ _ _ _ _ h=>h.elim
structure Fun (K:W.Frag) (x qual:Str) (st:Stmt) (f:Addr) (fd:FuncData) : Prop where
 ex : ∃ (oc:Value) (od:Option Addr) (kV doc pm:Value) (an:Option Addr) (cdv ct:Value) (osl:Array (Option Value)),
  fd=W.fnOf x qual (zow st) (zfj st) (zau st) .none kV doc pm an cdv ct/\K.lookup f=some ⟨oc,od,.func fd,osl⟩/\W.codeIn K cdv qual=true
 kp : W.keepIn K (.ref f)=true
variable {base:Heap} {qual:Str} {st:Stmt} {f:Addr} {N ps:LSt} {sp:Sp}
theorem Fun.ok (F:Fun K x qual st f fd) (S:za1 N ps (zau st)) (len:∀ vs H Q E,sp vs H Q E->vs.length=ps.length)
  (hbody:∀ (cdv:Value) (A:Around) (outer:List Env) (s:Shared) (H:Hp) (vs:List V) (Q:VK) (E:XK),zbl k (A.deeper (envOfC qual (zau st) s.heap.objs.size f cdv))->sp vs H Q E ->
   ∃ t,PSs (zen CX0 P w K mg base N qual (zau st) f cdv A outer s H E).nox (zfj st) t/\t { nx:=fun _ H'=>Q .non H',rt:=Q } (start N vs) H) : zcn P w K mg base CX0 (k + 1) f fd ps sp:=by
 obtain ⟨oc,od,kV,doc,pm,an,cdv,ct,osl,rfl,lk,hcd⟩:=F.ex;refine z3e lk hcd S len fun A outer s H vs Q E hr hsp=>?_;obtain ⟨t,h,q⟩:=hbody cdv A outer s H vs Q E hr hsp;exact ⟨t,h.nox,q⟩
theorem Fun.binds (F:Fun K x qual st f fd)
  (h:∀ (kV doc pm:Value) (an:Option Addr) (cdv ct:Value) (us:LVa),us.length=ps.length->bindArgs (W.fnOf x qual (zow st) (zfj st) (zau st) .none kV doc pm an cdv ct) ⟨us,[]⟩=pure (ps.zip us)) : ze5 K fd ps []:=by
 obtain ⟨oc,od,kV,doc,pm,an,cdv,ct,osl,rfl,lk,hcd⟩:=F.ex;exact .all (h kV doc pm an cdv ct)
theorem fun_mk {oc:Value} {od an:Option Addr} {osl:Array (Option Value)} {kV doc pm cdv ct:Value} (l:K.lookup f=some ⟨oc,od,.func (W.fnOf x qual (zow st) (zfj st) (zau st) .none kV doc pm an cdv ct),osl⟩)
  (c:W.codeIn K cdv qual=true) (k:W.keepIn K (.ref f)=true) : Fun K x qual st f (W.fnOf x qual (zow st) (zfj st) (zau st) .none kV doc pm an cdv ct):=⟨⟨oc,od,kV,doc,pm,an,cdv,ct,osl,rfl,l,c⟩,k⟩
structure Df (K:W.Frag) (mg:MGT) (x:Str) (st:Stmt) (ps:LSt) (e:Addr×FuncData) : Prop where
 F : Fun K x x st e.1 e.2
 b : ze5 K e.2 ps []
 g : mg x=some (.ref e.1)
structure Dm (K:W.Frag) (C:Addr) (x q:Str) (st:Stmt) (ps:LSt) (e:Addr×FuncData) : Prop where
 F : Fun K x q st e.1 e.2
 b : ze5 K e.2 ps []
 m : znw K C x e.1
structure Pk (P:Program) (w:World) (K:W.Frag) (mg:MGT) (base:Heap) (CX:CXT) (k:Nat) (x:Str) (e:Addr×FuncData) (ps:LSt) (sp:Sp) : Prop where
 ok : zcn P w K mg base CX k e.1 e.2 ps sp
 g : mg x=some (.ref e.1)
 kp : W.keepIn K (.ref e.1)=true
 b : ze5 K e.2 ps []
structure Pm (P:Program) (w:World) (K:W.Frag) (mg:MGT) (base:Heap) (CX:CXT) (k:Nat) (C:Addr) (x:Str) (e:Addr×FuncData) (ps:LSt) (sp:Sp) : Prop where
 ok : zcn P w K mg base CX k e.1 e.2 ps sp
 c : Cls K C
 m : znw K C x e.1
 b : ze5 K e.2 ps []
variable {e:Addr×FuncData}
theorem Df.pk (E:Df K mg x st ps e) (o:zcn P w K mg base CX k e.1 e.2 ps sp) : Pk P w K mg base CX k x e ps sp:=⟨o,E.g,E.F.kp,E.b⟩
variable {q:Str} {C:Addr}
theorem Dm.pk (E:Dm K C x q st ps e) (c:Cls K C) (o:zcn P w K mg base CX k e.1 e.2 ps sp) : Pm P w K mg base CX k C x e ps sp:=⟨o,c,E.m,E.b⟩
structure Dq (K:W.Frag) (x:Str) (st:Stmt) (f:Addr) (fd:FuncData) : Prop where
 a : W.nsIn K mainGlobals x=some (some (.ref f))
 F : Fun K x x st f fd
structure Dp (K:W.Frag) (C:Addr) (x q:Str) (st:Stmt) (f:Addr) (fd:FuncData) : Prop where
 a : W.findIn K (.ref C) x=some (some (.ref f))
 i : W.isFn K (.ref f)=true
 F : Fun K x q st f fd
abbrev zvb (x q:Str) (st:Stmt) (ps:LSt) : Prop:=∀ (kV doc pm:Value) (an:Option Addr) (cdv ct:Value) (us:LVa),us.length=ps.length->bindArgs (W.fnOf x q (zow st) (zfj st) (zau st) .none kV doc pm an cdv ct) ⟨us,[]⟩=pure (ps.zip us)
theorem Dq.mk2 (d:Dq K x st f fd) (X:K.In h) (G:h.Ns mainGlobals mg) (b:zvb x x st ps:=by walk_at "bd") : Df K mg x st ps (f,fd):=⟨d.F,d.F.binds b,W.mg_of X G d.a⟩
theorem Dp.mk2 (d:Dp K C x q st f fd) (b:zvb x q st ps:=by walk_at "bd") : Dm K C x q st ps (f,fd):=⟨d.F,d.F.binds b,⟨d.a,d.i,d.F.kp⟩⟩
theorem Dq.bt {p:Str} (d:Dq K x st f fd) (b:zvb x x st [p]) (s:Shared) (v:Value) : BindsTo s fd ⟨[v],[]⟩ [(p,v)]:=by
 obtain ⟨oc,od,kV,doc,pm,an,cdv,ct,osl,rfl,lk,hcd⟩:=d.F.ex;exact .of_eq (b kV doc pm an cdv ct [v] rfl)
theorem zng (h:n<=1000) : n < sizeLine:=Nat.lt_of_le_of_lt h (by decide)
variable {pos:Pos}
theorem pv (i:Nat) (hN:X.N[i]?=some x:=by rfl) (hv:Vis X.env.scope x:=by first | exact Or.inl rfl | exact Or.inr (Or.inl rfl) | exact Or.inr (Or.inr rfl)) (hd:NDb x:=by decide)
  (hcd:NCd x:=by decide) : PE X (.Name x pos) (zc2 i):=ziq hN hv hd hcd
variable {A B:Prop}
theorem zw2 (h:B) : if false=true then A else B:=by
 rw [if_neg fq];exact h
theorem zsl (h:A) : if true=true then A else B:=by
 rw [if_pos rfl];exact h
def zav (H H':Hp) : Prop:=∀ b o,H b=some o->H' b=some o
theorem zav.refl (H:Hp) : zav H H:=fun _ _ h=>h
variable {H H1 H2:Hp}
theorem zav.trans (a:zav H H1) (b:zav H1 H2) : zav H H2:=fun c o h=>b c o (a c o h)
variable {H':Hp} {l:Addr}
theorem zav.free (e:zav H H') (h:H' l=Option.none) : H l=Option.none:=by
 cases q : H l with
 | none=>rfl
 | some o =>
  rw [e l o q] at h;cases h
variable {xs:List V}
theorem zav.seq (e:zav H H') (h:SqL K H a xs) : SqL K H' a xs:=by
 rcases h with (h | ⟨o,h⟩) | h
 ·exact .inl (.inl (e _ _ h))
 ·exact .inl (.inr ⟨o,e _ _ h⟩)
 ·exact .inr h
section
variable {κ : Type} [DecidableEq κ]
end
section
variable {κ : Type} [DecidableEq κ]
end
end L2
set_option maxHeartbeats 4000000
namespace L2
open List
open Option (bind_some)
open PySem
theorem zwm {env:Env} (f:(Str×NameKind)->List (Str×Addr)->Sem (ForInStep (List (Str×Addr))))
  (h1:∀ n k r,k≠NameKind.free->f (n,k) r=pure (.yield r))
  (h2:∀ n r c,env.cells.lookup n=some c->f (n,.free) r=pure (.yield ((n,c)::r))) :
  ∀ (l:List (Str×NameKind)) (acc:List (Str×Addr)),(∀ x∈l,x.2=.free->∃ c,env.cells.lookup x.1=some c) ->
   (∀ x c,acc.lookup x=some c->env.cells.lookup x=some c) ->
   ∃ cl,forIn l acc f=(pure cl:Sem _)/\(∀ x c,cl.lookup x=some c->env.cells.lookup x=some c) /\
    (∀ x,((∃ c,acc.lookup x=some c)\/(x,NameKind.free)∈l)->∃ c,cl.lookup x=some c)
 | [],acc,_,ha=>⟨acc,rfl,ha,fun x hx=>hx.elim id (fun z=>nomatch z)⟩
 | (n,k)::l,acc,hl,ha=>by
  have hl' : ∀ x∈l,x.2=.free->∃ c,env.cells.lookup x.1=some c:=fun x hx=>hl x (mem_cons_of_mem _ hx)
  by_cases hk : k=.free
  ·subst hk;obtain ⟨c,hc⟩:=hl (n,.free) mem_cons_self rfl;have hc' : env.cells.lookup n=some c:=hc
   have ha' : ∀ x c',((n,c)::acc).lookup x=some c'->env.cells.lookup x=some c':=fun x c' hx=>by
    rw [lookup_cons] at hx
    cases e : x==n with
    | true =>
     rw [e] at hx;cases hx
     rw [eq_of_beq e]; exact hc'
    | false =>
     rw [e] at hx;exact ha x c' hx
   obtain ⟨cl,e,a1,a2⟩:=zwm f h1 h2 l ((n,c)::acc) hl' ha';refine ⟨cl,?_,a1,fun x hx=>a2 x ?_⟩
   ·rw [forIn_cons,h2 n acc c hc',pure_bind];exact e
   ·have here : ∀ c',acc.lookup x=some c'->∃ c'',((n,c)::acc).lookup x=some c'':=fun c' z=>by
     rw [lookup_cons]
     cases e : x==n with
     | true=>exact ⟨c,rfl⟩
     | false=>exact ⟨c',z⟩
    rcases hx with ⟨c',z⟩ | hx
    ·exact .inl (here c' z)
    ·rcases mem_cons.mp hx with z | z
     ·cases z;refine .inl ⟨c,?_⟩;rw [lookup_cons,beq_self_eq_true]
     ·exact .inr z
  ·obtain ⟨cl,e,a1,a2⟩:=zwm f h1 h2 l acc hl' ha;refine ⟨cl,?_,a1,fun x hx=>a2 x ?_⟩
   ·rw [forIn_cons,h1 n k acc hk,pure_bind];exact e
   ·rcases hx with hx | hx
    ·exact .inl hx
    ·rcases mem_cons.mp hx with z | z
     ·cases z; exact absurd rfl hk
     ·exact .inr z
variable {scope:Scope} {env:Env}
theorem zvw (h:∀ x∈scope.names,x.2=.free->∃ c,env.cells.lookup x.1=some c) :
  ∃ cl,closureFor scope env=pure cl/\(∀ x c,cl.lookup x=some c->env.cells.lookup x=some c)/\(∀ x,(x,NameKind.free)∈scope.names->∃ c,cl.lookup x=some c):=by
 unfold closureFor
 obtain ⟨cl,e,a1,a2⟩:=zwm (env:=env) (fun (x:Str×NameKind) (r:List (Str×Addr))=>(match x with
   | (name,kind)=>if (kind==NameKind.free)=true then (do let a <- cellOf env name; pure (ForInStep.yield ((name,a)::r))) else (pure (ForInStep.yield r) : Sem _)))
  (fun n k r hk=>by
   have : (k==NameKind.free)=false:=by simpa using hk
   simp only [this,Bool.false_eq_true,if_false])
  (fun n r c hc=>by
   simp only [beq_self_eq_true,if_true,cellOf,hc,pure_bind])
  scope.names [] h (fun x c z=>by cases z)
 refine ⟨cl,?_,a1,fun x hx=>a2 x (.inr hx)⟩;refine (congrArg (fun (t:Sem (List (Str×Addr)))=>t >>= pure) ?_).trans ((congrArg (fun (t:Sem (List (Str×Addr)))=>t >>= pure) e).trans (pure_bind _ _));rfl
abbrev E00 : Value->Shared->Prop:=fun _ _=>False
variable {prog:Program} {w:World} {A:Around} {R:Result->Shared->Prop} {elt iter:Expr} {ifs:LEx} {pos:Pos}
section
variable {s:Shared}
theorem yaq {target:Expr} {it acc:Value} (I:Nat->Shared->Prop)
  (turn:∀ n s,I n s->wpAny (model prog w) A (pyNext it) (fun r s₁=>match r with
   | none=>R (.ok .next) s₁
   | some v=>wpAny (model prog w) A (letOwnedTupleGo target it v) (fun _ s₁'=>wpAny (model prog w) A (assign target env v) (fun _ s₂ =>
     wpAny (model prog w) A (forIn ifs true fun c r=>if r=true then do let ok <- isTrue c env (eval c env); pure (ForInStep.yield ok) else pure (ForInStep.yield r)) (fun ok s₃ =>
      if ok=true then wpAny (model prog w) A (eval elt env) (fun x s₄ =>
       wpAny (model prog w) A (call (.builtin "list.append") [acc,x]) (fun _ s₅=>∃ m,m < n/\I m s₅) (notedBy (model prog w) A env fun x s'=>R (.error x) s') s₄) (notedBy (model prog w) A env fun x s'=>R (.error x) s') s₃
      else ∃ m,m < n/\I m s₃) (notedBy (model prog w) A env fun x s'=>R (.error x) s') s₂) (notedBy (model prog w) A env fun x s'=>R (.error x) s') s₁') (notedBy (model prog w) A env fun x s'=>R (.error x) s') s₁) (notedBy (model prog w) A env fun x s'=>R (.error x) s') s)
  (n:Nat) (h:I n s) :
  codeAny (model prog w) A (.compLoop (.ListComp elt [⟨target,iter,ifs,0⟩] scope pos) 0 it acc env) R s:=by
 refine codeAny_loop rfl I (fun n s hI=>?_) n h;show wpAny _ A ((compTurn (.ListComp elt [⟨target,iter,ifs,0⟩] scope pos) 0 it acc env).onRaise (fun x=>do noteFrame x env; theTreesLotGoes x)) _ _ s;refine wpAny_noted ?_;rw [compTurn_list];refine wpAny_bind (wpAny_standAt (wpAny_bind (wpAny_mono (turn n s hI) (fun r s₁ h₁=>?_) fun _ _ h'=>h')))
 cases r with
 | none=>exact wpAny_pure h₁
 | some v =>
  refine wpAny_bind (wpAny_mono h₁ (fun _ s₁' h₁'=>?_) fun _ _ h'=>h');refine wpAny_bind (wpAny_mono h₁' (fun _ s₂ h₂=>wpAny_bind (wpAny_mono h₂ (fun ok s₃ h₃=>?_) fun _ _ h'=>h')) fun _ _ h'=>h')
  cases ok with
  | false=>exact wpAny_pure ⟨rfl,h₃⟩
  | true =>
   exact wpAny_bind (wpAny_bind (wpAny_mono h₃ (fun x s₄ h₄=>wpAny_bind (wpAny_mono h₄ (fun _ s₅ h₅=>wpAny_pure (wpAny_pure ⟨rfl,h₅⟩)) fun _ _ h'=>h')) fun _ _ h'=>h'))
end
open PySem.Spec PyProof.Rows
noncomputable abbrev Cx.comp (X:Cx) (scope:Scope) (Nc:LSt) (cl:List (Str×Addr)) (C:Addr) (ex:LAd) (s₂:Shared) (H₂:Hp) : Cx :=
 { X with N:=Nc,s₀:=s₂,H₀:=H₂,env:=compEnvC scope cl C X.env,outer:=X.stack,ex:=ex,fn:=fun _=>false,pn:=[],xe:=E00 }
theorem zyw {env:Env} : ∀ {names:List (Str×NameKind)} {x:Str},names.lookup x=some .free ->
  (names.map fun (n,k)=>if (k==NameKind.free && env.scope.kind==.function && env.kindOf n==some .cell) then (n,NameKind.cell) else (n,k)).lookup x=some .cell \/
  (names.map fun (n,k)=>if (k==NameKind.free && env.scope.kind==.function && env.kindOf n==some .cell) then (n,NameKind.cell) else (n,k)).lookup x=some .free
 | [],_,h=>by simp at h
 | (n,k)::r,x,h=>by
  have ih:=@zyw env r x;rw [map_cons];show List.lookup x ((if @4=true then (n,NameKind.cell) else (n,k))::_)=_\/List.lookup x ((if @4=true then (n,NameKind.cell) else (n,k))::_)=_;rw [lookup_cons] at h
  cases hx : x==n with
  | true =>
   rw [hx] at h;cases h;split
   ·left; rw [lookup_cons,hx]
   ·right; rw [lookup_cons,hx]
  | false =>
   rw [hx] at h;split
   ·rw [lookup_cons,hx]; exact ih h
   ·rw [lookup_cons,hx]; exact ih h
theorem zxz {env:Env} {k':NameKind} (hk':k'=.cell\/k'=.free) : ∀ {names:List (Str×NameKind)} {x:Str},
  (names.map fun (n,k)=>if (k==NameKind.free && env.scope.kind==.function && env.kindOf n==some .cell) then (n,NameKind.cell) else (n,k)).lookup x=some k' ->
  (x,NameKind.free)∈names\/(x,NameKind.cell)∈names
 | [],_,h=>by simp at h
 | (n,k)::r,x,h=>by
  have ih:=@zxz env k' hk' r x;rw [map_cons] at h;have h' : List.lookup x ((if @4=true then (n,NameKind.cell) else (n,k))::(r.map fun (n,k)=>if (k==NameKind.free && env.scope.kind==.function && env.kindOf n==some .cell) then (n,NameKind.cell) else (n,k)))=some k':=h
  cases hx : x==n with
  | true =>
   have e:=eq_of_beq hx;subst e;split at h'
   ·rename_i hc
    have hk : k=.free:=by
     rw [Bool.and_eq_true,Bool.and_eq_true] at hc;exact eq_of_beq hc.1.1
    subst hk;exact .inl mem_cons_self
   ·rw [lookup_cons,hx] at h';have e : k=k':=Option.some.inj h';subst e
    rcases hk' with z | z
    ·subst z; exact .inr mem_cons_self
    ·subst z; exact .inl mem_cons_self
  | false =>
   have h2 : (r.map fun (n,k)=>if (k==NameKind.free && env.scope.kind==.function && env.kindOf n==some .cell) then (n,NameKind.cell) else (n,k)).lookup x=some k':=by
    split at h' <;> (rw [lookup_cons,hx] at h'; exact h')
   rcases ih h2 with z | z
   ·exact .inl (mem_cons_of_mem _ z)
   ·exact .inr (mem_cons_of_mem _ z)
noncomputable def zh9 (scope:Scope) (outer:List (Str×NameKind)) (N Nc:LSt) (k:Nat) (js:LN) : Bool :=
 scope.names.all (fun x=>(x.2 != .free || outer.lookup x.1==some .cell || outer.lookup x.1==some .free) && x.2 != .cell && (x.2 != .local || scope.names.lookup x.1==some .local)) &&
 scope.kind==.function && Nc.length==k + js.length &&
 (List.range js.length).all (fun i=>match Nc[k + i]?,js[i]? with
  | some x,some j=>N[j]?==some x && scope.names.lookup x==some .free
  | _,_=>false)
structure zi0 (scope:Scope) (outer:List (Str×NameKind)) (N Nc:LSt) (k:Nat) (js:LN) : Prop where
 free : ∀ x∈scope.names,x.2=.free->outer.lookup x.1=some .cell\/outer.lookup x.1=some .free
 nocell : ∀ x∈scope.names,x.2≠.cell
 loc : ∀ x∈scope.names,x.2=.local->scope.names.lookup x.1=some .local
 kind : scope.kind=.function
 len : Nc.length=k + js.length
 at' : ∀ i j,js[i]?=some j->∃ x,Nc[k + i]?=some x/\N[j]?=some x/\scope.names.lookup x=some .free
variable {N Nc:LSt} {k:Nat} {js:LN}
theorem zi0.of {outer:List (Str×NameKind)} (h:zh9 scope outer N Nc k js=true) : zi0 scope outer N Nc k js:=by
 unfold zh9 at h;rw [Bool.and_eq_true,Bool.and_eq_true,Bool.and_eq_true] at h;obtain ⟨⟨⟨h1,h2⟩,h3⟩,h4⟩:=h;rw [all_eq_true] at h1 h4;refine ⟨fun x hx e=>?_,fun x hx e=>?_,fun x hx e=>?_,eq_of_beq h2,eq_of_beq h3,fun i j e=>?_⟩
 ·have:=h1 x hx;simp only [Bool.and_eq_true,Bool.or_eq_true,bne_iff_ne,beq_iff_eq] at this
  rcases this.1.1 with (z | z) | z
  ·exact absurd e z
  ·exact .inl z
  ·exact .inr z
 ·have:=h1 x hx;simp only [Bool.and_eq_true,Bool.or_eq_true,bne_iff_ne,beq_iff_eq] at this;exact this.1.2 e
 ·have:=h1 x hx;simp only [Bool.and_eq_true,Bool.or_eq_true,bne_iff_ne,beq_iff_eq] at this
  rcases this.2 with z | z
  ·exact absurd e z
  ·exact z
 ·have hi : i < js.length:=(gq e).1;have:=h4 i (mem_range.mpr hi);rw [e] at this
  cases q : Nc[k + i]? with
  | none=>rw [q] at this; cases this
  | some x =>
   rw [q] at this;simp only [Bool.and_eq_true,beq_iff_eq] at this;exact ⟨x,rfl,this.1,this.2⟩
noncomputable def zfg (k:Nat) (js:LN) (σ:St) : St:=List.replicate k none++js.map fun j=>(σ[j]?).getD none
def PTs (X:Cx) (ifs:LEx) (t:TT) : Prop :=
 ∀ (pins:PNS) (s:Shared) (σ:St) (H:Hp) (Q:Bool->Hp->Prop),Inv X pins σ H s->t σ H Q ->
  wpAny @1 X.A (forIn ifs true fun c r=>if r=true then do let ok <- isTrue c X.env (eval c X.env); pure (ForInStep.yield ok) else pure (ForInStep.yield r)) (TP X pins σ Q) X.xe s
def yk8 : TT:=fun _ H Q=>Q true H
variable {X:Cx}
theorem yh4 : PTs X [] yk8:=fun _ _ _ H _ I h=>wpAny_tests_nil ⟨H,I,h⟩
theorem yh5 {c:Expr} {t:TT} (h:PT X c t) : PTs X [c] t:=fun pins s σ H Q I q=>wpAny_tests_one (h pins s σ H Q I q)
def zrn (J:It) (g:TG) (tt:TT) (te:TE) (σ0:St) (H1:Hp) (Q:VK) : Prop :=
 ∃ W : Nat->Nat->List V->St->Hp->Prop,(∃ m,W 0 m [] σ0 H1)/\∀ i m ys σ' H',W i m ys σ' H' ->
  (J.stop i H'/\ys.length<=sizeLine/\∀ D,H1 D=none->H' D=none->Q (.ref D) (upd H' D (.lst ys))) \/
  (J.go i H'/\ys.length<=sizeLine/\∃ N : List V->St->Hp->Prop,(∀ ys' σ2 H2,N ys' σ2 H2->∃ m',m' < m/\W (i + 1) m' ys' σ2 H2) /\
   ∀ x H2,J.yld i H' x H2->g x σ' H2 fun σ3 H3=>tt σ3 H3 fun b H4=>if b=true then te σ3 H4 fun y H5=>N (ys++[y]) σ3 H5 else N ys σ3 H4)
def znk (k:Nat) (js:LN) (wi:TI) (g:TG) (tt:TT) (te:TE) : TE:=fun σ H Q=>wi σ H fun J H1=>zrn J g tt te (zfg k js σ) H1 Q
noncomputable abbrev Cx.to (X:Cx) (pn:PNS) (xe:PRS) : Cx:={ X with pn:=pn,xe:=xe }
variable {Y:Cx} {xe:PRS} {pins:PNS} {σ:St} {H:Hp}
theorem zsk {s:Shared} (I:Inv Y pins σ H s) : Inv { Y with xe:=xe } pins σ H s :=
 ⟨⟨I.ok.mod,I.ok.kind,I.ok.glob,I.ok.blt,I.ok.above,I.ok.inj,I.ok.has,I.ok.cab,I.ok.hd,I.ok.frames,I.ok.stk,I.ok.exf,I.ok.bs,I.ok.bsz,I.ok.noex,I.ok.exfs,I.ok.funs,I.ok.frf⟩,I.os,I.bare,I.base,I.loc,I.cell,I.free,I.freeC,I.pin,I.hok,I.len⟩
theorem zsj {s:Shared} (I:Inv { Y with xe:=xe } pins σ H s) : Inv Y pins σ H s :=
 ⟨⟨I.ok.mod,I.ok.kind,I.ok.glob,I.ok.blt,I.ok.above,I.ok.inj,I.ok.has,I.ok.cab,I.ok.hd,I.ok.frames,I.ok.stk,I.ok.exf,I.ok.bs,I.ok.bsz,I.ok.noex,I.ok.exfs,I.ok.funs,I.ok.frf⟩,I.os,I.bare,I.base,I.loc,I.cell,I.free,I.freeC,I.pin,I.hok,I.len⟩
variable {e:Expr} {t:TE}
theorem PE.to0 (h:PE { Y with pn:=[],xe:=E00 } e t) : PE { Y with pn:=[],xe:=xe } e t:=fun pins s σ H Q I q =>
 wpAny_mono (h pins s σ H Q (zsj (xe:=xe) I) q) (fun u s' ⟨v,H',I',r,q'⟩=>⟨v,H',zsk (xe:=xe) I',r,q'⟩) fun _ _ z=>z.elim
noncomputable abbrev zha (us:LVa) (n:Nat) : Obj:={ cls:=.type "list",data:=.seq us.toArray n }
variable {tg:Expr} {g:TG} {tt:TT} {te:TE} {H2:Hp} {s2:Shared} {it:Addr} {fp:LAd} {tn:Nat->Heap->Prop} {J:It} {cl:List (Str×Addr)} {Q:VK} {RR:Value->Addr->Result->Shared->Prop} {E:PRS}
theorem z14 {PX:Cx->Prop}
  (hc:X.calm=true) (ck:zi0 scope X.env.scope.names X.N Nc k js)
  (hg:∀ cl C ex s₂ H₂,PG @0 tg g) (ht:∀ cl C ex s₂ H₂,PTs @0 ifs tt) (he:∀ cl C ex s₂ H₂ xe,PX ((X.comp scope Nc cl C ex s₂ H₂).to [] xe)->PE ((X.comp scope Nc cl C ex s₂ H₂).to [] xe) elt te)
  (a1:∀ x c,cl.lookup x=some c->X.env.cells.lookup x=some c) (a2:∀ x,(x,NameKind.free)∈scope.names->∃ c,cl.lookup x=some c)
  (I2:Inv X pins σ H2 s2) (T:zh7 X.prog X.w X.K tg J fp it tn) (st2:tn 0 s2.heap) (f2:∀ b∈fp,zec X pins H2 b) (hW:zrn J g tt te (zfg k js σ) H2 Q)
  (hRR:∀ (D C:Addr) (s':Shared) (H':Hp),Inv X pins σ H' s'->(∃ m,s'.heap.Ns C m)->zec X pins H' C->Q (.ref D) H'->RR (.ref D) C (.ok .next) s')
  (hPX:∀ D C,s2.heap.objs.size=D->D < C->(∀ b∈frs X.stack,b < D)->PX ((X.comp scope Nc cl C fp s2 H2).to [] (notedBy @1 X.A (compEnvC scope cl C X.env) fun x s'=>RR (.ref D) C (.error x) s'))) :
  wpAny @1 X.A (newList []) (fun acc s₃=>wpAny @1 X.A (newFunctionEnv scope X.env.globals cl [] X.env.qual none .none (some X.env)) (fun cenv s₄ =>
   codeAny @1 X.A (.compStart @7 0 (.ref it) acc { cenv with scope:=relabel scope X.env }) (RR acc cenv.locals) s₄) E s₃) E s2:=by
 obtain ⟨W,⟨m0,w0⟩,turn⟩:=hW;refine wpAny_newObj_type (wpAny_newFunctionEnv ck.nocell (by intro y hy; simp at hy) (fun h₁ hns₁ hsb₁=>?_) ck.kind);dsimp only at hns₁ hsb₁ ⊢;generalize hP : s2.heap.push { cls:=.type "list",dict:=none,data:=.seq ([] : LVa).toArray }=P at hns₁ hsb₁ ⊢;generalize hD : s2.heap.objs.size=D at hP hns₁ hsb₁ ⊢;have hCs : P.objs.size=D + 1:=by rw [<- hP,Heap.size_push,hD]
 generalize hC : P.objs.size=C at hCs hns₁ hsb₁ ⊢;have hDC' : D < C:=by rw [hCs]; exact Nat.lt_succ_self _
 have hDC : D≠C:=Nat.ne_of_lt hDC';have below : ∀ b o,s2.heap.get? b=some o->b < D:=fun b o e=>hD ▸ Heap.lt_size e
 have old : ∀ b o,s2.heap.get? b=some o->h₁.get? b=some o:=fun b o e=>by
  have hb:=below b o e;exact hsb₁.extBut b o (Nat.ne_of_lt (Nat.lt_trans hb hDC')) (Heap.get?_push_of_some _ (hP ▸ Heap.get?_push_of_some _ e))
 have hDo : h₁.get? D=some (zha [] 0):=hsb₁.extBut _ _ hDC (Heap.get?_push_of_some _ (by rw [<- hP,<- hD]; exact Heap.get?_push_size _ rfl));have Hn : ∀ b,D<=b->H2 b=none:=fun b hb=>I2.hok.fresh (by omega);have fpo : ∀ b∈fp,b < D:=fun b hb=>by obtain ⟨o,e,_⟩:=T.obj 0 _ st2 b hb; exact below b o e
 have clo : ∀ x c,cl.lookup x=some c->c < D:=fun x c e=>by
  obtain ⟨v,o,ho,_⟩:=I2.cell x c (a1 x c e);exact below c o ho
 have stko : ∀ b∈frs X.stack,b < D:=fun b hb=>by
  obtain ⟨_,o,ho,_⟩:=I2.stack.mem hb;exact below b o ho
 let Y : Cx:=X.comp scope Nc cl C fp s2 H2
 have yk : Y.Ok:=by
  refine ⟨I2.ok.mod,ck.kind,I2.ok.glob,I2.ok.blt,?_,?_,?_,?_,I2.ok.hd,I2.ok.frames,.inl rfl,?_,I2.bs,?_,?_,?_,I2.stack,I2.stkFree⟩
  ·show s2.heap.objs.size<=C;omega
  ·exact fun x y c h1 h2=>I2.ok.inj x y c (a1 x c h1) (a1 y c h2)
  ·intro x hx
   have : (x,NameKind.free)∈scope.names\/(x,NameKind.cell)∈scope.names:=by
    rcases hx with hx | hx
    ·exact zxz (.inl rfl) hx
    ·exact zxz (.inr rfl) hx
   rcases this with z | z
   ·exact a2 x z
   ·exact absurd rfl (ck.nocell _ z)
  ·exact fun x c z=>nomatch z
  ·intro b hb;refine ⟨?_,fun x c e=>?_⟩
   ·exact Nat.ne_of_lt (Nat.lt_trans (fpo b hb) hDC')
   ·exact (f2 b hb).2.2.2.2.1 x c (a1 x c e)
  ·exact Nat.le_trans I2.ok.bsz I2.sz
  ·intro b o e hb
   rcases (f2 b hb).2.2.2.1 with z | z
   ·exact I2.ok.noex b o e z
   ·exact absurd (Nat.lt_of_lt_of_le (Heap.lt_size e) (Nat.le_trans I2.ok.bsz z)) (Nat.lt_irrefl _)
  ·intro b hb z
   rcases mem_cons.mp (I2.stkSub b z) with e | e
   ·exact (f2 b hb).2.1 e
   ·exact (f2 b hb).2.2.1 e
 have I4 : Inv Y [(D,zha [] 0)] (zfg k js σ) H2 { s2 with heap:=h₁,toks:=s2.toks + ([] : List (Str×Value)).length }:=by
  refine ⟨yk,rfl,I2.bare,Un.kept old,⟨_,hns₁,fun i x v e1 e2 e3=>?_⟩,fun x c e=>?_,Hn C (by omega),fun x c e=>I2.freeC x c (a1 x c e),fun p hp=>?_,I2.hok.kept old,?_⟩
  ·have e1 : Nc[i]?=some x:=e1;unfold zfg at e2
   have hik : k<=i:=by
    rcases Nat.lt_or_ge i k with z | z
    ·rw [List.getElem?_append_left (by simpa using z),List.getElem?_replicate] at e2;simp [z] at e2
    ·exact z
   rw [List.getElem?_append_right (by simpa using hik),List.getElem?_map] at e2;simp only [length_replicate] at e2
   cases q : js[i - k]? with
   | none=>rw [q] at e2; cases e2
   | some j =>
    rw [q] at e2;obtain ⟨x',q1,q2,q3⟩:=ck.at' _ _ q;rw [show k + (i - k)=i by omega,e1] at q1;cases q1;have e2 : (σ[j]?).getD none=some v:=Option.some.inj e2
    have e2' : σ[j]?=some (some v):=by
     cases z : σ[j]? with
     | none=>rw [z] at e2; cases e2
     | some y=>rw [z] at e2; rw [show y=some v from e2]
    have hmem : (x,NameKind.free)∈scope.names:=by
     have : ∀ l : List (Str×NameKind),l.lookup x=some .free->(x,NameKind.free)∈l:=by
      intro l
      induction l with
      | nil=>intro z; cases z
      | cons a l ih =>
       intro z;obtain ⟨n,kk⟩:=a;rw [lookup_cons] at z
       cases hb : x==n with
       | true =>
        rw [hb] at z;cases z
        rw [eq_of_beq hb]; exact mem_cons_self
       | false=>rw [hb] at z; exact mem_cons_of_mem _ (ih z)
     exact this _ q3
    have hout : X.env.kindOf x=some .cell\/X.env.kindOf x=some .free:=ck.free _ hmem rfl;obtain ⟨m,hn,hl⟩:=I2.loc
    have vis : Vis X.env.scope x:=by
     rcases hout with z | z
     ·exact .inr (.inl z)
     ·exact .inr (.inr z)
    obtain ⟨u,r,l⟩:=hl j x v q2 e2' vis;refine ⟨u,r,.inr ⟨zyw q3,?_⟩⟩
    rcases l with ⟨z,_⟩ | ⟨_,c,hcl,hcell⟩
    ·rcases hout with y | y <;> (rw [y] at z; cases z)
    ·obtain ⟨c',hc'⟩:=a2 x hmem;have:=a1 x c' hc';rw [hcl] at this;cases this;exact ⟨c,hc',hcell.keeps old⟩
  ·obtain ⟨v,z⟩:=I2.cell x c (a1 x c e);exact ⟨v,z.keeps old⟩
  ·have hp : p∈[(D,zha [] 0)]:=(mem_append.mp hp).elim (fun z=>nomatch (show p∈([] : PNS) from z)) id;have hp : p=(D,zha [] 0):=mem_singleton.mp hp;subst hp;refine ⟨hDo,Hn D (Nat.le_refl _),hDC,fun z=>?_,fun v z=>by cases z⟩;exact absurd (stko D z) (Nat.lt_irrefl _)
  ·show (zfg k js σ).length=Nc.length;rw [ck.len];simp [zfg]
 have st1 : tn 0 h₁:=T.keep 0 _ _ st2 fun b _ o e=>old b o e
 have fpY : ∀ {H':Hp} {p:PNS},(∀ q∈p,q.1=D)->(∀ b∈fp,H' b=none)->∀ b∈fp,zec Y p H' b:=fun {H' p} hp hn b hb=>by
  refine ⟨hn b hb,(yk.exf b hb).1,yk.exfs b hb,.inl hb,fun x c e=>(yk.exf b hb).2 x c e,fun q hq=>?_⟩;have hq : q∈p:=(mem_append.mp hq).elim (fun z=>nomatch (show q∈([] : PNS) from z)) id;rw [hp q hq];exact Nat.ne_of_gt (fpo b hb)
 let xe : Value->Shared->Prop:=notedBy @1 X.A (compEnvC scope cl C X.env) fun x s'=>RR (.ref D) C (.error x) s'
 have hp : PX (Y.to [] xe):=hPX D C hD hDC' stko
 have loop : codeAny @1 X.A (.compLoop @7 0 (.ref it) (.ref D) (compEnvC scope cl C X.env)) (RR (.ref D) C) { s2 with heap:=h₁,toks:=s2.toks + ([] : List (Str×Value)).length }:=by
  refine yaq (fun n s'=>∃ i ys us nn σ' H',Inv Y [(D,zha us nn)] σ' H' s'/\tn i s'.heap/\(∀ b∈fp,H' b=none)/\zay ys us/\W i n ys σ' H') ?_ m0
   ⟨0,[],[],0,zfg k js σ,H2,I4,st1,fun b hb=>(f2 b hb).1,.nil,w0⟩
  rintro n s3 ⟨i,ys,us,nn,σ3,H3,I3,st3,fr3,rv,w3⟩
  have one : ∀ q∈[(D,zha us nn)],q.1=D:=fun q hq=>by
   have : q=(D,zha us nn):=by simpa using hq
   rw [this]
  rcases turn i n ys σ3 H3 w3 with ⟨stop,hz,qn⟩ | ⟨go,hz,N,hN,step⟩
  ·refine thn (T.done Y rfl rfl rfl hc i _ s3 σ3 H3 _ I3 (fpY one fr3) st3 stop) fun r s4 ⟨hr,I5⟩=>?_;subst hr;show RR (.ref D) C (.ok .next) s4;obtain ⟨pD,nD,_,_,_⟩:=I5.pin (D,zha us nn) (by simp);have bs : Un (frs X.stack) fp H2 H3 s2.heap s4.heap:=I5.base;have h2D : ∀ b o,H2 b=some o->b≠D:=fun b o e z=>by rw [z,Hn D (Nat.le_refl _)] at e; cases e
   have I6 : Inv X pins σ (upd H3 D (.lst ys)) s4:=by
    refine I2.call' (ch:=fp) I5.os ⟨bs.keep,bs.slot,fun b o e n hx=>?_,bs.there,fun b xs e=>?_,fun b o u e=>?_,fun b ps e=>?_⟩ (fun b u e=>?_) I5.bare fun b hb=>?_
    ·rw [zbs (Nat.ne_of_lt (below b o e))];exact bs.free b o e n hx
    ·rw [zbs (h2D b _ e)]; exact bs.tups b xs e
    ·rw [zbs (h2D b _ e)]; exact bs.frzs b o u e
    ·rw [zbs (h2D b _ e)]; exact bs.tbls b ps e
    ·by_cases hb : b=D
     ·subst hb;rw [zb8] at e;cases e;exact ⟨hz,us,nn,rv,pD⟩
     ·rw [zbs hb] at e;exact (I5.hok b u e).stay (fun c v _ q=>q) (fun c q=>by rw [zbs (zfd q nD)]; exact q) fun c xs q=>by rw [zbs (zfd q nD)]; exact q
    ·obtain ⟨_,f1,_,f3,f4,f5⟩:=f2 b hb;exact ⟨f3,f1,f4,f5⟩
   obtain ⟨m,hn,_⟩:=I5.loc;refine hRR D C s4 _ I6 ⟨m,hn⟩ (I2.fpOk (by omega) ?_) (qn D (Hn D (Nat.le_refl _)) nD);rw [zbs hDC.symm];exact I5.free
  ·refine thn (T.item Y rfl rfl rfl hc i _ s3 σ3 H3 _ I3 (fpY one fr3) st3 go) fun r s4 q_=>?_;obtain ⟨u,hr,h4⟩:=q_;subst hr;refine thn h4 fun _ s5 q_=>?_;obtain ⟨x,H5,I5,r5,y5,st5,fr5⟩:=q_;have I5':=I5.pinned (fpY one fr5) (T.obj _ _ st5);refine wpAny_mono (hg cl C fp s2 H2 _ s5 σ3 H5 x u _ I5' r5 (step x H5 y5)) (fun _ s6 ⟨σ6,H6,I6,q6⟩=>?_) fun _ _ z=>z.elim;refine wpAny_mono (ht cl C fp s2 H2 _ s6 σ6 H6 _ I6 q6) (fun b s7 ⟨H7,I7,q7⟩=>?_) fun _ _ z=>z.elim
   have kp : ∀ {H8:Hp} {s8:Shared},Inv Y ([(D,zha us nn)]++zpv fp s5.heap) σ6 H8 s8->tn (i + 1) s8.heap/\(∀ b∈fp,H8 b=none):=fun {H8 s8} I8=>by
    refine ⟨T.keep _ _ _ st5 fun b hb o e=>(I8.pin (b,o) (mem_append_right _ (mem_append_right _ (zpk hb e)))).1,fun b hb=>?_⟩;obtain ⟨o,e,d⟩:=T.obj _ _ st5 b hb;exact (I8.pin (b,o) (mem_append_right _ (mem_append_right _ (zpk hb e)))).2.1
   cases b with
   | false =>
    rw [if_neg fq] at q7 ⊢;obtain ⟨m',hm,w7⟩:=hN _ _ _ q7;obtain ⟨st7,fr7⟩:=kp I7
    exact ⟨m',hm,i + 1,ys,us,nn,σ6,H7,I7.unpinned,st7,fr7,rv,w7⟩
   | true =>
    rw [if_pos rfl] at q7 ⊢;refine thn (he cl C fp s2 H2 xe hp _ s7 σ6 H7 _ (zsk I7) q7) fun uy s8 q_=>?_;obtain ⟨y,H8,I8',r8,q8⟩:=q_;have I8:=zsj I8';obtain ⟨m',hm,w8⟩:=hN _ _ _ q8;obtain ⟨st8,fr8⟩:=kp I8;obtain ⟨pD,nD,pC,pF,_⟩:=I8.pin (D,zha us nn) (by simp);have hl:=rv.length
    refine wpAny_list_append_plain (items:=us.toArray) ⟨nn,pD⟩ (fun h' hl' sb=>?_) (by simp only [size_toArray] <;> omega)
    obtain ⟨n',e'⟩:=hl';have I8n : Inv Y [] σ6 H8 s8:=I8.pins_of (fun _ z=>nomatch z)
    have I9 : Inv Y [] σ6 H8 { s8 with heap:=h' }:=I8n.turned (t':=s8.toks) (it:=D) (fun b o hb e=>(sb.2 b hb).trans e) nD pC (.inr (by show s2.heap.objs.size<=D; omega)) (fun x c e=>Nat.ne_of_lt (clo x c e)) (fun p hp=>nomatch hp)
    refine ⟨m',hm,i + 1,ys++[y],us++[uy],n',σ6,H8,I9.pins_of (fun p hp=>?_),?_,fr8,rv.append (.cons r8 .nil),w8⟩
    ·have hp : p=(D,zha (us++[uy]) n'):=by simpa using hp
     subst hp;refine ⟨?_,nD,pC,pF,fun v z=>by cases z⟩;have e2 : h'.get? D=some { cls:=.type "list",data:=.seq (us.toArray.push uy) n' }:=e';show h'.get? D=some { cls:=.type "list",data:=.seq (us++[uy]).toArray n' };rw [e2];simp
    ·exact T.keep _ _ _ st8 fun b hb o e=>(sb.2 b (Nat.ne_of_lt (fpo b hb))).trans e
 exact codeAny_compStart_list loop (T.self X.A 0 _ _ _ st1 loop)
theorem z13
  (hc:X.calm=true) (ck:zi0 scope X.env.scope.names X.N Nc k js)
  (hg:∀ cl C ex s₂ H₂,PG @0 tg g) (ht:∀ cl C ex s₂ H₂,PTs @0 ifs tt) (he:∀ cl C ex s₂ H₂,PE @0 elt te)
  (a1:∀ x c,cl.lookup x=some c->X.env.cells.lookup x=some c) (a2:∀ x,(x,NameKind.free)∈scope.names->∃ c,cl.lookup x=some c)
  (I2:Inv X pins σ H2 s2) (T:zh7 X.prog X.w X.K tg J fp it tn) (st2:tn 0 s2.heap) (f2:∀ b∈fp,zec X pins H2 b) (hW:zrn J g tt te (zfg k js σ) H2 Q)
  (hRR:∀ (D C:Addr) (s':Shared) (H':Hp),Inv X pins σ H' s'->(∃ m,s'.heap.Ns C m)->zec X pins H' C->Q (.ref D) H'->RR (.ref D) C (.ok .next) s') :
  wpAny @1 X.A (newList []) (fun acc s₃=>wpAny @1 X.A (newFunctionEnv scope X.env.globals cl [] X.env.qual none .none (some X.env)) (fun cenv s₄ =>
   codeAny @1 X.A (.compStart @7 0 (.ref it) acc { cenv with scope:=relabel scope X.env }) (RR acc cenv.locals) s₄) E s₃) E s2 :=
 z14 (PX:=fun _=>True) hc ck hg ht (fun cl C ex s₂ H₂ xe _=>PE.to0 (he cl C ex s₂ H₂)) a1 a2 I2 T st2 f2 hW hRR fun _ _ _ _ _=>trivial
variable {wi:TI}
theorem z57 (k:Nat) (js:LN) (Nc:LSt) (hc:X.calm=true) (hi:PI X tg iter wi)
  (hg:∀ cl C ex s₂ H₂,PG @0 tg g) (ht:∀ cl C ex s₂ H₂,PTs @0 ifs tt) (he:∀ cl C ex s₂ H₂,PE @0 elt te)
  (ck:zh9 scope X.env.scope.names X.N Nc k js=true:=by rfl) (hs:∀ x,foldedSetIterable iter X.env x=pure x:=by intro _; rfl) :
  PE X @7 (znk k js wi g tt te):=by
 intro pins s σ H Q I h;have ck:=zi0.of ck;rw [eval_ListComp];obtain ⟨cl,hcl,a1,a2⟩:=zvw (scope:=scope) (env:=X.env) fun x hx e=>I.ok.has x.1 (ck.free x hx e);refine wpAny_comprehension_free (use:=none) rfl hs hcl ck.kind ck.loc (thn (hi pins s σ H _ I h) fun v s1 h1=>thn h1 fun itv s2 h2=>?_);obtain ⟨it,fp,tn,J,H2,e,I2,T,st2,f2,hW⟩:=h2;subst e;refine z13 (RR:=fun acc C=>compPost @1 X.A X.xe none (EP X pins σ Q) acc C) hc ck hg ht he a1 a2 I2 T st2 f2 hW fun D C s' H' I' ⟨m,hn⟩ fC q=>?_;obtain ⟨f0,f1,_,f3,f4,f5⟩:=fC;exact ⟨m,hn,fun h' hs'=>⟨.ref D,H',I'.turned (t':=s'.toks) (fun b o hb e=>(hs'.2 b hb).trans e) f0 f1 f3 f4 f5,rfl,q⟩⟩
variable {i:Nat} {x:Str} {pos' spos:Pos}
theorem yh2 (k:Nat) (js:LN) (Nc:LSt) (hN:X.N.Nodup) (hi':X.N[i]?=some x) (hx:Loc X.env.scope x) (hc:X.calm=true) (hi:PI X tg iter wi)
  (hg:∀ cl C ex s₂ H₂,PG @0 tg g) (ht:∀ cl C ex s₂ H₂,PTs @0 ifs tt) (he:∀ cl C ex s₂ H₂,PE @0 elt te)
  (hsw:swapsWith @7 (some (.Name x pos')) spos.line X.env=pure true:=by rfl)
  (ck:zh9 scope X.env.scope.names X.N Nc k js=true:=by rfl) (hs:∀ x,foldedSetIterable iter X.env x=pure x:=by intro _; rfl)
  (hf:LcF X x:=by first | exact .inl rfl | exact .inr rfl | assumption) :
  PS X (.Assign [.Name x pos'] @7 spos) (zj1 (znk k js wi g tt te) (zjg i)):=by
 intro pins s σ H D I h;have ck:=zi0.of ck;rw [exec_Assign_Name_used _ _ _ _ hsw];refine wpAny_bind (wpAny_standAt (wpAny_bind ?_))
 show wpAny _ X.A (do let _ <- comprehension @7 scope X.env _ (newList []) false (eval iter X.env) (some (assign (.Name x pos') X.env))) _ _ s
 obtain ⟨cl,hcl,a1,a2⟩:=zvw (scope:=scope) (env:=X.env) fun x hx e=>I.ok.has x.1 (ck.free x hx e)
 refine wpAny_bind (wpAny_mono (wpAny_comprehension_free (use:=some (assign (.Name x pos') X.env)) (Q:=fun _ s'=>SP X pins D .next s') rfl hs hcl ck.kind ck.loc
  (thn (hi pins s σ H _ I h) fun v s1 h1=>thn h1 fun itv s2 h2=>?_)) (fun _ s' hq=>wpAny_pure (wpAny_pure hq)) fun _ _ e=>e)
 obtain ⟨it,fp,tn,J,H2,e,I2,T,st2,f2,hW⟩:=h2;subst e;refine z13 (RR:=fun acc C=>compPost @1 X.A X.xe (some (assign (.Name x pos') X.env)) (fun _ s'=>SP X pins D .next s') acc C) hc ck hg ht he a1 a2 I2 T st2 f2 hW fun D' C s' H' I' ⟨m,hn⟩ fC q=>?_;obtain ⟨f0,f1,f2',f3,f4,f5⟩:=fC;show wpAny _ X.A (assign (.Name x pos') X.env (.ref D')) _ _ _;refine wpAny_assign_Name (z8o (v:=.ref D') I' hN hi' hx rfl (fun s'' I'' ⟨a,sb,ha⟩=>?_) hf)
 have hCa : C≠a:=by
  rcases ha with z | z
  ·rw [z]; exact f1
  ·exact (f4 x a z).symm
 exact ⟨m,hn.sameBut sb hCa,fun h' hs'=>⟨_,H',I''.turned (t':=s''.toks) (fun b o hb e=>(hs'.2 b hb).trans e) f0 f1 f3 f4 f5,q⟩⟩
theorem yah : zgg X (.builtin "isinstance") (fun xs H Q=>∃ x T t b,xs=[x,.ty T]/\zgj X.K H x t/\W.kitOne X.K t (.type T)=some b/\Q (.bl b) H):=by
 intro pins s σ H xs us Q I r h;obtain ⟨x,T,t,b,rfl,ty,e,q⟩:=h;obtain ⟨u,w',rfl,rx,rc⟩:=zqj r;cases (show w'=Value.type T from rc);exact ydl I rx ty e fun tk=>⟨.bl b,H,I.tok tk,rfl,q⟩
variable {xs:List V}
theorem zay.at' {us:LVa} {u:Value} (r:zay xs us) (e:us[i]?=some u) : ∃ x,xs[i]?=some x/\za7 x u:=by
 have hl:=r.length;have hi : i < xs.length:=by have:=(gq e).1; omega
 refine ⟨xs[i],by simp [hi],?_⟩;obtain ⟨u',e',r'⟩:=r.get (i:=i) (x:=xs[i]) (by simp [hi]);rw [e] at e'; cases e'; exact r'
theorem znc {env:Env} {k':NameKind} (hk:k'≠.free) : ∀ {names:List (Str×NameKind)} {x:Str},names.lookup x=some k' ->
  (names.map fun (n,k)=>if (k==NameKind.free && env.scope.kind==.function && env.kindOf n==some .cell) then (n,NameKind.cell) else (n,k)).lookup x=some k'
 | [],_,h=>by simp at h
 | (n,k)::r,x,h=>by
  have ih:=@znc env k' hk r x;rw [map_cons];show List.lookup x ((if @4=true then (n,NameKind.cell) else (n,k))::_)=_;rw [lookup_cons] at h
  cases hx : x==n with
  | true =>
   rw [hx] at h;have e : k=k':=Option.some.inj h;subst e;have hf : (k==NameKind.free)=false:=by simpa using hk
   rw [hf,Bool.false_and,Bool.false_and,if_neg fq,lookup_cons,hx]
  | false =>
   rw [hx] at h;split
   ·rw [lookup_cons,hx]; exact ih h
   ·rw [lookup_cons,hx]; exact ih h
theorem ylu (h:Vis scope x) : Vis (relabel scope env) x:=by
 rcases h with h | h | h
 ·exact .inl (znc (by decide) h)
 ·exact .inr (.inl (znc (by decide) h))
 ·rcases zyw (env:=env) h with z | z
  ·exact .inr (.inl z)
  ·exact .inr (.inr z)
variable {C:Addr} {ex:LAd} {s₂:Shared} {H₂:Hp}
theorem pvc (i:Nat) (hN:Nc[i]?=some x:=by rfl) (hv:Vis scope x:=by first | exact Or.inl rfl | exact Or.inr (Or.inl rfl) | exact Or.inr (Or.inr rfl)) (hd:NDb x:=by decide)
  (hcd:NCd x:=by decide) : PE @0 (.Name x pos) (zc2 i):=ziq hN (ylu hv) hd hcd
theorem pgc (i:Nat) (hN:Nc.Nodup:=by decide +kernel) (hi:Nc[i]?=some x:=by rfl) (hl:scope.names.lookup x=some .local:=by rfl) : PG @0 (.Name x pos) (zjg i) :=
 z6a (X:=X.comp scope Nc cl C ex s₂ H₂) hN hi (.inl (znc (by decide) hl)) (.inr (znc (by decide) hl))
theorem glc (h:scope.names.lookup x=some .globalImplicit) : Gl @0 x:=znc (env:=X.env) (by decide) h
variable {p:Addr} {o:HO}
theorem zc9 (h:H p=none) : zav H (upd H p o):=fun b u e=>by rw [zbs (zfd e h)]; exact e
variable {K:W.Frag} {H':Hp} {a:Addr}
theorem zav.tup (e:zav H H') (h:SqT K H a xs) : SqT K H' a xs:=by
 rcases h with (h | ⟨o,h⟩) | h
 ·exact .inl (.inl (e _ _ h))
 ·exact .inl (.inr ⟨o,e _ _ h⟩)
 ·exact .inr h
noncomputable def z9f (p:Option Bool->Bool) (es:List (Option Bool)) (its:List (Int×Int)) : Int:=((its.filter fun z=>p (es.getD z.1.toNat none)).map (·.2)).sum
inductive Prt where
 | inn (t:Int) | out (t:Int) | least (k:Int) (its:List (Int×Int)) | most (k:Int) (its:List (Int×Int))
noncomputable def bs (l:List Bool) : List (Option Bool):=l.map some
noncomputable def Prt.holds (rs ws:List Bool) : Prt->Bool
 | .inn t=>(rs.getD t.toNat false)
 | .out t=>!(ws.getD t.toNat false)
 | .least k its=>decide (k<=z9f (·==some true) (bs rs) its)
 | .most k its=>decide (z9f (·==some true) (bs ws) its<=k)
variable {h':Heap}
section
variable {s:Shared}
theorem Inv.turnedMany {t':Nat} {ch:LAd} (I:Inv X pins σ H s) (k:∀ b o,b∉ch->s.heap.get? b=some o->h'.get? b=some o) (hf:∀ b∈ch,zec X pins H b) : Inv X pins σ H { s with heap:=h',toks:=t' }:=by
 refine I.step (g':=s.gens) (d':=s.drawn) (ch:=ch) (fun b hb=>?_) (fun b o _ _ hc e _=>k b o hc e) (fun b o _ _ hc e _=>⟨o.slots,k b o hc e⟩) (fun _ _ _ _ n=>n)
  (fun b o hc e=>⟨o,k b o hc e⟩) (fun _ _ e=>e) (fun _ _ _ e=>e) (fun b ps e=>⟨#[],by rw [e]; simp⟩) (fun m hm=>?_) (fun b u e=>?_) I.bare
 ·obtain ⟨_,f1,_,f3,f4,f5⟩:=hf b hb;exact ⟨f3,f1,f4,f5⟩
 ·obtain ⟨o,es,ep,ho,r⟩:=hm;exact ⟨o,es,ep,k _ o (fun z=>(hf _ z).2.1 rfl) ho,r⟩
 ·refine (I.hok b u e).stay (fun c v hc q=>k c v (fun z=>?_) q) (fun _ q=>q) fun _ _ q=>q;have hn:=(hf c z).1
  rcases hc with y | y
  ·rw [y,e] at hn; cases hn
  ·rw [hn] at y; cases y
end
section
variable {s:Shared}
theorem Inv.track (I:Inv X pins σ H s) (f:zec X pins H p) (ob:zd5 X.prog X.w (upd H p o) s.heap p o) : Inv X pins σ (upd H p o) s:=by
 obtain ⟨f0,f1,f2,f3,f4,f5⟩:=f;have ne : ∀ b u,H b=some u->b≠p:=fun b u e=>zfd e f0;have one : ∀ b : Addr,b∉[p]->b≠p:=fun b hb z=>hb (by rw [z]; simp)
 refine I.step (g':=s.gens) (d':=s.drawn) (t':=s.toks) (h':=s.heap) (ch:=[p]) (fun b hb=>?_) (fun b o _ _ hc e _=>e) (fun b o _ _ hc e _=>⟨o.slots,e⟩) (fun b o hc e n=>?_)
  (fun b o hc e=>⟨o,e⟩) (fun b xs e=>?_) (fun b o u e=>?_) (fun b ps e=>⟨#[],?_⟩) (fun m hm=>hm) (fun b u e=>?_) I.bare
 ·have e : b=p:=by simpa using hb
  subst e;exact ⟨f3,f1,f4,f5⟩
 ·rw [zbs (one b hc)]; exact n
 ·rw [zbs (ne b _ e)]; exact e
 ·rw [zbs (ne b _ e)]; exact e
 ·rw [zbs (ne b _ e),e]; simp
 ·by_cases hb : b=p
  ·subst hb;rw [zb8] at e;cases e;exact ob
  ·rw [zbs hb] at e;exact (I.hok b u e).stay (fun c v _ q=>q) (fun c q=>by rw [zbs (ne c _ q)]; exact q) fun c xs q=>by rw [zbs (ne c _ q)]; exact q
end
inductive D where
 | non
 | bl (b:Bool)
 | int (i:Int)
 | str (x:Str)
 | lst (xs:List D)
 | tup (xs:List D)
 | kl (xs:List D)
 | kt (xs:List D)
 | ins (c:Str) (ns:LSt) (xs:List D)
 deriving Inhabited
abbrev OD:=Option D
abbrev LD:=List D
abbrev OLD:=Option LD
set_option genInjectivity false in
structure Gc where
 K : W.Frag
 cl : Str->Addr
mutual
def Rep (G:Gc) (H:Hp) : D->V->Prop
 | .non,v=>v=.non
 | .bl b,v=>v=.bl b
 | .int i,v=>v=.int i
 | .str x,v=>v=.str x
 | .lst ds,v=>∃ a vs,v=.ref a/\H a=some (.lst vs)/\zan G H ds vs
 | .tup ds,v=>∃ a vs,v=.ref a/\H a=some (.tup vs)/\zan G H ds vs
 | .kl ds,v=>∃ a vs,v=.ref a/\SqL G.K H a vs/\zan G H ds vs
 | .kt ds,v=>∃ a vs,v=.ref a/\SqT G.K H a vs/\zan G H ds vs
 | .ins c ns ds,v=>∃ a dx vs,v=.ref a/\H a=some (.ins (G.cl c) dx (ns.zip vs))/\ns.length=vs.length/\zan G H ds vs
def zan (G:Gc) (H:Hp) : LD->List V->Prop
 | [],vs=>vs=[]
 | d::ds,vs=>∃ v r,vs=v::r/\Rep G H d v/\zan G H ds r
end
mutual
theorem Rep.upM (s:zav H H') : ∀ (d:D) (v:V),Rep G H d v->Rep G H' d v
 | .non,_,h=>h
 | .bl _,_,h=>h
 | .int _,_,h=>h
 | .str _,_,h=>h
 | .lst ds,_,⟨a,vs,e,q,r⟩=>⟨a,vs,e,s _ _ q,zan.upM s ds vs r⟩
 | .tup ds,_,⟨a,vs,e,q,r⟩=>⟨a,vs,e,s _ _ q,zan.upM s ds vs r⟩
 | .kl ds,_,⟨a,vs,e,q,r⟩=>⟨a,vs,e,s.seq q,zan.upM s ds vs r⟩
 | .kt ds,_,⟨a,vs,e,q,r⟩=>⟨a,vs,e,s.tup q,zan.upM s ds vs r⟩
 | .ins _ _ ds,_,⟨a,dx,vs,e,q,l,r⟩=>⟨a,dx,vs,e,s _ _ q,l,zan.upM s ds vs r⟩
theorem zan.upM (s:zav H H') : ∀ (ds:LD) (vs:List V),zan G H ds vs->zan G H' ds vs
 | [],_,h=>h
 | d::ds,_,⟨v,r,e,h1,h2⟩=>⟨v,r,e,Rep.upM s d v h1,zan.upM s ds r h2⟩
end
variable {G:Gc} {d:D} {v:V}
theorem Rep.up (r:Rep G H d v) (s:zav H H') : Rep G H' d v:=Rep.upM s d v r
variable {ds:LD} {vs:List V}
theorem zan.up (r:zan G H ds vs) (s:zav H H') : zan G H' ds vs:=zan.upM s ds vs r
theorem zan.nil : zan G H [] []:=rfl
theorem zan.cons (h:Rep G H d v) (t:zan G H ds vs) : zan G H (d::ds) (v::vs):=⟨v,vs,rfl,h,t⟩
theorem zan.length : ∀ {ds:LD} {vs:List V},zan G H ds vs->ds.length=vs.length
 | [],_,h=>by cases (show _=[] from h); rfl
 | d::ds,_,⟨v,r,e,_,h⟩=>by subst e; simp [zan.length h]
theorem zan.append : ∀ {ds es:LD} {vs us:List V},zan G H ds vs->zan G H es us->zan G H (ds++es) (vs++us)
 | [],_,_,_,h,t=>by cases (show _=[] from h); exact t
 | d::ds,_,_,_,⟨v,r,e,h1,h2⟩,t=>by subst e; exact ⟨v,r++_,rfl,h1,zan.append h2 t⟩
theorem zan.get : ∀ {ds:LD} {vs:List V} {i:Nat} {d:D},zan G H ds vs->ds[i]?=some d->∃ v,vs[i]?=some v/\Rep G H d v
 | [],_,_,_,_,e=>by simp at e
 | d::ds,_,0,_,⟨v,r,e,h1,_⟩,e'=>by subst e; simp at e'; subst e'; exact ⟨v,rfl,h1⟩
 | d::ds,_,i + 1,d',q4_,e'=>by
  obtain ⟨v,r,e,_,h2⟩:=q4_;subst e;obtain ⟨u,a,b⟩:=zan.get (i:=i) (d:=d') h2 (by simpa using e');exact ⟨u,by simpa using a,b⟩
theorem zan.get' : ∀ {ds:LD} {vs:List V} {i:Nat} {v:V},zan G H ds vs->vs[i]?=some v->∃ d,ds[i]?=some d/\Rep G H d v:=fun {ds vs i v} h e=>by
 have hl:=h.length;have hi : i < ds.length:=by have:=(gq e).1; omega
 obtain ⟨u,a,b⟩:=h.get (i:=i) (d:=ds[i]) (by simp [hi]);rw [e] at a; cases a;exact ⟨ds[i],by simp [hi],b⟩
theorem zan.ints : ∀ (ns:List Int),zan G H (ns.map D.int) (ns.map V.int)
 | []=>rfl
 | n::ns=>⟨_,_,rfl,rfl,zan.ints ns⟩
theorem zan.take : ∀ {ds:LD} {vs:List V} (n:Nat),zan G H ds vs->zan G H (ds.take n) (vs.take n)
 | _,_,0,_=>rfl
 | [],_,n + 1,h=>by cases (show _=[] from h); rfl
 | d::ds,_,n + 1,⟨v,r,e,h1,h2⟩=>by subst e; exact ⟨v,r.take n,rfl,h1,zan.take n h2⟩
theorem zan.drop : ∀ {ds:LD} {vs:List V} (n:Nat),zan G H ds vs->zan G H (ds.drop n) (vs.drop n)
 | _,_,0,h=>h
 | [],_,n + 1,h=>by cases (show _=[] from h); rfl
 | d::ds,_,n + 1,⟨v,r,e,h1,h2⟩=>by subst e; exact zan.drop n h2
theorem zan.set : ∀ {ds:LD} {vs:List V} (i:Nat) {d:D} {v:V},zan G H ds vs->Rep G H d v->zan G H (ds.set i d) (vs.set i v)
 | [],_,_,_,_,h,_=>by cases (show _=[] from h); exact .nil
 | e::ds,_,0,_,_,⟨v,r,e',_,h2⟩,q=>by subst e'; exact ⟨_,r,rfl,q,h2⟩
 | e::ds,_,i + 1,_,_,⟨v,r,e',h1,h2⟩,q=>by subst e'; exact ⟨v,r.set i _,rfl,h1,zan.set i h2 q⟩
noncomputable def z03 : HO->Bool
 | .tup _=>true
 | _=>false
structure Ext (Hf H Hf' H':Hp) : Prop where
 f : zav Hf Hf'
 h : zav H H'
 s : zav Hf' H'
 n : ∀ l o,H l=some o->z03 o=false->Hf' l=Hf l
variable {Hf:Hp}
theorem Ext.refl (s:zav Hf H) : Ext Hf H Hf H:=⟨zav.refl _,zav.refl _,s,fun _ _ _ _=>rfl⟩
variable {Hf1 H1 Hf2:Hp}
theorem Ext.trans (a:Ext Hf H Hf1 H1) (b:Ext Hf1 H1 Hf2 H2) : Ext Hf H Hf2 H2:=⟨a.f.trans b.f,a.h.trans b.h,b.s,fun l o e t=>(b.n l o (a.h l o e) t).trans (a.n l o e t)⟩
theorem Ext.new (s:zav Hf H) (h:H p=none) : Ext Hf H (upd Hf p o) (upd H p o) :=
 ⟨zc9 (s.free h),zc9 h,fun b u e=>by
  by_cases hb : b=p
  ·subst hb; rw [zb8] at e ⊢; exact e
  ·rw [zbs hb] at e ⊢; exact s b u e,fun l u e _=>by rw [zbs (zfd e h)]⟩
theorem Ext.tmp (s:zav Hf H) (h:H p=none) : Ext Hf H Hf (upd H p o):=⟨zav.refl _,zc9 h,s.trans (zc9 h),fun _ _ _ _=>rfl⟩
theorem Ext.grow (s:zav Hf H) (g:zav H H1) : Ext Hf H Hf H1:=⟨zav.refl _,g,s.trans g,fun _ _ _ _=>rfl⟩
theorem Ext.fix (a:Ext Hf H Hf1 H1) (hn:H p=none) (hf:Hf1 p=none) (hp:H1 p=some o) : Ext Hf H (upd Hf1 p o) H1 :=
 ⟨a.f.trans (zc9 hf),a.h,fun b u e=>by
  by_cases hb : b=p
  ·subst hb; rw [zb8] at e; rw [hp]; exact e
  ·rw [zbs hb] at e; exact a.s b u e,fun l u e t=>by rw [zbs (zfd e hn)]; exact a.n l u e t⟩
inductive Sl where
 | no
 | im (d:D)
 | own (xs:LD)
 | obj (c:Str) (ns:LSt) (xs:LD)
 | pin (l:Addr) (xs:LD)
 | pino (l:Addr) (c:Str) (ns:LSt) (xs:LD)
 | val (u:V)
abbrev LS:=List Sl
noncomputable abbrev nZ {α : Type} : LS->Option (List α):=fun _=>some []
noncomputable abbrev kY : LS->Option Bool:=fun _=>some true
noncomputable abbrev kN : LS->OD:=fun _=>some .non
noncomputable abbrev kI (i:Int) : LS->OD:=fun _=>some (.int i)
noncomputable abbrev kSt (x:Str) : LS->OD:=fun _=>some (.str x)
noncomputable abbrev kBl (b:Bool) : LS->OD:=fun _=>some (.bl b)
abbrev MF1:=LS->OD
abbrev MF2:=LS->OLD
abbrev MF4:=LS->Option Bool
noncomputable def Sl.isOwn : Sl->Bool
 | .own _=>true
 | .obj _ _ _=>true
 | .pin _ _=>true
 | .pino _ _ _ _=>true
 | _=>false
noncomputable def Sl.calm : Sl->Bool
 | .no=>true
 | .im _=>true
 | _=>false
def zgi (G:Gc) (Hf H:Hp) (l:Addr) : Sl->Prop
 | .own ds=>∃ vs,H l=some (.lst vs)/\zan G Hf ds vs
 | .obj c ns ds=>∃ dx vs,H l=some (.ins (G.cl c) dx (ns.zip vs))/\ns.length=vs.length/\zan G Hf ds vs
 | .pin l0 ds=>l=l0/\∃ vs,H l=some (.lst vs)/\zan G Hf ds vs
 | .pino l0 c ns ds=>l=l0/\∃ dx vs,H l=some (.ins (G.cl c) dx (ns.zip vs))/\ns.length=vs.length/\zan G Hf ds vs
 | _=>False
variable {l:Addr}
theorem zgi.there2 {s:Sl} (h:zgi G Hf H l s) : ∃ o,H l=some o/\z03 o=false:=by
 cases s with
 | own ds=>obtain ⟨vs,h,_⟩:=h; exact ⟨_,h,rfl⟩
 | obj c ns ds=>obtain ⟨dx,vs,h,_⟩:=h; exact ⟨_,h,rfl⟩
 | pin l0 ds=>obtain ⟨_,vs,h,_⟩:=h; exact ⟨_,h,rfl⟩
 | pino l0 c ns ds=>obtain ⟨_,dx,vs,h,_⟩:=h; exact ⟨_,h,rfl⟩
 | _=>exact h.elim
variable {Hf':Hp}
theorem zgi.up {s:Sl} (h:zgi G Hf H l s) (f:zav Hf Hf') (e:∀ o,H l=some o->H' l=some o) : zgi G Hf' H' l s:=by
 cases s with
 | own ds=>obtain ⟨vs,h,r⟩:=h; exact ⟨vs,e _ h,r.up f⟩
 | obj c ns ds=>obtain ⟨dx,vs,h,z,r⟩:=h; exact ⟨dx,vs,e _ h,z,r.up f⟩
 | pin l0 ds=>obtain ⟨q,vs,h,r⟩:=h; exact ⟨q,vs,e _ h,r.up f⟩
 | pino l0 c ns ds=>obtain ⟨q,dx,vs,h,z,r⟩:=h; exact ⟨q,dx,vs,e _ h,z,r.up f⟩
 | _=>exact h.elim
def zfy (G:Gc) (H0 Hf H:Hp) (v:Option V) : Sl->Prop
 | .no=>True
 | .im d=>∃ u,v=some u/\Rep G Hf d u
 | .val u=>v=some u
 | s=>∃ l,v=some (.ref l)/\H0 l=none/\Hf l=none/\zgi G Hf H l s
variable {H0:Hp}
theorem zfy.own {v:Option V} {s:Sl} (hs:s.isOwn=true) (h:zfy G H0 Hf H v s) : ∃ l,v=some (.ref l)/\H0 l=none/\Hf l=none/\zgi G Hf H l s:=by
 cases s <;> first | exact h | cases hs
theorem zfy.ofOwn {v:Option V} {s:Sl} (hs:s.isOwn=true) (h:∃ l,v=some (.ref l)/\H0 l=none/\Hf l=none/\zgi G Hf H l s) : zfy G H0 Hf H v s:=by
 cases s <;> first | exact h | cases hs
def Holds (G:Gc) (Hf H:Hp) (s:Sl) (v:V) (a:Addr) : Prop:=match s with
 | s=>s.isOwn=true/\v=.ref a
theorem Holds.own {s:Sl} (hs:s.isOwn=true) : Holds G Hf H s v a↔v=.ref a:=by
 cases s <;> first | exact ⟨fun h=>h.2,fun h=>⟨rfl,h⟩⟩ | cases hs
theorem Holds.calm {s:Sl} (h:Holds G Hf H s v a) (hs:s.calm=true) : False:=by
 cases s <;> first | exact Bool.noConfusion h.1 | cases hs
theorem zfy.back {s:Sl} (q:zfy G H0 Hf H (some v) s) (h:Holds G Hf' H' s v a) : Holds G Hf H s v a:=by
 cases s with
 | _=>exact h
theorem zfy.there {s:Sl} (q:zfy G H0 Hf H (some v) s) (h:Holds G Hf H s v a) : ∃ o,H a=some o/\z03 o=false:=by
 cases hs : s.isOwn with
 | true =>
  obtain ⟨l,e,_,_,ho⟩:=q.own hs;have e2:=(Holds.own hs).mp h;cases e;cases e2
  exact ho.there2
 | false =>
  cases s with
  | _=>first | exact Bool.noConfusion h.1 | cases hs
structure zao (G:Gc) (Hf0 H0 Hf H:Hp) (σ:St) (ρ:LS) : Prop where
 ext : Ext Hf0 H0 Hf H
 len : σ.length=ρ.length
 at' : ∀ (i:Nat) (v:Option V) (s:Sl),σ[i]?=some v->ρ[i]?=some s->zfy G H0 Hf H v s
 dj : ∀ (i j:Nat) (s t:Sl) (v w:V) (a:Addr),ρ[i]?=some s->ρ[j]?=some t->σ[i]?=some (some v)->σ[j]?=some (some w)->Holds G Hf H s v a->Holds G Hf H t w a->i=j
variable {Hf0:Hp} {ρ:LS}
theorem zao.sub (h:zao G Hf0 H0 Hf H σ ρ) : zav Hf H:=h.ext.s
theorem zao.inj (h:zao G Hf0 H0 Hf H σ ρ) (i j:Nat) (s t:Sl) (l:Addr) (a:ρ[i]?=some s) (b:ρ[j]?=some t) (hs:s.isOwn=true) (ht:t.isOwn=true) (c:σ[i]?=some (some (.ref l))) (d:σ[j]?=some (some (.ref l))) : i=j :=
 h.dj i j s t _ _ l a b c d ((Holds.own hs).mpr rfl) ((Holds.own ht).mpr rfl)
variable {ρ':LS}
theorem zao.re {Hf0' H0':Hp} (h:zao G Hf0 H0 Hf H σ ρ) (x:Ext Hf0' H0' Hf' H') (hl:ρ'.length=ρ.length) (ha:∀ (i:Nat) (v:Option V) (s:Sl),σ[i]?=some v->ρ'[i]?=some s->zfy G H0' Hf' H' v s)
  (hd:∀ (i:Nat) (s:Sl) (v:V) (a:Addr),ρ'[i]?=some s->σ[i]?=some (some v)->Holds G Hf' H' s v a->∃ t,ρ[i]?=some t/\Holds G Hf H t v a) : zao G Hf0' H0' Hf' H' σ ρ' :=
 ⟨x,h.len.trans hl.symm,ha,fun i j s t v w a b c e f p q=>by
  obtain ⟨s0,b0,p0⟩:=hd i s v a b e p;obtain ⟨t0,c0,q0⟩:=hd j t w a c f q;exact h.dj i j s0 t0 v w a b0 c0 e f p0 q0⟩
theorem zao.step (h:zao G Hf0 H0 Hf H σ ρ) (e:Ext Hf H Hf' H') : zao G Hf0 H0 Hf' H' σ ρ:=by
 refine h.re (h.ext.trans e) rfl (fun i v s a b=>?_) fun i s v a b c d=>⟨s,b,(h.at' i _ s c b).back d⟩;have q:=h.at' i v s a b
 cases hs : s.isOwn with
 | true =>
  obtain ⟨l,e1,e2,e3,e4⟩:=q.own hs;obtain ⟨o,ho,ht⟩:=e4.there2
  exact .ofOwn hs ⟨l,e1,e2,by rw [e.n l o ho ht]; exact e3,e4.up e.f fun o ho=>e.h _ _ ho⟩
 | false =>
  cases s with
  | no=>trivial
  | im d=>obtain ⟨u,e1,r⟩:=q; exact ⟨u,e1,r.up e.f⟩
  | val u=>exact q
  | _=>cases hs
theorem zao.slot {s:Sl} (h:zao G Hf0 H0 Hf H σ ρ) (e:ρ[i]?=some s) : ∃ v,σ[i]?=some v/\zfy G H0 Hf H v s:=by
 have hi : i < σ.length:=by rw [h.len]; exact (gq e).1
 exact ⟨σ[i],by simp [hi],h.at' i _ s (by simp [hi]) e⟩
theorem zao.imm (h:zao G Hf0 H0 Hf H σ ρ) (e:ρ[i]?=some (.im d)) : ∃ v,σ[i]?=some (some v)/\Rep G Hf d v:=by
 obtain ⟨v,e1,u,e2,r⟩:=h.slot e;subst e2;exact ⟨u,e1,r⟩
theorem zao.ownAt {s:Sl} (hs:s.isOwn=true) (h:zao G Hf0 H0 Hf H σ ρ) (e:ρ[i]?=some s) : ∃ l,σ[i]?=some (some (.ref l))/\H0 l=none/\Hf l=none/\zgi G Hf H l s:=by
 obtain ⟨v,e1,q⟩:=h.slot e;obtain ⟨l,e2,q2⟩:=q.own hs;rw [e2] at e1;exact ⟨l,e1,q2⟩
variable {j:Nat}
theorem zdp {α : Type} {l:List α} {x y:α} (h:(l.set i x)[j]?=some y) : (j=i/\y=x/\i < l.length)\/(j≠i/\l[j]?=some y):=by
 by_cases hj : j=i
 ·subst hj;left;have hi : j < l.length:=by have:=(gq h).1; simpa using this
  rw [List.getElem?_set_self hi] at h;exact ⟨rfl,(Option.some.inj h).symm,hi⟩
 ·right;rw [List.getElem?_set_ne (Ne.symm hj)] at h;exact ⟨hj,h⟩
theorem zao.setIm (h:zao G Hf0 H0 Hf H σ ρ) (r:Rep G Hf d v) : zao G Hf0 H0 Hf H (σ.set i (some v)) (ρ.set i (.im d)):=by
 refine ⟨h.ext,by simpa using h.len,fun j u s a b=>?_,fun j k s t u w l a b c d' p q=>?_⟩
 ·rcases zdp b with ⟨e,e',_⟩ | ⟨e,b⟩
  ·subst e e'
   rcases zdp a with ⟨_,e',_⟩ | ⟨e,_⟩
   ·subst e'; exact ⟨v,rfl,r⟩
   ·exact absurd rfl e
  ·rcases zdp a with ⟨e',_⟩ | ⟨_,a⟩
   ·exact absurd e' e
   ·exact h.at' j u s a b
 ·rcases zdp a with ⟨e,e',_⟩ | ⟨e,a⟩
  ·subst e'; exact (p.calm rfl).elim
  ·rcases zdp b with ⟨e2,e',_⟩ | ⟨e2,b⟩
   ·subst e'; exact (q.calm rfl).elim
   ·rcases zdp c with ⟨e',_⟩ | ⟨_,c⟩
    ·exact absurd e' e
    ·rcases zdp d' with ⟨e',_⟩ | ⟨_,d'⟩
     ·exact absurd e' e2
     ·exact h.dj j k s t u w l a b c d' p q
variable {u:V}
theorem zao.setNew {s:Sl} (h:zao G Hf0 H0 Hf H σ ρ) (e:Ext Hf H Hf' H') (ho:zfy G H0 Hf' H' (some u) s) (hn:∀ a,Holds G Hf' H' s u a->H a=none) :
  zao G Hf0 H0 Hf' H' (σ.set i (some u)) (ρ.set i s):=by
 have h':=h.step e
 have no : ∀ (j:Nat) (t:Sl) (w:V) (a:Addr),ρ[j]?=some t->σ[j]?=some (some w)->Holds G Hf' H' t w a->Holds G Hf' H' s u a->False:=fun j t w a b c p q=>by
  have p0:=(h.at' j _ t c b).back p;obtain ⟨o,ho,_⟩:=(h.at' j _ t c b).there p0;rw [hn a q] at ho; cases ho
 refine ⟨h'.ext,by simpa using h.len,fun j w t a b=>?_,fun j k t t' v w l a b c d' p q=>?_⟩
 ·rcases zdp b with ⟨e,e',_⟩ | ⟨e,b⟩
  ·subst e e'
   rcases zdp a with ⟨_,e',_⟩ | ⟨e,_⟩
   ·subst e'; exact ho
   ·exact absurd rfl e
  ·rcases zdp a with ⟨e',_⟩ | ⟨_,a⟩
   ·exact absurd e' e
   ·exact h'.at' j w t a b
 ·rcases zdp a with ⟨e1,e1',_⟩ | ⟨e1,a⟩
  ·rcases zdp b with ⟨e2,e2',_⟩ | ⟨e2,b⟩
   ·rw [e1,e2]
   ·rcases zdp c with ⟨_,e',_⟩ | ⟨e',_⟩
    ·cases e';rw [e1'] at p
     rcases zdp d' with ⟨e',_⟩ | ⟨_,d'⟩
     ·exact absurd e' e2
     ·exact (no k t' w l b d' q p).elim
    ·exact absurd e1 e'
  ·rcases zdp c with ⟨e',_⟩ | ⟨_,c⟩
   ·exact absurd e' e1
   ·rcases zdp b with ⟨e2,e2',_⟩ | ⟨e2,b⟩
    ·rcases zdp d' with ⟨_,e',_⟩ | ⟨e',_⟩
     ·cases e';rw [e2'] at q;exact (no j t v l a c p q).elim
     ·exact absurd e2 e'
    ·rcases zdp d' with ⟨e',_⟩ | ⟨_,d'⟩
     ·exact absurd e' e2
     ·exact h'.dj j k t t' v w l a b c d' p q
theorem zao.setOwn {s:Sl} (hs:s.isOwn=true) (h:zao G Hf0 H0 Hf H σ ρ) (e:Ext Hf H Hf' H') (hn:H l=none) (hf:Hf' l=none) (ho:zgi G Hf' H' l s) :
  zao G Hf0 H0 Hf' H' (σ.set i (some (.ref l))) (ρ.set i s) :=
 h.setNew e (.ofOwn hs ⟨l,rfl,h.ext.h.free hn,hf,ho⟩) fun a p=>by cases (Holds.own hs).mp p; exact hn
theorem zao.chg {s s':Sl} (h:zao G Hf0 H0 Hf H σ ρ) (e:ρ[i]?=some s) (el:σ[i]?=some (some v)) (k:∀ b u,H b=some u->Holds G Hf H s v b\/H' b=some u) (ho:zfy G H0 Hf H' (some v) s')
  (hh:∀ a,Holds G Hf H' s' v a->Holds G Hf H s v a\/∀ (j:Nat) (t:Sl) (w:V),ρ[j]?=some t->σ[j]?=some (some w)->Holds G Hf H t w a->False) : zao G Hf0 H0 Hf H' σ (ρ.set i s'):=by
 have q:=h.at' i _ s el e
 have gone : ∀ b,Holds G Hf H s v b->H0 b=none/\Hf b=none:=fun b p=>by
  cases hs : s.isOwn with
  | true =>
   obtain ⟨l,e1,h0,hf,_⟩:=q.own hs;have e2:=(Holds.own hs).mp p;cases e1;cases e2
   exact ⟨h0,hf⟩
  | false =>
   cases s with
   | _=>first | exact Bool.noConfusion p.1 | cases hs
 refine ⟨⟨h.ext.f,fun b u e=>?_,fun b u e=>?_,h.ext.n⟩,by simpa using h.len,fun j u t a b=>?_,fun j j' t t' w w' a b c b' c' p p'=>?_⟩
 ·rcases k b u (h.ext.h b u e) with z | z
  ·rw [(gone b z).1] at e; cases e
  ·exact z
 ·rcases k b u (h.ext.s b u e) with z | z
  ·rw [(gone b z).2] at e; cases e
  ·exact z
 ·rcases zdp b with ⟨e',e2,_⟩ | ⟨en,b⟩
  ·subst e' e2;rw [el] at a; cases a;exact ho
  ·have q':=h.at' j u t a b
   cases ht : t.isOwn with
   | false =>
    cases t with
    | no=>trivial
    | im d=>exact q'
    | val u=>exact q'
    | _=>cases ht
   | true =>
    obtain ⟨l2,e2,e3,e4,q2⟩:=q'.own ht;subst e2;refine .ofOwn ht ⟨l2,rfl,e3,e4,q2.up (zav.refl _) fun o' ho'=>?_⟩
    rcases k l2 o' ho' with z | z
    ·exact absurd (h.dj j i t s _ v l2 b e a el ((Holds.own ht).mpr rfl) z) en
    ·exact z
 ·have old : ∀ (j:Nat) (t:Sl) (w:V),(ρ.set i s')[j]?=some t->σ[j]?=some (some w)->Holds G Hf H' t w a->(j=i/\∀ (j:Nat) (t:Sl) (w:V),ρ[j]?=some t->σ[j]?=some (some w)->Holds G Hf H t w a->False)\/∃ t0,ρ[j]?=some t0/\Holds G Hf H t0 w a:=fun j t w b y p=>by
   rcases zdp b with ⟨e',e2,_⟩ | ⟨en,b⟩
   ·rw [e2] at p;rw [e',el] at y;cases y;rw [e']
    rcases hh a p with z | z
    ·exact .inr ⟨s,e,z⟩
    ·exact .inl ⟨rfl,z⟩
   ·exact .inr ⟨t,b,(h.at' j _ t y b).back p⟩
  rcases old j t w b b' p with ⟨z1,z2⟩ | ⟨t0,z1,z2⟩
  ·rcases old j' t' w' c c' p' with ⟨y1,y2⟩ | ⟨t1,y1,y2⟩
   ·rw [z1,y1]
   ·exact (z2 j' t1 w' y1 c' y2).elim
  ·rcases old j' t' w' c c' p' with ⟨y1,y2⟩ | ⟨t1,y1,y2⟩
   ·exact (y2 j t0 w z1 b' z2).elim
   ·exact h.dj j j' t0 t1 w w' a z1 y1 b' c' z2 y2
theorem zao.mutd {s s':Sl} (hs:s.isOwn=true) (hs':s'.isOwn=true) (h:zao G Hf0 H0 Hf H σ ρ) (e:ρ[i]?=some s) (el:σ[i]?=some (some (.ref l))) (ho:zgi G Hf (upd H l o) l s') :
  zao G Hf0 H0 Hf (upd H l o) σ (ρ.set i s'):=by
 obtain ⟨l',e1,h0,hf,q⟩:=h.ownAt hs e;rw [el] at e1; cases e1;refine h.chg e el (fun b u hb=>?_) (.ofOwn hs' ⟨l,rfl,h0,hf,ho⟩) fun a p=>.inl ?_
 ·by_cases hl : b=l
  ·subst hl; exact .inl ((Holds.own hs).mpr rfl)
  ·exact .inr (by rw [zbs hl]; exact hb)
 ·exact (Holds.own hs).mpr ((Holds.own hs').mp p)
theorem zao.fixd {s:Sl} (hs:s.isOwn=true) (h:zao G Hf0 H0 Hf H σ ρ) (e:ρ[i]?=some s) (el:σ[i]?=some (some (.ref l))) (ho:H l=some o) (hr:Rep G (upd Hf l o) d (.ref l)) :
  zao G Hf0 H0 (upd Hf l o) H σ (ρ.set i (.im d)):=by
 obtain ⟨l',e1,h0,hf,q⟩:=h.ownAt hs e;rw [el] at e1; cases e1;refine h.re (h.ext.fix h0 hf ho) (by simp) (fun j u t a b=>?_) fun j t v a b c p=>?_
 ·rcases zdp b with ⟨e,e',_⟩ | ⟨en,b⟩
  ·subst e e';rw [el] at a; cases a;exact ⟨_,rfl,hr⟩
  ·have q:=h.at' j u t a b
   cases ht : t.isOwn with
   | false =>
    cases t with
    | no=>trivial
    | im d=>obtain ⟨u',e1,r⟩:=q; exact ⟨u',e1,r.up (zc9 hf)⟩
    | val u'=>exact q
    | _=>cases ht
   | true =>
    obtain ⟨l2,e2,e3,e4,q2⟩:=q.own ht;subst e2;refine .ofOwn ht ⟨l2,rfl,e3,?_,q2.up (zc9 hf) fun o' ho'=>ho'⟩;rw [zbs (fun z=>?_)]
    ·exact e4
    ·subst z;exact en (h.inj j i t s l2 b e ht hs a el)
 ·rcases zdp b with ⟨_,e',_⟩ | ⟨_,b⟩
  ·subst e'; exact (p.calm rfl).elim
  ·exact ⟨t,b,(h.at' j _ t c b).back p⟩
theorem PE.imp {t':TE} (h:PE X e t) (i:∀ σ H Q,t' σ H Q->t σ H Q) : PE X e t':=fun pins s σ H Q I q=>h pins s σ H Q I (i σ H Q q)
variable {t':TT}
theorem PT.imp {t:TT} (h:PT X e t) (i:∀ σ H Q,t' σ H Q->t σ H Q) : PT X e t':=fun pins s σ H Q I q=>h pins s σ H Q I (i σ H Q q)
theorem PW.imp {t:TT} (h:PW X e t) (i:∀ σ H Q,t' σ H Q->t σ H Q) : PW X e t':=fun wh pins s σ H Q I q=>h wh pins s σ H Q I (i σ H Q q)
variable {es:LEx}
theorem PA.imp {t t':TA} (h:PA X es t) (i:∀ σ H Q,t' σ H Q->t σ H Q) : PA X es t':=fun pos pins s σ H Q I q=>h pos pins s σ H Q I (i σ H Q q)
theorem PS.imp {st:Stmt} {t t':TS} (h:PS X st t) (i:∀ E σ H,t' E σ H->t E σ H) : PS X st t':=fun pins s σ H E I q=>h pins s σ H E I (i E σ H q)
theorem PSs.imp {st:List Stmt} {t t':TS} (h:PSs X st t) (i:∀ E σ H,t' E σ H->t E σ H) : PSs X st t':=fun pins s σ H E I q=>h pins s σ H E I (i E σ H q)
theorem PG.imp {t t':TG} (h:PG X e t) (i:∀ v σ H Q,t' v σ H Q->t v σ H Q) : PG X e t':=fun pins s σ H v u Q I r q=>h pins s σ H v u Q I r (i v σ H Q q)
theorem PGs.imp {t t':TGs} (h:PGs X es t) (i:∀ v σ H Q,t' v σ H Q->t v σ H Q) : PGs X es t':=fun pins s σ H v u Q I r q=>h pins s σ H v u Q I r (i v σ H Q q)
theorem PI.imp {t t':TI} (h:PI X tg e t) (i:∀ σ H R,t' σ H R->t σ H R) : PI X tg e t':=fun pins s σ H R I q=>h pins s σ H R I (i σ H R q)
theorem PTs.imp {t:TT} (h:PTs X ifs t) (i:∀ σ H Q,t' σ H Q->t σ H Q) : PTs X ifs t':=fun pins s σ H Q I q=>h pins s σ H Q I (i σ H Q q)
noncomputable abbrev Gx (c:Str->Addr) (X:Cx) : Gc:=⟨X.K,c⟩
def tD (G:Gc) (f:MF1) : TE:=fun σ H Q=>∃ Hf0 H0 Hf ρ d,zao G Hf0 H0 Hf H σ ρ/\f ρ=some d/\∀ v Hf' H',Ext Hf H Hf' H'->Rep G Hf' d v->Q v H'
def tDB (G:Gc) (f:MF1) : TE:=fun σ H Q=>∃ Hf0 H0 Hf ρ d,zao G Hf0 H0 Hf H σ ρ/\f ρ=some d/\∀ v Hf' H',Ext Hf H Hf' H'->Rep G H' d v->Q v H'
def tDC (G:Gc) (f:MF2) : TE:=fun σ H Q=>∃ Hf0 H0 Hf ρ ds,zao G Hf0 H0 Hf H σ ρ/\f ρ=some ds/\∀ a vs Hf' H',Ext Hf H Hf' H'->(SqL G.K H' a vs\/SqT G.K H' a vs)->zan G Hf' ds vs->Q (.ref a) H'
def tDO (G:Gc) (f:MF2) : TE:=fun σ H Q=>∃ Hf0 H0 Hf ρ ds,zao G Hf0 H0 Hf H σ ρ/\f ρ=some ds /\
 ∀ l vs Hf' H',Ext Hf H Hf' H'->H l=none->Hf' l=none->H' l=some (.lst vs)->zan G Hf' ds vs->Q (.ref l) H'
def tDA (G:Gc) (f:MF2) : TA:=fun σ H Q=>∃ Hf0 H0 Hf ρ ds,zao G Hf0 H0 Hf H σ ρ/\f ρ=some ds/\∀ vs Hf' H',Ext Hf H Hf' H'->zan G Hf' ds vs->Q vs H'
def yko (G:Gc) (f:MF2) : TA:=fun σ H Q=>∃ Hf0 H0 Hf ρ ds,zao G Hf0 H0 Hf H σ ρ/\f ρ=some ds/\∀ vs Hf' H',Ext Hf H Hf' H'->zan G H' ds vs->Q vs H'
def tDT (G:Gc) (f:MF4) : TT:=fun σ H Q=>∃ Hf0 H0 Hf ρ b,zao G Hf0 H0 Hf H σ ρ/\f ρ=some b/\∀ Hf' H',Ext Hf H Hf' H'->Q b H'
def DE (c:Str->Addr) (X:Cx) (e:Expr) (f:MF1) : Prop:=PE X e (tD (Gx c X) f)
def DB (c:Str->Addr) (X:Cx) (e:Expr) (f:MF1) : Prop:=PE X e (tDB (Gx c X) f)
def DC (c:Str->Addr) (X:Cx) (e:Expr) (f:MF2) : Prop:=PE X e (tDC (Gx c X) f)
def DO (c:Str->Addr) (X:Cx) (e:Expr) (f:MF2) : Prop:=PE X e (tDO (Gx c X) f)
structure DA (c:Str->Addr) (X:Cx) (es:LEx) (f:MF2) : Prop where
 pa : PA X es (tDA (Gx c X) f)
 len : ∀ ρ ds,f ρ=some ds->ds.length=es.length
structure DAB (c:Str->Addr) (X:Cx) (es:LEx) (f:MF2) : Prop where
 pa : PA X es (yko (Gx c X) f)
 len : ∀ ρ ds,f ρ=some ds->ds.length=es.length
def DT (c:Str->Addr) (X:Cx) (e:Expr) (f:MF4) : Prop:=PT X e (tDT (Gx c X) f)
def DW (c:Str->Addr) (X:Cx) (e:Expr) (f:MF4) : Prop:=PW X e (tDT (Gx c X) f)
noncomputable def D.scalar : D->Bool
 | .non=>true
 | .bl _=>true
 | .int _=>true
 | .str _=>true
 | _=>false
theorem Rep.sc (hs:d.scalar=true) (r:Rep G H d v) : Rep G H' d v:=by
 cases d <;> first | exact r | cases hs
noncomputable def zj0 : D->OLD
 | .lst xs=>some xs
 | .tup xs=>some xs
 | .kl xs=>some xs
 | .kt xs=>some xs
 | _=>none
theorem zuz (e:zj0 d=some ds) (r:Rep G H d v) : ∃ a vs,v=.ref a/\(SqL G.K H a vs\/SqT G.K H a vs)/\zan G H ds vs:=by
 cases d with
 | lst xs=>cases e; obtain ⟨a,vs,e1,q,r⟩:=r; exact ⟨a,vs,e1,.inl (SqL.of q),r⟩
 | tup xs=>cases e; obtain ⟨a,vs,e1,q,r⟩:=r; exact ⟨a,vs,e1,.inr (SqT.of q),r⟩
 | kl xs=>cases e; obtain ⟨a,vs,e1,q,r⟩:=r; exact ⟨a,vs,e1,.inl q,r⟩
 | kt xs=>cases e; obtain ⟨a,vs,e1,q,r⟩:=r; exact ⟨a,vs,e1,.inr q,r⟩
 | _=>cases e
theorem z0v (s:zav H H') (h:SqL K H a vs\/SqT K H a vs) : SqL K H' a vs\/SqT K H' a vs:=h.imp s.seq s.tup
noncomputable def zbp (f:MF2) (ρ:LS) : OD:=(f ρ).map .lst
noncomputable def zgq (f:MF2) (ρ:LS) : OD:=(f ρ).map .tup
noncomputable def zdx (f:MF1) (ρ:LS) : OLD:=(f ρ).bind zj0
variable {c:Str->Addr} {f:MF1}
theorem DE.db (h:DE c X e f) : DB c X e f:=PE.imp h fun σ H Q q_=>by
 obtain ⟨Hf0,H0,Hf,ρ,d,st,ef,k⟩:=q_;exact (⟨Hf0,H0,Hf,ρ,d,st,ef,fun v Hf' H' x r=>k v Hf' H' x (r.up x.s)⟩)
theorem DE.dc (h:DE c X e f) : DC c X e (zdx f):=PE.imp h fun σ H Q q_=>by
 obtain ⟨Hf0,H0,Hf,ρ,ds,st,ef,k⟩:=q_;unfold zdx at ef
 cases ed : f ρ with
 | none=>rw [ed] at ef; cases ef
 | some d =>
  rw [ed] at ef;refine ⟨Hf0,H0,Hf,ρ,d,st,ed,fun v Hf' H' x r=>?_⟩;obtain ⟨a,vs,e1,q,rs⟩:=zuz ef r;subst e1;exact k a vs Hf' H' x (z0v x.s q) rs
theorem DO.de {f:MF2} (h:DO c X e f) : DE c X e (zbp f):=PE.imp h fun σ H Q q_=>by
 obtain ⟨Hf0,H0,Hf,ρ,d,st,ef,k⟩:=q_;unfold zbp at ef
 cases ed : f ρ with
 | none=>rw [ed] at ef; cases ef
 | some ds =>
  rw [ed] at ef;have ef : D.lst ds=d:=Option.some.inj ef;subst ef;exact ⟨Hf0,H0,Hf,ρ,ds,st,ed,fun l vs Hf' H' x hn hf hl r=>k _ (upd Hf' l (.lst vs)) H' (x.fix hn hf hl) ⟨l,vs,rfl,zb8,r.up (zc9 hf)⟩⟩
theorem DO.dc {f:MF2} (h:DO c X e f) : DC c X e f:=PE.imp h fun σ H Q q_=>by
 obtain ⟨Hf0,H0,Hf,ρ,ds,st,ef,k⟩:=q_;exact (
 ⟨Hf0,H0,Hf,ρ,ds,st,ef,fun l vs Hf' H' x hn hf hl r=>k l vs Hf' H' x (.inl (SqL.of hl)) r⟩)
noncomputable def zab (i:Nat) (ρ:LS) : OD:=match ρ[i]? with
 | some (.im d)=>some d
 | _=>none
noncomputable def zf8 (i:Nat) (ρ:LS) : OD:=match ρ[i]? with
 | some (.im d)=>some d
 | some (.own xs)=>some (.lst xs)
 | _=>none
noncomputable def zbg (i:Nat) (ρ:LS) : OLD:=match ρ[i]? with
 | some (.im d)=>zj0 d
 | some (.own xs)=>some xs
 | _=>none
theorem yek (h:zab i ρ=some d) : ρ[i]?=some (.im d):=by
 unfold zab at h
 cases e : ρ[i]? with
 | none=>rw [e] at h; cases h
 | some s=>rw [e] at h; cases s <;> cases h; rfl
theorem z2h (h:PE X e (zc2 i)) : DE c X e (zab i):=PE.imp h fun σ H Q q_=>by
 obtain ⟨Hf0,H0,Hf,ρ,d,st,ef,k⟩:=q_;obtain ⟨v,e1,r⟩:=st.imm (yek ef);exact ⟨v,e1,k v Hf H (Ext.refl st.sub) r⟩
theorem z2d (h:PE X e (zc2 i)) : DC c X e (zbg i):=PE.imp h fun σ H Q q_=>by
 obtain ⟨Hf0,H0,Hf,ρ,ds,st,ef,k⟩:=q_;unfold zbg at ef
 cases es : ρ[i]? with
 | none=>rw [es] at ef; cases ef
 | some s =>
  rw [es] at ef
  cases s with
  | im d =>
   obtain ⟨v,e1,r⟩:=st.imm es;obtain ⟨a,vs,e2,q,rs⟩:=zuz ef r;subst e2
   exact ⟨_,e1,k a vs Hf H (Ext.refl st.sub) (z0v st.sub q) rs⟩
  | own xs =>
   cases ef;obtain ⟨l,e1,_,_,vs,q,r⟩:=st.ownAt rfl es
   exact ⟨_,e1,k l vs Hf H (Ext.refl st.sub) (.inl (SqL.of q)) r⟩
  | _=>cases ef
theorem ya4 (h:PE X e (zc2 i)) : DB c X e (zf8 i):=PE.imp h fun σ H Q q_=>by
 obtain ⟨Hf0,H0,Hf,ρ,d,st,ef,k⟩:=q_;unfold zf8 at ef
 cases es : ρ[i]? with
 | none=>rw [es] at ef; cases ef
 | some s =>
  rw [es] at ef
  cases s with
  | im d =>
   cases ef;obtain ⟨v,e1,r⟩:=st.imm es
   exact ⟨_,e1,k v Hf H (Ext.refl st.sub) (r.up st.sub)⟩
  | own xs =>
   cases ef;obtain ⟨l,e1,_,_,vs,q,r⟩:=st.ownAt rfl es
   exact ⟨_,e1,k _ Hf H (Ext.refl st.sub) ⟨l,vs,rfl,q,r.up st.sub⟩⟩
  | _=>cases ef
theorem zv6 (h:PE X e (tC v)) (r:∀ G H,Rep G H d v) : DE c X e (fun _=>some d):=PE.imp h fun σ H Q q_=>by
 obtain ⟨Hf0,H0,Hf,ρ,d',st,ef,k⟩:=q_;cases ef;exact k v Hf H (Ext.refl st.sub) (r _ _)
theorem zag {i:Int} {j} : DE c X (.Constant (.int i) j pos) (fun _=>some (.int i)):=zv6 ygw fun _ _=>rfl
theorem zg7 {i:Bool} {j} : DE c X (.Constant (.bool i) j pos) (fun _=>some (.bl i)):=zv6 ygr fun _ _=>rfl
theorem zaj {i:Str} {j} : DE c X (.Constant (.str i) j pos) (fun _=>some (.str i)):=zv6 yg6 fun _ _=>rfl
theorem dv (i:Nat) (hN:X.N[i]?=some x:=by rfl) (hv:Vis X.env.scope x:=by first | exact Or.inl rfl | exact Or.inr (Or.inl rfl) | exact Or.inr (Or.inr rfl)) (hd:NDb x:=by decide)
  (hcd:NCd x:=by decide) : DE c X (.Name x pos) (zab i):=z2h (ziq hN hv hd hcd)
theorem dvC (i:Nat) (hN:X.N[i]?=some x:=by rfl) (hv:Vis X.env.scope x:=by first | exact Or.inl rfl | exact Or.inr (Or.inl rfl) | exact Or.inr (Or.inr rfl)) (hd:NDb x:=by decide)
  (hcd:NCd x:=by decide) : DC c X (.Name x pos) (zbg i):=z2d (ziq hN hv hd hcd)
theorem dvB (i:Nat) (hN:X.N[i]?=some x:=by rfl) (hv:Vis X.env.scope x:=by first | exact Or.inl rfl | exact Or.inr (Or.inl rfl) | exact Or.inr (Or.inr rfl)) (hd:NDb x:=by decide)
  (hcd:NCd x:=by decide) : DB c X (.Name x pos) (zf8 i):=ya4 (ziq hN hv hd hcd)
noncomputable def zac (f:MF1) (g:MF2) (ρ:LS) : OLD:=(f ρ).bind fun d=>(g ρ).map fun ds=>d::ds
variable {g:MF2}
theorem zsr (h:zac f g ρ=some ds) : ∃ d r,f ρ=some d/\g ρ=some r/\ds=d::r:=by
 unfold zac at h
 cases e1 : f ρ with
 | none=>rw [e1] at h; cases h
 | some d =>
  cases e2 : g ρ with
  | none=>rw [e1,e2] at h; cases h
  | some r=>rw [e1,e2] at h; cases h; exact ⟨d,r,rfl,rfl,rfl⟩
theorem zaw : DA c X [] nZ:=⟨PA.imp zcd fun σ H Q q_=>by obtain ⟨Hf0,H0,Hf,ρ,ds,st,ef,k⟩:=q_; cases ef; exact k [] Hf H (Ext.refl st.sub) rfl,fun ρ ds h=>by cases h; rfl⟩
theorem zai (ha:DE c X e f) (hr:DA c X es g) (hs:StE X e es:=by rfl) : DA c X (e::es) (zac f g):=by
 refine ⟨PA.imp (zbv ha hr.pa hs) fun σ H Q q_=>?_,fun ρ ds h=>?_⟩
 ·obtain ⟨Hf0,H0,Hf,ρ,ds,st,ef,k⟩:=q_;obtain ⟨d,r,e1,e2,rfl⟩:=zsr ef;exact ⟨Hf0,H0,Hf,ρ,d,st,e1,fun v Hf1 H1 x1 r1=>⟨Hf0,H0,Hf1,ρ,r,st.step x1,e2,fun vs Hf2 H2 x2 r2=>k _ Hf2 H2 (x1.trans x2) (.cons (r1.up x2.f) r2)⟩⟩
 ·obtain ⟨d,r,e1,e2,rfl⟩:=zsr h;simp [hr.len ρ r e2]
theorem zdw : DAB c X [] nZ:=⟨PA.imp zcd fun σ H Q q_=>by obtain ⟨Hf0,H0,Hf,ρ,ds,st,ef,k⟩:=q_; cases ef; exact k [] Hf H (Ext.refl st.sub) rfl,fun ρ ds h=>by cases h; rfl⟩
theorem zdo (ha:DB c X e f) (hr:DAB c X es g) (hs:StE X e es:=by rfl) : DAB c X (e::es) (zac f g):=by
 refine ⟨PA.imp (zbv ha hr.pa hs) fun σ H Q q_=>?_,fun ρ ds h=>?_⟩
 ·obtain ⟨Hf0,H0,Hf,ρ,ds,st,ef,k⟩:=q_;obtain ⟨d,r,e1,e2,rfl⟩:=zsr ef;exact ⟨Hf0,H0,Hf,ρ,d,st,e1,fun v Hf1 H1 x1 r1=>⟨Hf0,H0,Hf1,ρ,r,st.step x1,e2,fun vs Hf2 H2 x2 r2=>k _ Hf2 H2 (x1.trans x2) (.cons (r1.up x2.h) r2)⟩⟩
 ·obtain ⟨d,r,e1,e2,rfl⟩:=zsr h;simp [hr.len ρ r e2]
theorem zb7 {f:MF2} (h:DA c X es f) (hz:es.length<=1000:=by exact Nat.le_of_ble_eq_true rfl) : DO c X (.List es pos) f:=PE.imp (zm4 h.pa) fun σ H Q q_=>by
 obtain ⟨Hf0,H0,Hf,ρ,ds,st,ef,k⟩:=q_;exact (
 ⟨Hf0,H0,Hf,ρ,ds,st,ef,fun vs Hf' H' x r=>⟨by
  rw [<- r.length,h.len ρ ds ef];exact Nat.le_of_lt (zng hz),fun p hp=>k p vs Hf' (upd H' p (.lst vs)) (x.trans (Ext.tmp x.s hp)) (x.h.free hp) (x.s.free hp) zb8 r⟩⟩)
variable {k':Nat}
theorem zl0 {f:MF2} (h:DA c X es f) (hz:es.length<=1000:=by exact Nat.le_of_ble_eq_true rfl) : DE c X (.Tuple es k' pos) (zgq f):=PE.imp (zua h.pa) fun σ H Q q_=>by
 obtain ⟨Hf0,H0,Hf,ρ,d,st,ef,k⟩:=q_;unfold zgq at ef
 cases ed : f ρ with
 | none=>rw [ed] at ef; cases ef
 | some ds =>
  rw [ed] at ef;have ef : D.tup ds=d:=Option.some.inj ef;subst ef
  exact ⟨Hf0,H0,Hf,ρ,ds,st,ed,fun vs Hf' H' x r=>⟨by
   rw [<- r.length,h.len ρ ds ed];exact Nat.le_of_lt (zng hz),fun p hp=>k _ (upd Hf' p (.tup vs)) (upd H' p (.tup vs)) (x.trans (Ext.new x.s hp)) ⟨p,vs,rfl,zb8,r.up (zc9 (x.s.free hp))⟩⟩⟩
def rD (G:Gc) (m:D->D->OD) : R2:=fun vx vy H Q=>∃ Hf x y d,zav Hf H/\Rep G Hf x vx/\Rep G Hf y vy/\m x y=some d/\∀ v Hf' H',Ext Hf H Hf' H'->Rep G Hf' d v->Q v H'
abbrev OpD (c:Str->Addr) (X:Cx) (f:Value->Value->Sem Value) (m:D->D->OD) : Prop:=OpR X f (rD (Gx c X) m)
noncomputable def m2 (m:D->D->OD) (f g:MF1) (ρ:LS) : OD:=(f ρ).bind fun x=>(g ρ).bind fun y=>m x y
variable {m:D->D->OD} {g:MF1}
theorem zmg (h:m2 m f g ρ=some d) : ∃ x y,f ρ=some x/\g ρ=some y/\m x y=some d:=by
 unfold m2 at h
 cases e1 : f ρ with
 | none=>rw [e1] at h; cases h
 | some x =>
  cases e2 : g ρ with
  | none=>rw [e1,e2] at h; cases h
  | some y=>rw [e1,e2] at h; exact ⟨x,y,rfl,rfl,h⟩
variable {r:R2}
theorem two (hr:∀ x y H Q,rD (Gx c X) m x y H Q->r x y H Q) (h:tD (Gx c X) (m2 m f g) σ H Q) : tOp r (tD (Gx c X) f) (tD (Gx c X) g) σ H Q:=by
 obtain ⟨Hf0,H0,Hf,ρ,d,st,ef,k⟩:=h;obtain ⟨x,y,e1,e2,e3⟩:=zmg ef;exact ⟨Hf0,H0,Hf,ρ,x,st,e1,fun v Hf1 H1 x1 r1=>⟨Hf0,H0,Hf1,ρ,y,st.step x1,e2,fun u Hf2 H2 x2 r2=>hr _ _ _ _ ⟨Hf2,x,y,d,x2.s,r1.up x2.f,r2,e3,fun w Hf3 H3 x3 r3=>k w Hf3 H3 ((x1.trans x2).trans x3) r3⟩⟩⟩
theorem z80 (hr:∀ x y H Q,rD (Gx c X) m x y H Q->r x y H Q) (hs:∀ x y d,m x y=some d->d.scalar=true) (h:tD (Gx c X) (m2 m f g) σ H Q) : tOp r (tDB (Gx c X) f) (tDB (Gx c X) g) σ H Q:=by
 obtain ⟨Hf0,H0,Hf,ρ,d,st,ef,k⟩:=h;obtain ⟨x,y,e1,e2,e3⟩:=zmg ef
 exact ⟨Hf0,H0,Hf,ρ,x,st,e1,fun v Hf1 H1 x1 r1=>⟨Hf0,H0,Hf1,ρ,y,st.step x1,e2,fun u Hf2 H2 x2 r2=>hr _ _ _ _ ⟨H2,x,y,d,zav.refl _,r1.up x2.h,r2,e3,fun w Hf3 H3 x3 r3 =>
  k w Hf2 H3 ((x1.trans x2).trans (Ext.grow x2.s x3.h)) (r3.sc (hs _ _ _ e3))⟩⟩⟩
variable {a b:Expr}
theorem zca {op:Operator} (ho:OpD c X (binaryOp op) m) (ha:DE c X a f) (hb:DE c X b g) : DE c X (.BinOp a op b pos) (m2 m f g) :=
 PE.imp (zt9 ho ha hb) fun _ _ _ h=>two (fun _ _ _ _ h=>h) h
variable {op:CmpOp}
theorem zg8 (ho:OpD c X (compareOp op) m) (hs:∀ x y d,m x y=some d->d.scalar=true) (ha:DB c X a f) (hb:DB c X b g) (hm:behindInMarks op b=false:=by first | exact ztn _ | rfl) :
  DE c X (.Compare a [op] [b] pos) (m2 m f g):=PE.imp (z56 ho ha hb hm) fun _ _ _ h=>z80 (fun _ _ _ _ h=>h) hs h
noncomputable def mB (f:MF1) (ρ:LS) : Option Bool:=(f ρ).bind fun d=>match d with
 | .bl b=>some b
 | _=>none
theorem zsp {b:Bool} (h:mB f ρ=some b) : f ρ=some (.bl b):=by
 unfold mB at h
 cases e : f ρ with
 | none=>rw [e] at h; cases h
 | some d=>rw [e] at h; cases d <;> cases h; rfl
theorem zb3 (ho:OpD c X (compareOp op) m) (hs:∀ x y d,m x y=some d->d.scalar=true) (ha:DB c X a f) (hb:DB c X b g) (hm:behindInMarks op b=false:=by first | exact ztn _ | rfl) :
  DT c X (.Compare a [op] [b] pos) (mB (m2 m f g)):=PT.imp (z6n ho ha hb hm) fun σ H Q q_=>by
 obtain ⟨Hf0,H0,Hf,ρ,b,st,ef,k⟩:=q_;exact (
 z80 (fun _ _ _ _ h=>h) hs ⟨Hf0,H0,Hf,ρ,.bl b,st,zsp ef,fun v Hf' H' x r=>⟨b,r,k Hf' H' x⟩⟩)
noncomputable def zno : D->Option Bool
 | .non=>some false
 | .bl b=>some b
 | .int i=>some (i != 0)
 | .str x=>if x.length<=16777216 then some ((x.length : Int) != 0) else none
 | .lst xs=>some (!xs.isEmpty)
 | .tup xs=>some (!xs.isEmpty)
 | .kl xs=>some (!xs.isEmpty)
 | .kt xs=>some (!xs.isEmpty)
 | _=>none
theorem zan.empty (r:zan G H ds vs) : ds.isEmpty=vs.isEmpty:=by
 cases ds with
 | nil=>cases (show vs=[] from r); rfl
 | cons d ds=>obtain ⟨v,r',e,_⟩:=r; subst e; rfl
theorem z8z {b:Bool} (e:zno d=some b) (r:Rep G H d v) : zvf G.K v H b:=by
 cases d with
 | non=>cases e; cases r; rfl
 | bl x=>cases e; cases r; rfl
 | int i=>cases e; cases r; rfl
 | str x =>
  cases r;replace e : (if x.length<=16777216 then some ((x.length : Int) != 0) else none)=some b:=e;split at e
  ·rename_i hl;cases e;exact ⟨by rw [sizeLine_eq]; exact hl,rfl⟩
  ·cases e
 | lst xs=>cases e; obtain ⟨a,vs,e1,q,r⟩:=r; subst e1; exact .inl ⟨vs,SqL.of q,by rw [r.empty]⟩
 | tup xs=>cases e; obtain ⟨a,vs,e1,q,r⟩:=r; subst e1; exact .inr ⟨vs,SqT.of q,by rw [r.empty]⟩
 | kl xs=>cases e; obtain ⟨a,vs,e1,q,r⟩:=r; subst e1; exact .inl ⟨vs,q,by rw [r.empty]⟩
 | kt xs=>cases e; obtain ⟨a,vs,e1,q,r⟩:=r; subst e1; exact .inr ⟨vs,q,by rw [r.empty]⟩
 | ins _ _ _=>cases e
noncomputable def zcu (f:MF1) (ρ:LS) : Option Bool:=(f ρ).bind zno
theorem zei (ha:DB c X a f) (he:∀ whole,isTrue a X.env whole=(do let v <- whole; standAt a.pos; holding [v] (truthy v)):=by intro _; rfl) : DT c X a (zcu f) :=
 PT.imp (z6p ha he) fun σ H Q q_=>by
  obtain ⟨Hf0,H0,Hf,ρ,b,st,ef,k⟩:=q_;unfold zcu at ef
  cases ed : f ρ with
  | none=>rw [ed] at ef; cases ef
  | some d =>
   rw [ed] at ef;exact ⟨Hf0,H0,Hf,ρ,d,st,ed,fun v Hf' H' x r=>⟨b,z8z ef r,k Hf' H' x⟩⟩
noncomputable def zhc (f g:MF4) (ρ:LS) : Option Bool:=(f ρ).bind fun b=>if b then g ρ else some false
noncomputable def zfp (f:MF4) (ρ:LS) : Option Bool:=(f ρ).map not
variable {f:MF4}
theorem DW.dt (h:DW c X e f) : DT c X e f:=PW.pt h
theorem zwf (h:DT c X a f) : DW c X (.BoolOp .And [a] pos) f:=yh8 h
theorem zr7 {g:MF4} {za9:LEx} (h:DT c X a f) (h':DW c X (.BoolOp .And (b::za9) pos) g) : DW c X (.BoolOp .And (a::b::za9) pos) (zhc f g):=PW.imp (yh7 h h') fun σ H Q q_=>by
 obtain ⟨Hf0,H0,Hf,ρ,b,st,ef,k⟩:=q_;unfold zhc at ef
 cases e1 : f ρ with
 | none=>rw [e1] at ef; cases ef
 | some x =>
  rw [e1] at ef;refine ⟨Hf0,H0,Hf,ρ,x,st,e1,fun Hf1 H1 x1=>?_⟩
  cases x with
  | true=>rw [if_pos rfl]; exact ⟨Hf0,H0,Hf1,ρ,b,st.step x1,ef,fun Hf2 H2 x2=>k Hf2 H2 (x1.trans x2)⟩
  | false=>cases ef; rw [if_neg fq]; exact k Hf1 H1 x1
theorem zjd (h:DT c X a f) : DT c X (.UnaryOp .Not a pos) (zfp f):=PT.imp (z6o h) fun σ H Q q_=>by
 obtain ⟨Hf0,H0,Hf,ρ,b,st,ef,k⟩:=q_;unfold zfp at ef
 cases e1 : f ρ with
 | none=>rw [e1] at ef; cases ef
 | some x =>
  rw [e1] at ef;cases ef;exact ⟨Hf0,H0,Hf,ρ,x,st,e1,fun Hf1 H1 x1=>k Hf1 H1 x1⟩
noncomputable def zho (f g:MF1) (ρ:LS) : OD:=(mB f ρ).bind fun b=>if b then g ρ else some (.bl false)
noncomputable def vOr (f g:MF1) (ρ:LS) : OD:=(mB f ρ).bind fun b=>if b then some (.bl true) else g ρ
noncomputable def znr (f:MF1) (ρ:LS) : OD:=(mB f ρ).map fun b=>.bl (!b)
variable {f:MF1}
theorem zka {op} (h:DE c X a f) : DE c X (.BoolOp op [a] pos) f:=yg4 h
theorem zj8 {za9:LEx} (h:DE c X a f) (h':DE c X (.BoolOp .And (b::za9) pos) g) : DE c X (.BoolOp .And (a::b::za9) pos) (zho f g):=PE.imp (ygq h h') fun σ H Q q_=>by
 obtain ⟨Hf0,H0,Hf,ρ,d,st,ef,k⟩:=q_;unfold zho at ef
 cases e1 : mB f ρ with
 | none=>rw [e1] at ef; cases ef
 | some x =>
  rw [e1] at ef;refine ⟨Hf0,H0,Hf,ρ,.bl x,st,zsp e1,fun v Hf1 H1 x1 r1=>⟨x,r1,?_⟩⟩
  cases x with
  | true=>rw [if_pos rfl]; exact ⟨Hf0,H0,Hf1,ρ,d,st.step x1,ef,fun v Hf2 H2 x2 r2=>k v Hf2 H2 (x1.trans x2) r2⟩
  | false=>cases ef; rw [if_neg fq]; exact k _ Hf1 H1 x1 rfl
theorem ybc {za9:LEx} (h:DE c X a f) (h':DE c X (.BoolOp .Or (b::za9) pos) g) : DE c X (.BoolOp .Or (a::b::za9) pos) (vOr f g):=PE.imp (yg5 h h') fun σ H Q q_=>by
 obtain ⟨Hf0,H0,Hf,ρ,d,st,ef,k⟩:=q_;unfold vOr at ef
 cases e1 : mB f ρ with
 | none=>rw [e1] at ef; cases ef
 | some x =>
  rw [e1] at ef;refine ⟨Hf0,H0,Hf,ρ,.bl x,st,zsp e1,fun v Hf1 H1 x1 r1=>⟨x,r1,?_⟩⟩
  cases x with
  | false=>rw [if_neg fq]; exact ⟨Hf0,H0,Hf1,ρ,d,st.step x1,ef,fun v Hf2 H2 x2 r2=>k v Hf2 H2 (x1.trans x2) r2⟩
  | true=>cases ef; rw [if_pos rfl]; exact k _ Hf1 H1 x1 rfl
theorem z2g (h:DE c X a f) : DE c X (.UnaryOp .Not a pos) (znr f):=PE.imp (yg3 h) fun σ H Q q_=>by
 obtain ⟨Hf0,H0,Hf,ρ,d,st,ef,k⟩:=q_;unfold znr at ef
 cases e1 : mB f ρ with
 | none=>rw [e1] at ef; cases ef
 | some x =>
  rw [e1] at ef;cases ef;exact ⟨Hf0,H0,Hf,ρ,.bl x,st,zsp e1,fun v Hf1 H1 x1 r1=>⟨x,r1,k _ Hf1 H1 x1 rfl⟩⟩
noncomputable def vIf (t:MF4) (f g:MF1) (ρ:LS) : OD:=(t ρ).bind fun b=>if b then f ρ else g ρ
variable {cd:Expr}
theorem z2f {t:MF4} (hc:DT c X cd t) (ha:DE c X a f) (hb:DE c X b g) : DE c X (.IfExp cd a b pos) (vIf t f g):=PE.imp (zyg hc ha hb) fun σ H Q q_=>by
 obtain ⟨Hf0,H0,Hf,ρ,d,st,ef,k⟩:=q_;unfold vIf at ef
 cases e1 : t ρ with
 | none=>rw [e1] at ef; cases ef
 | some x =>
  rw [e1] at ef;refine ⟨Hf0,H0,Hf,ρ,x,st,e1,fun Hf1 H1 x1=>?_⟩
  cases x with
  | true=>rw [if_pos rfl]; exact ⟨Hf0,H0,Hf1,ρ,d,st.step x1,ef,fun v Hf2 H2 x2 r=>k v Hf2 H2 (x1.trans x2) r⟩
  | false=>rw [if_neg fq]; exact ⟨Hf0,H0,Hf1,ρ,d,st.step x1,ef,fun v Hf2 H2 x2 r=>k v Hf2 H2 (x1.trans x2) r⟩
noncomputable instance {i j:Int} : Decidable (znt i j):=by unfold znt; infer_instance
noncomputable instance {i j:Int} : Decidable (znv i j):=by unfold znv; infer_instance
noncomputable instance {i j:Int} : Decidable (znu i j):=by unfold znu; infer_instance
noncomputable def dI (C:Int->Int->Prop) [∀ i j,Decidable (C i j)] (g:Int->Int->D) : D->D->OD
 | .int i,.int j=>if C i j then some (g i j) else none
 | _,_=>none
noncomputable def dI0 (g:Int->Int->D) : D->D->OD
 | .int i,.int j=>some (g i j)
 | _,_=>none
noncomputable def zcb : D->D->OD
 | .int i,.int j=>some (.int (i + j))
 | .str a,.str b=>if a.length + b.length<=16777216 then some (.str (a++b)) else none
 | .lst a,.lst b=>if a.length + b.length<=16777216 then some (.lst (a++b)) else none
 | _,_=>none
noncomputable abbrev zjb : D->D->OD:=dI0 fun i j=>.int (i - j)
noncomputable abbrev zv1 : D->D->OD:=dI znt fun i j=>.int (i / j)
noncomputable abbrev zfi : D->D->OD:=dI (fun _ j=>0 < j) fun i j=>.int (i % j)
noncomputable abbrev zg4 : D->D->OD:=dI znv fun i j=>.int (i ^ j.toNat)
noncomputable abbrev dLt : D->D->OD:=dI0 fun i j=>.bl (decide (i < j))
noncomputable abbrev dLe : D->D->OD:=dI0 fun i j=>.bl (decide (i<=j))
noncomputable abbrev dGt : D->D->OD:=dI0 fun i j=>.bl (decide (j < i))
variable {gd:Int->Int->D}
theorem ztv {f:Value->Value->Sem Value} {C:Int->Int->Prop} [∀ i j,Decidable (C i j)] {g:Int->Int->V} (h:OpR X f (rI C g)) (hg:∀ G H i j,Rep G H (gd i j) (g i j)) : OpD c X f (dI C gd):=by
 rintro pins s σ H vx vy v u Q I rx ry ⟨Hf,x,y,d,s0,r1,r2,e,k⟩;unfold dI at e;split at e
 ·split at e
  ·rename_i hc;cases e;exact h pins s σ H vx vy v u Q I rx ry ⟨_,_,r1,r2,hc,k _ Hf H (Ext.refl s0) (hg _ _ _ _)⟩
  ·cases e
 ·cases e
theorem ztw {f:Value->Value->Sem Value} {g:Int->Int->V} (h:OpR X f (rI0 g)) (hg:∀ G H i j,Rep G H (gd i j) (g i j)) : OpD c X f (dI0 gd):=by
 rintro pins s σ H vx vy v u Q I rx ry ⟨Hf,x,y,d,s0,r1,r2,e,k⟩;unfold dI0 at e;split at e
 ·cases e;exact h pins s σ H vx vy v u Q I rx ry ⟨_,_,r1,r2,k _ Hf H (Ext.refl s0) (hg _ _ _ _)⟩
 ·cases e
theorem zde : OpD c X (binaryOp .Add) zcb:=by
 rintro pins s σ H vx vy v u Q I rx ry ⟨Hf,x,y,d,s0,r1,r2,e,k⟩;unfold zcb at e;split at e
 ·cases e;exact yf4 pins s σ H vx vy v u Q I rx ry ⟨_,_,r1,r2,k _ Hf H (Ext.refl s0) rfl⟩
 ·split at e
  ·rename_i hl;cases e;exact yf5 pins s σ H vx vy v u Q I rx ry ⟨_,_,r1,r2,by rw [sizeLine_eq]; exact hl,k _ Hf H (Ext.refl s0) rfl⟩
  ·cases e
 ·split at e
  ·rename_i hl;cases e;obtain ⟨a,vs,e1,q1,r1⟩:=r1;obtain ⟨b,us,e2,q2,r2⟩:=r2
   exact zyd pins s σ H vx vy v u Q I rx ry ⟨a,b,vs,us,e1,e2,s0 _ _ q1,s0 _ _ q2,by rw [sizeLine_eq,<- r1.length,<- r2.length]; exact hl,
    fun p hp=>k _ (upd Hf p (.lst (vs++us))) (upd H p (.lst (vs++us))) (Ext.new s0 hp) ⟨p,_,rfl,zb8,(r1.append r2).up (zc9 (s0.free hp))⟩⟩
  ·cases e
 ·cases e
theorem zty : OpD c X (binaryOp .Sub) zjb:=ztw ygh fun _ _ _ _=>rfl
theorem yfd : OpD c X (binaryOp .FloorDiv) zv1:=ztv yf7 fun _ _ _ _=>rfl
theorem zin : OpD c X (binaryOp .Mod) zfi:=ztv ygc fun _ _ _ _=>rfl
theorem zk4 : OpD c X (binaryOp .Pow) zg4:=ztv ygg fun _ _ _ _=>rfl
theorem zk3 : OpD c X (compareOp .Lt) dLt:=ztw ygb fun _ _ _ _=>rfl
theorem z49 : OpD c X (compareOp .LtE) dLe:=ztw yga fun _ _ _ _=>rfl
theorem zk2 : OpD c X (compareOp .Gt) dGt:=ztw yf8 fun _ _ _ _=>rfl
theorem z0l {g:Int->Int->D} (hg:∀ i j,(g i j).scalar=true) : ∀ x y d,dI0 g x y=some d->d.scalar=true:=by
 intro x y d e;unfold dI0 at e;split at e
 ·cases e; exact hg _ _
 ·cases e
theorem zlf : ∀ x y d,dLt x y=some d->d.scalar=true:=z0l fun _ _=>rfl
theorem z76 : ∀ x y d,dLe x y=some d->d.scalar=true:=z0l fun _ _=>rfl
theorem zle : ∀ x y d,dGt x y=some d->d.scalar=true:=z0l fun _ _=>rfl
noncomputable def zov : D->OD
 | .int i=>some (.int (-i))
 | _=>none
noncomputable def m1 (m:D->OD) (f:MF1) (ρ:LS) : OD:=(f ρ).bind m
theorem zru (ha:DE c X a f) : DE c X (.UnaryOp .USub a pos) (m1 zov f):=PE.imp (yg7 ylo ha) fun σ H Q q_=>by
 obtain ⟨Hf0,H0,Hf,ρ,d,st,ef,k⟩:=q_;unfold m1 at ef
 cases e1 : f ρ with
 | none=>rw [e1] at ef; cases ef
 | some y =>
  rw [e1] at ef
  cases y with
  | int i=>cases ef; exact ⟨Hf0,H0,Hf,ρ,.int i,st,e1,fun v Hf' H' x r=>⟨i,r,k _ Hf' H' x rfl⟩⟩
  | _=>cases ef
theorem zux {x:Option Bool} {g:Bool->Bool} : ∀ d,x.map (fun b=>D.bl (g b))=some d->d.scalar=true:=by
 intro d e
 cases x with
 | none=>cases e
 | some b=>cases e; rfl
noncomputable def eqF : D->D->Bool
 | .non,.non=>true
 | .bl a,.bl b=>a==b
 | .int a,.int b=>a==b
 | .str a,.str b=>a==b
 | _,_=>false
noncomputable def zeo (f:D->D->Option Bool) : LD->LD->Option Bool
 | [],[]=>some true
 | x::xs,y::ys=>(f x y).bind fun b=>(zeo f xs ys).map fun r=>b && r
 | _,_=>some false
noncomputable def zxp : D->D->Bool
 | .bl _,.int _=>true
 | .int _,.bl _=>true
 | _,_=>false
noncomputable def zwc (f:D->D->Option Bool) : D->D->Option Bool
 | .lst xs,.lst ys=>if xs.length=ys.length then zeo f xs ys else some false
 | .tup xs,.tup ys=>if xs.length=ys.length then zeo f xs ys else none
 | x,y=>if x.scalar && y.scalar && !zxp x y then some (eqF x y) else none
noncomputable def deq : Nat->D->D->Option Bool
 | 0,_,_=>none
 | n + 1,x,y=>zwc (deq n) x y
noncomputable def dEq (x y:D) : OD:=(deq 20 x y).map .bl
noncomputable def dNe (x y:D) : OD:=(deq 20 x y).map fun b=>.bl (!b)
theorem zda : ∀ x y d,dEq x y=some d->d.scalar=true:=fun _ _ d e=>zux (g:=id) d e
theorem z0m : ∀ x y d,dNe x y=some d->d.scalar=true:=fun _ _ d e=>zux (g:=not) d e
variable {x y:D} {xs ys:LD} {b:Bool}
theorem z2m {f:D->D->Option Bool} (h:zeo f (x::xs) (y::ys)=some b) : ∃ b1 b2,f x y=some b1/\zeo f xs ys=some b2/\b=(b1 && b2):=by
 unfold zeo at h
 cases e1 : f x y with
 | none=>rw [e1] at h; cases h
 | some b1 =>
  cases e2 : zeo f xs ys with
  | none=>rw [e1,e2] at h; cases h
  | some b2=>rw [e1,e2] at h; cases h; exact ⟨b1,b2,rfl,rfl,rfl⟩
theorem zkb {f:D->D->Option Bool} : ∀ {xs ys:LD} {b:Bool},xs.length=ys.length->zeo f xs ys=some b->∃ e : Nat->Bool,(∀ j x y,xs[j]?=some x->ys[j]?=some y->f x y=some (e j))/\(List.range xs.length).all e=b
 | [],[],b,_,h=>by cases h; exact ⟨fun _=>true,fun j x y e=>by simp at e,rfl⟩
 | x::xs,y::ys,b,hl,h=>by
  obtain ⟨b1,b2,h1,h2,rfl⟩:=z2m h;obtain ⟨e,he,ha⟩:=zkb (by simpa using hl) h2
  refine ⟨fun j=>match j with | 0=>b1 | j + 1=>e j,fun j x' y' ex ey=>?_,?_⟩
  ·cases j with
   | zero=>simp at ex ey; subst ex ey; exact h1
   | succ j=>exact he j x' y' (by simpa using ex) (by simpa using ey)
  ·rw [length_cons,range_succ_eq_map,all_cons,all_map,<- ha]
   rfl
 | [],_::_,_,hl,_=>by cases hl
 | _::_,[],_,hl,_=>by cases hl
theorem zr9 (hs:(x.scalar && y.scalar && !zxp x y)=true) (r1:Rep G H x v) (r2:Rep G H y u) : zew v=true/\zew u=true/\eqV v u=eqF x y/\z0o v u=true/\decide (v=u)=eqF x y:=by
 cases x <;> first
  | (cases hs; done)
  | (cases y <;> first
   | (cases hs; done)
   | (cases r1; cases r2; refine ⟨rfl,rfl,rfl,rfl,?_⟩; first | exact zv8 | exact zv9 | exact zwa | rfl))
variable {n:Nat}
theorem zry (hs:¬ (∃ xs ys,x=.lst xs/\y=.lst ys)/\¬ (∃ xs ys,x=.tup xs/\y=.tup ys)) (h:deq (n + 1) x y=some b) : (x.scalar && y.scalar && !zxp x y)=true/\b=eqF x y:=by
 replace h : zwc (deq n) x y=some b:=h;unfold zwc at h;split at h
 ·exact absurd ⟨_,_,rfl,rfl⟩ hs.1
 ·exact absurd ⟨_,_,rfl,rfl⟩ hs.2
 ·split at h
  ·rename_i hc;cases h;exact ⟨hc,rfl⟩
  ·cases h
theorem z2o : ∀ (n:Nat) {x y:D} {b:Bool} {v:V},deq n x y=some b->Rep G H x v->Rep G H y v->b=true:=by
 intro n
 induction n with
 | zero=>intro x y b v h; cases h
 | succ n ih =>
  have all : ∀ (xs ys:LD) (vs:List V) (b:Bool),zan G H xs vs->zan G H ys vs->zeo (deq n) xs ys=some b->b=true:=by
   intro xs
   induction xs with
   | nil =>
    intro ys vs b r1 r2 h;cases (show vs=[] from r1);have : ys=[]:=length_eq_zero_iff.mp r2.length;subst this
    cases h; rfl
   | cons x xs ihx =>
    intro ys vs b r1 r2 h;obtain ⟨v,r,e,h1,h2⟩:=r1;subst e
    cases ys with
    | nil=>cases (show v::r=[] from r2)
    | cons y ys =>
     obtain ⟨v',r',e,h1',h2'⟩:=r2;cases e;obtain ⟨b1,b2,e1,e2,rfl⟩:=z2m h;rw [ih e1 h1 h1',ihx ys _ b2 h2 h2' e2];rfl
  intro x y b v h r1 r2
  by_cases hl : ∃ xs ys,x=.lst xs/\y=.lst ys
  ·obtain ⟨xs,ys,rfl,rfl⟩:=hl;obtain ⟨a,vs,e,q,r1⟩:=r1;obtain ⟨a',vs',e',q',r2⟩:=r2;subst e; cases e';rw [q] at q'; cases q';have hlen : xs.length=ys.length:=r1.length.trans r2.length.symm;replace h : (if xs.length=ys.length then zeo (deq n) xs ys else some false)=some b:=h;rw [if_pos hlen] at h;exact all xs ys vs b r1 r2 h
  ·by_cases ht : ∃ xs ys,x=.tup xs/\y=.tup ys
   ·obtain ⟨xs,ys,rfl,rfl⟩:=ht;obtain ⟨a,vs,e,q,r1⟩:=r1;obtain ⟨a',vs',e',q',r2⟩:=r2;subst e; cases e';rw [q] at q'; cases q';have hlen : xs.length=ys.length:=r1.length.trans r2.length.symm;replace h : (if xs.length=ys.length then zeo (deq n) xs ys else none)=some b:=h;rw [if_pos hlen] at h;exact all xs ys vs b r1 r2 h
   ·obtain ⟨hs,rfl⟩:=zry ⟨hl,ht⟩ h;obtain ⟨_,_,_,_,e⟩:=zr9 hs r1 r2;rw [<- e];exact decide_eq_true rfl
variable {us:List V}
section
variable {s:Shared}
theorem zmb {its its2:LVa} {e:Nat->Bool} (r1:zan G H xs vs) (r2:zan G H ys us) (r:zay vs its) (r':zay us its2)
  (he:∀ j x y,xs[j]?=some x->ys[j]?=some y->deq n x y=some (e j))
  (ih:∀ {x y:D} {b:Bool} {v u:V} {w w':Value},deq n x y=some b->Rep G H x v->Rep G H y u->za7 v w->za7 u w'->SeqAt.EqAt A s w w' b) :
  ∀ j (h1:j < its.toArray.size) (h2:j < its2.toArray.size),SeqAt.EqAt A s its.toArray[j] its2.toArray[j] (e j):=fun j h1 h2=>by
 have h1' : j < its.length:=by simpa using h1
 have h2' : j < its2.length:=by simpa using h2
 obtain ⟨v,ev,rv⟩:=r.at' (i:=j) (u:=its[j]) (by simp [h1']);obtain ⟨u,eu,ru⟩:=r'.at' (i:=j) (u:=its2[j]) (by simp [h2']);obtain ⟨x,ex,rx⟩:=r1.get' ev;obtain ⟨y,ey,ry⟩:=r2.get' eu;exact ih (he j x y ex ey) rx ry rv ru
end
section
variable {s:Shared}
theorem z2n (I:Inv X pins σ H s) : ∀ (n:Nat) {A:Around} {x y:D} {b:Bool} {v u:V} {w w':Value},A.units + n < cLine->deq n x y=some b->Rep (Gx c X) H x v->Rep (Gx c X) H y u->za7 v w->za7 u w'->SeqAt.EqAt A s w w' b:=by
 intro n
 induction n with
 | zero=>intro A x y b v u w w' _ h; cases h
 | succ n ih =>
  intro A x y b v u w w' hu h r1 r2 rv ru;have hin : ∀ {x y:D} {b:Bool} {v u:V} {w w':Value},deq n x y=some b->Rep (Gx c X) H x v->Rep (Gx c X) H y u->za7 v w->za7 u w'->SeqAt.EqAt A.in1 s w w' b:=fun h a b c d=>ih (by rw [Around.in1_units]; omega) h a b c d
  by_cases hl : ∃ xs ys,x=.lst xs/\y=.lst ys
  ·obtain ⟨xs,ys,rfl,rfl⟩:=hl;obtain ⟨a,vs,e,q,rs1⟩:=id r1;obtain ⟨a',vs',e',q',rs2⟩:=id r2;subst e e';cases rv; cases ru
   by_cases hab : a=a'
   ·subst hab;have:=z2o (n + 1) h (show Rep (Gx c X) H (.lst xs) (.ref a) from ⟨a,vs,rfl,q,rs1⟩) ⟨a,vs',rfl,q',rs2⟩;subst this;exact SeqAt.EqAt.same _
   ·refine SeqAt.EqAt.of_refs hab ?_;obtain ⟨its,rr,pl,hz⟩:=I.list (SqL.of (K:=X.K) q);obtain ⟨its2,rr2,pl2,hz2⟩:=I.list (SqL.of (K:=X.K) q');have l1:=rr.length;have l2:=rr2.length;have l3:=rs1.length;have l4:=rs2.length;replace h : (if xs.length=ys.length then zeo (deq n) xs ys else some false)=some b:=h;split at h
    ·rename_i hlen;obtain ⟨ee,he,ha⟩:=zkb hlen h;have:=SeqAt.RcAt.lists (A:=A) (s:=s) pl.isList pl2.isList (by simp only [size_toArray]; omega) (by omega) (zmb (A:=A.in1) (s:=s) rs1 rs2 rr rr2 he hin);rw [size_toArray,<- l1,<- l3,ha] at this;exact this
    ·rename_i hlen;cases h;exact SeqAt.RcAt.lists_lengths (A:=A) (s:=s) pl.isList pl2.isList (by simp only [size_toArray,bne_iff_ne,ne_eq]; omega) (by omega)
  ·by_cases ht : ∃ xs ys,x=.tup xs/\y=.tup ys
   ·obtain ⟨xs,ys,rfl,rfl⟩:=ht;obtain ⟨a,vs,e,q,rs1⟩:=id r1;obtain ⟨a',vs',e',q',rs2⟩:=id r2;subst e e';cases rv; cases ru
    by_cases hab : a=a'
    ·subst hab;have:=z2o (n + 1) h (show Rep (Gx c X) H (.tup xs) (.ref a) from ⟨a,vs,rfl,q,rs1⟩) ⟨a,vs',rfl,q',rs2⟩;subst this;exact SeqAt.EqAt.same _
    ·refine SeqAt.EqAt.of_refs hab ?_;obtain ⟨its,rr,pl,hz⟩:=I.tuple (SqT.of (K:=X.K) q);obtain ⟨its2,rr2,pl2,hz2⟩:=I.tuple (SqT.of (K:=X.K) q');have l1:=rr.length;have l2:=rr2.length;have l3:=rs1.length;have l4:=rs2.length;replace h : (if xs.length=ys.length then zeo (deq n) xs ys else none)=some b:=h;split at h
     ·rename_i hlen;obtain ⟨ee,he,ha⟩:=zkb hlen h;have:=SeqAt.RcAt.tuples (A:=A) (s:=s) (show s.heap.IsTuple a its.toArray from pl) (show s.heap.IsTuple a' its2.toArray from pl2) (by omega) (zmb (A:=A.in1) (s:=s) rs1 rs2 rr rr2 he hin);have hsz : its.toArray.size=its2.toArray.size:=by simp only [size_toArray]; omega
      rw [<- hsz,Nat.min_self,beq_self_eq_true,Bool.and_true,size_toArray,<- l1,<- l3,ha] at this;exact this
     ·cases h
   ·obtain ⟨hs,rfl⟩:=zry ⟨hl,ht⟩ h;obtain ⟨f1,f2,e,_,_⟩:=zr9 hs r1 r2;rw [<- e];exact z28 rv ru f1 f2
end
theorem zcc (hu:X.A.units + 64 < cLine) : OpD c X (compareOp .Eq) dEq:=by
 rintro pins s σ H v u w w' Q I rv ru ⟨Hf,x,y,d,s0,r1,r2,e,k⟩;unfold dEq at e
 cases h : deq 20 x y with
 | none=>rw [h] at e; cases e
 | some b =>
  rw [h] at e;cases e;have q0:=k (.bl b) Hf H (Ext.refl s0) rfl;have fin : EP X pins σ Q (.bool b) s:=⟨.bl b,H,I,rfl,q0⟩;have r1:=r1.up s0;have r2:=r2.up s0;have hin : ∀ {x y:D} {b:Bool} {v u:V} {w w':Value},deq 19 x y=some b->Rep (Gx c X) H x v->Rep (Gx c X) H y u->za7 v w->za7 u w'->SeqAt.EqAt X.A.in1 s w w' b:=fun h a b c d=>z2n I 19 (by rw [Around.in1_units]; omega) h a b c d
  by_cases hl : ∃ xs ys,x=.lst xs/\y=.lst ys
  ·obtain ⟨xs,ys,rfl,rfl⟩:=hl;obtain ⟨a,vs,e,q,rs1⟩:=id r1;obtain ⟨a',vs',e',q',rs2⟩:=id r2;subst e e';cases rv; cases ru;obtain ⟨its,rr,pl,hz⟩:=I.list (SqL.of (K:=X.K) q);obtain ⟨its2,rr2,pl2,hz2⟩:=I.list (SqL.of (K:=X.K) q');have l1:=rr.length;have l2:=rr2.length;have l3:=rs1.length;have l4:=rs2.length;replace h : (if xs.length=ys.length then zeo (deq 19) xs ys else some false)=some b:=h;split at h
   ·rename_i hlen;obtain ⟨ee,he,ha⟩:=zkb hlen h;refine SeqAt.eq_listAt pl.isList pl2.isList (by simp only [size_toArray]; omega) (by omega) (zmb rs1 rs2 rr rr2 he hin) ?_;rw [size_toArray,<- l1,<- l3,ha];exact fin
   ·rename_i hlen;cases h;exact SeqAt.eq_list_lengthsAt pl.isList pl2.isList (by simp only [size_toArray,bne_iff_ne,ne_eq]; omega) (by omega) fin
  ·by_cases ht : ∃ xs ys,x=.tup xs/\y=.tup ys
   ·obtain ⟨xs,ys,rfl,rfl⟩:=ht;obtain ⟨a,vs,e,q,rs1⟩:=id r1;obtain ⟨a',vs',e',q',rs2⟩:=id r2;subst e e';cases rv; cases ru;obtain ⟨its,rr,pl,hz⟩:=I.tuple (SqT.of (K:=X.K) q);obtain ⟨its2,rr2,pl2,hz2⟩:=I.tuple (SqT.of (K:=X.K) q');have l1:=rr.length;have l2:=rr2.length;have l3:=rs1.length;have l4:=rs2.length;replace h : (if xs.length=ys.length then zeo (deq 19) xs ys else none)=some b:=h;split at h
    ·rename_i hlen;obtain ⟨ee,he,ha⟩:=zkb hlen h;refine SeqAt.eq_tupleAt (show s.heap.IsTuple a its.toArray from pl) (show s.heap.IsTuple a' its2.toArray from pl2) (by omega) (zmb rs1 rs2 rr rr2 he hin) ?_;have hsz : its.toArray.size=its2.toArray.size:=by simp only [size_toArray]; omega
     rw [<- hsz,Nat.min_self,beq_self_eq_true,Bool.and_true,size_toArray,<- l1,<- l3,ha];exact fin
    ·cases h
   ·obtain ⟨hs,rfl⟩:=zry ⟨hl,ht⟩ h;obtain ⟨_,_,_,hsc,e⟩:=zr9 hs r1 r2;exact yf6 pins s σ H v u w w' Q I rv ru ⟨hsc,by rw [e]; exact q0⟩
theorem zpo (hu:X.A.units + 64 < cLine) : OpD c X (compareOp .NotEq) dNe:=by
 rintro pins s σ H v u w w' Q I rv ru ⟨Hf,x,y,d,s0,r1,r2,e,k⟩;unfold dNe at e
 cases h : deq 20 x y with
 | none=>rw [h] at e; cases e
 | some b =>
  rw [h] at e;cases e;have q0:=k (.bl (!b)) Hf H (Ext.refl s0) rfl;have fin : EP X pins σ Q (.bool (!b)) s:=⟨.bl (!b),H,I,rfl,q0⟩;have r1:=r1.up s0;have r2:=r2.up s0;have hin : ∀ {x y:D} {b:Bool} {v u:V} {w w':Value},deq 19 x y=some b->Rep (Gx c X) H x v->Rep (Gx c X) H y u->za7 v w->za7 u w'->SeqAt.EqAt X.A.in1 s w w' b:=fun h a b c d=>z2n I 19 (by rw [Around.in1_units]; omega) h a b c d
  by_cases hl : ∃ xs ys,x=.lst xs/\y=.lst ys
  ·obtain ⟨xs,ys,rfl,rfl⟩:=hl;obtain ⟨a,vs,e,q,rs1⟩:=id r1;obtain ⟨a',vs',e',q',rs2⟩:=id r2;subst e e';cases rv; cases ru;obtain ⟨its,rr,pl,hz⟩:=I.list (SqL.of (K:=X.K) q);obtain ⟨its2,rr2,pl2,hz2⟩:=I.list (SqL.of (K:=X.K) q');have l1:=rr.length;have l2:=rr2.length;have l3:=rs1.length;have l4:=rs2.length;replace h : (if xs.length=ys.length then zeo (deq 19) xs ys else some false)=some b:=h;split at h
   ·rename_i hlen;obtain ⟨ee,he,ha⟩:=zkb hlen h;refine SeqAt.RcNeAt.lists (A:=X.A) (s:=s) pl.isList pl2.isList (by simp only [size_toArray]; omega) (by omega) (zmb rs1 rs2 rr rr2 he hin) X.prog X.w X.xe _ ?_;rw [size_toArray,<- l1,<- l3,ha];exact fin
   ·rename_i hlen;cases h;exact SeqAt.RcNeAt.lists_lengths (A:=X.A) (s:=s) pl.isList pl2.isList (by simp only [size_toArray,bne_iff_ne,ne_eq]; omega) (by omega) X.prog X.w X.xe _ fin
  ·by_cases ht : ∃ xs ys,x=.tup xs/\y=.tup ys
   ·obtain ⟨xs,ys,rfl,rfl⟩:=ht;obtain ⟨a,vs,e,q,rs1⟩:=id r1;obtain ⟨a',vs',e',q',rs2⟩:=id r2;subst e e';cases rv; cases ru;obtain ⟨its,rr,pl,hz⟩:=I.tuple (SqT.of (K:=X.K) q);obtain ⟨its2,rr2,pl2,hz2⟩:=I.tuple (SqT.of (K:=X.K) q');have l1:=rr.length;have l2:=rr2.length;have l3:=rs1.length;have l4:=rs2.length;replace h : (if xs.length=ys.length then zeo (deq 19) xs ys else none)=some b:=h;split at h
    ·rename_i hlen;obtain ⟨ee,he,ha⟩:=zkb hlen h;refine SeqAt.RcNeAt.tuples (A:=X.A) (s:=s) (show s.heap.IsTuple a its.toArray from pl) (show s.heap.IsTuple a' its2.toArray from pl2) (by omega) (zmb rs1 rs2 rr rr2 he hin) X.prog X.w X.xe _ ?_;have hsz : its.toArray.size=its2.toArray.size:=by simp only [size_toArray]; omega
     rw [<- hsz,Nat.min_self,beq_self_eq_true,Bool.and_true,size_toArray,<- l1,<- l3,ha];exact fin
    ·cases h
   ·obtain ⟨hs,rfl⟩:=zry ⟨hl,ht⟩ h;obtain ⟨_,_,_,hsc,e⟩:=zr9 hs r1 r2;exact yge pins s σ H v u w w' Q I rv ru ⟨hsc,by rw [e]; exact q0⟩
noncomputable def eqX : D->D->Bool
 | .non,.non=>true
 | .bl a,.bl b=>a==b
 | .bl a,.int b=>(if a then 1 else 0)==b
 | .int a,.bl b=>a==(if b then 1 else 0)
 | .int a,.int b=>a==b
 | .str a,.str b=>a==b
 | _,_=>false
noncomputable def inD (x y:D) : Option Bool:=(zj0 y).bind fun ds=>if x.scalar && ds.all D.scalar then some (ds.any fun d=>eqX d x) else none
noncomputable def dIn (x y:D) : OD:=(inD x y).map .bl
noncomputable def zi8 (x y:D) : OD:=(inD x y).map fun b=>.bl (!b)
theorem zuw : ∀ x y d,dIn x y=some d->d.scalar=true:=fun _ _ d e=>zux (g:=id) d e
theorem z0n : ∀ x y d,zi8 x y=some d->d.scalar=true:=fun _ _ d e=>zux (g:=not) d e
theorem yb2 (hx:x.scalar=true) (hy:y.scalar=true) (r1:Rep G H x v) (r2:Rep G H y u) : zew v=true/\zew u=true/\eqV v u=eqX x y:=by
 cases x <;> first
  | (cases hx; done)
  | (cases y <;> first
   | (cases hy; done)
   | (cases r1; cases r2; exact ⟨rfl,rfl,rfl⟩))
theorem z3u {G:Gc} {H:Hp} {x:D} {v:V} (hx:x.scalar=true) (r:Rep G H x v) : ∀ {ds:LD} {vs:List V},ds.all D.scalar=true->zan G H ds vs->vs.all zew=true/\inV v vs=ds.any fun d=>eqX d x
 | [],_,_,h=>by cases (show _=[] from h); exact ⟨rfl,rfl⟩
 | d::ds,_,ha,q3_=>by
  obtain ⟨u,r',e,h1,h2⟩:=q3_;subst e;rw [all_cons,Bool.and_eq_true] at ha;obtain ⟨f1,f2,e⟩:=yb2 ha.1 hx h1 r;obtain ⟨g1,g2⟩:=z3u hx r ha.2 h2;refine ⟨by rw [all_cons,f1,g1]; rfl,?_⟩;unfold inV at g2 ⊢;rw [any_cons,any_cons,e,g2]
theorem z3v (e:inD x y=some b) (r1:Rep G H x v) (r2:Rep G H y u) : ∃ p vs,u=.ref p/\(SqL G.K H p vs\/SqT G.K H p vs)/\zew v=true/\vs.all zew=true/\inV v vs=b:=by
 unfold inD at e
 cases es : zj0 y with
 | none=>rw [es] at e; cases e
 | some ds =>
  rw [es] at e;replace e : (if (x.scalar && ds.all D.scalar)=true then some (ds.any fun d=>eqX d x) else none)=some b:=e;split at e
  ·rename_i hc;cases e;rw [Bool.and_eq_true] at hc;obtain ⟨a,vs,e1,q,r⟩:=zuz es r2;obtain ⟨g1,g2⟩:=z3u hc.1 r1 hc.2 r
   have f : zew v=true:=by cases x <;> first | (cases r1; rfl) | (cases hc.1)
   exact ⟨a,vs,e1,q,f,g1,g2⟩
  ·cases e
theorem zmy : OpD c X (compareOp .In) dIn:=by
 rintro pins s σ H v u w w' Q I rv ru ⟨Hf,x,y,d,s0,r1,r2,e,k⟩;unfold dIn at e
 cases h : inD x y with
 | none=>rw [h] at e; cases e
 | some b =>
  rw [h] at e;cases e;obtain ⟨p,vs,e1,q,f1,f2,e2⟩:=z3v h (r1.up s0) (r2.up s0);refine yf9 pins s σ H v u w w' Q I rv ru ⟨p,vs,e1,q,f1,f2,?_⟩;rw [if_neg fq,e2];exact k _ Hf H (Ext.refl s0) rfl
theorem zxy : OpD c X (compareOp .NotIn) zi8:=by
 rintro pins s σ H v u w w' Q I rv ru ⟨Hf,x,y,d,s0,r1,r2,e,k⟩;unfold zi8 at e
 cases h : inD x y with
 | none=>rw [h] at e; cases e
 | some b =>
  rw [h] at e;cases e;obtain ⟨p,vs,e1,q,f1,f2,e2⟩:=z3v h (r1.up s0) (r2.up s0);refine ygf pins s σ H v u w w' Q I rv ru ⟨p,vs,e1,q,f1,f2,?_⟩;rw [if_pos rfl,e2];exact k _ Hf H (Ext.refl s0) rfl
theorem zvn {i:Int} (h:atI ds i=some d) (r:zan G H ds vs) : ∃ v,atI vs i=some v/\Rep G H d v:=by
 unfold atI at h ⊢;rw [<- r.length]
 cases e : ixN ds.length i with
 | none=>rw [e] at h; cases h
 | some j =>
  rw [e] at h;exact r.get h
noncomputable def ixD (ds:LD) : D->OD
 | .int k=>atI ds k
 | _=>none
noncomputable def mIx (f:MF2) (g:MF1) (ρ:LS) : OD:=(f ρ).bind fun ds=>(g ρ).bind fun i=>ixD ds i
variable {b:Expr}
theorem zbx {f:MF2} (ha:DC c X a f) (hb:DE c X b g) (hs:zvd b:=by exact fun _ _=>rfl) : DE c X (.Subscript a b pos) (mIx f g) :=
 PE.imp (z59 (z37.or z38) ha hb hs) fun σ H Q q_=>by
  obtain ⟨Hf0,H0,Hf,ρ,d,st,ef,k⟩:=q_;unfold mIx at ef
  cases e1 : f ρ with
  | none=>rw [e1] at ef; cases ef
  | some ds =>
   cases e2 : g ρ with
   | none=>rw [e1,e2] at ef; cases ef
   | some i =>
    rw [e1,e2] at ef;replace ef : ixD ds i=some d:=ef
    cases i with
    | int n =>
     replace ef : atI ds n=some d:=ef;refine ⟨Hf0,H0,Hf,ρ,ds,st,e1,fun l vs Hf1 H1 x1 q r=>⟨Hf0,H0,Hf1,ρ,.int n,st.step x1,e2,fun u Hf2 H2 x2 r2=>?_⟩⟩;cases (show u=V.int n from r2);obtain ⟨v,ev,rv⟩:=zvn ef r;have fin:=k v Hf2 H2 (x1.trans x2) (rv.up x2.f)
     rcases q with q | q
     ·exact .inl ⟨l,vs,n,v,rfl,rfl,x2.h.seq q,ev,fin⟩
     ·exact .inr ⟨l,vs,n,v,rfl,rfl,x2.h.tup q,ev,fin⟩
    | _=>cases ef
noncomputable def zlu (xs:LD) (lo hi:Option Int) : LD:=(xs.drop (HT.sIx xs.length 0 lo)).take (HT.sIx xs.length xs.length hi - HT.sIx xs.length 0 lo)
noncomputable def lsD : D->OLD
 | .lst xs=>some xs
 | .kl xs=>some xs
 | _=>none
theorem zmf (e:lsD d=some ds) (r:Rep G H d v) : ∃ a vs,v=.ref a/\SqL G.K H a vs/\zan G H ds vs:=by
 cases d with
 | lst xs=>cases e; obtain ⟨a,vs,e1,q,r⟩:=r; exact ⟨a,vs,e1,SqL.of q,r⟩
 | kl xs=>cases e; obtain ⟨a,vs,e1,q,r⟩:=r; exact ⟨a,vs,e1,q,r⟩
 | _=>cases e
def ykq (G:Gc) (f:LS->Option (Option Int)) : TO:=fun σ H Q=>∃ Hf0 H0 Hf ρ i,zao G Hf0 H0 Hf H σ ρ/\f ρ=some i/\∀ Hf' H',Ext Hf H Hf' H'->Q i H'
def DPt (c:Str->Addr) (X:Cx) (e:Option Expr) (f:LS->Option (Option Int)) : Prop:=PO X e (ykq (Gx c X) f)
theorem zke : DPt c X none (fun _=>some none):=fun pins s σ H Q I q_=>by
 obtain ⟨Hf0,H0,Hf,ρ,i,st,ef,k⟩:=q_;exact (yhu pins s σ H Q I (by cases ef; exact k Hf H (Ext.refl st.sub)))
noncomputable def mPt (f:MF1) (ρ:LS) : Option (Option Int):=(f ρ).bind fun d=>match d with
 | .int i=>some (some i)
 | _=>none
theorem zkf (h:DE c X e f) : DPt c X (some e) (mPt f):=fun pins s σ H Q I q_=>by
 obtain ⟨Hf0,H0,Hf,ρ,i,st,ef,k⟩:=q_
 exact (yhv h pins s σ H Q I (by
 unfold mPt at ef
 cases e1 : f ρ with
 | none=>rw [e1] at ef; cases ef
 | some d =>
  rw [e1] at ef
  cases d with
  | int n=>cases ef; exact ⟨Hf0,H0,Hf,ρ,.int n,st,e1,fun v Hf' H' x r=>⟨n,r,k Hf' H' x⟩⟩
  | _=>cases ef))
noncomputable def mSl (f:MF1) (l h:LS->Option (Option Int)) (ρ:LS) : OLD:=(f ρ).bind fun d=>(lsD d).bind fun ds=>(l ρ).bind fun lo=>(h ρ).map fun hi=>zlu ds lo hi
theorem yaz (r:zan G H ds vs) (lo hi:Option Int) : zan G H (zlu ds lo hi) (zi4 vs lo hi):=by
 unfold zlu zi4;rw [r.length];exact (r.drop _).take _
variable {p2:Pos}
theorem zwe {l h:LS->Option (Option Int)} {lo hi:Option Expr} (ha:DE c X e f) (hl:DPt c X lo l) (hh:DPt c X hi h) : DO c X (.Subscript e (.Slice lo hi none p2) pos) (mSl f l h) :=
 PE.imp (zyh yj4 ha hl hh) fun σ H Q q_=>by
  obtain ⟨Hf0,H0,Hf,ρ,rs,st,ef,k⟩:=q_;unfold mSl at ef
  cases e1 : f ρ with
  | none=>rw [e1] at ef; cases ef
  | some d =>
   cases e2 : lsD d with
   | none=>rw [e1] at ef; replace ef : (lsD d).bind _=_:=ef; rw [e2] at ef; cases ef
   | some ds =>
    cases e3 : l ρ with
    | none=>rw [e1] at ef; replace ef : (lsD d).bind _=_:=ef; rw [e2,e3] at ef; cases ef
    | some lo' =>
     cases e4 : h ρ with
     | none=>rw [e1] at ef; replace ef : (lsD d).bind _=_:=ef; rw [e2,e3,e4] at ef; cases ef
     | some hi' =>
      rw [e1] at ef;replace ef : (lsD d).bind _=_:=ef;rw [e2,e3,e4] at ef;cases ef;refine ⟨Hf0,H0,Hf,ρ,d,st,e1,fun v Hf1 H1 x1 r1=>⟨Hf0,H0,Hf1,ρ,lo',st.step x1,e3,fun Hf2 H2 x2=>⟨Hf0,H0,Hf2,ρ,hi',(st.step x1).step x2,e4,fun Hf3 H3 x3=>?_⟩⟩⟩;obtain ⟨a,vs,ea,q,r⟩:=zmf e2 r1;subst ea;have x:=(x1.trans x2).trans x3;have y:=(x2.trans x3);refine ⟨a,vs,rfl,(x1.s.trans y.h).seq q,fun p hp=>?_⟩;exact k p (zi4 vs lo' hi') Hf3 (upd H3 p (.lst (zi4 vs lo' hi'))) (x.trans (Ext.tmp x.s hp)) (x.h.free hp) (x.s.free hp) zb8 (yaz (r.up y.f) _ _)
def rCD (G:Gc) (m:LD->OD) : List V->Hp->VK->Prop:=fun vs H Q=>∃ Hf ds d,zav Hf H/\zan G Hf ds vs/\m ds=some d/\∀ v Hf' H',Ext Hf H Hf' H'->Rep G Hf' d v->Q v H'
abbrev zlq (c:Str->Addr) (X:Cx) (f:Value) (m:LD->OD) : Prop:=zgg X f (rCD (Gx c X) m)
noncomputable def zax (m:LD->OD) (f:MF2) (ρ:LS) : OD:=(f ρ).bind m
variable {m:LD->OD}
theorem zxg {f:MF2} (h:zax m f ρ=some d) : ∃ ds,f ρ=some ds/\m ds=some d:=by
 unfold zax at h
 cases e : f ρ with
 | none=>rw [e] at h; cases h
 | some ds=>rw [e] at h; exact ⟨ds,rfl,h⟩
variable {p:Pos}
theorem zd0 {f:MF2} {x:Str} {id:String} (hc:zlq c X (.builtin id) m) (hs:∀ ds d,m ds=some d->d.scalar=true) (hg:Gl X x) (hm:X.mg x=none) (hv:bootBuiltins x=some (.builtin id)) (ha:DAB c X (e::es) f) (hn:x ≠ "__name__":=by decide) (hdb:NDb x:=by decide)
  (he:StE X e es:=by rfl) (hpl:BkE X pos es:=by rfl) :
  DE c X @8 (zax m f):=PE.imp (zm2 hc hg hm hv ha.pa hn hdb he hpl) fun σ H Q q_=>by
 obtain ⟨Hf0,H0,Hf,ρ,d,st,ef,k⟩:=q_;obtain ⟨ds,e1,e2⟩:=zxg ef;exact ⟨Hf0,H0,Hf,ρ,ds,st,e1,fun vs Hf' H' x r=>⟨H',ds,d,zav.refl _,r,e2,fun v Hf2 H2 x2 r2=>k v Hf' H2 (x.trans (Ext.grow x.s x2.h)) (r2.sc (hs _ _ e2))⟩⟩
noncomputable def zcg : LD->OD
 | [.lst xs]=>some (.int xs.length)
 | [.tup xs]=>some (.int xs.length)
 | [.kl xs]=>some (.int xs.length)
 | [.kt xs]=>some (.int xs.length)
 | [.str x]=>if x.length<=16777216 then some (.int x.length) else none
 | _=>none
theorem zan.one (r:zan G H [d] vs) : ∃ v,vs=[v]/\Rep G H d v:=by
 obtain ⟨v,r',e,h,q⟩:=r;cases (show r'=[] from q);exact ⟨v,e,h⟩
theorem zeu : zlq c X (.builtin "len") zcg:=by
 rintro pins s σ H vs us Q I rv ⟨Hf,ds,d,s0,r,e,k⟩
 have sq : ∀ (d0:D) (xs:LD),ds=[d0]->zj0 d0=some xs->d=.int xs.length->wpAny @1 X.A (call (.builtin "len") us) (EP X pins σ Q) X.xe s:=fun d0 xs ed es e0=>by
  subst ed e0;obtain ⟨v,e1,r1⟩:=r.one;subst e1;obtain ⟨a,ws,e2,q,rs⟩:=zuz es r1;subst e2;refine yai pins s σ H _ us Q I rv ⟨a,ws,rfl,z0v s0 q,?_⟩;rw [<- rs.length];exact k _ Hf H (Ext.refl s0) rfl
 unfold zcg at e;split at e
 ·cases e; exact sq _ _ rfl rfl rfl
 ·cases e; exact sq _ _ rfl rfl rfl
 ·cases e; exact sq _ _ rfl rfl rfl
 ·cases e; exact sq _ _ rfl rfl rfl
 ·split at e
  ·rename_i hl;cases e;obtain ⟨v,e1,r1⟩:=r.one;subst e1;exact yaj pins s σ H _ us Q I rv ⟨_,by rw [show v=V.str _ from r1],by rw [sizeLine_eq]; exact hl,k _ Hf H (Ext.refl s0) rfl⟩
  ·cases e
 ·cases e
theorem ze3 : ∀ ds d,zcg ds=some d->d.scalar=true:=by
 intro ds d e;unfold zcg at e
 split at e <;> first | (cases e; done) | (cases e; rfl) | (split at e <;> first | (cases e; done) | (cases e; rfl))
noncomputable def tyN : D->Option String
 | .non=>some "NoneType"
 | .bl _=>some "bool"
 | .int _=>some "int"
 | .str _=>some "str"
 | .lst _=>some "list"
 | .tup _=>some "tuple"
 | _=>none
noncomputable def zwz (T:String) (d:D) : OD:=(tyN d).map fun t=>.bl (t==T || (t == "bool" && T == "int"))
theorem ylm {t:String} (e:tyN d=some t) (r:Rep G H d v) : zgj G.K H v (.type t):=by
 cases d with
 | non=>cases e; cases r; exact .non
 | bl b=>cases e; cases r; exact .bl b
 | int i=>cases e; cases r; exact .int i
 | str x=>cases e; cases r; exact .str x
 | lst xs=>cases e; obtain ⟨a,vs,e1,q,r⟩:=r; subst e1; exact .lst q
 | tup xs=>cases e; obtain ⟨a,vs,e1,q,r⟩:=r; subst e1; exact .tup q
 | _=>cases e
def zg0 (K:W.Frag) (T:String) : Prop:=∀ t∈["NoneType","bool","int","str","list","tuple","dict"],W.kitOne K (.type t) (.type T)=some (t==T || (t == "bool" && T == "int"))
theorem ylk {t:String} (e:tyN d=some t) : t∈["NoneType","bool","int","str","list","tuple","dict"]:=by
 cases d <;> first | (cases e; decide) | cases e
noncomputable def zhf (T:String) (f:MF1) (ρ:LS) : OD:=(f ρ).bind (zwz T)
theorem zic {T:String} {q1:Pos} {y:Str} (hk:zg0 X.K T) (hg:Gl X "isinstance") (hm:X.mg "isinstance"=none) (hy:bootBuiltins y=some (.type T)) (hgy:Gl X y) (hmy:X.mg y=none) (ha:DB c X e f)
  (hs:starEach [e,.Name y q1] X.env=(false,eval e X.env)::starEach [.Name y q1] X.env:=by rfl) (hs2:starEach [.Name y q1] X.env=(false,eval (.Name y q1) X.env)::starEach [] X.env:=by rfl)
  (hn:y ≠ "__name__":=by decide) (hdb:(y==("__debug__" : Str))=false:=by decide) (hpl:(backTo pos (starEach [.Name y q1] X.env)).any (·.1)=false:=by rfl) :
  DE c X (.Call (.Name "isinstance" p) [e,.Name y q1] [] pos) (zhf T f) :=
 PE.imp (zm2 yah hg hm boot_isinstance (zbv ha (zbv (z54 (v:=.ty T) hgy hmy hy rfl hn hdb) zcd hs2) hs) (by decide) (by decide) hs hpl) fun σ H Q q_=>by
  obtain ⟨Hf0,H0,Hf,ρ,d,st,ef,k⟩:=q_;unfold zhf at ef
  cases e1 : f ρ with
  | none=>rw [e1] at ef; cases ef
  | some x =>
   rw [e1] at ef;replace ef : zwz T x=some d:=ef;unfold zwz at ef
   cases e2 : tyN x with
   | none=>rw [e2] at ef; cases ef
   | some t =>
    rw [e2] at ef;cases ef;exact ⟨Hf0,H0,Hf,ρ,x,st,e1,fun v Hf' H' x1 r=>⟨v,T,.type t,_,rfl,ylm e2 r,hk t (ylk e2),k _ Hf' H' x1 rfl⟩⟩
def tDG (G:Gc) (g:D->LS->Option LS) : TG:=fun v σ H Q=>∃ Hf0 H0 Hf ρ d ρ',zao G Hf0 H0 Hf H σ ρ/\Rep G Hf d v/\g d ρ=some ρ'/\∀ σ',zao G Hf0 H0 Hf H σ' ρ'->Q σ' H
def ykp (G:Gc) (g:LD->LS->Option LS) : TGs:=fun vs σ H Q=>∃ Hf0 H0 Hf ρ ds ρ',zao G Hf0 H0 Hf H σ ρ/\zan G Hf ds vs/\g ds ρ=some ρ'/\∀ σ',zao G Hf0 H0 Hf H σ' ρ'->Q σ' H
structure DG (c:Str->Addr) (X:Cx) (tg:Expr) (k:Nat) (g:D->LS->Option LS) : Prop where
 pg : PG X tg (tDG (Gx c X) g)
 len : ∀ d ρ ρ',g d ρ=some ρ'->ρ'.length=ρ.length
 keep : ∀ d ρ ρ' i,g d ρ=some ρ'->k<=i->ρ'[i]?=ρ[i]?
structure DGs (c:Str->Addr) (X:Cx) (tg:LEx) (k:Nat) (g:LD->LS->Option LS) : Prop where
 pg : PGs X tg (ykp (Gx c X) g)
 len : ∀ d ρ ρ',g d ρ=some ρ'->ρ'.length=ρ.length
 keep : ∀ d ρ ρ' i,g d ρ=some ρ'->k<=i->ρ'[i]?=ρ[i]?
 many : ∀ ds ρ ρ',g ds ρ=some ρ'->ds.length=tg.length
noncomputable def zbe (i:Nat) (d:D) (ρ:LS) : Option LS:=some (ρ.set i (.im d))
theorem z2s (h:PG X e (zjg i)) (hk:i < k) : DG c X e k (zbe i) :=
 ⟨PG.imp h fun v σ H Q q_=>by obtain ⟨Hf0,H0,Hf,ρ,d,ρ',st,r,eg,q⟩:=q_; cases eg; exact q _ (st.setIm r),fun d ρ ρ' h=>by cases h; simp,fun d ρ ρ' j h hj=>by
  cases h;rw [List.getElem?_set_ne (by omega)]⟩
theorem zfk (i k:Nat) {x:Str} (hN:X.N.Nodup) (hk:i < k:=by decide) (hi:X.N[i]?=some x:=by rfl) (hx:Loc X.env.scope x:=by first | exact Or.inl rfl | exact Or.inr rfl) (hf:LcF X x:=by first | exact .inl rfl | exact .inr rfl) : DG c X (.Name x pos) k (zbe i) :=
 z2s (z6a hN hi hx hf) hk
noncomputable def zo4 (ds:LD) (ρ:LS) : Option LS:=match ds with
 | []=>some ρ
 | _=>none
noncomputable def zhx (g:D->LS->Option LS) (h:LD->LS->Option LS) (ds:LD) (ρ:LS) : Option LS:=match ds with
 | d::ds=>(g d ρ).bind fun ρ1=>h ds ρ1
 | []=>none
theorem zr1 : DGs c X [] k zo4:=by
 refine ⟨PGs.imp yha fun vs σ H Q q_=>?_,fun d ρ ρ' h=>?_,fun d ρ ρ' i h _=>?_,fun d ρ ρ' h=>?_⟩
 ·obtain ⟨Hf0,H0,Hf,ρ,ds,ρ',st,r,eg,q⟩:=q_
  cases ds with
  | nil=>cases eg; exact ⟨r,q _ st⟩
  | cons d ds=>cases eg
 ·cases d with
  | nil=>cases h; rfl
  | cons a b=>cases h
 ·cases d with
  | nil=>cases h; rfl
  | cons a b=>cases h
 ·cases d with
  | nil=>cases h; rfl
  | cons a b=>cases h
variable {h:LD->LS->Option LS}
theorem zsd {g:D->LS->Option LS} (e:zhx g h ds ρ=some ρ') : ∃ d r ρ1,ds=d::r/\g d ρ=some ρ1/\h r ρ1=some ρ':=by
 cases ds with
 | nil=>cases e
 | cons d r =>
  replace e : (g d ρ).bind _=_:=e
  cases e1 : g d ρ with
  | none=>rw [e1] at e; cases e
  | some ρ1=>rw [e1] at e; exact ⟨d,r,ρ1,rfl,e1,e⟩
theorem zjc {g:D->LS->Option LS} (h1:DG c X e k g) (h2:DGs c X es k h) (hs:(assignEach (e::es) X.env).map (·.2)=assign e X.env::(assignEach es X.env).map (·.2):=by rfl) : DGs c X (e::es) k (zhx g h):=by
 refine ⟨PGs.imp (yg9 h1.pg h2.pg hs) fun vs σ H Q q_=>?_,fun d ρ ρ' h=>?_,fun d ρ ρ' i h hi=>?_,fun d ρ ρ' h=>?_⟩
 ·obtain ⟨Hf0,H0,Hf,ρ,ds,ρ',st,r,eg,q⟩:=q_;obtain ⟨d,dr,ρ1,rfl,e1,e2⟩:=zsd eg;obtain ⟨v,vr,ev,rv,rr⟩:=r;exact ⟨v,vr,ev,Hf0,H0,Hf,ρ,d,ρ1,st,rv,e1,fun σ1 st1=>⟨Hf0,H0,Hf,ρ1,dr,ρ',st1,rr,e2,q⟩⟩
 ·obtain ⟨d,dr,ρ1,rfl,e1,e2⟩:=zsd h;rw [h2.len _ _ _ e2,h1.len _ _ _ e1]
 ·obtain ⟨d,dr,ρ1,rfl,e1,e2⟩:=zsd h;rw [h2.keep _ _ _ _ e2 hi,h1.keep _ _ _ _ e1 hi]
 ·obtain ⟨d,dr,ρ1,rfl,e1,e2⟩:=zsd h;rw [length_cons,length_cons,h2.many _ _ _ e2]
noncomputable def tpD : D->OLD
 | .tup xs=>some xs
 | .kt xs=>some xs
 | _=>none
theorem z8y (e:tpD d=some ds) (r:Rep G H d v) : ∃ a vs,v=.ref a/\SqT G.K H a vs/\zan G H ds vs:=by
 cases d with
 | tup xs=>cases e; obtain ⟨a,vs,e1,q,r⟩:=r; exact ⟨a,vs,e1,SqT.of q,r⟩
 | kt xs=>cases e; obtain ⟨a,vs,e1,q,r⟩:=r; exact ⟨a,vs,e1,q,r⟩
 | _=>cases e
noncomputable def zkj (g:LD->LS->Option LS) (d:D) (ρ:LS) : Option LS:=(tpD d).bind fun ds=>g ds ρ
theorem zwo {g:LD->LS->Option LS} (h:zkj g d ρ=some ρ') : ∃ ds,tpD d=some ds/\g ds ρ=some ρ':=by
 unfold zkj at h
 cases e : tpD d with
 | none=>rw [e] at h; cases h
 | some ds=>rw [e] at h; exact ⟨ds,rfl,h⟩
variable {kk:Nat}
theorem zr0 {g:LD->LS->Option LS} (hc:X.calm=true) (h:DGs c X es k g) (hn:(assignEach es X.env).length=es.length:=by rfl) (hst:(assignEach es X.env).findIdx? (·.1)=none:=by rfl) : DG c X (.Tuple es kk pos) k (zkj g):=by
 refine ⟨PG.imp (yg8 hc h.pg hn hst) fun v σ H Q q_=>?_,fun d ρ ρ' h'=>?_,fun d ρ ρ' i h' hi=>?_⟩
 ·obtain ⟨Hf0,H0,Hf,ρ,d,ρ',st,r,eg,q⟩:=q_;obtain ⟨ds,e1,e2⟩:=zwo eg;obtain ⟨a,vs,ea,qa,ra⟩:=z8y e1 r;exact ⟨a,vs,ea,st.sub.tup qa,by rw [<- ra.length]; exact h.many _ _ _ e2,Hf0,H0,Hf,ρ,ds,ρ',st,ra,e2,q⟩
 ·obtain ⟨ds,e1,e2⟩:=zwo h';exact h.len _ _ _ e2
 ·obtain ⟨ds,e1,e2⟩:=zwo h';exact h.keep _ _ _ _ e2 hi
def zj4 (G:Gc) (Hf:Hp) (J:It) (ds:LD) : Prop:=∀ Hf' H',zav Hf Hf'->zav Hf' H'->∀ i : Nat,
 (∀ d,ds[i]?=some d->J.go i H'/\∀ x H2,J.yld i H' x H2->∃ Hf2,Ext Hf' H' Hf2 H2/\Rep G Hf2 d x)/\(i=ds.length->J.stop i H')
def z1a (G:Gc) (Hf H:Hp) (J:It) (ds:LD) : Prop:=∀ Hf' H',Ext Hf H Hf' H'->∀ i : Nat,
 (∀ d,ds[i]?=some d->J.go i H'/\∀ x H2,J.yld i H' x H2->∃ Hf2,Ext Hf' H' Hf2 H2/\Rep G Hf2 d x)/\(i=ds.length->J.stop i H')
theorem zj4.toE (h:zj4 G Hf J ds) : z1a G Hf H J ds:=fun Hf' H' x i=>h Hf' H' x.f x.s i
def tDI (G:Gc) (f:MF2) : TI:=fun σ H R=>∃ Hf0 H0 Hf ρ ds,zao G Hf0 H0 Hf H σ ρ/\f ρ=some ds/\∀ J Hf' H',Ext Hf H Hf' H'->zj4 G Hf' J ds->R J H'
def z00 (G:Gc) (f:MF2) : TI:=fun σ H R=>∃ Hf0 H0 Hf ρ ds,zao G Hf0 H0 Hf H σ ρ/\f ρ=some ds/\∀ J Hf' H',Ext Hf H Hf' H'->z1a G Hf' H' J ds->R J H'
def DI (c:Str->Addr) (X:Cx) (tg iter:Expr) (f:MF2) : Prop:=PI X tg iter (tDI (Gx c X) f)
def DIe (c:Str->Addr) (X:Cx) (tg iter:Expr) (f:MF2) : Prop:=PI X tg iter (z00 (Gx c X) f)
theorem DI.de {f:MF2} (h:DI c X tg e f) : DIe c X tg e f:=PI.imp h fun σ H R q_=>by
 obtain ⟨Hf0,H0,Hf,ρ,ds,st,ef,k⟩:=q_;exact (⟨Hf0,H0,Hf,ρ,ds,st,ef,fun J Hf' H' x i=>k J Hf' H' x i.toE⟩)
theorem ydq (q:SqT G.K Hf l vs) (r:zan G Hf ds vs) : zj4 G Hf (Itt G.K l) ds:=fun Hf' H' f s i=>by
 have q' : SqT G.K H' l vs:=(f.trans s).tup q;refine ⟨fun d ed=>?_,fun ei=>⟨vs,q',by rw [<- r.length,ei]; exact Nat.le_refl _⟩⟩;obtain ⟨v,ev,rv⟩:=r.get ed;refine ⟨⟨vs,v,q',ev⟩,fun x H2 ⟨e2,y⟩=>?_⟩;subst e2;have:=y vs q';rw [ev] at this;cases this;exact ⟨Hf',Ext.refl s,rv.up f⟩
theorem zg9 (h:DE c X e f) : DI c X tg e (zdx f):=fun pins s σ H R I q_=>by
 obtain ⟨Hf0,H0,Hf,ρ,ds,st,ef,k⟩:=q_;unfold zdx at ef
 cases e1 : f ρ with
 | none=>rw [e1] at ef; cases ef
 | some d =>
  rw [e1] at ef;replace ef : zj0 d=some ds:=ef;have un : ∀ {l:Addr} {H':Hp} {us vs:List V},SqL X.K H' l us->SqL X.K H' l vs->us=vs\/True:=fun _ _=>.inr trivial
  cases e2 : lsD d with
  | some ds' =>
   have : ds'=ds:=by cases d <;> first | (cases e2; done) | (cases e2; cases ef; rfl)
   subst this;refine yhd h pins s σ H R I ⟨Hf0,H0,Hf,ρ,d,st,e1,fun v Hf' H' x r=>?_⟩;obtain ⟨a,vs,ea,q,rs⟩:=zmf e2 r
   exact ⟨a,ea,⟨vs,x.s.seq q⟩,k _ Hf' H' x fun Hf2 H2 f2 s2 i=>by
    have q' : SqL X.K H2 a vs:=(f2.trans s2).seq q;refine ⟨fun d ed=>?_,fun ei=>⟨vs,q',by rw [<- rs.length,ei]; exact Nat.le_refl _⟩⟩;obtain ⟨v,ev,rv⟩:=rs.get ed;refine ⟨⟨vs,v,q',ev⟩,fun x H3 ⟨e3,y⟩=>?_⟩;subst e3;have:=y vs q';rw [ev] at this;cases this
    exact ⟨Hf2,Ext.refl s2,rv.up f2⟩⟩
  | none =>
   have e3 : tpD d=some ds:=by cases d <;> first | (cases e2; done) | (cases ef; done) | (cases ef; rfl)
   refine yhf h pins s σ H R I ⟨Hf0,H0,Hf,ρ,d,st,e1,fun v Hf' H' x r=>?_⟩;obtain ⟨a,vs,ea,q,rs⟩:=z8y e3 r;exact ⟨a,ea,⟨vs,x.s.tup q⟩,k _ Hf' H' x (ydq q rs)⟩
noncomputable def rng (lo:Int) (n:Nat) : LD:=(List.range n).map fun (i:Nat)=>.int (lo + i)
theorem z33 {lo:Int} : zj4 G Hf (Itr lo n) (rng lo n):=fun Hf' H' f s i=>by
 refine ⟨fun d ed=>?_,fun ei=>?_⟩
 ·unfold rng at ed;rw [List.getElem?_map] at ed
  cases e : (List.range n)[i]? with
  | none=>rw [e] at ed; cases ed
  | some j =>
   rw [e] at ed;obtain ⟨hi,ej⟩:=gq e;rw [length_range] at hi;rw [List.getElem_range] at ej;subst ej;cases ed;exact ⟨hi,fun x H2 ⟨e2,y⟩=>by subst e2; exact ⟨Hf',Ext.refl s,y⟩⟩
 ·unfold rng at ei;rw [length_map,length_range] at ei;exact Nat.le_of_eq ei.symm
noncomputable def zjx : LD->OLD
 | [.int j]=>if -(2 ^ 62)<=j/\j < 2 ^ 62 then some (rng 0 j.toNat) else none
 | [.int i,.int j]=>if -(2 ^ 62)<=i/\i < 2 ^ 62/\-(2 ^ 62)<=j/\j < 2 ^ 62 then some (rng i (j - i).toNat) else none
 | _=>none
noncomputable def zfq (f:MF2) (ρ:LS) : OLD:=(f ρ).bind zjx
theorem zox {f:MF2} (hg:Gl X "range") (hm:X.mg "range"=none) (ha:DA c X [a] f) (hs:starEach [a] X.env=[(false,eval a X.env)]:=by rfl) : DI c X tg (.Call (.Name "range" p) [a] [] pos) (zfq f) :=
 PI.imp (z6c hg hm ha.pa hs) fun σ H R q_=>by
  obtain ⟨Hf0,H0,Hf,ρ,ds,st,ef,k⟩:=q_;unfold zfq at ef
  cases e1 : f ρ with
  | none=>rw [e1] at ef; cases ef
  | some as =>
   rw [e1] at ef;replace ef : zjx as=some ds:=ef;have hl:=ha.len ρ as e1;refine ⟨Hf0,H0,Hf,ρ,as,st,e1,fun vs Hf' H' x r=>?_⟩;unfold zjx at ef;split at ef
   ·split at ef
    ·rename_i j hj;cases ef;obtain ⟨v,ev,rv⟩:=r.one;cases (show v=V.int j from rv);exact ⟨j,ev,hj.1,hj.2,k _ Hf' H' x z33⟩
    ·cases ef
   ·cases hl
   ·cases ef
noncomputable def zb9 (k:Nat) (js:LN) (ρ:LS) : LS:=List.replicate k .no++js.map fun j=>(ρ[j]?).getD .no
theorem zao.weak (h:zao G Hf0 H0 Hf H σ ρ) (hl:ρ'.length=ρ.length) (hw:∀ (i:Nat) (s:Sl),ρ'[i]?=some s->s=.no\/ρ[i]?=some s) : zao G Hf0 H0 Hf H σ ρ':=by
 refine h.re h.ext hl (fun i v s a b=>?_) fun i s v a b c p=>?_
 ·rcases hw i s b with e | e
  ·subst e; trivial
  ·exact h.at' i v s a e
 ·rcases hw i s b with e | e
  ·subst e; exact (p.calm rfl).elim
  ·exact ⟨s,e,p⟩
theorem zk9 {α : Type} {x:α} {l:List α} {y:α} (h:(List.replicate k x++l)[i]?=some y) : (i < k/\y=x)\/(k<=i/\l[i - k]?=some y):=by
 by_cases hi : i < k
 ·left;rw [List.getElem?_append_left (by simpa using hi),List.getElem?_replicate,if_pos hi] at h;exact ⟨hi,(Option.some.inj h).symm⟩
 ·right;rw [List.getElem?_append_right (by simpa using Nat.le_of_not_lt hi),length_replicate] at h;exact ⟨Nat.le_of_not_lt hi,h⟩
theorem zky {α β : Type} {f:α->β} {l:List α} {y:β} (h:(l.map f)[i]?=some y) : ∃ x,l[i]?=some x/\y=f x:=by
 rw [List.getElem?_map] at h
 cases e : l[i]? with
 | none=>rw [e] at h; cases h
 | some x=>rw [e] at h; exact ⟨x,rfl,(Option.some.inj h).symm⟩
theorem ye2 (h:js.Nodup) {x:Nat} (a:js[i]?=some x) (b:js[j]?=some x) : i=j:=by
 obtain ⟨h1,e1⟩:=gq a;obtain ⟨h2,e2⟩:=gq b;exact (List.getElem_inj h).mp (e1.trans e2.symm)
theorem zao.comp (k:Nat) (h:zao G Hf0 H0 Hf H σ ρ) (hj:js.Nodup) : zao G Hf0 H0 Hf H (zfg k js σ) (zb9 k js ρ):=by
 have own : ∀ (i:Nat) (s:Sl),(zb9 k js ρ)[i]?=some s->s.calm=false->∃ j,k<=i/\js[i - k]?=some j/\ρ[j]?=some s:=fun i s a hs=>by
  rcases zk9 a with ⟨_,e⟩ | ⟨hi,a⟩
  ·subst e; cases hs
  ·obtain ⟨j,ej,es⟩:=zky a
   cases e : ρ[j]? with
   | none=>rw [e] at es; subst es; cases hs
   | some t=>rw [e] at es; replace es : s=t:=es; subst es; exact ⟨j,hi,ej,e⟩
 have val : ∀ (i:Nat) (v:Option V) (j:Nat),(zfg k js σ)[i]?=some v->k<=i->js[i - k]?=some j->v=(σ[j]?).getD none:=fun i v j a hi ej=>by
  rcases zk9 a with ⟨hi',_⟩ | ⟨_,a⟩
  ·omega
  ·obtain ⟨j',ej',es⟩:=zky a;rw [ej] at ej'; cases ej';exact es
 refine ⟨h.ext,by simp [zfg,zb9],fun i v s a b=>?_,fun i j s t y z l a b c d p q=>?_⟩
 ·rcases zk9 b with ⟨_,e⟩ | ⟨hi,b⟩
  ·subst e; trivial
  ·obtain ⟨j,ej,es⟩:=zky b;have ev:=val i v j a hi ej
   cases e : ρ[j]? with
   | none=>rw [e] at es; subst es; trivial
   | some t =>
    rw [e] at es;replace es : s=t:=es;subst es;obtain ⟨u,eu,q⟩:=h.slot e;rw [eu] at ev;replace ev : v=u:=ev;subst ev;exact q
 ·have hs : s.calm=false:=by
   cases hc : s.calm with
   | true=>exact (p.calm hc).elim
   | false=>rfl
  have ht : t.calm=false:=by
   cases hc : t.calm with
   | true=>exact (q.calm hc).elim
   | false=>rfl
  obtain ⟨i',hi,ei,e1⟩:=own i s a hs;obtain ⟨j',hj',ej,e2⟩:=own j t b ht;have v1:=val i _ i' c hi ei;have v2:=val j _ j' d hj' ej;obtain ⟨u1,eu1,_⟩:=h.slot e1;obtain ⟨u2,eu2,_⟩:=h.slot e2;rw [eu1] at v1;rw [eu2] at v2;replace v1 : some y=u1:=v1;replace v2 : some z=u2:=v2;subst v1 v2;have:=h.dj i' j' s t y z l e1 e2 eu1 eu2 p q;subst this;have:=ye2 hj ei ej;omega
noncomputable def zgl (h:D->Option OD) : LD->OLD
 | []=>some []
 | d::ds=>(h d).bind fun o=>(zgl h ds).map fun r=>match o with
  | some y=>y::r
  | none=>r
theorem yar {h:D->Option OD} {r:LD} (e:zgl h (d::ds)=some r) : ∃ o r',h d=some o/\zgl h ds=some r'/\r=(match o with | some y=>y::r' | none=>r'):=by
 unfold zgl at e
 cases e1 : h d with
 | none=>rw [e1] at e; cases e
 | some o =>
  cases e2 : zgl h ds with
  | none=>rw [e1,e2] at e; cases e
  | some r' =>
   rw [e1,e2] at e;cases e;refine ⟨o,r',rfl,rfl,?_⟩
   cases o <;> rfl
noncomputable def zhg (g:D->LS->Option LS) (ft:MF4) (fe:MF1) (ρ:LS) (d:D) : Option OD:=(g d ρ).bind fun ρ1=>(ft ρ1).bind fun b=>if b then (fe ρ1).map some else some none
noncomputable def zdq (k:Nat) (js:LN) (fi:MF2) (g:D->LS->Option LS) (ft:MF4) (fe:MF1) (ρ:LS) : OLD :=
 (fi ρ).bind fun ds=>if ds.length<=16777216 then zgl (zhg g ft fe (zb9 k js ρ)) ds else none
theorem zr3 {α : Type} {l:List α} (h:i < l.length) : ∃ x,l[i]?=some x/\l.drop i=x::l.drop (i + 1):=⟨l[i],by simp [h],(drop_eq_getElem_cons h)⟩
def DTs (c:Str->Addr) (X:Cx) (ifs:LEx) (f:MF4) : Prop:=PTs X ifs (tDT (Gx c X) f)
theorem zl5 : DTs c X [] kY:=PTs.imp yh4 fun σ H Q q_=>by
 obtain ⟨Hf0,H0,Hf,ρ,b,st,ef,k⟩:=q_;exact (by cases ef; exact k Hf H (Ext.refl st.sub))
theorem zr5 {f:MF4} (h:DT c X e f) : DTs c X [e] f:=yh5 h
variable {fi:MF2} {g:D->LS->Option LS} {ft:MF4} {fe:MF1}
theorem z16 (hj:js.Nodup) (hk:∀ d ρ ρ' i,g d ρ=some ρ'->k<=i->ρ'[i]?=ρ[i]?) (hlen:∀ d ρ ρ',g d ρ=some ρ'->ρ'.length=ρ.length) (h:tDO G (zdq k js fi g ft fe) σ H Q) :
  znk k js (z00 G fi) (tDG G g) (tDT G ft) (tD G fe) σ H Q:=by
 obtain ⟨Hf0,H0,Hf,ρ,rs,st,ef,kq⟩:=h;unfold zdq at ef
 cases e1 : fi ρ with
 | none=>rw [e1] at ef; cases ef
 | some ds =>
  rw [e1] at ef;replace ef : (if ds.length<=16777216 then zgl (zhg g ft fe (zb9 k js ρ)) ds else none)=some rs:=ef
  by_cases hz : ds.length<=16777216
  ·rw [if_pos hz] at ef;refine ⟨Hf0,H0,Hf,ρ,ds,st,e1,fun J Hf1 H1 x1 it=>?_⟩
   refine ⟨fun i m ys σ' H'=>m=ds.length - i/\i<=ds.length/\∃ Hf' as za9,Ext Hf1 H1 Hf' H'/\zao G Hf0 H0 Hf' H' σ' (zb9 k js ρ)/\zan G Hf' as ys/\zgl (zhg g ft fe (zb9 k js ρ)) (ds.drop i)=some za9/\rs=as++za9/\as.length<=i,
    ⟨ds.length,rfl,Nat.zero_le _,Hf1,[],rs,Ext.refl x1.s,(st.step x1).comp k hj,rfl,ef,rfl,Nat.le_refl _⟩,?_⟩
   rintro i m ys σ' H' ⟨rfl,hi,Hf',as,za9,x2,st2,ra,ec,er,hal⟩;have hys : ys.length<=sizeLine:=by rw [sizeLine_eq,<- ra.length]; omega
   obtain ⟨it1,it2⟩:=it Hf' H' x2 i
   by_cases hlt : i < ds.length
   ·obtain ⟨d,ed,edr⟩:=zr3 hlt;obtain ⟨go,yl⟩:=it1 d ed
    refine .inr ⟨go,hys,fun ys' σ2 H2=>ds.length - (i + 1)=ds.length - (i + 1)/\i + 1<=ds.length/\∃ Hf' as za9,Ext Hf1 H1 Hf' H2/\zao G Hf0 H0 Hf' H2 σ2 (zb9 k js ρ)/\zan G Hf' as ys'/\zgl (zhg g ft fe (zb9 k js ρ)) (ds.drop (i + 1))=some za9/\rs=as++za9/\as.length<=i + 1,
     fun ys' σ2 H2 w=>⟨ds.length - (i + 1),by omega,w⟩,fun x H2 y=>?_⟩
    obtain ⟨Hf2,x3,rx⟩:=yl x H2 y;rw [edr] at ec;obtain ⟨o,r',eo,ec',erest⟩:=yar ec;unfold zhg at eo
    cases eg : g d (zb9 k js ρ) with
    | none=>rw [eg] at eo; cases eo
    | some ρ1 =>
     rw [eg] at eo;replace eo : (ft ρ1).bind _=_:=eo
     cases et : ft ρ1 with
     | none=>rw [et] at eo; cases eo
     | some b =>
      rw [et] at eo;replace eo : (if b=true then (fe ρ1).map some else some none)=some o:=eo;refine ⟨Hf0,H0,Hf2,zb9 k js ρ,d,ρ1,st2.step x3,rx,eg,fun σ3 st3=>⟨Hf0,H0,Hf2,ρ1,b,st3,et,fun Hf4 H4 x4=>?_⟩⟩
      have back : ∀ {Hf5 H5:Hp},zao G Hf0 H0 Hf5 H5 σ3 ρ1->zao G Hf0 H0 Hf5 H5 σ3 (zb9 k js ρ):=fun {Hf5 H5} s5=>s5.weak (hlen _ _ _ eg).symm fun j s hs=>by
       rcases zk9 hs with ⟨_,e⟩ | ⟨hj',_⟩
       ·exact .inl e
       ·exact .inr (by rw [hk _ _ _ _ eg hj']; exact hs)
      cases b with
      | true =>
       rw [if_pos rfl] at eo;refine zsl ?_
       cases ee : fe ρ1 with
       | none=>rw [ee] at eo; cases eo
       | some y' =>
        rw [ee] at eo;cases eo;refine ⟨Hf0,H0,Hf4,ρ1,y',st3.step x4,ee,fun v Hf5 H5 x5 r5=>?_⟩;have x:=(x3.trans x4).trans x5;refine ⟨rfl,hlt,Hf5,as++[y'],r',x2.trans x,back ((st3.step x4).step x5),(ra.up x.f).append (.cons r5 .nil),ec',?_,by rw [length_append,length_singleton]; omega⟩;rw [er,erest,append_assoc]
        rfl
      | false =>
       rw [if_neg fq] at eo;refine zw2 ?_;cases eo;have x:=x3.trans x4;exact ⟨rfl,hlt,Hf4,as,r',x2.trans x,back (st3.step x4),ra.up x.f,ec',by rw [er,erest],by omega⟩
   ·have ei : i=ds.length:=by omega
    subst ei;refine .inl ⟨it2 rfl,hys,fun l h1 h2=>?_⟩;rw [drop_eq_nil_of_le (Nat.le_refl _)] at ec;cases ec;rw [append_nil] at er;subst er;have x:=x1.trans x2;exact kq l ys Hf' (upd H' l (.lst ys)) (x.trans (Ext.tmp x.s h2)) (x.h.free h2) (x.s.free h2) zb8 ra
  ·rw [if_neg hz] at ef;cases ef
theorem zkd (k:Nat) (js:LN) (Nc:LSt) (hc:X.calm=true) (hi:DIe c X tg iter fi) (hg:∀ cl C ex s₂ H₂,DG c @0 tg k g) (ht:∀ cl C ex s₂ H₂,DTs c @0 ifs ft)
  (he:∀ cl C ex s₂ H₂,DE c @0 elt fe) (ck:zh9 scope X.env.scope.names X.N Nc k js=true:=by rfl) (hs:∀ x,foldedSetIterable iter X.env x=pure x:=by intro _; rfl) (hj:js.Nodup:=by decide) :
  DO c X @7 (zdq k js fi g ft fe) :=
 PE.imp (z57 (g:=tDG (Gx c X) g) (tt:=tDT (Gx c X) ft) (te:=tD (Gx c X) fe) k js Nc hc hi (fun cl C ex s₂ H₂=>(hg cl C ex s₂ H₂).pg) ht he ck hs) fun σ H Q h =>
  z16 hj (hg [] 0 [] X.s₀ X.H₀).keep (hg [] 0 [] X.s₀ X.H₀).len h
variable {x:Str}
theorem dvc (i:Nat) (hN:Nc[i]?=some x:=by rfl) (hv:Vis scope x:=by first | exact Or.inl rfl | exact Or.inr (Or.inl rfl) | exact Or.inr (Or.inr rfl)) (hd:NDb x:=by decide)
  (hcd:NCd x:=by decide) : DE c @0 (.Name x pos) (zab i):=z2h (pvc i hN hv hd hcd)
theorem zr6 (i:Nat) (hN:Nc[i]?=some x:=by rfl) (hv:Vis scope x:=by first | exact Or.inl rfl | exact Or.inr (Or.inl rfl) | exact Or.inr (Or.inr rfl)) (hd:NDb x:=by decide)
  (hcd:NCd x:=by decide) : DC c @0 (.Name x pos) (zbg i):=z2d (pvc i hN hv hd hcd)
theorem dgc (i k:Nat) (hk:i < k:=by decide) (hN:Nc.Nodup:=by decide +kernel) (hi:Nc[i]?=some x:=by rfl) (hl:scope.names.lookup x=some .local:=by rfl) : DG c @0 (.Name x pos) k (zbe i) :=
 z2s (pgc i hN hi hl) hk
inductive Fl where
 | nx (ρ:LS)
 | bk (ρ:LS)
 | ct (ρ:LS)
 | rt (d:D)
 | rtO (ds:LD)
 | rtS (d:D) (ρ:LS)
abbrev MF3:=LS->Option Fl
def zql (G:Gc) (Hf0 H0 Hf:Hp) (E:zhr) : Fl->Prop
 | .nx ρ'=>∀ σ' Hf' H',zav Hf Hf'->zao G Hf0 H0 Hf' H' σ' ρ'->E.nx σ' H'
 | .bk ρ'=>∀ σ' Hf' H',zav Hf Hf'->zao G Hf0 H0 Hf' H' σ' ρ'->E.bk σ' H'
 | .ct ρ'=>∀ σ' Hf' H',zav Hf Hf'->zao G Hf0 H0 Hf' H' σ' ρ'->E.ct σ' H'
 | .rt d=>∀ v Hf' H',Ext Hf0 H0 Hf' H'->Rep G Hf' d v->E.rt v H'
 | .rtO ds=>∀ l vs Hf' H',Ext Hf0 H0 Hf' H'->H0 l=none->Hf' l=none->H' l=some (.lst vs)->zan G Hf' ds vs->E.rt (.ref l) H'
 | .rtS d ρ=>∀ v σ' Hf' H',zao G Hf0 H0 Hf' H' σ' ρ->Rep G Hf' d v->E.rt v H'
def tDS (G:Gc) (F:MF3) : TS:=fun E σ H=>∃ Hf0 H0 Hf ρ o,zao G Hf0 H0 Hf H σ ρ/\F ρ=some o/\zql G Hf0 H0 Hf E o
def DS (c:Str->Addr) (X:Cx) (st:Stmt) (F:MF3) : Prop:=PS X st (tDS (Gx c X) F)
def DSs (c:Str->Addr) (X:Cx) (st:List Stmt) (F:MF3) : Prop:=PSs X st (tDS (Gx c X) F)
noncomputable def zbb (ρ:LS) : Option Fl:=some (.nx ρ)
noncomputable def zah (F F':MF3) (ρ:LS) : Option Fl:=(F ρ).bind fun o=>match o with
 | .nx ρ'=>F' ρ'
 | o=>some o
noncomputable def zbn (t:MF4) (F F':MF3) (ρ:LS) : Option Fl:=(t ρ).bind fun b=>if b then F ρ else F' ρ
noncomputable def zdi (i:Nat) (f:MF1) (ρ:LS) : Option Fl:=(f ρ).map fun d=>.nx (ρ.set i (.im d))
noncomputable def zd8 (i:Nat) (f:MF2) (ρ:LS) : Option Fl:=(f ρ).map fun d=>.nx (ρ.set i (.own d))
noncomputable def zdh (f:MF1) (ρ:LS) : Option Fl:=(f ρ).map .rt
noncomputable def zik (f:MF2) (ρ:LS) : Option Fl:=(f ρ).map .rtO
noncomputable def zgp (i:Nat) (ρ:LS) : Option Fl:=match ρ[i]? with
 | some (.im d)=>some (.rt d)
 | some (.own xs)=>some (.rtO xs)
 | _=>none
noncomputable def zhy (g:D->LS->Option LS) (F:MF3) : LD->MF3
 | [],ρ=>some (.nx ρ)
 | d::ds,ρ=>(g d ρ).bind fun ρ1=>(F ρ1).bind fun o=>match o with
  | .nx ρ2=>zhy g F ds ρ2
  | .ct ρ2=>zhy g F ds ρ2
  | .bk ρ2=>some (.nx ρ2)
  | .rt d=>some (.rt d)
  | .rtO d=>some (.rtO d)
  | .rtS d ρ2=>some (.rtS d ρ2)
noncomputable def zfo (fi:MF2) (g:D->LS->Option LS) (F:MF3) (ρ:LS) : Option Fl:=(fi ρ).bind fun ds=>zhy g F ds ρ
noncomputable def zsa (i:Nat) (ρ:LS) : LS:=match ρ[i]? with
 | some (.own xs)=>ρ.set i (.im (.lst xs))
 | some (.obj c ns xs)=>ρ.set i (.im (.ins c ns xs))
 | _=>ρ
noncomputable def zd2 (i:Nat) (F:MF3) (ρ:LS) : Option Fl:=F (zsa i ρ)
noncomputable def zf4 (i:Nat) (f:MF1) (ρ:LS) : Option Fl:=(f ρ).bind fun d=>match ρ[i]? with
 | some (.own xs)=>if xs.length < 16777216 then some (.nx (ρ.set i (.own (xs++[d])))) else none
 | _=>none
theorem zbd : DSs c X [] zbb:=PSs.imp z6m fun E σ H q_=>by
 obtain ⟨Hf0,H0,Hf,ρ,o,so,ef,k⟩:=q_;exact (by cases ef; exact k σ Hf H (zav.refl _) so)
theorem zql.up {E:zhr} {o:Fl} (h:zql G Hf0 H0 Hf E o) (s:zav Hf Hf') : zql G Hf0 H0 Hf' E o:=by
 cases o with
 | nx ρ=>exact fun σ' Hf2 H2 s2 q=>h σ' Hf2 H2 (s.trans s2) q
 | bk ρ=>exact fun σ' Hf2 H2 s2 q=>h σ' Hf2 H2 (s.trans s2) q
 | ct ρ=>exact fun σ' Hf2 H2 s2 q=>h σ' Hf2 H2 (s.trans s2) q
 | rt d=>exact h
 | rtO d=>exact h
 | rtS d ρ=>exact h
variable {st:Stmt} {sts:List Stmt} {F F':MF3}
theorem zak (h1:DS c X st F) (h2:DSs c X sts F') : DSs c X (st::sts) (zah F F'):=PSs.imp (zub h1 h2) fun E σ H q_=>by
 obtain ⟨Hf0,H0,Hf,ρ,o,so,ef,k⟩:=q_;unfold zah at ef
 cases e1 : F ρ with
 | none=>rw [e1] at ef; cases ef
 | some o1 =>
  rw [e1] at ef;refine ⟨Hf0,H0,Hf,ρ,o1,so,e1,?_⟩
  cases o1 with
  | nx ρ1=>exact fun σ1 Hf1 H1 s1 so1=>⟨Hf0,H0,Hf1,ρ1,o,so1,ef,k.up s1⟩
  | bk ρ1=>cases ef; exact k
  | ct ρ1=>cases ef; exact k
  | rt d=>cases ef; exact k
  | rtO d=>cases ef; exact k
  | rtS d ρ1=>cases ef; exact k
theorem zam (h1:DS c X st F) : DSs c X [st] F:=zyl h1
variable {a b:List Stmt} {t:MF4}
theorem zb2 (hc:DT c X cd t) (ha:DSs c X a F) (hb:DSs c X b F') : DS c X (.If cd a b pos) (zbn t F F'):=PS.imp (zyk hc ha hb) fun E σ H q_=>by
 obtain ⟨Hf0,H0,Hf,ρ,o,so,ef,k⟩:=q_;unfold zbn at ef
 cases e1 : t ρ with
 | none=>rw [e1] at ef; cases ef
 | some x =>
  rw [e1] at ef;refine ⟨Hf0,H0,Hf,ρ,x,so,e1,fun Hf1 H1 x1=>?_⟩
  cases x with
  | true=>rw [if_pos rfl]; exact ⟨Hf0,H0,Hf1,ρ,o,so.step x1,ef,k.up x1.f⟩
  | false=>rw [if_neg fq]; exact ⟨Hf0,H0,Hf1,ρ,o,so.step x1,ef,k.up x1.f⟩
theorem ybo (hp:PS X st (zj1 te (zjg i))) (hi:∀ σ H Q,tD (Gx c X) f σ H Q->te σ H Q) : DS c X st (zdi i f):=PS.imp hp fun E σ H q_=>by
 obtain ⟨Hf0,H0,Hf,ρ,o,so,ef,k⟩:=q_;unfold zdi at ef
 cases e1 : f ρ with
 | none=>rw [e1] at ef; cases ef
 | some d =>
  rw [e1] at ef;cases ef;exact hi _ _ _ ⟨Hf0,H0,Hf,ρ,d,so,e1,fun v Hf' H' x r=>k _ Hf' H' x.f ((so.step x).setIm r)⟩
theorem z2z {f:MF2} (hp:PS X st (zj1 te (zjg i))) (hi:∀ σ H Q,tDO (Gx c X) f σ H Q->te σ H Q) : DS c X st (zd8 i f):=PS.imp hp fun E σ H q_=>by
 obtain ⟨Hf0,H0,Hf,ρ,o,so,ef,k⟩:=q_;unfold zd8 at ef
 cases e1 : f ρ with
 | none=>rw [e1] at ef; cases ef
 | some d =>
  rw [e1] at ef;cases ef;exact hi _ _ _ ⟨Hf0,H0,Hf,ρ,d,so,e1,fun l vs Hf' H' x hn hf hl r=>k _ Hf' H' x.f (so.setOwn (s:=.own d) rfl x hn hf ⟨vs,hl,r⟩)⟩
theorem zev (i:Nat) (hN:X.N.Nodup) (he:DE c X e f) (hi:X.N[i]?=some x:=by rfl) (hx:Loc X.env.scope x:=by first | exact Or.inl rfl | exact Or.inr rfl) (hs:swapsWith e (some (.Name x pos')) pos.line X.env=pure false:=by rfl) (hf:LcF X x:=by first | exact .inl rfl | exact .inr rfl) :
  DS c X (.Assign [.Name x pos'] e pos) (zdi i f):=ybo (zjt hN hi hx he hs hf) fun _ _ _ h=>h
theorem zhw (i:Nat) {f:MF2} (hN:X.N.Nodup) (he:DO c X e f) (hi:X.N[i]?=some x:=by rfl) (hx:Loc X.env.scope x:=by first | exact Or.inl rfl | exact Or.inr rfl) (hs:swapsWith e (some (.Name x pos')) pos.line X.env=pure false:=by rfl) (hf:LcF X x:=by first | exact .inl rfl | exact .inr rfl) :
  DS c X (.Assign [.Name x pos'] e pos) (zd8 i f):=z2z (zjt hN hi hx he hs hf) fun _ _ _ h=>h
theorem ybn (i:Nat) (k:Nat) (js:LN) (Nc:LSt) (hN:X.N.Nodup) (hc:X.calm=true) (hi:DIe c X tg iter fi)
  (hg:∀ cl C ex s₂ H₂,DG c @0 tg k g) (ht:∀ cl C ex s₂ H₂,DTs c @0 ifs ft) (he:∀ cl C ex s₂ H₂,DE c @0 elt fe)
  (hi':X.N[i]?=some x:=by rfl) (hx:Loc X.env.scope x:=by first | exact Or.inl rfl | exact Or.inr rfl)
  (hsw:swapsWith @7 (some (.Name x pos')) spos.line X.env=pure true:=by rfl)
  (ck:zh9 scope X.env.scope.names X.N Nc k js=true:=by rfl) (hs:∀ x,foldedSetIterable iter X.env x=pure x:=by intro _; rfl) (hj:js.Nodup:=by decide)
  (hf:LcF X x:=by first | exact .inl rfl | exact .inr rfl) :
  DS c X (.Assign [.Name x pos'] @7 spos) (zd8 i (zdq k js fi g ft fe)) :=
 z2z (yh2 (g:=tDG (Gx c X) g) (tt:=tDT (Gx c X) ft) (te:=tD (Gx c X) fe) k js Nc hN hi' hx hc hi (fun cl C ex s₂ H₂=>(hg cl C ex s₂ H₂).pg) ht he hsw ck hs hf) fun σ H Q h=>z16 hj (hg [] 0 [] X.s₀ X.H₀).keep (hg [] 0 [] X.s₀ X.H₀).len h
theorem ze9 (he:DE c X e f) : DS c X (.Return (some e) pos) (zdh f):=PS.imp (zm5 he) fun E σ H q_=>by
 obtain ⟨Hf0,H0,Hf,ρ,o,so,ef,k⟩:=q_;unfold zdh at ef
 cases e1 : f ρ with
 | none=>rw [e1] at ef; cases ef
 | some d =>
  rw [e1] at ef;cases ef;exact ⟨Hf0,H0,Hf,ρ,d,so,e1,fun v Hf' H' x r=>k v Hf' H' (so.ext.trans x) r⟩
noncomputable def zcl (f:MF1) (ρ:LS) : Option Fl:=(f ρ).map fun d=>.rtS d ρ
theorem zc0 (he:DE c X e f) : DS c X (.Return (some e) pos) (zcl f):=PS.imp (zm5 he) fun E σ H q_=>by
 obtain ⟨Hf0,H0,Hf,ρ,o,so,ef,k⟩:=q_;unfold zcl at ef
 cases e1 : f ρ with
 | none=>rw [e1] at ef; cases ef
 | some d =>
  rw [e1] at ef;cases ef;exact ⟨Hf0,H0,Hf,ρ,d,so,e1,fun v Hf' H' x r=>k v σ Hf' H' (so.step x) r⟩
theorem zr4 {f:MF2} (he:DO c X e f) : DS c X (.Return (some e) pos) (zik f):=PS.imp (zm5 he) fun E σ H q_=>by
 obtain ⟨Hf0,H0,Hf,ρ,o,so,ef,k⟩:=q_;unfold zik at ef
 cases e1 : f ρ with
 | none=>rw [e1] at ef; cases ef
 | some d =>
  rw [e1] at ef;cases ef;exact ⟨Hf0,H0,Hf,ρ,d,so,e1,fun l vs Hf' H' x hn hf hl r=>k l vs Hf' H' (so.ext.trans x) (so.ext.h.free hn) hf hl r⟩
theorem ybl (he:PE X e (zc2 i)) : DS c X (.Return (some e) pos) (zgp i):=PS.imp (zm5 he) fun E σ H q_=>by
 obtain ⟨Hf0,H0,Hf,ρ,o,so,ef,k⟩:=q_;unfold zgp at ef
 cases es : ρ[i]? with
 | none=>rw [es] at ef; cases ef
 | some s =>
  rw [es] at ef
  cases s with
  | im d =>
   cases ef;obtain ⟨v,e1,r⟩:=so.imm es
   exact ⟨_,e1,k v Hf H so.ext r⟩
  | own xs =>
   cases ef;obtain ⟨l,e1,h0,hf,vs,q,r⟩:=so.ownAt rfl es
   exact ⟨_,e1,k l vs Hf H so.ext h0 hf q r⟩
  | _=>cases ef
theorem zoz (i:Nat) (hN:X.N[i]?=some x:=by rfl) (hv:Vis X.env.scope x:=by first | exact Or.inl rfl | exact Or.inr (Or.inl rfl) | exact Or.inr (Or.inr rfl)) (hd:NDb x:=by decide)
  (hcd:NCd x:=by decide) : DS c X (.Return (some (.Name x p)) pos) (zgp i):=ybl (ziq hN hv hd hcd)
theorem zhv (hp:PassesOwn @1 X.A X.env X.xe) (hc:X.calm=true) (hi:DI c X tg iter fi) (hg:DG c X tg kk g) (hb:DSs c X a F) (hs:∀ x,foldedSetIterable iter X.env x=pure x:=by intro _; rfl) :
  DS c X (.For tg iter a [] pos) (zfo fi g F):=PS.imp (yh0 hp hc hi hg.pg hb hs) fun E σ H q_=>by
 obtain ⟨Hf0,H0,Hf,ρ,o,so,ef,k⟩:=q_;unfold zfo at ef
 cases e1 : fi ρ with
 | none=>rw [e1] at ef; cases ef
 | some ds =>
  rw [e1] at ef;replace ef : zhy g F ds ρ=some o:=ef;refine ⟨Hf0,H0,Hf,ρ,ds,so,e1,fun J Hf1 H1 x1 it=>?_⟩;refine ⟨fun i m σ' H'=>m=ds.length - i/\i<=ds.length/\∃ Hf' ρ',zao (Gx c X) Hf0 H0 Hf' H' σ' ρ'/\zav Hf1 Hf'/\zhy g F (ds.drop i) ρ'=some o,⟨ds.length,rfl,Nat.zero_le _,Hf1,ρ,so.step x1,zav.refl _,ef⟩,?_⟩;rintro i m σ' H' ⟨rfl,hi',Hf',ρ',so',s1,em⟩;obtain ⟨it1,it2⟩:=it Hf' H' s1 so'.sub i
  by_cases hlt : i < ds.length
  ·obtain ⟨d,ed,edr⟩:=zr3 hlt;obtain ⟨go,yl⟩:=it1 d ed;rw [edr] at em;unfold zhy at em;refine .inr ⟨go,fun σ2 H2=>ds.length - (i + 1)=ds.length - (i + 1)/\i + 1<=ds.length/\∃ Hf' ρ',zao (Gx c X) Hf0 H0 Hf' H2 σ2 ρ'/\zav Hf1 Hf'/\zhy g F (ds.drop (i + 1)) ρ'=some o,fun σ2 H2 w=>⟨ds.length - (i + 1),by omega,w⟩,fun x H2 y=>?_⟩;obtain ⟨Hf2,x2,rx⟩:=yl x H2 y
   cases eg : g d ρ' with
   | none=>rw [eg] at em; cases em
   | some ρ1 =>
    rw [eg] at em;replace em : (F ρ1).bind _=_:=em
    cases eF : F ρ1 with
    | none=>rw [eF] at em; cases em
    | some o1 =>
     rw [eF] at em;refine ⟨Hf0,H0,Hf2,ρ',d,ρ1,so'.step x2,rx,eg,fun σ3 so3=>⟨Hf0,H0,Hf2,ρ1,o1,so3,eF,?_⟩⟩;have sf:=s1.trans x2.f
     cases o1 with
     | nx ρ2=>exact fun σ4 Hf4 H4 s4 so4=>⟨rfl,hlt,Hf4,ρ2,so4,sf.trans s4,em⟩
     | ct ρ2=>exact fun σ4 Hf4 H4 s4 so4=>⟨rfl,hlt,Hf4,ρ2,so4,sf.trans s4,em⟩
     | bk ρ2=>cases em; exact fun σ4 Hf4 H4 s4 so4=>k σ4 Hf4 H4 ((x1.f.trans sf).trans s4) so4
     | rt d=>cases em; exact k
     | rtO d=>cases em; exact k
     | rtS d ρ2=>cases em; exact k
  ·have ei : i=ds.length:=by omega
   subst ei;rw [drop_eq_nil_of_le (Nat.le_refl _)] at em;cases em;exact .inl ⟨it2 rfl,k σ' Hf' H' (x1.f.trans s1) so'⟩
theorem ycb {E:zhr} (h:tDS G (zd2 i F) E σ H) : tDS G F E σ H:=by
 obtain ⟨Hf0,H0,Hf,ρ,o,so,ef,k⟩:=h;unfold zd2 zsa at ef;split at ef
 ·rename_i xs es;obtain ⟨l,e1,h0,hf,vs,q,r⟩:=so.ownAt rfl es;exact ⟨Hf0,H0,_,_,o,so.fixd (d:=.lst xs) rfl es e1 q ⟨l,vs,rfl,zb8,r.up (zc9 hf)⟩,ef,k.up (zc9 hf)⟩
 ·rename_i c' ns xs es;obtain ⟨l,e1,h0,hf,dx,vs,q,z,r⟩:=so.ownAt rfl es;exact ⟨Hf0,H0,_,_,o,so.fixd (d:=.ins c' ns xs) rfl es e1 q ⟨l,dx,vs,rfl,zb8,z,r.up (zc9 hf)⟩,ef,k.up (zc9 hf)⟩
 ·exact ⟨Hf0,H0,Hf,ρ,o,so,ef,k⟩
theorem zgm (i:Nat) (h:DS c X st F) : DS c X st (zd2 i F):=PS.imp h fun _ _ _=>ycb
theorem zl4 (h:PS X st (zu3 (tBM X.K "list" zym (zc2 i) (zli (tD (Gx c X) f) ziv)))) : DS c X st (zf4 i f):=PS.imp h fun E σ H q_=>by
 obtain ⟨Hf0,H0,Hf,ρ,o,so,ef,k⟩:=q_;unfold zf4 at ef
 cases e1 : f ρ with
 | none=>rw [e1] at ef; cases ef
 | some d =>
  rw [e1] at ef
  replace ef : (match ρ[i]? with | some (.own xs)=>if xs.length < 16777216 then some (Fl.nx (ρ.set i (.own (xs++[d])))) else none | _=>none)=some o:=ef
  split at ef
  ·rename_i xs es;split at ef
   ·rename_i hl;cases ef;obtain ⟨l,e2,h0,hf,vs,q,r⟩:=so.ownAt rfl es;refine ⟨_,e2,.inl ⟨rfl,_,SqL.of q⟩,Hf0,H0,Hf,ρ,d,so,e1,fun v Hf' H' x r'=>?_⟩;have so':=so.step x;have q':=x.h _ _ q;refine ⟨l,vs,v,rfl,rfl,q',by rw [sizeLine_eq,<- r.length]; exact hl,k σ Hf' _ x.f (so'.mutd (s:=.own xs) (s':=.own (xs++[d])) rfl rfl es e2 ⟨vs++[v],zb8,(r.up x.f).append (.cons r' .nil)⟩)⟩
   ·cases ef
  ·cases ef
noncomputable def zyx : Fl->OD
 | .rt d=>some d
 | .rtO ds=>some (.lst ds)
 | .rtS d _=>some d
 | .nx _=>some .non
 | _=>none
noncomputable def zef (n:Nat) (ds:LD) : LS:=ds.map .im++List.replicate (n - ds.length) .no
noncomputable def zdl (n:Nat) (F:MF3) (ds:LD) : OD:=(F (zef n ds)).bind zyx
noncomputable def zui (n:Nat) (F:MF3) (ds:LD) : OLD:=(F (zef n ds)).bind fun o=>match o with
 | .rtO ds=>some ds
 | _=>none
def spD (G:Gc) (n:Nat) (m:LD->OD) : Sp:=fun vs H Q _=>∃ Hf ds d,zav Hf H/\zan G Hf ds vs/\ds.length=n/\m ds=some d/\∀ v Hf' H',Ext Hf H Hf' H'->Rep G Hf' d v->Q v H'
def spO (G:Gc) (n:Nat) (m:LD->OLD) : Sp:=fun vs H Q _=>∃ Hf ds rs,zav Hf H/\zan G Hf ds vs/\ds.length=n/\m ds=some rs /\
 ∀ l us Hf' H',Ext Hf H Hf' H'->H l=none->Hf' l=none->H' l=some (.lst us)->zan G Hf' rs us->Q (.ref l) H'
theorem zao.start (s0:zav Hf H) (r:zan G Hf ds vs) : zao G Hf H Hf H (start N vs) (zef N.length ds):=by
 have hl:=r.length
 have im : ∀ (i:Nat) (s:Sl),(zef N.length ds)[i]?=some s->s=.no\/∃ d,ds[i]?=some d/\s=.im d:=fun i s b=>by
  unfold zef at b
  by_cases hi : i < ds.length
  ·rw [List.getElem?_append_left (by simpa using hi)] at b;obtain ⟨d,ed,es⟩:=zky b;exact .inr ⟨d,ed,es⟩
  ·rw [List.getElem?_append_right (by simpa using Nat.le_of_not_lt hi)] at b;obtain ⟨_,e⟩:=gq b;rw [List.getElem_replicate] at e;exact .inl e.symm
 refine ⟨Ext.refl s0,by simp [L2.start,zef,hl],fun i v s a b=>?_,fun i j s t v w l a b c d p q=>?_⟩
 ·rcases im i s b with e | ⟨d,ed,es⟩
  ·subst e; trivial
  ·subst es;obtain ⟨u,eu,ru⟩:=r.get ed;refine ⟨u,?_,ru⟩;have hi : i < vs.length:=(gq eu).1;unfold L2.start at a;rw [List.getElem?_append_left (by simpa using hi),List.getElem?_map,eu] at a;exact (Option.some.inj a).symm
 ·rcases im i s a with e | ⟨d,ed,es⟩
  ·subst e; exact (p.calm rfl).elim
  ·subst es; exact (p.calm rfl).elim
variable {P:Program} {mg:MGT} {base:Heap} {n_:Nat} {qual:Str} {f:Addr} {fd:FuncData} {ps:LSt}
theorem zfb (Fn:Fun K x qual st f fd) (S:za1 N ps (zau st))
  (h:∀ (cdv:Value) (A:Around) (outer:List Env) (s:Shared) (H:Hp) (E:XK),zbl k (A.deeper (envOfC qual (zau st) s.heap.objs.size f cdv))->DSs c (zen CX0 P w K mg base N qual (zau st) f cdv A outer s H E).nox (zfj st) F) (hn_:N.length=n_:=by rfl) :
  zcn P w K mg base CX0 (k + 1) f fd ps (spD ⟨K,c⟩ ps.length (zdl n_ F)):=by
 subst hn_;refine Fn.ok S (fun vs H Q E q_=>by obtain ⟨Hf,ds,d,s0,r,hl,_⟩:=q_; rw [<- r.length]; exact hl) fun cdv A outer s H vs Q E hr q_=>?_;obtain ⟨Hf,ds,d,s0,r,hl,e,kq⟩:=q_;refine ⟨_,h cdv A outer s H E hr,?_⟩;unfold zdl at e
 cases eF : F (zef N.length ds) with
 | none=>rw [eF] at e; cases e
 | some o =>
  rw [eF] at e;replace e : zyx o=some d:=e;refine ⟨Hf,H,Hf,_,o,zao.start s0 r,eF,?_⟩
  cases o with
  | nx ρ=>cases e; exact fun σ' Hf' H' _ so=>kq _ Hf' H' so.ext rfl
  | bk ρ=>cases e
  | ct ρ=>cases e
  | rt d=>cases e; exact kq
  | rtO rs=>cases e; exact fun l vs Hf' H' x hn hf hl r=>kq _ (upd Hf' l (.lst vs)) H' (x.fix hn hf hl) ⟨l,vs,rfl,zb8,r.up (zc9 hf)⟩
  | rtS d ρ=>cases e; exact fun v σ' Hf' H' so r=>kq v Hf' H' so.ext r
theorem ycg (Fn:Fun K x qual st f fd) (S:za1 N ps (zau st))
  (h:∀ (cdv:Value) (A:Around) (outer:List Env) (s:Shared) (H:Hp) (E:XK),zbl k (A.deeper (envOfC qual (zau st) s.heap.objs.size f cdv))->DSs c (zen CX0 P w K mg base N qual (zau st) f cdv A outer s H E).nox (zfj st) F) (hn_:N.length=n_:=by rfl) :
  zcn P w K mg base CX0 (k + 1) f fd ps (spO ⟨K,c⟩ ps.length (zui n_ F)):=by
 subst hn_;refine Fn.ok S (fun vs H Q E q_=>by obtain ⟨Hf,ds,d,s0,r,hl,_⟩:=q_; rw [<- r.length]; exact hl) fun cdv A outer s H vs Q E hr q_=>?_;obtain ⟨Hf,ds,rs,s0,r,hl,e,kq⟩:=q_;refine ⟨_,h cdv A outer s H E hr,?_⟩;unfold zui at e
 cases eF : F (zef N.length ds) with
 | none=>rw [eF] at e; cases e
 | some o =>
  rw [eF] at e;refine ⟨Hf,H,Hf,_,o,zao.start s0 r,eF,?_⟩
  cases o with
  | rtO rs'=>cases e; exact kq
  | _=>cases e
variable {fa:MF2} {k0:Nat}
theorem zck (pk:Pk X.prog X.w X.K X.mg X.base CX0 k x (f,fd) ps (spD (Gx c X) ps.length m)) (hr0:zbl k0 X.A) (ha:DA c X (e::es) fa) (hl:(e::es).length=ps.length:=by rfl) (hdb:NDb x:=by decide) (he:StE X e es:=by rfl) (hpl:BkE X pos es:=by rfl) (hk0:k<=k0:=by decide) (hg:Gl X x:=by first | rfl | exact glc rfl) :
  DE c X @8 (zax m fa):=PE.imp @9 fun σ H Q q_=>by
 obtain ⟨Hf0,H0,Hf,ρ,d,st,ef,kq⟩:=q_;obtain ⟨ds,e1,e2⟩:=zxg ef;refine ⟨Hf0,H0,Hf,ρ,ds,st,e1,fun vs Hf' H' x r=>?_⟩;dsimp only;rw [append_nil];exact ⟨Hf',ds,d,x.s,r,(ha.len ρ ds e1).trans hl,e2,fun v Hf2 H2 x2 r2=>kq v Hf2 H2 (x.trans x2) r2⟩
noncomputable def zmj (m:LD->OLD) (f:MF2) (ρ:LS) : OLD:=(f ρ).bind m
theorem ybf {m:LD->OLD} (pk:Pk X.prog X.w X.K X.mg X.base CX0 k x (f,fd) ps (spO (Gx c X) ps.length m)) (hr0:zbl k0 X.A) (ha:DA c X (e::es) fa) (hl:(e::es).length=ps.length:=by rfl) (hdb:NDb x:=by decide) (he:StE X e es:=by rfl) (hpl:BkE X pos es:=by rfl) (hk0:k<=k0:=by decide) (hg:Gl X x:=by first | rfl | exact glc rfl) :
  DO c X @8 (zmj m fa):=PE.imp @9 fun σ H Q q_=>by
 obtain ⟨Hf0,H0,Hf,ρ,rs,st,ef,kq⟩:=q_;unfold zmj at ef
 cases e1 : fa ρ with
 | none=>rw [e1] at ef; cases ef
 | some ds =>
  rw [e1] at ef;refine ⟨Hf0,H0,Hf,ρ,ds,st,e1,fun vs Hf' H' x r=>?_⟩;dsimp only;rw [append_nil];exact ⟨Hf',ds,rs,x.s,r,(ha.len ρ ds e1).trans hl,ef,fun l us Hf2 H2 x2 hn hf hl' r2=>kq l us Hf2 H2 (x.trans x2) (x.h.free hn) hf hl' r2⟩
noncomputable def zmk (m:LD->OD) (f:MF2) (ρ:LS) : OD:=(f ρ).bind fun ds=>(m ds).bind fun d=>if d.scalar then some d else none
theorem ya6 (pk:Pk X.prog X.w X.K X.mg X.base CX0 k x (f,fd) ps (spD (Gx c X) ps.length m)) (hr0:zbl k0 X.A) (ha:DAB c X (e::es) fa) (hl:(e::es).length=ps.length:=by rfl) (hdb:NDb x:=by decide) (he:StE X e es:=by rfl) (hpl:BkE X pos es:=by rfl) (hk0:k<=k0:=by decide) (hg:Gl X x:=by first | rfl | exact glc rfl) :
  DE c X @8 (zmk m fa):=PE.imp @9 fun σ H Q q_=>by
 obtain ⟨Hf0,H0,Hf,ρ,d,st,ef,kq⟩:=q_;unfold zmk at ef
 cases e1 : fa ρ with
 | none=>rw [e1] at ef; cases ef
 | some ds =>
  rw [e1] at ef;replace ef : (m ds).bind _=_:=ef
  cases e2 : m ds with
  | none=>rw [e2] at ef; cases ef
  | some d' =>
   rw [e2] at ef;replace ef : (if d'.scalar=true then some d' else none)=some d:=ef;split at ef
   ·rename_i hs;cases ef;refine ⟨Hf0,H0,Hf,ρ,ds,st,e1,fun vs Hf' H' x r=>?_⟩;dsimp only;rw [append_nil];exact ⟨H',ds,_,zav.refl _,r,(ha.len ρ ds e1).trans hl,e2,fun v Hf2 H2 x2 r2=>kq v Hf' H2 (x.trans (Ext.grow x.s x2.h)) (r2.sc hs)⟩
   ·cases ef
theorem zxe {G:Gc} {H:Hp} {f:Str} {d:D} : ∀ {ns:LSt} {ds:LD} {vs:List V},(ns.zip ds).lookup f=some d->zan G H ds vs->∃ v,(ns.zip vs).lookup f=some v/\Rep G H d v
 | [],_,_,e,_=>by simp at e
 | n::ns,[],_,e,_=>by simp at e
 | n::ns,x::ds,_,e,q4_=>by
  obtain ⟨v,r,ev,h1,h2⟩:=q4_;subst ev;rw [zip_cons_cons,lookup_cons] at e;rw [zip_cons_cons,lookup_cons]
  cases hf : f==n with
  | true=>rw [hf] at e; cases e; exact ⟨v,rfl,h1⟩
  | false=>rw [hf] at e; exact zxe e h2
theorem zo7 {f:Str} : ∀ {ns:LSt} {vs:List V},ns.contains f=false->(ns.zip vs).lookup f=none
 | [],_,_=>by simp
 | n::ns,[],_=>by simp
 | n::ns,v::vs,h=>by
  rw [contains_cons,Bool.or_eq_false_iff] at h;rw [zip_cons_cons,lookup_cons,h.1];exact zo7 h.2
noncomputable def zpa : List (Str×(MF1))->LS->LSt->LD->Option (LSt×LD)
 | [],_,ns,ds=>some (ns,ds)
 | (f,m)::r,ρ,ns,ds=>(m ρ).bind fun d=>if ns.contains f then none else zpa r ρ (ns++[f]) (ds++[d])
def yku (G:Gc) (cn:Str) (fs:List (Str×(MF1))) : TS:=fun E σ H=>∃ x dx Hf0 H0 Hf ρ ns us ds r,σ[0]?=some (some (.ref x))/\(∀ s∈ρ,Sl.calm s=true)/\zao G Hf0 H0 Hf H σ ρ/\H0 x=none/\Hf x=none /\
 H x=some (.ins (G.cl cn) dx (ns.zip us))/\ns.length=us.length/\ns.length + fs.length<=900/\zan G Hf ds us/\zpa fs ρ ns ds=some r /\
 ∀ us' Hf' H',Ext Hf0 H0 Hf' H'->Hf' x=none->H' x=some (.ins (G.cl cn) dx (r.1.zip us'))->r.1.length=us'.length->zan G Hf' r.2 us'->E.nx σ H'
def DSI (c:Str->Addr) (X:Cx) (cn:Str) (sts:List Stmt) (fs:List (Str×(MF1))) : Prop:=PSs X sts (yku (Gx c X) cn fs)
theorem zpw {f:Str} {v:V} : ∀ {ns:LSt} {us:List V},ns.length=us.length->ns.contains f=false->zdu f v (ns.zip us)=(ns++[f]).zip (us++[v])
 | [],[],_,_=>rfl
 | n::ns,u::us,hl,h=>by
  rw [contains_cons,Bool.or_eq_false_iff] at h;have h1 : ¬ (n=f):=fun z=>by rw [z,beq_self_eq_true] at h; cases h.1
  rw [zip_cons_cons];unfold zdu
  first
   | (rw [if_neg h1,zpw (by simpa using hl) h.2]; rfl)
   | (rw [if_neg (fun z=>h1 (Eq.symm z)),zpw (by simpa using hl) h.2]; rfl)
   | (rw [if_neg (by simpa using h1),zpw (by simpa using hl) h.2]; rfl)
   | (rw [if_neg (by simpa using fun z=>h1 (Eq.symm z)),zpw (by simpa using hl) h.2]; rfl)
 | [],_::_,hl,_=>by cases hl
 | _::_,[],hl,_=>by cases hl
variable {cn:Str}
theorem ybq : DSI c X cn [] []:=PSs.imp z6m fun E σ H q=>by
 obtain ⟨x,dx,Hf0,H0,Hf,ρ,ns,us,ds,r,e0,no,so,h0,hf,hx,hl,hz,rd,em,k⟩:=q;cases em;exact k us Hf H so.ext hf hx hl rd
variable {o:Expr} {m:MF1} {fs:List (Str×(MF1))}
section
variable {fl:Str}
theorem z20 (hc:Cls X.K (c cn)) (hn:zgh X.K (c cn) fl) (ho:PE X o (zc2 0)) (he:DE c X e m) (h:DSI c X cn sts fs) (hs:swapsWith e (some (.Attribute o fl pos')) pos.line X.env=pure false:=by rfl) :
  DSI c X cn (.Assign [.Attribute o fl pos'] e pos::sts) ((fl,m)::fs):=PSs.imp (zub (yhy ho he hs) h) fun E σ H q=>by
 obtain ⟨x,dx,Hf0,H0,Hf,ρ,ns,us,ds,r,e0,no,so,h0,hf,hx,hl,hz,rd,em,k⟩:=q;unfold zpa at em
 cases e1 : m ρ with
 | none=>rw [e1] at em; cases em
 | some d =>
  rw [e1] at em;replace em : (if ns.contains fl=true then none else zpa fs ρ (ns++[fl]) (ds++[d]))=some r:=em;split at em
  ·cases em
  ·rename_i hnc;have hnc : ns.contains fl=false:=by simpa using hnc
   refine ⟨Hf0,H0,Hf,ρ,d,so,e1,fun v Hf' H' xx rv=>⟨_,e0,x,c cn,dx,ns.zip us,rfl,xx.h _ _ hx,hc,hn,?_,?_⟩⟩
   ·have h1:=length_zip (l₁:=ns) (l₂:=us);rw [length_cons] at hz;omega
   ·have hf' : Hf' x=none:=by rw [xx.n _ _ hx rfl]; exact hf
    have so':=so.step xx
    have so2 : zao (Gx c X) Hf0 H0 Hf' (upd H' x (.ins (c cn) dx (zdu fl v (ns.zip us)))) σ ρ:=by
     refine so'.re ⟨so'.ext.f,fun b u e=>?_,fun b u e=>?_,so'.ext.n⟩ rfl (fun i w s a b=>?_) fun i s w a b _ p=>(p.calm (no s (mem_of_getElem? b))).elim
     ·rw [zbs (zfd e h0)]; exact so'.ext.h b u e
     ·rw [zbs (zfd e hf')]; exact so'.ext.s b u e
     ·have hs:=no s (mem_of_getElem? b);have q:=so'.at' i w s a b
      cases s with
      | no=>trivial
      | im d=>exact q
      | _=>cases hs
    refine ⟨x,dx,Hf0,H0,Hf',ρ,ns++[fl],us++[v],ds++[d],r,e0,no,so2,h0,hf',?_,by rw [length_append,length_append,hl]; rfl,by rw [length_cons] at hz; rw [length_append,length_singleton]; omega,(rd.up xx.f).append (.cons rv .nil),em,k⟩;rw [zb8,zpw hl hnc]
end
noncomputable def del (H:Hp) (x:Addr) : Hp:=fun b=>if b=x then none else H b
theorem z2l {x:Addr} : del H x x=none:=if_pos rfl
theorem z2k {x b:Addr} (h:b≠x) : del H x b=H b:=if_neg h
noncomputable def z7d (n:Nat) (fs:List (Str×(MF1))) (as:LD) : Option (LSt×LD):=zpa fs (.no::(as.map .im++List.replicate (n - 1 - as.length) .no)) [] []
def spI (G:Gc) (cn:Str) (n:Nat) (m:LD->Option (LSt×LD)) : Sp:=fun vs H Q _=>∃ x dx Hf as vs' r,vs=.ref x::vs'/\H x=some (.ins (G.cl cn) dx [])/\Hf x=none/\zav Hf H/\zan G Hf as vs'/\as.length + 1=n/\m as=some r /\
 ∀ us Hf' H',Ext Hf (del H x) Hf' H'->Hf' x=none->H' x=some (.ins (G.cl cn) dx (r.1.zip us))->r.1.length=us.length->zan G Hf' r.2 us->Q .non H'
theorem ycf (Fn:Fun K x qual st f fd) (S:za1 N ps (zau st))
  (h:∀ (cdv:Value) (A:Around) (outer:List Env) (s:Shared) (H:Hp) (E:XK),zbl k (A.deeper (envOfC qual (zau st) s.heap.objs.size f cdv))->DSI c (zen CX0 P w K mg base N qual (zau st) f cdv A outer s H E).nox cn (zfj st) fs)
  (hz:fs.length<=900:=by decide) (hn_:N.length=n_:=by rfl) : zcn P w K mg base CX0 (k + 1) f fd ps (spI ⟨K,c⟩ cn ps.length (z7d n_ fs)):=by
 subst hn_;refine Fn.ok S (fun vs H Q E q=>by obtain ⟨x,dx,Hf,as,vs',r,ev,_,_,_,ra,hl,_⟩:=q; subst ev; rw [length_cons,<- ra.length]; exact hl) fun cdv A outer s H vs Q E hr q=>⟨_,h cdv A outer s H E hr,?_⟩;obtain ⟨x,dx,Hf,as,vs',r,ev,hx,hf,s0,ra,hl,e,kq⟩:=q;subst ev;have la:=ra.length
 have im : ∀ (i:Nat) (s:Sl),(Sl.no::(as.map Sl.im++List.replicate (N.length - 1 - as.length) .no))[i]?=some s->s=.no\/∃ d j,i=j + 1/\as[j]?=some d/\s=.im d:=fun i s b=>by
  cases i with
  | zero=>left; simpa using b.symm
  | succ i =>
   rw [List.getElem?_cons_succ] at b
   by_cases hi : i < as.length
   ·rw [List.getElem?_append_left (by simpa using hi)] at b;obtain ⟨d,ed,es⟩:=zky b;exact .inr ⟨d,i,rfl,ed,es⟩
   ·rw [List.getElem?_append_right (by simpa using Nat.le_of_not_lt hi)] at b;obtain ⟨_,e⟩:=gq b;rw [List.getElem_replicate] at e;exact .inl e.symm
 have no : ∀ s∈(Sl.no::(as.map Sl.im++List.replicate (N.length - 1 - as.length) .no)),Sl.calm s=true:=fun s hs=>by
  obtain ⟨i,hi⟩:=List.getElem?_of_mem hs
  rcases im i s hi with e | ⟨d,_,_,_,e⟩ <;> (subst e; rfl)
 refine ⟨x,dx,Hf,del H x,Hf,_,[],[],[],r,rfl,no,⟨⟨zav.refl _,fun b o e=>?_,s0,fun _ _ _ _=>rfl⟩,?_,fun i v s a b=>?_,fun i j s t v w l a b _ _ p _=>?_⟩,z2l,hf,hx,rfl,by simpa using hz,rfl,e,fun us Hf' H' xx h1 h2 h3 h4=>kq us Hf' H' xx h1 h2 h3 h4⟩
 ·by_cases hb : b=x
  ·subst hb; rw [z2l] at e; cases e
  ·rw [z2k hb] at e; exact e
 ·unfold L2.start;simp only [length_append,length_map,length_cons,length_replicate];omega
 ·rcases im i s b with e | ⟨d,j,ei,ed,es⟩
  ·subst e; trivial
  ·subst es ei;obtain ⟨u,eu,ru⟩:=ra.get ed;refine ⟨u,?_,ru⟩;have hi : j < vs'.length:=(gq eu).1;unfold L2.start at a;rw [map_cons,cons_append,List.getElem?_cons_succ,List.getElem?_append_left (by simpa using hi),List.getElem?_map,eu] at a;exact (Option.some.inj a).symm
 ·exact (p.calm (no s (mem_of_getElem? a))).elim
theorem yj1 {f:MF1} (h:f ρ=some d) : zdi i f ρ=some (.nx (ρ.set i (.im d))):=by
 unfold zdi;rw [h];rfl
theorem yj0 {f:MF2} {d:LD} (h:f ρ=some d) : zd8 i f ρ=some (.nx (ρ.set i (.own d))):=by
 unfold zd8;rw [h];rfl
theorem yi1 {f:MF1} (h:f ρ=some d) : zdh f ρ=some (.rt d):=by
 unfold zdh;rw [h];rfl
theorem z7e {d:LD} (h:F (zef n ds)=some (.rtO d)) : zdl n F ds=some (.lst d):=by
 unfold zdl;rw [h];rfl
theorem zbi {m:LD->OD} {f:MF2} (h:f ρ=some ds) (h':m ds=some d) : zax m f ρ=some d:=by
 unfold zax;rw [h];exact h'
theorem zvx {α : Type} {h:D->Option OD} (f:α->D) (p:α->Bool) (q:α->D) : ∀ (xs:List α),(∀ x∈xs,h (f x)=some (if p x then some (q x) else none))->zgl h (xs.map f)=some ((xs.filter p).map q)
 | [],_=>rfl
 | x::xs,hh=>by
  rw [map_cons];unfold zgl;rw [hh x mem_cons_self,zvx f p q xs fun y hy=>hh y (mem_cons_of_mem _ hy)]
  cases hp : p x with
  | true=>rw [filter_cons_of_pos hp]; rfl
  | false=>rw [filter_cons_of_neg (by rw [hp]; exact fq)]; rfl
theorem yas {α : Type} {h:D->Option OD} (f:α->D) (q:α->D) (xs:List α) (hh:∀ x∈xs,h (f x)=some (some (q x))) : zgl h (xs.map f)=some (xs.map q):=by
 have:=zvx (h:=h) f (fun _=>true) q xs fun x hx=>(hh x hx).trans rfl;rw [this,filter_eq_self.mpr fun _ _=>rfl]
theorem z15 {α : Type} (xs:List α) (f:α->D) (p:α->Bool) (q:α->D)
  (hi:fi ρ=some (xs.map f)) (hz:xs.length<=16777216) (hh:∀ x∈xs,zhg g ft fe (zb9 k js ρ) (f x)=some (if p x then some (q x) else none)) : zdq k js fi g ft fe ρ=some ((xs.filter p).map q):=by
 unfold zdq;rw [hi];show (if (xs.map f).length<=16777216 then _ else none)=_;rw [length_map,if_pos hz];exact zvx f p q xs hh
theorem zos {α : Type} (xs:List α) (f:α->D) (q:α->D)
  (hi:fi ρ=some (xs.map f)) (hz:xs.length<=16777216) (hh:∀ x∈xs,zhg g ft fe (zb9 k js ρ) (f x)=some (some (q x))) : zdq k js fi g ft fe ρ=some (xs.map q):=by
 unfold zdq;rw [hi];show (if (xs.map f).length<=16777216 then _ else none)=_;rw [length_map,if_pos hz];exact yas f q xs hh
theorem yi5 (lo:Int) (n:Nat) : rng lo n=(List.range n).map fun (i:Nat)=>D.int (lo + i):=rfl
theorem ze8 (i j:Int) : dEq (.int i) (.int j)=some (.bl (i==j)):=rfl
theorem zv2 (i j:Str) : dEq (.str i) (.str j)=some (.bl (i==j)):=rfl
theorem zou (i j:Int) : dNe (.int i) (.int j)=some (.bl (!(i==j))):=rfl
theorem z2a (i j:Str) : dNe (.str i) (.str j)=some (.bl (!(i==j))):=rfl
variable {f:MF1}
theorem zas {m:D->D->OD} {g:MF1} {x:D} (h1:f ρ=some x) (h2:g ρ=some y) (h3:m x y=some d) : m2 m f g ρ=some d:=by
 unfold m2;rw [h1,h2];exact h3
variable {b:Bool}
theorem zba (h:f ρ=some (.bl b)) : mB f ρ=some b:=by
 unfold mB;rw [h];rfl
theorem zf7 (h:f ρ=some d) (h':zno d=some b) : zcu f ρ=some b:=by
 unfold zcu;rw [h];exact h'
variable {f:MF4}
theorem zkr (h:f ρ=some b) : zfp f ρ=some (!b):=by
 unfold zfp;rw [h];rfl
variable {g:MF4}
theorem yeh {r:Option Bool} (h:f ρ=some true) (h':g ρ=r) : zhc f g ρ=r:=by
 unfold zhc;rw [h];exact h'
theorem yeg (h:f ρ=some false) : zhc f g ρ=some false:=by
 unfold zhc;rw [h];rfl
variable {a:Bool}
theorem zxf (h:f ρ=some a) (h':g ρ=some b) : zhc f g ρ=some (a && b):=by
 cases a with
 | true=>exact yeh h h'
 | false=>exact yeg h
variable {f:MF1}
theorem zj2 {g:MF1} (h:f ρ=some (.bl a)) (h':g ρ=some (.bl b)) : zho f g ρ=some (.bl (a && b)):=by
 unfold zho;rw [zba h]
 cases a with
 | true=>exact h'
 | false=>rfl
theorem z86 {g:MF1} (h:f ρ=some (.bl a)) (h':g ρ=some (.bl b)) : vOr f g ρ=some (.bl (a || b)):=by
 unfold vOr;rw [zba h]
 cases a with
 | true=>rfl
 | false=>exact h'
theorem z85 (h:f ρ=some (.bl a)) : znr f ρ=some (.bl (!a)):=by
 unfold znr;rw [zba h];rfl
theorem zaz {g:MF2} (h:f ρ=some d) (h':g ρ=some ds) : zac f g ρ=some (d::ds):=by
 unfold zac;rw [h,h'];rfl
theorem zjj {f:MF2} (h:f ρ=some ds) : zbp f ρ=some (.lst ds):=by
 unfold zbp;rw [h];rfl
theorem zbf {f:MF2} {g:MF1} {i:Int} {r:OD} (h:f ρ=some ds) (h':g ρ=some (.int i)) (h2:atI ds i=r) : mIx f g ρ=r:=by
 unfold mIx;rw [h,h'];exact h2
variable {j:Int}
theorem zrr {C:Int->Int->Prop} [∀ i j,Decidable (C i j)] {g:Int->Int->D} {i:Int} (h:C i j) : dI C g (.int i) (.int j)=some (g i j):=by
 show (if C i j then some (g i j) else none)=_;rw [if_pos h]
theorem z9u (h:f ρ=some d) (h':ρ[i]?=some (.own xs)) (hl:xs.length < 16777216) : zf4 i f ρ=some (.nx (ρ.set i (.own (xs++[d])))):=by
 unfold zf4;rw [h]
 show (match ρ[i]? with | some (.own xs)=>if xs.length < 16777216 then some (Fl.nx (ρ.set i (.own (xs++[d])))) else none | _=>none)=_
 rw [h'];show (if xs.length < 16777216 then _ else none)=_;rw [if_pos hl]
variable {ρ1:LS}
theorem z04 {g:D->LS->Option LS} (h1:g d ρ=some ρ1) (h2:ft ρ1=some b) (h3:b=true->fe ρ1=some y) : zhg g ft fe ρ d=some (if b then some y else none):=by
 unfold zhg;rw [h1];show (ft ρ1).bind _=_;rw [h2];show (if b=true then (fe ρ1).map some else some none)=_
 cases b with
 | true=>rw [h3 rfl]; rfl
 | false=>rfl
theorem zqi {g:D->LS->Option LS} (h1:g d ρ=some ρ1) (h2:ft ρ1=some true) (h3:fe ρ1=some y) : zhg g ft fe ρ d=some (some y):=z04 h1 h2 fun _=>h3
theorem zne (h:f ρ=some d) (h':zj0 d=some ds) : zdx f ρ=some ds:=by
 unfold zdx;rw [h];exact h'
noncomputable def itD (z:Int×Int) : D:=.tup [.int z.1,.int z.2]
def InN (n:Nat) (its:List (Int×Int)) : Prop:=∀ z∈its,0<=z.1/\z.1 < (n:Int)/\0<=z.2
noncomputable def Prt.toD : Prt->D
 | .inn t=>.tup [.str "in",.int t]
 | .out t=>.tup [.str "out",.int t]
 | .least k its=>.tup [.str "least",.int k,.lst (its.map itD)]
 | .most k its=>.tup [.str "most",.int k,.lst (its.map itD)]
noncomputable def Prt.obj : Prt->D
 | .inn t=>.ins "In" ["thing"] [.int t]
 | .out t=>.ins "Out" ["thing"] [.int t]
 | .least k its=>.ins "Least" ["bound","pieces"] [.int k,.lst (its.map itD)]
 | .most k its=>.ins "Most" ["bound","pieces"] [.int k,.lst (its.map itD)]
def Prt.Ok (n:Nat) : Prt->Prop
 | .inn t=>0<=t/\t < (n:Int)
 | .out t=>0<=t/\t < (n:Int)
 | .least _ its=>InN n its/\its.length<=100000
 | .most _ its=>InN n its/\its.length<=100000
theorem z1w : ∀ {bs:List Bool} {us:LVa},zay (bs.map V.bl) us->us=bs.map Value.bool
 | [],_,.nil=>rfl
 | b::bs,_,.cons r t=>by
  rw [z1w t];cases (show _=Value.bool b from r);rfl
theorem yih (bs:List Bool) : ((List.range bs.length).all fun i=>(bs[i]?).getD true)=bs.all id:=by
 rw [Bool.eq_iff_iff,all_eq_true,all_eq_true];constructor
 ·intro h b hb;obtain ⟨i,hi,e⟩:=List.getElem_of_mem hb;have:=h i (mem_range.mpr hi);simp only [List.getElem?_eq_getElem hi,Option.getD_some,e] at this;exact this
 ·intro h i hi;have hi':=mem_range.mp hi;simp only [List.getElem?_eq_getElem hi',Option.getD_some];exact h _ (List.getElem_mem hi')
theorem ydt {h:Heap} {o:Obj} (hk:∀ b x,b∉[h.objs.size]->(h.push o).get? b=some x->h'.get? b=some x) : ∀ b x,h.get? b=some x->h'.get? b=some x :=
 fun b x e=>hk b x (fun hm=>by rw [mem_singleton.mp hm] at e; exact Nat.lt_irrefl _ (Heap.lt_size e)) (Heap.get?_push_of_some _ e)
theorem yac (hc:X.calm=true) : zgg X (.builtin "all") (fun xs H Q=>∃ (p:Addr) (bs:List Bool),xs=[.ref p]/\SqL X.K H p (bs.map V.bl)/\Q (.bl (bs.all id)) H):=by
 intro pins s σ H xs us Q I r h;obtain ⟨l,bs,rfl,hq,q⟩:=h;obtain ⟨u,rfl,rx⟩:=zns r;cases rx;obtain ⟨its,r',pl,hz⟩:=I.list hq;have e:=z1w r';subst e;have hl:=pl.isList;have hlt : l < s.heap.objs.size:=by obtain ⟨_,e,_⟩:=hl; exact Heap.lt_size e
 refine call_all_walk (wpAny_pyIter_list hl ?_)
 refine ⟨s.heap.objs.size,[s.heap.objs.size,l],[s.heap.objs.size],(bs.map Value.bool).toArray.size,_,_,fun i=>(bs[i]?).getD true,rfl,Walks.list (A:=X.A.in1) (I.ok.hd hc) _ l (Nat.ne_of_lt hlt) (bs.map Value.bool).toArray,
  ⟨⟨_,Heap.get?_push_size _ rfl,rfl,rfl⟩,hl.push _⟩,fun i v s' Q' E' hP hQ=>?_,fun h' tk hk=>?_⟩
 ·have hP' : (bs.map Value.bool)[i]?=some v:=by simpa using hP
  obtain ⟨b,e,rfl⟩:=zky hP';simp only [e,Option.getD_some] at hQ;exact wpAny_truthy_bool hQ
 ·have e : ((List.range (bs.map Value.bool).toArray.size).all fun i=>(bs[i]?).getD true)=bs.all id:=by
   rw [size_toArray,length_map]; exact yih bs
  rw [e];exact ⟨.bl (bs.all id),H,I.kept (ydt hk),rfl,q⟩
noncomputable def zg2 : LD->Option (List Bool)
 | []=>some []
 | .bl b::ds=>(zg2 ds).map fun r=>b::r
 | _=>none
theorem z1t : ∀ {ds:LD} {bs:List Bool},zg2 ds=some bs->ds=bs.map D.bl
 | [],_,e=>by cases e; rfl
 | .bl b::ds,_,e=>by
  unfold zg2 at e
  cases es : zg2 ds with
  | none=>rw [es] at e; cases e
  | some r=>rw [es] at e; cases e; rw [z1t es]; rfl
 | .int _::_,_,e=>by cases e
 | .non::_,_,e=>by cases e
 | .str _::_,_,e=>by cases e
 | .lst _::_,_,e=>by cases e
 | .tup _::_,_,e=>by cases e
 | .kl _::_,_,e=>by cases e
 | .kt _::_,_,e=>by cases e
 | .ins _ _ _::_,_,e=>by cases e
theorem zan.bls {G:Gc} {H:Hp} : ∀ {bs:List Bool} {vs:List V},zan G H (bs.map D.bl) vs->vs=bs.map V.bl
 | [],_,h=>h
 | b::bs,_,q2_=>by
  obtain ⟨v,r,e,h1,h2⟩:=q2_;subst e;rw [zan.bls h2,show v=V.bl b from h1];rfl
noncomputable def zh8 : LD->OD
 | [d]=>(lsD d).bind fun ds=>(zg2 ds).map fun bs=>.bl (bs.all id)
 | _=>none
theorem z1y {f:List Bool->D} (e:(match ds with | [d]=>(lsD d).bind fun ds=>(zg2 ds).map f | _=>none)=some d) : ∃ d0 xs bs,ds=[d0]/\lsD d0=some xs/\xs=bs.map D.bl/\d=f bs:=by
 split at e
 ·rename_i d0
  cases e1 : lsD d0 with
  | none=>rw [e1] at e; cases e
  | some xs =>
   rw [e1] at e;replace e : (zg2 xs).map f=some d:=e
   cases e2 : zg2 xs with
   | none=>rw [e2] at e; cases e
   | some bs=>rw [e2] at e; cases e; exact ⟨d0,xs,bs,rfl,e1,z1t e2,rfl⟩
 ·cases e
theorem zrl (hc:X.calm=true) : zlq c X (.builtin "all") zh8:=by
 rintro pins s σ H vs us Q I rv ⟨Hf,ds,d,s0,r,e,k⟩;obtain ⟨d0,xs,bs,rfl,e1,rfl,rfl⟩:=z1y e;obtain ⟨v,ev,r1⟩:=r.one;subst ev;obtain ⟨a,ws,ea,q,rs⟩:=zmf e1 r1;subst ea;refine yac hc pins s σ H _ us Q I rv ⟨a,bs,rfl,?_,k _ Hf H (Ext.refl s0) rfl⟩;rw [<- rs.bls];exact s0.seq q
theorem zuv : ∀ ds d,zh8 ds=some d->d.scalar=true:=fun ds d e=>by
 obtain ⟨d0,xs,bs,rfl,e1,rfl,rfl⟩:=z1y e;rfl
inductive Wrd where
 | make | may | never
 deriving DecidableEq
noncomputable def Wrd.s : Wrd->Str
 | .make=>"make"
 | .may=>"may"
 | .never=>"never"
structure Rul where
 w : Wrd
 hd : Int
 ps : List Prt
noncomputable def Rul.hdD (r:Rul) : D:=match r.w with
 | .never=>.non
 | _=>.int r.hd
noncomputable def Rul.toD (r:Rul) : D:=.tup [.str r.w.s,r.hdD,.lst (r.ps.map Prt.toD)]
structure Rul.Ok (n:Nat) (r:Rul) : Prop where
 hd : r.w≠.never->0<=r.hd/\r.hd < (n:Int)
 ps : ∀ p∈r.ps,p.Ok n
 len : r.ps.length<=100000
noncomputable def Ite (K : W.Frag) (l : Addr) : It :=
  ⟨fun i H => ∃ xs x, SqL K H l xs/\xs[i]? = some x,
   fun i H v H' => ∃ p x, v = .ref p/\H p = none/\H' = upd H p (.tup [.int i, x])/\(∀ xs, SqL K H l xs->xs[i]? = some x),
   fun i H => ∃ xs, SqL K H l xs/\xs.length<=i⟩
variable {elts:LEx} {kx:Nat}
theorem yle (e it l:Addr) (ne:e≠it) :
  zh7 P w K (.Tuple elts kx pos) (Ite K l) [e,it] e (fun i h=>(∃ old,IsEnum h e it (i:Int) old)/\h.IsListIter it l i) where
 mem:=by simp
 obj:=fun i h st b hb=>by
  obtain ⟨⟨old,he⟩,⟨o1,e1,_,d1⟩⟩:=st;simp only [mem_cons,not_mem_nil,or_false] at hb
  rcases hb with rfl | rfl
  ·exact ⟨_,he,fun v q=>by cases q⟩
  ·exact ⟨o1,e1,fun v q=>by rw [d1] at q; cases q⟩
 keep:=fun i h h' st k=>by
  obtain ⟨⟨old,he⟩,h1⟩:=st;exact ⟨⟨old,k e (by simp) _ he⟩,h1.at fun o q=>k it (by simp) o q⟩
 item:=by
  intro X hP hw hK hc i pins s σ H E I hf st hg;subst hP hw hK;obtain ⟨⟨old,he⟩,h1⟩:=st;obtain ⟨xs,x,q1,hx⟩:=hg;obtain ⟨its1,r1,p1,z1⟩:=I.list q1;obtain ⟨u1,e1,ru1⟩:=r1.get hx;refine wpAny_pyNext_enum_item he h1 p1.isList (x:=u1) (by simpa using e1) ne fun h' a1 a3 a5 a6 a7=>⟨_,rfl,?_⟩
  refine wpAny_letOwnedTupleGo_enum (s:={ s with heap:=h',toks:=s.toks + 1 }) a1 fun h'' b1 b2=>?_
  have lt : ∀ b∈[e,it],b < s.heap.objs.size:=fun b hb=>by
   simp only [mem_cons,not_mem_nil,or_false] at hb
   rcases hb with rfl | rfl
   ·exact Heap.lt_size he
   ·obtain ⟨o,e,_⟩:=h1; exact Heap.lt_size e
  have kk : ∀ b o,b∉[e,it]->s.heap.get? b=some o->h''.get? b=some o:=fun b o hb e=>by
   simp only [mem_cons,not_mem_nil,or_false,not_or] at hb;obtain ⟨n1,n2⟩:=hb;exact (b2.2 b n1).trans (a7 b o n1 n2 e)
  have fr : H s.heap.objs.size=none:=I.hok.fresh (Nat.le_refl _)
  have I1 : Inv X pins σ H { s with heap:=h'',toks:=s.toks + 1 }:=I.turnedMany (t':=s.toks + 1) kk hf
  have hp : h''.get? s.heap.objs.size=some { cls:=.type "tuple",data:=.seq #[.int i s.toks,u1] }:=(b2.2 _ (Nat.ne_of_gt (lt e (by simp)))).trans a5
  have I2 : Inv X pins σ (upd H s.heap.objs.size (.tup [.int i,x])) { s with heap:=h'',toks:=s.toks + 1 } :=
   I1.track (I.fpOk (Nat.le_refl _) fr) ⟨(by show 2<=sizeLine; decide),[.int i s.toks,u1],.cons ⟨s.toks,rfl⟩ (.cons ru1 .nil),⟨_,hp,rfl,_,rfl⟩⟩
  refine ⟨.ref s.heap.objs.size,_,I2,rfl,⟨_,x,rfl,fr,rfl,fun xs' h=>by rw [I.list_inj h q1]; exact hx⟩,⟨⟨u1,?_⟩,?_⟩,fun b hb=>?_⟩
  ·have : ((i + 1 : Nat) : Int)=(i:Int) + 1:=by push_cast; rfl
   rw [this]; exact b1
  ·exact a3.at fun o q=>(b2.2 it (Ne.symm ne)).trans q
  ·rw [zbs (Nat.ne_of_lt (lt b hb))];exact (hf b hb).1
 done:=by
  intro X hP hw hK hc i pins s σ H E I hf st hg;subst hP hw hK;obtain ⟨⟨old,he⟩,h1⟩:=st;obtain ⟨xs,q1,hend⟩:=hg;obtain ⟨its1,r1,p1,z1⟩:=I.list q1;have l1':=r1.length;refine wpAny_pyNext_enum_end (I.ok.hd hc) he h1 p1.isList (by simp; omega) fun h' kk=>⟨rfl,I.turnedMany (t':=s.toks) (ch:=[e,it]) (fun b o hb q=>?_) hf⟩;simp only [mem_cons,not_mem_nil,or_false,not_or] at hb;exact kk b o hb.2 q
 self:=fun _ _ _ _ _ st h=>by obtain ⟨⟨old,he⟩,_⟩:=st; exact wpAny_pyIter_enum he h
def yc3 (K:W.Frag) (ta:TA) : TI:=fun σ H R=>ta σ H fun vs H1=>∃ l,vs=[.ref l]/\(∃ xs,SqL K H1 l xs)/\R (Ite K l) H1
variable {tpos:Pos} {a:Expr}
theorem yhc {ta:TA} (hg:Gl X "enumerate") (hm:X.mg "enumerate"=none) (ha:PA X [a] ta) (hs:starEach [a] X.env=[(false,eval a X.env)]:=by rfl) :
  PI X (.Tuple elts kx tpos) (.Call (.Name "enumerate" p) [a] [] pos) (yc3 X.K ta):=by
 intro pins s σ H R I h;refine Call_ (zmc I hg hm boot_enumerate (PyProof.Rows.callWith_type1 (thn (ha pos pins s σ H _ I h) fun us s1 ⟨vs,H1,I1,r1,q1⟩=>?_) (by rw [hs]; rfl) (by rfl)));obtain ⟨l,e,⟨xs,h1⟩,q⟩:=q1;subst e;obtain ⟨u,rfl,ru⟩:=zns r1;cases ru;obtain ⟨its1,r1,p1,z1⟩:=I1.list h1;refine call_enumerate_list p1.isList fun h' a1 a4 a6 a7=>?_;refine wpAny_pyIter_enum a1 ?_
 have I2 : Inv X pins σ H1 { s1 with heap:=h' }:=I1.kept (t':=s1.toks) a7
 refine ⟨_,[s1.heap.objs.size + 1,s1.heap.objs.size],_,_,H1,rfl,I2,yle _ _ _ (Nat.succ_ne_self _),⟨⟨_,a1⟩,a4⟩,fun b hb=>?_,q⟩;simp only [mem_cons,not_mem_nil,or_false] at hb
 have hle : s1.heap.objs.size<=b:=by
  rcases hb with rfl | rfl
  ·exact Nat.le_add_right _ _
  ·exact Nat.le_refl _
 exact I1.fpOk hle (I1.hok.fresh hle)
noncomputable def zk1 : Nat->LD->LD
 | _,[]=>[]
 | i,x::xs=>.tup [.int i,x]::zk1 (i + 1) xs
theorem z47 : ∀ (i:Nat) (xs:LD),(zk1 i xs).length=xs.length
 | _,[]=>rfl
 | i,x::xs=>by rw [zk1,length_cons,length_cons,z47]
theorem zxx : ∀ (k:Nat) (xs:LD) (i:Nat),(zk1 k xs)[i]?=(xs[i]?).map fun x=>.tup [.int (k + i : Nat),x]
 | _,[],_=>rfl
 | k,x::xs,0=>rfl
 | k,x::xs,i + 1=>by rw [zk1,List.getElem?_cons_succ,List.getElem?_cons_succ,zxx (k + 1) xs i,show k + 1 + i=k + (i + 1) by omega]
noncomputable def zwi : LD->OLD
 | [x]=>(lsD x).map (zk1 0)
 | _=>none
noncomputable def zjl (f:MF2) (ρ:LS) : OLD:=(f ρ).bind zwi
theorem z2t {f:MF2} (hg:Gl X "enumerate") (hm:X.mg "enumerate"=none) (ha:DA c X [a] f) (hs:starEach [a] X.env=[(false,eval a X.env)]:=by rfl) :
  DI c X (.Tuple elts kx tpos) (.Call (.Name "enumerate" p) [a] [] pos) (zjl f) :=
 PI.imp (yhc hg hm ha.pa hs) fun σ H R q_=>by
  obtain ⟨Hf0,H0,Hf,ρ,ds,st,ef,k⟩:=q_;unfold zjl at ef
  cases e1 : f ρ with
  | none=>rw [e1] at ef; cases ef
  | some as =>
   rw [e1] at ef;replace ef : zwi as=some ds:=ef;refine ⟨Hf0,H0,Hf,ρ,as,st,e1,fun vs Hf' H' x r=>?_⟩;unfold zwi at ef;split at ef
   ·rename_i dx
    cases ex : lsD dx with
    | none=>rw [ex] at ef; cases ef
    | some xs =>
     rw [ex] at ef;cases ef;obtain ⟨v,ev,rv⟩:=r.one;obtain ⟨l1,w1,el1,q1,r1⟩:=zmf ex rv;subst el1;refine ⟨l1,ev,⟨w1,x.s.seq q1⟩,k _ Hf' H' x fun Hf2 H2 f2 s2 i=>?_⟩;have g1 : SqL X.K H2 l1 w1:=(f2.trans s2).seq q1;have h1:=r1.length;refine ⟨fun d ed=>?_,fun ei=>⟨w1,g1,by rw [z47] at ei; omega⟩⟩;rw [zxx] at ed
     cases hx : xs[i]? with
     | none=>rw [hx] at ed; cases ed
     | some x' =>
      rw [hx] at ed;cases ed;obtain ⟨u1,eu1,ru1⟩:=r1.get hx;refine ⟨⟨w1,u1,g1,eu1⟩,fun z H3 ⟨pp,z1,ez,hp,eh,y1⟩=>?_⟩;subst ez eh;have a1:=y1 w1 g1;rw [eu1] at a1; cases a1;exact ⟨upd Hf2 pp (.tup [.int i,u1]),Ext.new s2 hp,pp,[.int i,u1],rfl,zb8,.cons (by rw [Nat.zero_add]; rfl) (.cons (ru1.up (f2.trans (zc9 (s2.free hp)))) .nil)⟩
   ·cases ef
noncomputable def zks (i:Nat) (fk fv:MF1) (ρ:LS) : Option Fl:=(fv ρ).bind fun d=>(fk ρ).bind fun x=>match x with
 | .int k=>(match ρ[i]? with
  | some (.own xs)=>(ixN xs.length k).map fun j=>.nx (ρ.set i (.own (xs.set j d)))
  | _=>none)
 | _=>none
variable {fk fv:MF1}
theorem ybk (hp:PS X st (zj1 (tD (Gx c X) fv) (zwn (zc2 i) (tD (Gx c X) fk) zyo))) : DS c X st (zks i fk fv):=PS.imp hp fun E σ H q_=>by
 obtain ⟨Hf0,H0,Hf,ρ,o,so,ef,k⟩:=q_;unfold zks at ef
 cases e1 : fv ρ with
 | none=>rw [e1] at ef; cases ef
 | some d =>
  rw [e1] at ef
  cases e2 : fk ρ with
  | none=>rw [e2] at ef; cases ef
  | some x =>
   rw [e2] at ef
   obtain ⟨ky,rfl⟩ : ∃ ky,x=.int ky:=by cases x <;> first | exact ⟨_,rfl⟩ | cases ef
   replace ef : (match ρ[i]? with | some (.own xs)=>(ixN xs.length ky).map fun j=>Fl.nx (ρ.set i (.own (xs.set j d))) | _=>none)=some o:=ef
   split at ef
   ·rename_i xs es
    cases ej : ixN xs.length ky with
    | none=>rw [ej] at ef; cases ef
    | some j =>
     rw [ej] at ef;cases ef;refine ⟨Hf0,H0,Hf,ρ,d,so,e1,fun v Hf1 H1 x1 r1=>?_⟩;have so1:=so.step x1;obtain ⟨l,el,h0,hf,vs,q,r⟩:=so1.ownAt rfl es;refine ⟨_,el,Hf0,H0,Hf1,ρ,.int ky,so1,e2,fun y Hf2 H2 x2 r2=>?_⟩;have so2:=so1.step x2;have q2:=x2.h _ _ q;refine ⟨l,vs,ky,j,rfl,r2,q2,by rw [<- r.length]; exact ej,?_⟩;exact k σ Hf2 _ (x1.f.trans x2.f) (so2.mutd (s:=.own xs) (s':=.own (xs.set j d)) rfl rfl es el ⟨vs.set j v,zb8,(r.up x2.f).set j (r1.up x2.f)⟩)
   ·cases ef
variable {i' value:Expr}
theorem ybh (ho:PE X e (zc2 i)) (hk:DE c X i' fk) (hv:DE c X value fv) (hs:swapsWithSole [.Subscript e i' pos'] value pos.line X.env=pure false:=by rfl) (hw:swappedStores [.Subscript e i' pos'] value X.env=pure none:=by rfl)
  (h1:(assignEach [.Subscript e i' pos'] X.env).map (·.2)=[assign (.Subscript e i' pos') X.env]:=by rfl)
  (ha:∀ v,assign (.Subscript e i' pos') X.env v=(do
   let ov <- holding [v] (eval e X.env)
   let iv <- holding [v,ov] (eval i' X.env)
   standAt pos'
   holding [v,ov,iv] (setItem ov iv v)
   release [v,ov,iv] []):=by intro _; rfl) :
  DS c X (.Assign [.Subscript e i' pos'] value pos) (zks i fk fv):=ybk (z6k hv (z6b ho hk z8b ha) hs hw h1)
set_option maxRecDepth 100000
set_option maxRecDepth 100000
set_option maxRecDepth 100000
set_option maxRecDepth 100000
set_option maxRecDepth 100000
set_option maxRecDepth 100000
set_option maxRecDepth 100000
noncomputable def zf6 (f g:MF1) (ρ:LS) : OLD:=(f ρ).bind fun x=>(g ρ).bind fun y=>match x,y with
 | .lst a,.lst b=>if a.length + b.length<=16777216 then some (a++b) else none
 | _,_=>none
theorem yei {g:MF1} (h:zf6 f g ρ=some ds) : ∃ a b,f ρ=some (.lst a)/\g ρ=some (.lst b)/\a.length + b.length<=16777216/\ds=a++b:=by
 unfold zf6 at h
 cases e1 : f ρ with
 | none=>rw [e1] at h; cases h
 | some x =>
  cases e2 : g ρ with
  | none=>rw [e1,e2] at h; cases h
  | some y =>
   rw [e1,e2,bind_some,bind_some] at h;split at h
   ·split at h
    ·rename_i a b hl;cases h;exact ⟨a,b,rfl,rfl,hl,rfl⟩
    ·cases h
   ·cases h
theorem zoy {b:Expr} {g:MF1} (ha:DE c X a f) (hb:DE c X b g) : DO c X (.BinOp a .Add b pos) (zf6 f g):=PE.imp (zt9 zyd ha hb) fun σ H Q q_=>by
 obtain ⟨Hf0,H0,Hf,ρ,ds,st,ef,k⟩:=q_;obtain ⟨xs,ys,e1,e2,hl,rfl⟩:=yei ef;refine ⟨Hf0,H0,Hf,ρ,_,st,e1,fun v Hf1 H1 x1 r1=>⟨Hf0,H0,Hf1,ρ,_,st.step x1,e2,fun u Hf2 H2 x2 r2=>?_⟩⟩;obtain ⟨l,vs,el,q1,s1⟩:=r1.up x2.f;obtain ⟨m,us,em,q2,s2⟩:=r2;subst el em;have x:=x1.trans x2;exact ⟨l,m,vs,us,rfl,rfl,x2.s _ _ q1,x2.s _ _ q2,by rw [sizeLine_eq,<- s1.length,<- s2.length]; exact hl,fun p hp=>k p _ Hf2 _ (x.trans (Ext.tmp x.s hp)) (x.h.free hp) (x.s.free hp) zb8 (s1.append s2)⟩
def wp (F:MF3) (ρ:LS) (K:Fl->Prop) : Prop:=∃ o,F ρ=some o/\K o
def z4d (F:MF3) (K:Fl->Prop) : Fl->Prop
 | .nx ρ=>wp F ρ K
 | o=>K o
def z4b (J:LS->Prop) (K:Fl->Prop) : Fl->Prop
 | .nx ρ=>J ρ
 | .ct ρ=>J ρ
 | .bk ρ=>K (.nx ρ)
 | o=>K o
def zko (Q:D->Prop) (o:Fl) : Prop:=∃ d,zyx o=some d/\Q d
variable {K:Fl->Prop}
theorem zaf (h:wp F ρ (z4d F' K)) : wp (zah F F') ρ K:=by
 obtain ⟨o,e,k⟩:=h;unfold wp zah;rw [e]
 cases o with
 | nx ρ'=>exact k
 | _=>exact ⟨_,rfl,k⟩
theorem za5 (h:K (.nx ρ)) : wp zbb ρ K:=⟨_,rfl,h⟩
theorem ze4 (h:f ρ=some d) (k:K (.nx (ρ.set i (.im d)))) : wp (zdi i f) ρ K:=⟨_,yj1 h,k⟩
theorem zgy {f:MF2} {d:LD} (h:f ρ=some d) (k:K (.nx (ρ.set i (.own d)))) : wp (zd8 i f) ρ K:=⟨_,yj0 h,k⟩
theorem zgx (h:f ρ=some d) (k:K (.rt d)) : wp (zdh f) ρ K:=⟨_,yi1 h,k⟩
theorem yl1 {f:MF2} {d:LD} (h:f ρ=some d) (k:K (.rtO d)) : wp (zik f) ρ K:=⟨_,by unfold zik; rw [h]; rfl,k⟩
theorem zh6 {o:Fl} (h:F ρ=some o) (k:K o) : wp F ρ K:=⟨_,h,k⟩
theorem za2 (h:t ρ=some b) (kT:b=true->wp F ρ K) (kF:b=false->wp F' ρ K) : wp (zbn t F F') ρ K:=by
 unfold wp zbn;rw [h]
 cases b with
 | true=>exact kT rfl
 | false=>exact kF rfl
theorem zgf (e:zsa i ρ=ρ') (h:wp F ρ' K) : wp (zd2 i F) ρ K:=by
 subst e;exact h
theorem zll (h:f ρ=some d) (h':ρ[i]?=some (.own xs)) (hl:xs.length < 16777216) (k:K (.nx (ρ.set i (.own (xs++[d]))))) : wp (zf4 i f) ρ K:=⟨_,z9u h h' hl,k⟩
variable {k:Int}
theorem yh6 (hv:fv ρ=some d) (hk:fk ρ=some (.int k)) (h':ρ[i]?=some (.own xs)) (h0:0<=k) (h1:k < xs.length) : zks i fk fv ρ=some (.nx (ρ.set i (.own (xs.set k.toNat d)))):=by
 have e : ixN xs.length k=some k.toNat:=by
  unfold ixN;rw [if_pos h0,if_pos h1]
 unfold zks;rw [hv,bind_some,hk,bind_some]
 show (match ρ[i]? with | some (.own xs)=>(ixN xs.length k).map fun j=>Fl.nx (ρ.set i (.own (xs.set j d))) | _=>none)=_
 rw [h'];show (ixN xs.length k).map _=_;rw [e];rfl
theorem ylz (hv:fv ρ=some d) (hk:fk ρ=some (.int k)) (h':ρ[i]?=some (.own xs)) (h0:0<=k) (h1:k < xs.length) (q:K (.nx (ρ.set i (.own (xs.set k.toNat d))))) : wp (zks i fk fv) ρ K:=⟨_,yh6 hv hk h' h0 h1,q⟩
theorem z9h {α : Type} {g:D->LS->Option LS} {F:MF3} {K:Fl->Prop} (f:α->D) (I:List α->LS->Prop) : ∀ (post pre:List α) (ρ:LS),I pre ρ ->
  (∀ pre' x post' ρ,pre++post=pre'++x::post'->I pre' ρ->∃ ρ1,g (f x) ρ=some ρ1/\wp F ρ1 (z4b (I (pre'++[x])) K))->(∀ ρ',I (pre++post) ρ'->K (.nx ρ'))->wp (zhy g F (post.map f)) ρ K
 | [],pre,ρ,h,_,hk=>⟨_,rfl,hk ρ (by rw [append_nil]; exact h)⟩
 | x::post,pre,ρ,h,hs,hk=>by
  obtain ⟨ρ1,e1,o,e2,k2⟩:=hs pre x post ρ rfl h;unfold wp;rw [map_cons];unfold zhy;rw [e1,bind_some,e2,bind_some]
  have go : ∀ ρ2,I (pre++[x]) ρ2->wp (zhy g F (post.map f)) ρ2 K:=fun ρ2 h2 =>
   z9h f I post (pre++[x]) ρ2 h2 (by rw [append_assoc]; exact hs) (by rw [append_assoc]; exact hk)
  cases o with
  | nx ρ2=>exact go ρ2 k2
  | ct ρ2=>exact go ρ2 k2
  | bk ρ2=>exact ⟨_,rfl,k2⟩
  | rt d=>exact ⟨_,rfl,k2⟩
  | rtO d=>exact ⟨_,rfl,k2⟩
  | rtS d ρ2=>exact ⟨_,rfl,k2⟩
theorem zh5 {α : Type} {g:D->LS->Option LS} (xs:List α) (f:α->D) (I:List α->LS->Prop) (hi:fi ρ=some (xs.map f)) (h0:I [] ρ)
  (hs:∀ pre x post ρ,xs=pre++x::post->I pre ρ->∃ ρ1,g (f x) ρ=some ρ1/\wp F ρ1 (z4b (I (pre++[x])) K)) (hk:∀ ρ',I xs ρ'->K (.nx ρ')) : wp (zfo fi g F) ρ K:=by
 obtain ⟨o,e,k⟩:=z9h f I xs [] ρ h0 hs hk;refine ⟨o,?_,k⟩;unfold zfo;rw [hi];exact e
variable {Q:D->Prop}
theorem z9j (h:wp F (zef n ds) (zko Q)) : ∃ d,zdl n F ds=some d/\Q d:=by
 obtain ⟨o,e,d,e',q⟩:=h;refine ⟨d,?_,q⟩;unfold zdl;rw [e];exact e'
theorem zhq {r:D} (h:wp F (zef n ds) (zko fun d=>d=r)) : zdl n F ds=some r:=by
 obtain ⟨d,e,q⟩:=z9j h;rw [e,q]
theorem zf2 (h:Q d) : zko Q (.rt d):=⟨d,rfl,h⟩
theorem zw6 {d:LD} (h:Q (.lst d)) : zko Q (.rtO d):=⟨.lst d,rfl,h⟩
variable {g:MF1}
theorem z84 {r:OD} (h:t ρ=some b) (hT:b=true->f ρ=r) (hF:b=false->g ρ=r) : vIf t f g ρ=r:=by
 unfold vIf;rw [h]
 cases b with
 | true=>exact hT rfl
 | false=>exact hF rfl
theorem z10 {m:LD->OD} {f:MF2} (h:f ρ=some ds) (h':m ds=some d) (hs:d.scalar=true) : zmk m f ρ=some d:=by
 unfold zmk;rw [h,bind_some,h',bind_some,if_pos hs]
variable {i:Int}
theorem zia (h:0 < j) : zfi (.int i) (.int j)=some (.int (i % j)):=zrr h
theorem z19 (h:znt i j) : zv1 (.int i) (.int j)=some (.int (i / j)):=zrr h
theorem zi9 (h:znv i j) : zg4 (.int i) (.int j)=some (.int (i ^ j.toNat)):=zrr h
theorem zfh : zcb (.int i) (.int j)=some (.int (i + j)):=rfl
theorem zrs : zjb (.int i) (.int j)=some (.int (i - j)):=rfl
theorem zi6 : dLt (.int i) (.int j)=some (.bl (decide (i < j))):=rfl
theorem zv3 : dLe (.int i) (.int j)=some (.bl (decide (i<=j))):=rfl
theorem zlv : dGt (.int i) (.int j)=some (.bl (decide (j < i))):=rfl
theorem zji {α : Type} (xs:List α) (f:α->D) : zcg [.lst (xs.map f)]=some (.int xs.length):=by
 show some (D.int ((xs.map f).length : Int))=_;rw [length_map]
theorem z4j {α : Type} (xs:List α) (f:α->D) : zcg [.kl (xs.map f)]=some (.int xs.length):=by
 show some (D.int ((xs.map f).length : Int))=_;rw [length_map]
theorem yay {α : Type} (f:α->D) (xs:List α) (lo hi:Option Int) : zlu (xs.map f) lo hi=((xs.drop (HT.sIx xs.length 0 lo)).take (HT.sIx xs.length xs.length hi - HT.sIx xs.length 0 lo)).map f:=by
 unfold zlu;rw [length_map,map_take,map_drop]
variable {lo hi:Option Int}
theorem zu1 {α : Type} {l h:LS->Option (Option Int)} {g:α->D} {xs:List α} (e:f ρ=some (.lst (xs.map g))) (e1:l ρ=some lo) (e2:h ρ=some hi) : mSl f l h ρ=some (((xs.drop (HT.sIx xs.length 0 lo)).take (HT.sIx xs.length xs.length hi - HT.sIx xs.length 0 lo)).map g):=by
 unfold mSl;rw [e,bind_some];show (l ρ).bind (fun lo=>(h ρ).map fun hi=>zlu (xs.map g) lo hi)=_;rw [e1,bind_some,e2,<- yay];rfl
theorem z48 {α : Type} (g:α->D) (d:α) : ∀ (xs:List α),zk1 0 (xs.map g)=(List.range xs.length).map fun i=>D.tup [.int (i:Nat),g (xs.getD i d)]:=fun xs=>by
 refine ext_getElem? fun i=>?_;rw [zxx,List.getElem?_map,List.getElem?_map]
 by_cases h : i < xs.length
 ·rw [List.getElem?_eq_getElem h,List.getElem?_range h,Nat.zero_add];simp [h]
 ·rw [List.getElem?_eq_none (by omega),List.getElem?_eq_none (by rw [length_range]; omega)];rfl
theorem yb1 {α : Type} {f:MF2} {g:α->D} {xs:List α} (d:α) (e:f ρ=some [.lst (xs.map g)]) : zjl f ρ=some ((List.range xs.length).map fun i=>D.tup [.int (i:Nat),g (xs.getD i d)]):=by
 unfold zjl;rw [e,<- z48];rfl
def kJ (J:LS->Prop) (o:Fl) : Prop:=∃ ρ',o=.nx ρ'/\J ρ'
theorem k_J {J:LS->Prop} (h:J ρ) : kJ J (.nx ρ):=⟨ρ,rfl,h⟩
theorem zlo {S:MF3} (J:LS->Prop) (h:wp S ρ (kJ J)) (k:∀ ρ',J ρ'->wp F ρ' K) : wp (zah S F) ρ K:=by
 apply zaf;obtain ⟨o,e,ρ',rfl,j⟩:=h;exact ⟨_,e,k ρ' j⟩
theorem z9i {i:Nat} (h:ρ[i]?=some (.im d)) (k:K (.rt d)) : wp (zgp i) ρ K:=⟨_,by unfold zgp; rw [h],k⟩
theorem z07 {i:Nat} {d:LD} (h:ρ[i]?=some (.own d)) (k:K (.rtO d)) : wp (zgp i) ρ K:=⟨_,by unfold zgp; rw [h],k⟩
noncomputable def zml (m m':D->D->OD) (f g h:MF1) (ρ:LS) : OD:=(f ρ).bind fun x=>(g ρ).bind fun y=>(m x y).bind fun z=>match z with
 | .bl true=>(h ρ).bind fun w=>m' y w
 | .bl false=>some (.bl false)
 | _=>none
variable {m':D->D->OD} {h:MF1}
theorem yej {m:D->D->OD} (e:zml m m' f g h ρ=some d) : ∃ x y b,f ρ=some x/\g ρ=some y/\m x y=some (.bl b)/\(b=false->d=.bl false)/\(b=true->∃ w,h ρ=some w/\m' y w=some d):=by
 unfold zml at e
 cases e1 : f ρ with
 | none=>rw [e1] at e; cases e
 | some x =>
  cases e2 : g ρ with
  | none=>rw [e1,e2] at e; cases e
  | some y =>
   rw [e1,e2,bind_some,bind_some] at e
   cases e3 : m x y with
   | none=>rw [e3] at e; cases e
   | some z =>
    rw [e3,bind_some] at e
    cases z with
    | bl b =>
     cases b with
     | false =>
      have e : some (D.bl false)=some d:=e
      exact ⟨x,y,false,rfl,rfl,e3,fun _=>(Option.some.inj e).symm,fun q=>by cases q⟩
     | true =>
      have e : (h ρ).bind (fun w=>m' y w)=some d:=e
      cases e4 : h ρ with
      | none=>rw [e4] at e; cases e
      | some w=>rw [e4] at e; exact ⟨x,y,true,rfl,rfl,e3,fun q=>(by cases q),fun _=>⟨w,rfl,e⟩⟩
    | _=>cases e
theorem ya7 {b c':Expr} {op':CmpOp} {m:D->D->OD} (ho:OpD c X (compareOp op) m) (hs:∀ x y d,m x y=some d->d.scalar=true) (ho':OpD c X (compareOp op') m') (hs':∀ x y d,m' x y=some d->d.scalar=true) (ha:DB c X a f) (hb:DB c X b g) (hc:DB c X c' h)
  (hm:lastMarks [op,op'] [b,c']=false:=by with_unfolding_all rfl) : DE c X (.Compare a [op,op'] [b,c'] pos) (zml m m' f g h):=PE.imp (ygt ho ho' ha hb hc hm) fun σ H Q q_=>by
 obtain ⟨Hf0,H0,Hf,ρ,d,st,ef,k⟩:=q_;obtain ⟨x,y,b',e1,e2,e3,eF,eT⟩:=yej ef;refine ⟨Hf0,H0,Hf,ρ,x,st,e1,fun v Hf1 H1 x1 r1=>⟨Hf0,H0,Hf1,ρ,y,st.step x1,e2,fun u Hf2 H2 x2 r2=>⟨H2,x,y,.bl b',zav.refl _,r1.up x2.h,r2,e3,fun z Hf3 H3 x3 r3=>⟨b',r3,?_⟩⟩⟩⟩;have x23 : Ext Hf2 H2 Hf2 H3:=Ext.grow x2.s x3.h;have st3 : zao (Gx c X) Hf0 H0 Hf2 H3 σ ρ:=(st.step (x1.trans x2)).step x23
 cases b' with
 | false =>
  rw [if_neg fq]
  exact k _ Hf2 H3 ((x1.trans x2).trans x23) (by rw [eF rfl]; rfl)
 | true =>
  rw [if_pos rfl];obtain ⟨w,e4,e5⟩:=eT rfl;exact ⟨Hf0,H0,Hf2,ρ,w,st3,e4,fun w' Hf4 H4 x4 r4=>⟨H4,y,w,d,zav.refl _,r2.up (x3.h.trans x4.h),r4,e5,fun q Hf5 H5 x5 r5=>k _ Hf4 H5 (((x1.trans x2).trans x23).trans (x4.trans (Ext.grow x4.s x5.h))) (r5.sc (hs' _ _ _ e5))⟩⟩
variable {rs:LD}
theorem yab {m:LD->OLD} {f:MF2} (h:f ρ=some ds) (h':m ds=some rs) : zmj m f ρ=some rs:=by
 unfold zmj;rw [h,bind_some,h']
variable {m:D->D->OD}
theorem yao {x w:D} {b':Bool} (e1:f ρ=some x) (e2:g ρ=some y) (e3:m x y=some (.bl b)) (e4:h ρ=some w) (e5:m' y w=some (.bl b')) : zml m m' f g h ρ=some (.bl (b && b')):=by
 unfold zml;rw [e1,bind_some,e2,bind_some,e3,bind_some]
 cases b with
 | false=>rfl
 | true =>
  show (h ρ).bind (fun w=>m' y w)=_;rw [e4];exact e5
theorem z1q (h:k.natAbs < 2 ^ n) : Builtin.Int.intBits k<=n:=by
 unfold Builtin.Int.intBits;split
 ·exact Nat.zero_le _
 ·rename_i hk;have : k.natAbs≠0:=fun z=>hk (by rw [Int.natAbs_eq_zero.mp z]; rfl);exact (Nat.log2_lt this).mpr h
def ziz (i j:Int) : Prop:=znu i j\/(i.natAbs < 2 ^ 200/\j.natAbs < 2 ^ 200)
theorem ziz.ok (h:ziz i j) : IntMulOk i j:=by
 rcases h with h | ⟨h1,h2⟩
 ·exact h.ok
 ·have a:=z1q h1;have b:=z1q h2;unfold IntMulOk
  have : Builtin.Int.intTooBig (Builtin.Int.intBits i + Builtin.Int.intBits j)=false:=by
   unfold Builtin.Int.intTooBig;have c : (400 : Int)<=bitsLine:=by decide
   exact decide_eq_false (by omega)
  rw [this,Bool.and_false];exact fq
noncomputable instance {i j:Int} : Decidable (ziz i j):=by unfold ziz; infer_instance
noncomputable abbrev zib : D->D->OD:=dI ziz fun i j=>.int (i * j)
theorem ygd : OpR X (binaryOp .Mult) (rI ziz fun i j=>.int (i * j)):=opI fun _ _ _ _ _ _ _ hc q=>mul_int q hc.ok
theorem zpn : OpD c X (binaryOp .Mult) zib:=ztv ygd fun _ _ _ _=>rfl
theorem zly (h:ziz i j) : zib (.int i) (.int j)=some (.int (i * j)):=zrr h
noncomputable def zcz (H:Hp) (l:Addr) : Hp:=fun a=>if a=l then none else H a
theorem zl1 : zcz H l l=none:=by unfold zcz; rw [if_pos rfl]
theorem zrx {a:Addr} (h:a≠l) : zcz H l a=H a:=by unfold zcz; rw [if_neg h]
theorem zwb : zav (zcz H l) H:=fun a o e=>by
 by_cases h : a=l
 ·subst h; rw [zl1] at e; cases e
 ·rw [zrx h] at e; exact e
theorem zp8 {F:Hp} (s:zav F H) (h:F l=none) : zav F (zcz H l):=fun a o e=>by
 rw [zrx (zfd e h)]; exact s a o e
def tDX (G:Gc) (f:LS->Option (D×LS)) : TE:=fun σ H Q=>∃ Hf0 H0 Hf ρ d ρ',zao G Hf0 H0 Hf H σ ρ/\f ρ=some (d,ρ')/\∀ v Hf' H',zav Hf Hf'->zao G Hf0 H0 Hf' H' σ ρ'->Rep G Hf' d v->Q v H'
def DX (c:Str->Addr) (X:Cx) (e:Expr) (f:LS->Option (D×LS)) : Prop:=PE X e (tDX (Gx c X) f)
def z8u (G:Gc) (f:LS->Option (LD×LS)) : TI:=fun σ H R=>∃ Hf0 H0 Hf ρ ds ρ',zao G Hf0 H0 Hf H σ ρ/\f ρ=some (ds,ρ')/\∀ J Hf' H',zav Hf Hf'->zao G Hf0 H0 Hf' H' σ ρ'->zj4 G Hf' J ds->R J H'
def DXi (c:Str->Addr) (X:Cx) (tg iter:Expr) (f:LS->Option (LD×LS)) : Prop:=PI X tg iter (z8u (Gx c X) f)
noncomputable def ztj : LD->OD
 | [.int a,.int b]=>some (.int (if b > a then b else a))
 | _=>none
theorem yan (hc:X.calm=true) : zlq c X (.builtin "max") ztj:=by
 rintro pins s σ H vs us Q I rv ⟨Hf,ds,d,s0,r,e,k⟩;unfold ztj at e;split at e
 ·rename_i a b;cases e;obtain ⟨v1,vs1,rfl,h1,v2,vs2,rfl,h2,h3⟩:=r;cases (show vs2=[] from h3);cases (show v1=V.int a from h1);cases (show v2=V.int b from h2)
  cases rv with
  | cons r1 rr =>
   cases rr with
   | cons r2 rr =>
    cases rr;obtain ⟨t,rfl⟩:=r1;obtain ⟨u,rfl⟩:=r2;refine PySem.max_two_ints (I.ok.hd hc) fun h' tk hold=>?_;refine ⟨.int (if b > a then b else a),H,I.kept hold,?_,k _ Hf H (Ext.refl s0) rfl⟩
    by_cases hba : b > a
    ·rw [if_pos hba,if_pos hba]; exact ⟨u,rfl⟩
    ·rw [if_neg hba,if_neg hba]; exact ⟨t,rfl⟩
 ·cases e
def spM (G:Gc) (n0 n:Nat) (m:Addr->LD->LD->LD->Option (LD×D)) : Sp:=fun vs H Q _=>∃ Hf ds0 ds1 xs ys d l us vs0 vs1,vs=vs0++.ref l::vs1/\zav Hf H/\Hf l=none/\H l=some (.lst us)/\zan G Hf ds0 vs0/\zan G Hf ds1 vs1/\zan G Hf xs us/\ds0.length=n0/\ds0.length + 1 + ds1.length=n/\m l ds0 ds1 xs=some (ys,d) /\
 ∀ v Hf' H' us',Ext Hf (zcz H l) Hf' H'->Hf' l=none->H' l=some (.lst us')->zan G Hf' ys us'->Rep G Hf' d v->Q v H'
noncomputable def zqq (N:Nat) (l:Addr) (ds0 ds1 xs:LD) : LS:=(zef N (ds0++.non::ds1)).set ds0.length (.pin l xs)
open Classical in
noncomputable def zhj (l:Addr) (i:Nat) (ρ:LS) : OLD:=match ρ[i]? with
 | some (.pin l' ys)=>if l'=l then some ys else none
 | _=>none
variable {i:Nat}
theorem z6d (h:zhj l i ρ=some ys) : ρ[i]?=some (.pin l ys):=by
 unfold zhj at h;split at h
 ·rename_i l' zs e;split at h
  ·rename_i q;cases h;rw [e,q]
  ·cases h
 ·cases h
noncomputable def zdj (N:Nat) (F:MF3) (l:Addr) (ds0 ds1 xs:LD) : Option (LD×D):=(F (zqq N l ds0 ds1 xs)).bind fun o=>match o with
 | .nx ρ=>(zhj l ds0.length ρ).map fun ys=>(ys,.non)
 | .rtS d ρ=>(zhj l ds0.length ρ).map fun ys=>(ys,d)
 | _=>none
variable {vs0 vs1:List V}
theorem ykh : (L2.start N (vs0++.non::vs1)).set vs0.length (some (.ref l))=L2.start N (vs0++.ref l::vs1):=by
 unfold L2.start;simp [set_append,length_append]
variable {ds0 ds1:LD}
theorem zao.startM (s0:zav Hf H) (hf:Hf l=none) (hl:H l=some (.lst us)) (r0:zan G Hf ds0 vs0) (r1:zan G Hf ds1 vs1) (rx:zan G Hf xs us) :
  zao G Hf (zcz H l) Hf H (L2.start N (vs0++.ref l::vs1)) (zqq N.length l ds0 ds1 xs):=by
 have st0:=zao.start (N:=N) (zp8 s0 hf) (r0.append (.cons (d:=.non) (v:=.non) rfl r1));have:=st0.setOwn (i:=ds0.length) (l:=l) (s:=.pin l xs) rfl (Ext.grow (zp8 s0 hf) zwb) zl1 hf ⟨rfl,us,hl,rx⟩;rw [r0.length,ykh,<- r0.length] at this;exact this
variable {K:W.Frag} {n0:Nat}
theorem zd1 {f:Addr} {k:Nat} (Fn:Fun K x qual st f fd) (S:za1 N ps (zau st))
  (h:∀ (cdv:Value) (A:Around) (outer:List Env) (s:Shared) (H:Hp) (E:XK),zbl k (A.deeper (envOfC qual (zau st) s.heap.objs.size f cdv))->DSs c (zen CX0 P w K mg base N qual (zau st) f cdv A outer s H E).nox (zfj st) F) (hn_:N.length=n_:=by rfl) :
  zcn P w K mg base CX0 (k + 1) f fd ps (spM ⟨K,c⟩ n0 ps.length (zdj n_ F)):=by
 subst hn_;refine Fn.ok S (fun vs H Q E q_=>by obtain ⟨Hf,ds0,ds1,xs,ys,d,l,us,vs0,vs1,ev,s0,hf,hu,r0,r1,rx,hn,hl,_⟩:=q_; rw [ev,length_append,length_cons,<- r0.length,<- r1.length]; omega) fun cdv A outer s H vs Q E hr q_=>?_;obtain ⟨Hf,ds0,ds1,xs,ys,d,l,us,vs0,vs1,ev,s0,hf,hu,r0,r1,rx,hn,hl,e,kq⟩:=q_;refine ⟨_,h cdv A outer s H E hr,?_⟩;subst ev;unfold zdj at e
 cases eF : F (zqq N.length l ds0 ds1 xs) with
 | none=>rw [eF] at e; cases e
 | some o =>
  rw [eF,bind_some] at e;refine ⟨Hf,zcz H l,Hf,_,o,zao.startM s0 hf hu r0 r1 rx,eF,?_⟩
  cases o with
  | nx ρ =>
   replace e : (zhj l ds0.length ρ).map (fun ys=>(ys,D.non))=some (ys,d):=e
   cases ep : zhj l ds0.length ρ with
   | none=>rw [ep] at e; cases e
   | some zs =>
    rw [ep] at e;cases e;intro σ' Hf' H' _ so;obtain ⟨l',e1,h0,hf',e2,us',hu',rx'⟩:=so.ownAt (s:=.pin l ys) rfl (z6d ep);subst e2
    exact kq .non Hf' H' us' so.ext hf' hu' rx' rfl
  | rtS d' ρ =>
   replace e : (zhj l ds0.length ρ).map (fun ys=>(ys,d'))=some (ys,d):=e
   cases ep : zhj l ds0.length ρ with
   | none=>rw [ep] at e; cases e
   | some zs =>
    rw [ep] at e;cases e;intro v σ' Hf' H' so r;obtain ⟨l',e1,h0,hf',e2,us',hu',rx'⟩:=so.ownAt (s:=.pin l ys) rfl (z6d ep);subst e2
    exact kq v Hf' H' us' so.ext hf' hu' rx' r
  | _=>cases e
variable {s:Sl}
theorem zao.giveS (hs:s.isOwn=true) (h:zao G Hf0 H0 Hf H σ ρ) (e:ρ[i]?=some s) (el:σ[i]?=some (some (.ref l))) : zao G Hf0 H0 Hf (zcz H l) σ (ρ.set i .no):=by
 refine h.chg e el (fun b u hb=>?_) trivial fun a p=>(p.calm rfl).elim
 by_cases hl : b=l
 ·subst hl; exact .inl ((Holds.own hs).mpr rfl)
 ·exact .inr (by rw [zrx hl]; exact hb)
variable {s':Sl}
theorem zao.back (hs:s.isOwn=true) (hs':s'.isOwn=true) (h:zao G Hf0 H0 Hf H σ ρ) (e:ρ[i]?=some s) (el:σ[i]?=some (some (.ref l))) (x:Ext Hf (zcz H l) Hf' H') (hf:Hf' l=none) (ho:zgi G Hf' H' l s') : zao G Hf0 H0 Hf' H' σ (ρ.set i s'):=by
 have:=(h.giveS hs e el).setOwn (i:=i) (l:=l) hs' x zl1 hf ho;rw [set_set] at this
 have e2 : σ.set i (some (.ref l))=σ:=by
  apply ext_getElem?;intro j
  by_cases hj : i=j
  ·subst hj;rw [List.getElem?_set_self (gq el).1,el]
  ·rw [List.getElem?_set_ne hj]
 rw [e2] at this;exact this
open Classical in
noncomputable def zhd (f:LS->Option (D×LS)) (ρ:LS) : Option Fl:=(f ρ).map fun p=>.nx p.2
theorem zkh {f:LS->Option (D×LS)} (he:DX c X e f) (hs:swapsWith e none pos.line X.env=pure false:=by rfl) : DS c X (.Expr e pos) (zhd f):=PS.imp (zer he hs) fun E σ H q_=>by
 obtain ⟨Hf0,H0,Hf,ρ,o,so,ef,k⟩:=q_;unfold zhd at ef
 cases e1 : f ρ with
 | none=>rw [e1] at ef; cases ef
 | some p =>
  rw [e1] at ef;cases ef;exact ⟨Hf0,H0,Hf,ρ,p.1,p.2,so,e1,fun v Hf' H' s so' r=>k σ Hf' H' s so'⟩
noncomputable def zsu (i:Nat) (ρ:LS) : OLD:=match ρ[i]? with
 | some (.pin _ xs)=>some xs
 | _=>none
theorem z21 (i:Nat) (hN:X.N[i]?=some x:=by rfl) (hv:Vis X.env.scope x:=by first | exact Or.inl rfl | exact Or.inr (Or.inl rfl) | exact Or.inr (Or.inr rfl)) (hd:NDb x:=by decide)
  (hcd:NCd x:=by decide) : DC c X (.Name x pos) (zsu i):=PE.imp (ziq hN hv hd hcd) fun σ H Q q_=>by
 obtain ⟨Hf0,H0,Hf,ρ,d,st,ef,k⟩:=q_;unfold zsu at ef;split at ef
 ·rename_i l xs es;cases ef;obtain ⟨l',e1,_,_,_,vs,q,r⟩:=st.ownAt (s:=.pin l d) rfl es;exact ⟨_,e1,k l' vs Hf H (Ext.refl st.sub) (.inl (SqL.of q)) r⟩
 ·cases ef
variable {K:Fl->Prop}
theorem zlm {f:LS->Option (D×LS)} (h:f ρ=some (d,ρ')) (k:K (.nx ρ')) : wp (zhd f) ρ K:=⟨_,by unfold zhd; rw [h]; rfl,k⟩
theorem zc4 (h:f ρ=some d) (k:K (.rtS d ρ)) : wp (zcl f) ρ K:=⟨_,by unfold zcl; rw [h]; rfl,k⟩
theorem yhg (h:ρ[i]?=some (.pin l ys)) : zhj l i ρ=some ys:=by
 unfold zhj;rw [h];exact if_pos rfl
theorem zd4 {N:Nat} (h:F (zqq N l ds0 ds1 xs)=some (.rtS d ρ)) (h':ρ[ds0.length]?=some (.pin l ys)) : zdj N F l ds0 ds1 xs=some (ys,d):=by
 unfold zdj;rw [h,bind_some];show (zhj l ds0.length ρ).map _=_;rw [yhg h'];rfl
noncomputable def zkm : D->OD
 | .bl b=>some (.int (if b then 1 else 0))
 | _=>none
noncomputable def zkq (f:MF1) (ρ:LS) : OD:=(f ρ).bind zkm
def ykv (te:TE) : TE:=fun σ H Q=>te σ H fun x H1=>∃ b,x=.bl b/\Q (.int (if b then 1 else 0)) H1
theorem z99 : bootBuiltins "int"=some (.type "int"):=by decide +kernel
theorem z58 (hg:Gl X "int") (hm:X.mg "int"=none) (he:PE X e te) (h1:starEach [e] X.env=(false,eval e X.env)::starEach [] X.env:=by rfl) (hpl:(backTo pos (starEach [] X.env)).any (·.1)=false:=by rfl) :
  PE X (.Call (.Name "int" p) [e] [] pos) (ykv te):=by
 intro pins s σ H Q I h;refine wpAny_Call_Name_kw (zmc I hg hm z99 ?_);refine PyProof.Rows.callWith_type1 ?_ h1 hpl;rw [h1];show wpAny _ _ (spliced ((false,eval e X.env)::backTo pos (starEach [] X.env))) _ _ s;refine Calls.spliced_cons (thn (he pins s σ H _ I h) fun u s1 q_=>?_);obtain ⟨x,H1,I1,r1,b,e1,q⟩:=q_;subst e1;cases r1;refine wpAny_pure ?_;exact call_int_bool ⟨.int (if b then 1 else 0),H1,I1.tok (s1.toks + 1),⟨_,rfl⟩,q⟩
theorem zv5 (hg:Gl X "int") (hm:X.mg "int"=none) (ha:DE c X e f) (h1:starEach [e] X.env=(false,eval e X.env)::starEach [] X.env:=by rfl) (hpl:(backTo pos (starEach [] X.env)).any (·.1)=false:=by rfl) : DE c X (.Call (.Name "int" p) [e] [] pos) (zkq f) :=
 PE.imp (z58 hg hm ha h1 hpl) fun σ H Q q_=>by
  obtain ⟨Hf0,H0,Hf,ρ,d0,st,ef,k⟩:=q_;unfold zkq at ef
  cases e1 : f ρ with
  | none=>rw [e1] at ef; cases ef
  | some d =>
   rw [e1,bind_some] at ef;unfold zkm at ef;split at ef
   ·rename_i b;cases ef;refine ⟨Hf0,H0,Hf,ρ,_,st,e1,fun v Hf' H' x r=>⟨b,r,k _ Hf' H' x rfl⟩⟩
   ·cases ef
noncomputable def zmn (i:Nat) (fk fv:MF1) (ρ:LS) : Option Fl:=(fv ρ).bind fun d=>(fk ρ).bind fun x=>match x with
 | .int k=>(match ρ[i]? with
  | some (.pin l xs)=>(ixN xs.length k).map fun j=>.nx (ρ.set i (.pin l (xs.set j d)))
  | _=>none)
 | _=>none
theorem ybj (hp:PS X st (zj1 (tD (Gx c X) fv) (zwn (zc2 i) (tD (Gx c X) fk) zyo))) : DS c X st (zmn i fk fv):=PS.imp hp fun E σ H q_=>by
 obtain ⟨Hf0,H0,Hf,ρ,o,so,ef,k⟩:=q_;unfold zmn at ef
 cases e1 : fv ρ with
 | none=>rw [e1] at ef; cases ef
 | some d =>
  rw [e1] at ef
  cases e2 : fk ρ with
  | none=>rw [e2] at ef; cases ef
  | some x =>
   rw [e2] at ef
   obtain ⟨ky,rfl⟩ : ∃ ky,x=.int ky:=by cases x <;> first | exact ⟨_,rfl⟩ | cases ef
   replace ef : (match ρ[i]? with | some (.pin l xs)=>(ixN xs.length ky).map fun j=>Fl.nx (ρ.set i (.pin l (xs.set j d))) | _=>none)=some o:=ef
   split at ef
   ·rename_i l0 xs es
    cases ej : ixN xs.length ky with
    | none=>rw [ej] at ef; cases ef
    | some j =>
     rw [ej] at ef;cases ef;refine ⟨Hf0,H0,Hf,ρ,d,so,e1,fun v Hf1 H1 x1 r1=>?_⟩;have so1:=so.step x1;obtain ⟨l,el,h0,hf,eq,vs,q,r⟩:=so1.ownAt (s:=.pin l0 xs) rfl es;subst eq;refine ⟨_,el,Hf0,H0,Hf1,ρ,.int ky,so1,e2,fun y Hf2 H2 x2 r2=>?_⟩;have so2:=so1.step x2;have q2:=x2.h _ _ q;refine ⟨l,vs,ky,j,rfl,r2,q2,by rw [<- r.length]; exact ej,?_⟩;exact k σ Hf2 _ (x1.f.trans x2.f) (so2.mutd (s:=.pin l xs) (s':=.pin l (xs.set j d)) rfl rfl es el ⟨rfl,vs.set j v,zb8,(r.up x2.f).set j (r1.up x2.f)⟩)
   ·cases ef
theorem ybi (ho:PE X e (zc2 i)) (hk:DE c X i' fk) (hv:DE c X value fv) (hs:swapsWithSole [.Subscript e i' pos'] value pos.line X.env=pure false:=by rfl) (hw:swappedStores [.Subscript e i' pos'] value X.env=pure none:=by rfl)
  (h1:(assignEach [.Subscript e i' pos'] X.env).map (·.2)=[assign (.Subscript e i' pos') X.env]:=by rfl)
  (ha:∀ v,assign (.Subscript e i' pos') X.env v=(do
   let ov <- holding [v] (eval e X.env)
   let iv <- holding [v,ov] (eval i' X.env)
   standAt pos'
   holding [v,ov,iv] (setItem ov iv v)
   release [v,ov,iv] []):=by intro _; rfl) :
  DS c X (.Assign [.Subscript e i' pos'] value pos) (zmn i fk fv):=ybj (z6k hv (z6b ho hk z8b ha) hs hw h1)
theorem yl0 (hv:fv ρ=some d) (hk:fk ρ=some (.int k)) (h':ρ[i]?=some (.pin l xs)) (h0:0<=k) (h1:k < xs.length) (q:K (.nx (ρ.set i (.pin l (xs.set k.toNat d))))) : wp (zmn i fk fv) ρ K:=⟨_,by
 unfold zmn;rw [hv,bind_some,hk,bind_some,h'];show (ixN xs.length k).map _=_;unfold ixN;rw [if_pos h0,if_pos h1];rfl,q⟩
noncomputable abbrev Xe:=LS->Option (D×LS)
noncomputable abbrev Xa:=LS->Option (LD×LS)
noncomputable abbrev Xt:=LS->Option (Bool×LS)
noncomputable def mX (f:MF1) : Xe:=fun ρ=>(f ρ).map fun d=>(d,ρ)
noncomputable def mX2 (m:D->D->OD) (f g:Xe) : Xe:=fun ρ=>(f ρ).bind fun p=>(g p.2).bind fun q=>(m p.1 q.1).map fun d=>(d,q.2)
noncomputable def zaa : Xa:=fun ρ=>some ([],ρ)
noncomputable def zad (f:Xe) (g:Xa) : Xa:=fun ρ=>(f ρ).bind fun p=>(g p.2).map fun q=>(p.1::q.1,q.2)
noncomputable def zcm (f:Xa) : Xe:=fun ρ=>(f ρ).map fun p=>(.tup p.1,p.2)
noncomputable def zmm (f:Xa) : Xe:=fun ρ=>(f ρ).map fun p=>(.lst p.1,p.2)
noncomputable def zez (m:LD->OD) (f:Xa) : Xe:=fun ρ=>(f ρ).bind fun p=>(m p.1).map fun d=>(d,p.2)
theorem yem (h:mX f ρ=some (d,ρ')) : f ρ=some d/\ρ'=ρ:=by
 unfold mX at h
 cases e : f ρ with
 | none=>rw [e] at h; cases h
 | some d'=>rw [e] at h; cases h; exact ⟨rfl,rfl⟩
theorem zpf {f g:Xe} (h:mX2 m f g ρ=some (d,ρ')) : ∃ x y ρ1,f ρ=some (x,ρ1)/\g ρ1=some (y,ρ')/\m x y=some d:=by
 unfold mX2 at h
 cases e1 : f ρ with
 | none=>rw [e1] at h; cases h
 | some p =>
  rw [e1,bind_some] at h
  cases e2 : g p.2 with
  | none=>rw [e2] at h; cases h
  | some q =>
   rw [e2,bind_some] at h
   cases e3 : m p.1 q.1 with
   | none=>rw [e3] at h; cases h
   | some z=>rw [e3] at h; cases h; exact ⟨p.1,q.1,p.2,rfl,e2,e3⟩
theorem zsq {f:Xe} {g:Xa} (h:zad f g ρ=some (ds,ρ')) : ∃ d r ρ1,f ρ=some (d,ρ1)/\g ρ1=some (r,ρ')/\ds=d::r:=by
 unfold zad at h
 cases e1 : f ρ with
 | none=>rw [e1] at h; cases h
 | some p =>
  rw [e1,bind_some] at h
  cases e2 : g p.2 with
  | none=>rw [e2] at h; cases h
  | some q=>rw [e2] at h; cases h; exact ⟨p.1,q.1,p.2,rfl,e2,rfl⟩
def znl (G:Gc) (f:Xa) : TA:=fun σ H Q=>∃ Hf0 H0 Hf ρ ds ρ',zao G Hf0 H0 Hf H σ ρ/\f ρ=some (ds,ρ')/\∀ vs Hf' H',zav Hf Hf'->zao G Hf0 H0 Hf' H' σ ρ'->zan G Hf' ds vs->Q vs H'
structure DAX (c:Str->Addr) (X:Cx) (es:LEx) (f:Xa) : Prop where
 pa : PA X es (znl (Gx c X) f)
 len : ∀ ρ ds ρ',f ρ=some (ds,ρ')->ds.length=es.length
def z8t (G:Gc) (f:Xt) : TT:=fun σ H Q=>∃ Hf0 H0 Hf ρ b ρ',zao G Hf0 H0 Hf H σ ρ/\f ρ=some (b,ρ')/\∀ Hf' H',zav Hf Hf'->zao G Hf0 H0 Hf' H' σ ρ'->Q b H'
def DTX (c:Str->Addr) (X:Cx) (e:Expr) (f:Xt) : Prop:=PT X e (z8t (Gx c X) f)
theorem DE.dx (h:DE c X e f) : DX c X e (mX f):=PE.imp h fun σ H Q q_=>by
 obtain ⟨Hf0,H0,Hf,ρ,d,ρ',st,ef,k⟩:=q_;obtain ⟨e1,rfl⟩:=yem ef;exact ⟨Hf0,H0,Hf,_,d,st,e1,fun v Hf' H' x r=>k v Hf' H' x.f (st.step x) r⟩
variable {b:Expr}
theorem zej {op:Operator} {f g:Xe} (ho:OpD c X (binaryOp op) m) (ha:DX c X a f) (hb:DX c X b g) : DX c X (.BinOp a op b pos) (mX2 m f g):=PE.imp (zt9 ho ha hb) fun σ H Q q_=>by
 obtain ⟨Hf0,H0,Hf,ρ,d,ρ',st,ef,k⟩:=q_;obtain ⟨x,y,ρ1,e1,e2,e3⟩:=zpf ef;exact ⟨Hf0,H0,Hf,ρ,x,ρ1,st,e1,fun v Hf1 H1 f1 st1 r1=>⟨Hf0,H0,Hf1,ρ1,y,ρ',st1,e2,fun u Hf2 H2 f2 st2 r2=>⟨Hf2,x,y,d,st2.sub,r1.up f2,r2,e3,fun w Hf3 H3 x3 r3=>k w Hf3 H3 ((f1.trans f2).trans x3.f) (st2.step x3) r3⟩⟩⟩
theorem zal : DAX c X [] zaa:=⟨PA.imp zcd fun σ H Q q_=>by obtain ⟨Hf0,H0,Hf,ρ,ds,ρ',st,ef,k⟩:=q_; cases ef; exact k [] Hf H (zav.refl _) st rfl,fun ρ ds ρ' h=>by cases h; rfl⟩
theorem zae {f:Xe} {g:Xa} (ha:DX c X e f) (hr:DAX c X es g) (hs:StE X e es:=by rfl) : DAX c X (e::es) (zad f g):=by
 refine ⟨PA.imp (zbv ha hr.pa hs) fun σ H Q q_=>?_,fun ρ ds ρ' h=>?_⟩
 ·obtain ⟨Hf0,H0,Hf,ρ,ds,ρ',st,ef,k⟩:=q_;obtain ⟨d,r,ρ1,e1,e2,rfl⟩:=zsq ef;exact ⟨Hf0,H0,Hf,ρ,d,ρ1,st,e1,fun v Hf1 H1 f1 st1 r1=>⟨Hf0,H0,Hf1,ρ1,r,ρ',st1,e2,fun vs Hf2 H2 f2 st2 r2=>k _ Hf2 H2 (f1.trans f2) st2 (.cons (r1.up f2) r2)⟩⟩
 ·obtain ⟨d,r,ρ1,e1,e2,rfl⟩:=zsq h;simp [hr.len ρ1 r ρ' e2]
theorem zc5 {f:Xa} (h:DAX c X es f) (hz:es.length<=1000:=by exact Nat.le_of_ble_eq_true rfl) : DX c X (.Tuple es k' pos) (zcm f):=PE.imp (zua h.pa) fun σ H Q q_=>by
 obtain ⟨Hf0,H0,Hf,ρ,d,ρ',st,ef,k⟩:=q_;unfold zcm at ef
 cases ed : f ρ with
 | none=>rw [ed] at ef; cases ef
 | some q =>
  obtain ⟨ds,ρ1⟩:=q;rw [ed] at ef;cases ef;refine ⟨Hf0,H0,Hf,ρ,ds,_,st,ed,fun vs Hf' H' f1 st1 r=>⟨?_,fun q hq=>?_⟩⟩
  ·rw [<- r.length,h.len ρ ds _ ed];exact Nat.le_of_lt (zng hz)
  ·exact k _ (upd Hf' q (.tup vs)) (upd H' q (.tup vs)) (f1.trans (zc9 (st1.sub.free hq))) (st1.step (Ext.new st1.sub hq)) ⟨q,vs,rfl,zb8,r.up (zc9 (st1.sub.free hq))⟩
theorem z26 {f:Xa} (h:DAX c X es f) (hz:es.length<=1000:=by exact Nat.le_of_ble_eq_true rfl) : DX c X (.List es pos) (zmm f):=PE.imp (zm4 h.pa) fun σ H Q q_=>by
 obtain ⟨Hf0,H0,Hf,ρ,d,ρ',st,ef,k⟩:=q_;unfold zmm at ef
 cases ed : f ρ with
 | none=>rw [ed] at ef; cases ef
 | some q =>
  obtain ⟨ds,ρ1⟩:=q;rw [ed] at ef;cases ef;refine ⟨Hf0,H0,Hf,ρ,ds,_,st,ed,fun vs Hf' H' f1 st1 r=>⟨?_,fun q hq=>?_⟩⟩
  ·rw [<- r.length,h.len ρ ds _ ed];exact Nat.le_of_lt (zng hz)
  ·exact k _ (upd Hf' q (.lst vs)) (upd H' q (.lst vs)) (f1.trans (zc9 (st1.sub.free hq))) (st1.step (Ext.new st1.sub hq)) ⟨q,vs,rfl,zb8,r.up (zc9 (st1.sub.free hq))⟩
variable {k:Nat} {f:Addr} {fa:Xa}
theorem zr8 {m:LD->OD} (pk:Pk X.prog X.w X.K X.mg X.base CX0 k x (f,fd) ps (spD (Gx c X) ps.length m)) (hr0:zbl k0 X.A) (ha:DAX c X (e::es) fa) (hl:(e::es).length=ps.length:=by rfl) (hdb:NDb x:=by decide) (he:StE X e es:=by rfl) (hpl:BkE X pos es:=by rfl) (hk0:k<=k0:=by decide) (hg:Gl X x:=by first | rfl | exact glc rfl) :
  DX c X @8 (zez m fa):=PE.imp @9 fun σ H Q q_=>by
 obtain ⟨Hf0,H0,Hf,ρ,d,ρ',st,ef,kq⟩:=q_;unfold zez at ef
 cases e1 : fa ρ with
 | none=>rw [e1] at ef; cases ef
 | some q =>
  obtain ⟨ds,ρ1⟩:=q;rw [e1,bind_some] at ef
  cases e2 : m ds with
  | none=>rw [e2] at ef; cases ef
  | some z =>
   rw [e2] at ef;cases ef;refine ⟨Hf0,H0,Hf,ρ,ds,_,st,e1,fun vs Hf' H' f1 st1 r=>?_⟩;dsimp only;rw [append_nil];exact ⟨Hf',ds,_,st1.sub,r,(ha.len ρ ds _ e1).trans hl,e2,fun v Hf2 H2 x2 r2=>kq v Hf2 H2 (f1.trans x2.f) (st1.step x2) r2⟩
def tMX (G:Gc) (i:Nat) (f:Xa) : TA:=fun σ H Q=>∃ Hf0 H0 Hf ρ ds ρ' l,zao G Hf0 H0 Hf H σ ρ/\σ[i]?=some (some (.ref l))/\f ρ=some (ds,ρ')/\∀ vs Hf' H',zav Hf Hf'->zao G Hf0 H0 Hf' H' σ ρ'->zan G Hf' ds vs->Q (.ref l::vs) H'
structure DMX (c:Str->Addr) (X:Cx) (es:LEx) (i:Nat) (f:Xa) : Prop where
 pa : PA X es (tMX (Gx c X) i f)
 len : ∀ ρ ds ρ',f ρ=some (ds,ρ')->ds.length + 1=es.length
noncomputable def zat (i:Nat) (m:Addr->LD->LD->LD->Option (LD×D)) (f:Xa) : Xe:=fun ρ=>match ρ[i]? with
 | some (.pin _ _)=>(f ρ).bind fun p=>match p.2[i]? with
  | some (.pin l xs)=>(m l [] p.1 xs).map fun q=>(q.2,p.2.set i (.pin l q.1))
  | _=>none
 | _=>none
open Classical in
noncomputable def zf5 (i:Nat) (m:Addr->LD->LD->LD->Option (LD×D)) (f:Xa) : Xe:=fun ρ=>match ρ[i]? with
 | some (.own _)=>(f ρ).bind fun p=>match p.2[i]? with
  | some (.own xs)=>if h : ∃ q,∀ l,m l [] p.1 xs=some q then some (h.choose.2,p.2.set i (.own h.choose.1)) else none
  | _=>none
 | _=>none
theorem za6 (i:Nat) {g:Xa} (hr:DAX c X es g) (hN:X.N[i]?=some x:=by rfl) (hv:Vis X.env.scope x:=by first | exact Or.inl rfl | exact Or.inr (Or.inl rfl) | exact Or.inr (Or.inr rfl)) (hd:NDb x:=by decide)
  (hcd:NCd x:=by decide) (hs:starEach (.Name x pos::es) X.env=(false,eval (.Name x pos) X.env)::starEach es X.env:=by rfl) : DMX c X (.Name x pos::es) i g :=
 ⟨PA.imp (zbv (ziq hN hv hd hcd) hr.pa hs) fun σ H Q ⟨Hf0,H0,Hf,ρ,ds,ρ',l,st,el,ef,k⟩=>⟨_,el,Hf0,H0,Hf,ρ,ds,ρ',st,ef,fun vs Hf' H' f1 st1 r=>k vs Hf' H' f1 st1 r⟩,fun ρ ds ρ' h=>by
  rw [length_cons,hr.len ρ ds ρ' h]⟩
theorem za3 {m:Addr->LD->LD->LD->Option (LD×D)} (pk:Pk X.prog X.w X.K X.mg X.base CX0 k x (f,fd) ps (spM (Gx c X) 0 ps.length m)) (hr0:zbl k0 X.A) (ha:DMX c X (e::es) i fa) (hl:(e::es).length=ps.length:=by rfl) (hdb:NDb x:=by decide) (he:StE X e es:=by rfl) (hpl:BkE X pos es:=by rfl) (hk0:k<=k0:=by decide) (hg:Gl X x:=by first | rfl | exact glc rfl) :
  DX c X @8 (zat i m fa):=PE.imp @9 fun σ H Q q_=>by
 obtain ⟨Hf0,H0,Hf,ρ,d,ρ',st,ef,kq⟩:=q_;unfold zat at ef;split at ef
 ·rename_i l0 xs0 eo0
  cases e1 : fa ρ with
  | none=>rw [e1] at ef; cases ef
  | some pp =>
   obtain ⟨ds,ρ1⟩:=pp;rw [e1,bind_some] at ef;dsimp only at ef;split at ef
   ·rename_i l xs eo
    cases e2 : m l [] ds xs with
    | none=>rw [e2] at ef; cases ef
    | some q =>
     rw [e2] at ef;cases ef;obtain ⟨l1,el,_,_,_,_,_,_⟩:=st.ownAt (s:=.pin l0 xs0) rfl eo0;refine ⟨Hf0,H0,Hf,ρ,ds,ρ1,l1,st,el,e1,fun vs Hf' H' f1 st1 r=>?_⟩;dsimp only;rw [append_nil];obtain ⟨l2,el2,h02,hf2,eq2,us2,hu2,rx2⟩:=st1.ownAt (s:=.pin l xs) rfl eo;subst eq2;rw [el] at el2;cases el2
     have hn : 0 + 1 + ds.length=ps.length:=by
      have:=(ha.len ρ ds _ e1).trans hl;omega
     exact ⟨Hf',[],ds,xs,q.1,q.2,l1,us2,[],vs,rfl,st1.sub,hf2,hu2,rfl,r,rx2,rfl,hn,e2,fun v Hf3 H3 us3 x3 hf3 hu3 rx3 r3=>kq v Hf3 H3 (f1.trans x3.f) (st1.back (s:=.pin l1 xs) (s':=.pin l1 q.1) rfl rfl eo el x3 hf3 ⟨rfl,us3,hu3,rx3⟩) r3⟩
   ·cases ef
 ·cases ef
theorem zwg {m:Addr->LD->LD->LD->Option (LD×D)} (pk:Pk X.prog X.w X.K X.mg X.base CX0 k x (f,fd) ps (spM (Gx c X) 0 ps.length m)) (hr0:zbl k0 X.A) (ha:DMX c X (e::es) i fa) (hl:(e::es).length=ps.length:=by rfl) (hdb:NDb x:=by decide) (he:StE X e es:=by rfl) (hpl:BkE X pos es:=by rfl) (hk0:k<=k0:=by decide) (hg:Gl X x:=by first | rfl | exact glc rfl) :
  DX c X @8 (zf5 i m fa):=PE.imp @9 fun σ H Q q_=>by
 obtain ⟨Hf0,H0,Hf,ρ,d,ρ',st,ef,kq⟩:=q_;unfold zf5 at ef;split at ef
 ·rename_i xs0 eo0
  cases e1 : fa ρ with
  | none=>rw [e1] at ef; cases ef
  | some pp =>
   obtain ⟨ds,ρ1⟩:=pp;rw [e1,bind_some] at ef;dsimp only at ef;split at ef
   ·rename_i xs eo;split at ef
    ·rename_i hq;have e2:=hq.choose_spec;generalize hq.choose=q at ef e2;cases ef;obtain ⟨l1,el,_,_,_,_,_⟩:=st.ownAt (s:=.own xs0) rfl eo0;refine ⟨Hf0,H0,Hf,ρ,ds,ρ1,l1,st,el,e1,fun vs Hf' H' f1 st1 r=>?_⟩;dsimp only;rw [append_nil];obtain ⟨l2,el2,h02,hf2,us2,hu2,rx2⟩:=st1.ownAt (s:=.own xs) rfl eo;rw [el] at el2;cases el2
     have hn : 0 + 1 + ds.length=ps.length:=by
      have:=(ha.len ρ ds _ e1).trans hl;omega
     exact ⟨Hf',[],ds,xs,q.1,q.2,l1,us2,[],vs,rfl,st1.sub,hf2,hu2,rfl,r,rx2,rfl,hn,e2 l1,fun v Hf3 H3 us3 x3 hf3 hu3 rx3 r3=>kq v Hf3 H3 (f1.trans x3.f) (st1.back (s:=.own xs) (s':=.own q.1) rfl rfl eo el x3 hf3 ⟨us3,hu3,rx3⟩) r3⟩
    ·cases ef
   ·cases ef
 ·cases ef
noncomputable def zbk (i:Nat) (f:Xe) (ρ:LS) : Option Fl:=(f ρ).map fun p=>.nx (p.2.set i (.im p.1))
noncomputable def zbj (f:Xe) (ρ:LS) : Option Fl:=(f ρ).map fun p=>.rtS p.1 p.2
noncomputable def zeq (i:Nat) (f:Xe) (ρ:LS) : Option Fl:=match ρ[i]? with
 | some (.own _)=>(f ρ).bind fun p=>match p.2[i]? with
  | some (.own xs)=>if xs.length < 16777216 then some (.nx (p.2.set i (.own (xs++[p.1])))) else none
  | _=>none
 | _=>none
noncomputable def zi5 : D->D->OD
 | .int i,.int j=>some (.int (i + j))
 | .str a,.str b=>if a.length + b.length<=16777216 then some (.str (a++b)) else none
 | _,_=>none
noncomputable def zmh (i:Nat) (f:Xe) (ρ:LS) : Option Fl:=match ρ[i]? with
 | some (.im x)=>(f ρ).bind fun p=>(zi5 x p.1).map fun z=>.nx (p.2.set i (.im z))
 | _=>none
noncomputable def zdr (t:Xt) (F F':MF3) (ρ:LS) : Option Fl:=(t ρ).bind fun p=>if p.1 then F p.2 else F' p.2
variable {f:Xe}
theorem zbz (i:Nat) (hN:X.N.Nodup) (he:DX c X e f) (hi:X.N[i]?=some x:=by rfl) (hx:Loc X.env.scope x:=by first | exact Or.inl rfl | exact Or.inr rfl) (hs:swapsWith e (some (.Name x pos')) pos.line X.env=pure false:=by rfl) (hf:LcF X x:=by first | exact .inl rfl | exact .inr rfl) :
  DS c X (.Assign [.Name x pos'] e pos) (zbk i f):=PS.imp (zjt hN hi hx he hs hf) fun E σ H q_=>by
 obtain ⟨Hf0,H0,Hf,ρ,o,so,ef,k⟩:=q_;unfold zbk at ef
 cases e1 : f ρ with
 | none=>rw [e1] at ef; cases ef
 | some p =>
  rw [e1] at ef;cases ef;exact ⟨Hf0,H0,Hf,ρ,p.1,p.2,so,e1,fun v Hf' H' s so' r=>k _ Hf' H' s (so'.setIm r)⟩
theorem zbr (he:DX c X e f) : DS c X (.Return (some e) pos) (zbj f):=PS.imp (zm5 he) fun E σ H q_=>by
 obtain ⟨Hf0,H0,Hf,ρ,o,so,ef,k⟩:=q_;unfold zbj at ef
 cases e1 : f ρ with
 | none=>rw [e1] at ef; cases ef
 | some p =>
  rw [e1] at ef;cases ef;exact ⟨Hf0,H0,Hf,ρ,p.1,p.2,so,e1,fun v Hf' H' s so' r=>k v σ Hf' H' so' r⟩
theorem zkg (h:PS X st (zu3 (tBM X.K "list" zym (zc2 i) (zli (tDX (Gx c X) f) ziv)))) : DS c X st (zeq i f):=PS.imp h fun E σ H q_=>by
 obtain ⟨Hf0,H0,Hf,ρ,o,so,ef,k⟩:=q_;unfold zeq at ef;split at ef
 ·rename_i xs0 es0
  cases e1 : f ρ with
  | none=>rw [e1] at ef; cases ef
  | some p =>
   rw [e1,bind_some] at ef;split at ef
   ·rename_i xs es;split at ef
    ·rename_i hl;cases ef;obtain ⟨l,e2,h0,hf,vs0,q0,r0⟩:=so.ownAt (s:=.own xs0) rfl es0;refine ⟨_,e2,.inl ⟨rfl,_,SqL.of q0⟩,Hf0,H0,Hf,ρ,p.1,p.2,so,e1,fun v Hf' H' s so' r'=>?_⟩;obtain ⟨l2,e3,h02,hf2,vs,q,r⟩:=so'.ownAt (s:=.own xs) rfl es;rw [e2] at e3;cases e3;exact ⟨l,vs,v,rfl,rfl,q,by rw [sizeLine_eq,<- r.length]; exact hl,k σ Hf' _ s (so'.mutd (s:=.own xs) (s':=.own (xs++[p.1])) rfl rfl es e2 ⟨vs++[v],zb8,r.append (.cons r' .nil)⟩)⟩
    ·cases ef
   ·cases ef
 ·cases ef
theorem z3x : PIp X .Add (rD (Gx c X) zi5):=fun pins s σ H x y v u Q I rx ry q_=>by
 obtain ⟨Hf,dx,dy,d,s0,r1,r2,e,k⟩:=q_
 exact (by
 cases dx <;> cases dy <;> first | (cases e; done) | skip
 ·cases r1;cases r2;cases e;exact ydj pins s σ H _ _ v u Q I rx ry ⟨_,_,rfl,rfl,k _ Hf H (Ext.refl s0) rfl⟩
 ·cases r1;cases r2;replace e : (if _ then some (D.str _) else none)=some d:=e;split at e
  ·rename_i hl;cases e;exact ydi pins s σ H _ _ v u Q I rx ry ⟨_,_,rfl,rfl,by rw [sizeLine_eq]; exact hl,k _ Hf H (Ext.refl s0) rfl⟩
  ·cases e)
theorem z2x (i:Nat) (hN:X.N.Nodup) (he:DX c X e f) (hi:X.N[i]?=some x:=by rfl) (hx:Loc X.env.scope x:=by first | exact Or.inl rfl | exact Or.inr rfl) (hf:LcF X x:=by first | exact .inl rfl | exact .inr rfl) :
  DS c X (.AugAssign (.Name x pos') .Add e pos) (zmh i f):=PS.imp (z6l hN hi hx he (z3x (c:=c)) hf) fun E σ H q_=>by
 obtain ⟨Hf0,H0,Hf,ρ,o,so,ef,k⟩:=q_;unfold zmh at ef;split at ef
 ·rename_i d es
  cases e1 : f ρ with
  | none=>rw [e1] at ef; cases ef
  | some p =>
   rw [e1,bind_some] at ef
   cases e2 : zi5 d p.1 with
   | none=>rw [e2] at ef; cases ef
   | some z =>
    rw [e2] at ef;cases ef;obtain ⟨v,ev,w,ew,rw'⟩:=so.slot es;cases ew;exact ⟨_,ev,Hf0,H0,Hf,ρ,p.1,p.2,so,e1,fun u Hf' H' s so' r=>⟨Hf',d,p.1,z,so'.sub,rw'.up s,r,e2,fun y Hf2 H2 x2 r2=>k _ Hf2 H2 (s.trans x2.f) ((so'.step x2).setIm r2)⟩⟩
 ·cases ef
variable {as:List Stmt}
section
variable {bs:List Stmt}
theorem zfl {t:Xt} (hc:DTX c X e t) (ha:DSs c X as F) (hb:DSs c X bs F') : DS c X (.If e as bs pos) (zdr t F F'):=PS.imp (zyk hc ha hb) fun E σ H q_=>by
 obtain ⟨Hf0,H0,Hf,ρ,o,so,ef,k⟩:=q_;unfold zdr at ef
 cases e1 : t ρ with
 | none=>rw [e1] at ef; cases ef
 | some x =>
  obtain ⟨b,ρ1⟩:=x;rw [e1,bind_some] at ef;refine ⟨Hf0,H0,Hf,ρ,b,ρ1,so,e1,fun Hf1 H1 s1 so1=>?_⟩
  cases b with
  | true=>rw [if_pos rfl]; exact ⟨Hf0,H0,Hf1,ρ1,o,so1,ef,k.up s1⟩
  | false=>rw [if_neg fq]; exact ⟨Hf0,H0,Hf1,ρ1,o,so1,ef,k.up s1⟩
end
noncomputable def mBX (f:Xe) : Xt:=fun ρ=>(f ρ).bind fun p=>match p.1 with
 | .bl b=>some (b,p.2)
 | _=>none
noncomputable def mTX (f:MF4) : Xt:=fun ρ=>(f ρ).map fun b=>(b,ρ)
noncomputable def zjn (f g:Xt) : Xt:=fun ρ=>(f ρ).bind fun p=>if p.1 then some (true,p.2) else g p.2
def DWX (c:Str->Addr) (X:Cx) (e:Expr) (f:Xt) : Prop:=PW X e (z8t (Gx c X) f)
noncomputable def zlx : D->D->OD
 | .str z,.int i=>if 0<=i/\i < 2 ^ 63/\i < (z.length : Int) then (z.cps[i.toNat]?).map fun ch=>.str ⟨#[ch]⟩ else none
 | _,_=>none
noncomputable def zd6 (x y:D) : OD:=match x with
 | .lst ds=>ixD ds y
 | .tup ds=>ixD ds y
 | _=>none
noncomputable def zfr (f:Xa) : Xa:=fun ρ=>(f ρ).bind fun p=>(zjx p.1).map fun ds=>(ds,p.2)
theorem DT.dtx {f:MF4} (h:DT c X e f) : DTX c X e (mTX f):=PT.imp h fun σ H Q q_=>by
 obtain ⟨Hf0,H0,Hf,ρ,bb,ρ',st,ef,k⟩:=q_;unfold mTX at ef
 cases e1 : f ρ with
 | none=>rw [e1] at ef; cases ef
 | some x =>
  rw [e1] at ef;cases ef;exact ⟨Hf0,H0,Hf,ρ,_,st,e1,fun Hf' H' x=>k Hf' H' x.f (st.step x)⟩
theorem zgn {g:Xe} (ho:OpD c X (compareOp op) m) (ha:DX c X a f) (hb:DX c X b g) (hm:behindInMarks op b=false:=by first | exact ztn _ | rfl) :
  DTX c X (.Compare a [op] [b] pos) (mBX (mX2 m f g)):=PT.imp (z6n ho ha hb hm) fun σ H Q q_=>by
 obtain ⟨Hf0,H0,Hf,ρ,bb,ρ',st,ef,k⟩:=q_;unfold mBX at ef
 cases e0 : mX2 m f g ρ with
 | none=>rw [e0] at ef; cases ef
 | some q =>
  obtain ⟨d,ρ2⟩:=q;rw [e0,bind_some] at ef;obtain ⟨x,y,ρ1,e1,e2,e3⟩:=zpf e0
  cases d <;> first | (cases ef; done) | skip
  cases ef;exact ⟨Hf0,H0,Hf,ρ,x,ρ1,st,e1,fun v Hf1 H1 f1 st1 r1=>⟨Hf0,H0,Hf1,ρ1,y,_,st1,e2,fun u Hf2 H2 f2 st2 r2=>⟨Hf2,x,y,_,st2.sub,r1.up f2,r2,e3,fun w Hf3 H3 x3 r3=>⟨_,r3,k Hf3 H3 ((f1.trans f2).trans x3.f) (st2.step x3)⟩⟩⟩⟩
variable {f:Xt}
theorem DWX.dtx (h:DWX c X e f) : DTX c X e f:=PW.pt h
theorem ybt (h:DTX c X a f) : DWX c X (.BoolOp .Or [a] pos) f:=yia h
theorem ybu {g:Xt} {za9:LEx} (h:DTX c X a f) (h':DWX c X (.BoolOp .Or (b::za9) pos) g) : DWX c X (.BoolOp .Or (a::b::za9) pos) (zjn f g):=PW.imp (yh9 h h') fun σ H Q q_=>by
 obtain ⟨Hf0,H0,Hf,ρ,bb,ρ',st,ef,k⟩:=q_;unfold zjn at ef
 cases e1 : f ρ with
 | none=>rw [e1] at ef; cases ef
 | some x =>
  obtain ⟨x,ρ1⟩:=x;rw [e1,bind_some] at ef;refine ⟨Hf0,H0,Hf,ρ,x,ρ1,st,e1,fun Hf1 H1 s1 st1=>?_⟩
  cases x with
  | false=>rw [if_neg fq]; exact ⟨Hf0,H0,Hf1,ρ1,bb,ρ',st1,ef,fun Hf2 H2 s2 st2=>k Hf2 H2 (s1.trans s2) st2⟩
  | true=>cases ef; rw [if_pos rfl]; exact k Hf1 H1 s1 st1
theorem ydr {x:D} (h:zlx x y=some d) : ∃ z i ch,x=.str z/\y=.int i/\0<=i/\i < 2 ^ 63/\i < (z.length : Int)/\z.cps[i.toNat]?=some ch/\d=.str ⟨#[ch]⟩:=by
 unfold zlx at h;split at h
 ·rename_i z i;split at h
  ·rename_i hc
   cases e : z.cps[i.toNat]? with
   | none=>rw [e] at h; cases h
   | some ch=>rw [e] at h; cases h; exact ⟨z,i,ch,rfl,rfl,hc.1,hc.2.1,hc.2.2,e,rfl⟩
  ·cases h
 ·cases h
theorem z25 {f g:Xe} (ha:DX c X a f) (hb:DX c X b g) (hs:z1d b:=by exact fun _ _=>rfl) : DX c X (.Subscript a b pos) (mX2 zlx f g):=PE.imp (yg0 ha hb hs) fun σ H Q q_=>by
 obtain ⟨Hf0,H0,Hf,ρ,d,ρ',st,ef,k⟩:=q_;obtain ⟨x,y,ρ1,e1,e2,e3⟩:=zpf ef;obtain ⟨z,i,ch,rfl,rfl,h0,h1,h2,h3,rfl⟩:=ydr e3;exact ⟨Hf0,H0,Hf,ρ,_,ρ1,st,e1,fun v Hf1 H1 f1 st1 r1=>⟨Hf0,H0,Hf1,ρ1,_,ρ',st1,e2,fun u Hf2 H2 f2 st2 r2=>⟨z,i,ch,r1,r2,h0,h1,h2,h3,k _ Hf2 H2 (f1.trans f2) st2 rfl⟩⟩⟩
theorem zje {f g:Xe} (ha:DX c X a f) (hb:DX c X b g) (hs:zvd b:=by exact fun _ _=>rfl) : DX c X (.Subscript a b pos) (mX2 zd6 f g):=PE.imp (z59 (z37.or z38) ha hb hs) fun σ H Q q_=>by
 obtain ⟨Hf0,H0,Hf,ρ,d,ρ',st,ef,k⟩:=q_;obtain ⟨x,y,ρ1,e1,e2,e3⟩:=zpf ef;refine ⟨Hf0,H0,Hf,ρ,x,ρ1,st,e1,fun v Hf1 H1 f1 st1 r1=>⟨Hf0,H0,Hf1,ρ1,y,ρ',st1,e2,fun u Hf2 H2 f2 st2 r2=>?_⟩⟩;have r1:=r1.up f2;unfold zd6 at e3;split at e3
 ·rename_i ds
  cases y <;> first | (cases e3; done) | skip
  rename_i n;cases (show u=V.int n from r2);obtain ⟨l,vs,el,q,r⟩:=r1;subst el;obtain ⟨v,ev,rv⟩:=zvn e3 r;exact .inl ⟨l,vs,n,v,rfl,rfl,SqL.of (st2.sub _ _ q),ev,k v Hf2 H2 (f1.trans f2) st2 rv⟩
 ·rename_i ds
  cases y <;> first | (cases e3; done) | skip
  rename_i n;cases (show u=V.int n from r2);obtain ⟨l,vs,el,q,r⟩:=r1;subst el;obtain ⟨v,ev,rv⟩:=zvn e3 r;exact .inr ⟨l,vs,n,v,rfl,rfl,SqT.of (st2.sub _ _ q),ev,k v Hf2 H2 (f1.trans f2) st2 rv⟩
 ·cases e3
theorem zl8 {f:Xa} (hg:Gl X "range") (hm:X.mg "range"=none) (ha:DAX c X [a] f) (hs:starEach [a] X.env=[(false,eval a X.env)]:=by rfl) : DXi c X tg (.Call (.Name "range" p) [a] [] pos) (zfr f) :=
 PI.imp (z6c hg hm ha.pa hs) fun σ H R q_=>by
  obtain ⟨Hf0,H0,Hf,ρ,ds,ρ',st,ef,k⟩:=q_;unfold zfr at ef
  cases e1 : f ρ with
  | none=>rw [e1] at ef; cases ef
  | some q =>
   obtain ⟨as,ρ1⟩:=q;rw [e1,bind_some] at ef;dsimp only at ef
   cases e2 : zjx as with
   | none=>rw [e2] at ef; cases ef
   | some ds' =>
    rw [e2] at ef;cases ef;have hl:=ha.len ρ as _ e1;refine ⟨Hf0,H0,Hf,ρ,as,_,st,e1,fun vs Hf' H' s1 st1 r=>?_⟩;unfold zjx at e2;split at e2
    ·split at e2
     ·rename_i j hj;cases e2;obtain ⟨v,ev,rv⟩:=r.one;cases (show v=V.int j from rv);exact ⟨j,ev,hj.1,hj.2,k _ Hf' H' s1 st1 z33⟩
     ·cases e2
    ·cases hl
    ·cases e2
variable {s:Shared} {M:Model}
theorem z0w {u:Value} {Q:Unit->Shared->Prop} (J:Inv X pins σ H s) (nd:X.N.Nodup) (ix:X.N[i]?=some x) (lc:X.env.scope.names.lookup x=some .local) (rv:za7 v u)
  (h:∀ z,Inv X pins (σ.set i (some v)) H z->z.toks=s.toks + 1->(∃ m,z.heap.Ns X.env.locals m/\m x=some u)->Q () z) : wpAny M A (storeName X.env x u) Q E s:=by
 obtain ⟨m,mn,ml⟩:=id J.loc;have calm : (X.env.scope.kind==.class || (X.env.scope.kind==.module && X.env.locals != X.env.globals))=false:=by rw [J.ok.kind]; rfl
 have below : i < σ.length:=by rw [J.len]; exact (gq ix).1
 refine wpAny_storeName_local lc mn (fun g gn gs=>?_) calm;have far : ∀ {b:Addr} {o:Obj},X.s₀.heap.get? b=some o->g.get? b=s.heap.get? b:=fun {b o} e=>gs.2 b (Nat.ne_of_lt (Nat.lt_of_lt_of_le (Heap.lt_size e) J.ok.above))
 have tr : HOk X.prog X.w H g:=fun b ob e=>by
  refine (J.hok b ob e).stay (fun c w' hc q=>(gs.2 c ?_).trans q) (fun _ q=>q) fun _ _ q=>q;rintro rfl
  rcases hc with rfl | hc
  ·rw [J.free] at e; cases e
  ·rw [J.free] at hc; cases hc
 refine h _ ⟨J.ok,J.os,J.bare,⟨fun b o e n hb hx=>(far e).trans (J.base.keep b o e n hb hx),fun b o e n hb hx=>?_,J.base.free,fun b o e hx=>?_,J.base.tups,J.base.frzs,J.base.tbls⟩,⟨_,gn,fun j y w' e1 e2 e3=>?_⟩,fun y c e=>?_,J.free,J.freeC,fun p hp=>?_,tr,by simpa using J.len⟩ rfl ⟨_,gn,by simp⟩
 ·obtain ⟨sl,q⟩:=J.base.slot b o e n hb hx;exact ⟨sl,(far e).trans q⟩
 ·obtain ⟨o',q⟩:=J.base.there b o e hx;exact ⟨o',(far e).trans q⟩
 ·by_cases same : j=i
  ·subst same;rw [ix] at e1;cases e1;rw [List.getElem?_set_self below] at e2;cases e2;exact ⟨u,rv,.inl ⟨lc,by simp⟩⟩
  ·rw [List.getElem?_set_ne (Ne.symm same)] at e2;obtain ⟨u',r',q⟩:=ml j y w' e1 e2 e3;refine ⟨u',r',?_⟩
   rcases q with ⟨kd,ez⟩ | ⟨kd,c,ez,z⟩
   ·refine .inl ⟨kd,?_⟩;have other : y≠x:=fun e=>same (zxr nd e1 (e ▸ ix));simp [other,ez]
   ·exact .inr ⟨kd,c,ez,z.sameBut gs (J.cne y c ez)⟩
 ·obtain ⟨w',z⟩:=J.cell y c e;exact ⟨w',z.sameBut gs (J.cne y c e)⟩
 ·obtain ⟨e,n,ne,nf,d⟩:=J.pin p hp;exact ⟨(gs.2 p.1 ne).trans e,n,ne,nf,d⟩
noncomputable def zny (ch:Nat) : Str:=Str.empty++(" " : Str)++⟨#[ch]⟩++(" " : Str)
noncomputable def zcw (z:Str) (ch:Nat) : Str:=Txt.replace z ⟨#[ch]⟩ (zny ch)
noncomputable def zp4 (z:Str) (cs:LN) : Bool:=(List.range cs.length).all fun k=>decide (4 * ((cs.take k).foldl zcw z).length + 3<=16777216)
noncomputable abbrev zrk (x y:Str) (p1 p2 p3 p4 p5 p6 p7 p8 p9:Pos) (k1 k2:Nat) : Expr:=.Call (.Attribute (.Name x p1) "replace" p2) [.Name y p3,.JoinedStr [.Constant (.str " ") k1 p4,.FormattedValue (.Name y p5) (-1) none p6,.Constant (.str " ") k2 p7] p8] [] p9
variable {y z:Str} {p1 p3 p4 p5 p6 p7 p8 p9:Pos} {k1 k2:Nat}
theorem yb3 {ch:Nat} {u:Tok} {m:MGT} {Q:PRS} (I:Inv X pins σ H s) (hi:X.N[i]?=some x) (lx:X.env.scope.names.lookup x=some .local) (ly:X.env.scope.names.lookup y=some .local)
  (hz:σ[i]?=some (some (.str z))) (hn:s.heap.Ns X.env.locals m) (hy:m y=some (.str ⟨#[ch]⟩ u)) (u0:u≠0) (ub:u < s.toks) (sz:4 * z.length + 3<=16777216)
  (q:∀ t' tk,s.toks<=tk->Q (.str (zcw z ch) t') { s with toks:=tk })
  (dx:NDb x:=by decide) (dy:(y==("__debug__" : Str))=false:=by decide)
  (hbase:attributeBase (.Name x p1) "replace" X.env (eval (.Name x p1) X.env)=eval (.Name x p1) X.env:=by rfl)
  (hfew:((backTo p9 (starEach [.Name y p3,.JoinedStr [.Constant (.str " ") k1 p4,.FormattedValue (.Name y p5) (-1) none p6,.Constant (.str " ") k2 p7] p8] X.env)).all (fun x=>!x.1) && (backToKw p9 (keywordEach [] X.env)).all (fun x=>x.1.isSome)
   && decide (([.Name y p3,.JoinedStr [.Constant (.str " ") k1 p4,.FormattedValue (.Name y p5) (-1) none p6,.Constant (.str " ") k2 p7] p8] : LEx).length + ([] : List Keyword).length + (if ([] : List Keyword).isEmpty then 0 else 1) < 30))=true:=by rfl)
  (hline:(p2.endLine==p9.line)=true:=by rfl) : wpAny @1 X.A (eval (zrk x y p1 p2 p3 p4 p5 p6 p7 p8 p9 k1 k2) X.env) Q E s:=by
 obtain ⟨m',mn,ml⟩:=id I.loc;obtain ⟨w,rw',l⟩:=ml i x _ hi hz (.inl lx);obtain ⟨tz,rfl⟩:=rw'
 have hx : m' x=some (.str z tz):=by
  rcases l with ⟨_,h⟩ | ⟨hk,_⟩
  ·exact h
  ·rcases hk with hk | hk <;> (rw [show X.env.kindOf x=some .local from lx] at hk; cases hk)
 refine wpAny_Call_method_late hbase hfew hline rfl (wpAny_Name (wpAny_loadName_local I.ok.kind lx mn hx ?_) dx);refine ⟨"str","str.replace",F.plainAttrs_str,F.slot_str_replace,F.type_str_replace,typeIs_str _ _ _,(fun _ e=>by cases e),?_⟩;refine Calls.callWith_builtin rfl (Calls.evalArgs_plain ?_);refine Calls.spliced_cons (wpAny_Name (wpAny_loadName_local I.ok.kind ly hn hy ?_) dy);show wpAny _ _ (spliced [(false,eval (.JoinedStr [.Constant (.str " ") k1 p4,.FormattedValue (.Name y p5) (-1) none p6,.Constant (.str " ") k2 p7] p8) X.env)]) _ _ s;refine Calls.spliced_cons ?_
 have lit : ∀ {w:Str} {kk:Nat} {pp:Pos} {s1:Shared} {R:PRS},R (.str w s1.toks) { s1 with toks:=s1.toks + 1 }->wpAny @1 X.A (eval (.Constant (.str w) kk pp) X.env) R E s1:=fun h=>Calls.Constant_str h
 have fin : ∀ (tk:Nat),s.toks<=tk->wpAny @1 X.A (joinParts (Str.empty++(" " : Str)++⟨#[ch]⟩) [eval (.Constant (.str " ") k2 p7) X.env]) (fun v s₁=>wpAny @1 X.A (call (.builtin "str.replace") [.str z tz,.str ⟨#[ch]⟩ u,v]) Q E s₁) E { s with toks:=tk }:=fun tk ht=>by
  refine joinParts_cons (lit ⟨by show 3<=sizeLine; decide,?_⟩);refine joinParts_nil ?_ (by show 3<=sizeLine; decide)
  refine wpAny_mono (wpAny_toks_of (n:=s.toks) (Nat.le_succ_of_le (Nat.le_succ_of_le ht)) (SC.replace (Q:=fun v s'=>∃ t',v=.str (zcw z ch) t'/\∃ k,s'={ s with toks:=k }) u0 ?_ ?_ ?_ ?_ fun t2 k=>⟨t2,rfl,k,rfl⟩)) (fun v s1 q_=>by obtain ⟨hb,t',e1,k,e2⟩:=q_; subst e1 e2; exact q t' k hb) fun _ _ e=>e.2
  ·show tk + 1≠0; omega
  ·exact Nat.ne_of_lt (Nat.lt_succ_of_lt (Nat.lt_of_lt_of_le ub ht))
  ·cases e : ((⟨#[ch]⟩ : Str)==Str.empty++(" " : Str)++⟨#[ch]⟩++(" " : Str)) with
   | false=>rfl
   | true=>exact absurd (congrArg Str.length (eq_of_beq e)) (by show ¬ 1=3; decide)
  ·show z.length + (z.length + 1) * 3<=_; omega
 refine JoinedStr_many (joinParts_cons (lit ⟨by show 1<=sizeLine; decide,?_⟩));refine joinParts_cons (FormattedValue_plain (wpAny_Name (wpAny_loadName_local I.ok.kind ly hn hy ?_) dy))
 have more : ∀ (tk:Nat),s.toks<=tk->(Str.empty++(" " : Str)++(⟨#[ch]⟩ : Str)).length<=sizeLine/\wpAny @1 X.A (joinParts (Str.empty++(" " : Str)++⟨#[ch]⟩) [eval (.Constant (.str " ") k2 p7) X.env]) (fun u' s₁=>wpAny @1 X.A (spliced []) (fun us s'=>wpAny @1 X.A (call (.builtin "str.replace") ([.str z tz]++.str ⟨#[ch]⟩ u::u'::us)) Q E s') E s₁) E { s with toks:=tk }:=fun tk ht=>⟨by show 2<=sizeLine; decide,thn (fin tk ht) fun v s1 h1=>Calls.spliced_nil h1⟩
 exact wpAny_formatField_str (more _ (Nat.le_succ _)) (more _ (Nat.le_succ_of_le (Nat.le_succ _))) (by show 1<=sizeLine; decide)
noncomputable abbrev z3f (x y g:Str) (py pg px p1 p2 p3 p4 p5 p6 p7 p8 p9 p10 pf:Pos) (k1 k2:Nat) : Stmt:=.For (.Name y py) (.Name g pg) [.Assign [.Name x px] (zrk x y p1 p2 p3 p4 p5 p6 p7 p8 p9 k1 k2) p10] [] pf
variable {j:Nat} {g gx:Str} {t0:Tok} {py pg px p10 pf:Pos}
section
variable {D:zhr}
theorem yca (hp:PassesOwn @1 X.A X.env X.xe) (hc:X.calm=true) (nd:X.N.Nodup) (hi:X.N[i]?=some x) (hj:X.N[j]?=some y) (hij:i≠j) (lx:X.env.scope.names.lookup x=some .local) (ly:X.env.scope.names.lookup y=some .local)
  (hg:Gl X g) (hm:X.mg g=some (.str gx t0)) (as:gx.cps.all (· < 128)=true) (I:Inv X pins σ H s) (tk:1<=s.toks) (hz:σ[i]?=some (some (.str z))) (sz:zp4 z gx.cps.toList=true) (hj':j < σ.length) (ch0:Nat) (hne:gx.cps.toList.getLast?=some ch0)
  (q:D.nx ((σ.set i (some (.str (gx.cps.toList.foldl zcw z)))).set j (some (.str ⟨#[ch0]⟩))) H)
  (dx:NDb x:=by decide) (dy:(y==("__debug__" : Str))=false:=by decide) (dg:(g==("__debug__" : Str))=false:=by decide)
  (hbase:attributeBase (.Name x p1) "replace" X.env (eval (.Name x p1) X.env)=eval (.Name x p1) X.env:=by rfl)
  (hfew:((backTo p9 (starEach [.Name y p3,.JoinedStr [.Constant (.str " ") k1 p4,.FormattedValue (.Name y p5) (-1) none p6,.Constant (.str " ") k2 p7] p8] X.env)).all (fun x=>!x.1) && (backToKw p9 (keywordEach [] X.env)).all (fun x=>x.1.isSome)
   && decide (([.Name y p3,.JoinedStr [.Constant (.str " ") k1 p4,.FormattedValue (.Name y p5) (-1) none p6,.Constant (.str " ") k2 p7] p8] : LEx).length + ([] : List Keyword).length + (if ([] : List Keyword).isEmpty then 0 else 1) < 30))=true:=by rfl)
  (hline:(p2.endLine==p9.line)=true:=by rfl) (hsw:swapsWith (zrk x y p1 p2 p3 p4 p5 p6 p7 p8 p9 k1 k2) (some (.Name x px)) p10.line X.env=pure false:=by rfl) (hs:∀ v,foldedSetIterable (.Name g pg) X.env v=pure v:=by intro _; rfl) :
  wpAny @1 X.A (exec (z3f x y g py pg px p1 p2 p3 p4 p5 p6 p7 p8 p9 p10 pf k1 k2) X.env) (SP X pins D) X.xe s:=by
 refine wpAny_For (zkp I hg hm (wpAny_pyIter_ascii as ?_) dg) hs;generalize hL : gx.cps.toList=L at sz hne q;have hgx : ∀ k,gx.cps[k]?=L[k]?:=fun k=>by rw [<- hL,Array.getElem?_toList]
 generalize hit : s.heap.objs.size=it
 have I2 : Inv X pins σ H { s with heap:=s.heap.push { cls:=.type "str_ascii_iterator",data:=.fields #[.str gx t0,.int 0 0] } }:=I.kept (t':=s.toks) fun b o e=>Heap.get?_push_of_some _ e
 have fp : zec X pins H it:=by rw [<- hit]; exact I.fpOk (Nat.le_refl _) (I.hok.fresh (Nat.le_refl _))
 have st2 : (s.heap.push { cls:=.type "str_ascii_iterator",data:=.fields #[.str gx t0,.int 0 0] }).IsStrIter it "str_ascii_iterator" gx t0 0:=by rw [<- hit]; exact ⟨_,Heap.get?_push_size _ rfl,rfl,rfl⟩
 have szk : ∀ k,k < L.length->4 * ((L.take k).foldl zcw z).length + 3<=16777216:=fun k hk=>of_decide_eq_true (all_eq_true.mp sz k (mem_range.mpr hk))
 let At : Nat->St:=fun k=>match k with
  | 0=>σ
  | k + 1=>(σ.set i (some (.str ((L.take (k + 1)).foldl zcw z)))).set j (some (.str ⟨#[L.getD k 0]⟩))
 have hi' : i < σ.length:=(gq hz).1
 have hAt : ∀ k,k<=L.length->(At k)[i]?=some (some (.str ((L.take k).foldl zcw z))):=fun k hk=>by
  cases k with
  | zero=>exact hz
  | succ k=>show ((σ.set i _).set j _)[i]?=_; rw [List.getElem?_set_ne (Ne.symm hij),List.getElem?_set_self hi']
 have hNx : ∀ k ch,L[k]?=some ch->((At k).set j (some (.str ⟨#[ch]⟩))).set i (some (.str (zcw ((L.take k).foldl zcw z) ch)))=At (k + 1):=fun k ch e=>by
  have e1 : (L.take (k + 1)).foldl zcw z=zcw ((L.take k).foldl zcw z) ch:=by rw [take_add_one,e,foldl_append]; rfl
  have e2 : L.getD k 0=ch:=by rw [getD_eq_getElem?_getD,e]; rfl
  show _=(σ.set i (some (.str ((L.take (k + 1)).foldl zcw z)))).set j (some (.str ⟨#[L.getD k 0]⟩));rw [e1,e2]
  cases k with
  | zero=>exact (set_comm _ _ hij).symm
  | succ k =>
   show ((((σ.set i _).set j _).set j _).set i _)=_;rw [set_set,set_comm _ _ (Ne.symm hij),set_set]
 refine codeAny_forLoop_any (fun n s'=>∃ k,k<=L.length/\n=L.length - k/\Inv X pins (At k) H s'/\s'.heap.IsStrIter it "str_ascii_iterator" gx t0 k/\1<=s'.toks) ?_ L.length ⟨0,Nat.zero_le _,rfl,I2,st2,tk⟩;rintro n s3 ⟨k,hk,rfl,I3,st3,tk3⟩;obtain ⟨f0,f1,f2,f3,f4,f5⟩:=fp
 cases e : L[k]? with
 | none =>
  have hkl : k=L.length:=Nat.le_antisymm hk (List.getElem?_eq_none_iff.mp e);refine wpAny_pyNext_ascii_end (I.ok.hd hc) st3 ((hgx k).trans e) fun h' eb=>?_;refine wpAny_execs_nil ⟨_,H,I3.turned (t':=s3.toks) (fun b o hb e=>eb b o hb e) f0 f1 f3 f4 f5,?_⟩;subst hkl
  cases L with
  | nil=>cases hne
  | cons a L =>
   show D.nx ((σ.set i (some (.str (((a::L).take (L.length + 1)).foldl zcw z)))).set j (some (.str ⟨#[(a::L).getD L.length 0]⟩))) H
   have e1 : (a::L).getD L.length 0=ch0:=by
    rw [List.getLast?_eq_getElem?] at hne;exact (getD_eq_getElem?_getD).trans (congrArg (fun o=>Option.getD o 0) hne)
   rw [take_of_length_le (by simp),e1]
   exact q
 | some ch =>
  refine wpAny_pyNext_ascii_item st3 ((hgx k).trans e) fun h' st' sb=>?_
  have I4 : Inv X pins (At k) H { s3 with heap:=h',toks:=s3.toks + 1 }:=I3.turned (fun b o hb e=>(sb.2 b hb).trans e) f0 f1 f3 f4 f5
  obtain ⟨o,eo,oc,od⟩:=id st'
  refine zo3 (s:={ s3 with heap:=h',toks:=s3.toks + 1 }) eo oc od (by decide) ?_
  have I5:=I4.pinned (fp:=[it]) (fun b hb=>by cases mem_singleton.mp hb; exact ⟨f0,f1,f2,f3,f4,f5⟩) (fun b hb=>by cases mem_singleton.mp hb; exact ⟨o,eo,fun v z=>by rw [od] at z; cases z⟩);refine wpAny_passesOwn hp (wpAny_assign_Name (z0w I5 nd hj ly (v:=.str ⟨#[ch]⟩) ⟨_,rfl⟩ fun s6 I6 t6 q_=>?_));obtain ⟨m,mn,my⟩:=q_;refine wpAny_passesOwn hp (wpAny_execs_cons (wpAny_Assign_Name (yb3 I6 hi lx ly (z:=(L.take k).foldl zcw z) ?_ mn my (Nat.ne_of_gt tk3) (by rw [t6]; exact Nat.lt_succ_of_lt (Nat.lt_succ_self _)) (szk k (gq e).1) (fun t' tk' ht=>?_) dx dy hbase hfew hline) hsw))
  ·rw [List.getElem?_set_ne (Ne.symm hij)]; exact hAt k hk
  ·refine z0w (I6.tok tk') nd hi lx (v:=.str (zcw ((L.take k).foldl zcw z) ch)) ⟨_,rfl⟩ fun s7 I7 t7 _=>?_;refine wpAny_execs_nil ?_;refine ⟨L.length - (k + 1),by have:=(gq e).1; omega,k + 1,(gq e).1,rfl,?_,?_,?_⟩
   ·rw [<- hNx k ch e]; exact I7.unpinned
   ·exact ⟨o,(I7.pin (it,o) (mem_append_right _ (mem_append_right _ (zpk (mem_singleton.mpr rfl) eo)))).1,oc,od⟩
   ·rw [t7]; exact Nat.le_add_left _ _
end
noncomputable def zpd (i j:Nat) (gx:Str) (f:MF1) (ρ:LS) : Option Fl:=(f ρ).bind fun d=>match d,gx.cps.toList.getLast? with
 | .str z,some ch=>if zp4 z gx.cps.toList=true then some (.nx ((ρ.set i (.im (.str (gx.cps.toList.foldl zcw z)))).set j (.im (.str ⟨#[ch]⟩)))) else none
 | _,_=>none
variable {p0 pq:Pos} {f:MF1}
section
variable {za9:List Stmt}
theorem ybr (i j:Nat) (hp:PassesOwn @1 X.A X.env X.xe) (hc:X.calm=true) (nd:X.N.Nodup) (hg:Gl X g) (hm:∃ t0,X.mg g=some (.str gx t0)) (he:DE c X e f) (hr:DSs c X za9 F) (hi:X.N[i]?=some x:=by rfl) (hj:X.N[j]?=some y:=by rfl) (hij:i≠j:=by decide) (lx:X.env.scope.names.lookup x=some .local:=by rfl) (ly:X.env.scope.names.lookup y=some .local:=by rfl)
  (as:gx.cps.all (· < 128)=true:=by decide +kernel)
  (dx:NDb x:=by decide) (dy:(y==("__debug__" : Str))=false:=by decide) (dg:(g==("__debug__" : Str))=false:=by decide) (hw:swapsWith e (some (.Name x pq)) p0.line X.env=pure false:=by rfl)
  (hbase:attributeBase (.Name x p1) "replace" X.env (eval (.Name x p1) X.env)=eval (.Name x p1) X.env:=by rfl)
  (hfew:((backTo p9 (starEach [.Name y p3,.JoinedStr [.Constant (.str " ") k1 p4,.FormattedValue (.Name y p5) (-1) none p6,.Constant (.str " ") k2 p7] p8] X.env)).all (fun x=>!x.1) && (backToKw p9 (keywordEach [] X.env)).all (fun x=>x.1.isSome)
   && decide (([.Name y p3,.JoinedStr [.Constant (.str " ") k1 p4,.FormattedValue (.Name y p5) (-1) none p6,.Constant (.str " ") k2 p7] p8] : LEx).length + ([] : List Keyword).length + (if ([] : List Keyword).isEmpty then 0 else 1) < 30))=true:=by rfl)
  (hline:(p2.endLine==p9.line)=true:=by rfl) (hsw:swapsWith (zrk x y p1 p2 p3 p4 p5 p6 p7 p8 p9 k1 k2) (some (.Name x px)) p10.line X.env=pure false:=by rfl) (hs:∀ v,foldedSetIterable (.Name g pg) X.env v=pure v:=by intro _; rfl) :
  DSs c X (.Assign [.Name x pq] e p0::z3f x y g py pg px p1 p2 p3 p4 p5 p6 p7 p8 p9 p10 pf k1 k2::za9) (zah (zpd i j gx f) F):=by
 intro pins s σ H E I q_;obtain ⟨t0,hm⟩:=hm;obtain ⟨Hf0,H0,Hf,ρ,o,so,ef,k⟩:=q_;unfold zah zpd at ef
 cases e1 : f ρ with
 | none=>rw [e1] at ef; cases ef
 | some d =>
  rw [e1,bind_some] at ef
  cases d <;> first | (cases ef; done) | skip
  rename_i z
  cases e2 : gx.cps.toList.getLast? with
  | none=>rw [e2] at ef; cases ef
  | some ch =>
   rw [e2] at ef;dsimp only at ef;split at ef
   ·rename_i sz;refine wpAny_execs_cons (wpAny_Assign_Name (thn (he pins s σ H _ I ⟨Hf0,H0,Hf,ρ,_,so,e1,fun v Hf' H' x r=>(⟨Hf',r,x.f,so.step x⟩ : ∃ Hf',Rep (Gx c X) Hf' (.str z) v/\zav Hf Hf'/\zao (Gx c X) Hf0 H0 Hf' H' σ ρ)⟩) fun u s1 ⟨v,H1,I1,r1,Hf1,rz,sm,so1⟩=>?_) hw);cases (show v=V.str z from rz);refine z0w I1 nd hi lx r1 fun s2 I2 t2 _=>?_;have hlen : i < σ.length:=by rw [I.len]; exact (gq hi).1
    have hlj : j < (σ.set i (some (V.str z))).length:=by rw [length_set,I.len]; exact (gq hj).1
    refine wpAny_execs_cons (thn (yca (D:={ nx:=fun σ' H'=>tDS (Gx c X) F E σ' H',rt:=fun _ _=>False,bk:=fun _ _=>False,ct:=fun _ _=>False }) hp hc nd hi hj hij lx ly hg hm as I2 (by rw [t2]; exact Nat.le_add_left _ _) (List.getElem?_set_self hlen) sz hlj ch e2 ?_ dx dy dg hbase hfew hline hsw hs) fun fl s3 h3=>?_)
    ·refine ⟨Hf0,H0,Hf1,_,o,?_,ef,k.up sm⟩;rw [set_set];exact (so1.setIm (d:=.str (gx.cps.toList.foldl zcw z)) rfl).setIm (d:=.str ⟨#[ch]⟩) rfl
    ·cases fl with
     | next=>obtain ⟨σ3,H3,I3,q3⟩:=h3; exact hr pins s3 σ3 H3 E I3 q3
     | ret v=>obtain ⟨_,_,_,_,_,z⟩:=h3; exact z.elim
     | brk=>obtain ⟨_,_,_,z⟩:=h3; exact z.elim
     | cont=>obtain ⟨_,_,_,z⟩:=h3; exact z.elim
   ·cases ef
end
noncomputable def zt7 (x y:Str) : LSt:=PySem.Builtin.Str.partsBetween x (PySem.Builtin.Str.occurrences x y 0 x.length (x.length + 1)) y.length
noncomputable def zg5 (x y:D) : OD:=match x,y with
 | .str a,.str b=>if b.length≠0/\a.length<=16777216/\(zt7 a b).length<=16777216 then some (.lst ((Txt.split a b).map .str)) else none
 | _,_=>none
def z6t : V->List V->Hp->VK->Prop:=fun x vs H Q=>∃ a b,x=.str a/\vs=[.str b]/\b.length≠0/\a.length<=sizeLine/\(zt7 a b).length<=sizeLine/\∀ p,H p=none->Q (.ref p) (upd H p (.lst ((Txt.split a b).map V.str)))
theorem z8p : ∀ (l:List (Str×Tok)),zay ((l.map (·.1)).map V.str) (strValues l)
 | []=>.nil
 | (x,t)::l=>.cons ⟨t,rfl⟩ (z8p l)
theorem z0y {G:Gc} {H:Hp} : ∀ (l:LSt),zan G H (l.map D.str) (l.map V.str)
 | []=>rfl
 | _::l=>.cons rfl (z0y l)
open PySem.Builtin PySem.Builtin.Str in
theorem ztk : MtR X "str.split" z6t:=by
 rintro pins s σ H x xs v us Q I rx rv ⟨a,b,rfl,rfl,hb,ha,hp,q⟩;obtain ⟨t,rfl⟩:=rx;obtain ⟨u,rfl,t',rfl⟩:=rv.one;have hb' : (b.length==0)=false:=by simpa using hb
 have fin : ∀ (l:List (Str×Tok)) (tk:Nat),l.map (·.1)=Txt.split a b->(strValues l).length<=sizeLine->EP X pins σ Q (.ref s.heap.objs.size) { s with heap:=s.heap.push { cls:=.type "list",data:=.seq (strValues l).toArray },toks:=tk }:=fun l tk e hl=>by
  refine ⟨.ref _,_,I.lnew (t':=tk) (z8p l) ?_,rfl,?_⟩
  ·rw [length_map,length_map]
   simpa [strValues] using hl
  ·rw [e]; exact q _ I.fresh
 cases h1 : (decide (a.length < b.length) || decide (strKind a < strKind b))
 ·cases hf : (occurrences a b 0 a.length (a.length + 1)).isEmpty
  ·refine call_meets F.slot_str_split (typeIs_str _ _ _) F.entry_str_split (F.args_str_split_2 _ _) (meets_str_split_sep a b t t' h1 hb' hf ha hp) ?_;rw [strsFrom_eq];refine fin (numbered s.toks _) _ ((numbered_texts _ _).trans ((if_neg (ne_true_of_eq_false h1)).trans (if_neg (ne_true_of_eq_false hf))).symm) ?_;have:=congrArg List.length (numbered_texts s.toks (partsBetween a (occurrences a b 0 a.length (a.length + 1)) b.length));rw [length_map] at this;unfold strValues;rw [length_map,this];exact hp
  ·exact call_meets F.slot_str_split (typeIs_str _ _ _) F.entry_str_split (F.args_str_split_2 _ _) (meets_str_split_not_found a b t t' h1 hb' hf)
    (fin [(a,t)] s.toks ((if_neg (ne_true_of_eq_false h1)).trans (if_pos hf)).symm (by show 1<=sizeLine; decide))
 ·exact call_meets F.slot_str_split (typeIs_str _ _ _) F.entry_str_split (F.args_str_split_2 _ _) (meets_str_split_cannot_occur a b t t' h1)
   (fin [(a,t)] s.toks (if_pos h1).symm (by show 1<=sizeLine; decide))
theorem zrv {g:MF1} (h:PE X e (tBM X.K "str" z6t (tD (Gx c X) f) (zli (tD (Gx c X) g) ziv))) : DE c X e (m2 zg5 f g):=PE.imp h fun σ H Q q_=>by
 obtain ⟨Hf0,H0,Hf,ρ,d,st,ef,k⟩:=q_;obtain ⟨x,y,e1,e2,e3⟩:=zmg ef;unfold zg5 at e3;split at e3
 ·rename_i a b;split at e3
  ·rename_i hc;cases e3;refine ⟨Hf0,H0,Hf,ρ,_,st,e1,fun v Hf1 H1 x1 r1=>?_⟩;cases (show v=V.str a from r1);exact ⟨rfl,Hf0,H0,Hf1,ρ,_,st.step x1,e2,fun u Hf2 H2 x2 r2=>⟨a,b,rfl,by rw [show u=V.str b from r2],hc.1,by rw [sizeLine_eq]; exact hc.2.1,by rw [sizeLine_eq]; exact hc.2.2,fun p hp=>k _ (upd Hf2 p (.lst _)) _ ((x1.trans x2).trans (Ext.new x2.s hp)) ⟨p,_,rfl,zb8,z0y _⟩⟩⟩
  ·cases e3
 ·cases e3
noncomputable def zi7 (x y:D) : OD:=match x,y with
 | .str a,.int n=>if a.length=1/\0<=n/\n<=1000 then some (.str ⟨(List.replicate n.toNat (a.cps.getD 0 0)).toArray⟩) else none
 | _,_=>none
theorem z63 (z:Str) (n:Nat) (h:z.length=1) : (List.replicate n z.cps).foldl (·++·) #[]=(List.replicate n (z.cps.getD 0 0)).toArray:=by
 have hz : z.cps=#[z.cps.getD 0 0]:=by
  obtain ⟨⟨l⟩⟩:=z
  match l,h with
  | [c],_=>rfl
 induction n with
 | zero=>rfl
 | succ n ih =>
  rw [replicate_succ',foldl_append,ih,replicate_succ'];show _++z.cps=_;generalize z.cps.getD 0 0=ch at hz;rw [hz];apply Array.toList_inj.mp;simp
theorem ztx : OpD c X (binaryOp .Mult) zi7:=by
 rintro pins s σ H vx vy v u Q I rx ry ⟨Hf,x,y,d,s0,r1,r2,e,k⟩;unfold zi7 at e;split at e
 ·rename_i a n;split at e
  ·rename_i hc;cases e;cases (show vx=V.str a from r1);cases (show vy=V.int n from r2);obtain ⟨t,rfl⟩:=rx;obtain ⟨t',rfl⟩:=ry
   have fin : ∀ (tk:Nat) (t2:Tok),EP X pins σ Q (.str ⟨(List.replicate n.toNat (a.cps.getD 0 0)).toArray⟩ t2) { s with toks:=tk }:=fun tk t2=>⟨.str _,H,I.tok tk,⟨t2,rfl⟩,k _ Hf H (Ext.refl s0) rfl⟩
   refine P.mul_str ?_ ?_ ?_ ?_
   ·rw [decide_eq_false (by omega),decide_eq_false (by omega)]; rfl
   ·intro h1 _;rw [hc.1];have : (2 ^ 63 - 1 : Int) / n ≥ 1:=Int.le_ediv_of_mul_le (by omega) (by omega);omega
   ·intro _ _;rw [hc.1];unfold PySem.Builtin.Str.tooLong sizeLine;exact decide_eq_false (show ¬ _ by omega)
   ·by_cases h1 : n < 1
    ·rw [if_pos h1];have e0 : n.toNat=0:=by omega
     refine ⟨by decide,?_⟩;rw [e0] at fin;exact fin _ _
    ·rw [if_neg h1]
     by_cases h2 : n=1
     ·rw [if_pos (by simp [h2])]
      have e1 : (⟨(List.replicate n.toNat (a.cps.getD 0 0)).toArray⟩ : Str)=a:=by
       have:=z63 a n.toNat hc.1;rw [<- this,h2];show (⟨#[]++a.cps⟩ : Str)=a;rw [Array.empty_append]
      rw [e1] at fin;exact fin s.toks t
     ·rw [if_neg (by simp [h2,hc.1]),z63 a _ hc.1];refine ⟨?_,fin _ _⟩;show (List.replicate n.toNat _).toArray.size<=_;rw [size_toArray,length_replicate,sizeLine_eq];omega
  ·cases e
 ·cases e
theorem zrt (hg:Gl X x) (hm:∃ t,X.mg x=some (.str g t)) (hd:NDb x:=by decide) : DE c X (.Name x pos) (fun _=>some (.str g)):=by
 obtain ⟨t,hm⟩:=hm
 exact PE.imp (zm3 hg hm (v:=.str g) ⟨t,rfl⟩ hd) fun σ H Q q_=>by
  obtain ⟨Hf0,H0,Hf,ρ,d,st,ef,k⟩:=q_;cases ef;exact k _ Hf H (Ext.refl st.sub) rfl
noncomputable def Its (x:Str) : It:=⟨fun i _=>i < x.length,fun i H v H'=>H'=H/\∃ ch,x.cps[i]?=some ch/\v=.str ⟨#[ch]⟩,fun i _=>x.length<=i⟩
variable {K:W.Frag}
theorem yli (it:Addr) (x:Str) (t:Tok) : zh7 P w K tg (Its x) [it] it (fun i h=>h.IsStrIter it "str_ascii_iterator" x t i) where
 mem:=mem_singleton.mpr rfl
 obj:=fun i h ⟨o,e,oc,od⟩ b hb=>by
  cases mem_singleton.mp hb;exact ⟨o,e,fun v z=>by rw [od] at z; cases z⟩
 keep:=fun i h h' ⟨o,e,r⟩ k=>⟨o,k it (mem_singleton.mpr rfl) o e,r⟩
 item:=by
  intro X eP ew eK cm i pins s σ H E I hf st hg;subst eP ew eK;obtain ⟨f0,f1,f2,f3,f4,f5⟩:=hf it (mem_singleton.mpr rfl);have hx : x.cps[i]?=some x.cps[i]:=Array.getElem?_eq_getElem hg;refine wpAny_pyNext_ascii_item st hx fun h' st' sb=>?_
  have I1 : Inv X pins σ H { s with heap:=h',toks:=s.toks + 1 }:=I.turned (fun b o hb e=>(sb.2 b hb).trans e) f0 f1 f3 f4 f5
  obtain ⟨o,e,oc,od⟩:=id st'
  exact ⟨_,rfl,zo3 (s:={ s with heap:=h',toks:=s.toks + 1 }) e oc od (by decide) ⟨.str ⟨#[x.cps[i]]⟩,H,I1,⟨_,rfl⟩,⟨rfl,_,hx,rfl⟩,st',fun b hb=>(hf b hb).1⟩⟩
 done:=by
  intro X eP ew eK cm i pins s σ H E I hf st hg;subst eP ew eK;obtain ⟨f0,f1,f2,f3,f4,f5⟩:=hf it (mem_singleton.mpr rfl);exact wpAny_pyNext_ascii_end (I.ok.hd cm) st (Array.getElem?_eq_none hg) fun h' eb=>⟨rfl,I.turned (t':=s.toks) (fun b o hb e=>eb b o hb e) f0 f1 f3 f4 f5⟩
 self:=fun _ _ _ _ _ st h=>wpAny_pyIter_striter_ascii st h
noncomputable def zmo (f:MF1) (ρ:LS) : OLD:=(f ρ).bind fun d=>match d with
 | .str x=>if x.cps.all (· < 128)=true then some (x.cps.toList.map fun ch=>.str ⟨#[ch]⟩) else none
 | _=>none
theorem ydp : zj4 G Hf (Its x) (x.cps.toList.map fun ch=>D.str ⟨#[ch]⟩):=fun Hf' H' f s i=>by
 refine ⟨fun d ed=>?_,fun ei=>?_⟩
 ·rw [List.getElem?_map] at ed
  cases e : x.cps.toList[i]? with
  | none=>rw [e] at ed; cases ed
  | some ch =>
   rw [e] at ed;cases ed;have hi : i < x.cps.size:=by simpa using (gq e).1
   refine ⟨hi,fun v H2 ⟨e2,c2,h2,hv⟩=>?_⟩;subst e2 hv;rw [<- Array.getElem?_toList,e] at h2;cases h2;exact ⟨Hf',Ext.refl s,rfl⟩
 ·rw [length_map,Array.length_toList] at ei;exact Nat.le_of_eq ei.symm
theorem yhe {l:Expr} {tl:TE} (hl:PE X l tl) : PI X tg l (fun σ H R=>tl σ H fun x H1=>∃ z,x=.str z/\z.cps.all (· < 128)=true/\R (Its z) H1):=by
 intro pins s σ H R I h;refine thn (hl pins s σ H _ I h) fun v s1 q_=>?_;obtain ⟨x,H1,I1,r1,z,ez,as,q⟩:=q_;subst ez;obtain ⟨t,rfl⟩:=r1;refine wpAny_pyIter_ascii as ?_;refine ⟨s1.heap.objs.size,[s1.heap.objs.size],_,_,H1,rfl,I1.kept (t':=s1.toks) fun b o e=>Heap.get?_push_of_some _ e,yli _ z t,⟨_,Heap.get?_push_size _ rfl,rfl,rfl⟩,fun b hb=>?_,q⟩;cases mem_singleton.mp hb;exact I1.fpOk Nat.le.refl (I1.hok.fresh Nat.le.refl)
theorem ybd (h:DE c X e f) : DI c X tg e (zmo f):=PI.imp (yhe h) fun σ H R q_=>by
 obtain ⟨Hf0,H0,Hf,ρ,ds,st,ef,k⟩:=q_;unfold zmo at ef
 cases e1 : f ρ with
 | none=>rw [e1] at ef; cases ef
 | some d =>
  rw [e1,bind_some] at ef
  cases d <;> first | (cases ef; done) | skip
  rename_i x;replace ef : (if x.cps.all (· < 128)=true then some (x.cps.toList.map fun ch=>D.str ⟨#[ch]⟩) else none)=some ds:=ef;split at ef
  ·rename_i as;cases ef;exact ⟨Hf0,H0,Hf,ρ,_,st,e1,fun v Hf1 H1 x1 r1=>⟨x,r1,as,k _ Hf1 H1 x1 ydp⟩⟩
  ·cases ef
noncomputable def inS (y x:Str) : Bool:=!(PySem.Builtin.Str.occurrences x y 0 x.length 1).isEmpty
noncomputable def zlw (y x:D) : OD:=match y,x with
 | .str y,.str x=>some (.bl (inS y x))
 | _,_=>none
theorem yjw : ∀ x y d,zlw x y=some d->d.scalar=true:=fun x y d e=>by
 unfold zlw at e;split at e
 ·cases e; rfl
 ·cases e
theorem yfe : OpD c X (compareOp .In) zlw:=by
 rintro pins s σ H vx vy v u Q I rx ry ⟨Hf,x,y,d,s0,r1,r2,e,k⟩;unfold zlw at e;split at e
 ·rename_i y x;cases e;cases (show vx=V.str y from r1);cases (show vy=V.str x from r2);obtain ⟨t,rfl⟩:=rx;obtain ⟨t',rfl⟩:=ry;exact PyProof.Rows.in_str ⟨.bl _,H,I,rfl,k _ Hf H (Ext.refl s0) rfl⟩
 ·cases e
def yig : V->Option Int->Option Int->Hp->VK->Prop:=fun x lo hi H Q=>∃ z,x=.str z/\z.length<=sizeLine/\Q (.str (Txt.slice z lo hi)) H
theorem z8d : SlR X yig:=by
 rintro pins s σ H x v vl vu lo hi sl Q I rx hs pl pu ⟨z,rfl,hz,q⟩;obtain ⟨t,rfl⟩:=rx;refine ⟨"str",_,F.slot_str_getitem.lookup,typeIs_str _ _ _,?_⟩
 have fin : ∀ (t':Tok) (k:Nat),EP X pins σ Q (.str (Txt.slice z lo hi) t') { s with toks:=k }:=fun t' k=>⟨.str _,H,I.tok k,⟨t',rfl⟩,q⟩
 obtain ⟨o,ho,hc,hd⟩:=hs
 cases pl with
 | none =>
  cases pu with
  | none=>exact wpAny_getItem_str_slice (l:=none) (u:=none) (st:=none) ⟨o,ho,hc,hd⟩ rfl (post_val_or_str ⟨Nat.le_trans (Txt.slice_le z _ _) hz,fin⟩)
  | int i ti=>exact wpAny_getItem_str_slice (l:=none) (u:=some (i,ti)) (st:=none) ⟨o,ho,hc,hd⟩ rfl (post_val_or_str ⟨Nat.le_trans (Txt.slice_le z _ _) hz,fin⟩)
 | int j tj =>
  cases pu with
  | none=>exact wpAny_getItem_str_slice (l:=some (j,tj)) (u:=none) (st:=none) ⟨o,ho,hc,hd⟩ rfl (post_val_or_str ⟨Nat.le_trans (Txt.slice_le z _ _) hz,fin⟩)
  | int i ti=>exact wpAny_getItem_str_slice (l:=some (j,tj)) (u:=some (i,ti)) (st:=none) ⟨o,ho,hc,hd⟩ rfl (post_val_or_str ⟨Nat.le_trans (Txt.slice_le z _ _) hz,fin⟩)
noncomputable def zja (d:D) (lo hi:Option Int) : OD:=match d with
 | .str z=>if z.length<=16777216 then some (.str (Txt.slice z lo hi)) else none
 | _=>none
theorem z2b {r:D} (h:zja d lo hi=some r) : ∃ z,d=.str z/\z.length<=sizeLine/\r=.str (Txt.slice z lo hi):=by
 unfold zja at h;split at h
 ·split at h
  ·rename_i hz; cases h; exact ⟨_,rfl,by rw [sizeLine_eq]; exact hz,rfl⟩
  ·cases h
 ·cases h
noncomputable def zku (f:MF1) (l h:LS->Option (Option Int)) (ρ:LS) : OD:=(f ρ).bind fun d=>(l ρ).bind fun lo=>(h ρ).bind fun hi=>zja d lo hi
theorem zv7 {l h:LS->Option (Option Int)} {lo hi:Option Expr} (ha:DE c X e f) (hl:DPt c X lo l) (hh:DPt c X hi h) : DE c X (.Subscript e (.Slice lo hi none p2) pos) (zku f l h) :=
 PE.imp (zyh z8d ha hl hh) fun σ H Q q_=>by
  obtain ⟨Hf0,H0,Hf,ρ,r,st,ef,k⟩:=q_;unfold zku at ef
  cases e1 : f ρ with
  | none=>rw [e1] at ef; cases ef
  | some d =>
   rw [e1,bind_some] at ef
   cases e2 : l ρ with
   | none=>rw [e2] at ef; cases ef
   | some lo' =>
    rw [e2,bind_some] at ef
    cases e3 : h ρ with
    | none=>rw [e3] at ef; cases ef
    | some hi' =>
     rw [e3,bind_some] at ef;obtain ⟨z,rfl,hz,rfl⟩:=z2b ef;exact ⟨Hf0,H0,Hf,ρ,_,st,e1,fun v Hf1 H1 x1 r1=>⟨Hf0,H0,Hf1,ρ,lo',st.step x1,e2,fun Hf2 H2 x2=>⟨Hf0,H0,Hf2,ρ,hi',(st.step x1).step x2,e3,fun Hf3 H3 x3=>⟨z,r1,hz,k _ Hf3 H3 ((x1.trans x2).trans x3) rfl⟩⟩⟩⟩
def z6u : V->List V->Hp->VK->Prop:=fun x vs H Q=>∃ a b,x=.str a/\vs=[.str b]/\Q (.bl (Txt.startswith a b)) H
theorem z4t : MtR X "str.startswith" z6u:=by
 rintro pins s σ H x xs v us Q I rx rv ⟨a,b,rfl,rfl,q⟩;obtain ⟨t,rfl⟩:=rx;obtain ⟨u,rfl,t',rfl⟩:=rv.one;exact SC.startswith ⟨.bl _,H,I,rfl,q⟩
noncomputable def zlz (x y:D) : OD:=match x,y with
 | .str a,.str b=>some (.bl (Txt.startswith a b))
 | _,_=>none
theorem z2i {g:MF1} (h:PE X e (tBM X.K "str" z6u (tD (Gx c X) f) (zli (tD (Gx c X) g) ziv))) : DE c X e (m2 zlz f g):=PE.imp h fun σ H Q q_=>by
 obtain ⟨Hf0,H0,Hf,ρ,d,st,ef,k⟩:=q_;obtain ⟨x,y,e1,e2,e3⟩:=zmg ef;unfold zlz at e3;split at e3
 ·rename_i a b;cases e3;refine ⟨Hf0,H0,Hf,ρ,_,st,e1,fun v Hf1 H1 x1 r1=>?_⟩;cases (show v=V.str a from r1);exact ⟨rfl,Hf0,H0,Hf1,ρ,_,st.step x1,e2,fun u Hf2 H2 x2 r2=>⟨a,b,rfl,by rw [show u=V.str b from r2],k _ Hf2 H2 (x1.trans x2) rfl⟩⟩
 ·cases e3
theorem yad : zgg X (.type "int") (fun xs H Q=>∃ z n,xs=[.str z]/\PySem.intText? z=some n/\z.length<=640/\Q (.int n) H):=by
 rintro pins s σ H xs us Q I r ⟨z,n,rfl,hn,hl,q⟩;obtain ⟨_,rfl,t,rfl⟩:=zns r;exact W.KIN.call_text hn hl ⟨.int n,H,I.tok _,⟨_,rfl⟩,q⟩
theorem z96 : bootBuiltins "int"=some (.type "int"):=by decide +kernel
theorem z97 : bootBuiltins "str"=some (.type "str"):=by decide +kernel
noncomputable def zot (x:D) : OD:=match x with
 | .str z=>if z.length<=640 then (PySem.intText? z).map .int else none
 | _=>none
noncomputable def zg6 (x:D) : OD:=match x with
 | .int i=>if i.natAbs.log2 < 1920 then some (.str (toString i)) else none
 | _=>none
def z1e (K:W.Frag) (mg:MGT) (x:Str) (ts:LSt) : Prop:=∃ a o its n,mg x=some (.ref a)/\K.lookup a=some o/\o.cls=.type "tuple" /\ o.data=.seq its n/\its.size<=sizeLine/\zay (ts.map V.str) its.toList
theorem ya9 (hg:Gl X "int") (hm:X.mg "int"=none) (ha:DE c X e f) (hs:starEach [e] X.env=(false,eval e X.env)::starEach [] X.env:=by rfl) : DE c X (.Call (.Name "int" p) [e] [] pos) (m1 zot f):=PE.imp (z55 yad hg hm z96 (zbv ha zcd hs) (by decide) (by decide) hs rfl) fun σ H Q q_=>by
 obtain ⟨Hf0,H0,Hf,ρ,d,st,ef,k⟩:=q_;unfold m1 at ef
 cases e1 : f ρ with
 | none=>rw [e1] at ef; cases ef
 | some x =>
  rw [e1,bind_some] at ef;unfold zot at ef;split at ef
  ·rename_i z;split at ef
   ·rename_i hz
    cases e2 : PySem.intText? z with
    | none=>rw [e2] at ef; cases ef
    | some n =>
     rw [e2] at ef;cases ef;refine ⟨Hf0,H0,Hf,ρ,_,st,e1,fun v Hf1 H1 x1 r1=>?_⟩;cases (show v=V.str z from r1);exact ⟨z,n,rfl,e2,hz,k _ Hf1 H1 x1 rfl⟩
   ·cases ef
  ·cases ef
theorem zrw (hg:Gl X "str") (hm:X.mg "str"=none) (ha:DE c X e f) (hs:starEach [e] X.env=(false,eval e X.env)::starEach [] X.env:=by rfl) : DE c X (.Call (.Name "str" p) [e] [] pos) (m1 zg6 f):=PE.imp (z55 yak hg hm z97 (zbv ha zcd hs) (by decide) (by decide) hs rfl) fun σ H Q q_=>by
 obtain ⟨Hf0,H0,Hf,ρ,d,st,ef,k⟩:=q_;unfold m1 at ef
 cases e1 : f ρ with
 | none=>rw [e1] at ef; cases ef
 | some x =>
  rw [e1,bind_some] at ef;unfold zg6 at ef;split at ef
  ·rename_i i;split at ef
   ·rename_i hz;cases ef;refine ⟨Hf0,H0,Hf,ρ,_,st,e1,fun v Hf1 H1 x1 r1=>?_⟩;cases (show v=V.int i from r1);exact ⟨i,rfl,hz,k _ Hf1 H1 x1 rfl⟩
   ·cases ef
  ·cases ef
variable {f:Addr}
theorem zv4 {m:LD->OD} (pk:Pk X.prog X.w X.K X.mg X.base CX0 k x (f,fd) [] (spD (Gx c X) ([] : LSt).length m)) (hr0:zbl k0 X.A) (hdb:NDb x:=by decide) (hk0:k<=k0:=by decide) (hg:Gl X x:=by first | rfl | exact glc rfl) :
  DE c X (.Call (.Name x p) [] [] pos) (zax m nZ):=PE.imp (ygs pk.ok (hr0.mono hk0) hg pk.g pk.kp pk.b .nil zfu hdb) fun σ H Q q_=>by
 obtain ⟨Hf0,H0,Hf,ρ,d,st,ef,kq⟩:=q_;obtain ⟨ds,e1,e2⟩:=zxg ef;cases e1;exact ⟨Hf,[],d,st.sub,rfl,rfl,e2,fun v Hf2 H2 x2 r2=>kq v Hf2 H2 x2 r2⟩
theorem ya8 {ts:LSt} (hg:Gl X x) (hm:z1e X.K X.mg x ts) (hd:NDb x:=by decide) : DE c X (.Name x pos) (fun _=>some (.kt (ts.map D.str))):=by
 obtain ⟨a,o,its,n,hm,lk,oc,od,hz,vs⟩:=hm
 exact PE.imp (zm3 hg hm (v:=.ref a) rfl hd) fun σ H Q q_=>by
  obtain ⟨Hf0,H0,Hf,ρ,d,st,ef,k⟩:=q_;cases ef;exact k _ Hf H (Ext.refl st.sub) ⟨a,ts.map V.str,rfl,.inr ⟨o,its,n,lk,oc,od,hz,vs⟩,z0y ts⟩
def zlh (G:Gc) (cn:Str) (ns:LSt) (n:Nat) (m:Addr->LD->LD->Option (LD×D)) : Sp:=fun vs H Q _=>∃ Hf ds xs ys d l dx us vs1,vs=.ref l::vs1/\zav Hf H/\Hf l=none/\H l=some (.ins (G.cl cn) dx (ns.zip us))/\ns.length=us.length/\zan G Hf ds vs1/\zan G Hf xs us/\1 + ds.length=n/\m l ds xs=some (ys,d) /\
 ∀ v Hf' H' dx' us',Ext Hf (zcz H l) Hf' H'->Hf' l=none->H' l=some (.ins (G.cl cn) dx' (ns.zip us'))->ns.length=us'.length->zan G Hf' ys us'->Rep G Hf' d v->Q v H'
noncomputable def zff (N:Nat) (l:Addr) (cn:Str) (ns:LSt) (ds xs:LD) : LS:=(zef N (.non::ds)).set 0 (.pino l cn ns xs)
open Classical in
noncomputable def zgs (l:Addr) (cn:Str) (ns:LSt) (ρ:LS) : OLD:=match (ρ[0]? : Option Sl) with
 | some (Sl.pino l' c' n' ys)=>if l'=l/\c'=cn/\n'=ns then some ys else none
 | _=>none
variable {ns:LSt}
theorem z6f (h:zgs l cn ns ρ=some ys) : ρ[0]?=some (.pino l cn ns ys):=by
 unfold zgs at h;split at h
 ·rename_i e;split at h
  ·rename_i q;obtain ⟨rfl,rfl,rfl⟩:=q;cases h;exact e
  ·cases h
 ·cases h
theorem z6e (h:ρ[0]?=some (.pino l cn ns ys)) : zgs l cn ns ρ=some ys:=by
 unfold zgs;rw [h];exact if_pos ⟨rfl,rfl,rfl⟩
noncomputable def zcp (N:Nat) (cn:Str) (ns:LSt) (F:MF3) (l:Addr) (ds xs:LD) : Option (LD×D):=(F (zff N l cn ns ds xs)).bind fun o=>match o with
 | .nx ρ=>(zgs l cn ns ρ).map fun ys=>(ys,.non)
 | .rtS d ρ=>(zgs l cn ns ρ).map fun ys=>(ys,d)
 | _=>none
theorem zao.startMI {dx:Addr} (s0:zav Hf H) (hf:Hf l=none) (hl:H l=some (.ins (G.cl cn) dx (ns.zip us))) (hz:ns.length=us.length) (r:zan G Hf ds vs1) (rx:zan G Hf xs us) :
  zao G Hf (zcz H l) Hf H (L2.start N (.ref l::vs1)) (zff N.length l cn ns ds xs):=by
 have st0:=zao.start (N:=N) (zp8 s0 hf) (.cons (d:=.non) (v:=.non) rfl r);exact st0.setOwn (i:=0) (l:=l) (s:=.pino l cn ns xs) rfl (Ext.grow (zp8 s0 hf) zwb) zl1 hf ⟨rfl,dx,us,hl,hz,rx⟩
theorem zc6 (Fn:Fun K x qual st f fd) (S:za1 N ps (zau st))
  (h:∀ (cdv:Value) (A:Around) (outer:List Env) (s:Shared) (H:Hp) (E:XK),zbl k (A.deeper (envOfC qual (zau st) s.heap.objs.size f cdv))->DSs c (zen CX0 P w K mg base N qual (zau st) f cdv A outer s H E).nox (zfj st) F) (hn_:N.length=n_:=by rfl) :
  zcn P w K mg base CX0 (k + 1) f fd ps (zlh ⟨K,c⟩ cn ns ps.length (zcp n_ cn ns F)):=by
 subst hn_;refine Fn.ok S (fun vs H Q E q_=>by obtain ⟨Hf,ds,xs,ys,d,l,dx,us,vs1,ev,s0,hf,hu,hz,r,rx,hn,_⟩:=q_; rw [ev,length_cons,<- r.length]; omega) fun cdv A outer s H vs Q E hr q_=>?_;obtain ⟨Hf,ds,xs,ys,d,l,dx,us,vs1,ev,s0,hf,hu,hz,r,rx,hn,e,kq⟩:=q_;refine ⟨_,h cdv A outer s H E hr,?_⟩;subst ev;unfold zcp at e
 cases eF : F (zff N.length l cn ns ds xs) with
 | none=>rw [eF] at e; cases e
 | some o =>
  rw [eF,bind_some] at e;refine ⟨Hf,zcz H l,Hf,_,o,zao.startMI s0 hf hu hz r rx,eF,?_⟩
  cases o with
  | nx ρ =>
   replace e : (zgs l cn ns ρ).map (fun ys=>(ys,D.non))=some (ys,d):=e
   cases ep : zgs l cn ns ρ with
   | none=>rw [ep] at e; cases e
   | some zs =>
    rw [ep] at e;cases e;intro σ' Hf' H' _ so;obtain ⟨l',e1,h0,hf',e2,dx',us',hu',hz',rx'⟩:=so.ownAt (s:=.pino l cn ns ys) rfl (z6f ep);subst e2
    exact kq .non Hf' H' dx' us' so.ext hf' hu' hz' rx' rfl
  | rtS d' ρ =>
   replace e : (zgs l cn ns ρ).map (fun ys=>(ys,d'))=some (ys,d):=e
   cases ep : zgs l cn ns ρ with
   | none=>rw [ep] at e; cases e
   | some zs =>
    rw [ep] at e;cases e;intro v σ' Hf' H' so r;obtain ⟨l',e1,h0,hf',e2,dx',us',hu',hz',rx'⟩:=so.ownAt (s:=.pino l cn ns ys) rfl (z6f ep);subst e2
    exact kq v Hf' H' dx' us' so.ext hf' hu' hz' rx' r
  | _=>cases e
noncomputable def zar (i:Nat) (cn fl:Str) (ns:LSt) (m:Addr->LD->LD->Option (LD×D)) (f:Xa) : Xe:=fun ρ=>match ρ[i]? with
 | some (.pino _ c0 n0 _)=>if c0=cn/\n0=ns/\ns.contains fl=false then (f ρ).bind fun p=>match p.2[i]? with
  | some (.pino l c' n' xs)=>if c'=cn/\n'=ns then (m l p.1 xs).map fun q=>(q.2,p.2.set i (.pino l cn ns q.1)) else none
  | _=>none else none
 | _=>none
open Classical in
noncomputable def zjm (i:Nat) (cn fl:Str) (ns:LSt) (m:Addr->LD->LD->Option (LD×D)) (f:Xa) : Xe:=fun ρ=>match ρ[i]? with
 | some (.obj c0 n0 _)=>if c0=cn/\n0=ns/\ns.contains fl=false then (f ρ).bind fun p=>match p.2[i]? with
  | some (.obj c' n' xs)=>if c'=cn/\n'=ns then (if h:∃ q,∀ l,m l p.1 xs=some q then some (h.choose.2,p.2.set i (.obj cn ns h.choose.1)) else none) else none
  | _=>none else none
 | _=>none
variable {m:Addr->LD->LD->Option (LD×D)} {Q:VK}
section
variable {fl:Str}
theorem z4r {t:TA} (ht:∀ σ H Q,znl (Gx c X) fa σ H Q->t σ H Q) (hn:∀ ρ ds ρ',fa ρ=some (ds,ρ')->1 + ds.length=ps.length) (q_:tDX (Gx c X) (zar i cn fl ns m fa) σ H Q) : znm (c cn) fl (zlh (Gx c X) cn ns ps.length m) [] E0 (zc2 i) t σ H Q:=by
 obtain ⟨Hf0,H0,Hf,ρ,d,ρ',st,ef,kq⟩:=q_;unfold zar at ef;split at ef
 ·rename_i l0 c0 n0 xs0 eo0;split at ef
  ·rename_i hc0;obtain ⟨rfl,rfl,hno⟩:=hc0
   cases e1 : fa ρ with
   | none=>rw [e1] at ef; cases ef
   | some pp =>
    obtain ⟨ds,ρ1⟩:=pp;rw [e1,bind_some] at ef;dsimp only at ef;split at ef
    ·rename_i l c' n' xs eo;split at ef
     ·rename_i hcc;obtain ⟨rfl,rfl⟩:=hcc
      cases e2 : m l ds xs with
      | none=>rw [e2] at ef; cases ef
      | some q =>
       rw [e2] at ef;cases ef;obtain ⟨l1,el,_,_,_,dx,us,hu,_,_⟩:=st.ownAt (s:=.pino l0 c' n' xs0) rfl eo0;refine ⟨_,el,l1,dx,n'.zip us,rfl,hu,zo7 hno,ht _ _ _ ⟨Hf0,H0,Hf,ρ,ds,ρ1,st,e1,fun vs Hf' H' f1 st1 r=>?_⟩⟩;dsimp only;rw [append_nil];obtain ⟨l2,el2,h02,hf2,eq2,dx2,us2,hu2,hz2,rx2⟩:=st1.ownAt (s:=.pino l c' n' xs) rfl eo;subst eq2;rw [el] at el2;cases el2;exact ⟨Hf',ds,xs,q.1,q.2,l1,dx2,us2,vs,rfl,st1.sub,hf2,hu2,hz2,r,rx2,hn _ _ _ e1,e2,fun v Hf3 H3 dx3 us3 x3 hf3 hu3 hz3 rx3 r3=>kq v Hf3 H3 (f1.trans x3.f) (st1.back (s:=.pino l1 c' n' xs) (s':=.pino l1 c' n' q.1) rfl rfl eo el x3 hf3 ⟨rfl,dx3,us3,hu3,hz3,rx3⟩) r3⟩
     ·cases ef
    ·cases ef
  ·cases ef
 ·cases ef
end
section
variable {fl:Str}
theorem yer {t:TA} (ht:∀ σ H Q,znl (Gx c X) fa σ H Q->t σ H Q) (hn:∀ ρ ds ρ',fa ρ=some (ds,ρ')->1 + ds.length=ps.length) (q_:tDX (Gx c X) (zjm i cn fl ns m fa) σ H Q) : znm (c cn) fl (zlh (Gx c X) cn ns ps.length m) [] E0 (zc2 i) t σ H Q:=by
 obtain ⟨Hf0,H0,Hf,ρ,d,ρ',st,ef,kq⟩:=q_;unfold zjm at ef;split at ef
 ·rename_i c0 n0 xs0 eo0;split at ef
  ·rename_i hc0;obtain ⟨rfl,rfl,hno⟩:=hc0
   cases e1 : fa ρ with
   | none=>rw [e1] at ef; cases ef
   | some pp =>
    obtain ⟨ds,ρ1⟩:=pp;rw [e1,bind_some] at ef;dsimp only at ef;split at ef
    ·rename_i c' n' xs eo;split at ef
     ·rename_i hcc;obtain ⟨rfl,rfl⟩:=hcc;split at ef
      ·rename_i hq;have e2:=hq.choose_spec;generalize hq.choose=q at ef e2;cases ef;obtain ⟨l1,el,_,_,dx,us,hu,_,_⟩:=st.ownAt (s:=.obj c' n' xs0) rfl eo0;refine ⟨_,el,l1,dx,n'.zip us,rfl,hu,zo7 hno,ht _ _ _ ⟨Hf0,H0,Hf,ρ,ds,ρ1,st,e1,fun vs Hf' H' f1 st1 r=>?_⟩⟩;dsimp only;rw [append_nil];obtain ⟨l2,el2,h02,hf2,dx2,us2,hu2,hz2,rx2⟩:=st1.ownAt (s:=.obj c' n' xs) rfl eo;rw [el] at el2;cases el2;exact ⟨Hf',ds,xs,q.1,q.2,l1,dx2,us2,vs,rfl,st1.sub,hf2,hu2,hz2,r,rx2,hn _ _ _ e1,e2 l1,fun v Hf3 H3 dx3 us3 x3 hf3 hu3 hz3 rx3 r3=>kq v Hf3 H3 (f1.trans x3.f) (st1.back (s:=.obj c' n' xs) (s':=.obj c' n' q.1) rfl rfl eo el x3 hf3 ⟨dx3,us3,hu3,hz3,rx3⟩) r3⟩
      ·cases ef
     ·cases ef
    ·cases ef
  ·cases ef
 ·cases ef
end
variable {apos:Pos} {pl:Sem Bool}
section
variable {fl:Str}
theorem zct (ho:PE X o (zc2 i)) (pk:Pm X.prog X.w X.K X.mg X.base CX0 k (c cn) fl (f,fd) ps (zlh (Gx c X) cn ns ps.length m)) (hr0:zbl k0 X.A) (ha:DAX c X (e::es) fa) (hl:(e::es).length + 1=ps.length:=by rfl) (hst:StE X e es:=by rfl) (hpl:BkE X pos es:=by rfl) (ht:eval (.Call (.Attribute o fl apos) (e::es) [] pos) X.env=(do
   let ov <- eval o X.env
   standAt apos.atName
   let (f,first) <- holding [ov] (getMethod ov fl pl)
   callWith pos f first (backTo pos (starEach (e::es) X.env)) (backToKw pos (keywordEach [] X.env))):=by rfl) (hk0:k<=k0:=by decide) :
  DX c X (.Call (.Attribute o fl apos) (e::es) [] pos) (zar i cn fl ns m fa):=PE.imp (yg2 ho pk.c pk.m pk.ok (hr0.mono hk0) pk.b .nil zfu ha.pa hst hpl ht) fun σ H Q q_=>z4r (fun _ _ _ h=>h) (fun ρ ds ρ' h=>by have:=ha.len ρ ds ρ' h; omega) q_
end
section
variable {fl:Str}
theorem za8 (ho:PE X o (zc2 i)) (pk:Pm X.prog X.w X.K X.mg X.base CX0 k (c cn) fl (f,fd) ps (zlh (Gx c X) cn ns ps.length m)) (hr0:zbl k0 X.A) (hl:1=ps.length:=by rfl) (ht:eval (.Call (.Attribute o fl apos) [] [] pos) X.env=(do
   let ov <- eval o X.env
   standAt apos.atName
   let (f,first) <- holding [ov] (getMethod ov fl pl)
   callWith pos f first (backTo pos (starEach [] X.env)) (backToKw pos (keywordEach [] X.env))):=by rfl) (hk0:k<=k0:=by decide) :
  DX c X (.Call (.Attribute o fl apos) [] [] pos) (zar i cn fl ns m zaa):=PE.imp (zt8 ho pk.c pk.m pk.ok (hr0.mono hk0) pk.b .nil zfu ht) fun σ H Q q_=>z4r (fun σ H Q q_=>by obtain ⟨Hf0,H0,Hf,ρ,ds,ρ',st,ef,k⟩:=q_; cases ef; exact k [] Hf H (zav.refl _) st rfl) (fun ρ ds ρ' h=>by cases h; exact hl) q_
end
section
variable {fl:Str}
theorem zwh (ho:PE X o (zc2 i)) (pk:Pm X.prog X.w X.K X.mg X.base CX0 k (c cn) fl (f,fd) ps (zlh (Gx c X) cn ns ps.length m)) (hr0:zbl k0 X.A) (hl:1=ps.length:=by rfl) (ht:eval (.Call (.Attribute o fl apos) [] [] pos) X.env=(do
   let ov <- eval o X.env
   standAt apos.atName
   let (f,first) <- holding [ov] (getMethod ov fl pl)
   callWith pos f first (backTo pos (starEach [] X.env)) (backToKw pos (keywordEach [] X.env))):=by rfl) (hk0:k<=k0:=by decide) :
  DX c X (.Call (.Attribute o fl apos) [] [] pos) (zjm i cn fl ns m zaa):=PE.imp (zt8 ho pk.c pk.m pk.ok (hr0.mono hk0) pk.b .nil zfu ht) fun σ H Q q_=>yer (fun σ H Q q_=>by obtain ⟨Hf0,H0,Hf,ρ,ds,ρ',st,ef,k⟩:=q_; cases ef; exact k [] Hf H (zav.refl _) st rfl) (fun ρ ds ρ' h=>by cases h; exact hl) q_
end
noncomputable def zhe (i:Nat) (cn fl:Str) (ρ:LS) : OD:=match ρ[i]? with
 | some (.pino _ c' ns xs)=>if c'=cn then (ns.zip xs).lookup fl else none
 | _=>none
section
variable {fl:Str}
theorem zj9 (cn:Str) (hc:Cls X.K (c cn)) (hn:zgh X.K (c cn) fl) (ho:PE X o (zc2 i)) (hb:attributeBase o fl X.env (eval o X.env)=eval o X.env:=by rfl) : DE c X (.Attribute o fl pos) (zhe i cn fl):=PE.imp (ygv ho hb) fun σ H Q q_=>by
 obtain ⟨Hf0,H0,Hf,ρ,d,st,ef,k⟩:=q_;unfold zhe at ef;split at ef
 ·rename_i l0 c' ns xs eo;split at ef
  ·rename_i hcc;subst hcc;obtain ⟨l,el,_,_,_,dx,us,hu,_,rx⟩:=st.ownAt (s:=.pino l0 c' ns xs) rfl eo;obtain ⟨u,eu,ru⟩:=zxe ef rx;exact ⟨_,el,l,c c',dx,ns.zip us,u,rfl,hu,hc,hn,eu,k u Hf H (Ext.refl st.sub) ru⟩
  ·cases ef
 ·cases ef
end
noncomputable def zgw {α : Type} (f:Str) (v:α) : LSt->List α->List α
 | n::ns,x::xs=>if n=f then v::xs else x::zgw f v ns xs
 | _,xs=>xs
theorem z78 {α : Type} (f:Str) (v:α) : ∀ (ns:LSt) (xs:List α),(zgw f v ns xs).length=xs.length
 | [],_=>rfl
 | _::_,[]=>rfl
 | n::ns,x::xs=>by
  unfold zgw;split
  ·rfl
  ·rw [length_cons,z78 f v ns xs,length_cons]
theorem z6q {f:Str} {v:V} : ∀ {ns:LSt} {us:List V},ns.length=us.length->ns.contains f=true->zdu f v (ns.zip us)=ns.zip (zgw f v ns us)
 | [],_,_,h=>by cases h
 | _::_,[],hl,_=>by cases hl
 | n::ns,u::us,hl,h=>by
  rw [zip_cons_cons];unfold zdu zgw
  by_cases e : n=f
  ·rw [if_pos e,if_pos e,zip_cons_cons]
  ·rw [if_neg e,if_neg e,zip_cons_cons]
   have h2 : ns.contains f=true:=by
    rw [contains_cons,Bool.or_eq_true] at h
    rcases h with h | h
    ·exact absurd (eq_of_beq h).symm e
    ·exact h
   rw [z6q (by simpa using hl) h2]
theorem z79 {G:Gc} {H:Hp} {f:Str} {d:D} {v:V} (rv:Rep G H d v) : ∀ {ns:LSt} {ds:LD} {us:List V},zan G H ds us->zan G H (zgw f d ns ds) (zgw f v ns us)
 | [],_,_,r=>by
  unfold zgw
  exact r
 | n::ns,[],us,r=>by cases (show us=[] from r); exact r
 | n::ns,x::ds,us,r=>by
  obtain ⟨u,r',rfl,ru,rr⟩:=r;unfold zgw
  by_cases e : n=f
  ·rw [if_pos e,if_pos e]; exact .cons rv rr
  ·rw [if_neg e,if_neg e]; exact .cons ru (z79 rv rr)
noncomputable def zo9 (i:Nat) (cn fl:Str) (f:MF1) (ρ:LS) : Option Fl:=match ρ[i]? with
 | some (.pino l c' ns xs)=>if c'=cn/\ns.contains fl=true/\ns.length < 1000 then ((ns.zip xs).lookup fl).bind fun x=>(f ρ).bind fun y=>(zi5 x y).map fun z=>.nx (ρ.set i (.pino l cn ns (zgw fl z ns xs))) else none
 | _=>none
section
variable {fl:Str}
theorem z2w {f':MF1} (cn:Str) (hc:Cls X.K (c cn)) (hn:zgh X.K (c cn) fl) (ho:PE X o (zc2 i)) (he:DE c X e f') : DS c X (.AugAssign (.Attribute o fl tpos) .Add e pos) (zo9 i cn fl f'):=PS.imp (yhz (rd:=rD (Gx c X) zi5) ho he (fun pins s σ H x y u v Q I rx ry h=>z3x (c:=c) pins s σ H x y u v Q I rx ry h)) fun E σ H q_=>by
 obtain ⟨Hf0,H0,Hf,ρ,o,so,ef,k⟩:=q_;unfold zo9 at ef;split at ef
 ·rename_i l0 c' ns xs eo;split at ef
  ·rename_i hcc;obtain ⟨rfl,hin,hlt⟩:=hcc
   cases e1 : (ns.zip xs).lookup fl with
   | none=>rw [e1] at ef; cases ef
   | some x =>
    rw [e1,bind_some] at ef
    cases e2 : f' ρ with
    | none=>rw [e2] at ef; cases ef
    | some y =>
     rw [e2,bind_some] at ef
     cases e3 : zi5 x y with
     | none=>rw [e3] at ef; cases ef
     | some z =>
      rw [e3] at ef;cases ef;obtain ⟨l,el,h0,hf,eq,dx,us,hu,hz,rx⟩:=so.ownAt (s:=.pino l0 c' ns xs) rfl eo;subst eq;obtain ⟨u,eu,ru⟩:=zxe e1 rx;refine ⟨_,el,l,c c',dx,ns.zip us,u,rfl,hu,hc,hn,eu,Hf0,H0,Hf,ρ,y,so,e2,fun v2 Hf1 H1 x1 r1=>⟨Hf1,x,y,z,x1.s,ru.up x1.f,r1,e3,fun v3 Hf2 H2 x2 r2=>?_⟩⟩;have x12:=x1.trans x2;have so2:=so.step x12;refine ⟨dx,ns.zip us,x12.h _ _ hu,?_,k σ Hf2 _ x12.f (so2.mutd (s:=.pino l c' ns xs) (s':=.pino l c' ns (zgw fl z ns xs)) rfl rfl eo el ⟨rfl,dx,zgw fl v3 ns us,?_,?_,z79 r2 (rx.up x12.f)⟩)⟩
      ·rw [length_zip]; omega
      ·rw [zb8,z6q hz hin]
      ·rw [z78]; exact hz
  ·cases ef
 ·cases ef
end
theorem zie : DS c X st (fun _=>none):=fun pins s σ H E I q_=>by
 obtain ⟨Hf0,H0,Hf,ρ,o,so,ef,k⟩:=q_;cases ef
noncomputable def zhz (t:Xt) (f g:Xe) : Xe:=fun ρ=>(t ρ).bind fun p=>if p.1 then f p.2 else g p.2
noncomputable def zdk (f:Xe) : Xt:=fun ρ=>(f ρ).bind fun p=>(zno p.1).map fun b=>(b,p.2)
noncomputable def zpc (t:Xt) : Xt:=fun ρ=>(t ρ).map fun p=>(!p.1,p.2)
noncomputable def zd3 (t:Xt) (F:MF3) : Nat->MF3
 | 0,_=>none
 | n + 1,ρ=>(t ρ).bind fun p=>if p.1 then (F p.2).bind fun o=>match o with
   | .nx ρ2=>zd3 t F n ρ2
   | .ct ρ2=>zd3 t F n ρ2
   | .bk ρ2=>some (.nx ρ2)
   | o=>some o
  else some (.nx p.2)
noncomputable def zh0 (i:Nat) (f:Xe) (ρ:LS) : Option Fl:=(f ρ).map fun p=>.nx (p.2.set i (.own [p.1]))
variable {t:Xt} {f:Xe}
theorem zl7 {g:Xe} (hc:DTX c X cd t) (ha:DX c X a f) (hb:DX c X b g) : DX c X (.IfExp cd a b pos) (zhz t f g):=PE.imp (zyg hc ha hb) fun σ H Q q_=>by
 obtain ⟨Hf0,H0,Hf,ρ,d,ρ',so,ef,k⟩:=q_;unfold zhz at ef
 cases e1 : t ρ with
 | none=>rw [e1] at ef; cases ef
 | some x =>
  obtain ⟨x,ρ1⟩:=x;rw [e1,bind_some] at ef;refine ⟨Hf0,H0,Hf,ρ,x,ρ1,so,e1,fun Hf1 H1 s1 so1=>?_⟩
  cases x with
  | true=>rw [if_pos rfl]; exact ⟨Hf0,H0,Hf1,ρ1,d,ρ',so1,ef,fun v Hf2 H2 s2 so2 r=>k v Hf2 H2 (s1.trans s2) so2 r⟩
  | false=>rw [if_neg fq]; exact ⟨Hf0,H0,Hf1,ρ1,d,ρ',so1,ef,fun v Hf2 H2 s2 so2 r=>k v Hf2 H2 (s1.trans s2) so2 r⟩
theorem zfa (ha:DX c X a f) (he:∀ whole,isTrue a X.env whole=(do let v <- whole; standAt a.pos; holding [v] (truthy v)):=by intro _; rfl) : DTX c X a (zdk f):=PT.imp (z6p ha he) fun σ H Q q_=>by
 obtain ⟨Hf0,H0,Hf,ρ,bb,ρ',so,ef,k⟩:=q_;unfold zdk at ef
 cases e1 : f ρ with
 | none=>rw [e1] at ef; cases ef
 | some x =>
  obtain ⟨d,ρ1⟩:=x;rw [e1,bind_some] at ef;dsimp only at ef
  cases e2 : zno d with
  | none=>rw [e2] at ef; cases ef
  | some y =>
   rw [e2] at ef;cases ef;exact ⟨Hf0,H0,Hf,ρ,d,_,so,e1,fun v Hf' H' s1 so1 r=>⟨_,z8z e2 (r.up so1.sub),k Hf' H' s1 so1⟩⟩
theorem ybs (h:DTX c X a t) : DTX c X (.UnaryOp .Not a pos) (zpc t):=PT.imp (z6o h) fun σ H Q q_=>by
 obtain ⟨Hf0,H0,Hf,ρ,bb,ρ',so,ef,k⟩:=q_;unfold zpc at ef
 cases e1 : t ρ with
 | none=>rw [e1] at ef; cases ef
 | some x =>
  rw [e1] at ef;cases ef;exact ⟨Hf0,H0,Hf,ρ,x.1,x.2,so,e1,fun Hf' H' s1 so1=>k Hf' H' s1 so1⟩
theorem zo1 (n:Nat) (hp:PassesOwn @1 X.A X.env X.xe) (hc:DTX c X cd t) (hb:DSs c X as F) : DS c X (.While cd as [] pos) (zd3 t F n):=PS.imp (yh3 hp hc hb) fun E σ H q_=>by
 obtain ⟨Hf0,H0,Hf,ρ,o,so,ef,k⟩:=q_;refine ⟨fun m σ' H'=>∃ Hf' ρ',zao (Gx c X) Hf0 H0 Hf' H' σ' ρ'/\zav Hf Hf'/\zd3 t F m ρ'=some o,⟨n,Hf,ρ,so,zav.refl _,ef⟩,?_⟩;rintro m σ' H' ⟨Hf',ρ',so',s1,em⟩
 cases m with
 | zero=>cases em
 | succ m =>
  unfold zd3 at em
  cases et : t ρ' with
  | none=>rw [et] at em; cases em
  | some x =>
   obtain ⟨x,ρ1⟩:=x;rw [et,bind_some] at em;refine ⟨Hf0,H0,Hf',ρ',x,ρ1,so',et,fun Hf2 H2 f2 so2=>?_⟩;have sf:=s1.trans f2
   cases x with
   | false =>
    refine zw2 ?_;cases em
    exact k σ' Hf2 H2 sf so2
   | true =>
    refine zsl ?_;replace em : (F ρ1).bind _=some o:=em
    cases eF : F ρ1 with
    | none=>rw [eF] at em; cases em
    | some o1 =>
     rw [eF] at em;refine ⟨fun σ3 H3=>∃ Hf' ρ',zao (Gx c X) Hf0 H0 Hf' H3 σ3 ρ'/\zav Hf Hf'/\zd3 t F m ρ'=some o,fun σ3 H3 w=>⟨m,Nat.lt_succ_self _,w⟩,Hf0,H0,Hf2,ρ1,o1,so2,eF,?_⟩
     cases o1 with
     | nx ρ2=>exact fun σ4 Hf4 H4 s4 so4=>⟨Hf4,ρ2,so4,sf.trans s4,em⟩
     | ct ρ2=>exact fun σ4 Hf4 H4 s4 so4=>⟨Hf4,ρ2,so4,sf.trans s4,em⟩
     | bk ρ2=>cases em; exact fun σ4 Hf4 H4 s4 so4=>k σ4 Hf4 H4 (sf.trans s4) so4
     | rt d=>cases em; exact k
     | rtO d=>cases em; exact k
     | rtS d ρ2=>cases em; exact k
theorem zo0 (i:Nat) (hN:X.N.Nodup) (he:DX c X e f) (hi:X.N[i]?=some x:=by rfl) (hx:Loc X.env.scope x:=by first | exact Or.inl rfl | exact Or.inr rfl) (hs:swapsWith (.List [e] pos) (some (.Name x pos')) spos.line X.env=pure false:=by rfl) (hst:starEach [e] X.env=(false,eval e X.env)::starEach [] X.env:=by rfl) (hf:LcF X x:=by first | exact .inl rfl | exact .inr rfl) :
  DS c X (.Assign [.Name x pos'] (.List [e] pos) spos) (zh0 i f):=PS.imp (zjt hN hi hx (zm4 (zbv he zcd hst)) hs hf) fun E σ H q_=>by
 obtain ⟨Hf0,H0,Hf,ρ,o,so,ef,k⟩:=q_;unfold zh0 at ef
 cases e1 : f ρ with
 | none=>rw [e1] at ef; cases ef
 | some p =>
  rw [e1] at ef;cases ef;refine ⟨Hf0,H0,Hf,ρ,p.1,p.2,so,e1,fun v Hf' H' s so' r=>⟨(by rw [sizeLine_eq]; show 1<=16777216; decide),fun q hq=>?_⟩⟩;exact k _ Hf' (upd H' q (.lst [v])) s (so'.setOwn (i:=i) (l:=q) (s:=.own [p.1]) rfl (Ext.grow so'.sub (zc9 hq)) hq (so'.sub.free hq) ⟨[v],zb8,.cons r .nil⟩)
noncomputable def zkt (i:Nat) (cn:Str) (m:LD->Option (LSt×LD)) (fa:MF2) (ρ:LS) : Option Fl:=(fa ρ).bind fun as=>(m as).map fun r=>.nx (ρ.set i (.obj cn r.1 r.2))
variable {f:Addr} {fa:MF2}
theorem z2y (i:Nat) {m:LD->Option (LSt×LD)} (cn:Str) (hN:X.N.Nodup) (M:Mk X.K (c cn) f) (F:zcn X.prog X.w X.K X.mg X.base CX0 k f fd ps (spI (Gx c X) cn ps.length m)) (hr:zbl (k + 1) X.A) (hg:Gl X x) (hm:X.mg x=some (.ref (c cn))) (hb:ze5 X.K fd ps []) (ha:DA c X (e::es) fa) (hi:X.N[i]?=some z:=by rfl) (hx:Loc X.env.scope z:=by first | exact Or.inl rfl | exact Or.inr rfl)
  (hl:(e::es).length + 1=ps.length:=by rfl) (hdb:NDb x:=by decide) (he:StE X e es:=by rfl) (hpl:BkE X pos es:=by rfl)
  (hs:swapsWith @8 (some (.Name z pos')) spos.line X.env=pure false:=by rfl) (hfn:X.fn z=true\/X.env.scope.names.lookup z=some .local:=by first | exact .inl rfl | exact .inr rfl) :
  DS c X (.Assign [.Name z pos'] @8 spos) (zkt i cn m fa):=PS.imp (zjt hN hi hx (yg1 M F hr hg hm hb .nil zfu ha.pa hdb he hpl) hs hfn) fun E σ H q_=>by
 obtain ⟨Hf0,H0,Hf,ρ,o,st,ef,kq⟩:=q_;unfold zkt at ef
 cases e1 : fa ρ with
 | none=>rw [e1] at ef; cases ef
 | some as =>
  rw [e1,bind_some] at ef
  cases e2 : m as with
  | none=>rw [e2] at ef; cases ef
  | some r =>
   rw [e2] at ef;cases ef;refine ⟨Hf0,H0,Hf,ρ,as,st,e1,fun vs Hf' H' xx rv y dx ny ndx nex=>?_⟩
   try dsimp only
   rw [append_nil];have hy : (upd H' dx (.own y)) y=none:=by rw [zbs nex.symm]; exact ny
   have s1 : zav H' (upd H' dx (.own y)):=zc9 ndx;have s2:=s1.trans (zc9 (o:=.ins (c cn) dx []) hy)
   have s3 : zav H' (del (upd (upd H' dx (.own y)) y (.ins (c cn) dx [])) y):=fun b u q=>by
    have:=zfd q ny;rw [z2k this];exact s2 b u q
   refine ⟨y,dx,Hf',as,vs,r,rfl,zb8,xx.s.free ny,xx.s.trans s2,rv,by rw [ha.len ρ as e1]; exact hl,e2,fun us Hf2 H2 x2 hf2 hy2 hlen r2=>⟨rfl,?_⟩⟩;have x3 : Ext Hf' H' Hf2 H2:=⟨x2.f,s3.trans x2.h,x2.s,fun l u q t=>x2.n l u (s3 l u q) t⟩;exact kq _ Hf2 H2 (xx.trans x3).f (st.setOwn (i:=i) (l:=y) (s:=.obj cn r.1 r.2) rfl (xx.trans x3) (xx.h.free ny) hf2 ⟨dx,us,hy2,hlen,r2⟩)
variable {t:Nat}
theorem yat {s:Sl} (ht:js[t]?=some j) (hs:ρ[j]?=some s) : (zb9 k js ρ)[k + t]?=some s:=by
 unfold zb9;rw [List.getElem?_append_right (by rw [length_replicate]; exact Nat.le_add_right _ _),length_replicate,Nat.add_sub_cancel_left,List.getElem?_map,ht];show some ((ρ[j]?).getD .no)=_;rw [hs];rfl
variable {jp:Nat}
theorem zao.compP (k:Nat) (h:zao G Hf0 H0 Hf H σ ρ) (hj:js.Nodup) (hp:ρ[jp]?=some (.pin l xs)) (hc:∀ j∈js,j=jp\/((ρ[j]?).getD .no).calm=true) :
  zao G Hf (zcz H l) Hf H (zfg k js σ) (zb9 k js ρ):=by
 obtain ⟨l',el,h0,hf,e2,us,hu,rx⟩:=h.ownAt (s:=.pin l xs) rfl hp;subst e2;have st:=h.comp k hj;refine st.re (Ext.grow (zp8 h.sub hf) zwb) rfl (fun i v s a b=>?_) fun i s v a b c d=>⟨s,b,d⟩;have q:=st.at' i v s a b
 rcases zk9 b with ⟨_,e⟩ | ⟨_,b⟩
 ·subst e; trivial
 ·obtain ⟨j,ej,es⟩:=zky b
  rcases hc j (mem_of_getElem? ej) with e | e
  ·subst e;rw [hp] at es;replace es : s=.pin l' xs:=es;subst es;obtain ⟨l2,e1,_,hf2,e3,w⟩:=q;subst e3;exact ⟨_,e1,zl1,hf2,rfl,w⟩
  ·rw [<- es] at e
   cases s with
   | no=>trivial
   | im d=>exact q
   | _=>cases e
section
variable (k:Nat) (js:LN) (jp t:Nat) (g:D->LS->Option LS) (fe:Xe) (ρ:LS) (l:Addr)
open Classical in
noncomputable def zix (d:D) (xs:LD) : Option (D×LD):=(g d (zb9 k js (ρ.set jp (.pin l xs)))).bind fun ρ1=>(fe ρ1).bind fun q=>match q.2[k + t]? with
 | some (.pin _ xs')=>if ∀ i,k<=i->q.2[i]?=(zb9 k js (ρ.set jp (.pin l xs')))[i]? then some (q.1,xs') else none
 | _=>none
noncomputable def zfc : LD->LD->Option (LD×LD)
 | [],xs=>some ([],xs)
 | d::ds,xs=>(zix k js jp t g fe ρ l d xs).bind fun y=>(zfc ds y.2).map fun r=>(y.1::r.1,r.2)
end
noncomputable def ze0 (k:Nat) (js:LN) (jp t:Nat) (fi:Xa) (g:D->LS->Option LS) (fe:Xe) : Xe:=fun ρ=>(fi ρ).bind fun p=>match p.2[jp]? with
 | some (.pin l xs)=>if p.1.length<=16777216/\js[t]?=some jp/\(js.all fun j=>j==jp || ((p.2[j]?).getD .no).calm)=true then (zfc k js jp t g fe p.2 l p.1 xs).map fun q=>(.lst q.1,p.2.set jp (.pin l q.2)) else none
 | _=>none
variable {g:D->LS->Option LS} {fe:Xe}
theorem ylc {y:D} {xs':LD} (h:zix k js jp t g fe ρ l d xs=some (y,xs')) : ∃ ρ1 ρ2,g d (zb9 k js (ρ.set jp (.pin l xs)))=some ρ1/\fe ρ1=some (y,ρ2)/\(∃ l',ρ2[k + t]?=some (.pin l' xs'))/\∀ i,k<=i->ρ2[i]?=(zb9 k js (ρ.set jp (.pin l xs')))[i]?:=by
 unfold zix at h
 cases e1 : g d (zb9 k js (ρ.set jp (.pin l xs))) with
 | none=>rw [e1] at h; cases h
 | some ρ1 =>
  rw [e1,bind_some] at h
  cases e2 : fe ρ1 with
  | none=>rw [e2] at h; cases h
  | some q =>
   rw [e2,bind_some] at h;split at h
   ·rename_i l' zs ez;split at h
    ·rename_i hi;cases h;exact ⟨ρ1,q.2,rfl,e2,⟨l',ez⟩,hi⟩
    ·cases h
   ·cases h
theorem yef (h:zfc k js jp t g fe ρ l (d::ds) xs=some (rs,ys)) : ∃ y xs' r,zix k js jp t g fe ρ l d xs=some (y,xs')/\zfc k js jp t g fe ρ l ds xs'=some (r,ys)/\rs=y::r:=by
 unfold zfc at h
 cases e1 : zix k js jp t g fe ρ l d xs with
 | none=>rw [e1] at h; cases h
 | some y =>
  rw [e1,bind_some] at h
  cases e2 : zfc k js jp t g fe ρ l ds y.2 with
  | none=>rw [e2] at h; cases h
  | some r=>rw [e2] at h; cases h; exact ⟨y.1,y.2,r.1,rfl,e2,rfl⟩
theorem z8a {s:Sl} (h:ρ[jp]?=some s) : (ρ.set jp s')[jp]?=some s':=List.getElem?_set_self (gq h).1
theorem yau {fi:Xa} (hj:js.Nodup) (hk:∀ d ρ ρ' i,g d ρ=some ρ'->k<=i->ρ'[i]?=ρ[i]?) (hlen:∀ d ρ ρ',g d ρ=some ρ'->ρ'.length=ρ.length) (h:tDX G (ze0 k js jp t fi g fe) σ H Q) :
  znk k js (z8u G fi) (tDG G g) (tDT G fun _=>some true) (tDX G fe) σ H Q:=by
 obtain ⟨Hf0,H0,Hf,ρ0,d0,ρ',st,ef,kq⟩:=h;unfold ze0 at ef
 cases e1 : fi ρ0 with
 | none=>rw [e1] at ef; cases ef
 | some p =>
  obtain ⟨ds,ρ⟩:=p;rw [e1,bind_some] at ef;dsimp only at ef;split at ef
  ·rename_i l xs ep;split at ef
   ·rename_i hz;obtain ⟨hz,ht,hcm⟩:=hz
    cases e2 : zfc k js jp t g fe ρ l ds xs with
    | none=>rw [e2] at ef; cases ef
    | some q =>
     obtain ⟨rs,zs⟩:=q;rw [e2] at ef;cases ef;refine ⟨Hf0,H0,Hf,ρ0,ds,ρ,st,e1,fun J Hf1 H1 f1 st1 it=>?_⟩
     have hcm' : ∀ j∈js,j=jp\/((ρ[j]?).getD .no).calm=true:=fun j hj'=>by
      have:=all_eq_true.mp hcm j hj';rw [Bool.or_eq_true] at this;exact this.imp beq_iff_eq.mp id
     have eself : ρ.set jp (.pin l xs)=ρ:=by
      apply ext_getElem?;intro i
      by_cases hi : jp=i
      ·subst hi; rw [z8a ep,ep]
      ·rw [List.getElem?_set_ne hi]
     have st0 : zao G Hf1 (zcz H1 l) Hf1 H1 (zfg k js σ) (zb9 k js (ρ.set jp (.pin l xs))):=by rw [eself]; exact st1.compP k hj ep hcm'
     obtain ⟨l9,el9,_,hf9,e9,_⟩:=st1.ownAt (s:=.pin l xs) rfl ep;subst e9
     refine ⟨fun i m ys σ' H'=>m=ds.length - i/\i<=ds.length/\∃ Hf' as xs' za9,zao G Hf1 (zcz H1 l9) Hf' H' σ' (zb9 k js (ρ.set jp (.pin l9 xs')))/\zan G Hf' as ys/\zfc k js jp t g fe ρ l9 (ds.drop i) xs'=some (za9,zs)/\rs=as++za9/\as.length<=i,
      ⟨ds.length,rfl,Nat.zero_le _,Hf1,[],xs,rs,st0,rfl,e2,rfl,Nat.le_refl _⟩,?_⟩
     rintro i m ys σ' H' ⟨rfl,hi,Hf',as,xs',za9,st2,ra,ec,er,hal⟩;have hys : ys.length<=sizeLine:=by rw [sizeLine_eq,<- ra.length]; omega
     obtain ⟨it1,it2⟩:=it Hf' H' st2.ext.f st2.sub i
     by_cases hlt : i < ds.length
     ·obtain ⟨d,ed,edr⟩:=zr3 hlt;obtain ⟨go,yl⟩:=it1 d ed
      refine .inr ⟨go,hys,fun ys' σ2 H2=>ds.length - (i + 1)=ds.length - (i + 1)/\i + 1<=ds.length/\∃ Hf' as xs' za9,zao G Hf1 (zcz H1 l9) Hf' H2 σ2 (zb9 k js (ρ.set jp (.pin l9 xs')))/\zan G Hf' as ys'/\zfc k js jp t g fe ρ l9 (ds.drop (i + 1)) xs'=some (za9,zs)/\rs=as++za9/\as.length<=i + 1,
       fun ys' σ2 H2 w=>⟨ds.length - (i + 1),by omega,w⟩,fun x H2 y=>?_⟩
      obtain ⟨Hf2,x3,rx⟩:=yl x H2 y;rw [edr] at ec;obtain ⟨y',xs2,r',et,ec',erest⟩:=yef ec;obtain ⟨ρ1,ρ2,eg,ee,⟨l',ex⟩,hag⟩:=ylc et;refine ⟨Hf1,zcz H1 l9,Hf2,_,d,ρ1,st2.step x3,rx,eg,fun σ3 st3=>⟨Hf1,zcz H1 l9,Hf2,ρ1,true,st3,rfl,fun Hf4 H4 x4=>zsl ⟨Hf1,zcz H1 l9,Hf4,ρ1,y',ρ2,st3.step x4,ee,fun v Hf5 H5 f5 st5 r5=>?_⟩⟩⟩
      have hl2 : (zb9 k js (ρ.set jp (.pin l9 xs2))).length=ρ2.length:=by
       rw [<- st5.len,st3.len,hlen _ _ _ eg];unfold zb9;rw [length_append,length_append,length_map,length_map]
      refine ⟨rfl,hlt,Hf5,as++[y'],xs2,r',st5.weak hl2 fun j s hs=>?_,(ra.up ((x3.f.trans x4.f).trans f5)).append (.cons r5 .nil),ec',by rw [er,erest,append_assoc]; rfl,by rw [length_append,length_singleton]; omega⟩
      rcases zk9 hs with ⟨_,e⟩ | ⟨hj',_⟩
      ·exact .inl e
      ·exact .inr (by rw [hag j hj']; exact hs)
     ·have ei : i=ds.length:=by omega
      subst ei;refine .inl ⟨it2 rfl,hys,fun D h1 h2=>?_⟩;rw [drop_eq_nil_of_le (Nat.le_refl _)] at ec;cases ec;rw [append_nil] at er;subst er;obtain ⟨l3,el3,h03,hf3,e3,us3,hu3,rx3⟩:=st2.ownAt (s:=.pin l9 zs) rfl (yat ht (z8a ep));subst e3;have bk:=st1.back (s:=.pin l3 xs) (s':=.pin l3 zs) rfl rfl ep el9 st2.ext hf3 ⟨rfl,us3,hu3,rx3⟩;have xn:=Ext.new (o:=.lst ys) st2.sub h2;exact kq (.ref D) _ _ (f1.trans (st2.ext.f.trans xn.f)) (bk.step xn) ⟨D,ys,rfl,zb8,ra.up xn.f⟩
   ·cases ef
  ·cases ef
variable {fi:Xa}
theorem zl6 (k:Nat) (js:LN) (jp t:Nat) (Nc:LSt) (hc:X.calm=true) (hi:DXi c X tg iter fi) (hg:∀ cl C ex s₂ H₂,DG c @0 tg k g)
  (he:∀ cl C ex s₂ H₂,DX c @0 elt fe) (ck:zh9 scope X.env.scope.names X.N Nc k js=true:=by rfl) (hs:∀ x,foldedSetIterable iter X.env x=pure x:=by intro _; rfl) (hj:js.Nodup:=by decide) :
  DX c X (.ListComp elt [⟨tg,iter,[],0⟩] scope pos) (ze0 k js jp t fi g fe) :=
 PE.imp (z57 (g:=tDG (Gx c X) g) (tt:=tDT (Gx c X) fun _=>some true) (te:=tDX (Gx c X) fe) k js Nc hc hi (fun cl C ex s₂ H₂=>(hg cl C ex s₂ H₂).pg) (fun cl C ex s₂ H₂=>zl5) he ck hs) fun σ H Q h =>
  yau hj (hg [] 0 [] X.s₀ X.H₀).keep (hg [] 0 [] X.s₀ X.H₀).len h
noncomputable def mX1 (m:D->OD) (f:Xe) : Xe:=fun ρ=>(f ρ).bind fun p=>(m p.1).map fun d=>(d,p.2)
theorem yel {m:D->OD} {f:Xe} (h:mX1 m f ρ=some (d,ρ')) : ∃ x,f ρ=some (x,ρ')/\m x=some d:=by
 unfold mX1 at h
 cases e1 : f ρ with
 | none=>rw [e1] at h; cases h
 | some p =>
  rw [e1,bind_some] at h
  cases e2 : m p.1 with
  | none=>rw [e2] at h; cases h
  | some z=>rw [e2] at h; cases h; exact ⟨p.1,rfl,e2⟩
noncomputable def zqn : LD->OD
 | [.int a]=>some (.int (if a < 0 then -a else a))
 | _=>none
noncomputable def zh4 : LD->Option LSt
 | []=>some []
 | .str x::ds=>(zh4 ds).map (x::·)
 | _=>none
theorem z05 : ∀ {ds:LD} {zs:LSt},zh4 ds=some zs->ds=zs.map D.str
 | [],zs,h=>by cases h; rfl
 | d::ds,zs,h=>by
  cases d with
  | str x =>
   have h : (zh4 ds).map (x::·)=some zs:=h
   cases e : zh4 ds with
   | none=>rw [e] at h; cases h
   | some ys=>rw [e] at h; cases h; rw [z05 e]; rfl
  | _=>cases h
theorem z81 : ∀ zs : LSt,zh4 (zs.map D.str)=some zs
 | []=>rfl
 | z::zs=>by
  show (zh4 (zs.map D.str)).map (z::·)=_;rw [z81 zs];rfl
noncomputable def zhu (x y:D) : OD:=match x with
 | .str a=>(lsD y).bind fun ds=>(zh4 ds).bind fun zs=>if PySem.JoinOk a zs=true then some (.str (PySem.Txt.join a zs)) else none
 | _=>none
theorem z0z {G:Gc} {H:Hp} : ∀ (zs:LSt) (vs:List V),zan G H (zs.map D.str) vs->vs=zs.map V.str
 | [],_,h=>h
 | z::zs,_,⟨v,r,e,h1,h2⟩=>by rw [e,z0z zs r h2,show v=V.str z from h1]; rfl
theorem z23 {m:LD->OD} {f:Xa} {id:String} (hc:zlq c X (.builtin id) m) (hg:Gl X x) (hm:X.mg x=none) (hv:bootBuiltins x=some (.builtin id)) (ha:DAX c X (e::es) f) (hn:x ≠ "__name__":=by decide) (hdb:NDb x:=by decide)
  (he:StE X e es:=by rfl) (hpl:BkE X pos es:=by rfl) :
  DX c X @8 (zez m f):=PE.imp (zm2 hc hg hm hv ha.pa hn hdb he hpl) fun σ H Q q_=>by
 obtain ⟨Hf0,H0,Hf,ρ,d,ρ',st,ef,kq⟩:=q_;unfold zez at ef
 cases e1 : f ρ with
 | none=>rw [e1] at ef; cases ef
 | some q =>
  obtain ⟨ds,ρ1⟩:=q;rw [e1,bind_some] at ef
  cases e2 : m ds with
  | none=>rw [e2] at ef; cases ef
  | some z =>
   rw [e2] at ef;cases ef;exact ⟨Hf0,H0,Hf,ρ,ds,_,st,e1,fun vs Hf' H' f1 st1 r=>⟨Hf',ds,_,st1.sub,r,e2,fun v Hf2 H2 x2 r2=>kq v Hf2 H2 (f1.trans x2.f) (st1.step x2) r2⟩⟩
theorem yam : zlq c X (.builtin "abs") zqn:=by
 rintro pins s σ H vs us Q I rv ⟨Hf,ds,d,s0,r,e,k⟩;unfold zqn at e;split at e
 ·rename_i a;cases e;obtain ⟨v1,vs1,rfl,h1,h2⟩:=r;cases (show vs1=[] from h2);cases (show v1=V.int a from h1)
  cases rv with
  | cons r1 rr =>
   cases rr;obtain ⟨t,rfl⟩:=r1;refine call_abs_int fun u tk=>?_;exact ⟨.int (if a < 0 then -a else a),H,I.tok tk,⟨u,rfl⟩,k _ Hf H (Ext.refl s0) rfl⟩
 ·cases e
variable {f:Xe}
theorem ybw (hg:Gl X "int") (hm:X.mg "int"=none) (ha:DX c X e f) (h1:starEach [e] X.env=(false,eval e X.env)::starEach [] X.env:=by rfl) (hpl:(backTo pos (starEach [] X.env)).any (·.1)=false:=by rfl) : DX c X (.Call (.Name "int" p) [e] [] pos) (mX1 zkm f) :=
 PE.imp (z58 hg hm ha h1 hpl) fun σ H Q q_=>by
  obtain ⟨Hf0,H0,Hf,ρ,d0,ρ',st,ef,k⟩:=q_;obtain ⟨x,e1,e2⟩:=yel ef;unfold zkm at e2;split at e2
  ·rename_i b;cases e2;exact ⟨Hf0,H0,Hf,ρ,_,_,st,e1,fun v Hf' H' f1 st1 r=>⟨b,r,k _ Hf' H' f1 st1 rfl⟩⟩
  ·cases e2
theorem ybv {m:D->D->OD} {g:Xe} (ho:OpD c X (compareOp op) m) (ha:DX c X a f) (hb:DX c X b g) (hm:behindInMarks op b=false:=by first | exact ztn _ | rfl) : DX c X (.Compare a [op] [b] pos) (mX2 m f g):=PE.imp (z56 ho ha hb hm) fun σ H Q q_=>by
 obtain ⟨Hf0,H0,Hf,ρ,d,ρ',st,ef,k⟩:=q_;obtain ⟨x,y,ρ1,e1,e2,e3⟩:=zpf ef;exact ⟨Hf0,H0,Hf,ρ,x,ρ1,st,e1,fun v Hf1 H1 f1 st1 r1=>⟨Hf0,H0,Hf1,ρ1,y,ρ',st1,e2,fun u Hf2 H2 f2 st2 r2=>⟨Hf2,x,y,d,st2.sub,r1.up f2,r2,e3,fun w Hf3 H3 x3 r3=>k w Hf3 H3 ((f1.trans f2).trans x3.f) (st2.step x3) r3⟩⟩⟩
noncomputable def zss (f:Xe) (l h:LS->Option (Option Int)) : Xe:=fun ρ=>(f ρ).bind fun p=>(l p.2).bind fun lo=>(h p.2).bind fun hi=>(zja p.1 lo hi).map fun d=>(d,p.2)
theorem ybx {l h:LS->Option (Option Int)} {lo hi:Option Expr} (ha:DX c X e f) (hl:DPt c X lo l) (hh:DPt c X hi h) : DX c X (.Subscript e (.Slice lo hi none p2) pos) (zss f l h) :=
 PE.imp (zyh z8d ha hl hh) fun σ H Q q_=>by
  obtain ⟨Hf0,H0,Hf,ρ,r,ρ',st,ef,k⟩:=q_;unfold zss at ef
  cases e1 : f ρ with
  | none=>rw [e1] at ef; cases ef
  | some q =>
   obtain ⟨d,ρ1⟩:=q;rw [e1,bind_some] at ef;dsimp only at ef
   cases e2 : l ρ1 with
   | none=>rw [e2] at ef; cases ef
   | some lo' =>
    rw [e2,bind_some] at ef
    cases e3 : h ρ1 with
    | none=>rw [e3] at ef; cases ef
    | some hi' =>
     rw [e3,bind_some] at ef
     cases e4 : zja d lo' hi' with
     | none=>rw [e4] at ef; cases ef
     | some z =>
      rw [e4] at ef;cases ef;obtain ⟨z,rfl,hz,rfl⟩:=z2b e4;exact ⟨Hf0,H0,Hf,ρ,_,_,st,e1,fun v Hf1 H1 f1 st1 r1=>⟨Hf0,H0,Hf1,_,lo',st1,e2,fun Hf2 H2 x2=>⟨Hf0,H0,Hf2,_,hi',st1.step x2,e3,fun Hf3 H3 x3=>⟨z,r1,hz,k _ Hf3 H3 ((f1.trans x2.f).trans x3.f) ((st1.step x2).step x3) rfl⟩⟩⟩⟩
def zyn (K:W.Frag) : V->List V->Hp->VK->Prop:=fun x vs H Q=>∃ a l zs,x=.str a/\vs=[.ref l]/\SqL K H l (zs.map V.str)/\PySem.JoinOk a zs=true/\Q (.str (PySem.Txt.join a zs)) H
theorem z8q : ∀ (zs:LSt) (its:LVa),zay (zs.map V.str) its->∃ l : List (Str×Tok),its=strValues l/\l.map (·.1)=zs
 | [],_,r=>by cases r; exact ⟨[],rfl,rfl⟩
 | z::zs,_,r=>by
  cases r with
  | cons a b =>
   obtain ⟨t,rfl⟩:=a;obtain ⟨l,e1,e2⟩:=z8q zs _ b;exact ⟨(z,t)::l,by rw [e1]; rfl,by rw [map_cons,e2]⟩
theorem z4s : MtR X "str.join" (zyn X.K):=by
 rintro pins s σ H x xs v us Q I rx rv ⟨a,l,zs,rfl,rfl,hq,hj,q⟩;obtain ⟨t,rfl⟩:=rx;obtain ⟨u,rfl,ru⟩:=rv.one;cases ru;obtain ⟨its,rr,pl,_⟩:=I.list hq;obtain ⟨ls,rfl,el⟩:=z8q zs its rr;exact SC.join pl.isList el hj fun t' k=>⟨.str _,H,I.tok k,⟨t',rfl⟩,q⟩
theorem ybb {f g:MF1} (h:PE X e (tBM X.K "str" (zyn X.K) (tD (Gx c X) f) (zli (tD (Gx c X) g) ziv))) : DE c X e (m2 zhu f g):=PE.imp h fun σ H Q q_=>by
 obtain ⟨Hf0,H0,Hf,ρ,d,st,ef,k⟩:=q_;obtain ⟨x,y,e1,e2,e3⟩:=zmg ef;unfold zhu at e3;split at e3
 ·rename_i a
  cases e4 : lsD y with
  | none=>rw [e4] at e3; cases e3
  | some ds =>
   rw [e4,bind_some] at e3
   cases e5 : zh4 ds with
   | none=>rw [e5] at e3; cases e3
   | some zs =>
    rw [e5,bind_some] at e3;split at e3
    ·rename_i hj;cases e3;refine ⟨Hf0,H0,Hf,ρ,_,st,e1,fun v Hf1 H1 x1 r1=>?_⟩;cases (show v=V.str a from r1);refine ⟨rfl,Hf0,H0,Hf1,ρ,_,st.step x1,e2,fun u Hf2 H2 x2 r2=>?_⟩;obtain ⟨l,vs,el,q,rs⟩:=zmf e4 r2;rw [z05 e5] at rs;rw [z0z zs vs rs] at q;exact ⟨a,l,zs,rfl,by rw [el],x2.s.seq q,hj,k _ Hf2 H2 (x1.trans x2) rfl⟩
    ·cases e3
 ·cases e3
noncomputable def zgk (out:Str) (zs:LSt) : Str:=zs.foldl (·++·) out
theorem zvu : ∀ (zs:LSt) (out:Str),out.length<=(zgk out zs).length
 | [],_=>Nat.le_refl _
 | z::zs,out=>by
  have:=zvu zs (out++z);rw [Str.length_append] at this;show out.length<=(zgk (out++z) zs).length;omega
def DFs (c:Str->Addr) (X:Cx) (es:LEx) (f:LS->Option LSt) : Prop:=∀ (pins:PNS) (s:Shared) (σ:St) (H:Hp) (Q:VK) (out:Str),Inv X pins σ H s ->
 (∃ Hf0 H0 Hf ρ zs,zao (Gx c X) Hf0 H0 Hf H σ ρ/\f ρ=some zs/\(zgk out zs).length<=16777216/\∀ Hf' H',Ext Hf H Hf' H'->Q (.str (zgk out zs)) H')->wpAny @1 X.A (joinParts out (evalEach es X.env)) (EP X pins σ Q) X.xe s
noncomputable def mFc (x:Str) (g:LS->Option LSt) (ρ:LS) : Option LSt:=(g ρ).map (x::·)
noncomputable def mFs (f:LS->Option LSt) (ρ:LS) : OD:=(f ρ).bind fun zs=>if (zgk Str.empty zs).length<=16777216 then some (.str (zgk Str.empty zs)) else none
theorem z2q : DFs c X [] nZ:=fun pins s σ H Q out I q_=>by
 obtain ⟨Hf0,H0,Hf,ρ,zs,st,ef,hz,k⟩:=q_
 exact (by
 cases ef;exact joinParts_nil ⟨.str out,H,I.tok _,⟨_,rfl⟩,k Hf H (Ext.refl st.sub)⟩ (by rw [sizeLine_eq]; exact hz))
variable {g:LS->Option LSt}
theorem z2p (hr:DFs c X es g) : DFs c X (.Constant (.str x) j pos::es) (mFc x g):=fun pins s σ H Q out I q_=>by
 obtain ⟨Hf0,H0,Hf,ρ,zs,st,ef,hz,k⟩:=q_
 exact (by
 unfold mFc at ef
 cases e1 : g ρ with
 | none=>rw [e1] at ef; cases ef
 | some ys =>
  rw [e1] at ef;cases ef;show wpAny _ _ (joinParts out (eval (.Constant (.str x) j pos) X.env::evalEach es X.env)) _ _ s;have h1:=zvu ys (out++x);have h2 : (zgk (out++x) ys).length<=16777216:=hz;refine joinParts_cons (Calls.Constant_str ⟨by rw [sizeLine_eq]; omega,?_⟩);exact hr pins _ σ H Q (out++x) (I.tok _) ⟨Hf0,H0,Hf,ρ,ys,st,e1,h2,k⟩)
theorem z2e {f:LS->Option LSt} (h:DFs c X (a::b::es) f) : DE c X (.JoinedStr (a::b::es) pos) (mFs f):=fun pins s σ H Q I q_=>by
 obtain ⟨Hf0,H0,Hf,ρ,d,st,ef,k⟩:=q_
 exact (by
 unfold mFs at ef
 cases e1 : f ρ with
 | none=>rw [e1] at ef; cases ef
 | some zs =>
  rw [e1,bind_some] at ef;split at ef
  ·rename_i hz;cases ef;exact JoinedStr_many (h pins s σ H Q Str.empty I ⟨Hf0,H0,Hf,ρ,zs,st,e1,hz,fun Hf' H' x=>k _ Hf' H' x rfl⟩)
  ·cases ef)
open Classical in
noncomputable def zmi (m:Addr->LD->LD->LD->Option (LD×D)) (f:MF2) (ρ:LS) : OD:=(f ρ).bind fun xs=>if h : ∃ q,∀ l,m l [] [] xs=some q then some h.choose.2 else none
variable {f:Addr} {lp:Pos} {m:Addr->LD->LD->LD->Option (LD×D)}
theorem ya5 (pk:Pk X.prog X.w X.K X.mg X.base CX0 k x (f,fd) ps (spM (Gx c X) 0 ps.length m)) (hr0:zbl k0 X.A) (ha:DA c X es fa) (hl:1=ps.length:=by rfl) (hz:es.length<=1000:=by exact Nat.le_of_ble_eq_true rfl) (hdb:NDb x:=by decide) (he:starEach [.List es lp] X.env=(false,eval (.List es lp) X.env)::starEach [] X.env:=by rfl) (hpl:(backTo pos (starEach [] X.env)).any (·.1)=false:=by rfl) (hk0:k<=k0:=by decide) (hg:Gl X x:=by first | rfl | exact glc rfl) :
  DE c X (.Call (.Name x p) [.List es lp] [] pos) (zmi m fa):=PE.imp (zh2 pk.ok (hr0.mono hk0) hg pk.g pk.kp pk.b .nil zfu (zbv (zm4 ha.pa) zcd he) hdb he hpl) fun σ H Q q_=>by
 obtain ⟨Hf0,H0,Hf,ρ,d,st,ef,kq⟩:=q_;unfold zmi at ef
 cases e1 : fa ρ with
 | none=>rw [e1] at ef; cases ef
 | some xs =>
  rw [e1,bind_some] at ef;split at ef
  ·rename_i hq;cases ef;have hs:=hq.choose_spec;generalize hq.choose=q at hs kq;refine ⟨Hf0,H0,Hf,ρ,xs,st,e1,fun vs Hf1 H1 x1 r1=>⟨?_,fun l hl'=>?_⟩⟩
   ·rw [<- r1.length,ha.len ρ xs e1];exact Nat.le_of_lt (zng hz)
   ·dsimp only
    have hd : zcz (upd H1 l (.lst vs)) l=H1:=by
     funext b
     by_cases hb' : b=l
     ·subst hb'; rw [zl1,hl']
     ·rw [zrx hb',zbs hb']
    have hn : 0 + 1 + ([] : LD).length=ps.length:=by show 1=_; exact hl
    exact ⟨Hf1,[],[],xs,q.1,q.2,l,vs,[],[],rfl,x1.s.trans (zc9 hl'),x1.s.free hl',zb8,rfl,rfl,r1,rfl,hn,hs l,fun v Hf3 H3 us3 x3 hf3 hu3 rx3 r3=>by rw [hd] at x3; exact kq v Hf3 H3 (x1.trans x3) r3⟩
  ·cases ef
theorem zl3 (i:Nat) {g:Xa} (hr:DAX c @0 es g) (hN:Nc[i]?=some x:=by rfl) (hv:Vis scope x:=by first | exact Or.inl rfl | exact Or.inr (Or.inl rfl) | exact Or.inr (Or.inr rfl)) (hd:NDb x:=by decide)
  (hcd:NCd x:=by decide) (hs:starEach (.Name x pos::es) (X.comp scope Nc cl C ex s₂ H₂).env=(false,eval (.Name x pos) (X.comp scope Nc cl C ex s₂ H₂).env)::starEach es (X.comp scope Nc cl C ex s₂ H₂).env:=by rfl) : DMX c @0 (.Name x pos::es) i g :=
 ⟨PA.imp (zbv (pvc i hN hv hd hcd) hr.pa hs) fun σ H Q ⟨Hf0,H0,Hf,ρ,ds,ρ',l,st,el,ef,k⟩=>⟨_,el,Hf0,H0,Hf,ρ,ds,ρ',st,ef,fun vs Hf' H' f1 st1 r=>k vs Hf' H' f1 st1 r⟩,fun ρ ds ρ' h=>by
  rw [length_cons,hr.len ρ ds ρ' h]⟩
theorem yce (Fn:Fun K x qual st f fd) (S:za1 N ps (zau st)) : zcn P w K mg base CX0 (k + 1) f fd ps (spD G ps.length fun _=>none) :=
 Fn.ok S (fun vs H Q E ⟨Hf,ds,d,s0,r,hn,e,_⟩=>by cases e) fun cdv A outer s H vs Q E hr ⟨Hf,ds,d,s0,r,hn,e,kq⟩=>by cases e
def z9n (G:Gc) (Hf H:Hp) (σ:St) (ρ:LS) (a:Addr) : Prop:=∀ (j:Nat) (t:Sl) (w:V),ρ[j]?=some t->σ[j]?=some (some w)->Holds G Hf H t w a->False
structure Ls (G:Gc) (Hf0 H0 Hf Hl H:Hp) (σ:St) (ρ:LS) (v:V) (d:D) : Prop where
 so : zao G Hf0 H0 Hf H σ ρ
 rep : Rep G Hl d v
 sub : zav Hl H
 fr : ∀ a us,Hl a=some (.lst us)->H0 a=none/\Hf a=none/\z9n G Hf H σ ρ a
def tML (G:Gc) (i:Nat) (f:Xa) : TA:=fun σ H Q=>∃ Hf0 H0 Hf ρ ds ρ' l,zao G Hf0 H0 Hf H σ ρ/\σ[i]?=some (some (.ref l))/\f ρ=some (ds,ρ')/\∀ vs Hf' H',zav Hf Hf'->zao G Hf0 H0 Hf' H' σ ρ'->zan G Hf' ds vs->Q (vs++[.ref l]) H'
structure DML (c:Str->Addr) (X:Cx) (es:LEx) (i:Nat) (f:Xa) : Prop where
 pa : PA X es (tML (Gx c X) i f)
 len : ∀ ρ ds ρ',f ρ=some (ds,ρ')->ds.length + 1=es.length
noncomputable def zij (i:Nat) (m:Addr->LD->LD->LD->Option (LD×D)) (f:Xa) : Xe:=fun ρ=>match ρ[i]? with
 | some (.pin _ _)=>(f ρ).bind fun p=>match p.2[i]? with
  | some (.pin l xs)=>(m l p.1 [] xs).map fun q=>(q.2,p.2.set i (.pin l q.1))
  | _=>none
 | _=>none
open Classical in
noncomputable def zjk (i:Nat) (m:Addr->LD->LD->LD->Option (LD×D)) (f:Xa) : Xe:=fun ρ=>match ρ[i]? with
 | some (.own _)=>(f ρ).bind fun p=>match p.2[i]? with
  | some (.own xs)=>if h : ∃ q,∀ l,m l p.1 [] xs=some q then some (h.choose.2,p.2.set i (.own h.choose.1)) else none
  | _=>none
 | _=>none
theorem zkc (i:Nat) (hN:X.N[i]?=some x:=by rfl) (hv:Vis X.env.scope x:=by first | exact Or.inl rfl | exact Or.inr (Or.inl rfl) | exact Or.inr (Or.inr rfl)) (hd:NDb x:=by decide)
  (hcd:NCd x:=by decide) (hs:starEach [.Name x pos] X.env=(false,eval (.Name x pos) X.env)::starEach [] X.env:=by rfl) : DML c X [.Name x pos] i zaa :=
 ⟨PA.imp (zbv (ziq hN hv hd hcd) zcd hs) fun σ H Q q_=>by
  obtain ⟨Hf0,H0,Hf,ρ,ds,ρ',l,st,el,ef,k⟩:=q_;cases ef;exact ⟨_,el,k [] Hf H (zav.refl _) st rfl⟩,fun ρ ds ρ' h=>by cases h; rfl⟩
theorem zid {g:Xe} {h':Xa} (ha:DX c X e g) (hr:DML c X es i h') (hs:StE X e es:=by rfl) : DML c X (e::es) i (zad g h'):=by
 refine ⟨PA.imp (zbv ha hr.pa hs) fun σ H Q q_=>?_,fun ρ ds ρ' h=>?_⟩
 ·obtain ⟨Hf0,H0,Hf,ρ,ds,ρ',l,st,el,ef,k⟩:=q_;obtain ⟨d,r,ρ1,e1,e2,rfl⟩:=zsq ef;exact ⟨Hf0,H0,Hf,ρ,d,ρ1,st,e1,fun v Hf1 H1 f1 st1 r1=>⟨Hf0,H0,Hf1,ρ1,r,ρ',l,st1,el,e2,fun vs Hf2 H2 f2 st2 r2=>k (v::vs) Hf2 H2 (f1.trans f2) st2 (.cons (r1.up f2) r2)⟩⟩
 ·obtain ⟨d,r,ρ1,e1,e2,rfl⟩:=zsq h;rw [length_cons,length_cons,hr.len ρ1 r ρ' e2]
variable {fa:Xa}
theorem zo2 (pk:Pk X.prog X.w X.K X.mg X.base CX0 k x (f,fd) ps (spM (Gx c X) n0 ps.length m)) (hr0:zbl k0 X.A) (ha:DML c X (e::es) i fa) (hl:(e::es).length=ps.length:=by rfl) (h0:(e::es).length=n0 + 1:=by rfl) (hdb:NDb x:=by decide) (he:StE X e es:=by rfl) (hpl:BkE X pos es:=by rfl) (hk0:k<=k0:=by decide) (hg:Gl X x:=by first | rfl | exact glc rfl) :
  DX c X @8 (zij i m fa):=PE.imp @9 fun σ H Q q_=>by
 obtain ⟨Hf0,H0,Hf,ρ,d,ρ',st,ef,kq⟩:=q_;unfold zij at ef;split at ef
 ·rename_i l0 xs0 eo0
  cases e1 : fa ρ with
  | none=>rw [e1] at ef; cases ef
  | some pp =>
   obtain ⟨ds,ρ1⟩:=pp;rw [e1,bind_some] at ef;dsimp only at ef;split at ef
   ·rename_i l xs eo
    cases e2 : m l ds [] xs with
    | none=>rw [e2] at ef; cases ef
    | some q =>
     rw [e2] at ef;cases ef;obtain ⟨l1,el,_,_,_,_,_,_⟩:=st.ownAt (s:=.pin l0 xs0) rfl eo0;refine ⟨Hf0,H0,Hf,ρ,ds,ρ1,l1,st,el,e1,fun vs Hf' H' f1 st1 r=>?_⟩;dsimp only;rw [append_nil];obtain ⟨l2,el2,h02,hf2,eq2,us2,hu2,rx2⟩:=st1.ownAt (s:=.pin l xs) rfl eo;subst eq2;rw [el] at el2;cases el2;have hn:=ha.len ρ ds _ e1;exact ⟨Hf',ds,[],xs,q.1,q.2,l1,us2,vs,[],rfl,st1.sub,hf2,hu2,r,rfl,rx2,by omega,by rw [length_nil]; omega,e2,fun v Hf3 H3 us3 x3 hf3 hu3 rx3 r3=>kq v Hf3 H3 (f1.trans x3.f) (st1.back (s:=.pin l1 xs) (s':=.pin l1 q.1) rfl rfl eo el x3 hf3 ⟨rfl,us3,hu3,rx3⟩) r3⟩
   ·cases ef
 ·cases ef
theorem z24 (pk:Pk X.prog X.w X.K X.mg X.base CX0 k x (f,fd) ps (spM (Gx c X) n0 ps.length m)) (hr0:zbl k0 X.A) (ha:DML c X (e::es) i fa) (hl:(e::es).length=ps.length:=by rfl) (h0:(e::es).length=n0 + 1:=by rfl) (hdb:NDb x:=by decide) (he:StE X e es:=by rfl) (hpl:BkE X pos es:=by rfl) (hk0:k<=k0:=by decide) (hg:Gl X x:=by first | rfl | exact glc rfl) :
  DX c X @8 (zjk i m fa):=PE.imp @9 fun σ H Q q_=>by
 obtain ⟨Hf0,H0,Hf,ρ,d,ρ',st,ef,kq⟩:=q_;unfold zjk at ef;split at ef
 ·rename_i xs0 eo0
  cases e1 : fa ρ with
  | none=>rw [e1] at ef; cases ef
  | some pp =>
   obtain ⟨ds,ρ1⟩:=pp;rw [e1,bind_some] at ef;dsimp only at ef;split at ef
   ·rename_i xs eo;split at ef
    ·rename_i hq;have e2:=hq.choose_spec;generalize hq.choose=q at ef e2;cases ef;obtain ⟨l1,el,_,_,_,_,_⟩:=st.ownAt (s:=.own xs0) rfl eo0;refine ⟨Hf0,H0,Hf,ρ,ds,ρ1,l1,st,el,e1,fun vs Hf' H' f1 st1 r=>?_⟩;dsimp only;rw [append_nil];obtain ⟨l2,el2,h02,hf2,us2,hu2,rx2⟩:=st1.ownAt (s:=.own xs) rfl eo;rw [el] at el2;cases el2;have hn:=ha.len ρ ds _ e1;exact ⟨Hf',ds,[],xs,q.1,q.2,l1,us2,vs,[],rfl,st1.sub,hf2,hu2,r,rfl,rx2,by omega,by rw [length_nil]; omega,e2 l1,fun v Hf3 H3 us3 x3 hf3 hu3 rx3 r3=>kq v Hf3 H3 (f1.trans x3.f) (st1.back (s:=.own xs) (s':=.own q.1) rfl rfl eo el x3 hf3 ⟨us3,hu3,rx3⟩) r3⟩
    ·cases ef
   ·cases ef
 ·cases ef
variable {Ar:Around} {Ex:PRS}
theorem yly {Mo:Model} {st:Shared} {x y:Value} {T id:String} {Q:PRS} (hx:st.TypeIs x T) (hy:st.TypeIs y T) (sl:Slot T (dunderI "add") id) (sq:isSeqSlot (some (.builtin id))=true)
  (nf:fillsNumberSlot (.type T) "add"=pure false) (go:wpAny Mo Ar (call (.builtin id) [x,y]) Q Ex st) : wpAny Mo Ar (inplaceOp .Add x y) Q Ex st:=by
 have no : fillsInplaceSlot (.type T) "add" true=pure false:=by
  simp only [fillsInplaceSlot,sl.lookup,pure_bind,sq];rfl
 unfold inplaceOp;apply wpAny_holding;refine wpAny_bind (wpAny_typeOf hx (wpAny_bind (wpAny_of_eq no (?_ : wpAny Mo Ar (ite (false=true) _ _) Q Ex st))));rw [if_neg (by decide)];exact wpAny_bind (wpAny_binaryOp1_none (nm:="add") hx hy nf (wpAny_bind (wpAny_of_eq (PySem.seqSlot_of sl.lookup sq) (wpAny_bind (wpAny_rule go)))))
def yic : TIp:=fun x y H Q=>∃ l b xs zs,x=.ref l/\y=.ref b/\H l=some (.lst xs)/\H b=some (.lst zs)/\xs.length + zs.length<=sizeLine/\Q (.ref l) (upd H l (.lst (xs++zs)))
theorem ydk : PIp X .Add yic:=by
 rintro pins s σ H _ _ v u Q I rx ry ⟨l,b,xs,zs,rfl,rfl,h1,h2,hz,q⟩;cases rx;cases ry;obtain ⟨_,its,n,r,hl,e⟩:=I.lstM h1;obtain ⟨_,its2,n2,r2,hl2,e2⟩:=I.lstM h2;have hsz : its.toArray.size + its2.toArray.size<=sizeLine:=by simp only [size_toArray]; omega
 refine yly (T:="list") ⟨_,e,rfl⟩ ⟨_,e2,rfl⟩ F.slot_list_iadd (by decide +kernel) noFill_list_add (call_meets F.slot_list_iadd ⟨_,e,rfl⟩ F.entry_list_iadd (F.args_list_iadd_2 _ _)
  (AutoSeq1.list___iadd___list_list_0 l its.toArray n b its2.toArray n2 (by rw [ye4 hsz]; simp) (by simp only [size_toArray]; omega) (by omega)) ⟨e,e2,.ref l,_,I.lset (its':=its++its2) h1 e (by simp) (r.append r2) (by rw [length_append]; omega),rfl,q⟩)
noncomputable def zfn (i:Nat) (f:Xe) (ρ:LS) : Option Fl:=match ρ[i]? with
 | some (.own _)=>(f ρ).bind fun p=>match p.2[i]?,p.1 with
  | some (.own xs),.lst ys=>if xs.length + ys.length<=16777216 then some (.nx (p.2.set i (.own (xs++ys)))) else none
  | _,_=>none
 | _=>none
theorem zki (i:Nat) {f:Xe} (hN:X.N.Nodup) (he:DX c X e f) (hi:X.N[i]?=some x:=by rfl) (hx:Loc X.env.scope x:=by first | exact Or.inl rfl | exact Or.inr rfl) (hf:LcF X x:=by first | exact .inl rfl | exact .inr rfl) :
  DS c X (.AugAssign (.Name x pos') .Add e pos) (zfn i f):=PS.imp (z6l hN hi hx he ydk hf) fun E σ H q_=>by
 obtain ⟨Hf0,H0,Hf,ρ,o,so,ef,k⟩:=q_;unfold zfn at ef;split at ef
 ·rename_i xs0 es0
  cases e1 : f ρ with
  | none=>rw [e1] at ef; cases ef
  | some p =>
   rw [e1,bind_some] at ef;split at ef
   ·rename_i xs ys es ed;split at ef
    ·rename_i hl;cases ef;obtain ⟨l,e2,h0,hf,vs0,q0,r0⟩:=so.ownAt (s:=.own xs0) rfl es0;obtain ⟨d,ρ1⟩:=p;dsimp only at ed es;subst ed;refine ⟨_,e2,Hf0,H0,Hf,ρ,_,ρ1,so,e1,fun v Hf' H' s so' r'=>?_⟩;obtain ⟨l2,e3,h02,hf2,vs,q,r⟩:=so'.ownAt (s:=.own xs) rfl es;rw [e2] at e3;cases e3;obtain ⟨b,zs,rfl,hb,rz⟩:=r';refine ⟨l,b,vs,zs,rfl,rfl,q,so'.sub _ _ hb,by rw [sizeLine_eq,<- r.length,<- rz.length]; exact hl,?_⟩
     have es' : σ.set i (some (.ref l))=σ:=by
      apply ext_getElem?;intro j
      by_cases hj : j=i
      ·subst hj;rw [List.getElem?_set_self ((gq e2).1),e2]
      ·rw [List.getElem?_set_ne (Ne.symm hj)]
     show E.nx (List.set σ i (some (V.ref l))) _;rw [es'];exact k σ Hf' _ s (so'.mutd (s:=.own xs) (s':=.own (xs++ys)) rfl rfl es e2 ⟨vs++zs,zb8,r.append rz⟩)
    ·cases ef
   ·cases ef
 ·cases ef
noncomputable def zpe (i:Nat) (f g:Xe) (ρ:LS) : Option Fl:=(f ρ).bind fun p=>(g p.2).bind fun q=>match p.1,q.1 with
 | .lst a,.lst b=>if a.length + b.length<=16777216 then some (.nx (q.2.set i (.own (a++b)))) else none
 | _,_=>none
variable {pos2:Pos}
theorem ybm (i:Nat) {f g:Xe} (hN:X.N.Nodup) (ha:DX c X a f) (hb:DX c X b g) (hi:X.N[i]?=some x:=by rfl) (hx:Loc X.env.scope x:=by first | exact Or.inl rfl | exact Or.inr rfl)
  (hs:swapsWith (.BinOp a .Add b pos2) (some (.Name x pos')) pos.line X.env=pure false:=by rfl) (hf:LcF X x:=by first | exact .inl rfl | exact .inr rfl) :
  DS c X (.Assign [.Name x pos'] (.BinOp a .Add b pos2) pos) (zpe i f g):=PS.imp (zjt hN hi hx (zt9 zyd ha hb) hs hf) fun E σ H q_=>by
 obtain ⟨Hf0,H0,Hf,ρ,o,so,ef,k⟩:=q_;unfold zpe at ef
 cases e1 : f ρ with
 | none=>rw [e1] at ef; cases ef
 | some p =>
  obtain ⟨d,ρ1⟩:=p;rw [e1,bind_some] at ef;dsimp only at ef
  cases e2 : g ρ1 with
  | none=>rw [e2] at ef; cases ef
  | some q =>
   obtain ⟨d',ρ2⟩:=q;rw [e2,bind_some] at ef;dsimp only at ef;split at ef
   ·split at ef
    ·rename_i xs ys hl;cases ef;refine ⟨Hf0,H0,Hf,ρ,_,ρ1,so,e1,fun v Hf1 H1 f1 st1 r1=>⟨Hf0,H0,Hf1,ρ1,_,ρ2,st1,e2,fun u Hf2 H2 f2 st2 r2=>?_⟩⟩;obtain ⟨l,vs,rfl,q1,s1⟩:=r1.up f2;obtain ⟨m,us,rfl,q2,s2⟩:=r2;refine ⟨l,m,vs,us,rfl,rfl,st2.sub _ _ q1,st2.sub _ _ q2,by rw [sizeLine_eq,<- s1.length,<- s2.length]; exact hl,fun p hp=>?_⟩;exact k _ Hf2 _ (f1.trans f2) (st2.setOwn (s:=.own (xs++ys)) rfl (Ext.tmp st2.sub hp) hp (st2.sub.free hp) ⟨vs++us,zb8,s1.append s2⟩)
    ·cases ef
   ·cases ef
def CX1 (P:Program) (w:World) : CXT:=fun outer H s E e s'=>∃ a cls a0 H' B,e=.ref a/\Heap.FlyingW B outer a cls a0 s'.heap/\s'.os=s.os/\AllBare s'.gens/\Un (frs outer) [] H H' s.heap s'.heap/\HOk P w H' s'.heap /\
 (∀ b,H' b≠none->B.get? b≠none)/\(∀ b o,s.heap.get? b=some o->b∉frs outer->B.get? b≠none)/\E cls none H'
variable {h:Heap}
theorem zd5.obj {a:Addr} {o:HO} (x:zd5 P w H h a o) : ∃ u,h.get? a=some u:=by
 cases o with
 | lst xs=>obtain ⟨_,_,_,_,e⟩:=x; exact ⟨_,e⟩
 | tup xs=>obtain ⟨_,_,_,o,e,_⟩:=x; exact ⟨_,e⟩
 | set S n=>obtain ⟨o,_,_,_,e,_⟩:=x; exact ⟨_,e⟩
 | ins C dx fs=>obtain ⟨_,_,_,e,_⟩:=x; exact ⟨_,e⟩
 | own y=>obtain ⟨_,e⟩:=x; exact ⟨_,e⟩
 | xd fs=>obtain ⟨_,⟨_,_,_,e,_⟩,_⟩:=x; exact ⟨_,e⟩
 | rng lo hi=>obtain ⟨_,_,_,e⟩:=x; exact ⟨_,e⟩
 | frz o u=>exact ⟨_,x.1⟩
 | tbl ps=>exact ⟨_,x⟩
 | met f y=>exact ⟨_,x⟩
 | ext φ=>exact x.2.1
variable {E:XK} {cls a0:Value}
theorem zvz {G:LAd} {a:Addr} (J:Inv X pins σ H s) (hex:X.ex=[]) (hst:∀ b∈frs X.stack,b∈G) (hun:∀ b∈G,H b=none)
  (hnew:∀ b∈G,∀ o,X.s₀.heap.get? b=some o->b∈X.fs) (hfl:Heap.FlyingW (W.hideAll s.heap G) X.outer a cls a0 h') (hup:s.heap.UpToSlots h') (hE:E cls none H) :
  CX1 X.prog X.w X.outer X.H₀ X.s₀ E (.ref a) { s with heap:=h' }:=by
 have stay : ∀ b o,s.heap.get? b=some o->b∉G->h'.get? b=some o:=fun b o e n=>hfl.1 b o (W.hideAll_get _ e n)
 have frame : ∀ b o,s.heap.get? b=some o->b∈X.fs->∃ sl,h'.get? b=some { o with slots:=sl }:=fun b o e hb=>by
  refine hup b o e fun vs hv=>?_;obtain ⟨_,o',ho',hd⟩:=J.funs.mem hb;rw [e] at ho';cases ho';exact hd vs hv
 have hb:=J.base;rw [hex] at hb;have ne : ∀ b : Addr,b∉([] : LAd):=fun b h=>by cases h
 refine ⟨a,cls,a0,H,_,rfl,hfl,J.os,J.bare,⟨fun b o e n hf _=>?_,fun b o e n hf _=>?_,hb.free,fun b o e _=>?_,hb.tups,hb.frzs,hb.tbls⟩,fun b o e=>?_,fun b hb'=>?_,fun b o e hf=>?_,hE⟩
 ·exact stay b o (hb.keep b o e n hf (ne b)) fun hG=>hf (hnew b hG o e)
 ·obtain ⟨sl,h1⟩:=hb.slot b o e n hf (ne b);obtain ⟨sl2,h2⟩:=frame b _ h1 hf;exact ⟨sl2,h2⟩
 ·obtain ⟨o',h1⟩:=hb.there b o e (ne b)
  by_cases hG : b∈G
  ·obtain ⟨sl,h2⟩:=frame b o' h1 (hnew b hG o e);exact ⟨_,h2⟩
  ·exact ⟨o',stay b o' h1 hG⟩
 ·refine (J.hok b o e).stay (fun c u hc hu=>stay c u hu fun hG=>?_) (fun _ q=>q) fun _ _ q=>q
  rcases hc with rfl | hc
  ·rw [hun _ hG] at e; cases e
  ·rw [hun _ hG] at hc; cases hc
 ·cases eb : H b with
  | none=>exact absurd eb hb'
  | some o =>
   obtain ⟨u,hu⟩:=(J.hok b o eb).obj;rw [W.hideAll_get _ hu fun hG=>by rw [hun _ hG] at eb; cases eb];exact fun z=>by cases z
 ·obtain ⟨o',h1⟩:=hb.there b o e (ne b);rw [W.hideAll_get _ h1 fun hG=>hf (hnew b hG o e)];exact fun z=>by cases z
theorem zl9 {base h:Heap} {as:LAd} : ∀ {l:List Env},h.FunFrames base l->(∀ b∈frs l,b∈as)->h.FunFrames (W.hideAll h as) l
 | [],_,_=>trivial
 | env::l,⟨hk,⟨L,o,hf,_,ho,hd⟩,hr⟩,hin=>⟨hk,⟨L,o,hf,W.hideAll_none _ (hin L (by unfold frs; rw [filterMap_cons,hf]; exact mem_cons_self)),ho,hd⟩,zl9 hr fun b hb=>hin b (by unfold frs; rw [filterMap_cons,hf]; exact mem_cons_of_mem _ hb)⟩
theorem Inv.stkNew (J:Inv X pins σ H s) : ∀ b∈frs X.stack,∀ o,X.s₀.heap.get? b=some o->b∈X.fs:=fun b hb o e=>by
 rcases mem_cons.mp (J.stkSub b hb) with rfl | h
 ·exact absurd (Heap.lt_size e) (Nat.not_lt.mpr J.ok.above)
 ·exact h
theorem yd3 {e:Addr} {args:LVa} {Q:Unit->Shared->Prop} (J:Inv X pins σ H s) (hex:X.ex=[]) (hs:X.stack=X.env::X.outer) (hf:X.env.frame=some X.env.locals) (hx:Heap.MadeExcOf s.heap h e cls args) (hE:E cls none H)
  (hQ:∀ s',CX1 X.prog X.w X.outer X.H₀ X.s₀ E (.ref e) s'->Q () s') : wpAny M X.A (leaving X.env (.ref e)) Q Ex { s with heap:=h }:=by
 have fr:=J.ok.frames;rw [hs] at fr;have stk:=J.stack;refine wpAny_leaves_madeW (base:=W.hideAll s.heap (frs X.stack)) (h:=s.heap) fr hf (fun b o q=>W.of_hideAll _ q) (by rw [<- hs]; exact zl9 stk fun b hb=>hb) hx fun h' t f1 f2 f3 f4=>hQ _ ?_;have:=zvz (s:=s) J hex (fun b hb=>hb) J.stkFree J.stkNew f1 ((Heap.UpToSlots.of_keeps hx.keeps).trans f4) hE;exact this
variable {s':Shared}
theorem yd4 {e:Value} {Q:Unit->Shared->Prop} (I:Inv X pins σ H s) (hex:X.ex=[]) (hs:X.stack=X.env::X.outer) (hf:X.env.frame=some X.env.locals) (h:CX1 X.prog X.w X.stack H s E e s')
  (hQ:∀ s'',CX1 X.prog X.w X.outer X.H₀ X.s₀ E e s''->Q () s'') : wpAny M X.A (leaving X.env e) Q Ex s':=by
 obtain ⟨a,cls,a0,H',B,rfl,fl,os,bare,un,hok,kB,kS,hE⟩:=h;have J : Inv X pins σ H' s':=I.call' os un hok bare fun b z=>by cases z
 obtain ⟨f1,f2,f3,oe,vs,T,oT,ts,t1,t2,t3,t4,t5,t6,t7,t8,t9⟩:=fl;have fr:=J.ok.frames;rw [hs] at fr
 have inS : ∀ b o,X.s₀.heap.get? b=some o->b∉X.fs->B.get? b≠none:=fun b o e n=>by
  obtain ⟨o',h1⟩:=I.base.there b o e (by rw [hex]; exact fun z=>by cases z);refine kS b o' h1 fun hm=>n ?_;exact I.stkNew b hm o e
 have hG : ∀ b∈frs X.stack++[a,T],H' b=none:=fun b hb=>by
  rcases mem_append.1 hb with hb | hb
  ·exact J.stkFree b hb
  ·cases q : H' b with
   | none=>rfl
   | some o =>
    have:=kB b (by rw [q]; exact fun z=>by cases z)
    rcases mem_cons.1 hb with rfl | hb
    ·exact absurd f2 this
    ·rw [mem_singleton.1 hb] at this;exact absurd t5 this
 have hN : ∀ b∈frs X.stack++[a,T],∀ o,X.s₀.heap.get? b=some o->b∈X.fs:=fun b hb o e=>by
  rcases mem_append.1 hb with hb | hb
  ·exact J.stkNew b hb o e
  ·by_cases n : b∈X.fs
   ·exact n
   ·have:=inS b o e n
    rcases mem_cons.1 hb with rfl | hb
    ·exact absurd f2 this
    ·rw [mem_singleton.1 hb] at this;exact absurd t5 this
 have hfl : Heap.FlyingW (W.hideAll s'.heap (frs X.stack++[a,T])) (X.env::X.outer) a cls a0 s'.heap :=
  ⟨fun b o q=>W.of_hideAll _ q,W.hideAll_none _ (by simp),by rw [<- hs]; exact zl9 f3 fun b hb=>mem_append_left _ hb,oe,vs,T,oT,ts,t1,t2,t3,t4,W.hideAll_none _ (by simp),t6,t7,t8,t9⟩
 exact wpAny_leaves_onW fr hf hfl fun h' x1 x2=>hQ _ (zvz J hex (fun b hb=>mem_append_left _ hb) hG hN x1 x2 hE)
noncomputable abbrev z94 : LVa:=[.type "ValueError",.type "Exception",.type "BaseException",.type "object"]
noncomputable abbrev zd7 (K:W.Frag) (C:Addr) : Bool:=W.excIn K C z94 "ValueError.__new__"
variable {nid:String}
theorem zwk {bmB:LVa} (Xn:K.In h) (q:W.excIn K C bmB nid=true) :
  ∃ bm N nm qn bs hd sn sub ab col dd k0 k1 k2 k3 k5 mN,h.get? C=some (excClassObj nm qn C N bs bm hd sn sub ab col dd k0 k1 k2 k3 k5 nid)/\h.Ns N mN/\mN "__init__"=none/\OwnTail h bmB bm:=by
 unfold W.excIn at q;split at q
 ·rename_i dd cd sl ho;split at q
  ·rename_i C' bm k0 k1 k2 k3 n k5 hm hs;simp only [Bool.and_eq_true,beq_iff_eq,Bool.not_eq_true'] at q;obtain ⟨⟨⟨⟨⟨q1,q2⟩,q3⟩,q4⟩,q5⟩,q6⟩:=q;subst q1 q2
   cases cd with
   | mk nm bs mro ns qn hd sn sub ab col del =>
    dsimp only at hm q3 q5 q6;subst hm q3
    have es : sl=#[k0,k1,k2,k3,some (.builtin n),k5]:=by
     cases sl with
     | mk l=>dsimp only at hs; rw [hs]
    subst es;exact ⟨bm,ns,nm,qn,bs,hd,sn,sub,ab,col,dd,k0,k1,k2,k3,k5,_,Xn _ _ ho,.of_isNs (W.isNs_of_in Xn q5),W.nsMap_none_of_in Xn q5 q6,W.tail_of_in Xn q4⟩
  ·cases q
 ·cases q
def zvg (X:Cx) (C:Addr) (Wx:Hp->Prop) : Prop:=∀ (pins:PNS) (σ:St) (H:Hp) (s:Shared) (h:Heap) (a:Addr) (us:LVa),Inv X pins σ H s->Heap.MadeExcOf s.heap h a (.ref C) us->Wx H->X.xe (.ref a) { s with heap:=h }
variable {np cpos:Pos} {t:TA}
theorem yh1 {Wx:Hp->Prop} (hC:zd7 X.K C=true) (hc:X.calm=true) (hw:zvg X C Wx) (hg:Gl X x) (hm:X.mg x=some (.ref C)) (ha:PA X (e::es) t)
  (he:StE X e es:=by rfl) (hpl:(backTo cpos (starEach es X.env)).any (·.1)=false:=by rfl) (hdb:NDb x:=by decide) :
  PS X (.Raise (some (.Call (.Name x np) (e::es) [] cpos)) none pos) (fun _ σ H=>t σ H fun vs H'=>vs.length<=sizeLine/\Wx H'):=by
 intro pins s σ H D I h;obtain ⟨bm,N,nm,qn,bs,hd,sn,sub,ab,col,dd,k0,k1,k2,k3,k5,mN,h1,h2,h3,T⟩:=zwk I.ok.mod.kin hC
 refine wpAny_Raise_call_subT (C:=C) (nm:=nm) (q:=qn) (N:=N) (bs:=bs) (bm:=bm) (hdct:=hd) (sn:=sn) (sub:=sub) (ab:=ab) (col:=col) (dd:=dd) (k0:=k0) (k1:=k1) (k2:=k2) (k3:=k3) (k5:=k5)
  F.excBase_ValueError (mN:=mN) (T.hasType F.excBase_ValueError.hasBase) (I.ok.hd hc) (by rw [he]; show (false || (backTo cpos (starEach es X.env)).any (·.1))=false; rw [hpl]; rfl) h3 (zkp I hg hm ⟨rfl,?_⟩ hdb)
 rw [he];have ha':=ha cpos pins s σ H _ I h;rw [he] at ha';refine Calls.evalArgs_plain (thn ha' fun us s2 q_=>?_);obtain ⟨vs,H2,I2,r2,hz,q⟩:=q_;refine ⟨rfl,by rw [<- r2.length]; exact hz,I2.bk _ _ h1,h2.keeps I2.bk,T.keeps I2.bk,fun h' a hx=>hw pins σ H2 s2 h' a us I2 hx q⟩
variable {cdv:Value} {outer:List Env}
theorem zfv :
  zed (CX1 P w) (zen (CX1 P w) P w K mg base N qual scope f cdv A outer s H E) E:=fun pins σ H' s1 e s' I h=>yd4 I rfl rfl rfl h fun s'' q=>q
theorem zu8 :
  zvg (zen (CX1 P w) P w K mg base N qual scope f cdv A outer s H E) C (fun H'=>E (.ref C) none H'):=fun pins σ H' s1 h a us I hx q=>yd3 I rfl rfl rfl hx q fun s' q=>q
def tR (G:Gc) (C:Addr) (E:XK) (r:LS->Bool) (σ:St) (H:Hp) : Prop:=∃ Hf0 H0 Hf ρ,zao G Hf0 H0 Hf H σ ρ/\r ρ=true/\∀ Hf' H',Ext Hf0 H0 Hf' H'->E (.ref C) none H'
def RX (c:Str->Addr) (X:Cx) (C:Addr) (E:XK) (e:Expr) (r:LS->Bool) : Prop:=PE X e fun σ H _=>tR (Gx c X) C E r σ H
def RA (c:Str->Addr) (X:Cx) (C:Addr) (E:XK) (es:LEx) (r:LS->Bool) : Prop:=PA X es fun σ H _=>tR (Gx c X) C E r σ H
def RS (c:Str->Addr) (X:Cx) (C:Addr) (E:XK) (st:Stmt) (r:LS->Bool) : Prop:=PS X st fun _ σ H=>tR (Gx c X) C E r σ H
def RSs (c:Str->Addr) (X:Cx) (C:Addr) (E:XK) (st:List Stmt) (r:LS->Bool) : Prop:=PSs X st fun _ σ H=>tR (Gx c X) C E r σ H
noncomputable abbrev rNo : LS->Bool:=fun _=>false
theorem zu4 (h:tR G C E rNo σ H) : False:=by
 obtain ⟨_,_,_,_,_,e,_⟩:=h;cases e
noncomputable def zgt (r1:LS->Bool) (f:Xe) (r2:LS->Bool) (ρ:LS) : Bool:=r1 ρ || match f ρ with
 | some p=>r2 p.2
 | none=>false
noncomputable def zel (r1:LS->Bool) (F:MF3) (r2:LS->Bool) (ρ:LS) : Bool:=r1 ρ || match F ρ with
 | some (.nx ρ')=>r2 ρ'
 | _=>false
noncomputable def rIf (t:Xt) (ra rb:LS->Bool) (ρ:LS) : Bool:=match t ρ with
 | some (true,ρ')=>ra ρ'
 | some (false,ρ')=>rb ρ'
 | none=>false
noncomputable def rOf {α : Type} (f:LS->Option α) (ρ:LS) : Bool:=(f ρ).isSome
theorem PE.orR {t t':TE} (h:PE X e t) (h':PE X e t') : PE X e fun σ H Q=>t σ H Q\/t' σ H Q:=fun pins s σ H Q I q=>q.elim (h pins s σ H Q I) (h' pins s σ H Q I)
theorem PA.orR {t':TA} (h:PA X es t) (h':PA X es t') : PA X es fun σ H Q=>t σ H Q\/t' σ H Q:=fun pos pins s σ H Q I q=>q.elim (h pos pins s σ H Q I) (h' pos pins s σ H Q I)
theorem PS.orR {t t':TS} (h:PS X st t) (h':PS X st t') : PS X st fun D σ H=>t D σ H\/t' D σ H:=fun pins s σ H D I q=>q.elim (h pins s σ H D I) (h' pins s σ H D I)
theorem zp7 : RX c X C E e rNo:=fun _ _ _ _ _ _ q=>(zu4 q).elim
theorem z6w : RA c X C E es rNo:=fun _ _ _ _ _ _ _ q=>(zu4 q).elim
theorem znd : RS c X C E st rNo:=fun _ _ _ _ _ _ q=>(zu4 q).elim
section
variable {za9:List Stmt}
theorem zlc : RSs c X C E za9 rNo:=fun _ _ _ _ _ _ q=>(zu4 q).elim
end
variable {r1 r2:LS->Bool}
theorem zm9 {f:Xe} (hf:DX c X e f) (h1:RX c X C E e r1) (h2:RA c X C E es r2) (hs:StE X e es:=by rfl) : RA c X C E (e::es) (zgt r1 f r2):=PA.imp (zbv (PE.orR hf h1) h2 hs) fun σ H Q q=>by
 obtain ⟨Hf0,H0,Hf,ρ,so,er,k⟩:=q;unfold zgt at er
 rcases Bool.or_eq_true_iff.mp er with er | er
 ·exact .inr ⟨Hf0,H0,Hf,ρ,so,er,k⟩
 ·cases ef : f ρ with
  | none=>rw [ef] at er; cases er
  | some p =>
   rw [ef] at er;exact .inl ⟨Hf0,H0,Hf,ρ,p.1,p.2,so,ef,fun v Hf' H' s so' rr=>⟨Hf0,H0,Hf',p.2,so',er,k⟩⟩
variable {r:LS->Bool}
theorem zuk (h:RA c X C E es r) : RX c X C E (.Tuple es k' pos) r:=PE.imp (zua h) fun σ H Q q=>q
theorem z7g (h:RA c X C E es r) : RX c X C E (.List es pos) r:=PE.imp (zm4 h) fun σ H Q q=>q
variable {ra rb:LS->Bool}
theorem yje {t:Xt} (hc:DTX c X cd t) (ha:RX c X C E a ra) (hb:RX c X C E b rb) : RX c X C E (.IfExp cd a b pos) (rIf t ra rb):=PE.imp (zyg hc ha hb) fun σ H Q q=>by
 obtain ⟨Hf0,H0,Hf,ρ,so,er,k⟩:=q;unfold rIf at er
 cases et : t ρ with
 | none=>rw [et] at er; cases er
 | some p =>
  obtain ⟨tb,ρ'⟩:=p;rw [et] at er;refine ⟨Hf0,H0,Hf,ρ,tb,ρ',so,et,fun Hf' H' s so'=>?_⟩
  cases tb with
  | true=>exact ⟨Hf0,H0,Hf',ρ',so',er,k⟩
  | false=>exact ⟨Hf0,H0,Hf',ρ',so',er,k⟩
theorem zlb (h:RX c X C E e r) : RS c X C E (.Return (some e) pos) r:=PS.imp (zm5 h) fun D σ H q=>q
theorem yjb (h:RX c X C E e r) (hs:swapsWith e none pos.line X.env=pure false:=by rfl) : RS c X C E (.Expr e pos) r:=PS.imp (zer h hs) fun D σ H q=>q
theorem zp6 (i:Nat) (hN:X.N.Nodup) (h:RX c X C E e r) (hi:X.N[i]?=some x:=by rfl) (hx:Loc X.env.scope x:=by first | exact Or.inl rfl | exact Or.inr rfl) (hs:swapsWith e (some (.Name x pos')) pos.line X.env=pure false:=by rfl) (hf:LcF X x:=by first | exact .inl rfl | exact .inr rfl) :
  RS c X C E (.Assign [.Name x pos'] e pos) r:=PS.imp (zjt hN hi hx h hs hf) fun D σ H q=>q
section
variable {bs:List Stmt}
theorem zla {t:Xt} (hc:DTX c X cd t) (ha:RSs c X C E as ra) (hb:RSs c X C E bs rb) : RS c X C E (.If cd as bs pos) (rIf t ra rb):=PS.imp (zyk hc ha hb) fun D σ H q=>by
 obtain ⟨Hf0,H0,Hf,ρ,so,er,k⟩:=q;unfold rIf at er
 cases et : t ρ with
 | none=>rw [et] at er; cases er
 | some p =>
  obtain ⟨tb,ρ'⟩:=p;rw [et] at er;refine ⟨Hf0,H0,Hf,ρ,tb,ρ',so,et,fun Hf' H' s so'=>?_⟩
  cases tb with
  | true=>rw [if_pos rfl]; exact ⟨Hf0,H0,Hf',ρ',so',er,k⟩
  | false=>rw [if_neg (by decide)]; exact ⟨Hf0,H0,Hf',ρ',so',er,k⟩
end
section
variable {za9:List Stmt}
theorem zgu (hF:DS c X st F) (h1:RS c X C E st r1) (h2:RSs c X C E za9 r2) : RSs c X C E (st::za9) (zel r1 F r2):=PSs.imp (zub (PS.orR hF h1) h2) fun D σ H q=>by
 obtain ⟨Hf0,H0,Hf,ρ,so,er,k⟩:=q;unfold zel at er
 rcases Bool.or_eq_true_iff.mp er with er | er
 ·exact .inr ⟨Hf0,H0,Hf,ρ,so,er,k⟩
 ·split at er
  ·rename_i ρ' ef;exact .inl ⟨Hf0,H0,Hf,ρ,.nx ρ',so,ef,fun σ' Hf' H' s so'=>⟨Hf0,H0,Hf',ρ',so',er,k⟩⟩
  ·cases er
end
theorem zuh {fa:MF2} (hC:zd7 X.K C=true) (hc:X.calm=true) (hw:zvg X C fun H=>E (.ref C) none H) (hg:Gl X x) (hm:X.mg x=some (.ref C)) (ha:DA c X (e::es) fa) (hz:(e::es).length<=1000:=by exact Nat.le_of_ble_eq_true rfl)
  (he:StE X e es:=by rfl) (hpl:(backTo cpos (starEach es X.env)).any (·.1)=false:=by rfl) (hdb:NDb x:=by decide) :
  RS c X C E (.Raise (some (.Call (.Name x np) (e::es) [] cpos)) none pos) (rOf fa):=PS.imp (yh1 hC hc hw hg hm ha.pa he hpl hdb) fun D σ H q=>by
 obtain ⟨Hf0,H0,Hf,ρ,so,er,k⟩:=q;unfold rOf at er
 cases ef : fa ρ with
 | none=>rw [ef] at er; cases er
 | some ds =>
  refine ⟨Hf0,H0,Hf,ρ,ds,so,ef,fun vs Hf' H' x rr=>⟨?_,k Hf' H' (so.ext.trans x)⟩⟩;rw [<- rr.length,ha.len ρ ds ef];exact Nat.le_of_lt (zng hz)
def spR (G:Gc) (n:Nat) (C:Addr) (r:LD->Bool) : Sp:=fun vs H _ E=>∃ Hf ds,zav Hf H/\zan G Hf ds vs/\ds.length=n/\r ds=true/\∀ Hf' H',Ext Hf H Hf' H'->E (.ref C) none H'
def zni (G:Gc) (cn:Str) (ns:LSt) (n:Nat) (C:Addr) (r:Addr->LD->LD->Bool) : Sp:=fun vs H _ E=>∃ Hf ds xs l dx us vs1,vs=.ref l::vs1/\zav Hf H/\Hf l=none/\H l=some (.ins (G.cl cn) dx (ns.zip us))/\ns.length=us.length/\zan G Hf ds vs1/\zan G Hf xs us/\1 + ds.length=n/\r l ds xs=true /\
 ∀ Hf' H',Ext Hf (zcz H l) Hf' H'->E (.ref C) none H'
theorem Fun.okX {sp:Sp} (F:Fun K x qual st f fd) (S:za1 N ps (zau st)) (len:∀ vs H Q E,sp vs H Q E->vs.length=ps.length)
  (hbody:∀ (cdv:Value) (A:Around) (outer:List Env) (s:Shared) (H:Hp) (vs:List V) (Q:VK) (E:XK),zbl k (A.deeper (envOfC qual (zau st) s.heap.objs.size f cdv))->sp vs H Q E ->
   ∃ t,PSs (zen (CX1 P w) P w K mg base N qual (zau st) f cdv A outer s H E) (zfj st) t/\t { nx:=fun _ H'=>Q .non H',rt:=Q } (start N vs) H) : zcn P w K mg base (CX1 P w) (k + 1) f fd ps sp:=by
 obtain ⟨oc,od,kV,doc,pm,an,cdv,ct,osl,rfl,lk,hcd⟩:=F.ex;exact z3e lk hcd S len fun A outer s H vs Q E hr hsp=>hbody cdv A outer s H vs Q E hr hsp
theorem z3d (Fn:Fun K x qual st f fd) (S:za1 N ps (zau st))
  (h:∀ (cdv:Value) (A:Around) (outer:List Env) (s:Shared) (H:Hp) (E:XK),zbl k (A.deeper (envOfC qual (zau st) s.heap.objs.size f cdv))->RSs c (zen (CX1 P w) P w K mg base N qual (zau st) f cdv A outer s H E) C E (zfj st) r) (hn_:N.length=n_:=by rfl) :
  zcn P w K mg base (CX1 P w) (k + 1) f fd ps (spR ⟨K,c⟩ ps.length C fun ds=>r (zef n_ ds)):=by
 subst hn_;refine Fun.okX Fn S (fun vs H Q E q_=>by obtain ⟨Hf,ds,s0,rr,hn,_⟩:=q_; rw [<- rr.length]; exact hn) fun cdv A outer s H vs Q E hr q_=>?_;obtain ⟨Hf,ds,s0,rr,hn,e,kq⟩:=q_;refine ⟨_,h cdv A outer s H E hr,?_⟩;exact ⟨Hf,H,Hf,_,zao.start s0 rr,e,kq⟩
theorem zig (Fn:Fun K x qual st f fd) (S:za1 N ps (zau st))
  (h:∀ (cdv:Value) (A:Around) (outer:List Env) (s:Shared) (H:Hp) (E:XK),zbl k (A.deeper (envOfC qual (zau st) s.heap.objs.size f cdv))->RSs c (zen (CX1 P w) P w K mg base N qual (zau st) f cdv A outer s H E) C E (zfj st) r) (hn_:N.length=n_:=by rfl) :
  zcn P w K mg base (CX1 P w) (k + 1) f fd ps (zni ⟨K,c⟩ cn ns ps.length C fun l ds xs=>r (zff n_ l cn ns ds xs)):=by
 subst hn_;refine Fun.okX Fn S (fun vs H Q E q_=>by obtain ⟨Hf,ds,xs,l,dx,us,vs1,ev,s0,hf,hu,hz,rr,rx,hn,_⟩:=q_; rw [ev,length_cons,<- rr.length]; omega) fun cdv A outer s H vs Q E hr q_=>?_;obtain ⟨Hf,ds,xs,l,dx,us,vs1,ev,s0,hf,hu,hz,rr,rx,hn,e,kq⟩:=q_;refine ⟨_,h cdv A outer s H E hr,?_⟩;subst ev;exact ⟨Hf,zcz H l,Hf,_,zao.startMI s0 hf hu hz rr rx,e,kq⟩
theorem Ext.out (a:Ext Hf0 H0 Hf H) (h0:H0 l=none) (b:Ext Hf (zcz H l) Hf' H') : Ext Hf0 H0 Hf' H':=by
 have ne : ∀ x o,H0 x=some o->zcz H l x=some o:=fun x o e=>by
  have hx : x≠l:=fun z=>by subst z; rw [h0] at e; cases e
  unfold zcz;rw [if_neg hx];exact a.h x o e
 exact ⟨a.f.trans b.f,fun x o e=>b.h x o (ne x o e),b.s,fun x o e t=>(b.n x o (ne x o e) t).trans (a.n x o e t)⟩
noncomputable def zm6 (ra:LS->Bool) (r:LD->Bool) (fa:Xa) (ρ:LS) : Bool:=ra ρ || match fa ρ with
 | some p=>r p.1
 | none=>false
noncomputable def ze2 (i:Nat) (cn fl:Str) (ns:LSt) (r:Addr->LD->LD->Bool) (fa:Xa) (ρ:LS) : Bool:=match ρ[i]? with
 | some (.pino _ c0 n0 _)=>decide (c0=cn/\n0=ns/\ns.contains fl=false) && match fa ρ with
  | some p=>(match p.2[i]? with
   | some (.pino l c' n' xs)=>decide (c'=cn/\n'=ns) && r l p.1 xs
   | _=>false)
  | none=>false
 | _=>false
open Classical in
noncomputable def zk7 (i:Nat) (cn fl:Str) (ns:LSt) (r:Addr->LD->LD->Bool) (fa:Xa) (ρ:LS) : Bool:=match ρ[i]? with
 | some (.obj c0 n0 _)=>decide (c0=cn/\n0=ns/\ns.contains fl=false) && match fa ρ with
  | some p=>(match p.2[i]? with
   | some (.obj c' n' xs)=>decide (c'=cn/\n'=ns) && decide (∀ l,r l p.1 xs=true)
   | _=>false)
  | none=>false
 | _=>false
theorem z7f {r:LD->Bool} (pk:Pk X.prog X.w X.K X.mg X.base (CX1 X.prog X.w) k x (f,fd) ps (spR (Gx c X) ps.length C r)) (hp:zed (CX1 X.prog X.w) X E) (hr0:zbl k0 X.A) (ha:DAX c X (e::es) fa) (hra:RA c X C E (e::es) ra) (hl:(e::es).length=ps.length:=by rfl) (hdb:NDb x:=by decide) (he:StE X e es:=by rfl) (hpl:BkE X pos es:=by rfl) (hk0:k<=k0:=by decide) (hg:Gl X x:=by first | rfl | exact glc rfl) :
  RX c X C E @8 (zm6 ra r fa):=PE.imp (zh2 pk.ok (hr0.mono hk0) hg pk.g pk.kp pk.b .nil hp (PA.orR ha.pa hra) hdb he hpl) fun σ H Q q_=>by
 obtain ⟨Hf0,H0,Hf,ρ,so,er,kq⟩:=q_;unfold zm6 at er
 rcases Bool.or_eq_true_iff.mp er with er | er
 ·exact .inr ⟨Hf0,H0,Hf,ρ,so,er,kq⟩
 ·cases e1 : fa ρ with
  | none=>rw [e1] at er; cases er
  | some q =>
   obtain ⟨ds,ρ1⟩:=q;rw [e1] at er;refine .inl ⟨Hf0,H0,Hf,ρ,ds,ρ1,so,e1,fun vs Hf' H' f1 st1 rr=>?_⟩;dsimp only;rw [append_nil];exact ⟨Hf',ds,st1.sub,rr,(ha.len ρ ds _ e1).trans hl,er,fun Hf2 H2 x2=>kq Hf2 H2 (st1.ext.trans x2)⟩
variable {r:Addr->LD->LD->Bool}
section
variable {fl:Str}
theorem yi3 (ht:∀ σ H Q,znl (Gx c X) fa σ H Q->t σ H Q) (hn:∀ ρ ds ρ',fa ρ=some (ds,ρ')->1 + ds.length=ps.length) (q_:tR (Gx c X) C E (ze2 i cn fl ns r fa) σ H) : znm (c cn) fl (zni (Gx c X) cn ns ps.length C r) [] E (zc2 i) t σ H Q:=by
 obtain ⟨Hf0,H0,Hf,ρ,so,er,kq⟩:=q_;unfold ze2 at er;split at er
 ·rename_i l0 c0 n0 xs0 eo0;rw [Bool.and_eq_true,decide_eq_true_eq] at er;obtain ⟨⟨rfl,rfl,hno⟩,er⟩:=er
  cases e1 : fa ρ with
  | none=>rw [e1] at er; cases er
  | some pp =>
   obtain ⟨ds,ρ1⟩:=pp;rw [e1] at er;dsimp only at er;split at er
   ·rename_i l c' n' xs eo;rw [Bool.and_eq_true,decide_eq_true_eq] at er;obtain ⟨⟨rfl,rfl⟩,er⟩:=er;obtain ⟨l1,el,_,_,_,dx,us,hu,_,_⟩:=so.ownAt (s:=.pino l0 c' n' xs0) rfl eo0;refine ⟨_,el,l1,dx,n'.zip us,rfl,hu,zo7 hno,ht _ _ _ ⟨Hf0,H0,Hf,ρ,ds,ρ1,so,e1,fun vs Hf' H' f1 st1 rr=>?_⟩⟩;dsimp only;rw [append_nil];obtain ⟨l2,el2,h02,hf2,eq2,dx2,us2,hu2,hz2,rx2⟩:=st1.ownAt (s:=.pino l c' n' xs) rfl eo;subst eq2;rw [el] at el2;cases el2;exact ⟨Hf',ds,xs,l1,dx2,us2,vs,rfl,st1.sub,hf2,hu2,hz2,rr,rx2,hn _ _ _ e1,er,fun Hf2 H2 x2=>kq Hf2 H2 (st1.ext.out h02 x2)⟩
   ·cases er
 ·cases er
end
section
variable {fl:Str}
open Classical in
theorem yi2 (ht:∀ σ H Q,znl (Gx c X) fa σ H Q->t σ H Q) (hn:∀ ρ ds ρ',fa ρ=some (ds,ρ')->1 + ds.length=ps.length) (q_:tR (Gx c X) C E (zk7 i cn fl ns r fa) σ H) : znm (c cn) fl (zni (Gx c X) cn ns ps.length C r) [] E (zc2 i) t σ H Q:=by
 obtain ⟨Hf0,H0,Hf,ρ,so,er,kq⟩:=q_;unfold zk7 at er;split at er
 ·rename_i c0 n0 xs0 eo0;rw [Bool.and_eq_true,decide_eq_true_eq] at er;obtain ⟨⟨rfl,rfl,hno⟩,er⟩:=er
  cases e1 : fa ρ with
  | none=>rw [e1] at er; cases er
  | some pp =>
   obtain ⟨ds,ρ1⟩:=pp;rw [e1] at er;dsimp only at er;split at er
   ·rename_i c' n' xs eo;rw [Bool.and_eq_true,decide_eq_true_eq,decide_eq_true_eq] at er;obtain ⟨⟨rfl,rfl⟩,er⟩:=er;obtain ⟨l1,el,_,_,dx,us,hu,_,_⟩:=so.ownAt (s:=.obj c' n' xs0) rfl eo0;refine ⟨_,el,l1,dx,n'.zip us,rfl,hu,zo7 hno,ht _ _ _ ⟨Hf0,H0,Hf,ρ,ds,ρ1,so,e1,fun vs Hf' H' f1 st1 rr=>?_⟩⟩;dsimp only;rw [append_nil];obtain ⟨l2,el2,h02,hf2,dx2,us2,hu2,hz2,rx2⟩:=st1.ownAt (s:=.obj c' n' xs) rfl eo;rw [el] at el2;cases el2;exact ⟨Hf',ds,xs,l1,dx2,us2,vs,rfl,st1.sub,hf2,hu2,hz2,rr,rx2,hn _ _ _ e1,er l1,fun Hf2 H2 x2=>kq Hf2 H2 (st1.ext.out h02 x2)⟩
   ·cases er
 ·cases er
end
section
variable {fl:Str}
theorem zgv (ho:PE X o (zc2 i)) (pk:Pm X.prog X.w X.K X.mg X.base (CX1 X.prog X.w) k (c cn) fl (f,fd) ps (zni (Gx c X) cn ns ps.length C r)) (hp:zed (CX1 X.prog X.w) X E) (hr0:zbl k0 X.A) (hl:1=ps.length:=by rfl) (ht:eval (.Call (.Attribute o fl apos) [] [] pos) X.env=(do
   let ov <- eval o X.env
   standAt apos.atName
   let (f,first) <- holding [ov] (getMethod ov fl pl)
   callWith pos f first (backTo pos (starEach [] X.env)) (backToKw pos (keywordEach [] X.env))):=by rfl) (hk0:k<=k0:=by decide) :
  RX c X C E (.Call (.Attribute o fl apos) [] [] pos) (ze2 i cn fl ns r zaa):=PE.imp (zt8 ho pk.c pk.m pk.ok (hr0.mono hk0) pk.b .nil hp ht) fun σ H Q q_=>yi3 (fun σ H Q q_=>by obtain ⟨Hf0,H0,Hf,ρ,ds,ρ',st,ef,k⟩:=q_; cases ef; exact k [] Hf H (zav.refl _) st rfl) (fun ρ ds ρ' h=>by cases h; exact hl) q_
end
section
variable {fl:Str}
theorem z7h (ho:PE X o (zc2 i)) (pk:Pm X.prog X.w X.K X.mg X.base (CX1 X.prog X.w) k (c cn) fl (f,fd) ps (zni (Gx c X) cn ns ps.length C r)) (hp:zed (CX1 X.prog X.w) X E) (hr0:zbl k0 X.A) (hl:1=ps.length:=by rfl) (ht:eval (.Call (.Attribute o fl apos) [] [] pos) X.env=(do
   let ov <- eval o X.env
   standAt apos.atName
   let (f,first) <- holding [ov] (getMethod ov fl pl)
   callWith pos f first (backTo pos (starEach [] X.env)) (backToKw pos (keywordEach [] X.env))):=by rfl) (hk0:k<=k0:=by decide) :
  RX c X C E (.Call (.Attribute o fl apos) [] [] pos) (zk7 i cn fl ns r zaa):=PE.imp (zt8 ho pk.c pk.m pk.ok (hr0.mono hk0) pk.b .nil hp ht) fun σ H Q q_=>yi2 (fun σ H Q q_=>by obtain ⟨Hf0,H0,Hf,ρ,ds,ρ',st,ef,k⟩:=q_; cases ef; exact k [] Hf H (zav.refl _) st rfl) (fun ρ ds ρ' h=>by cases h; exact hl) q_
end
variable {g:Array GenState} {d:Drawn} {tk:Nat} {os:OsState} {nm qn nm2 qn2:Str} {N C2 N2 a:Addr} {bm bs2 bm2 sub sub2:LVa} {hd2 ab ab2:Bool} {sn sn2:LSt} {col col2:Option Bool} {dd dd2:Option Addr} {k0 k1 k2 k3 k5 j0 j1 j2 j3 j5:Option Value} {oe:Obj} {Q:Bool->Shared->Prop}
section
variable {bs:LVa} {hd:Bool}
theorem yb4 (hC:h.get? C=some (excClassObj nm qn C N bs bm hd sn sub ab col dd k0 k1 k2 k3 k5 nid)) (hC2:h.get? C2=some (excClassObj nm2 qn2 C2 N2 bs2 bm2 hd2 sn2 sub2 ab2 col2 dd2 j0 j1 j2 j3 j5 nid)) (he:h.get? a=some oe) (hcls:oe.cls=.ref C)
  (hB:bm2.contains (.type "BaseException")=true) (hin:(Value.ref C::bm).contains (.ref C2)=true) (hq:Q true ⟨h,g,d,tk,os⟩) : wpAny M Ar (excMatches (.ref a) (.ref C2)) Q Ex ⟨h,g,d,tk,os⟩:=by
 have c1 : (Value.ref C2::bm2).contains (.type "BaseException")=true:=by rw [contains_cons,hB,Bool.or_true]
 have nt:=tc_notTuple;unfold excMatches
 repeat (first | (with_reducible refine wpAny_loadPart_at he ?_; rw [hcls]) | (with_reducible refine wpAny_isSubtype_exc hC2 ?_; rw [c1]) | (with_reducible refine wpAny_isSubtype_exc hC ?_; rw [hin]) | (with_reducible refine wpAny_loadPart_at hC2 ?_) | wp_step)
 exact hq
end
theorem zwy {G:LAd} (J:Inv X pins σ H s) (hex:X.ex=[]) (hun:∀ b∈G,H b=none) (hnew:∀ b∈G,∀ o,X.s₀.heap.get? b=some o->b∈X.fs) (hpin:∀ p∈X.pn++pins,p.1∉G)
  (hk:(W.hideAll s.heap G).StaysIn h') (hup:s.heap.UpToSlots h') : Inv X pins σ H { s with heap:=h' }:=by
 have stay : ∀ b o,s.heap.get? b=some o->b∉G->h'.get? b=some o:=fun b o e n=>hk b o (W.hideAll_get _ e n)
 have frame : ∀ b o,s.heap.get? b=some o->b∈X.fs->∃ sl,h'.get? b=some { o with slots:=sl }:=fun b o e hb=>by
  refine hup b o e fun vs hv=>?_;obtain ⟨_,o',ho',hd⟩:=J.funs.mem hb;rw [e] at ho';cases ho';exact hd vs hv
 have cellK : ∀ c v,s.heap.IsCell c v->h'.IsCell c v:=fun c v q_=>by
  obtain ⟨o,ho,hd⟩:=q_;obtain ⟨sl,e⟩:=hup c o ho fun vs q=>by rw [hd] at q; cases q
  exact ⟨_,e,hd⟩
 have hb:=J.base;have ne : ∀ b : Addr,b∉X.ex:=fun b h=>by rw [hex] at h; cases h
 refine ⟨J.ok,J.os,J.bare,⟨fun b o e n hf _=>?_,fun b o e n hf _=>?_,hb.free,fun b o e _=>?_,hb.tups,hb.frzs,hb.tbls⟩,?_,fun x c e=>?_,J.free,J.freeC,fun p hp=>?_,fun b o e=>?_,J.len⟩
 ·exact stay b o (hb.keep b o e n hf (ne b)) fun hG=>hf (hnew b hG o e)
 ·obtain ⟨sl,h1⟩:=hb.slot b o e n hf (ne b);obtain ⟨sl2,h2⟩:=frame b _ h1 hf;exact ⟨sl2,h2⟩
 ·obtain ⟨o',h1⟩:=hb.there b o e (ne b)
  by_cases hG : b∈G
  ·obtain ⟨sl,h2⟩:=frame b o' h1 (hnew b hG o e);exact ⟨_,h2⟩
  ·exact ⟨o',stay b o' h1 hG⟩
 ·obtain ⟨m,hn,hl⟩:=J.loc;refine ⟨m,hup.ns hn,fun i x v e1 e2 e3=>?_⟩;obtain ⟨u,r,l⟩:=hl i x v e1 e2 e3;refine ⟨u,r,?_⟩
  rcases l with l | ⟨k,c,e,z⟩
  ·exact .inl l
  ·exact .inr ⟨k,c,e,cellK c _ z⟩
 ·obtain ⟨v,z⟩:=J.cell x c e;exact ⟨v,cellK c v z⟩
 ·obtain ⟨e,n,ne',nf,d⟩:=J.pin p hp;exact ⟨stay p.1 p.2 e (hpin p hp),n,ne',nf,d⟩
 ·refine (J.hok b o e).stay (fun c u hc hu=>stay c u hu fun hG=>?_) (fun _ q=>q) fun _ _ q=>q
  rcases hc with rfl | hc
  ·rw [hun _ hG] at e; cases e
  ·rw [hun _ hG] at hc; cases hc
variable {n:Str}
theorem ydd {v:Option Value} {m:MGT} (I:Inv X pins σ H s) (hN:X.N.Nodup) (hi:X.N[i]?=some n) (hm:s.heap.Ns X.env.locals m) (hl:∀ (j:Nat) (x:Str) (v:V),X.N[j]?=some x->σ[j]?=some (some v)->Vis X.env.scope x->∃ u,za7 v u/\z1b X.env s.heap m x u)
  (hn:h'.Ns X.env.locals fun x=>if x=n then v else m x) (hs:Heap.SameBut X.env.locals s.heap h') : Inv X pins (σ.set i none) H { s with heap:=h',toks:=tk }:=by
 have keep : ∀ b o,b≠X.env.locals->s.heap.get? b=some o->h'.get? b=some o:=fun b o hb e=>(hs.2 b hb).trans e;have neL : ∀ b o,X.s₀.heap.get? b=some o->b≠X.env.locals:=fun b o e=>Nat.ne_of_lt (Nat.lt_of_lt_of_le (Heap.lt_size e) I.ok.above);have nT : ∀ b u,H b=some u->b≠X.env.locals:=fun b u e z=>by rw [z,I.free] at e; cases e
 have cellK : ∀ x c,X.env.cells.lookup x=some c->∀ v,s.heap.IsCell c v->h'.IsCell c v:=fun x c e v ⟨o,ho,hd⟩=>⟨o,keep c o (I.cne x c e) ho,hd⟩;have hb:=I.base;refine ⟨I.ok,I.os,I.bare,⟨fun b o e q hf hx=>keep b o (neL b o e) (hb.keep b o e q hf hx),fun b o e q hf hx=>?_,hb.free,fun b o e hx=>?_,hb.tups,hb.frzs,hb.tbls⟩,⟨_,hn,fun j x w e1 e2 e3=>?_⟩,fun x c e=>?_,I.free,I.freeC,fun p hp=>?_,fun b o e=>?_,by rw [length_set]; exact I.len⟩
 ·obtain ⟨sl,h1⟩:=hb.slot b o e q hf hx;exact ⟨sl,keep b _ (neL b o e) h1⟩
 ·obtain ⟨o',h1⟩:=hb.there b o e hx;exact ⟨o',keep b o' (neL b o e) h1⟩
 ·have hj : j≠i:=fun z=>by
   subst z;have hlen:=(gq e1).1
   by_cases hs' : j < σ.length
   ·rw [List.getElem?_set_self hs'] at e2; cases e2
   ·rw [List.getElem?_eq_none (by rw [length_set]; omega)] at e2; cases e2
  rw [List.getElem?_set_ne (Ne.symm hj)] at e2;obtain ⟨u,r,l⟩:=hl j x w e1 e2 e3;refine ⟨u,r,?_⟩
  rcases l with ⟨k,l⟩ | ⟨k,c,e,z⟩
  ·have hx : x≠n:=fun z=>by
    subst z;obtain ⟨hj1,ej⟩:=gq e1;obtain ⟨hi1,ei⟩:=gq hi;exact hj ((List.getElem_inj hN).mp (ej.trans ei.symm))
   exact .inl ⟨k,by show (if x=n then v else m x)=_; rw [if_neg hx]; exact l⟩
  ·exact .inr ⟨k,c,e,cellK x c e _ z⟩
 ·obtain ⟨v,z⟩:=I.cell x c e;exact ⟨v,cellK x c e v z⟩
 ·obtain ⟨e,q,ne',nf,d⟩:=I.pin p hp;exact ⟨keep p.1 p.2 ne' e,q,ne',nf,d⟩
 ·refine (I.hok b o e).stay (fun c u hc hu=>keep c u ?_ hu) (fun _ q=>q) fun _ _ q=>q
  rcases hc with rfl | hc
  ·exact nT _ o e
  ·exact nT c _ hc
variable {Q:Unit->Shared->Prop}
theorem yev (I:Inv X pins σ H s) (hN:X.N.Nodup) (hi:X.N[i]?=some n) (hl:X.env.kindOf n=some .local) (hx:Loc X.env.scope n) (hf:X.fn n=true\/X.env.scope.names.lookup n=some .local) (h:∀ s',Inv X pins (σ.set i none) H s'->Q () s') :
  wpAny M Ar (do bindName X.env n .none; unbindBehindTheSuite X.env n pos) Q Ex s:=by
 have hcls : (X.env.scope.kind==.class || (X.env.scope.kind==.module && X.env.locals != X.env.globals))=false:=by rw [I.ok.kind]; rfl
 refine wpAny_bind (wpAny_bindName (zqg I hN hi hx (v:=.non) (u:=.none) rfl (fun s1 I1=>?_) hf));obtain ⟨m,hm,hlk⟩:=id I1.loc;have hin : i < σ.length:=by rw [I.len]; exact (gq hi).1
 have hmn : (m n).isSome=true:=by
  obtain ⟨u,_,l⟩:=hlk i n .non hi (List.getElem?_set_self hin) (by rcases hx with k | k; exact .inl k; exact .inr (.inl k))
  rcases l with ⟨_,e⟩ | ⟨k,_⟩
  ·rw [e]; rfl
  ·rw [hl] at k
   rcases k with k | k <;> cases k
 unfold unbindBehindTheSuite;refine wpAny_onRaise ?_;unfold unbindName;refine wpAny_bind (wpAny_point (wpAny_bind ?_));unfold deleteName;simp only [hl,hcls];rw [if_neg (by decide)];refine wpAny_bind (wpAny_nsDel_keeps hm fun h' v hn hs=>?_);rw [hmn];simp only [if_true,Bool.not_true,Bool.false_eq_true,if_false];refine wpAny_pure (wpAny_point (h _ ?_));have:=ydd (tk:=s1.toks) I1 hN hi hm hlk hn hs;rw [set_set] at this;exact this
noncomputable def zif (a:Addr) (C:Addr) : HO:=.ext fun h=>∃ o,h.get? a=some o/\o.cls=.ref C
noncomputable def zpl (K:W.Frag) (C:Addr) (v:Value) : Bool:=match K.lookup C with
 | some o=>(match o.data with
  | .cls cd=>cd.mro.contains v
  | _=>false)
 | none=>false
noncomputable abbrev Cx.hand (X:Cx) (a:Addr) : Cx:={ X with A:=X.A.mark (some (.ref a)),calm:=false,xe:=fun _ _=>False }
theorem z3w (a:Addr) (I:Inv X pins σ H s) : Inv (X.hand a) pins σ H s :=
 ⟨⟨I.ok.mod,I.ok.kind,I.ok.glob,I.ok.blt,I.ok.above,I.ok.inj,I.ok.has,I.ok.cab,(fun z=>by cases z),I.ok.frames,I.ok.stk,I.ok.exf,I.ok.bs,I.ok.bsz,I.ok.noex,I.ok.exfs,I.ok.funs,I.ok.frf⟩,I.os,I.bare,I.base,I.loc,I.cell,I.free,I.freeC,I.pin,I.hok,I.len⟩
theorem ydh (ok:X.Ok) (I:Inv (X.hand a) pins σ H s) : Inv X pins σ H s:=⟨ok,I.os,I.bare,I.base,I.loc,I.cell,I.free,I.freeC,I.pin,I.hok,I.len⟩
theorem ydg (I:Inv X pins σ H s) (hH:H a=none) (ho:∃ o,s.heap.get? a=some o/\o.cls=.ref C) (h0:∀ o,X.s₀.heap.get? a≠some o) (hL:a≠X.env.locals) (hc:∀ x c,X.env.cells.lookup x=some c->c≠a) (hp:∀ p∈X.pn++pins,p.1≠a) : Inv X pins σ (upd H a (zif a C)) s:=by
 have ne : ∀ b u,H b=some u->b≠a:=fun b u e z=>by rw [z,hH] at e; cases e
 have up : ∀ b u,H b=some u->upd H a (zif a C) b=some u:=fun b u e=>by rw [zbs (ne b u e)]; exact e
 have no : ∀ b,b≠a->H b=none->upd H a (zif a C) b=none:=fun b hb e=>by rw [zbs hb]; exact e
 have hb:=I.base;refine ⟨I.ok,I.os,I.bare,⟨hb.keep,hb.slot,fun b o e q hx=>no b (fun z=>h0 o (by rw [<- z]; exact e)) (hb.free b o e q hx),hb.there,fun b xs e=>up b _ (hb.tups b xs e),fun b o u e=>up b _ (hb.frzs b o u e),fun b ps e=>?_⟩,I.loc,I.cell,no _ (Ne.symm hL) I.free,fun x c e=>no c (hc x c e) (I.freeC x c e),fun p hp'=>?_,fun b o e=>?_,I.len⟩
 ·obtain ⟨more,h1⟩:=hb.tbls b ps e;exact ⟨more,up b _ h1⟩
 ·obtain ⟨e,q,r⟩:=I.pin p hp';exact ⟨e,no _ (hp p hp') q,r⟩
 ·by_cases z : b=a
  ·subst z;rw [zb8] at e;cases e;obtain ⟨ob,h1,h2⟩:=ho;exact ⟨⟨ob,h1,h2⟩,⟨ob,h1⟩,fun h1' h2' ⟨o',g1,g2⟩ k=>⟨o',k o' g1,g2⟩⟩
  ·rw [zbs z] at e;exact (I.hok b o e).stay (fun _ u _ hu=>hu) (fun c q=>up c _ q) fun c xs q=>up c _ q
variable {e:Value} {x2:Str} {hpos:Pos} {b₀:Stmt} {suite:List Stmt} {Good:Hp->Prop}
section
variable {E0:XK} {D:zhr}
theorem yal (I:Inv X pins σ H s) (hex:X.ex=[]) (hs:X.stack=X.env::X.outer) (hf:X.env.frame=some X.env.locals) (h:CX1 X.prog X.w X.stack H s E0 e s') (hE:∀ cls dx H',E0 cls dx H'->cls=.ref C/\Good H')
  (hC:zd7 X.K C=true) (hC2:zd7 X.K C2=true) (hm:zpl X.K C (.ref C2)=true) (hg:Gl X x2) (hm2:X.mg x2=some (.ref C2)) (hN:X.N.Nodup) (hi:X.N[i]?=some n) (hl:X.env.kindOf n=some .local) (hx:Loc X.env.scope n) (hfn:X.fn n=true\/X.env.scope.names.lookup n=some .local) (hno:∀ x,X.env.cells.lookup x=none)
  {t:TS} (hps:∀ a,PSs (X.hand a) (b₀::suite) t) (k:∀ a H',Good H'->H' a=none->t { nx:=fun σ' H''=>D.nx (σ'.set i none) H'',rt:=fun _ _=>False } (σ.set i (some (.ref a))) (upd H' a (zif a C)))
  (hdb:(x2==("__debug__" : Str))=false:=by decide) :
  wpAny @1 X.A (noteFrame e X.env) (fun _ s₂=>wpAny @1 X.A (setFlight e none) (fun _ s₃=>wpAny @1 X.A (handleBy e X.env [.ExceptHandler (some (.Name x2 np)) (some n) (b₀::suite) hpos]) (SP X pins D) X.xe s₃) X.xe s₂) X.xe s':=by
 obtain ⟨a,cls,a0,H',B,rfl,fl,os,bare,un,hok,kB,kS,hE'⟩:=h;obtain ⟨rfl,hgood⟩:=hE _ _ _ hE';have J : Inv X pins σ H' s':=I.call' os un hok bare fun b z=>by cases z
 obtain ⟨f1,f2,f3,oe,vs,T,oT,ts,t1,t2,t3,t4,t5,t6,t7,t8,t9⟩:=fl;have fr:=J.ok.frames;rw [hs] at fr
 have inS : ∀ b o,X.s₀.heap.get? b=some o->b∉X.fs->B.get? b≠none:=fun b o e n=>by
  obtain ⟨o',h1⟩:=I.base.there b o e (by rw [hex]; exact fun z=>by cases z);exact kS b o' h1 fun hm=>n (I.stkNew b hm o e)
 have two : ∀ b∈[a,T],B.get? b=none:=fun b hb=>by
  rcases mem_cons.1 hb with rfl | hb
  ·exact f2
  ·rw [mem_singleton.1 hb]; exact t5
 have hun : ∀ b∈frs X.stack++[a,T],H' b=none:=fun b hb=>by
  rcases mem_append.1 hb with hb | hb
  ·exact J.stkFree b hb
  ·cases q : H' b with
   | none=>rfl
   | some o=>exact absurd (two b hb) (kB b (by rw [q]; exact fun z=>by cases z))
 have hnew : ∀ b∈frs X.stack++[a,T],∀ o,X.s₀.heap.get? b=some o->b∈X.fs:=fun b hb o e=>by
  rcases mem_append.1 hb with hb | hb
  ·exact J.stkNew b hb o e
  ·by_cases n : b∈X.fs
   ·exact n
   ·exact absurd (two b hb) (inS b o e n)
 have hpin : ∀ p∈X.pn++pins,p.1∉frs X.stack++[a,T]:=fun p hp hb=>by
  obtain ⟨e,q,ne',nf,_⟩:=I.pin p hp;have nst : p.1∉frs X.stack:=fun z=>(mem_cons.mp (I.stkSub _ z)).elim ne' nf
  rcases mem_append.1 hb with hb | hb
  ·exact nst hb
  ·exact absurd (two _ hb) (kS _ _ e nst)
 have afr : a∉frs X.stack:=fun z=>by
  obtain ⟨_,o,ho,hd⟩:=J.stack.mem z;rw [t1] at ho;cases ho;exact hd vs t3
 have hfl : Heap.FlyingW (W.hideAll s'.heap (frs X.stack++[a,T])) (X.env::X.outer) a (.ref C) a0 s'.heap :=
  ⟨fun b o q=>W.of_hideAll _ q,W.hideAll_none _ (by simp),by rw [<- hs]; exact zl9 f3 fun b hb=>mem_append_left _ hb,oe,vs,T,oT,ts,t1,t2,t3,t4,W.hideAll_none _ (by simp),t6,t7,t8,t9⟩
 refine wpAny_looks_onW fr hf hfl fun h4 held4 up4=>?_;refine wpAny_landsW held4 fun h5 fl5 up5=>?_
 have J5 : Inv X pins σ H' { s' with heap:=h5 }:=zwy J hex hun hnew hpin fl5.1 (up4.trans up5)
 obtain ⟨bm,N,nm,qn,bs,hd,sn,sub,ab,col,dd,k0,k1,k2,k3,k5,mN,c1,_,_,Tl⟩:=zwk J5.kIn hC;obtain ⟨bm2,N2,nm2,qn2,bs2,hd2,sn2,sub2,ab2,col2,dd2,j0,j1,j2,j3,j5,mN2,d1,_,_,Tl2⟩:=zwk J5.kIn hC2
 have hin : (Value.ref C::bm).contains (.ref C2)=true:=by
  unfold zpl at hm;split at hm
  ·rename_i o ho;have:=J5.kIn _ _ ho;rw [c1] at this;cases this;exact hm
  ·cases hm
 obtain ⟨ob,hob,hobc⟩:=fl5.there;refine wpAny_handleBy_cons (codeAny_handlers_test (zkp (z3w a J5) hg hm2 ?_ hdb)) (by intro q; cases q);refine yb4 c1 d1 hob hobc (Tl2.hasType F.excBase_ValueError.hasBase) hin ?_;refine codeAny_handlers_suite_as (lands_againW fl5 fun h6 fl6 up6=>?_)
 have J6 : Inv X pins σ H' { s' with heap:=h6 }:=zwy J hex hun hnew hpin fl6.1 ((up4.trans up5).trans up6)
 obtain ⟨ob6,hob6,hobc6⟩:=fl6.there;have aL : a≠X.env.locals:=fun z=>afr (by rw [hs]; unfold frs; rw [filterMap_cons,hf,z]; exact mem_cons_self)
 have J7:=ydg (C:=C) J6 (hun a (by simp)) ⟨ob6,hob6,hobc6⟩ (fun o e=>by
  have:=hnew a (by simp) o e;exact afr (by rw [hs]; unfold frs; rw [filterMap_cons,hf]; exact mem_cons_of_mem _ this)) aL (fun x c e=>by rw [hno x] at e; cases e) fun p hp z=>hpin p hp (by rw [z]; simp)
 refine zqg J7 hN hi hx (v:=.ref a) rfl (fun s8 J8=>?_) hfn;refine wpAny_mono (hps a pins s8 _ _ _ (z3w a J8) (k a H' hgood (hun a (by simp)))) (fun fl9 s9 q9=>?_) fun _ _ z=>z.elim
 cases fl9 with
 | next =>
  obtain ⟨σ9,H9,J9,n9⟩:=q9
  exact yev (ydh J6.ok J9) hN hi hl hx hfn fun s10 J10=>⟨_,_,J10,n9⟩
 | ret u=>obtain ⟨_,_,_,_,_,z⟩:=q9; exact z.elim
 | brk=>obtain ⟨_,_,_,z⟩:=q9; exact z.elim
 | cont=>obtain ⟨_,_,_,z⟩:=q9; exact z.elim
end
end L2
namespace L2
open List
open Option (bind_some)
open PySem PySem.Spec PyProof.Rows PySem.Builtin.ObjectAttr
structure zi1 (K:W.Frag) (C:Addr) : Prop where
 ga : W.findIn K (.ref C) "__getattribute__"=some (some (.builtin "BaseException.__getattribute__"))
 hook : W.findIn K (.ref C) "__getattr__"=some none
 bex : W.mroIn K C (.type "BaseException")=some true
 cls : (W.clsIn K C).isSome=true
 has : W.findIn K (.ref C) "__class__"=some (some (.builtin "object.__class__"))
 spec : W.specialIn K (.builtin "object.__class__") "__get__"=some (some (.builtin "getset_descriptor.__get__"))
 takes : W.takesIn K (.builtin "object.__class__")=some true
 mro : W.mroIn K C (.type "object")=some true
def AtC (a C:Addr) (h:Heap) : Prop:=∃ o,h.get? a=some o/\o.cls=.ref C
variable {C a:Addr} {M:Model} {h:Heap}
theorem znz (p:AtC a C h) : W.Looks M h (typeOf (.ref a)) (.ref C):=by
 obtain ⟨o,h1,h2⟩:=p;exact h2 ▸ (W.Looks.ld h1).andThen .now
variable {K:W.Frag} {name:Str} {v g:Value}
theorem yee {x:Addr} (Xn:K.In h) (ha:W.findIn K (.ref C) name=some (some v)) (hg:W.specialIn K v "__get__"=some (some g)) (ht:W.takesIn K v=some true) : W.Looks M h (find (.ref x) (.ref C) name) (.bind g v):=by
 have t3:=W.looks_takesIn (M:=M) Xn ht;refine (W.looks_findIn (M:=M) Xn ha).andThen ((show W.Looks M h (getOf (some v)) (some g) from W.looks_specialIn Xn hg).andThen ?_);exact (show W.Looks M h (dataDescriptor? (some v) (some g)) (some (g,v)) from t3.andThen .now).andThen (W.Looks.tag .now)
variable {prog:Program} {w:World} {Ar:Around} {Ex:PRS} {s:Shared}
theorem yb5 {nm:Value} {Q:Unit->Shared->Prop} (Xn:K.In s.heap) (p:AtC a C s.heap) (hb:W.mroIn K C (.type "BaseException")=some true) (h:Q () s) :
  wpAny (model prog w) Ar (checkBuiltinCall "BaseException.__getattribute__" ⟨[.ref a,nm],[]⟩) Q Ex s:=by
 cases s with
 | mk hh gg dd tt oo =>
  have t0:=znz (M:=model prog w) p;have t1:=W.looks_mroIn (M:=model prog w) Xn hb;have hk : builtinKind "BaseException.__getattribute__"=some .slot:=by decide +kernel
  have hsplit : splitId "BaseException.__getattribute__"=some ("BaseException","__getattribute__"):=by decide +kernel
  have ha:=F.args_bexc_ga (.ref a) nm;simp only [checkBuiltinCall,hk,hsplit];refine wpAny_bind ?_
  ·unfold isInstance
   repeat lk
   repeat (first | exact h | wp_step)
theorem yb7 {tk:Tok} {P:PRS} (Xn:K.In s.heap) (p:AtC a C s.heap) (hf:W.Looks (model prog w) s.heap (find (.ref a) (.ref C) name) (.bind g v))
  (h:wpAny (model prog w) Ar (call g [v,.ref a,.ref C]) P Ex s) :
  wpAny (model prog w) Ar (Builtin.«object.__getattribute__» ⟨[.ref a,.str name tk],[]⟩) (fun fin s'=>match fin with | .done (.ret v)=>P v s' | _=>False) Ex s:=by
 cases s with
 | mk hh gg dd tt oo =>
  have t0:=znz (M:=model prog w) p;refine wpAny_bind (wpAny_pure (wpAny_bind (wpAny_pure (wpAny_bind (t0.at (wpAny_bind (hf.at ?_)))))));show wpAny _ _ (holding [v] (call g [v,.ref a,.ref C]) >>= ret) _ _ _;exact wpAny_bind (wpAny_holding (wpAny_mono h (fun u s' z=>wpAny_pure z) fun _ _ z=>z))
variable {Q:Option Value->Shared->Prop}
theorem yb9 (T:zi1 K C) (Xn:K.In s.heap) (p:AtC a C s.heap)
  (h:∀ Ar',wpAny (model prog w) Ar' (Builtin.«object.__getattribute__» ⟨[.ref a,.str name s.toks],[]⟩) (fun fin s'=>match fin with | .done (.ret v)=>wpAny (model prog w) Ar (handedOut v) (fun v s''=>Q (some v) s'') (fun _ _=>False) s' | _=>False) (fun _ _=>False) { s with toks:=s.toks + 1 }) :
  wpAny (model prog w) Ar (getAttr? (.ref a) name) Q Ex s:=by
 cases s with
 | mk hh gg dd tt oo =>
  have t0:=znz (M:=model prog w) p;have t1:=W.looks_findIn (M:=model prog w) Xn T.ga;have t2:=W.looks_findIn (M:=model prog w) Xn T.hook;unfold getAttr? getAttrBy? getAttrBy;refine wpAny_bind (wpAny_mkText (wpAny_bind (wpAny_attempt (wpAny_holding (wpAny_bind (t0.at (wpAny_bind (t1.at ?_))))))));show wpAny _ _ (getAttrByItsOwn _ _ _ _ _ _) _ _ _;unfold getAttrByItsOwn;refine wpAny_bind ?_;show wpAny _ _ (typeLookup _ _) _ _ _;refine t2.at ?_;refine wpAny_bind (wpAny_attempt (wpAny_holding ?_));show wpAny _ _ (boundAndCalled _ _ _) _ _ _;unfold boundAndCalled;rw [F.excAttr_ValueError.ga.bind];refine wpAny_bind (wpAny_pure (wpAny_call (codeAny_call_builtin F.excAttr_ValueError.ga.plain F.entry_bexc_ga (yb5 (s:=⟨hh,gg,dd,tt + 1,oo⟩) Xn p T.bex ?_))));refine wpAny_mono (h _) (fun fin s' z=>?_) fun _ _ z=>z.elim
  rcases fin with (_ | _ | _ | _) | _ <;> first | exact wpAny_mono z (fun v s'' hv=>wpAny_pure hv) (fun _ _ z=>z.elim) | exact z.elim
theorem yb8 {tp:Value} {R:Result->Shared->Prop} (Xn:K.In s.heap) (p:AtC a C s.heap) (hm:W.mroIn K C (.type "object")=some true)
  (h:R (.ok (.ret (.ref C))) s) : codeAny (model prog w) Ar (.call (.builtin "getset_descriptor.__get__") ⟨[.builtin "object.__class__",.ref a,tp],[]⟩) R s:=by
 obtain ⟨hh,g,dr,t,os⟩:=s;have L0:=znz (M:=model prog w) p;have L1:=W.looks_mroIn (M:=model prog w) Xn hm;refine codeAny_call_builtin W.KF.slot_gs.plain W.KF.entry_gs (W.KF.slot_gs.check _ _ _ _ _ _ _ _ W.KF.type_class (W.KF.args_gs _ _ _) ?_);unfold Builtin.«getset_descriptor.__get__» Builtin.Getset_descriptor.descrGet;rw [W.dga_obj];refine wpAny_bind (wpAny_pure ?_);unfold Builtin.Getset_descriptor.descrGetter Builtin.Getset_descriptor.descrCheckInstance Builtin.Getset_descriptor.descrNameAndClass isInstance;simp only [W.KF.owner_class]
 repeat lk
 refine ⟨Code.quiet_builtin _ (by decide +kernel),codeAny_builtin W.KF.entry_class ?_⟩;unfold Builtin.«object.__class__» shownTypeOf
 repeat lk
 exact h
theorem yb6 (T:zi1 K C) (Xn:K.In s.heap) (p:AtC a C s.heap) (h:Q (some (.ref C)) { s with toks:=s.toks + 1 }) : wpAny (model prog w) Ar (getAttr? (.ref a) "__class__") Q Ex s:=by
 have hf : W.Looks (model prog w) s.heap (find (.ref a) (.ref C) "__class__") (.bind (.builtin "getset_descriptor.__get__") (.builtin "object.__class__")):=yee Xn T.has T.spec T.takes
 exact yb9 T Xn p fun Ar'=>yb7 (s:={ s with toks:=s.toks + 1 }) Xn p hf (wpAny_call (yb8 (s:={ s with toks:=s.toks + 1 }) Xn p T.mro (W.handed_on rfl h)))
theorem zwj (T:zi1 K C) : W.KitX K (.ref a) (.ref C) (AtC a C) where
 ty:=fun _ _ _ p=>znz p
 it:=fun _ _ X _=>by
  have hcD:=T.cls;unfold W.clsIn at hcD;split at hcD
  ·rename_i c' d' cd' sl' ho;intro A' Q' E' s' k q;unfold isType loadHead;exact wpAny_bind (wpAny_loadPart (k _ _ (X _ _ ho)) (wpAny_pure q))
  ·cases hcD
 ne:=fun h tp dd its n sl X htp=>by
  have hcD:=T.cls;refine Bool.eq_false_iff.mpr fun q=>?_;have e : C=tp:=Value.ref.inj (beq_iff_eq.mp q);subst e;unfold W.clsIn at hcD;split at hcD
  ·rename_i c' d' cd' sl' ho;have z:=(X _ _ ho).symm.trans htp;cases z
  ·cases hcD
 ca:=fun X p k=>yb6 T X p k
open PySem.Spec PyProof.Rows
section
variable {X:Cx}
theorem zxs {a:Addr} : (Value.ref a)≠.builtin "__main__.__loader__#opaque":=fun z=>by cases z
theorem yae : zgg X (.builtin "isinstance") (fun xs H Q=>∃ a C T b,xs=[.ref a,.ref T]/\H a=some (zif a C)/\zi1 X.K C/\W.kitOne X.K (.ref C) (.ref T)=some b/\Q (.bl b) H):=by
 intro pins s σ H xs us Q I r h;obtain ⟨a,C,T,b,rfl,ho,T0,e,q⟩:=h;obtain ⟨u,w',rfl,rx,rc⟩:=zqj r;cases (show u=Value.ref a from rx);cases (show w'=Value.ref T from rc);exact W.kia_one (zwj T0) I.kIn (I.hok _ _ ho).1 e zxs fun tk=>⟨.bl b,H,I.tok tk,rfl,q⟩
theorem yag : zgg X (.builtin "isinstance") (fun xs H Q=>∃ a C T b,xs=[.ref a,.ty T]/\H a=some (zif a C)/\zi1 X.K C/\W.kitOne X.K (.ref C) (.type T)=some b/\Q (.bl b) H):=by
 intro pins s σ H xs us Q I r h;obtain ⟨a,C,T,b,rfl,ho,T0,e,q⟩:=h;obtain ⟨u,w',rfl,rx,rc⟩:=zqj r;cases (show u=Value.ref a from rx);cases (show w'=Value.type T from rc);exact W.kia_one (zwj T0) I.kIn (I.hok _ _ ho).1 e zxs fun tk=>⟨.bl b,H,I.tok tk,rfl,q⟩
theorem z89 : ∀ {ds:LAd} {us:LVa},zay (ds.map V.ref) us->us=ds.map Value.ref
 | [],_,.nil=>rfl
 | _::_,_,.cons r t=>by rw [z89 t]; cases (show _=_ from r); rfl
theorem yaf : zgg X (.builtin "isinstance") (fun xs H Q=>∃ (a C tp:Addr) (ds:LAd) (b:Bool),xs=[.ref a,.ref tp]/\H a=some (zif a C)/\H tp=some (.tup (ds.map V.ref))/\zi1 X.K C/\W.kitAny X.K (.ref C) (ds.map Value.ref)=some b/\Q (.bl b) H):=by
 intro pins s σ H xs us Q I r h;obtain ⟨a,C,tp,ds,b,rfl,ho,ht,T0,e,q⟩:=h;obtain ⟨u,w',rfl,rx,rc⟩:=zqj r;cases (show u=Value.ref a from rx);cases (show w'=Value.ref tp from rc);obtain ⟨_,its,ri,o,ho2,hc,n,hd⟩:=I.hok _ _ ht;obtain rfl:=z89 ri;obtain ⟨oc,od,oda,os⟩:=o;cases (show oc=_ from hc);cases (show oda=_ from hd);exact W.kia_tup (zwj T0) I.kIn (I.hok _ _ ho).1 ho2 e zxs fun tk=>⟨.bl b,H,I.tok tk,rfl,q⟩
def tH (i:Nat) (C:Addr) (b:Bool) : TE:=fun σ H Q=>∃ a,σ[i]?=some (some (.ref a))/\H a=some (zif a C)/\∀ H',zav H H'->Q (.bl b) H'
def tHs (i:Nat) (C:Addr) (bs:List Bool) : TA:=fun σ H Q=>∃ a,σ[i]?=some (some (.ref a))/\H a=some (zif a C)/\∀ H',zav H H'->Q (bs.map V.bl) H'
variable {e:Expr} {es:LEx} {i:Nat} {C A B Z:Addr} {b:Bool} {bs:List Bool} {n:Str} {p q q1 q2 q3 q4 pos:Pos} {x y z:Str} {T:String}
theorem yhb : PA X [] (tHs i C []):=PA.imp zcd fun σ H Q h=>by
 obtain ⟨a,_,_,k⟩:=h;exact k H (zav.refl _)
theorem zyi (he:PE X e (tH i C b)) (hr:PA X es (tHs i C bs)) (hs:StE X e es:=by rfl) : PA X (e::es) (tHs i C (b::bs)):=PA.imp (zbv he hr hs) fun σ H Q h=>by
 obtain ⟨a,h1,h2,k⟩:=h;exact ⟨a,h1,h2,fun H1 s1=>⟨a,h1,s1 _ _ h2,fun H2 s2=>k H2 (s1.trans s2)⟩⟩
variable (T0:zi1 X.K C) (hg:Gl X "isinstance") (hm:X.mg "isinstance"=none) (hv:PE X (.Name n q) (zc2 i))
include T0 hg hm hv
theorem ygx (hgx:Gl X x) (hmx:X.mg x=some (.ref A)) (hk:W.kitOne X.K (.ref C) (.ref A)=some b) (hdb:NDb x:=by decide)
  (hs:starEach [.Name n q,.Name x q1] X.env=(false,eval (.Name n q) X.env)::starEach [.Name x q1] X.env:=by rfl) (hs2:starEach [.Name x q1] X.env=(false,eval (.Name x q1) X.env)::starEach [] X.env:=by rfl)
  (hpl:(backTo pos (starEach [.Name x q1] X.env)).any (·.1)=false:=by rfl) : PE X (.Call (.Name "isinstance" p) [.Name n q,.Name x q1] [] pos) (tH i C b) :=
 PE.imp (zm2 yae hg hm boot_isinstance (zbv hv (zbv (zm3 (v:=.ref A) hgx hmx rfl hdb) zcd hs2) hs) (by decide) (by decide) hs hpl) fun σ H Q h=>by
  obtain ⟨a,h1,h2,k⟩:=h;exact ⟨.ref a,h1,a,C,A,b,rfl,h2,T0,hk,k H (zav.refl _)⟩
theorem ygz (hgx:Gl X x) (hmx:X.mg x=none) (hbx:bootBuiltins x=some (.type T)) (hk:W.kitOne X.K (.ref C) (.type T)=some b) (hnx:x ≠ "__name__":=by decide) (hdb:NDb x:=by decide)
  (hs:starEach [.Name n q,.Name x q1] X.env=(false,eval (.Name n q) X.env)::starEach [.Name x q1] X.env:=by rfl) (hs2:starEach [.Name x q1] X.env=(false,eval (.Name x q1) X.env)::starEach [] X.env:=by rfl)
  (hpl:(backTo pos (starEach [.Name x q1] X.env)).any (·.1)=false:=by rfl) : PE X (.Call (.Name "isinstance" p) [.Name n q,.Name x q1] [] pos) (tH i C b) :=
 PE.imp (zm2 yag hg hm boot_isinstance (zbv hv (zbv (z54 (v:=.ty T) hgx hmx hbx rfl hnx hdb) zcd hs2) hs) (by decide) (by decide) hs hpl) fun σ H Q h=>by
  obtain ⟨a,h1,h2,k⟩:=h;exact ⟨.ref a,h1,a,C,T,b,rfl,h2,T0,hk,k H (zav.refl _)⟩
theorem ygy {k':Nat} (hgx:Gl X x) (hmx:X.mg x=some (.ref A)) (hgy:Gl X y) (hmy:X.mg y=some (.ref B)) (hgz:Gl X z) (hmz:X.mg z=some (.ref Z)) (hk:W.kitAny X.K (.ref C) [.ref A,.ref B,.ref Z]=some b)
  (hdx:NDb x:=by decide) (hdy:(y==("__debug__" : Str))=false:=by decide) (hdz:(z==("__debug__" : Str))=false:=by decide)
  (hs:starEach [.Name n q,.Tuple [.Name x q1,.Name y q2,.Name z q3] k' q4] X.env=(false,eval (.Name n q) X.env)::starEach [.Tuple [.Name x q1,.Name y q2,.Name z q3] k' q4] X.env:=by rfl)
  (hs2:starEach [.Tuple [.Name x q1,.Name y q2,.Name z q3] k' q4] X.env=(false,eval (.Tuple [.Name x q1,.Name y q2,.Name z q3] k' q4) X.env)::starEach [] X.env:=by rfl)
  (t1:starEach [.Name x q1,.Name y q2,.Name z q3] X.env=(false,eval (.Name x q1) X.env)::starEach [.Name y q2,.Name z q3] X.env:=by rfl) (t2:starEach [.Name y q2,.Name z q3] X.env=(false,eval (.Name y q2) X.env)::starEach [.Name z q3] X.env:=by rfl)
  (t3:starEach [.Name z q3] X.env=(false,eval (.Name z q3) X.env)::starEach [] X.env:=by rfl)
  (hpl:(backTo pos (starEach [.Tuple [.Name x q1,.Name y q2,.Name z q3] k' q4] X.env)).any (·.1)=false:=by rfl) : PE X (.Call (.Name "isinstance" p) [.Name n q,.Tuple [.Name x q1,.Name y q2,.Name z q3] k' q4] [] pos) (tH i C b) :=
 PE.imp (zm2 yaf hg hm boot_isinstance (zbv hv (zbv (zua (zbv (zm3 (v:=.ref A) hgx hmx rfl hdx) (zbv (zm3 (v:=.ref B) hgy hmy rfl hdy) (zbv (zm3 (v:=.ref Z) hgz hmz rfl hdz) zcd t3) t2) t1)) zcd hs2) hs) (by decide) (by decide) hs hpl) fun σ H Q h=>by
  obtain ⟨a,h1,h2,k⟩:=h;refine ⟨.ref a,h1,(show (3 : Nat)<=sizeLine by decide),fun tp hn=>⟨a,C,tp,[A,B,Z],b,rfl,?_,zb8,T0,hk,k _ (zc9 hn)⟩⟩;rw [zbs (fun z=>by rw [z,hn] at h2; cases h2)];exact h2
end
variable {X:Cx} {pins:PNS} {xe:PRS} {σ:St} {H:Hp}
theorem ydc {pins':PNS} (I:Inv (X.to (X.pn++pins) xe) pins' σ H s) : Inv X pins σ H s :=
 ⟨⟨I.ok.mod,I.ok.kind,I.ok.glob,I.ok.blt,I.ok.above,I.ok.inj,I.ok.has,I.ok.cab,I.ok.hd,I.ok.frames,I.ok.stk,I.ok.exf,I.ok.bs,I.ok.bsz,I.ok.noex,I.ok.exfs,I.ok.funs,I.ok.frf⟩,I.os,I.bare,I.base,I.loc,I.cell,I.free,I.freeC,fun p hp=>I.pin p (mem_append_left _ hp),I.hok,I.len⟩
theorem ydf (I:Inv X pins σ H s) : Inv (X.to (X.pn++pins) xe) [] σ H s :=
 ⟨⟨I.ok.mod,I.ok.kind,I.ok.glob,I.ok.blt,I.ok.above,I.ok.inj,I.ok.has,I.ok.cab,I.ok.hd,I.ok.frames,I.ok.stk,I.ok.exf,I.ok.bs,I.ok.bsz,I.ok.noex,I.ok.exfs,I.ok.funs,I.ok.frf⟩,I.os,I.bare,I.base,I.loc,I.cell,I.free,I.freeC,fun p hp=>I.pin p (by rw [append_nil] at hp; exact hp),I.hok,I.len⟩
noncomputable def Sl.bare : Sl->Sl
 | .im d=>.im d
 | _=>.no
variable {Hf0 H0 Hf:Hp} {ρ:LS}
theorem zao.bare {G:Gc} (h:zao G Hf0 H0 Hf H σ ρ) : zao G Hf H Hf H σ (ρ.map Sl.bare):=by
 refine h.re (Ext.refl h.sub) (by simp) (fun i v s a b=>?_) fun i s v a b c d=>?_
 ·rw [List.getElem?_map] at b;obtain ⟨s0,b0,rfl⟩:=Option.map_eq_some_iff.mp b;have q:=h.at' i v s0 a b0
  cases s0 <;> first | exact q | trivial
 ·rw [List.getElem?_map] at b;obtain ⟨s0,b0,rfl⟩:=Option.map_eq_some_iff.mp b
  exact (d.calm (by cases s0 <;> rfl)).elim
noncomputable def zst (r:LS->Bool) (j:Nat) (bs:List Bool) (ρ:LS) : Option Fl:=if r (ρ.map Sl.bare) then some (.nx ((List.replicate ρ.length Sl.no).set j (.im (.lst (bs.map D.bl))))) else none
theorem z64 {G:Gc} {H:Hp} : ∀ bs : List Bool,zan G H (bs.map D.bl) (bs.map V.bl)
 | []=>rfl
 | b::bs=>⟨.bl b,_,rfl,rfl,z64 bs⟩
variable {c:Str->Addr} {C2:Addr} {e:Expr} {es:LEx} {r:LS->Bool} {i j:Nat} {n y x2:Str} {np hpos pos pos1 yp lp ap:Pos}
section
variable {bs:List Bool}
theorem ybp (hr:∀ (E:XK) pn xe,zed (CX1 X.prog X.w) (X.to pn xe) E->RX c (X.to pn xe) C E e r) (hh:∀ a,PA (X.hand a) es (tHs i C bs)) (hex:X.ex=[]) (hs:X.stack=X.env::X.outer) (hf:X.env.frame=some X.env.locals)
  (hC:zd7 X.K C=true) (hC2:zd7 X.K C2=true) (hm:zpl X.K C (.ref C2)=true) (hg:Gl X x2) (hm2:X.mg x2=some (.ref C2)) (hN:X.N.Nodup) (hi:X.N[i]?=some n) (hj:X.N[j]?=some y) (hl:X.env.kindOf n=some .local) (hx:Loc X.env.scope n) (hfn:X.fn n=true\/X.env.scope.names.lookup n=some .local)
  (hy:Loc X.env.scope y) (hfy:X.fn y=true\/X.env.scope.names.lookup y=some .local) (hno:∀ x,X.env.cells.lookup x=none) (hij:i≠j) (hb:bs.length<=sizeLine)
  (hsw:swapsWith e none pos1.line X.env=pure false:=by rfl) (hsy:swapsWith (.List es lp) (some (.Name y yp)) ap.line X.env=pure false:=by rfl) (hdb:(x2==("__debug__" : Str))=false:=by decide) :
  DS c X (.Try [.Expr e pos1] [.ExceptHandler (some (.Name x2 np)) (some n) [.Assign [.Name y yp] (.List es lp) ap] hpos] [] [] pos) (zst r j bs):=by
 intro pins s σ H D I h;obtain ⟨Hf0,H0,Hf,ρ,o,so,ef,k⟩:=h;unfold zst at ef;split at ef
 case isFalse=>cases ef
 case isTrue er =>
 cases ef;refine wpAny_Try_except ?_
 let xe : Value->Shared->Prop:=fun e' s₁=>wpAny @1 X.A (noteFrame e' X.env) (fun _ s₂=>wpAny @1 X.A (setFlight e' none) (fun _ s₃=>wpAny @1 X.A (handleBy e' X.env [.ExceptHandler (some (.Name x2 np)) (some n) [.Assign [.Name y yp] (.List es lp) ap] hpos]) (SP X pins D) X.xe s₃) X.xe s₂) X.xe s₁
 let E0 : XK:=fun cls _ H'=>cls=.ref C/\∃ Hf',Ext Hf H Hf' H'
 have hp : zed (CX1 X.prog X.w) (X.to (X.pn++pins) xe) E0:=by
  intro pins' σ' H' s1 e' s' I1 hx1;have I2:=ydc I1;refine yal (Good:=fun H'=>∃ Hf',Ext Hf H Hf' H') (D:=D) (t:=zj1 (z8v (tHs i C bs)) (zjg j)) I2 hex hs hf hx1 (fun cls dx H'' z=>z) hC hC2 hm hg hm2 hN hi hl hx hfn hno (fun a=>zyl (zjt hN hj hy (zm4 (hh a)) hsy hfy)) (fun a H'' hgood hn=>?_) hdb;obtain ⟨Hf',ex⟩:=hgood;have hiL : i < σ'.length:=by rw [I1.len]; exact (gq hi).1
  have hjL : j < σ'.length:=by rw [I1.len]; exact (gq hj).1
  refine ⟨a,by rw [List.getElem?_set_self hiL],zb8,fun H3 s3=>⟨by simpa using hb,fun l hl3=>?_⟩⟩;have s13 : zav H'' H3:=(zc9 hn).trans s3;have x0 : Ext Hf H Hf' H3:=ex.trans (Ext.grow ex.s s13);have xn:=Ext.new (o:=HO.lst (bs.map V.bl)) x0.s hl3;refine k _ (upd Hf' l (.lst (bs.map V.bl))) _ (x0.f.trans xn.f) ⟨so.ext.trans (x0.trans xn),?_,?_,?_⟩
  ·have:=so.len;have l2:=I.len;have l3 : σ'.length=X.N.length:=I1.len;simp only [length_set,length_replicate];omega
  ·intro i' v' s' a' b'
   by_cases q : i'=j
   ·subst q;rw [List.getElem?_set_self (by rw [length_replicate,<- so.len,I.len,<- I1.len]; exact hjL)] at b';cases b';rw [List.getElem?_set_ne hij,List.getElem?_set_self (by simpa using hjL)] at a';cases a';exact ⟨_,rfl,l,_,rfl,zb8,z64 bs⟩
   ·rw [List.getElem?_set_ne (Ne.symm q)] at b';have:=eq_of_mem_replicate (mem_of_getElem? b');subst this;trivial
  ·intro i1 i2 s1 s2 v1 v2 a' b1 b2 c1 c2 d1 d2;refine (d1.calm ?_).elim
   by_cases q : i1=j
   ·subst q;rw [List.getElem?_set_self (by rw [length_replicate,<- so.len,I.len,<- I1.len]; exact hjL)] at b1;cases b1;rfl
   ·rw [List.getElem?_set_ne (Ne.symm q)] at b1;have:=eq_of_mem_replicate (mem_of_getElem? b1);subst this;rfl
 have w:=zyl (zer (pos:=pos1) (hr E0 (X.pn++pins) xe hp) hsw) [] s σ H { nx:=fun _ _=>False,rt:=fun _ _=>False } (ydf I) ⟨Hf,H,Hf,ρ.map Sl.bare,so.bare,er,fun Hf' H' x=>⟨rfl,Hf',x⟩⟩;refine wpAny_mono w (fun f s1 q1=>?_) fun e' s1 q1=>q1
 cases f with
 | next=>obtain ⟨_,_,_,z⟩:=q1; exact z.elim
 | ret u=>obtain ⟨_,_,_,_,_,z⟩:=q1; exact z.elim
 | brk=>obtain ⟨_,_,_,z⟩:=q1; exact z.elim
 | cont=>obtain ⟨_,_,_,z⟩:=q1; exact z.elim
end
noncomputable def ycd : D->Option Str
 | .str z=>if (reprText z).length<=16777216 then some (reprText z) else none
 | _=>none
noncomputable def mFr (f:MF1) (g:LS->Option LSt) (ρ:LS) : Option LSt:=(f ρ).bind fun d=>(ycd d).bind fun z=>(g ρ).map (z::·)
variable {g:LS->Option LSt}
theorem z2r {f:MF1} (he:DE c X e f) (hr:DFs c X es g) : DFs c X (.FormattedValue e 114 none pos::es) (mFr f g):=fun pins s σ H Q out I q_=>by
 obtain ⟨Hf0,H0,Hf,ρ,zs,st,ef,hz,k⟩:=q_
 exact (by
 unfold mFr at ef
 cases e1 : f ρ with
 | none=>rw [e1] at ef; cases ef
 | some d =>
  rw [e1,bind_some] at ef
  cases d with
  | str y =>
   replace ef : (if (reprText y).length<=16777216 then some (reprText y) else none).bind (fun z=>(g ρ).map (z::·))=some zs:=ef;split at ef
   ·rename_i hy;rw [bind_some] at ef
    cases e3 : g ρ with
    | none=>rw [e3] at ef; cases ef
    | some ys =>
     rw [e3] at ef;cases ef;show wpAny _ _ (joinParts out (eval (.FormattedValue e 114 none pos) X.env::evalEach es X.env)) _ _ s;have h1:=zvu ys (out++reprText y);have h2 : (zgk (out++reprText y) ys).length<=16777216:=hz;have h3 : (out++reprText y).length<=sizeLine:=by rw [sizeLine_eq]; omega
     have hy' : (reprText y).length<=sizeLine:=by rw [sizeLine_eq]; exact hy
     refine joinParts_cons (wpAny_FormattedValue_repr ?_);refine thn (he pins s σ H (fun v H'=>∃ Hf',Ext Hf H Hf' H'/\Rep (Gx c X) Hf' (.str y) v) I ⟨Hf0,H0,Hf,ρ,.str y,st,e1,fun v Hf' H' x r=>⟨Hf',x,r⟩⟩) fun u s1 q_=>?_;obtain ⟨v,H1,I1,r1,Hf1,x1,rd⟩:=q_;replace rd : v=V.str y:=rd;subst rd;obtain ⟨t,et⟩:=r1;subst et;refine pyReprObj_str (formatField_str (fun t' tk=>?_) hy') hy';exact ⟨h3,hr pins _ σ H1 Q (out++reprText y) (I1.tok tk) ⟨Hf0,H0,Hf1,ρ,ys,st.step x1,e3,h2,fun Hf' H' x=>k Hf' H' (x1.trans x)⟩⟩
   ·cases ef
  | _=>cases ef)
variable {E:XK} {st:Stmt}
section
variable {za9:List Stmt}
theorem zem (h:RS c X C E st r) : RSs c X C E (st::za9) r:=PSs.imp (zub h (u:=fun _ _ _=>False) fun _ _ _ _ _ _ q=>q.elim) fun D σ H q=>q
end
theorem zna (h:RX c X C E e r) (hs:StE X e es:=by rfl) : RA c X C E (e::es) r:=PA.imp (zbv h (t:=fun _ _ _=>False) (fun _ _ _ _ _ _ _ q=>q.elim) hs) fun σ H Q q=>q
def z09 (B:Heap) (l:List Env) (e:Addr) (cls a0 fl:Value) (h:Heap) : Prop:=B.StaysIn h/\B.get? e=none/\h.FunFrames B l/\h.TracedAtW B e cls a0 fl
def zgz (X:Cx) (pins:PNS) (σ:St) (H:Hp) (E:XK) (fl:Value) (a:Addr) (s':Shared) : Prop:=∃ cls a0 G,Inv X pins σ H s'/\(∀ b∈frs X.stack,b∈G)/\(∀ b∈G,H b=none)/\(∀ b∈G,∀ o,X.s₀.heap.get? b=some o->b∈X.fs)/\(∀ p∈X.pn++pins,p.1∉G) /\
 z09 (W.hideAll s'.heap G) (X.env::X.outer) a cls a0 fl s'.heap/\E cls none H
theorem z3j {base h h':Heap} {as:LAd} : ∀ {l:List Env},h.FunFrames base l->(∀ b∈frs l,b∈as/\h'.get? b=h.get? b)->h'.FunFrames (W.hideAll h' as) l
 | [],_,_=>trivial
 | env::l,q1_,hin=>by
  obtain ⟨hk,⟨L,o,hf,_,ho,hd⟩,hr⟩:=q1_;have hL:=hin L (by unfold frs; rw [filterMap_cons,hf]; exact mem_cons_self);exact ⟨hk,⟨L,o,hf,W.hideAll_none _ hL.1,hL.2.trans ho,hd⟩,z3j hr fun b hb=>hin b (by unfold frs; rw [filterMap_cons,hf]; exact mem_cons_of_mem _ hb)⟩
variable {s':Shared} {e:Value}
theorem yls (I:Inv X pins σ H s) (hex:X.ex=[]) (hs:X.stack=X.env::X.outer) (h:CX1 X.prog X.w X.stack H s E e s') : ∃ a H',e=.ref a/\Un (frs X.stack) [] H H' s.heap s'.heap/\zgz X pins σ H' E .none a s':=by
 obtain ⟨a,cls,a0,H',B,rfl,fl,os,bare,un,hok,kB,kS,hE'⟩:=h;have J : Inv X pins σ H' s':=I.call' os un hok bare fun b z=>by cases z
 obtain ⟨f1,f2,f3,oe,vs,T,oT,ts,t1,t2,t3,t4,t5,t6,t7,t8,t9⟩:=fl
 have inS : ∀ b o,X.s₀.heap.get? b=some o->b∉X.fs->B.get? b≠none:=fun b o e n=>by
  obtain ⟨o',h1⟩:=I.base.there b o e (by rw [hex]; exact fun z=>by cases z);exact kS b o' h1 fun hm=>n (I.stkNew b hm o e)
 have two : ∀ b∈[a,T],B.get? b=none:=fun b hb=>by
  rcases mem_cons.1 hb with rfl | hb
  ·exact f2
  ·rw [mem_singleton.1 hb]; exact t5
 refine ⟨a,H',rfl,un,cls,a0,frs X.stack++[a,T],J,fun b hb=>mem_append_left _ hb,fun b hb=>?_,fun b hb o e=>?_,fun p hp hb=>?_,⟨fun b o q=>W.of_hideAll _ q,W.hideAll_none _ (by simp),by rw [<- hs]; exact zl9 f3 fun b hb=>mem_append_left _ hb,oe,vs,T,oT,ts,t1,t2,t3,t4,W.hideAll_none _ (by simp),t6,t7,t8,t9⟩,hE'⟩
 ·rcases mem_append.1 hb with hb | hb
  ·exact J.stkFree b hb
  ·cases q : H' b with
   | none=>rfl
   | some o=>exact absurd (two b hb) (kB b (by rw [q]; exact fun z=>by cases z))
 ·rcases mem_append.1 hb with hb | hb
  ·exact J.stkNew b hb o e
  ·by_cases n : b∈X.fs
   ·exact n
   ·exact absurd (two b hb) (inS b o e n)
 ·obtain ⟨e,q,ne',nf,_⟩:=I.pin p hp;have nst : p.1∉frs X.stack:=fun z=>(mem_cons.mp (I.stkSub _ z)).elim ne' nf
  rcases mem_append.1 hb with hb | hb
  ·exact nst hb
  ·exact absurd (two _ hb) (kS _ _ e nst)
section
variable {fl:Value}
theorem z83 {cls a0:Value} {G:LAd} {h4:Heap} (hex:X.ex=[]) (hs:X.stack=X.env::X.outer) (J:Inv X pins σ H s) (hst:∀ b∈frs X.stack,b∈G) (hun:∀ b∈G,H b=none) (hnew:∀ b∈G,∀ o,X.s₀.heap.get? b=some o->b∈X.fs) (hpin:∀ p∈X.pn++pins,p.1∉G)
  (hh:z09 (W.hideAll s.heap G) (X.env::X.outer) a cls a0 fl h4) (hup:s.heap.UpToSlots h4) (hE:E cls none H) : zgz X pins σ H E fl a { s with heap:=h4 }:=by
 obtain ⟨k1,k2,k3,oe,vs,T,oT,ts,t1,t2,t3,t4,t5,t6,t7,t8,t9⟩:=hh
 have J4 : Inv X pins σ H { s with heap:=h4 }:=zwy J hex hun hnew hpin k1 hup
 have two : ∀ b,b∈a::T::G->b∈G\/s.heap.get? b=none:=fun b hb=>by
  by_cases hG : b∈G
  ·exact .inl hG
  ·refine .inr ?_
   have q : (W.hideAll s.heap G).get? b=none:=by
    rcases mem_cons.1 hb with rfl | hb
    ·exact k2
    ·rcases mem_cons.1 hb with rfl | hb
     ·exact t5
     ·exact absurd hb hG
   cases z : s.heap.get? b with
   | none=>rfl
   | some o=>rw [W.hideAll_get _ z hG] at q; cases q
 refine ⟨cls,a0,a::T::G,J4,fun b hb=>mem_cons_of_mem _ (mem_cons_of_mem _ (hst b hb)),fun b hb=>?_,fun b hb o e=>?_,fun p hp hb=>?_,⟨fun b o q=>W.of_hideAll _ q,W.hideAll_none _ (by simp),zl9 k3 fun b hb=>mem_cons_of_mem _ (mem_cons_of_mem _ (hst b (by rw [hs]; exact hb))),oe,vs,T,oT,ts,t1,t2,t3,t4,W.hideAll_none _ (by simp),t6,t7,t8,t9⟩,hE⟩
 ·rcases two b hb with z | z
  ·exact hun b z
  ·cases q : H b with
   | none=>rfl
   | some o=>obtain ⟨u,hu⟩:=(J.hok b o q).obj; rw [z] at hu; cases hu
 ·rcases two b hb with z | z
  ·exact hnew b z o e
  ·obtain ⟨o',h1⟩:=J.base.there b o e (by rw [hex]; exact fun z=>by cases z);rw [z] at h1; cases h1
 ·rcases two _ hb with z | z
  ·exact hpin p hp z
  ·have:=(J.pin p hp).1;rw [z] at this; cases this
end
section
variable {fl:Value}
theorem ylr {Q:Unit->Shared->Prop} (hex:X.ex=[]) (hs:X.stack=X.env::X.outer) (hf:X.env.frame=some X.env.locals) (U:zgz X pins σ H E .none a s) (k:∀ fl h',zgz X pins σ H E fl a { s with heap:=h' }->s.heap.UpToSlots h'->Q () { s with heap:=h' }) :
  wpAny M X.A (noteFrame (.ref a) X.env) Q Ex s:=by
 obtain ⟨cls,a0,G,J,hst,hun,hnew,hpin,hh,hE⟩:=U;have fr:=J.ok.frames;rw [hs] at fr;exact wpAny_looks_onW fr hf hh fun h' held up=>k _ h' (z83 hex hs J hst hun hnew hpin held up hE) up
end
section
variable {fl:Value}
theorem ylq {m:MGT} {h':Heap} (hs:X.stack=X.env::X.outer) (U:zgz X pins σ H E fl a s) (hn:s.heap.Ns C m) (hC:zec X pins H C) (sb:Heap.SameBut C s.heap h') : zgz X pins σ H E fl a { s with heap:=h' }:=by
 obtain ⟨cls,a0,G,J,hst,hun,hnew,hpin,⟨k1,k2,k3,oe,vs,T,oT,ts,t1,t2,t3,t4,t5,t6,t7,t8,t9⟩,hE⟩:=U;obtain ⟨f0,f1,f2,f3,f4,f5⟩:=hC;obtain ⟨o,es,ep,ho,hd,_⟩:=hn
 have ne : ∀ b u ws,s.heap.get? b=some u->u.data=.fields ws->b≠C:=fun b u ws e q z=>by
  rw [z,ho] at e;cases e;rw [hd] at q;cases q
 have fr : ∀ b∈frs X.stack,b≠C:=fun b hb z=>by
  rw [z] at hb;exact (mem_cons.mp (J.stkSub C hb)).elim f1 f2
 have ka:=ne a oe vs t1 t3;have kT:=ne T oT ts t7 t8
 have mem : ∀ b o,s.heap.get? b=some o->(W.hideAll s.heap G).get? b=none->b∈G:=fun b o e q=>by
  by_cases hG : b∈G
  ·exact hG
  ·rw [W.hideAll_get _ e hG] at q; cases q
 refine ⟨cls,a0,G,J.turned (t':=s.toks) (fun b o hb e=>(sb.2 b hb).trans e) f0 f1 f3 f4 f5,hst,hun,hnew,hpin,⟨fun b o q=>W.of_hideAll _ q,W.hideAll_none _ (mem a oe t1 k2),z3j k3 fun b hb=>?_,oe,vs,T,oT,ts,(sb.2 a ka).trans t1,t2,t3,t4,W.hideAll_none _ (mem T oT t7 t5),t6,(sb.2 T kT).trans t7,t8,t9⟩,hE⟩;rw [<- hs] at hb;exact ⟨hst b hb,sb.2 b (fr b hb)⟩
end
section
variable {fl:Value}
theorem ylt {α : Type} {Q:α->Shared->Prop} {what:String} {cenv:Env} (hex:X.ex=[]) (hs:X.stack=X.env::X.outer) (U:zgz X pins σ H E fl a s) (k:∀ fl' h',zgz X pins σ H E fl' a { s with heap:=h' }->Ex (.ref a) { s with heap:=h' }) :
  wpAny M Ar (PySem.passOn what (.ref a) cenv : Sem α) Q Ex s:=by
 obtain ⟨cls,a0,G,J,hst,hun,hnew,hpin,⟨k1,k2,k3,oe,vs,T,oT,ts,t1,t2,t3,t4,t5,t6,t7,t8,t9⟩,hE⟩:=U;have other : ∀ b,b≠T->(s.heap.update T (Obj.mapFields (·.setIfInBounds 3 (cenv.frame.elim Value.none fun f=>rawInt f)))).get? b=s.heap.get? b:=fun b hb=>Heap.get?_update_other _ _ (Ne.symm hb);have lt3 : 3 < ts.size:=(Array.getElem?_eq_some_iff.mp t9).1
 have nf : ∀ b o,s.heap.get? b=some o->(∀ ws,o.data≠.fields ws)->b≠T:=fun b o e n z=>by
  rw [z,t7] at e;cases e;exact n ts t8
 unfold PySem.passOn setFlight;refine wpAny_bind (wpAny_field t1 t3 t4 ?_);rw [if_neg (show ¬ ((Value.ref T==Value.none)=true) from by simp)];refine wpAny_bind (wpAny_bind (wpAny_field t1 t3 t4 ?_));rw [if_pos (show (Value.ref T != Value.none)=true from by simp)];refine wpAny_setField t7 t8 lt3 (wpAny_throw (k (cenv.frame.elim Value.none fun f=>rawInt f) _ (z83 hex hs J hst hun hnew hpin ⟨fun b o hbo=>?_,k2,?_,oe,vs,T,_,_,(other a (Ne.symm t6)).trans t1,t2,t3,t4,t5,t6,Heap.get?_update_self _ t7 (Obj.isFreed_of_fields (Obj.data_mapFields t8 _)),Obj.data_mapFields t8 _,by simp [lt3]⟩ (fun b o e n=>⟨o.slots,(other b (nf b o e n)).trans e⟩) hE)))
 ·exact (other b fun q=>by rw [q,t5] at hbo; cases hbo).trans (k1 b o hbo)
 ·exact k3.of_keeps fun b o e n=>⟨o,(other b (nf b o e n)).trans e,rfl⟩
end
section
variable {fl:Value}
theorem ylp {Q:Unit->Shared->Prop} (hex:X.ex=[]) (hs:X.stack=X.env::X.outer) (hf:X.env.frame=some X.env.locals) (U:zgz X pins σ H E fl a s)
  (hQ:∀ s'',CX1 X.prog X.w X.outer X.H₀ X.s₀ E (.ref a) s''->Q () s'') : wpAny M X.A (leaving X.env (.ref a)) Q Ex s:=by
 obtain ⟨cls,a0,G,J,hst,hun,hnew,hpin,⟨k1,k2,k3,hT⟩,hE⟩:=U;have fr:=J.ok.frames;rw [hs] at fr
 have fin : ∀ h',Heap.FlyingW (W.hideAll s.heap G) X.outer a cls a0 h'->s.heap.UpToSlots h'->Q () { s with heap:=h' }:=fun h' x1 x2=>hQ _ (zvz J hex hst hun hnew x1 x2 hE)
 by_cases q : fl=rawInt X.env.locals
 ·subst q;unfold leaving;refine wpAny_bind (wpAny_noteFrame_againW hf hT ?_);refine wpAny_landsW (l:=X.env::X.outer) ⟨k1,k2,k3,hT⟩ fun h' ⟨j1,j2,⟨_,_,j3⟩,j4⟩ up=>fin h' ⟨j1,j2,j3,j4⟩ up
 ·obtain ⟨oe,vs,T,oT,ts,t1,⟨tc,t0⟩,t3,t4,t5,t6,t7,t8,t9⟩:=hT;subst tc;have other : ∀ b,b≠T->(s.heap.update T (Obj.mapFields (·.setIfInBounds 3 Value.none))).get? b=s.heap.get? b:=fun b hb=>Heap.get?_update_other _ _ (Ne.symm hb)
  have nf : ∀ b o,s.heap.get? b=some o->(∀ ws,o.data≠.fields ws)->b≠T:=fun b o e n z=>by
   rw [z,t7] at e;cases e;exact n ts t8
  unfold leaving noteFrame;simp only [hf];refine wpAny_bind (wpAny_bind (wpAny_field t1 t3 t4 ?_));rw [if_pos (show (Value.ref T != Value.none)=true from by simp)];refine wpAny_bind (wpAny_field t7 t8 t9 ?_);rw [if_neg (fun z=>q (beq_iff_eq.mp z))];refine wpAny_bind (wpAny_setField t7 t8 (Array.getElem?_eq_some_iff.mp t9).1 ?_);refine wpAny_newEntryW fr (k3.of_keeps fun b o e n=>⟨o,(other b (nf b o e n)).trans e,rfl⟩) hf ((other a (Ne.symm t6)).trans t1) (fun b o hbo=>(other b fun q=>by rw [q,t5] at hbo; cases hbo).trans (k1 b o hbo)) k2 t3 (Array.getElem?_eq_some_iff.mp t4).1 t0 fun h' ⟨j1,⟨_,_,j2⟩,j3,j4⟩=>?_;exact fin h' ⟨j1,k2,j2,j3⟩ fun b o e n=>j4 b o ((other b (nf b o e n)).trans e) n
end
def zvc (X:Cx) (E:XK) : Prop:=∀ (pins:PNS) (σ:St) (H:Hp) (fl:Value) (a:Addr) (s:Shared),zgz X pins σ H E fl a s->X.xe (.ref a) s
variable {P:Program} {mg:MGT} {base:Heap} {scope:Scope}
theorem ygn {N:LSt} {qual:Str} {f:Addr} {cdv:Value} {A:Around} {outer:List Env} :
  zvc (zen (CX1 P w) P w K mg base N qual scope f cdv A outer s H E) E:=fun pins σ H' fl a s1 U=>ylp rfl rfl rfl U fun s'' q=>q
variable {elt tg iter:Expr} {ifs:LEx} {Nc:LSt} {k:Nat} {js:LN} {g:TG} {tt:TT} {te:TE} {cl:List (Str×Addr)}
theorem yav {E0:XK} (hex:X.ex=[]) (hst:X.stack=X.env::X.outer) (hfr:X.env.frame=some X.env.locals) {H2:Hp} {s2:Shared} {it:Addr} {fp:LAd} {tn:Nat->Heap->Prop} {J:It} {Q:VK} {RR:Value->Addr->Result->Shared->Prop} {E:PRS}
  (hc:X.calm=true) (ck:zi0 scope X.env.scope.names X.N Nc k js)
  (hg:∀ cl C ex s₂ H₂,PG @0 tg g) (ht:∀ cl C ex s₂ H₂,PTs @0 ifs tt) (he:∀ cl C ex s₂ H₂ xe,zed (CX1 X.prog X.w) ((X.comp scope Nc cl C ex s₂ H₂).to [] xe) E0->PE ((X.comp scope Nc cl C ex s₂ H₂).to [] xe) elt te)
  (a1:∀ x c,cl.lookup x=some c->X.env.cells.lookup x=some c) (a2:∀ x,(x,NameKind.free)∈scope.names->∃ c,cl.lookup x=some c)
  (I2:Inv X pins σ H2 s2) (T:zh7 X.prog X.w X.K tg J fp it tn) (st2:tn 0 s2.heap) (f2:∀ b∈fp,zec X pins H2 b) (hW:zrn J g tt te (zfg k js σ) H2 Q)
  (hRR:∀ (D C:Addr) (s':Shared) (H':Hp),Inv X pins σ H' s'->(∃ m,s'.heap.Ns C m)->zec X pins H' C->Q (.ref D) H'->RR (.ref D) C (.ok .next) s')
  (hRE:∀ (D C:Addr) (fl:Value) (a:Addr) (H':Hp) (s':Shared),zgz X pins σ H' E0 fl a s'->(∃ m,s'.heap.Ns C m)->zec X pins H' C->RR (.ref D) C (.error (.ref a)) s') :
  wpAny @1 X.A (newList []) (fun acc s₃=>wpAny @1 X.A (newFunctionEnv scope X.env.globals cl [] X.env.qual none .none (some X.env)) (fun cenv s₄ =>
   codeAny @1 X.A (.compStart @7 0 (.ref it) acc { cenv with scope:=relabel scope X.env }) (RR acc cenv.locals) s₄) E s₃) E s2:=by
 refine z14 (PX:=fun Y=>zed (CX1 X.prog X.w) Y E0) hc ck hg ht he a1 a2 I2 T st2 f2 hW hRR fun D C hD hDC' stko=>?_;intro pins' σ' H' s1 e s' I1 hx1;have bs : Un (frs X.stack) fp H2 H' s2.heap s1.heap:=I1.base
 have IX : Inv X pins σ H' s1:=I2.call' (ch:=fp) I1.os bs I1.hok I1.bare fun b hb=>by
  obtain ⟨_,f1,_,f3,f4,f5⟩:=f2 b hb;exact ⟨f3,f1,f4,f5⟩
 obtain ⟨a,H'',rfl,un,U⟩:=yls IX hex hst hx1;obtain ⟨m,⟨oC,es,ep,hoC,hdC,hk1,hk2⟩,_⟩:=I1.loc;have nC : C∉frs X.stack:=fun z=>absurd (Nat.lt_trans (stko C z) hDC') (Nat.lt_irrefl _);have hC1 : s'.heap.get? C=some oC:=un.keep C oC hoC I1.free nC (fun z=>by cases z);have hC2 : H'' C=none:=un.free C oC hoC I1.free (fun z=>by cases z);show wpAny @1 X.A (noteFrame (.ref a) X.env) (fun _ s''=>RR (.ref D) C (.error (.ref a)) s'') _ s';exact ylr hex hst hfr U fun fl h' U' up=>hRE D C fl a H'' _ U' ⟨m,up.ns ⟨oC,es,ep,hC1,hdC,hk1,hk2⟩⟩ (I2.fpOk (by omega) hC2)
variable {wi:TI}
theorem ygu {E0:XK} (hex:X.ex=[]) (hst:X.stack=X.env::X.outer) (hfr:X.env.frame=some X.env.locals) (hU:zvc X E0) (k:Nat) (js:LN) (Nc:LSt) (hc:X.calm=true) (hi:PI X tg iter wi)
  (hg:∀ cl C ex s₂ H₂,PG @0 tg g) (ht:∀ cl C ex s₂ H₂,PTs @0 ifs tt) (he:∀ cl C ex s₂ H₂ xe,zed (CX1 X.prog X.w) ((X.comp scope Nc cl C ex s₂ H₂).to [] xe) E0->PE ((X.comp scope Nc cl C ex s₂ H₂).to [] xe) elt te)
  (ck:zh9 scope X.env.scope.names X.N Nc k js=true:=by rfl) (hs:∀ x,foldedSetIterable iter X.env x=pure x:=by intro _; rfl) :
  PE X @7 (znk k js wi g tt te):=by
 intro pins s σ H Q I h;have ck:=zi0.of ck;rw [eval_ListComp];obtain ⟨cl,hcl,a1,a2⟩:=zvw (scope:=scope) (env:=X.env) fun x hx e=>I.ok.has x.1 (ck.free x hx e);refine wpAny_comprehension_free (use:=none) rfl hs hcl ck.kind ck.loc (thn (hi pins s σ H _ I h) fun v s1 h1=>thn h1 fun itv s2 h2=>?_);obtain ⟨it,fp,tn,J,H2,e,I2,T,st2,f2,hW⟩:=h2;subst e;refine yav (E0:=E0) hex hst hfr (RR:=fun acc C=>compPost @1 X.A X.xe none (EP X pins σ Q) acc C) hc ck hg ht he a1 a2 I2 T st2 f2 hW (fun D C s' H' I' ⟨m,hn⟩ fC q=>?_) fun D C fl a H' s' U ⟨m,hn⟩ fC=>⟨m,hn,fun h' sb cenv hl=>ylt hex hst (ylq hst U hn fC sb) fun fl' h'' U'=>hU _ _ _ _ _ _ U'⟩;obtain ⟨f0,f1,_,f3,f4,f5⟩:=fC;exact ⟨m,hn,fun h' hs'=>⟨.ref D,H',I'.turned (t':=s'.toks) (fun b o hb e=>(hs'.2 b hb).trans e) f0 f1 f3 f4 f5,rfl,q⟩⟩
variable {ex:LAd} {s₂:Shared} {H₂:Hp} {e:Expr}
theorem PE.toE {t:TE} (h:PE @0 e t) : PE ((X.comp scope Nc cl C ex s₂ H₂).to [] xe) e t:=fun pins s σ H Q I q =>
 wpAny_mono (h pins s σ H Q (zsj I) q) (fun u s' ⟨v,H',I',r,q'⟩=>⟨v,H',zsk I',r,q'⟩) fun _ _ z=>z.elim
theorem PA.toE {t:TA} (h:PA @0 es t) : PA ((X.comp scope Nc cl C ex s₂ H₂).to [] xe) es t:=fun pos pins s σ H Q I q =>
 wpAny_mono (h pos pins s σ H Q (zsj I) q) (fun u s' ⟨v,H',I',r,q'⟩=>⟨v,H',zsk I',r,q'⟩) fun _ _ z=>z.elim
theorem glT {Y:Cx} {pn:PNS} {x:Str} (h:Gl Y x) : Gl (Y.to pn xe) x:=h
variable {fa:Xa}
theorem DAX.toE (h:DAX c @0 es fa) : DAX c ((X.comp scope Nc cl C ex s₂ H₂).to [] xe) es fa:=⟨PA.toE h.pa,h.len⟩
noncomputable def zgd (g:D->LS->Option LS) (ft:MF4) (fe:MF1) (re:LS->Bool) (ρ:LS) : LD->Bool
 | []=>false
 | d::ds=>match g d ρ with
  | some ρ1=>(match ft ρ1 with
   | some true=>re ρ1 || ((fe ρ1).isSome && zgd g ft fe re ρ ds)
   | some false=>zgd g ft fe re ρ ds
   | none=>false)
  | none=>false
noncomputable def zm7 (k:Nat) (js:LN) (fi:MF2) (g:D->LS->Option LS) (ft:MF4) (fe:MF1) (re:LS->Bool) (ρ:LS) : Bool:=match fi ρ with
 | some ds=>decide (ds.length<=16777216) && zgd g ft fe re (zb9 k js ρ) ds
 | none=>false
variable {fi:MF2} {g:D->LS->Option LS} {ft:MF4} {fe:MF1} {re:LS->Bool} {G:Gc}
theorem yij (hj:js.Nodup) (hk:∀ d ρ ρ' i,g d ρ=some ρ'->k<=i->ρ'[i]?=ρ[i]?) (hlen:∀ d ρ ρ',g d ρ=some ρ'->ρ'.length=ρ.length) {Q:VK} (h:tR G C E (zm7 k js fi g ft fe re) σ H) :
  znk k js (z00 G fi) (tDG G g) (tDT G ft) (fun σ H Q=>tD G fe σ H Q\/tR G C E re σ H) σ H Q:=by
 obtain ⟨Hf0,H0,Hf,ρ,st,ef,kE⟩:=h;unfold zm7 at ef
 cases e1 : fi ρ with
 | none=>rw [e1] at ef; cases ef
 | some ds =>
  rw [e1] at ef;replace ef : (decide (ds.length<=16777216) && zgd g ft fe re (zb9 k js ρ) ds)=true:=ef;rw [Bool.and_eq_true,decide_eq_true_eq] at ef;obtain ⟨hz,ef⟩:=ef;refine ⟨Hf0,H0,Hf,ρ,ds,st,e1,fun J Hf1 H1 x1 it=>?_⟩
  refine ⟨fun i m ys σ' H'=>m=ds.length - i/\i<=ds.length/\∃ Hf' as,Ext Hf1 H1 Hf' H'/\zao G Hf0 H0 Hf' H' σ' (zb9 k js ρ)/\zan G Hf' as ys/\zgd g ft fe re (zb9 k js ρ) (ds.drop i)=true/\as.length<=i,
   ⟨ds.length,rfl,Nat.zero_le _,Hf1,[],Ext.refl x1.s,(st.step x1).comp k hj,rfl,ef,Nat.le_refl _⟩,?_⟩
  rintro i m ys σ' H' ⟨rfl,hi,Hf',as,x2,st2,ra,ec,hal⟩;have hys : ys.length<=sizeLine:=by rw [sizeLine_eq,<- ra.length]; omega
  obtain ⟨it1,it2⟩:=it Hf' H' x2 i
  have hlt : i < ds.length:=by
   rcases Nat.lt_or_ge i ds.length with z | z
   ·exact z
   ·rw [drop_eq_nil_of_le z] at ec;cases ec
  obtain ⟨d,ed,edr⟩:=zr3 hlt;obtain ⟨go,yl⟩:=it1 d ed
  refine .inr ⟨go,hys,fun ys' σ2 H2=>ds.length - (i + 1)=ds.length - (i + 1)/\i + 1<=ds.length/\∃ Hf' as,Ext Hf1 H1 Hf' H2/\zao G Hf0 H0 Hf' H2 σ2 (zb9 k js ρ)/\zan G Hf' as ys'/\zgd g ft fe re (zb9 k js ρ) (ds.drop (i + 1))=true/\as.length<=i + 1,
   fun ys' σ2 H2 w=>⟨ds.length - (i + 1),by omega,w⟩,fun x H2 y=>?_⟩
  obtain ⟨Hf2,x3,rx⟩:=yl x H2 y;rw [edr] at ec;unfold zgd at ec
  cases eg : g d (zb9 k js ρ) with
  | none=>rw [eg] at ec; cases ec
  | some ρ1 =>
   rw [eg] at ec;dsimp only at ec
   cases et : ft ρ1 with
   | none=>rw [et] at ec; cases ec
   | some b =>
    rw [et] at ec;refine ⟨Hf0,H0,Hf2,zb9 k js ρ,d,ρ1,st2.step x3,rx,eg,fun σ3 st3=>⟨Hf0,H0,Hf2,ρ1,b,st3,et,fun Hf4 H4 x4=>?_⟩⟩
    have back : ∀ {Hf5 H5:Hp},zao G Hf0 H0 Hf5 H5 σ3 ρ1->zao G Hf0 H0 Hf5 H5 σ3 (zb9 k js ρ):=fun {Hf5 H5} s5=>s5.weak (hlen _ _ _ eg).symm fun j s hs=>by
     rcases zk9 hs with ⟨_,e⟩ | ⟨hj',_⟩
     ·exact .inl e
     ·exact .inr (by rw [hk _ _ _ _ eg hj']; exact hs)
    cases b with
    | true =>
     dsimp only at ec;refine zsl ?_
     rcases Bool.or_eq_true_iff.mp ec with ec | ec
     ·exact .inr ⟨Hf0,H0,Hf4,ρ1,st3.step x4,ec,kE⟩
     ·rw [Bool.and_eq_true] at ec;obtain ⟨ef1,ec⟩:=ec
      cases ee : fe ρ1 with
      | none=>rw [ee] at ef1; cases ef1
      | some y' =>
       refine .inl ⟨Hf0,H0,Hf4,ρ1,y',st3.step x4,ee,fun v Hf5 H5 x5 r5=>?_⟩;have x:=(x3.trans x4).trans x5
       exact ⟨rfl,hlt,Hf5,as++[y'],x2.trans x,back ((st3.step x4).step x5),(ra.up x.f).append (.cons r5 .nil),ec,by rw [length_append,length_singleton]; omega⟩
    | false =>
     dsimp only at ec;refine zw2 ?_;have x:=x3.trans x4;exact ⟨rfl,hlt,Hf4,as,x2.trans x,back (st3.step x4),ra.up x.f,ec,by omega⟩
theorem yjd (k:Nat) (js:LN) (Nc:LSt) (hc:X.calm=true) (hex:X.ex=[]) (hst:X.stack=X.env::X.outer) (hfr:X.env.frame=some X.env.locals) (hU:zvc X E) (hi:DIe c X tg iter fi) (hg:∀ cl C ex s₂ H₂,DG c @0 tg k g) (ht:∀ cl C ex s₂ H₂,DTs c @0 ifs ft)
  (he:∀ cl C ex s₂ H₂,DE c @0 elt fe) (hr:∀ cl C' ex s₂ H₂ xe,zed (CX1 X.prog X.w) ((X.comp scope Nc cl C' ex s₂ H₂).to [] xe) E->RX c ((X.comp scope Nc cl C' ex s₂ H₂).to [] xe) C E elt re)
  (ck:zh9 scope X.env.scope.names X.N Nc k js=true:=by rfl) (hs:∀ x,foldedSetIterable iter X.env x=pure x:=by intro _; rfl) (hj:js.Nodup:=by decide) :
  RX c X C E @7 (zm7 k js fi g ft fe re) :=
 PE.imp (ygu (E0:=E) hex hst hfr hU (g:=tDG (Gx c X) g) (tt:=tDT (Gx c X) ft) (te:=fun σ H Q=>tD (Gx c X) fe σ H Q\/tR (Gx c X) C E re σ H) k js Nc hc hi (fun cl C ex s₂ H₂=>(hg cl C ex s₂ H₂).pg) ht (fun cl C' ex s₂ H₂ xe hp=>PE.orR (PE.toE (he cl C' ex s₂ H₂)) (hr cl C' ex s₂ H₂ xe hp)) ck hs) fun σ H Q h =>
  yij hj (hg [] 0 [] X.s₀ X.H₀).keep (hg [] 0 [] X.s₀ X.H₀).len h
def z6r : V->List V->Hp->VK->Prop:=fun x vs H Q=>∃ l xs y i,x=.ref l/\vs=[.int i,y]/\H l=some (.lst xs)/\0<=i/\i<=xs.length/\xs.length < 16777216/\Q .non (upd H l (.lst (xs.take i.toNat++y::xs.drop i.toNat)))
theorem z9a : ∀ {xs:List V} {us:LVa} (n:Nat),zay xs us->zay (xs.take n) (us.take n)
 | _,_,0,_=>.nil
 | _,_,_ + 1,.nil=>.nil
 | _,_,n + 1,.cons r t=>.cons r (z9a n t)
theorem z87 : ∀ {xs:List V} {us:LVa} (n:Nat),zay xs us->zay (xs.drop n) (us.drop n)
 | _,_,0,h=>h
 | _,_,_ + 1,.nil=>.nil
 | _,_,n + 1,.cons _ t=>z87 n t
theorem yet : MtM X "list.insert" z6r:=by
 intro pins s σ H x vs v us Q I rx rv h;obtain ⟨l,xs,y,i,rfl,rfl,hH,h0,hi,hz,q⟩:=h;cases rx;obtain ⟨ui,uy,rfl,ri,ry⟩:=zqj rv;obtain ⟨t,rfl⟩:=ri;obtain ⟨z,its,n,r,hl,e⟩:=I.lstM hH
 have hfit : Builtin.List.listFitsIndex i=true:=by
  unfold Builtin.List.listFitsIndex;rw [Bool.and_eq_true,decide_eq_true_eq,decide_eq_true_eq];omega
 refine call_meets F.slot_list_insert ⟨_,e,rfl⟩ F.entry_list_insert (F.args_list_insert_3 _ _ _) (PySem.AutoSeq1.list_insert_list_int_val_1 l its.toArray n i t uy (by rw [hfit]; exact fun z=>by cases z) (by rw [size_toArray,<- hl]; exact z)) ⟨e,?_⟩;refine ⟨.non,_,I.lset (its':=its.take i.toNat++uy::its.drop i.toNat) hH e ?_ ((z9a _ r).append (.cons ry (z87 _ r))) ?_,rfl,q⟩
 ·have h1 : ¬ i < 0:=by omega
  have h2 : min i.toNat its.toArray.size=i.toNat:=by rw [size_toArray]; omega
  simp only [if_neg h1,h2];apply Array.toList_inj.mp;simp [take_of_length_le]
 ·rw [length_append,length_cons,length_take,length_drop,sizeLine_eq];omega
noncomputable def zpb (i:Nat) (f:Xa) (ρ:LS) : Option Fl:=match ρ[i]? with
 | some (.own _)=>(f ρ).bind fun p=>match p.2[i]?,p.1 with
  | some (.own xs),[.int n,d]=>if 0<=n/\n<=xs.length/\xs.length < 16777216 then some (.nx (p.2.set i (.own (xs.take n.toNat++d::xs.drop n.toNat)))) else none
  | _,_=>none
 | _=>none
theorem z66 {G:Gc} {H:Hp} : ∀ {ds:LD} {vs:List V} (n:Nat),zan G H ds vs->zan G H (ds.take n) (vs.take n)
 | _,_,0,_=>by rw [take_zero,take_zero]; rfl
 | [],_,_ + 1,h=>by cases (show _=[] from h); rfl
 | d::ds,_,n + 1,⟨v,r,e,h1,h2⟩=>by subst e; exact ⟨v,_,rfl,h1,z66 n h2⟩
theorem z65 {G:Gc} {H:Hp} : ∀ {ds:LD} {vs:List V} (n:Nat),zan G H ds vs->zan G H (ds.drop n) (vs.drop n)
 | _,_,0,h=>h
 | [],_,_ + 1,h=>by cases (show _=[] from h); rfl
 | d::ds,_,n + 1,⟨v,r,e,h1,h2⟩=>by subst e; exact z65 n h2
theorem ybg {f:Xa} (h:PS X st (zu3 (tBM X.K "list" z6r (zc2 i) (znl (Gx c X) f)))) : DS c X st (zpb i f):=PS.imp h fun E σ H q_=>by
 obtain ⟨Hf0,H0,Hf,ρ,o,so,ef,k⟩:=q_;unfold zpb at ef;split at ef
 ·rename_i xs0 es0
  cases e1 : f ρ with
  | none=>rw [e1] at ef; cases ef
  | some p =>
   rw [e1,bind_some] at ef;split at ef
   ·rename_i xs n d es eds;split at ef
    ·rename_i hl;cases ef;obtain ⟨l,e2,h0,hf,vs0,q0,r0⟩:=so.ownAt (s:=.own xs0) rfl es0;refine ⟨_,e2,.inl ⟨rfl,_,SqL.of q0⟩,Hf0,H0,Hf,ρ,p.1,p.2,so,e1,fun vs1 Hf' H' s so' r'=>?_⟩;rw [eds] at r';obtain ⟨v1,r1,ev1,hv1,v2,r2,ev2,hv2,ev3⟩:=r';cases (show v1=_ from hv1);cases (show r2=_ from ev3);subst ev2;subst ev1;obtain ⟨l2,e3,h02,hf2,vs,q,r⟩:=so'.ownAt (s:=.own xs) rfl es;rw [e2] at e3;cases e3;have hlen:=r.length;refine ⟨l,vs,v2,n,rfl,rfl,q,hl.1,by omega,by omega,k σ Hf' _ s (so'.mutd (s:=.own xs) (s':=.own (xs.take n.toNat++d::xs.drop n.toNat)) rfl rfl es e2 ⟨_,zb8,(z66 _ r).append ⟨v2,_,rfl,hv2,z65 _ r⟩⟩)⟩
    ·cases ef
   ·cases ef
 ·cases ef
open Classical in
noncomputable def mXQ (j:Nat) (m:Xe) (ρ:LS) : Option (D×LS):=match ρ[j]? with
 | some (.own xs)=>if h : ∃ q : D×LD,∀ l,m (ρ.set j (.pin l xs))=some (q.1,ρ.set j (.pin l q.2)) then some (h.choose.1,ρ.set j (.own h.choose.2)) else none
 | _=>none
variable {xs:LD}
theorem zao.toPin (h:zao G Hf0 H0 Hf H σ ρ) (e:ρ[j]?=some (.own xs)) : ∃ l,zao G Hf0 H0 Hf H σ (ρ.set j (.pin l xs)):=by
 obtain ⟨l,e1,h0,hf,vs,q,r⟩:=h.ownAt (s:=.own xs) rfl e;refine ⟨l,h.re h.ext (by simp) (fun i v s a b=>?_) fun i s v a b c d=>?_⟩
 ·by_cases hi : j=i
  ·subst hi;rw [List.getElem?_set_self (gq e).1] at b;cases b;rw [e1] at a;cases a;exact ⟨l,rfl,h0,hf,rfl,vs,q,r⟩
  ·rw [List.getElem?_set_ne hi] at b;exact h.at' i v s a b
 ·by_cases hi : j=i
  ·subst hi;rw [List.getElem?_set_self (gq e).1] at b;cases b;exact ⟨_,e,(Holds.own rfl).mpr ((Holds.own rfl).mp d)⟩
  ·rw [List.getElem?_set_ne hi] at b;exact ⟨s,b,d⟩
variable {l:Addr}
theorem zao.ofPin (hj:j < ρ.length) (h:zao G Hf0 H0 Hf H σ (ρ.set j (.pin l xs))) : zao G Hf0 H0 Hf H σ (ρ.set j (.own xs)):=by
 have e : (ρ.set j (.pin l xs))[j]?=some (.pin l xs):=List.getElem?_set_self hj;obtain ⟨l',e1,h0,hf,el,vs,q,r⟩:=h.ownAt (s:=.pin l xs) rfl e;refine h.re h.ext (by simp) (fun i v s a b=>?_) fun i s v a b c d=>?_
 ·by_cases hi : j=i
  ·subst hi;rw [List.getElem?_set_self hj] at b;cases b;rw [e1] at a;cases a;exact ⟨l',rfl,h0,hf,vs,q,r⟩
  ·rw [List.getElem?_set_ne hi] at b;exact h.at' i v s a (by rw [List.getElem?_set_ne hi]; exact b)
 ·by_cases hi : j=i
  ·subst hi;rw [List.getElem?_set_self hj] at b;cases b;exact ⟨_,e,(Holds.own rfl).mpr ((Holds.own rfl).mp d)⟩
  ·rw [List.getElem?_set_ne hi] at b;exact ⟨s,by rw [List.getElem?_set_ne hi]; exact b,d⟩
theorem z22 {m:Xe} (h:DX c X e m) : DX c X e (mXQ j m):=PE.imp h fun σ H Q q_=>by
 obtain ⟨Hf0,H0,Hf,ρ,d,ρ',so,ef,k⟩:=q_;unfold mXQ at ef;split at ef
 ·rename_i xs ej;split at ef
  ·rename_i hq;have hs:=hq.choose_spec;cases ef;obtain ⟨l,so'⟩:=so.toPin ej;exact ⟨Hf0,H0,Hf,_,_,_,so',hs l,fun v Hf' H' s so2 r=>k v Hf' H' s (so2.ofPin (gq ej).1) r⟩
  ·cases ef
 ·cases ef
theorem z98 : bootBuiltins "ValueError"=some (.type "ValueError"):=by decide +kernel
theorem yes (h:W.mroIn K C v=some true) : zpl K C v=true:=by
 unfold W.mroIn W.clsIn at h;unfold zpl
 cases e : K.lookup C with
 | none=>rw [e] at h; cases h
 | some o =>
  rw [e] at h;obtain ⟨oc,od,da,sl⟩:=o
  cases da with
  | cls cd =>
   dsimp only at h ⊢;rw [bind_some] at h;split at h
   ·cases h
   ·exact Option.some.inj h
  | _=>cases h
variable {f:MF1}
theorem yba {g:MF1} (h:PE X e (tBM X.K "str" (zyn X.K) (tD (Gx c X) f) (zli (tDB (Gx c X) g) ziv))) : DE c X e (m2 zhu f g):=PE.imp h fun σ H Q q_=>by
 obtain ⟨Hf0,H0,Hf,ρ,d,st,ef,k⟩:=q_;obtain ⟨x,y,e1,e2,e3⟩:=zmg ef;unfold zhu at e3;split at e3
 ·rename_i a
  cases e4 : lsD y with
  | none=>rw [e4] at e3; cases e3
  | some ds =>
   rw [e4,bind_some] at e3
   cases e5 : zh4 ds with
   | none=>rw [e5] at e3; cases e3
   | some zs =>
    rw [e5,bind_some] at e3;split at e3
    ·rename_i hj;cases e3;refine ⟨Hf0,H0,Hf,ρ,_,st,e1,fun v Hf1 H1 x1 r1=>?_⟩;cases (show v=V.str a from r1);refine ⟨rfl,Hf0,H0,Hf1,ρ,_,st.step x1,e2,fun u Hf2 H2 x2 r2=>?_⟩;obtain ⟨l,vs,el,q,rs⟩:=zmf e4 r2;rw [z05 e5] at rs;rw [z0z zs vs rs] at q;exact ⟨a,l,zs,rfl,by rw [el],q,hj,k _ Hf2 H2 (x1.trans x2) rfl⟩
    ·cases e3
 ·cases e3
end L2
namespace N_k77
open List
open Option (bind_some)
open PySem PySem.Spec PyProof.Rows L2
local macro_rules | `(tactic| walk_at "sc")=>`(tactic| exact ⟨rfl,rfl,rfl,by decide +kernel,rfl,by decide +kernel,by decide +kernel⟩)
noncomputable def top (i:Nat) : Stmt:=PySem.Challenge.pw_standstill_k77_texts_of_rows.main.body.getD i (.Pass ⟨0,0,0,0⟩)
noncomputable abbrev zy4:=top 12
noncomputable abbrev zzk:=top 13
noncomputable abbrev zz7:=top 14
noncomputable abbrev zz8:=top 15
noncomputable abbrev zzx:=top 16
noncomputable abbrev s_2:=top 18
noncomputable abbrev s_1:=top 19
noncomputable abbrev zzl:=top 20
noncomputable abbrev s_0:=top 23
noncomputable abbrev zzp:=top 24
noncomputable abbrev zze:=top 25
noncomputable abbrev zzq:=top 26
noncomputable abbrev zy9:=top 27
noncomputable abbrev zzt:=top 28
noncomputable abbrev zy7:=top 29
noncomputable abbrev zzr:=top 30
noncomputable abbrev zzc:=top 31
noncomputable abbrev zz9:=top 32
noncomputable abbrev zzy:=top 33
noncomputable abbrev zzf:=top 34
noncomputable abbrev zzm:=top 35
noncomputable abbrev zzz:=top 36
noncomputable abbrev z0c:=top 37
noncomputable abbrev zza:=top 38
noncomputable abbrev zy8:=top 39
noncomputable abbrev zzi:=top 40
noncomputable abbrev zzd:=top 41
noncomputable abbrev z0a:=top 42
noncomputable abbrev zzn:=top 43
noncomputable abbrev zzs:=top 44
noncomputable abbrev zzg:=top 45
noncomputable abbrev zy3:=top 46
noncomputable abbrev zzu:=top 47
noncomputable abbrev zz0:=top 48
noncomputable abbrev s_9:=top 49
noncomputable abbrev z0e:=zc1 (top 21) 0
noncomputable abbrev zyz:=zc1 (top 21) 1
noncomputable abbrev zy6:=zc1 (top 21) 2
noncomputable abbrev s_6:=zc1 (top 21) 3
noncomputable abbrev zzb:=zc1 (top 21) 4
noncomputable abbrev zy5:=zc1 (top 21) 5
noncomputable abbrev s_4:=zc1 (top 21) 6
noncomputable abbrev zzv:=zc1 (top 21) 7
noncomputable abbrev zy0:=zc1 (top 21) 8
noncomputable abbrev s_3:=zc1 (top 21) 9
noncomputable abbrev zy1:=zc1 (top 21) 10
noncomputable abbrev zz1:=zc1 (top 21) 11
noncomputable abbrev zzj:=zc1 (top 21) 12
noncomputable abbrev zzo:=zc1 (top 21) 13
noncomputable abbrev s_5:=zc1 (top 21) 14
noncomputable abbrev z0d:=zc1 (top 21) 15
noncomputable abbrev s_7:=zc1 (top 21) 16
noncomputable abbrev s_8:=zc1 (top 21) 17
noncomputable abbrev zy2:=zc1 (top 21) 18
noncomputable abbrev zz2:=zc1 (top 21) 19
noncomputable abbrev zzw:=zc1 (top 21) 20
noncomputable abbrev zz3:=zc1 (top 21) 21
noncomputable abbrev zz4:=zc1 (top 21) 22
noncomputable abbrev z0b:=zc1 (top 21) 23
noncomputable abbrev zzh:=zc1 (top 21) 24
noncomputable abbrev zz5:=zc1 (top 21) 25
noncomputable abbrev zz6:=zc1 (top 21) 26
theorem z7n : za1 ["line","spaced","sign"] ["line"] (zau zy4):=by walk_at "sc"
theorem yjl : za1 ["word","signs","most"] ["word","signs","most"] (zau zzk):=by walk_at "sc"
theorem yjq : za1 ["word"] ["word"] (zau zz7):=by walk_at "sc"
theorem yjr : za1 ["word"] ["word"] (zau zz8):=by walk_at "sc"
theorem z7v : za1 ["word","figures"] ["word"] (zau zzx):=by walk_at "sc"
theorem z0f : za1 ["text"] ["text"] (zau s_2):=by walk_at "sc"
theorem zld : za1 ["line","reader","row"] ["line"] (zau s_1):=by walk_at "sc"
theorem yjm : za1 ["listed","most"] ["listed","most"] (zau zzl):=by walk_at "sc"
theorem yji : za1 ["_law_state","_law_many"] ["_law_state","_law_many"] (zau s_0):=by walk_at "sc"
theorem zqe : za1 ["_law_script","_law_many","_law_seeds_here","_law_at","_law_cell","_law_seed"] ["_law_script","_law_many"] (zau zzp):=by walk_at "sc"
theorem zum : za1 ["_law_state","_law_many","_law_span","_law_word","_law_k"] ["_law_state","_law_many","_law_span"] (zau zze):=by walk_at "sc"
theorem z7s : za1 ["_law_first"] ([] : LSt) (zau zzq):=by walk_at "sc"
theorem z0g : za1 ["_law_state","_law_way","_law_word"] ["_law_state"] (zau zy9):=by walk_at "sc"
theorem z7t : za1 ["_law_state","_law_great"] ["_law_state"] (zau zzt):=by walk_at "sc"
theorem zqa : za1 ["_law_state","_law_number_here","_law_k"] ["_law_state"] (zau zy7):=by walk_at "sc"
theorem yjo : za1 ["_law_state"] ["_law_state"] (zau zzr):=by walk_at "sc"
theorem z7q : za1 ["_law_state","_law_name_here"] ["_law_state"] (zau zzc):=by walk_at "sc"
theorem z72 : za1 ["_law_state","_law_thing_here"] ["_law_state"] (zau zz9):=by walk_at "sc"
theorem yjp : za1 ["_law_state"] ["_law_state"] (zau zzy):=by walk_at "sc"
theorem zun : za1 ["_law_state","_law_many","_law_pairs_here","_law_k","_law_variable_here"] ["_law_state","_law_many"] (zau zzf):=by walk_at "sc"
theorem zup : za1 ["_law_state","_law_word","_law_bound","_law_some"] ["_law_state"] (zau zzm):=by walk_at "sc"
theorem z0j : za1 ["_law_state","_law_way","_law_one"] ["_law_state"] (zau zzz):=by walk_at "sc"
theorem yjt : za1 ["_law_state"] ["_law_state"] (zau z0c):=by walk_at "sc"
theorem zh3 : za1 ["_law_state","_law_way","_law_body_here","_law_pairs_here","_law_name_here","_law_at","_law_some","_law_low","_law_high"] ["_law_state"] (zau zza):=by walk_at "sc"
theorem zqb : za1 ["_law_thing_here","_law_words_here","_law_k","_law_arg_here"] ["_law_thing_here"] (zau zy8):=by walk_at "sc"
theorem zqd : za1 ["_law_some","_law_state","_law_words_here","_law_thing_here","_law_worth"] ["_law_some","_law_state"] (zau zzi):=by walk_at "sc"
theorem zqc : za1 ["_law_opening","_law_pairs_here","_law_words_here","_law_variable_here","_law_kind"] ["_law_opening","_law_pairs_here"] (zau zzd):=by walk_at "sc"
theorem z73 : za1 ["_law_part_here","_law_state","_law_words_here"] ["_law_part_here","_law_state"] (zau z0a):=by walk_at "sc"
theorem zuq : za1 ["_law_opening","_law_body_here","_law_state","_law_words_here","_law_part_here"] ["_law_opening","_law_body_here","_law_state"] (zau zzn):=by walk_at "sc"
theorem zur : za1 ["_law_row_here","_law_state","_law_words_here"] ["_law_row_here","_law_state"] (zau zzs):=by walk_at "sc"
theorem zjy : za1 ["_law_words_here","_law_state","_law_line_here","_law_last","_law_word","_law_gap"] ["_law_words_here","_law_state"] (zau zzg):=by walk_at "sc"
theorem z7m : za1 ["_law_found","_law_due"] ["_law_found","_law_due"] (zau zy3):=by walk_at "sc"
theorem z7u : za1 ["_law_state","_law_some"] ["_law_state"] (zau zzu):=by walk_at "sc"
theorem z0k : za1 ["_law_text","_law_found","e"] ["_law_text"] (zau zz0):=by walk_at "sc"
theorem zge : za1 ["_law_script","_law_many","_law_seeds_here","_law_state","_law_due","_law_lines","_law_seed","_law_row_here","_law_text","_law_found"] ["_law_script"] (zau s_9):=by walk_at "sc"
theorem yjv : za1 ["self","words"] ["self","words"] (zau z0e):=by walk_at "sc"
theorem z7k : za1 ["self","behind","place"] ["self","behind"] (zau zyz):=by walk_at "sc"
theorem z7p : za1 ["self","word"] ["self"] (zau zy6):=by walk_at "sc"
theorem yju : za1 ["self","word"] ["self","word"] (zau s_6):=by walk_at "sc"
theorem yjj : za1 ["self","word"] ["self","word"] (zau zzb):=by walk_at "sc"
theorem z7o : za1 ["self"] ["self"] (zau zy5):=by walk_at "sc"
theorem zus : za1 ["self","word"] ["self"] (zau s_4):=by walk_at "sc"
theorem z0h : za1 ["self","low","high"] ["self"] (zau zzv):=by walk_at "sc"
theorem zp9 : za1 ["self","body"] ["self"] (zau zy0):=by walk_at "sc"
theorem zuo : za1 ["self","word"] ["self"] (zau s_3):=by walk_at "sc"
theorem zul : za1 ["self","names"] ["self"] (zau zy1):=by walk_at "sc"
theorem z7w : za1 ["self","word"] ["self"] (zau zz1):=by walk_at "sc"
theorem z7r : za1 ["self","word"] ["self"] (zau zzj):=by walk_at "sc"
theorem yjn : za1 ["self"] ["self"] (zau zzo):=by walk_at "sc"
theorem zut : za1 ["self","name"] ["self"] (zau s_5):=by walk_at "sc"
theorem z74 : za1 ["self","args"] ["self"] (zau z0d):=by walk_at "sc"
theorem z75 : za1 ["self"] ["self"] (zau s_7):=by walk_at "sc"
theorem zuu : za1 ["self","body"] ["self"] (zau s_8):=by walk_at "sc"
theorem z7l : za1 ["self"] ["self"] (zau zy2):=by walk_at "sc"
theorem z7x : za1 ["self","first"] ["self"] (zau zz2):=by walk_at "sc"
theorem z0i : za1 ["self","word","number"] ["self"] (zau zzw):=by walk_at "sc"
theorem z7y : za1 ["self","items"] ["self"] (zau zz3):=by walk_at "sc"
theorem z7z : za1 ["self","worth"] ["self"] (zau zz4):=by walk_at "sc"
theorem yjs : za1 ["self"] ["self"] (zau z0b):=by walk_at "sc"
theorem yjk : za1 ["self"] ["self"] (zau zzh):=by walk_at "sc"
theorem z70 : za1 ["self","pairs"] ["self"] (zau zz5):=by walk_at "sc"
theorem z71 : za1 ["self","variable"] ["self"] (zau zz6):=by walk_at "sc"
set_option genInjectivity false
set_option genSizeOf false
structure Wa where
 (e_15 e_31 e_54 e_55 e_44 e_2 e_1 e_32 e_0 e_36 e_25 e_37 e_20 e_40 e_18 e_38 e_23 e_56 e_45 e_26 e_33 e_46 e_59 e_21 e_19 e_29 e_24 e_57 e_34 e_39 e_27 e_14 e_41 e_47 e_9 e_61 e_10 e_17 e_6 e_22 e_16 e_4 e_42 e_11 e_3 e_12 e_48 e_30 e_35 e_5 e_60 e_7 e_8 e_13 e_49 e_43 e_50 e_51 e_58 e_28 e_52 e_53:Addr×FuncData)
 cl : Str->Addr
 (C_BadName C_NoRow C_NoThing C_StillError C_Wide:Addr)
structure Wd (K:W.Frag) (mg:MGT) (a:Wa) : Prop where
 e_15 : Df K mg "words_of" zy4 ["line"] a.e_15
 e_31 : Df K mg "is_made_of" zzk ["word","signs","most"] a.e_31
 e_54 : Df K mg "is_name" zz7 ["word"] a.e_54
 e_55 : Df K mg "is_variable" zz8 ["word"] a.e_55
 e_44 : Df K mg "is_number" zzx ["word"] a.e_44
 e_2 : Df K mg "read" s_2 ["text"] a.e_2
 e_1 : Df K mg "read_row" s_1 ["line"] a.e_1
 e_32 : Df K mg "at_most" zzl ["listed","most"] a.e_32
 e_0 : Df K mg "_law_next" s_0 ["_law_state","_law_many"] a.e_0
 e_36 : Df K mg "_law_seeds" zzp ["_law_script","_law_many"] a.e_36
 e_25 : Df K mg "_law_small" zze ["_law_state","_law_many","_law_span"] a.e_25
 e_37 : Df K mg "_law_kept" zzq ([] : LSt) a.e_37
 e_20 : Df K mg "_law_name" zy9 ["_law_state"] a.e_20
 e_40 : Df K mg "_law_variable" zzt ["_law_state"] a.e_40
 e_18 : Df K mg "_law_number" zy7 ["_law_state"] a.e_18
 e_38 : Df K mg "_law_arg" zzr ["_law_state"] a.e_38
 e_23 : Df K mg "_law_thing" zzc ["_law_state"] a.e_23
 e_56 : Df K mg "_law_item" zz9 ["_law_state"] a.e_56
 e_45 : Df K mg "_law_items" zzy ["_law_state"] a.e_45
 e_26 : Df K mg "_law_pairs" zzf ["_law_state","_law_many"] a.e_26
 e_33 : Df K mg "_law_count" zzm ["_law_state"] a.e_33
 e_46 : Df K mg "_law_part" zzz ["_law_state"] a.e_46
 e_59 : Df K mg "_law_body" z0c ["_law_state"] a.e_59
 e_21 : Df K mg "_law_row" zza ["_law_state"] a.e_21
 e_19 : Df K mg "_law_thing_words" zy8 ["_law_thing_here"] a.e_19
 e_29 : Df K mg "_law_items_words" zzi ["_law_some","_law_state"] a.e_29
 e_24 : Df K mg "_law_pairs_words" zzd ["_law_opening","_law_pairs_here"] a.e_24
 e_57 : Df K mg "_law_part_words" z0a ["_law_part_here","_law_state"] a.e_57
 e_34 : Df K mg "_law_body_words" zzn ["_law_opening","_law_body_here","_law_state"] a.e_34
 e_39 : Df K mg "_law_words" zzs ["_law_row_here","_law_state"] a.e_39
 e_27 : Df K mg "_law_line" zzg ["_law_words_here","_law_state"] a.e_27
 e_14 : Df K mg "_law_same" zy3 ["_law_found","_law_due"] a.e_14
 e_41 : Df K mg "_law_bad" zzu ["_law_state"] a.e_41
 e_47 : Df K mg "_law_refused" zz0 ["_law_text"] a.e_47
 e_9 : Df K mg "law" s_9 ["_law_script"] a.e_9
 e_61 : Dm K (a.cl "Reader") "__init__" "Reader.__init__" z0e ["self","words"] a.e_61
 e_10 : Dm K (a.cl "Reader") "coming" "Reader.coming" zyz ["self","behind"] a.e_10
 e_17 : Dm K (a.cl "Reader") "take" "Reader.take" zy6 ["self"] a.e_17
 e_6 : Dm K (a.cl "Reader") "passes" "Reader.passes" s_6 ["self","word"] a.e_6
 e_22 : Dm K (a.cl "Reader") "must_pass" "Reader.must_pass" zzb ["self","word"] a.e_22
 e_16 : Dm K (a.cl "Reader") "must_end" "Reader.must_end" zy5 ["self"] a.e_16
 e_4 : Dm K (a.cl "Reader") "read_form" "Reader.read_form" s_4 ["self"] a.e_4
 e_42 : Dm K (a.cl "Reader") "read_choose" "Reader.read_choose" zzv ["self"] a.e_42
 e_11 : Dm K (a.cl "Reader") "read_never" "Reader.read_never" zy0 ["self"] a.e_11
 e_3 : Dm K (a.cl "Reader") "read_name" "Reader.read_name" s_3 ["self"] a.e_3
 e_12 : Dm K (a.cl "Reader") "read_names" "Reader.read_names" zy1 ["self"] a.e_12
 e_48 : Dm K (a.cl "Reader") "read_variable" "Reader.read_variable" zz1 ["self"] a.e_48
 e_30 : Dm K (a.cl "Reader") "read_number" "Reader.read_number" zzj ["self"] a.e_30
 e_35 : Dm K (a.cl "Reader") "read_arg" "Reader.read_arg" zzo ["self"] a.e_35
 e_5 : Dm K (a.cl "Reader") "read_thing" "Reader.read_thing" s_5 ["self"] a.e_5
 e_60 : Dm K (a.cl "Reader") "read_args" "Reader.read_args" z0d ["self"] a.e_60
 e_7 : Dm K (a.cl "Reader") "read_if" "Reader.read_if" s_7 ["self"] a.e_7
 e_8 : Dm K (a.cl "Reader") "read_body" "Reader.read_body" s_8 ["self"] a.e_8
 e_13 : Dm K (a.cl "Reader") "read_part" "Reader.read_part" zy2 ["self"] a.e_13
 e_49 : Dm K (a.cl "Reader") "read_unlike" "Reader.read_unlike" zz2 ["self"] a.e_49
 e_43 : Dm K (a.cl "Reader") "read_count" "Reader.read_count" zzw ["self"] a.e_43
 e_50 : Dm K (a.cl "Reader") "read_items" "Reader.read_items" zz3 ["self"] a.e_50
 e_51 : Dm K (a.cl "Reader") "read_item" "Reader.read_item" zz4 ["self"] a.e_51
 e_58 : Dm K (a.cl "Reader") "read_over" "Reader.read_over" z0b ["self"] a.e_58
 e_28 : Dm K (a.cl "Reader") "read_for" "Reader.read_for" zzh ["self"] a.e_28
 e_52 : Dm K (a.cl "Reader") "read_pairs" "Reader.read_pairs" zz5 ["self"] a.e_52
 e_53 : Dm K (a.cl "Reader") "read_pair" "Reader.read_pair" zz6 ["self"] a.e_53
 g_Reader : mg "Reader"=some (.ref (a.cl "Reader"))
 cl_Reader : Cls K (a.cl "Reader")
 mk_Reader : Mk K (a.cl "Reader") a.e_61.1
 na_Reader_words : zgh K (a.cl "Reader") "words"
 na_Reader_place : zgh K (a.cl "Reader") "place"
 g_BadName : mg "BadName"=some (.ref a.C_BadName)
 g_NoRow : mg "NoRow"=some (.ref a.C_NoRow)
 g_NoThing : mg "NoThing"=some (.ref a.C_NoThing)
 g_StillError : mg "StillError"=some (.ref a.C_StillError)
 g_Wide : mg "Wide"=some (.ref a.C_Wide)
 x_NoRow : zd7 K a.C_NoRow=true
 x_StillError : zd7 K a.C_StillError=true
 ec_NoRow : zi1 K a.C_NoRow
 mr_StillError : W.mroIn K a.C_NoRow (.ref a.C_StillError)=some true
 ke_NoRow : W.kitOne K (.ref a.C_NoRow) (.ref a.C_NoRow)=some true
 kv_ValueError : W.kitOne K (.ref a.C_NoRow) (.type "ValueError")=some true
 km_BadName_Wide_NoThing : W.kitAny K (.ref a.C_NoRow) [.ref a.C_BadName,.ref a.C_Wide,.ref a.C_NoThing]=some false
 g_KEPT : z1e K mg "KEPT" ["kind","rule","may","choose","never","if","and","not","unlike","least","most","of","to","over","in","for"]
 g_SMALL : ∃ t,mg "SMALL"=some (.str "abcdefghijklmnopqrstuvwxyz" t)
 g_GREAT : ∃ t,mg "GREAT"=some (.str "ABCDEFGHIJKLMNOPQRSTUVWXYZ" t)
 g_FIGURES : ∃ t,mg "FIGURES"=some (.str "0123456789" t)
 g_LONE : ∃ t,mg "LONE"=some (.str "()," t)
 z_ValueError : mg "ValueError"=none
 z_abs : mg "abs"=none
 z_all : mg "all"=none
 z_bool : mg "bool"=none
 z_enumerate : mg "enumerate"=none
 z_int : mg "int"=none
 z_isinstance : mg "isinstance"=none
 z_len : mg "len"=none
 z_list : mg "list"=none
 z_max : mg "max"=none
 z_range : mg "range"=none
 z_str : mg "str"=none
 z_tuple : mg "tuple"=none
 is_bool : zg0 K "bool"
 is_int : zg0 K "int"
 is_list : zg0 K "list"
 is_str : zg0 K "str"
 is_tuple : zg0 K "tuple"
set_option genInjectivity true
set_option genSizeOf true
abbrev zc8 (P:Program) (w:World) (K:W.Frag) (mg:MGT) (base:Heap) (a:Wa) (k:Nat) (x:Str) (e:Addr×FuncData) (ps:LSt) (m:Addr->LD->LD->Option (LD×D)) : Prop:=Pm P w K mg base CX0 k (a.cl "Reader") x e ps (zlh ⟨K,a.cl⟩ "Reader" ["words","place"] ps.length m)
abbrev zit (P:Program) (w:World) (K:W.Frag) (mg:MGT) (base:Heap) (a:Wa) (k:Nat) (x:Str) (e:Addr×FuncData) (ps:LSt) (C:Addr) (r:Addr->LD->LD->Bool) : Prop:=Pm P w K mg base (CX1 P w) k (a.cl "Reader") x e ps (zni ⟨K,a.cl⟩ "Reader" ["words","place"] ps.length C r)
abbrev qM (P:Program) (w:World) (K:W.Frag) (mg:MGT) (base:Heap) (a:Wa) (k:Nat) (x:Str) (e:Addr×FuncData) (ps:LSt) (n0:Nat) (m:Addr->LD->LD->LD->Option (LD×D)) : Prop:=Pk P w K mg base CX0 k x e ps (spM ⟨K,a.cl⟩ n0 ps.length m)
abbrev qD (P:Program) (w:World) (K:W.Frag) (mg:MGT) (base:Heap) (a:Wa) (k:Nat) (x:Str) (e:Addr×FuncData) (ps:LSt) (m:LD->OD) : Prop:=Pk P w K mg base CX0 k x e ps (spD ⟨K,a.cl⟩ ps.length m)
abbrev qO (P:Program) (w:World) (K:W.Frag) (mg:MGT) (base:Heap) (a:Wa) (k:Nat) (x:Str) (e:Addr×FuncData) (ps:LSt) (m:LD->OLD) : Prop:=Pk P w K mg base CX0 k x e ps (spO ⟨K,a.cl⟩ ps.length m)
noncomputable def b_0 : MF3 :=
 (zah (zmn 0 (kI 0) (m2 zfi (m2 zcb (m2 zib (mIx (zsu 0) (kI 0)) (kI 1181783497276652981)) (kI 12345678910987)) (m2 zjb (m2 zg4 (kI 2) (kI 61)) (kI 1))))
  (zcl (m2 zfi (m2 zv1 (mIx (zsu 0) (kI 0)) (kI 65537)) (zab 1))))
noncomputable def m_0:=zdj 2 b_0
noncomputable def zoj : MF3 :=
 (zah (zdi 1 (zbp (zac (kSt "9a") (zac (kSt "-0") (zac (kSt "*") (zac (kSt "rule") (zac (kSt "kind a") (zac (kSt "rule a if") (zac (kSt "never a b") (zac (kSt "rule a, b") (zac (kSt "abcdefghi") (zac (kSt "a\tb") nZ))))))))))))
  (zbj (mX2 zd6 (mX (zbp (zf6 (zab 1) (zbp (zac (kSt "\t") (zac (kSt " \t ") nZ)))))) (zat 0 m_0 (zad (mX (kI 12)) zaa)))))
noncomputable def zpi:=zdj 2 zoj
noncomputable def zoa : MF3 :=
 (zah (zdi 2 (kSt ""))
  (zah (zdi 3 (kSt "("))
  (zah (zfo (zdx (zab 0)) (zbe 4) (zah (zbk 5 (zat 1 m_0 (zad (mX (kI 3)) zaa)))
  (zah (zbn (zhc (mB (m2 dEq (zab 5) (kI 0))) (zhc (mB (m2 zi8 (zab 4) (zbp (zac (kSt "(") (zac (kSt ")") (zac (kSt ",") nZ)))))) (mB (m2 zi8 (zab 3) (zbp (zac (kSt "(") (zac (kSt ")") (zac (kSt ",") nZ)))))))) (zdi 5 (kI 1)) zbb)
  (zah (zmh 2 (mX (m2 zcb (m2 zi7 (kSt " ") (zab 5)) (zab 4))))
  (zdi 3 (zab 4))))))
  (zbj (mX2 zcb (mX (zab 2)) (mX2 zi7 (mX (kSt " ")) (zat 1 m_0 (zad (mX (kI 3)) zaa))))))))
noncomputable def zsy:=zdj 6 zoa
noncomputable def zsh (as:LD) : Option (LSt×LD):=z7d 2 [("words",(zab 1)),("place",(kI 0))] as
noncomputable def zqv : MF3 :=
 (zbn (mB (m2 dLt (zhe 0 "Reader" "place") (zax zcg (zac (zhe 0 "Reader" "words") nZ)))) (fun _=>none) zbb)
noncomputable def zxh:=zcp 1 "Reader" ["words","place"] zqv
noncomputable def zpy : LS->Bool :=
 (rIf (mTX (mB (m2 dLt (zhe 0 "Reader" "place") (zax zcg (zac (zhe 0 "Reader" "words") nZ))))) (rOf (zac (kSt "something is left over behind the row") nZ)) rNo)
noncomputable def zyr : Addr->LD->LD->Bool:=fun l ds xs=>zpy (zff 1 l "Reader" ["words","place"] ds xs)
noncomputable def zqs : MF3 :=
 (zah (zdi 2 (m2 zcb (zhe 0 "Reader" "place") (zab 1)))
  (zcl (vIf (mB (m2 dLt (zab 2) (zax zcg (zac (zhe 0 "Reader" "words") nZ)))) (mIx (zdx (zhe 0 "Reader" "words")) (zab 2)) (kSt ""))))
noncomputable def zfs:=zcp 3 "Reader" ["words","place"] zqs
noncomputable def b_6 : MF3 :=
 (zah (zdr (mBX (mX2 dNe (zar 0 "Reader" "coming" ["words","place"] zfs (zad (mX (kI 0)) zaa)) (mX (zab 1)))) (zcl (kBl false)) zbb)
  (zah (zo9 0 "Reader" "place" (kI 1))
  (zcl (kBl true))))
noncomputable def m_6:=zcp 2 "Reader" ["words","place"] b_6
noncomputable def zqy : MF3 :=
 (zdr (zpc (zdk (zar 0 "Reader" "passes" ["words","place"] m_6 (zad (mX (zab 1)) zaa)))) (fun _=>none) zbb)
noncomputable def zil:=zcp 2 "Reader" ["words","place"] zqy
noncomputable def zqw : MF3 :=
 (zah (zbk 1 (zar 0 "Reader" "coming" ["words","place"] zfs (zad (mX (kI 0)) zaa)))
  (zah (zo9 0 "Reader" "place" (kI 1))
  (zcl (zab 1))))
noncomputable def zh1:=zcp 2 "Reader" ["words","place"] zqw
noncomputable def zq1 : MF3 :=
 (zdh (zho (zml dLe dLe (kI 1) (zax zcg (zac (zab 0) nZ)) (zab 2)) (zax zh8 (zac (zbp (zdq 1 [1] (zmo (zab 0)) (zbe 0) kY (m2 zlw (zab 0) (zab 1)))) nZ))))
noncomputable def zmt:=zdl 3 zq1
noncomputable def zre : MF3 :=
 (zdh (zho (zax zmt (zac (zab 0) (zac (kSt "abcdefghijklmnopqrstuvwxyz") (zac (kI 8) nZ)))) (m2 zi8 (zab 0) (fun _=>some (.kt (List.map D.str ["kind","rule","may","choose","never","if","and","not","unlike","least","most","of","to","over","in","for"]))))))
noncomputable def ztf:=zdl 1 zre
noncomputable def b_3 : MF3 :=
 (zah (zbk 1 (zar 0 "Reader" "take" ["words","place"] zh1 zaa))
  (zah (zbn (zfp (zcu (zax ztf (zac (zab 1) nZ)))) (fun _=>none) zbb)
  (zcl (zab 1))))
noncomputable def m_3:=zcp 2 "Reader" ["words","place"] b_3
noncomputable def zpz : LS->Bool :=
 (zel rNo (zbk 1 (zar 0 "Reader" "take" ["words","place"] zh1 zaa))
  (rIf (mTX (zfp (zcu (zax ztf (zac (zab 1) nZ))))) (rOf (zac (mFs (mFr (zab 1) (mFc " is no name" nZ))) nZ)) rNo))
noncomputable def r_3 : Addr->LD->LD->Bool:=fun l ds xs=>zpz (zff 2 l "Reader" ["words","place"] ds xs)
noncomputable def zrf : MF3 :=
 (zdh (zho (zax zmt (zac (zku (zab 0) (fun _=>some none) (mPt (kI 1))) (zac (kSt "ABCDEFGHIJKLMNOPQRSTUVWXYZ") (zac (kI 1) nZ)))) (vOr (m2 dEq (zax zcg (zac (zab 0) nZ)) (kI 1)) (zax zmt (zac (zku (zab 0) (mPt (kI 1)) (fun _=>some none)) (zac (kSt "abcdefghijklmnopqrstuvwxyz") (zac (kI 7) nZ)))))))
noncomputable def ztg:=zdl 1 zrf
noncomputable def zq8 : MF3 :=
 (zah (zbk 1 (zar 0 "Reader" "take" ["words","place"] zh1 zaa))
  (zah (zbn (zfp (zcu (zax ztg (zac (zab 1) nZ)))) (fun _=>none) zbb)
  (zcl (zab 1))))
noncomputable def zs9:=zcp 2 "Reader" ["words","place"] zq8
noncomputable def zrd : MF3 :=
 (zah (zbk 1 (zar 0 "Reader" "read_variable" ["words","place"] zs9 zaa))
  (zah (zhd (zar 0 "Reader" "must_pass" ["words","place"] zil (zad (mX (kSt "in")) zaa)))
  (zbj (zcm (zad (mX (zab 1)) (zad (zar 0 "Reader" "read_name" ["words","place"] m_3 zaa) zaa))))))
noncomputable def zte:=zcp 2 "Reader" ["words","place"] zrd
noncomputable def zrc : MF3 :=
 (zah (zh0 1 (zar 0 "Reader" "read_pair" ["words","place"] zte zaa))
  (zah (zd3 (zdk (zar 0 "Reader" "passes" ["words","place"] m_6 (zad (mX (kSt ",")) zaa))) (zeq 1 (zar 0 "Reader" "read_pair" ["words","place"] zte zaa)) 1000000000)
  (zd2 1 (zcl (zab 1)))))
noncomputable def ztd:=zcp 2 "Reader" ["words","place"] zrc
noncomputable def zq2 : MF3 :=
 (zah (zbn (mB (m2 dGt (zax zcg (zac (zab 0) nZ)) (zab 1))) (fun _=>none) zbb)
  (zgp 0))
noncomputable def zmu:=zdl 2 zq2
noncomputable def zob : MF3 :=
 (zbj (zhz (zdk (zar 0 "Reader" "passes" ["words","place"] m_6 (zad (mX (kSt "for")) zaa))) (zez zmu (zad (zar 0 "Reader" "read_pairs" ["words","place"] ztd zaa) (zad (mX (kI 3)) zaa))) (mX (zbp nZ))))
noncomputable def zjp:=zcp 1 "Reader" ["words","place"] zob
noncomputable def zq6 : MF3 :=
 (zah (zbn (mB (m2 dEq (zab 0) (kSt "0"))) (zdh (kBl true)) zbb)
  (zah (zdi 1 (vIf (zcu (m2 zlz (zab 0) (kSt "-"))) (zku (zab 0) (mPt (kI 1)) (fun _=>some none)) (zab 0)))
  (zdh (zho (zax zmt (zac (zab 1) (zac (kSt "0123456789") (zac (kI 30) nZ)))) (znr (m2 zlz (zab 1) (kSt "0")))))))
noncomputable def zs6:=zdl 2 zq6
noncomputable def zq0 : MF3 :=
 (zah (zbk 1 (zar 0 "Reader" "take" ["words","place"] zh1 zaa))
  (zah (zbn (zfp (zcu (zax zs6 (zac (zab 1) nZ)))) (fun _=>none) zbb)
  (zcl (m1 zot (zab 1)))))
noncomputable def zms:=zcp 2 "Reader" ["words","place"] zq0
noncomputable def zq3 : MF3 :=
 (zbj (zhz (zdk (zez ztg (zad (zar 0 "Reader" "coming" ["words","place"] zfs (zad (mX (kI 0)) zaa)) zaa))) (zar 0 "Reader" "read_variable" ["words","place"] zs9 zaa) (zar 0 "Reader" "read_name" ["words","place"] m_3 zaa)))
noncomputable def zmv:=zcp 1 "Reader" ["words","place"] zq3
noncomputable def zrh : MF3 :=
 (zah (zh0 1 (zar 0 "Reader" "read_arg" ["words","place"] zmv zaa))
  (zah (zd3 (zdk (zar 0 "Reader" "passes" ["words","place"] m_6 (zad (mX (kSt ",")) zaa))) (zeq 1 (zar 0 "Reader" "read_arg" ["words","place"] zmv zaa)) 1000000000)
  (zah (zhd (zar 0 "Reader" "must_pass" ["words","place"] zil (zad (mX (kSt ")")) zaa)))
  (zd2 1 (zcl (zax zmu (zac (zab 1) (zac (kI 3) nZ))))))))
noncomputable def zxn:=zcp 2 "Reader" ["words","place"] zrh
noncomputable def b_5 : MF3 :=
 (zah (zbk 1 (zar 0 "Reader" "read_name" ["words","place"] m_3 zaa))
  (zbj (zcm (zad (mX (zab 1)) (zad (zhz (zdk (zar 0 "Reader" "passes" ["words","place"] m_6 (zad (mX (kSt "(")) zaa))) (zar 0 "Reader" "read_args" ["words","place"] zxn zaa) (mX (zbp nZ))) zaa)))))
noncomputable def m_5:=zcp 2 "Reader" ["words","place"] b_5
noncomputable def zud : LS->Bool :=
 (ze2 0 "Reader" "read_name" ["words","place"] r_3 zaa)
noncomputable def r_5 : Addr->LD->LD->Bool:=fun l ds xs=>zud (zff 2 l "Reader" ["words","place"] ds xs)
noncomputable def zrb : MF3 :=
 (zah (zbk 1 (zhz (zdk (zez zs6 (zad (zar 0 "Reader" "coming" ["words","place"] zfs (zad (mX (kI 0)) zaa)) zaa))) (zar 0 "Reader" "read_number" ["words","place"] zms zaa) (mX (kI 1))))
  (zah (zbn (mB (m2 dLt (zab 1) (kI 0))) (fun _=>none) zbb)
  (zbj (zcm (zad (zar 0 "Reader" "read_thing" ["words","place"] m_5 zaa) (zad (mX (zab 1)) zaa))))))
noncomputable def ztc:=zcp 2 "Reader" ["words","place"] zrb
noncomputable def zra : MF3 :=
 (zah (zh0 1 (zar 0 "Reader" "read_item" ["words","place"] ztc zaa))
  (zah (zd3 (zdk (zar 0 "Reader" "passes" ["words","place"] m_6 (zad (mX (kSt ",")) zaa))) (zeq 1 (zar 0 "Reader" "read_item" ["words","place"] ztc zaa)) 1000000000)
  (zd2 1 (zcl (zab 1)))))
noncomputable def ztb:=zcp 2 "Reader" ["words","place"] zra
noncomputable def zrg : MF3 :=
 (zbj (zhz (zdk (zar 0 "Reader" "passes" ["words","place"] m_6 (zad (mX (kSt "over")) zaa))) (zez zmu (zad (zar 0 "Reader" "read_pairs" ["words","place"] ztd zaa) (zad (mX (kI 2)) zaa))) (mX (zbp nZ))))
noncomputable def zth:=zcp 1 "Reader" ["words","place"] zrg
noncomputable def zq5 : MF3 :=
 (zah (zbk 1 (zar 0 "Reader" "take" ["words","place"] zh1 zaa))
  (zah (zbk 2 (zar 0 "Reader" "read_number" ["words","place"] zms zaa))
  (zah (zhd (zar 0 "Reader" "must_pass" ["words","place"] zil (zad (mX (kSt "of")) zaa)))
  (zbj (zcm (zad (mX (zab 1)) (zad (mX (zab 2)) (zad (zar 0 "Reader" "read_items" ["words","place"] ztb zaa) (zad (zar 0 "Reader" "read_over" ["words","place"] zth zaa) zaa)))))))))
noncomputable def zs5:=zcp 3 "Reader" ["words","place"] zq5
noncomputable def zq9 : MF3 :=
 (zah (zbk 1 (zar 0 "Reader" "read_arg" ["words","place"] zmv zaa))
  (zah (zhd (zar 0 "Reader" "must_pass" ["words","place"] zil (zad (mX (kSt "unlike")) zaa)))
  (zbj (zcm (zad (mX (kSt "unlike")) (zad (mX (zab 1)) (zad (zar 0 "Reader" "read_arg" ["words","place"] zmv zaa) zaa)))))))
noncomputable def zta:=zcp 2 "Reader" ["words","place"] zq9
noncomputable def zqu : MF3 :=
 (zah (zdr (zdk (zar 0 "Reader" "passes" ["words","place"] m_6 (zad (mX (kSt "not")) zaa))) (zbj (zcm (zad (mX (kSt "not")) (zad (zar 0 "Reader" "read_thing" ["words","place"] m_5 zaa) zaa)))) zbb)
  (zah (zdr (mBX (mX2 dIn (zar 0 "Reader" "coming" ["words","place"] zfs (zad (mX (kI 0)) zaa)) (mX (zgq (zac (kSt "least") (zac (kSt "most") nZ)))))) (zbj (zar 0 "Reader" "read_count" ["words","place"] zs5 zaa)) zbb)
  (zah (zdr (mBX (mX2 dEq (zar 0 "Reader" "coming" ["words","place"] zfs (zad (mX (kI 1)) zaa)) (mX (kSt "unlike")))) (zbj (zar 0 "Reader" "read_unlike" ["words","place"] zta zaa)) zbb)
  (zbj (zcm (zad (mX (kSt "is")) (zad (zar 0 "Reader" "read_thing" ["words","place"] m_5 zaa) zaa)))))))
noncomputable def zsw:=zcp 1 "Reader" ["words","place"] zqu
noncomputable def zpx : LS->Bool :=
 (zel (rIf (zdk (zar 0 "Reader" "passes" ["words","place"] m_6 (zad (mX (kSt "not")) zaa))) (zgt rNo (mX (kSt "not")) (ze2 0 "Reader" "read_thing" ["words","place"] r_5 zaa)) rNo) (zdr (zdk (zar 0 "Reader" "passes" ["words","place"] m_6 (zad (mX (kSt "not")) zaa))) (zbj (zcm (zad (mX (kSt "not")) (zad (zar 0 "Reader" "read_thing" ["words","place"] m_5 zaa) zaa)))) zbb)
  (zel rNo (zdr (mBX (mX2 dIn (zar 0 "Reader" "coming" ["words","place"] zfs (zad (mX (kI 0)) zaa)) (mX (zgq (zac (kSt "least") (zac (kSt "most") nZ)))))) (zbj (zar 0 "Reader" "read_count" ["words","place"] zs5 zaa)) zbb)
  (zel rNo (zdr (mBX (mX2 dEq (zar 0 "Reader" "coming" ["words","place"] zfs (zad (mX (kI 1)) zaa)) (mX (kSt "unlike")))) (zbj (zar 0 "Reader" "read_unlike" ["words","place"] zta zaa)) zbb)
  (zgt rNo (mX (kSt "is")) (ze2 0 "Reader" "read_thing" ["words","place"] r_5 zaa)))))
noncomputable def zyq : Addr->LD->LD->Bool:=fun l ds xs=>zpx (zff 1 l "Reader" ["words","place"] ds xs)
noncomputable def b_8 : MF3 :=
 (zah (zh0 1 (zar 0 "Reader" "read_part" ["words","place"] zsw zaa))
  (zah (zd3 (zdk (zar 0 "Reader" "passes" ["words","place"] m_6 (zad (mX (kSt "and")) zaa))) (zeq 1 (zar 0 "Reader" "read_part" ["words","place"] zsw zaa)) 1000000000)
  (zd2 1 (zcl (zab 1)))))
noncomputable def m_8:=zcp 2 "Reader" ["words","place"] b_8
noncomputable def zue : LS->Bool :=
 (ze2 0 "Reader" "read_part" ["words","place"] zyq zaa)
noncomputable def r_8 : Addr->LD->LD->Bool:=fun l ds xs=>zue (zff 2 l "Reader" ["words","place"] ds xs)
noncomputable def b_7 : MF3 :=
 (zbj (zhz (zdk (zar 0 "Reader" "passes" ["words","place"] m_6 (zad (mX (kSt "if")) zaa))) (zar 0 "Reader" "read_body" ["words","place"] m_8 zaa) (mX (zbp nZ))))
noncomputable def m_7:=zcp 1 "Reader" ["words","place"] b_7
noncomputable def zp0 : LS->Bool :=
 (rIf (zdk (zar 0 "Reader" "passes" ["words","place"] m_6 (zad (mX (kSt "if")) zaa))) (ze2 0 "Reader" "read_body" ["words","place"] r_8 zaa) rNo)
noncomputable def r_7 : Addr->LD->LD->Bool:=fun l ds xs=>zp0 (zff 1 l "Reader" ["words","place"] ds xs)
noncomputable def zq4 : MF3 :=
 (zah (zbk 1 (zar 0 "Reader" "read_number" ["words","place"] zms zaa))
  (zah (zhd (zar 0 "Reader" "must_pass" ["words","place"] zil (zad (mX (kSt "to")) zaa)))
  (zah (zbk 2 (zar 0 "Reader" "read_number" ["words","place"] zms zaa))
  (zah (zhd (zar 0 "Reader" "must_pass" ["words","place"] zil (zad (mX (kSt "of")) zaa)))
  (zbj (zcm (zad (mX (kSt "choose")) (zad (mX (zab 1)) (zad (mX (zab 2)) (zad (zar 0 "Reader" "read_items" ["words","place"] ztb zaa) (zad (zar 0 "Reader" "read_over" ["words","place"] zth zaa) (zad (zar 0 "Reader" "read_if" ["words","place"] m_7 zaa) (zad (zar 0 "Reader" "read_for" ["words","place"] zjp zaa) zaa)))))))))))))
noncomputable def zs4:=zcp 3 "Reader" ["words","place"] zq4
noncomputable def zqt : MF3 :=
 (zah (zh0 1 (zar 0 "Reader" "read_name" ["words","place"] m_3 zaa))
  (zah (zd3 (mBX (mX2 dNe (zar 0 "Reader" "coming" ["words","place"] zfs (zad (mX (kI 0)) zaa)) (mX (kSt "")))) (zeq 1 (zar 0 "Reader" "read_name" ["words","place"] m_3 zaa)) 1000000000)
  (zd2 1 (zcl (zax zmu (zac (zab 1) (zac (kI 12) nZ)))))))
noncomputable def zsv:=zcp 2 "Reader" ["words","place"] zqt
noncomputable def zuc : LS->Bool :=
 (ze2 0 "Reader" "read_name" ["words","place"] r_3 zaa)
noncomputable def zyp : Addr->LD->LD->Bool:=fun l ds xs=>zuc (zff 2 l "Reader" ["words","place"] ds xs)
noncomputable def zn1 : MF3 :=
 (zah (zbk 1 (zar 0 "Reader" "read_body" ["words","place"] m_8 zaa))
  (zah (zbn (zcu (zax zh8 (zac (zbp (zdq 1 [] (zdx (zab 1)) (zbe 0) kY (m2 dEq (mIx (zbg 0) (kI 0)) (kSt "unlike")))) nZ))) (fun _=>none) zbb)
  (zbj (zcm (zad (mX (kSt "never")) (zad (mX (zab 1)) (zad (zar 0 "Reader" "read_for" ["words","place"] zjp zaa) zaa)))))))
noncomputable def zpg:=zcp 2 "Reader" ["words","place"] zn1
noncomputable def zys : LS->Bool :=
 (zel (ze2 0 "Reader" "read_body" ["words","place"] r_8 zaa) (zbk 1 (zar 0 "Reader" "read_body" ["words","place"] m_8 zaa))
  (rIf (mTX (zcu (zax zh8 (zac (zbp (zdq 1 [] (zdx (zab 1)) (zbe 0) kY (m2 dEq (mIx (zbg 0) (kI 0)) (kSt "unlike")))) nZ)))) (rOf (zac (kSt "a never-row with unlike-parts alone") nZ)) rNo))
noncomputable def z6v : Addr->LD->LD->Bool:=fun l ds xs=>zys (zff 2 l "Reader" ["words","place"] ds xs)
noncomputable def b_4 : MF3 :=
 (zah (zbk 1 (zar 0 "Reader" "take" ["words","place"] zh1 zaa))
  (zah (zbn (mB (m2 dEq (zab 1) (kSt "kind"))) (zbj (zcm (zad (mX (kSt "kind")) (zad (zar 0 "Reader" "read_name" ["words","place"] m_3 zaa) (zad (zar 0 "Reader" "read_names" ["words","place"] zsv zaa) zaa))))) zbb)
  (zah (zbn (mB (m2 dIn (zab 1) (zgq (zac (kSt "rule") (zac (kSt "may") nZ))))) (zbj (zcm (zad (mX (zab 1)) (zad (zar 0 "Reader" "read_thing" ["words","place"] m_5 zaa) (zad (zar 0 "Reader" "read_if" ["words","place"] m_7 zaa) (zad (zar 0 "Reader" "read_for" ["words","place"] zjp zaa) zaa)))))) zbb)
  (zah (zbn (mB (m2 dEq (zab 1) (kSt "choose"))) (zbj (zar 0 "Reader" "read_choose" ["words","place"] zs4 zaa)) zbb)
  (zah (zbn (mB (m2 dEq (zab 1) (kSt "never"))) (zbj (zar 0 "Reader" "read_never" ["words","place"] zpg zaa)) zbb)
  (fun _=>none))))))
noncomputable def m_4:=zcp 2 "Reader" ["words","place"] b_4
noncomputable def zhk : LS->Bool :=
 (zel rNo (zbk 1 (zar 0 "Reader" "take" ["words","place"] zh1 zaa))
  (zel (rIf (mTX (mB (m2 dEq (zab 1) (kSt "kind")))) (zgt rNo (mX (kSt "kind")) (zgt (ze2 0 "Reader" "read_name" ["words","place"] r_3 zaa) (zar 0 "Reader" "read_name" ["words","place"] m_3 zaa) (ze2 0 "Reader" "read_names" ["words","place"] zyp zaa))) rNo) (zbn (mB (m2 dEq (zab 1) (kSt "kind"))) (zbj (zcm (zad (mX (kSt "kind")) (zad (zar 0 "Reader" "read_name" ["words","place"] m_3 zaa) (zad (zar 0 "Reader" "read_names" ["words","place"] zsv zaa) zaa))))) zbb)
  (zel (rIf (mTX (mB (m2 dIn (zab 1) (zgq (zac (kSt "rule") (zac (kSt "may") nZ)))))) (zgt rNo (mX (zab 1)) (zgt (ze2 0 "Reader" "read_thing" ["words","place"] r_5 zaa) (zar 0 "Reader" "read_thing" ["words","place"] m_5 zaa) (ze2 0 "Reader" "read_if" ["words","place"] r_7 zaa))) rNo) (zbn (mB (m2 dIn (zab 1) (zgq (zac (kSt "rule") (zac (kSt "may") nZ))))) (zbj (zcm (zad (mX (zab 1)) (zad (zar 0 "Reader" "read_thing" ["words","place"] m_5 zaa) (zad (zar 0 "Reader" "read_if" ["words","place"] m_7 zaa) (zad (zar 0 "Reader" "read_for" ["words","place"] zjp zaa) zaa)))))) zbb)
  (zel rNo (zbn (mB (m2 dEq (zab 1) (kSt "choose"))) (zbj (zar 0 "Reader" "read_choose" ["words","place"] zs4 zaa)) zbb)
  (zel (rIf (mTX (mB (m2 dEq (zab 1) (kSt "never")))) (ze2 0 "Reader" "read_never" ["words","place"] z6v zaa) rNo) (zbn (mB (m2 dEq (zab 1) (kSt "never"))) (zbj (zar 0 "Reader" "read_never" ["words","place"] zpg zaa)) zbb)
  (rOf (zac (mFs (mFc "no row begins with " (mFr (zab 1) nZ))) nZ)))))))
noncomputable def r_4 : Addr->LD->LD->Bool:=fun l ds xs=>zhk (zff 2 l "Reader" ["words","place"] ds xs)
noncomputable def zn3 : MF3 :=
 (zah (zpd 1 2 "()," (zab 0))
  (zik (zdq 1 [] (zdx (m2 zg5 (zab 1) (kSt " "))) (zbe 0) (mB (m2 dNe (zab 0) (kSt ""))) (zab 0))))
noncomputable def zf9:=zdl 3 zn3
noncomputable def b_1 : MF3 :=
 (zah (zkt 1 "Reader" zsh (zac (zax zf9 (zac (zab 0) nZ)) nZ))
  (zah (zbk 2 (zjm 1 "Reader" "read_form" ["words","place"] m_4 zaa))
  (zah (zhd (zjm 1 "Reader" "must_end" ["words","place"] zxh zaa))
  (zgp 2))))
noncomputable def m_1:=zdl 3 b_1
noncomputable def zk8 : LS->Bool :=
 (zel rNo (zkt 1 "Reader" zsh (zac (zax zf9 (zac (zab 0) nZ)) nZ))
  (zel (zk7 1 "Reader" "read_form" ["words","place"] r_4 zaa) (zbk 2 (zjm 1 "Reader" "read_form" ["words","place"] m_4 zaa))
  (zk7 1 "Reader" "must_end" ["words","place"] zyr zaa)))
noncomputable def r_1 : LD->Bool:=fun ds=>zk8 (zef 3 ds)
noncomputable def b_2 : MF3 :=
 (zik (zdq 1 [] (zdx (m2 zg5 (zab 0) (kSt "\n"))) (zbe 0) (zcu (zax zf9 (zac (zab 0) nZ))) (zax m_1 (zac (zab 0) nZ))))
noncomputable def m_2:=zdl 1 b_2
noncomputable def o_2:=zui 1 b_2
noncomputable def zyt : LS->Bool :=
 (zm7 1 [] (zdx (m2 zg5 (zab 0) (kSt "\n"))) (zbe 0) (zcu (zax zf9 (zac (zab 0) nZ))) (zax m_1 (zac (zab 0) nZ)) (zm6 rNo r_1 (zad (mX (zab 0)) zaa)))
noncomputable def r_2 : LD->Bool:=fun ds=>zyt (zef 1 ds)
noncomputable def zq7 : MF3 :=
 (zah (zdi 1 (zbp nZ))
  (zah (zst (zm6 rNo r_2 (zad (mX (zab 0)) zaa)) 1 [true,true,false])
  (zdh (m2 dEq (zab 1) (zbp (zac (kBl true) (zac (kBl true) (zac (kBl false) nZ))))))))
noncomputable def zs8:=zdl 3 zq7
noncomputable def zvp : MF3 :=
 (zah (zdi 0 (zbp (zac (kSt "kind") (zac (kSt "rule") (zac (kSt "may") (zac (kSt "choose") (zac (kSt "never") (zac (kSt "if") (zac (kSt "and") (zac (kSt "not") nZ))))))))))
  (zik (zf6 (zab 0) (zbp (zac (kSt "unlike") (zac (kSt "least") (zac (kSt "most") (zac (kSt "of") (zac (kSt "to") (zac (kSt "over") (zac (kSt "in") (zac (kSt "for") nZ))))))))))))
noncomputable def zmw:=zdl 1 zvp
noncomputable def zn8 : MF3 :=
 (zah (zdi 3 (kSt ""))
  (zah (zfo (zfq (zac (zab 1) nZ)) (zbe 4) (zmh 3 (mX2 zlx (mX (kSt "abcdefghijklmnopqrstuvwxyz")) (zat 0 m_0 (zad (mX (zab 2)) zaa)))))
  (zcl (zab 3))))
noncomputable def zmq:=zdj 5 zn8
noncomputable def zn5 : MF3 :=
 (zah (zbk 1 (zat 0 m_0 (zad (mX (kI 12)) zaa)))
  (zah (zbn (mB (m2 dEq (zab 1) (kI 0))) (zbj (mX2 zcb (mX2 zd6 (mX (zax zmw nZ)) (zat 0 m_0 (zad (mX (kI 16)) zaa))) (zat 0 zmq (zad (mX (kI 1)) (zad (mX (kI 26)) zaa))))) zbb)
  (zah (zbn (mB (m2 dEq (zab 1) (kI 1))) (zbj (zss (mX2 zd6 (mX (zax zmw nZ)) (zat 0 m_0 (zad (mX (kI 16)) zaa))) (fun _=>some none) (mPt (m1 zov (kI 1))))) zbb)
  (zah (zbk 2 (zat 0 zmq (zad (mX2 zcb (mX (kI 1)) (zat 0 m_0 (zad (mX (kI 8)) zaa))) (zad (mX (mIx (zac (kI 26) (zac (kI 2) nZ)) (m2 zfi (zab 1) (kI 2)))) zaa))))
  (zah (zbn (mB (m2 dIn (zab 2) (zax zmw nZ))) (zcl (m2 zcb (kSt "z") (zab 2))) zbb)
  (zcl (zab 2)))))))
noncomputable def zkw:=zdj 3 zn5
noncomputable def zoi : MF3 :=
 (zah (zbk 1 (mX2 zlx (mX (kSt "ABCDEFGHIJKLMNOPQRSTUVWXYZ")) (zat 0 m_0 (zad (mX2 zd6 (mX (zbp (zac (kI 26) (zac (kI 2) nZ)))) (zat 0 m_0 (zad (mX (kI 2)) zaa))) zaa))))
  (zbj (mX2 zcb (mX (zab 1)) (zat 0 zmq (zad (zat 0 m_0 (zad (mX (kI 8)) zaa)) (zad (mX2 zd6 (mX (zbp (zac (kI 26) (zac (kI 2) nZ)))) (zat 0 m_0 (zad (mX (kI 2)) zaa))) zaa))))))
noncomputable def zs3:=zdj 2 zoi
noncomputable def zog : MF3 :=
 (zah (zdr (mBX (mX2 dEq (zat 0 m_0 (zad (mX (kI 2)) zaa)) (mX (kI 0)))) (zbj (zat 0 zs3 zaa)) zbb)
  (zbj (zat 0 zkw zaa)))
noncomputable def zph:=zdj 1 zog
noncomputable def zn4 : MF3 :=
 (zah (zbk 1 (zat 0 m_0 (zad (mX (kI 9)) zaa)))
  (zah (zdr (mBX (mX2 dEq (zat 0 m_0 (zad (mX (kI 3)) zaa)) (mX (kI 0)))) (zah (zfo (zfq (zac (kI 2) nZ)) (zbe 2) (zbk 1 (mX2 zcb (mX (m2 zib (zab 1) (m2 zg4 (kI 10) (kI 10)))) (zat 0 m_0 (zad (mX (m2 zg4 (kI 10) (kI 10))) zaa)))))
  (zbk 1 (mX2 zcb (mX (m2 zib (zab 1) (m2 zg4 (kI 10) (kI 9)))) (zat 0 m_0 (zad (mX (m2 zg4 (kI 10) (kI 9))) zaa))))) zbb)
  (zah (zdr (mBX (mX2 dEq (zat 0 m_0 (zad (mX (kI 3)) zaa)) (mX (kI 0)))) (zcl (m1 zov (zab 1))) zbb)
  (zcl (zab 1)))))
noncomputable def zkv:=zdj 3 zn4
noncomputable def zn7 : MF3 :=
 (zah (zbk 1 (zat 0 zkw zaa))
  (zbj (zcm (zad (mX (zab 1)) (zad (ze0 1 [0] 0 0 (zfr (zad (zez ztj (zad (mX (kI 0)) (zad (mX2 zjb (zat 0 m_0 (zad (mX (kI 5)) zaa)) (mX (kI 1))) zaa))) zaa)) (zbe 0) (zat 1 zph zaa)) zaa)))))
noncomputable def zkx:=zdj 2 zn7
noncomputable def zom : MF3 :=
 (zah (zbk 1 (zat 0 zkx zaa))
  (zah (zdr (mBX (mX2 dEq (zat 0 m_0 (zad (mX (kI 2)) zaa)) (mX (kI 0)))) (zcl (zgq (zac (zab 1) (zac (kI 1) nZ)))) zbb)
  (zbj (zcm (zad (mX (zab 1)) (zad (zez zqn (zad (zat 0 zkv zaa) zaa)) zaa))))))
noncomputable def zxk:=zdj 2 zom
noncomputable def zok : MF3 :=
 (zbj (ze0 1 [0] 0 0 (zfr (zad (mX2 zcb (mX (kI 1)) (zat 0 m_0 (zad (mX2 zd6 (mX (zbp (zac (kI 4) (zac (kI 9) nZ)))) (mX1 zkm (mX2 dEq (zat 0 m_0 (zad (mX (kI 6)) zaa)) (mX (kI 0))))) zaa))) zaa)) (zbe 0) (zat 1 zxk zaa)))
noncomputable def zs7:=zdj 1 zok
noncomputable def zn9 : MF3 :=
 (zah (zd8 2 nZ)
  (zah (zfo (zfq (zac (zab 1) nZ)) (zbe 3) (zah (zbk 4 (zat 0 zs3 zaa))
  (zeq 2 (zcm (zad (mX (zab 4)) (zad (zat 0 zkw zaa) zaa))))))
  (zd2 2 (zcl (zab 2)))))
noncomputable def zmr:=zdj 5 zn9
noncomputable def zod : MF3 :=
 (zah (zbk 1 (mX2 zd6 (mX (zbp (zac (kSt "least") (zac (kSt "most") nZ)))) (zat 0 m_0 (zad (mX (kI 2)) zaa))))
  (zah (zbk 2 (zat 0 zkv zaa))
  (zah (zbk 3 (zat 0 zs7 zaa))
  (zbj (zcm (zad (mX (zab 1)) (zad (mX (zab 2)) (zad (mX (zab 3)) (zad (zat 0 zmr (zad (zat 0 m_0 (zad (mX (kI 3)) zaa)) zaa)) zaa)))))))))
noncomputable def zs0:=zdj 4 zod
noncomputable def zol : MF3 :=
 (zah (zbk 1 (zat 0 m_0 (zad (mX (kI 5)) zaa)))
  (zah (zbn (mB (m2 dLt (zab 1) (kI 2))) (zbj (zat 0 zs0 zaa)) zbb)
  (zah (zbn (mB (m2 dEq (zab 1) (kI 2))) (zah (zbk 2 (zat 0 zph zaa))
  (zbj (zcm (zad (mX (kSt "unlike")) (zad (mX (zab 2)) (zad (zat 0 zph zaa) zaa)))))) zbb)
  (zbj (zcm (zad (mX (mIx (zac (kSt "is") (zac (kSt "not") nZ)) (m2 zjb (zab 1) (kI 3)))) (zad (zat 0 zkx zaa) zaa)))))))
noncomputable def zxj:=zdj 3 zol
noncomputable def zoo : MF3 :=
 (zbj (ze0 1 [0] 0 0 (zfr (zad (zat 0 m_0 (zad (mX (kI 4)) zaa)) zaa)) (zbe 0) (zat 1 zxj zaa)))
noncomputable def zxm:=zdj 1 zoo
noncomputable def zn6 : MF3 :=
 (zah (zbk 1 (zat 0 m_0 (zad (mX (kI 9)) zaa)))
  (zah (zbk 2 (zat 0 zxm zaa))
  (zah (zbk 3 (zat 0 zmr (zad (zat 0 m_0 (zad (mX (kI 4)) zaa)) zaa)))
  (zah (zbn (mB (m2 dEq (zab 1) (kI 0))) (zah (zbk 4 (zat 0 zkw zaa))
  (zbj (zcm (zad (mX (kSt "kind")) (zad (mX (zab 4)) (zad (ze0 1 [0] 0 0 (zfr (zad (mX2 zcb (mX (kI 1)) (zat 0 m_0 (zad (mX (kI 12)) zaa))) zaa)) (zbe 0) (zat 1 zkw zaa)) zaa)))))) zbb)
  (zah (zbn (mB (m2 dLt (zab 1) (kI 3))) (zah (zbk 5 (zat 0 m_0 (zad (mX (m2 zcb (zax zcg (zac (zab 2) nZ)) (kI 1))) zaa)))
  (zah (zbk 6 (zmm (zad (zat 0 zs0 zaa) (zad (zcm (zad (mX (kSt "is")) (zad (zat 0 zkx zaa) zaa))) (zad (zcm (zad (mX (kSt "not")) (zad (zat 0 zkx zaa) zaa))) zaa)))))
  (zbj (zcm (zad (mX (kSt "never")) (zad (mX2 zcb (mX2 zcb (mX (zbp (mSl (zab 2) (fun _=>some none) (mPt (zab 5))))) (zmm (zad (mX2 zd6 (mX (zab 6)) (zat 0 m_0 (zad (mX (kI 3)) zaa))) zaa))) (mX (zbp (mSl (zab 2) (mPt (zab 5)) (fun _=>some none))))) (zad (mX (zab 3)) zaa))))))) zbb)
  (zah (zbn (mB (m2 dLt (zab 1) (kI 5))) (zah (zbk 7 (zat 0 zkv zaa))
  (zah (zbk 8 (zat 0 zkv zaa))
  (zah (zbk 6 (zat 0 zs7 zaa))
  (zbj (zcm (zad (mX (kSt "choose")) (zad (mX (zab 7)) (zad (mX (zab 8)) (zad (mX (zab 6)) (zad (zat 0 zmr (zad (zat 0 m_0 (zad (mX (kI 3)) zaa)) zaa)) (zad (mX (zab 2)) (zad (mX (zab 3)) zaa)))))))))))) zbb)
  (zbj (zcm (zad (mX (mIx (zac (kSt "rule") (zac (kSt "may") nZ)) (m2 zfi (zab 1) (kI 2)))) (zad (zat 0 zkx zaa) (zad (mX (zab 2)) (zad (mX (zab 3)) zaa))))))))))))
noncomputable def zsx:=zdj 9 zn6
noncomputable def zn2 (rc:LD->OD) : MF3 :=
 (zah (zbn (zcu (zhf "str" (zab 1))) (zdh (zho (zhf "str" (zab 0)) (m2 dEq (zab 0) (zab 1)))) zbb)
  (zah (zbn (zcu (zhf "int" (zab 1))) (zdh (zho (zhf "int" (zab 0)) (zho (znr (zhf "bool" (zab 0))) (m2 dEq (zab 0) (zab 1))))) zbb)
  (zah (zbn (zhc (zcu (zhf "tuple" (zab 1))) (zfp (zcu (zhf "tuple" (zab 0))))) (zdh (kBl false)) zbb)
  (zah (zbn (zhc (zcu (zhf "list" (zab 1))) (zfp (zcu (zhf "list" (zab 0))))) (zdh (kBl false)) zbb)
  (zah (zbn (mB (m2 dNe (zax zcg (zac (zab 0) nZ)) (zax zcg (zac (zab 1) nZ)))) (zdh (kBl false)) zbb)
  (zdh (zax zh8 (zac (zbp (zdq 1 [0,1] (zfq (zac (zax zcg (zac (zab 1) nZ)) nZ)) (zbe 0) kY (zax rc (zac (mIx (zbg 1) (zab 0)) (zac (mIx (zbg 2) (zab 0)) nZ))))) nZ))))))))
noncomputable def zft : Nat->LD->OD
 | 0=>fun _=>none
 | j + 1=>zdl 2 (zn2 (zft j))
noncomputable def zof : MF3 :=
 (zah (zd8 2 (zdq 1 [] (zfq (zac (zab 1) nZ)) (zbe 0) kY (m2 zcb (m2 zib (zab 0) (kI 7368787)) (kI 1000003))))
  (zah (zfo (zjl (zac (zab 0) nZ)) (zkj (zhx (zbe 3) (zhx (zbe 4) zo4))) (zah (zdi 5 (m2 zcb (m2 zib (mIx (zbg 2) (m2 zfi (zab 3) (zab 1))) (kI 1000003)) (m2 zfi (zab 4) (m2 zg4 (kI 10) (kI 30)))))
  (zks 2 (m2 zfi (zab 3) (zab 1)) (m2 zfi (m2 zcb (zab 5) (zab 3)) (m2 zjb (m2 zg4 (kI 2) (kI 61)) (kI 1))))))
  (zgp 2)))
noncomputable def zxi:=zdl 6 zof
noncomputable def zqx : MF3 :=
 (zah (zd8 1 (zac (mIx (zbg 0) (kI 0)) nZ))
  (zah (zfo (zjl (zac (mIx (zbg 0) (kI 1)) nZ)) (zkj (zhx (zbe 2) (zhx (zbe 3) zo4))) (zfn 1 (mX (zbp (zac (mIx (zac (kSt "(") (zac (kSt ",") nZ)) (zkq (m2 dGt (zab 2) (kI 0)))) (zac (zab 3) nZ))))))
  (zah (zbn (mB (m2 dGt (zax zcg (zac (mIx (zbg 0) (kI 1)) nZ)) (kI 0))) (zf4 1 (kSt ")")) zbb)
  (zgp 1))))
noncomputable def zjo:=zdl 4 zqx
noncomputable def zoc : MF3 :=
 (zah (zd8 2 nZ)
  (zah (zfo (zdx (zab 0)) (zkj (zhx (zbe 3) (zhx (zbe 4) zo4))) (zah (zbn (mB (m2 dGt (zax zcg (zac (zf8 2) nZ)) (kI 0))) (zf4 2 (kSt ",")) zbb)
  (zah (zdr (zjn (mTX (mB (m2 dNe (zab 4) (kI 1)))) (mBX (mX2 dEq (zat 1 m_0 (zad (mX (kI 3)) zaa)) (mX (kI 0))))) (zf4 2 (m1 zg6 (zab 4))) zbb)
  (zfn 2 (mX (zax zjo (zac (zab 3) nZ)))))))
  (zd2 2 (zcl (zab 2)))))
noncomputable def zsz:=zdj 5 zoc
noncomputable def zqz : MF3 :=
 (zah (zd8 2 nZ)
  (zah (zfo (zdx (zab 1)) (zkj (zhx (zbe 3) (zhx (zbe 4) zo4))) (zfn 2 (mX (zbp (zac (mIx (zac (zab 0) (zac (kSt ",") nZ)) (zkq (m2 dGt (zax zcg (zac (zf8 2) nZ)) (kI 0)))) (zac (zab 3) (zac (kSt "in") (zac (zab 4) nZ))))))))
  (zgp 2)))
noncomputable def zmp:=zdl 5 zqz
noncomputable def zon : MF3 :=
 (zah (zbn (mB (m2 dEq (mIx (zbg 0) (kI 0)) (kSt "unlike"))) (zcl (zbp (zac (mIx (zbg 0) (kI 1)) (zac (kSt "unlike") (zac (mIx (zbg 0) (kI 2)) nZ))))) zbb)
  (zah (zbn (mB (m2 dEq (mIx (zbg 0) (kI 0)) (kSt "is"))) (zcl (zax zjo (zac (mIx (zbg 0) (kI 1)) nZ))) zbb)
  (zah (zbn (mB (m2 dEq (mIx (zbg 0) (kI 0)) (kSt "not"))) (zcl (zbp (zf6 (zbp (zac (kSt "not") nZ)) (zax zjo (zac (mIx (zbg 0) (kI 1)) nZ))))) zbb)
  (zah (zbk 2 (mX2 zcb (mX (zbp (zac (mIx (zbg 0) (kI 0)) (zac (m1 zg6 (mIx (zbg 0) (kI 1))) (zac (kSt "of") nZ))))) (zij 1 zsz (zad (mX (mIx (zbg 0) (kI 2))) zaa))))
  (zcl (m2 zcb (zab 2) (zax zmp (zac (kSt "over") (zac (mIx (zbg 0) (kI 3)) nZ)))))))))
noncomputable def zxl:=zdj 3 zon
noncomputable def zoe : MF3 :=
 (zah (zd8 3 nZ)
  (zah (zfo (zdx (zab 1)) (zbe 4) (zah (zf4 3 (mIx (zac (zab 0) (zac (kSt "and") nZ)) (zkq (m2 dGt (zax zcg (zac (zf8 3) nZ)) (kI 0)))))
  (zfn 3 (zij 2 zxl (zad (mX (zab 4)) zaa)))))
  (zd2 3 (zcl (zab 3)))))
noncomputable def zs1:=zdj 5 zoe
noncomputable def zoh : MF3 :=
 (zah (zbn (mB (m2 dEq (mIx (zbg 0) (kI 0)) (kSt "kind"))) (zcl (zbp (zf6 (zbp (zac (kSt "kind") (zac (mIx (zbg 0) (kI 1)) nZ))) (mIx (zbg 0) (kI 2))))) zbb)
  (zah (zbn (mB (m2 dEq (mIx (zbg 0) (kI 0)) (kSt "never"))) (zbj (mX2 zcb (zij 1 zs1 (zad (mX (kSt "never")) (zad (mX (mIx (zbg 0) (kI 1))) zaa))) (mX (zax zmp (zac (kSt "for") (zac (mIx (zbg 0) (kI 2)) nZ)))))) zbb)
  (zah (zbn (mB (m2 dEq (mIx (zbg 0) (kI 0)) (kSt "choose"))) (zah (zpe 2 (mX (zbp (zac (kSt "choose") (zac (m1 zg6 (mIx (zbg 0) (kI 1))) (zac (kSt "to") (zac (m1 zg6 (mIx (zbg 0) (kI 2))) (zac (kSt "of") nZ))))))) (zij 1 zsz (zad (mX (mIx (zbg 0) (kI 3))) zaa)))
  (zfn 2 (mX (zax zmp (zac (kSt "over") (zac (mIx (zbg 0) (kI 4)) nZ)))))) (zd8 2 (zf6 (zbp (zac (mIx (zbg 0) (kI 0)) nZ)) (zax zjo (zac (mIx (zbg 0) (kI 1)) nZ)))))
  (zd2 2 (zbj (mX2 zcb (mX2 zcb (mX (zab 2)) (zij 1 zs1 (zad (mX (kSt "if")) (zad (mX (mIx (zbg 0) (m1 zov (kI 2)))) zaa)))) (mX (zax zmp (zac (kSt "for") (zac (mIx (zbg 0) (m1 zov (kI 1))) nZ))))))))))
noncomputable def zs2:=zdj 3 zoh
noncomputable def b_9 : MF3 :=
 (zah (zdi 1 (kI 0))
  (zah (zbn (mB (m2 dGt (zax zcg (zac (zab 0) nZ)) (kI 0))) (zdi 1 (m2 zfi (mIx (zbg 0) (kI 0)) (kI 6))) zbb)
  (zah (zdi 2 (zax zxi (zac (zab 0) (zac (m2 zcb (zab 1) (kI 1)) nZ))))
  (zah (zd8 3 (zac (mIx (zbg 2) (kI 0)) nZ))
  (zah (zd8 4 nZ)
  (zah (zd8 5 nZ)
  (zah (zfo (zdx (zbp (mSl (zab 2) (mPt (kI 1)) (fun _=>some none)))) (zbe 6) (zah (zdi 7 (zmi zsx (zac (zab 6) nZ)))
  (zah (zf4 4 (zab 7))
  (zah (zfn 5 (mXQ 3 (ze0 1 [3] 3 0 (zfr (zad (zat 3 m_0 (zad (mX (kI 3)) zaa)) zaa)) (zbe 0) (mX2 zi7 (mX (kSt " ")) (zat 1 m_0 (zad (mX (kI 3)) zaa))))))
  (zeq 5 (zjk 3 zsy (zad (zjk 3 zs2 (zad (mX (zab 7)) zaa)) zaa)))))))
  (zah (zfn 5 (mXQ 3 (ze0 1 [3] 3 0 (zfr (zad (zat 3 m_0 (zad (mX (kI 3)) zaa)) zaa)) (zbe 0) (mX2 zi7 (mX (kSt " ")) (zat 1 m_0 (zad (mX (kI 3)) zaa))))))
  (zah (zdi 8 (m2 zhu (kSt "\n") (zf8 5)))
  (zah (zd8 9 (zmj o_2 (zac (zab 8) nZ)))
  (zah (zd2 4 (zbn (zfp (zcu (zmk (zft 9) (zac (zf8 9) (zac (zab 4) nZ))))) (zdh (kBl false)) zbb))
  (zah (zf4 9 (kSt "x"))
  (zah (zdr (mBX (mX2 dEq (zf5 3 m_0 (zad (mX (kI 2)) zaa)) (mX (kI 0)))) (zah (zpb 5 (zad (zf5 3 m_0 (zad (mX (m2 zcb (zax zcg (zac (zf8 5) nZ)) (kI 1))) zaa)) (zad (zf5 3 zpi zaa) zaa)))
  (zd2 5 (zbn (zfp (zcu (zax zs8 (zac (m2 zhu (kSt "\n") (zab 5)) nZ)))) (zdh (kBl false)) zbb))) zbb)
  (zd2 4 (zdh (zax (zft 9) (zac (zax m_2 (zac (zab 8) nZ)) (zac (zab 4) nZ))))))))))))))))))
noncomputable def m_9:=zdl 10 b_9
variable {P:Program} {w:World} {K:W.Frag} {mg:MGT} {base:Heap} {a:Wa}
theorem zb5 (W:Wd K mg a) : qM P w K mg base a 1 "_law_next" a.e_0 ["_law_state","_law_many"] 0 m_0:=by
 refine W.e_0.pk (zd1 (F:=b_0) W.e_0.F yji fun _ _ _ _ _ _ hr=>?_);unfold b_0;exact (zak (ybi (pv 0) zag (zca zin (zca zde (zca zpn (zbx (z21 0) zag) zag) zag) (zca zty (zca zk4 zag zag) zag)))
 (zam (zc0 (zca zin (zca yfd (zbx (z21 0) zag) zag) (dv 1)))))
theorem yfw (W:Wd K mg a) : qM P w K mg base a 2 "_law_bad" a.e_41 ["_law_state"] 0 zpi:=by
 refine W.e_41.pk (zd1 (F:=zoj) W.e_41.F z7u fun _ _ _ _ _ _ hr=>?_);unfold zoj;exact (zak (zev 1 z7u.nd (DO.de (zb7 (zai zaj (zai zaj (zai zaj (zai zaj (zai zaj (zai zaj (zai zaj (zai zaj (zai zaj (zai zaj zaw)))))))))))))
 (zam (zbr (zje (DE.dx (DO.de (zoy (dv 1) (DO.de (zb7 (zai zaj (zai zaj zaw))))))) @2))))
theorem yft (W:Wd K mg a) : qM P w K mg base a 2 "_law_line" a.e_27 ["_law_words_here","_law_state"] 1 zsy:=by
 refine W.e_27.pk (zd1 (F:=zoa) W.e_27.F zjy fun _ _ _ _ _ _ hr=>?_);have hu:=hr.units;unfold zoa;exact (zak (zev 2 zjy.nd zaj)
 (zak (zev 3 zjy.nd zaj)
 (zak (zhv PassesOwn.never rfl (zg9 (dv 0)) (zfk 4 6 zjy.nd) (zak (zbz 5 zjy.nd (za3 (zb5 W) hr (za6 1 @3)))
 (zak (zb2 (DW.dt (zr7 (zb3 (zcc hu) zda (DE.db (dv 5)) (DE.db zag)) (zr7 (zb3 zxy z0n (DE.db (dv 4)) (DE.db (DO.de (zb7 (zai zaj (zai zaj (zai zaj zaw))))))) (zwf (zb3 zxy z0n (DE.db (dv 3)) (DE.db (DO.de (zb7 (zai zaj (zai zaj (zai zaj zaw))))))))))) (zam (zev 5 zjy.nd zag)) zbd)
 (zak (z2x 2 zjy.nd (DE.dx (zca zde (zca ztx zaj (dv 5)) (dv 4))))
 (zam (zev 3 zjy.nd (dv 4)))))))
 (zam (zbr (zej zde (DE.dx (dv 2)) (zej ztx (DE.dx zaj) (za3 (zb5 W) hr (za6 1 @3)))))))))
theorem z5w (W:Wd K mg a) : Pm P w K mg base CX0 1 (a.cl "Reader") "__init__" a.e_61 ["self","words"] (spI ⟨K,a.cl⟩ "Reader" ["self","words"].length zsh) :=
 W.e_61.pk W.cl_Reader (ycf W.e_61.F yjv fun _ _ _ _ _ _ hr=>(z20 W.cl_Reader W.na_Reader_words (pv 0) (dv 1) (z20 W.cl_Reader W.na_Reader_place (pv 0) zag ybq)))
theorem yfq (W:Wd K mg a) : zc8 P w K mg base a 1 "must_end" a.e_16 ["self"] zxh:=by
 refine W.e_16.pk W.cl_Reader (zc6 (F:=zqv) W.e_16.F z7o fun _ _ _ _ _ _ hr=>?_);unfold zqv;exact (zam (zb2 (zb3 zk3 zlf (DE.db (zj9 "Reader" W.cl_Reader W.na_Reader_place (pv 0))) (DE.db (zd0 zeu ze3 rfl W.z_len PySem.boot_len (zdo (DE.db (zj9 "Reader" W.cl_Reader W.na_Reader_words (pv 0))) zdw)))) (zam zie) zbd))
variable {C:Addr}
theorem yfm (W:Wd K mg a) (hX:zd7 K C=true) (hM:mg "NoRow"=some (.ref C)) : zit P w K mg base a 1 "must_end" a.e_16 ["self"] C zyr:=by
 refine W.e_16.pk W.cl_Reader (zig (r:=zpy) W.e_16.F z7o fun _ _ _ _ _ _ hr=>?_);unfold zpy;exact (zem (zla (DT.dtx (zb3 zk3 zlf (DE.db (zj9 "Reader" W.cl_Reader W.na_Reader_place (pv 0))) (DE.db (zd0 zeu ze3 rfl W.z_len PySem.boot_len (zdo (DE.db (zj9 "Reader" W.cl_Reader W.na_Reader_words (pv 0))) zdw))))) (zem (zuh hX rfl zu8 rfl hM (zai zaj zaw))) zlc))
theorem zio (W:Wd K mg a) : zc8 P w K mg base a 1 "coming" a.e_10 ["self","behind"] zfs:=by
 refine W.e_10.pk W.cl_Reader (zc6 (F:=zqs) W.e_10.F z7k fun _ _ _ _ _ _ hr=>?_);unfold zqs;exact (zak (zev 2 z7k.nd (zca zde (zj9 "Reader" W.cl_Reader W.na_Reader_place (pv 0)) (dv 1)))
 (zam (zc0 (z2f (zb3 zk3 zlf (DE.db (dv 2)) (DE.db (zd0 zeu ze3 rfl W.z_len PySem.boot_len (zdo (DE.db (zj9 "Reader" W.cl_Reader W.na_Reader_words (pv 0))) zdw)))) (zbx (DE.dc (zj9 "Reader" W.cl_Reader W.na_Reader_words (pv 0))) (dv 2)) zaj))))
theorem zgb (W:Wd K mg a) : zc8 P w K mg base a 2 "passes" a.e_6 ["self","word"] m_6:=by
 refine W.e_6.pk W.cl_Reader (zc6 (F:=b_6) W.e_6.F yju fun _ _ _ _ _ _ hr=>?_);have hu:=hr.units;unfold b_6;exact (zak (zfl (zgn (zpo hu) (zct (pv 0) (zio W) hr @3) (DE.dx (dv 1))) (zam (zc0 zg7)) zbd)
 (zak (z2w "Reader" W.cl_Reader W.na_Reader_place (pv 0) zag)
 (zam (zc0 zg7))))
theorem zmz (W:Wd K mg a) : zc8 P w K mg base a 3 "must_pass" a.e_22 ["self","word"] zil:=by
 refine W.e_22.pk W.cl_Reader (zc6 (F:=zqy) W.e_22.F yjj fun _ _ _ _ _ _ hr=>?_);unfold zqy;exact (zam (zfl (ybs (zfa (zct (pv 0) (zgb W) hr (zae (DE.dx (dv 1)) zal)))) (zam zie) zbd))
theorem zk5 (W:Wd K mg a) : zc8 P w K mg base a 2 "take" a.e_17 ["self"] zh1:=by
 refine W.e_17.pk W.cl_Reader (zc6 (F:=zqw) W.e_17.F z7p fun _ _ _ _ _ _ hr=>?_);unfold zqw;exact (zak (zbz 1 z7p.nd (zct (pv 0) (zio W) hr @3))
 (zak (z2w "Reader" W.cl_Reader W.na_Reader_place (pv 0) zag)
 (zam (zc0 (dv 1)))))
theorem zt4 (W:Wd K mg a) : qD P w K mg base a 1 "is_made_of" a.e_31 ["word","signs","most"] zmt:=by
 refine W.e_31.pk (zfb (F:=zq1) W.e_31.F yjl fun _ _ _ _ _ _ hr=>?_);unfold zq1;exact (zam (ze9 (zj8 (ya7 z49 z76 z49 z76 (DE.db zag) (DE.db (zd0 zeu ze3 rfl W.z_len PySem.boot_len (zdo (DE.db (dv 0)) zdw))) (DE.db (dv 2))) (zka (zd0 (zrl rfl) zuv rfl W.z_all boot_all (zdo (DE.db (DO.de (zkd 1 [1] ["sign","signs"] rfl (DI.de (ybd (dv 0))) (fun _ _ _ _ _=>(dgc 0 1)) (fun _ _ _ _ _=>zl5) (fun _ _ _ _ _=>(zg8 yfe yjw (DE.db (dvc 0)) (DE.db (dvc 1))))))) zdw))))))
theorem z5t (W:Wd K mg a) : qD P w K mg base a 2 "is_name" a.e_54 ["word"] ztf:=by
 refine W.e_54.pk (zfb (F:=zre) W.e_54.F yjq fun _ _ _ _ _ _ hr=>?_);unfold zre;exact (zam (ze9 (zj8 (zck (zt4 W) hr (zai (dv 0) (zai (zrt rfl W.g_SMALL) (zai zag zaw)))) (zka (zg8 zxy z0n (DE.db (dv 0)) (DE.db (ya8 rfl W.g_KEPT)))))))
theorem zjr (W:Wd K mg a) : zc8 P w K mg base a 3 "read_name" a.e_3 ["self"] m_3:=by
 refine W.e_3.pk W.cl_Reader (zc6 (F:=b_3) W.e_3.F zuo fun _ _ _ _ _ _ hr=>?_);unfold b_3;exact (zak (zbz 1 zuo.nd (za8 (pv 0) (zk5 W) hr))
 (zak (zb2 (zjd (zei (DE.db (zck (z5t W) hr (zai (dv 1) zaw))))) (zam zie) zbd)
 (zam (zc0 (dv 1)))))
theorem zx0 (W:Wd K mg a) (hX:zd7 K C=true) (hM:mg "NoRow"=some (.ref C)) : zit P w K mg base a 3 "read_name" a.e_3 ["self"] C r_3:=by
 refine W.e_3.pk W.cl_Reader (zig (r:=zpz) W.e_3.F zuo fun _ _ _ _ _ _ hr=>?_);unfold zpz;exact (zgu (zbz 1 zuo.nd (za8 (pv 0) (zk5 W) hr)) znd
 (zem (zla (DT.dtx (zjd (zei (DE.db (zck (z5t W) hr (zai (dv 1) zaw)))))) (zem (zuh hX rfl zu8 rfl hM (zai (z2e (z2r (dv 1) (z2p z2q))) zaw))) zlc)))
theorem z5u (W:Wd K mg a) : qD P w K mg base a 2 "is_variable" a.e_55 ["word"] ztg:=by
 refine W.e_55.pk (zfb (F:=zrf) W.e_55.F yjr fun _ _ _ _ _ _ hr=>?_);have hu:=hr.units;unfold zrf;exact (zam (ze9 (zj8 (zck (zt4 W) hr (zai (zv7 (dv 0) zke (zkf zag)) (zai (zrt rfl W.g_GREAT) (zai zag zaw)))) (zka (ybc (zg8 (zcc hu) zda (DE.db (zd0 zeu ze3 rfl W.z_len PySem.boot_len (zdo (DE.db (dv 0)) zdw))) (DE.db zag)) (zka (zck (zt4 W) hr (zai (zv7 (dv 0) (zkf zag) zke) (zai (zrt rfl W.g_SMALL) (zai zag zaw))))))))))
theorem z5n (W:Wd K mg a) : zc8 P w K mg base a 3 "read_variable" a.e_48 ["self"] zs9:=by
 refine W.e_48.pk W.cl_Reader (zc6 (F:=zq8) W.e_48.F z7w fun _ _ _ _ _ _ hr=>?_);unfold zq8;exact (zak (zbz 1 z7w.nd (za8 (pv 0) (zk5 W) hr))
 (zak (zb2 (zjd (zei (DE.db (zck (z5u W) hr (zai (dv 1) zaw))))) (zam zie) zbd)
 (zam (zc0 (dv 1)))))
theorem z5s (W:Wd K mg a) : zc8 P w K mg base a 4 "read_pair" a.e_53 ["self"] zte:=by
 refine W.e_53.pk W.cl_Reader (zc6 (F:=zrd) W.e_53.F z71 fun _ _ _ _ _ _ hr=>?_);unfold zrd;exact (zak (zbz 1 z71.nd (za8 (pv 0) (z5n W) hr))
 (zak (zkh (zct (pv 0) (zmz W) hr (zae (DE.dx zaj) zal)))
 (zam (zbr (zc5 (zae (DE.dx (dv 1)) (zae (za8 (pv 0) (zjr W) hr) zal)))))))
theorem z5r (W:Wd K mg a) : zc8 P w K mg base a 5 "read_pairs" a.e_52 ["self"] ztd:=by
 refine W.e_52.pk W.cl_Reader (zc6 (F:=zrc) W.e_52.F z70 fun _ _ _ _ _ _ hr=>?_);unfold zrc;exact (zak (zo0 1 z70.nd (za8 (pv 0) (z5s W) hr))
 (zak (zo1 1000000000 PassesOwn.never @6 (zam (zkg (zer (zdt PySem.F.plainAttrs_list PySem.F.slot_list_append PySem.F.type_list_append zga (pv 1) (zbv (za8 (pv 0) (z5s W) hr) zcd))))))
 (zam (zgm 1 (zc0 (dv 1))))))
theorem zt5 (W:Wd K mg a) : qD P w K mg base a 1 "at_most" a.e_32 ["listed","most"] zmu:=by
 refine W.e_32.pk (zfb (F:=zq2) W.e_32.F yjm fun _ _ _ _ _ _ hr=>?_);unfold zq2;exact (zak (zb2 (zb3 zk2 zle (DE.db (zd0 zeu ze3 rfl W.z_len PySem.boot_len (zdo (DE.db (dv 0)) zdw))) (DE.db (dv 1))) (zam zie) zbd)
 (zam (zoz 0)))
theorem zt2 (W:Wd K mg a) : zc8 P w K mg base a 6 "read_for" a.e_28 ["self"] zjp:=by
 refine W.e_28.pk W.cl_Reader (zc6 (F:=zob) W.e_28.F yjk fun _ _ _ _ _ _ hr=>?_);unfold zob;exact (zam (zbr (zl7 @6 (zr8 (zt5 W) hr (zae (za8 (pv 0) (z5r W) hr) @3)) (DE.dx (DO.de (zb7 zaw))))))
theorem z5l (W:Wd K mg a) : qD P w K mg base a 2 "is_number" a.e_44 ["word"] zs6:=by
 refine W.e_44.pk (zfb (F:=zq6) W.e_44.F z7v fun _ _ _ _ _ _ hr=>?_);have hu:=hr.units;unfold zq6;exact (zak (zb2 (zb3 (zcc hu) zda (DE.db (dv 0)) (DE.db zaj)) (zam (ze9 zg7)) zbd)
 (zak (zev 1 z7v.nd (z2f (zei (DE.db (z2i (zdt PySem.F.plainAttrs_str PySem.F.slot_str_startswith PySem.F.type_str_startswith z4t (dv 0) (zbv zaj zcd))))) (zv7 (dv 0) (zkf zag) zke) (dv 0)))
 (zam (ze9 (zj8 (zck (zt4 W) hr (zai (dv 1) (zai (zrt rfl W.g_FIGURES) (zai zag zaw)))) (zka (z2g (z2i (zdt PySem.F.plainAttrs_str PySem.F.slot_str_startswith PySem.F.type_str_startswith z4t (dv 1) (zbv zaj zcd))))))))))
theorem zt3 (W:Wd K mg a) : zc8 P w K mg base a 3 "read_number" a.e_30 ["self"] zms:=by
 refine W.e_30.pk W.cl_Reader (zc6 (F:=zq0) W.e_30.F z7r fun _ _ _ _ _ _ hr=>?_);unfold zq0;exact (zak (zbz 1 z7r.nd (za8 (pv 0) (zk5 W) hr))
 (zak (zb2 (zjd (zei (DE.db (zck (z5l W) hr (zai (dv 1) zaw))))) (zam zie) zbd)
 (zam (zc0 (ya9 rfl W.z_int (dv 1))))))
theorem zt6 (W:Wd K mg a) : zc8 P w K mg base a 4 "read_arg" a.e_35 ["self"] zmv:=by
 refine W.e_35.pk W.cl_Reader (zc6 (F:=zq3) W.e_35.F yjn fun _ _ _ _ _ _ hr=>?_);unfold zq3;exact (zam (zbr (zl7 (zfa (zr8 (z5u W) hr (zae (zct (pv 0) (zio W) hr @3) zal))) (za8 (pv 0) (z5n W) hr) (za8 (pv 0) (zjr W) hr))))
theorem yf2 (W:Wd K mg a) : zc8 P w K mg base a 5 "read_args" a.e_60 ["self"] zxn:=by
 refine W.e_60.pk W.cl_Reader (zc6 (F:=zrh) W.e_60.F z74 fun _ _ _ _ _ _ hr=>?_);unfold zrh;exact (zak (zo0 1 z74.nd (za8 (pv 0) (zt6 W) hr))
 (zak (zo1 1000000000 PassesOwn.never @6 (zam (zkg (zer (zdt PySem.F.plainAttrs_list PySem.F.slot_list_append PySem.F.type_list_append zga (pv 1) (zbv (za8 (pv 0) (zt6 W) hr) zcd))))))
 (zak (zkh (zct (pv 0) (zmz W) hr (zae (DE.dx zaj) zal)))
 (zam (zgm 1 (zc0 (zck (zt5 W) hr (zai (dv 1) (zai zag zaw)))))))))
theorem zk6 (W:Wd K mg a) : zc8 P w K mg base a 6 "read_thing" a.e_5 ["self"] m_5:=by
 refine W.e_5.pk W.cl_Reader (zc6 (F:=b_5) W.e_5.F zut fun _ _ _ _ _ _ hr=>?_);unfold b_5;exact (zak (zbz 1 zut.nd (za8 (pv 0) (zjr W) hr))
 (zam (zbr (zc5 (zae (DE.dx (dv 1)) (zae (zl7 @6 (za8 (pv 0) (yf2 W) hr) (DE.dx (DO.de (zb7 zaw)))) zal))))))
theorem zx1 (W:Wd K mg a) (hX:zd7 K C=true) (hM:mg "NoRow"=some (.ref C)) : zit P w K mg base a 6 "read_thing" a.e_5 ["self"] C r_5:=by
 refine W.e_5.pk W.cl_Reader (zig (r:=zud) W.e_5.F zut fun _ _ _ _ _ _ hr=>?_);unfold zud;exact (zem (zp6 1 zut.nd (zgv (pv 0) (zx0 W hX hM) zfv hr)))
theorem z5q (W:Wd K mg a) : zc8 P w K mg base a 7 "read_item" a.e_51 ["self"] ztc:=by
 refine W.e_51.pk W.cl_Reader (zc6 (F:=zrb) W.e_51.F z7z fun _ _ _ _ _ _ hr=>?_);unfold zrb;exact (zak (zbz 1 z7z.nd (zl7 (zfa (zr8 (z5l W) hr (zae (zct (pv 0) (zio W) hr @3) zal))) (za8 (pv 0) (zt3 W) hr) (DE.dx zag)))
 (zak (zb2 (zb3 zk3 zlf (DE.db (dv 1)) (DE.db zag)) (zam zie) zbd)
 (zam (zbr (zc5 (zae (za8 (pv 0) (zk6 W) hr) (zae (DE.dx (dv 1)) zal)))))))
theorem z5p (W:Wd K mg a) : zc8 P w K mg base a 8 "read_items" a.e_50 ["self"] ztb:=by
 refine W.e_50.pk W.cl_Reader (zc6 (F:=zra) W.e_50.F z7y fun _ _ _ _ _ _ hr=>?_);unfold zra;exact (zak (zo0 1 z7y.nd (za8 (pv 0) (z5q W) hr))
 (zak (zo1 1000000000 PassesOwn.never @6 (zam (zkg (zer (zdt PySem.F.plainAttrs_list PySem.F.slot_list_append PySem.F.type_list_append zga (pv 1) (zbv (za8 (pv 0) (z5q W) hr) zcd))))))
 (zam (zgm 1 (zc0 (dv 1))))))
theorem z5v (W:Wd K mg a) : zc8 P w K mg base a 6 "read_over" a.e_58 ["self"] zth:=by
 refine W.e_58.pk W.cl_Reader (zc6 (F:=zrg) W.e_58.F yjs fun _ _ _ _ _ _ hr=>?_);unfold zrg;exact (zam (zbr (zl7 @6 (zr8 (zt5 W) hr (zae (za8 (pv 0) (z5r W) hr) @3)) (DE.dx (DO.de (zb7 zaw))))))
theorem z5k (W:Wd K mg a) : zc8 P w K mg base a 9 "read_count" a.e_43 ["self"] zs5:=by
 refine W.e_43.pk W.cl_Reader (zc6 (F:=zq5) W.e_43.F z0i fun _ _ _ _ _ _ hr=>?_);unfold zq5;exact (zak (zbz 1 z0i.nd (za8 (pv 0) (zk5 W) hr))
 (zak (zbz 2 z0i.nd (za8 (pv 0) (zt3 W) hr))
 (zak (zkh (zct (pv 0) (zmz W) hr (zae (DE.dx zaj) zal)))
 (zam (zbr (zc5 (zae (DE.dx (dv 1)) (zae (DE.dx (dv 2)) (zae (za8 (pv 0) (z5p W) hr) (zae (za8 (pv 0) (z5v W) hr) zal))))))))))
theorem z5o (W:Wd K mg a) : zc8 P w K mg base a 5 "read_unlike" a.e_49 ["self"] zta:=by
 refine W.e_49.pk W.cl_Reader (zc6 (F:=zq9) W.e_49.F z7x fun _ _ _ _ _ _ hr=>?_);unfold zq9;exact (zak (zbz 1 z7x.nd (za8 (pv 0) (zt6 W) hr))
 (zak (zkh (zct (pv 0) (zmz W) hr (zae (DE.dx zaj) zal)))
 (zam (zbr (zc5 (zae (DE.dx zaj) (zae (DE.dx (dv 1)) (zae (za8 (pv 0) (zt6 W) hr) zal))))))))
theorem z5d (W:Wd K mg a) : zc8 P w K mg base a 10 "read_part" a.e_13 ["self"] zsw:=by
 refine W.e_13.pk W.cl_Reader (zc6 (F:=zqu) W.e_13.F z7l fun _ _ _ _ _ _ hr=>?_);have hu:=hr.units;unfold zqu;exact (zak (zfl @6 (zam (zbr (zc5 (zae (DE.dx zaj) (zae (za8 (pv 0) (zk6 W) hr) zal))))) zbd)
 (zak (zfl (zgn zmy (zct (pv 0) (zio W) hr @3) (DE.dx (zl0 (zai zaj (zai zaj zaw))))) (zam (zbr (za8 (pv 0) (z5k W) hr))) zbd)
 (zak (zfl (zgn (zcc hu) (zct (pv 0) (zio W) hr @3) (DE.dx zaj)) (zam (zbr (za8 (pv 0) (z5o W) hr))) zbd)
 (zam (zbr (zc5 (zae (DE.dx zaj) (zae (za8 (pv 0) (zk6 W) hr) zal))))))))
theorem yfl (W:Wd K mg a) (hX:zd7 K C=true) (hM:mg "NoRow"=some (.ref C)) : zit P w K mg base a 10 "read_part" a.e_13 ["self"] C zyq:=by
 refine W.e_13.pk W.cl_Reader (zig (r:=zpx) W.e_13.F z7l fun _ _ _ _ _ _ hr=>?_);have hu:=hr.units;unfold zpx;exact (zgu (zfl @6 (zam (zbr (zc5 (zae (DE.dx zaj) (zae (za8 (pv 0) (zk6 W) hr) zal))))) zbd) (zla @6 (zem (zlb (zuk (zm9 (DE.dx zaj) zp7 (zna (zgv (pv 0) (zx1 W hX hM) zfv hr)))))) zlc)
 (zgu (zfl (zgn zmy (zct (pv 0) (zio W) hr @3) (DE.dx (zl0 (zai zaj (zai zaj zaw))))) (zam (zbr (za8 (pv 0) (z5k W) hr))) zbd) znd
 (zgu (zfl (zgn (zcc hu) (zct (pv 0) (zio W) hr @3) (DE.dx zaj)) (zam (zbr (za8 (pv 0) (z5o W) hr))) zbd) znd
 (zem (zlb (zuk (zm9 (DE.dx zaj) zp7 (zna (zgv (pv 0) (zx1 W hX hM) zfv hr)))))))))
theorem zx9 (W:Wd K mg a) : zc8 P w K mg base a 11 "read_body" a.e_8 ["self"] m_8:=by
 refine W.e_8.pk W.cl_Reader (zc6 (F:=b_8) W.e_8.F zuu fun _ _ _ _ _ _ hr=>?_);unfold b_8;exact (zak (zo0 1 zuu.nd (za8 (pv 0) (z5d W) hr))
 (zak (zo1 1000000000 PassesOwn.never @6 (zam (zkg (zer (zdt PySem.F.plainAttrs_list PySem.F.slot_list_append PySem.F.type_list_append zga (pv 1) (zbv (za8 (pv 0) (z5d W) hr) zcd))))))
 (zam (zgm 1 (zc0 (dv 1))))))
theorem z5a (W:Wd K mg a) (hX:zd7 K C=true) (hM:mg "NoRow"=some (.ref C)) : zit P w K mg base a 11 "read_body" a.e_8 ["self"] C r_8:=by
 refine W.e_8.pk W.cl_Reader (zig (r:=zue) W.e_8.F zuu fun _ _ _ _ _ _ hr=>?_);unfold zue;exact (zem (zp6 1 zuu.nd (z7g (zna (zgv (pv 0) (yfl W hX hM) zfv hr)))))
theorem zx8 (W:Wd K mg a) : zc8 P w K mg base a 12 "read_if" a.e_7 ["self"] m_7:=by
 refine W.e_7.pk W.cl_Reader (zc6 (F:=b_7) W.e_7.F z75 fun _ _ _ _ _ _ hr=>?_);unfold b_7;exact (zam (zbr (zl7 @6 (za8 (pv 0) (zx9 W) hr) (DE.dx (DO.de (zb7 zaw))))))
theorem yfp (W:Wd K mg a) (hX:zd7 K C=true) (hM:mg "NoRow"=some (.ref C)) : zit P w K mg base a 12 "read_if" a.e_7 ["self"] C r_7:=by
 refine W.e_7.pk W.cl_Reader (zig (r:=zp0) W.e_7.F z75 fun _ _ _ _ _ _ hr=>?_);unfold zp0;exact (zem (zlb (yje @6 (zgv (pv 0) (z5a W hX hM) zfv hr) zp7)))
theorem z5j (W:Wd K mg a) : zc8 P w K mg base a 13 "read_choose" a.e_42 ["self"] zs4:=by
 refine W.e_42.pk W.cl_Reader (zc6 (F:=zq4) W.e_42.F z0h fun _ _ _ _ _ _ hr=>?_);unfold zq4;exact (zak (zbz 1 z0h.nd (za8 (pv 0) (zt3 W) hr))
 (zak (zkh (zct (pv 0) (zmz W) hr (zae (DE.dx zaj) zal)))
 (zak (zbz 2 z0h.nd (za8 (pv 0) (zt3 W) hr))
 (zak (zkh (zct (pv 0) (zmz W) hr (zae (DE.dx zaj) zal)))
 (zam (zbr (zc5 (zae (DE.dx zaj) (zae (DE.dx (dv 1)) (zae (DE.dx (dv 2)) (zae (za8 (pv 0) (z5p W) hr) (zae (za8 (pv 0) (z5v W) hr) (zae (za8 (pv 0) (zx8 W) hr) (zae (za8 (pv 0) (zt2 W) hr) zal))))))))))))))
theorem z5c (W:Wd K mg a) : zc8 P w K mg base a 4 "read_names" a.e_12 ["self"] zsv:=by
 refine W.e_12.pk W.cl_Reader (zc6 (F:=zqt) W.e_12.F zul fun _ _ _ _ _ _ hr=>?_);have hu:=hr.units;unfold zqt;exact (zak (zo0 1 zul.nd (za8 (pv 0) (zjr W) hr))
 (zak (zo1 1000000000 PassesOwn.never (zgn (zpo hu) (zct (pv 0) (zio W) hr @3) (DE.dx zaj)) (zam (zkg (zer (zdt PySem.F.plainAttrs_list PySem.F.slot_list_append PySem.F.type_list_append zga (pv 1) (zbv (za8 (pv 0) (zjr W) hr) zcd))))))
 (zam (zgm 1 (zc0 (zck (zt5 W) hr (zai (dv 1) (zai zag zaw))))))))
theorem yfk (W:Wd K mg a) (hX:zd7 K C=true) (hM:mg "NoRow"=some (.ref C)) : zit P w K mg base a 4 "read_names" a.e_12 ["self"] C zyp:=by
 refine W.e_12.pk W.cl_Reader (zig (r:=zuc) W.e_12.F zul fun _ _ _ _ _ _ hr=>?_);unfold zuc;exact (zem (zp6 1 zul.nd (z7g (zna (zgv (pv 0) (zx0 W hX hM) zfv hr)))))
theorem z5b (W:Wd K mg a) : zc8 P w K mg base a 12 "read_never" a.e_11 ["self"] zpg:=by
 refine W.e_11.pk W.cl_Reader (zc6 (F:=zn1) W.e_11.F zp9 fun _ _ _ _ _ _ hr=>?_);have hu:=hr.units;unfold zn1;exact (zak (zbz 1 zp9.nd (za8 (pv 0) (zx9 W) hr))
 (zak (zb2 (zei (DE.db (zd0 (zrl rfl) zuv rfl W.z_all boot_all (zdo (DE.db (DO.de (zkd 1 [] ["part"] rfl (DI.de (zg9 (dv 1))) (fun _ _ _ _ _=>(dgc 0 1)) (fun _ _ _ _ _=>zl5) (fun _ _ _ _ _=>(zg8 (zcc hu) zda (DE.db (zbx (zr6 0) zag)) (DE.db zaj)))))) zdw)))) (zam zie) zbd)
 (zam (zbr (zc5 (zae (DE.dx zaj) (zae (DE.dx (dv 1)) (zae (za8 (pv 0) (zt2 W) hr) zal))))))))
theorem yfj (W:Wd K mg a) (hX:zd7 K C=true) (hM:mg "NoRow"=some (.ref C)) : zit P w K mg base a 12 "read_never" a.e_11 ["self"] C z6v:=by
 refine W.e_11.pk W.cl_Reader (zig (r:=zys) W.e_11.F zp9 fun _ _ _ _ _ _ hr=>?_);have hu:=hr.units;unfold zys;exact (zgu (zbz 1 zp9.nd (za8 (pv 0) (zx9 W) hr)) (zp6 1 zp9.nd (zgv (pv 0) (z5a W hX hM) zfv hr))
 (zem (zla (DT.dtx (zei (DE.db (zd0 (zrl rfl) zuv rfl W.z_all boot_all (zdo (DE.db (DO.de (zkd 1 [] ["part"] rfl (DI.de (zg9 (dv 1))) (fun _ _ _ _ _=>(dgc 0 1)) (fun _ _ _ _ _=>zl5) (fun _ _ _ _ _=>(zg8 (zcc hu) zda (DE.db (zbx (zr6 0) zag)) (DE.db zaj)))))) zdw))))) (zem (zuh hX rfl zu8 rfl hM (zai zaj zaw))) zlc)))
theorem z5h (W:Wd K mg a) : zc8 P w K mg base a 14 "read_form" a.e_4 ["self"] m_4:=by
 refine W.e_4.pk W.cl_Reader (zc6 (F:=b_4) W.e_4.F zus fun _ _ _ _ _ _ hr=>?_);have hu:=hr.units;unfold b_4;exact (zak (zbz 1 zus.nd (za8 (pv 0) (zk5 W) hr))
 (zak (zb2 (zb3 (zcc hu) zda (DE.db (dv 1)) (DE.db zaj)) (zam (zbr (zc5 (zae (DE.dx zaj) (zae (za8 (pv 0) (zjr W) hr) (zae (za8 (pv 0) (z5c W) hr) zal)))))) zbd)
 (zak (zb2 (zb3 zmy zuw (DE.db (dv 1)) (DE.db (zl0 (zai zaj (zai zaj zaw))))) (zam (zbr (zc5 (zae (DE.dx (dv 1)) (zae (za8 (pv 0) (zk6 W) hr) (zae (za8 (pv 0) (zx8 W) hr) (zae (za8 (pv 0) (zt2 W) hr) zal))))))) zbd)
 (zak (zb2 (zb3 (zcc hu) zda (DE.db (dv 1)) (DE.db zaj)) (zam (zbr (za8 (pv 0) (z5j W) hr))) zbd)
 (zak (zb2 (zb3 (zcc hu) zda (DE.db (dv 1)) (DE.db zaj)) (zam (zbr (za8 (pv 0) (z5b W) hr))) zbd)
 (zam zie))))))
theorem yfo (W:Wd K mg a) (hX:zd7 K C=true) (hM:mg "NoRow"=some (.ref C)) : zit P w K mg base a 14 "read_form" a.e_4 ["self"] C r_4:=by
 refine W.e_4.pk W.cl_Reader (zig (r:=zhk) W.e_4.F zus fun _ _ _ _ _ _ hr=>?_);have hu:=hr.units;unfold zhk;exact (zgu (zbz 1 zus.nd (za8 (pv 0) (zk5 W) hr)) znd
 (zgu (zb2 (zb3 (zcc hu) zda (DE.db (dv 1)) (DE.db zaj)) (zam (zbr (zc5 (zae (DE.dx zaj) (zae (za8 (pv 0) (zjr W) hr) (zae (za8 (pv 0) (z5c W) hr) zal)))))) zbd) (zla (DT.dtx (zb3 (zcc hu) zda (DE.db (dv 1)) (DE.db zaj))) (zem (zlb (zuk (zm9 (DE.dx zaj) zp7 (zm9 (za8 (pv 0) (zjr W) hr) (zgv (pv 0) (zx0 W hX hM) zfv hr) (zna (zgv (pv 0) (yfk W hX hM) zfv hr))))))) zlc)
 (zgu (zb2 (zb3 zmy zuw (DE.db (dv 1)) (DE.db (zl0 (zai zaj (zai zaj zaw))))) (zam (zbr (zc5 (zae (DE.dx (dv 1)) (zae (za8 (pv 0) (zk6 W) hr) (zae (za8 (pv 0) (zx8 W) hr) (zae (za8 (pv 0) (zt2 W) hr) zal))))))) zbd) (zla (DT.dtx (zb3 zmy zuw (DE.db (dv 1)) (DE.db (zl0 (zai zaj (zai zaj zaw)))))) (zem (zlb (zuk (zm9 (DE.dx (dv 1)) zp7 (zm9 (za8 (pv 0) (zk6 W) hr) (zgv (pv 0) (zx1 W hX hM) zfv hr) (zna (zgv (pv 0) (yfp W hX hM) zfv hr))))))) zlc)
 (zgu (zb2 (zb3 (zcc hu) zda (DE.db (dv 1)) (DE.db zaj)) (zam (zbr (za8 (pv 0) (z5j W) hr))) zbd) znd
 (zgu (zb2 (zb3 (zcc hu) zda (DE.db (dv 1)) (DE.db zaj)) (zam (zbr (za8 (pv 0) (z5b W) hr))) zbd) (zla (DT.dtx (zb3 (zcc hu) zda (DE.db (dv 1)) (DE.db zaj))) (zem (zlb (zgv (pv 0) (yfj W hX hM) zfv hr))) zlc)
 (zem (zuh hX rfl zu8 rfl hM (zai (z2e (z2p (z2r (dv 1) z2q))) zaw))))))))
theorem zpp (W:Wd K mg a) : qD P w K mg base a 1 "words_of" a.e_15 ["line"] zf9:=by
 refine W.e_15.pk (zfb (F:=zn3) W.e_15.F z7n fun _ _ _ _ _ _ hr=>?_);have hu:=hr.units;unfold zn3;exact (ybr 1 2 PassesOwn.never rfl z7n.nd rfl W.g_LONE (dv 0)
 (zam (zr4 (zkd 1 [] ["word"] rfl (DI.de (zg9 (zrv (zdt PySem.F.plainAttrs_str PySem.F.slot_str_split PySem.F.type_str_split ztk (dv 1) (zbv zaj zcd))))) (fun _ _ _ _ _=>(dgc 0 1)) (fun _ _ _ _ _=>(zr5 (zb3 (zpo hu) z0m (DE.db (dvc 0)) (DE.db zaj)))) (fun _ _ _ _ _=>(dvc 0))))))
theorem zx2 (W:Wd K mg a) : qD P w K mg base a 15 "read_row" a.e_1 ["line"] m_1:=by
 refine W.e_1.pk (zfb (F:=b_1) W.e_1.F zld fun _ _ _ _ _ _ hr=>?_);unfold b_1;exact (zak (z2y 1 "Reader" zld.nd W.mk_Reader (z5w W).ok (hr.mono (by decide)) rfl W.g_Reader W.e_61.b (zai (zck (zpp W) hr (zai (dv 0) zaw)) zaw))
 (zak (zbz 2 zld.nd (zwh (pv 1) (z5h W) hr))
 (zak (zkh (zwh (pv 1) (yfq W) hr))
 (zam (zoz 2)))))
theorem yfi (W:Wd K mg a) (hX:zd7 K C=true) (hM:mg "NoRow"=some (.ref C)) : Pk P w K mg base (CX1 P w) 15 "read_row" a.e_1 ["line"] (spR ⟨K,a.cl⟩ ["line"].length C r_1):=by
 refine W.e_1.pk (z3d (r:=zk8) W.e_1.F zld fun _ _ _ _ _ _ hr=>?_);unfold zk8;exact (zgu (z2y 1 "Reader" zld.nd W.mk_Reader (z5w W).ok (hr.mono (by decide)) rfl W.g_Reader W.e_61.b (zai (zck (zpp W) hr (zai (dv 0) zaw)) zaw)) znd
 (zgu (zbz 2 zld.nd (zwh (pv 1) (z5h W) hr)) (zp6 2 zld.nd (z7h (pv 1) (yfo W hX hM) zfv hr))
 (zem (yjb (z7h (pv 1) (yfm W hX hM) zfv hr)))))
theorem yfr (W:Wd K mg a) : qD P w K mg base a 16 "read" a.e_2 ["text"] m_2:=by
 refine W.e_2.pk (zfb (F:=b_2) W.e_2.F z0f fun _ _ _ _ _ _ hr=>?_);unfold b_2;exact (zam (zr4 (zkd 1 [] ["line"] rfl (DI.de (zg9 (zrv (zdt PySem.F.plainAttrs_str PySem.F.slot_str_split PySem.F.type_str_split ztk (dv 0) (zbv zaj zcd))))) (fun _ _ _ _ _=>(dgc 0 1)) (fun _ _ _ _ _=>(zr5 (zei (DE.db (zck (zpp W) hr (zai (dvc 0) zaw)))))) (fun _ _ _ _ _=>(zck (zx2 W) hr (zai (dvc 0) zaw))))))
theorem yfh (W:Wd K mg a) : qO P w K mg base a 16 "read" a.e_2 ["text"] o_2:=by
 refine W.e_2.pk (ycg (F:=b_2) W.e_2.F z0f fun _ _ _ _ _ _ hr=>?_);unfold b_2;exact (zam (zr4 (zkd 1 [] ["line"] rfl (DI.de (zg9 (zrv (zdt PySem.F.plainAttrs_str PySem.F.slot_str_split PySem.F.type_str_split ztk (dv 0) (zbv zaj zcd))))) (fun _ _ _ _ _=>(dgc 0 1)) (fun _ _ _ _ _=>(zr5 (zei (DE.db (zck (zpp W) hr (zai (dvc 0) zaw)))))) (fun _ _ _ _ _=>(zck (zx2 W) hr (zai (dvc 0) zaw))))))
theorem yfn (W:Wd K mg a) (hX:zd7 K C=true) (hM:mg "NoRow"=some (.ref C)) : Pk P w K mg base (CX1 P w) 16 "read" a.e_2 ["text"] (spR ⟨K,a.cl⟩ ["text"].length C r_2):=by
 refine W.e_2.pk (z3d (r:=zyt) W.e_2.F z0f fun _ _ _ _ _ _ hr=>?_);unfold zyt;exact (zem (zlb (yjd 1 [] ["line"] rfl rfl rfl rfl ygn (DI.de (zg9 (zrv (zdt PySem.F.plainAttrs_str PySem.F.slot_str_split PySem.F.type_str_split ztk (dv 0) (zbv zaj zcd))))) (fun _ _ _ _ _=>(dgc 0 1)) (fun _ _ _ _ _=>(zr5 (zei (DE.db (zck (zpp W) hr (zai (dvc 0) zaw)))))) (fun _ _ _ _ _=>(zck (zx2 W) hr (zai (dvc 0) zaw))) (fun _ _ _ _ _ _ hp=>(z7f (yfi W hX hM) hp hr (DAX.toE (zae (DE.dx (dvc 0)) zal)) z6w)))))
theorem yfy (W:Wd K mg a) : qD P w K mg base a 17 "_law_refused" a.e_47 ["_law_text"] zs8:=by
 refine W.e_47.pk (zfb (F:=zq7) W.e_47.F z0k fun _ _ _ _ _ _ hr=>?_);have hu:=hr.units;unfold zq7;exact (zak (zev 1 z0k.nd (DO.de (zb7 zaw)))
 (zak (ybp (fun E pn xe hp=>(z7f (yfn W W.x_NoRow W.g_NoRow) hp hr (zae (DE.dx (dv 0)) zal) z6w)) (fun _=>(zyi (ygx W.ec_NoRow rfl W.z_isinstance (pv 2) rfl W.g_NoRow W.ke_NoRow) (zyi (ygz W.ec_NoRow rfl W.z_isinstance (pv 2) rfl W.z_ValueError z98 W.kv_ValueError) (zyi (by refine ygy W.ec_NoRow ?_ W.z_isinstance (pv 2) ?_ W.g_BadName ?_ W.g_Wide ?_ W.g_NoThing W.km_BadName_Wide_NoThing <;> rfl) yhb)))) rfl rfl rfl W.x_NoRow W.x_StillError (yes W.mr_StillError) rfl W.g_StillError z0k.nd rfl rfl rfl (by first | exact Or.inl rfl | exact Or.inr rfl) (by first | exact Or.inl rfl | exact Or.inr rfl) (by first | exact Or.inl rfl | exact Or.inr rfl) (by first | exact Or.inl rfl | exact Or.inr rfl) (fun _=>rfl) (by decide) (by decide))
 (zam (ze9 (zg8 (zcc hu) zda (DE.db (dv 1)) (DE.db (DO.de (zb7 (zai zg7 (zai zg7 (zai zg7 zaw)))))))))))
theorem zx6 (W:Wd K mg a) : qD P w K mg base a 1 "_law_kept" a.e_37 ([] : LSt) zmw:=by
 refine W.e_37.pk (zfb (F:=zvp) W.e_37.F z7s fun _ _ _ _ _ _ hr=>?_);unfold zvp;exact (zak (zev 0 z7s.nd (DO.de (zb7 (zai zaj (zai zaj (zai zaj (zai zaj (zai zaj (zai zaj (zai zaj (zai zaj zaw)))))))))))
 (zam (zr4 (zoy (dv 0) (DO.de (zb7 (zai zaj (zai zaj (zai zaj (zai zaj (zai zaj (zai zaj (zai zaj (zai zaj zaw))))))))))))))
theorem zx4 (W:Wd K mg a) : qM P w K mg base a 2 "_law_small" a.e_25 ["_law_state","_law_many","_law_span"] 0 zmq:=by
 refine W.e_25.pk (zd1 (F:=zn8) W.e_25.F zum fun _ _ _ _ _ _ hr=>?_);unfold zn8;exact (zak (zev 3 zum.nd zaj)
 (zak (zhv PassesOwn.never rfl (zox rfl W.z_range (zai (dv 1) zaw)) (zfk 4 5 zum.nd) (zam (z2x 3 zum.nd (z25 (DE.dx zaj) (za3 (zb5 W) hr (za6 0 (zae (DE.dx (dv 2)) zal)))))))
 (zam (zc0 (dv 3)))))
theorem zpq (W:Wd K mg a) : qM P w K mg base a 3 "_law_name" a.e_20 ["_law_state"] 0 zkw:=by
 refine W.e_20.pk (zd1 (F:=zn5) W.e_20.F z0g fun _ _ _ _ _ _ hr=>?_);have hu:=hr.units;unfold zn5;exact (zak (zbz 1 z0g.nd @2)
 (zak (zb2 (zb3 (zcc hu) zda (DE.db (dv 1)) (DE.db zag)) (zam (zbr (zej zde (zje (DE.dx (zv4 (zx6 W) hr)) @2) (za3 (zx4 W) hr (za6 0 (zae (DE.dx zag) @3)))))) zbd)
 (zak (zb2 (zb3 (zcc hu) zda (DE.db (dv 1)) (DE.db zag)) (zam (zbr (ybx (zje (DE.dx (zv4 (zx6 W) hr)) @2) zke (zkf (zru zag))))) zbd)
 (zak (zbz 2 z0g.nd (za3 (zx4 W) hr (za6 0 (zae (zej zde (DE.dx zag) @2) (zae (DE.dx (zbx (DO.dc (zb7 (zai zag (zai zag zaw)))) (zca zin (dv 1) zag))) zal)))))
 (zak (zb2 (zb3 zmy zuw (DE.db (dv 2)) (DE.db (zv4 (zx6 W) hr))) (zam (zc0 (zca zde zaj (dv 2)))) zbd)
 (zam (zc0 (dv 2))))))))
theorem z5i (W:Wd K mg a) : qM P w K mg base a 3 "_law_variable" a.e_40 ["_law_state"] 0 zs3:=by
 refine W.e_40.pk (zd1 (F:=zoi) W.e_40.F z7t fun _ _ _ _ _ _ hr=>?_);unfold zoi;exact (zak (zbz 1 z7t.nd (z25 (DE.dx zaj) (za3 (zb5 W) hr (za6 0 (zae (zje (DE.dx (DO.de (zb7 (zai zag (zai zag zaw))))) @2) zal)))))
 (zam (zbr (zej zde (DE.dx (dv 1)) (za3 (zx4 W) hr (za6 0 (zae @2 (zae (zje (DE.dx (DO.de (zb7 (zai zag (zai zag zaw))))) @2) zal))))))))
theorem zx7 (W:Wd K mg a) : qM P w K mg base a 4 "_law_arg" a.e_38 ["_law_state"] 0 zph:=by
 refine W.e_38.pk (zd1 (F:=zog) W.e_38.F yjo fun _ _ _ _ _ _ hr=>?_);have hu:=hr.units;unfold zog;exact (zak (zfl (zgn (zcc hu) @2 (DE.dx zag)) (zam (zbr (za3 (z5i W) hr (za6 0 zal)))) zbd)
 (zam (zbr (za3 (zpq W) hr (za6 0 zal)))))
theorem ztz (W:Wd K mg a) : qM P w K mg base a 2 "_law_number" a.e_18 ["_law_state"] 0 zkv:=by
 refine W.e_18.pk (zd1 (F:=zn4) W.e_18.F zqa fun _ _ _ _ _ _ hr=>?_);have hu:=hr.units;unfold zn4;exact (zak (zbz 1 zqa.nd @2)
 (zak (zfl (zgn (zcc hu) @2 (DE.dx zag)) (zak (zhv PassesOwn.never rfl (zox rfl W.z_range (zai zag zaw)) (zfk 2 3 zqa.nd) (zam (zbz 1 zqa.nd (zej zde (DE.dx (zca zpn (dv 1) (zca zk4 zag zag))) (za3 (zb5 W) hr (za6 0 (zae (DE.dx (zca zk4 zag zag)) zal)))))))
 (zam (zbz 1 zqa.nd (zej zde (DE.dx (zca zpn (dv 1) (zca zk4 zag zag))) (za3 (zb5 W) hr (za6 0 (zae (DE.dx (zca zk4 zag zag)) zal))))))) zbd)
 (zak (zfl (zgn (zcc hu) @2 (DE.dx zag)) (zam (zc0 (zru (dv 1)))) zbd)
 (zam (zc0 (dv 1))))))
theorem zpr (W:Wd K mg a) : qM P w K mg base a 5 "_law_thing" a.e_23 ["_law_state"] 0 zkx:=by
 refine W.e_23.pk (zd1 (F:=zn7) W.e_23.F z7q fun _ _ _ _ _ _ hr=>?_);unfold zn7;exact (zak (zbz 1 z7q.nd (za3 (zpq W) hr (za6 0 zal)))
 (zam (zbr (zc5 (zae (DE.dx (dv 1)) (zae (zl6 1 [0] 0 0 ["_law_k","_law_state"] rfl (zl8 rfl W.z_range (zae (z23 (yan rfl) rfl W.z_max boot_max (zae (DE.dx zag) (zae (zej zty @2 (DE.dx zag)) zal))) zal)) (fun _ _ _ _ _=>(dgc 0 1)) (fun _ _ _ _ _=>(za3 (zx7 W) hr (zl3 1 zal)))) zal))))))
theorem yfz (W:Wd K mg a) : qM P w K mg base a 6 "_law_item" a.e_56 ["_law_state"] 0 zxk:=by
 refine W.e_56.pk (zd1 (F:=zom) W.e_56.F z72 fun _ _ _ _ _ _ hr=>?_);have hu:=hr.units;unfold zom;exact (zak (zbz 1 z72.nd (za3 (zpr W) hr (za6 0 zal)))
 (zak (zfl (zgn (zcc hu) @2 (DE.dx zag)) (zam (zc0 (zl0 (zai (dv 1) (zai zag zaw))))) zbd)
 (zam (zbr (zc5 (zae (DE.dx (dv 1)) (zae (z23 yam rfl W.z_abs boot_abs (zae (za3 (ztz W) hr (za6 0 zal)) zal)) zal)))))))
theorem z5m (W:Wd K mg a) : qM P w K mg base a 7 "_law_items" a.e_45 ["_law_state"] 0 zs7:=by
 refine W.e_45.pk (zd1 (F:=zok) W.e_45.F yjp fun _ _ _ _ _ _ hr=>?_);have hu:=hr.units;unfold zok;exact (zam (zbr (zl6 1 [0] 0 0 ["_law_k","_law_state"] rfl (zl8 rfl W.z_range (zae (zej zde (DE.dx zag) (za3 (zb5 W) hr (za6 0 (zae (zje (DE.dx (DO.de (zb7 (zai zag (zai zag zaw))))) (ybw rfl W.z_int (ybv (zcc hu) @2 (DE.dx zag)))) zal)))) zal)) (fun _ _ _ _ _=>(dgc 0 1)) (fun _ _ _ _ _=>(za3 (yfz W) hr (zl3 1 zal))))))
theorem zx5 (W:Wd K mg a) : qM P w K mg base a 4 "_law_pairs" a.e_26 ["_law_state","_law_many"] 0 zmr:=by
 refine W.e_26.pk (zd1 (F:=zn9) W.e_26.F zun fun _ _ _ _ _ _ hr=>?_);unfold zn9;exact (zak (zhw 2 zun.nd (zb7 zaw))
 (zak (zhv PassesOwn.never rfl (zox rfl W.z_range (zai (dv 1) zaw)) (zfk 3 5 zun.nd) (zak (zbz 4 zun.nd (za3 (z5i W) hr (za6 0 zal)))
 (zam (zkg (zer (zdt PySem.F.plainAttrs_list PySem.F.slot_list_append PySem.F.type_list_append zga (pv 2) (zbv (zc5 (zae (DE.dx (dv 4)) (zae (za3 (zpq W) hr (za6 0 zal)) zal))) zcd)))))))
 (zam (zgm 2 (zc0 (dv 2))))))
theorem z5f (W:Wd K mg a) : qM P w K mg base a 8 "_law_count" a.e_33 ["_law_state"] 0 zs0:=by
 refine W.e_33.pk (zd1 (F:=zod) W.e_33.F zup fun _ _ _ _ _ _ hr=>?_);unfold zod;exact (zak (zbz 1 zup.nd (zje (DE.dx (DO.de (zb7 (zai zaj (zai zaj zaw))))) @2))
 (zak (zbz 2 zup.nd (za3 (ztz W) hr (za6 0 zal)))
 (zak (zbz 3 zup.nd (za3 (z5m W) hr (za6 0 zal)))
 (zam (zbr (zc5 (zae (DE.dx (dv 1)) (zae (DE.dx (dv 2)) (zae (DE.dx (dv 3)) (zae (za3 (zx5 W) hr (za6 0 (zae @2 zal))) zal))))))))))
theorem yfx (W:Wd K mg a) : qM P w K mg base a 9 "_law_part" a.e_46 ["_law_state"] 0 zxj:=by
 refine W.e_46.pk (zd1 (F:=zol) W.e_46.F z0j fun _ _ _ _ _ _ hr=>?_);have hu:=hr.units;unfold zol;exact (zak (zbz 1 z0j.nd @2)
 (zak (zb2 (zb3 zk3 zlf (DE.db (dv 1)) (DE.db zag)) (zam (zbr (za3 (z5f W) hr (za6 0 zal)))) zbd)
 (zak (zb2 (zb3 (zcc hu) zda (DE.db (dv 1)) (DE.db zag)) (zak (zbz 2 z0j.nd (za3 (zx7 W) hr (za6 0 zal)))
 (zam (zbr (zc5 (zae (DE.dx zaj) (zae (DE.dx (dv 2)) (zae (za3 (zx7 W) hr (za6 0 zal)) zal))))))) zbd)
 (zam (zbr (zc5 (zae (DE.dx (zbx (DO.dc (zb7 (zai zaj (zai zaj zaw)))) (zca zty (dv 1) zag))) (zae (za3 (zpr W) hr (za6 0 zal)) zal))))))))
theorem yf1 (W:Wd K mg a) : qM P w K mg base a 10 "_law_body" a.e_59 ["_law_state"] 0 zxm:=by
 refine W.e_59.pk (zd1 (F:=zoo) W.e_59.F yjt fun _ _ _ _ _ _ hr=>?_);unfold zoo;exact (zam (zbr (zl6 1 [0] 0 0 ["_law_k","_law_state"] rfl (zl8 rfl W.z_range (zae @2 zal)) (fun _ _ _ _ _=>(dgc 0 1)) (fun _ _ _ _ _=>(za3 (yfx W) hr (zl3 1 zal))))))
theorem yfs (W:Wd K mg a) : qM P w K mg base a 11 "_law_row" a.e_21 ["_law_state"] 0 zsx:=by
 refine W.e_21.pk (zd1 (F:=zn6) W.e_21.F zh3 fun _ _ _ _ _ _ hr=>?_);have hu:=hr.units;unfold zn6;exact (zak (zbz 1 zh3.nd @2)
 (zak (zbz 2 zh3.nd (za3 (yf1 W) hr (za6 0 zal)))
 (zak (zbz 3 zh3.nd (za3 (zx5 W) hr (za6 0 (zae @2 zal))))
 (zak (zb2 (zb3 (zcc hu) zda (DE.db (dv 1)) (DE.db zag)) (zak (zbz 4 zh3.nd (za3 (zpq W) hr (za6 0 zal)))
 (zam (zbr (zc5 (zae (DE.dx zaj) (zae (DE.dx (dv 4)) (zae (zl6 1 [0] 0 0 ["_law_k","_law_state"] rfl (zl8 rfl W.z_range (zae (zej zde (DE.dx zag) @2) zal)) (fun _ _ _ _ _=>(dgc 0 1)) (fun _ _ _ _ _=>(za3 (zpq W) hr (zl3 1 zal)))) zal))))))) zbd)
 (zak (zb2 (zb3 zk3 zlf (DE.db (dv 1)) (DE.db zag)) (zak (zbz 5 zh3.nd (za3 (zb5 W) hr (za6 0 (zae (DE.dx (zca zde (zd0 zeu ze3 rfl W.z_len PySem.boot_len (zdo (DE.db (dv 2)) zdw)) zag)) zal))))
 (zak (zbz 6 zh3.nd (z26 (zae (za3 (z5f W) hr (za6 0 zal)) (zae (zc5 (zae (DE.dx zaj) (zae (za3 (zpr W) hr (za6 0 zal)) zal))) (zae (zc5 (zae (DE.dx zaj) (zae (za3 (zpr W) hr (za6 0 zal)) zal))) zal)))))
 (zam (zbr (zc5 (zae (DE.dx zaj) (zae (zej zde (zej zde (DE.dx (DO.de (by refine zwe ?a ?b ?c; (case a=>exact (dv 2)); (case b=>exact zke); (case c=>exact (zkf (dv 5)))))) (z26 (zae (zje (DE.dx (dv 6)) @2) zal))) (DE.dx (DO.de (by refine zwe ?a ?b ?c; (case a=>exact (dv 2)); (case b=>exact (zkf (dv 5))); (case c=>exact zke))))) (zae (DE.dx (dv 3)) zal)))))))) zbd)
 (zak (zb2 (zb3 zk3 zlf (DE.db (dv 1)) (DE.db zag)) (zak (zbz 7 zh3.nd (za3 (ztz W) hr (za6 0 zal)))
 (zak (zbz 8 zh3.nd (za3 (ztz W) hr (za6 0 zal)))
 (zak (zbz 6 zh3.nd (za3 (z5m W) hr (za6 0 zal)))
 (zam (zbr (zc5 (zae (DE.dx zaj) (zae (DE.dx (dv 7)) (zae (DE.dx (dv 8)) (zae (DE.dx (dv 6)) (zae (za3 (zx5 W) hr (za6 0 (zae @2 zal))) (zae (DE.dx (dv 2)) (zae (DE.dx (dv 3)) zal))))))))))))) zbd)
 (zam (zbr (zc5 (zae (DE.dx (zbx (DO.dc (zb7 (zai zaj (zai zaj zaw)))) (zca zin (dv 1) zag))) (zae (za3 (zpr W) hr (za6 0 zal)) (zae (DE.dx (dv 2)) (zae (DE.dx (dv 3)) zal)))))))))))))
theorem zx3 {a:Wa} (W:Wd K mg a) : ∀ j,qD P w K mg base a (1 + j) "_law_same" a.e_14 ["_law_found","_law_due"] (zft j)
 | 0=>W.e_14.pk (yce W.e_14.F z7m)
 | j + 1=>W.e_14.pk (zfb (F:=zn2 (zft j)) W.e_14.F z7m fun cdv A outer s H E hr=>have hu:=hr.units; by
  unfold zn2;exact (zak (zb2 (zei (DE.db (zic (T:="str") W.is_str rfl W.z_isinstance boot_str rfl W.z_str (DE.db (dv 1))))) (zam (ze9 (zj8 (zic (T:="str") W.is_str rfl W.z_isinstance boot_str rfl W.z_str (DE.db (dv 0))) (zka (zg8 (zcc hu) zda (DE.db (dv 0)) (DE.db (dv 1))))))) zbd)
  (zak (zb2 (zei (DE.db (zic (T:="int") W.is_int rfl W.z_isinstance boot_int rfl W.z_int (DE.db (dv 1))))) (zam (ze9 (zj8 (zic (T:="int") W.is_int rfl W.z_isinstance boot_int rfl W.z_int (DE.db (dv 0))) (zj8 (z2g (zic (T:="bool") W.is_bool rfl W.z_isinstance boot_bool rfl W.z_bool (DE.db (dv 0)))) (zka (zg8 (zcc hu) zda (DE.db (dv 0)) (DE.db (dv 1)))))))) zbd)
  (zak (zb2 (DW.dt (zr7 (zei (DE.db (zic (T:="tuple") W.is_tuple rfl W.z_isinstance boot_tuple rfl W.z_tuple (DE.db (dv 1))))) (zwf (zjd (zei (DE.db (zic (T:="tuple") W.is_tuple rfl W.z_isinstance boot_tuple rfl W.z_tuple (DE.db (dv 0))))))))) (zam (ze9 zg7)) zbd)
  (zak (zb2 (DW.dt (zr7 (zei (DE.db (zic (T:="list") W.is_list rfl W.z_isinstance boot_list rfl W.z_list (DE.db (dv 1))))) (zwf (zjd (zei (DE.db (zic (T:="list") W.is_list rfl W.z_isinstance boot_list rfl W.z_list (DE.db (dv 0))))))))) (zam (ze9 zg7)) zbd)
  (zak (zb2 (zb3 (zpo hu) z0m (DE.db (zd0 zeu ze3 rfl W.z_len PySem.boot_len (zdo (DE.db (dv 0)) zdw))) (DE.db (zd0 zeu ze3 rfl W.z_len PySem.boot_len (zdo (DE.db (dv 1)) zdw)))) (zam (ze9 zg7)) zbd)
  (zam (ze9 (zd0 (zrl rfl) zuv rfl W.z_all boot_all (zdo (DE.db (DO.de (zkd 1 [0,1] ["_law_k","_law_found","_law_due"] rfl (DI.de (zox rfl W.z_range (zai (zd0 zeu ze3 rfl W.z_len PySem.boot_len (zdo (DE.db (dv 1)) zdw)) zaw))) (fun _ _ _ _ _=>(dgc 0 1)) (fun _ _ _ _ _=>zl5) (fun _ _ _ _ _=>(zck (hk0:=Nat.le_refl _) (zx3 W j) hr (zai (zbx (zr6 1) (dvc 0)) (zai (zbx (zr6 2) (dvc 0)) zaw))))))) zdw))))))))))
theorem yfu (W:Wd K mg a) : qD P w K mg base a 1 "_law_seeds" a.e_36 ["_law_script","_law_many"] zxi:=by
 refine W.e_36.pk (zfb (F:=zof) W.e_36.F zqe fun _ _ _ _ _ _ hr=>?_);unfold zof;exact (zak (ybn 2 1 [] ["_law_k"] zqe.nd rfl (DI.de (zox rfl W.z_range (zai (dv 1) zaw))) (fun _ _ _ _ _=>(dgc 0 1)) (fun _ _ _ _ _=>zl5) (fun _ _ _ _ _=>(zca zde (zca zpn (dvc 0) zag) zag)))
 (zak (zhv PassesOwn.never rfl (z2t rfl W.z_enumerate (zai (dv 0) zaw)) (zr0 rfl (zjc (zfk 3 6 zqe.nd) (zjc (zfk 4 6 zqe.nd) zr1))) (zak (zev 5 zqe.nd (zca zde (zca zpn (zbx (dvC 2) (zca zin (dv 3) (dv 1))) zag) (zca zin (dv 4) (zca zk4 zag zag))))
 (zam (ybh (pv 2) (zca zin (dv 3) (dv 1)) (zca zin (zca zde (dv 5) (dv 3)) (zca zty (zca zk4 zag zag) zag))))))
 (zam (zoz 2))))
theorem zt0 (W:Wd K mg a) : qD P w K mg base a 1 "_law_thing_words" a.e_19 ["_law_thing_here"] zjo:=by
 refine W.e_19.pk (zfb (F:=zqx) W.e_19.F zqb fun _ _ _ _ _ _ hr=>?_);unfold zqx;exact (zak (zhw 1 zqb.nd (zb7 (zai (zbx (dvC 0) zag) zaw)))
 (zak (zhv PassesOwn.never rfl (z2t rfl W.z_enumerate (zai (zbx (dvC 0) zag) zaw)) (zr0 rfl (zjc (zfk 2 4 zqb.nd) (zjc (zfk 3 4 zqb.nd) zr1))) (zam (zki 1 zqb.nd (DE.dx (DO.de (zb7 (zai (zbx (DO.dc (zb7 (zai zaj (zai zaj zaw)))) (zv5 rfl W.z_int (zg8 zk2 zle (DE.db (dv 2)) (DE.db zag)))) (zai (dv 3) zaw))))))))
 (zak (zb2 (zb3 zk2 zle (DE.db (zd0 zeu ze3 rfl W.z_len PySem.boot_len (zdo (DE.db (zbx (dvC 0) zag)) zdw))) (DE.db zag)) (zam (zl4 (zer (zdt PySem.F.plainAttrs_list PySem.F.slot_list_append PySem.F.type_list_append zga (pv 1) (zbv zaj zcd))))) zbd)
 (zam (zoz 1)))))
theorem z5e (W:Wd K mg a) : qM P w K mg base a 2 "_law_items_words" a.e_29 ["_law_some","_law_state"] 1 zsz:=by
 refine W.e_29.pk (zd1 (F:=zoc) W.e_29.F zqd fun _ _ _ _ _ _ hr=>?_);have hu:=hr.units;unfold zoc;exact (zak (zhw 2 zqd.nd (zb7 zaw))
 (zak (zhv PassesOwn.never rfl (zg9 (dv 0)) (zr0 rfl (zjc (zfk 3 5 zqd.nd) (zjc (zfk 4 5 zqd.nd) zr1))) (zak (zb2 (zb3 zk2 zle (DE.db (zd0 zeu ze3 rfl W.z_len PySem.boot_len (zdo (dvB 2) zdw))) (DE.db zag)) (zam (zl4 (zer (zdt PySem.F.plainAttrs_list PySem.F.slot_list_append PySem.F.type_list_append zga (pv 2) (zbv zaj zcd))))) zbd)
 (zak (zfl (DWX.dtx (ybu (DT.dtx (zb3 (zpo hu) z0m (DE.db (dv 4)) (DE.db zag))) (ybt (zgn (zcc hu) (za3 (zb5 W) hr (za6 1 @3)) (DE.dx zag))))) (zam (zl4 (zer (zdt PySem.F.plainAttrs_list PySem.F.slot_list_append PySem.F.type_list_append zga (pv 2) (zbv (zrw rfl W.z_str (dv 4)) zcd))))) zbd)
 (zam (zki 2 zqd.nd (DE.dx (zck (zt0 W) hr (zai (dv 3) zaw))))))))
 (zam (zgm 2 (zc0 (dv 2))))))
theorem zt1 (W:Wd K mg a) : qD P w K mg base a 1 "_law_pairs_words" a.e_24 ["_law_opening","_law_pairs_here"] zmp:=by
 refine W.e_24.pk (zfb (F:=zqz) W.e_24.F zqc fun _ _ _ _ _ _ hr=>?_);unfold zqz;exact (zak (zhw 2 zqc.nd (zb7 zaw))
 (zak (zhv PassesOwn.never rfl (zg9 (dv 1)) (zr0 rfl (zjc (zfk 3 5 zqc.nd) (zjc (zfk 4 5 zqc.nd) zr1))) (zam (zki 2 zqc.nd (DE.dx (DO.de (zb7 (zai (zbx (DO.dc (zb7 (zai (dv 0) (zai zaj zaw)))) (zv5 rfl W.z_int (zg8 zk2 zle (DE.db (zd0 zeu ze3 rfl W.z_len PySem.boot_len (zdo (dvB 2) zdw))) (DE.db zag)))) (zai (dv 3) (zai zaj (zai (dv 4) zaw))))))))))
 (zam (zoz 2))))
theorem yf0 (W:Wd K mg a) : qM P w K mg base a 3 "_law_part_words" a.e_57 ["_law_part_here","_law_state"] 1 zxl:=by
 refine W.e_57.pk (zd1 (F:=zon) W.e_57.F z73 fun _ _ _ _ _ _ hr=>?_);have hu:=hr.units;unfold zon;exact (zak (zb2 (zb3 (zcc hu) zda (DE.db (zbx (dvC 0) zag)) (DE.db zaj)) (zam (zc0 (DO.de (zb7 (zai (zbx (dvC 0) zag) (zai zaj (zai (zbx (dvC 0) zag) zaw))))))) zbd)
 (zak (zb2 (zb3 (zcc hu) zda (DE.db (zbx (dvC 0) zag)) (DE.db zaj)) (zam (zc0 (zck (zt0 W) hr (zai (zbx (dvC 0) zag) zaw)))) zbd)
 (zak (zb2 (zb3 (zcc hu) zda (DE.db (zbx (dvC 0) zag)) (DE.db zaj)) (zam (zc0 (DO.de (zoy (DO.de (zb7 (zai zaj zaw))) (zck (zt0 W) hr (zai (zbx (dvC 0) zag) zaw)))))) zbd)
 (zak (zbz 2 z73.nd (zej zde (DE.dx (DO.de (zb7 (zai (zbx (dvC 0) zag) (zai (zrw rfl W.z_str (zbx (dvC 0) zag)) (zai zaj zaw)))))) (zo2 (z5e W) hr (zid (DE.dx (zbx (dvC 0) zag)) (zkc 1)))))
 (zam (zc0 (zca zde (dv 2) (zck (zt1 W) hr (zai zaj (zai (zbx (dvC 0) zag) zaw))))))))))
theorem z5g (W:Wd K mg a) : qM P w K mg base a 4 "_law_body_words" a.e_34 ["_law_opening","_law_body_here","_law_state"] 2 zs1:=by
 refine W.e_34.pk (zd1 (F:=zoe) W.e_34.F zuq fun _ _ _ _ _ _ hr=>?_);unfold zoe;exact (zak (zhw 3 zuq.nd (zb7 zaw))
 (zak (zhv PassesOwn.never rfl (zg9 (dv 1)) (zfk 4 5 zuq.nd) (zak (zl4 (zer (zdt PySem.F.plainAttrs_list PySem.F.slot_list_append PySem.F.type_list_append zga (pv 3) (zbv (zbx (DO.dc (zb7 (zai (dv 0) (zai zaj zaw)))) (zv5 rfl W.z_int (zg8 zk2 zle (DE.db (zd0 zeu ze3 rfl W.z_len PySem.boot_len (zdo (dvB 3) zdw))) (DE.db zag)))) zcd))))
 (zam (zki 3 zuq.nd (zo2 (yf0 W) hr (zid (DE.dx (dv 4)) (zkc 2)))))))
 (zam (zgm 3 (zc0 (dv 3))))))
theorem yfv (W:Wd K mg a) : qM P w K mg base a 5 "_law_words" a.e_39 ["_law_row_here","_law_state"] 1 zs2:=by
 refine W.e_39.pk (zd1 (F:=zoh) W.e_39.F zur fun _ _ _ _ _ _ hr=>?_);have hu:=hr.units;unfold zoh;exact (zak (zb2 (zb3 (zcc hu) zda (DE.db (zbx (dvC 0) zag)) (DE.db zaj)) (zam (zc0 (DO.de (zoy (DO.de (zb7 (zai zaj (zai (zbx (dvC 0) zag) zaw)))) (zbx (dvC 0) zag))))) zbd)
 (zak (zb2 (zb3 (zcc hu) zda (DE.db (zbx (dvC 0) zag)) (DE.db zaj)) (zam (zbr (zej zde (zo2 (z5g W) hr (zid (DE.dx zaj) (zid (DE.dx (zbx (dvC 0) zag)) (zkc 1)))) (DE.dx (zck (zt1 W) hr (zai zaj (zai (zbx (dvC 0) zag) zaw))))))) zbd)
 (zak (zb2 (zb3 (zcc hu) zda (DE.db (zbx (dvC 0) zag)) (DE.db zaj)) (zak (ybm 2 zur.nd (DE.dx (DO.de (zb7 (zai zaj (zai (zrw rfl W.z_str (zbx (dvC 0) zag)) (zai zaj (zai (zrw rfl W.z_str (zbx (dvC 0) zag)) (zai zaj zaw)))))))) (zo2 (z5e W) hr (zid (DE.dx (zbx (dvC 0) zag)) (zkc 1))))
 (zam (zki 2 zur.nd (DE.dx (zck (zt1 W) hr (zai zaj (zai (zbx (dvC 0) zag) zaw))))))) (zam (zhw 2 zur.nd (zoy (DO.de (zb7 (zai (zbx (dvC 0) zag) zaw))) (zck (zt0 W) hr (zai (zbx (dvC 0) zag) zaw))))))
 (zam (zgm 2 (zbr (zej zde (zej zde (DE.dx (dv 2)) (zo2 (z5g W) hr (zid (DE.dx zaj) (zid (DE.dx (zbx (dvC 0) (zru zag))) (zkc 1))))) (DE.dx (zck (zt1 W) hr (zai zaj (zai (zbx (dvC 0) (zru zag)) zaw)))))))))))
theorem yf3 (W:Wd K mg a) : qD P w K mg base a 18 "law" a.e_9 ["_law_script"] m_9:=by
 refine W.e_9.pk (zfb (F:=b_9) W.e_9.F zge fun _ _ _ _ _ _ hr=>?_);have hu:=hr.units;unfold b_9;exact (zak (zev 1 zge.nd zag)
 (zak (zb2 (zb3 zk2 zle (DE.db (zd0 zeu ze3 rfl W.z_len PySem.boot_len (zdo (DE.db (dv 0)) zdw))) (DE.db zag)) (zam (zev 1 zge.nd (zca zin (zbx (dvC 0) zag) zag))) zbd)
 (zak (zev 2 zge.nd (zck (yfu W) hr (zai (dv 0) (zai (zca zde (dv 1) zag) zaw))))
 (zak (zhw 3 zge.nd (zb7 (zai (zbx (dvC 2) zag) zaw)))
 (zak (zhw 4 zge.nd (zb7 zaw))
 (zak (zhw 5 zge.nd (zb7 zaw))
 (zak (zhv PassesOwn.never rfl (zg9 (DO.de (by refine zwe ?a ?b ?c; (case a=>exact (dv 2)); (case b=>exact (zkf zag)); (case c=>exact zke)))) (zfk 6 10 zge.nd) (zak (zev 7 zge.nd (ya5 (yfs W) hr (zai (dv 6) zaw)))
 (zak (zl4 (zer (zdt PySem.F.plainAttrs_list PySem.F.slot_list_append PySem.F.type_list_append zga (pv 4) (zbv (dv 7) zcd))))
 (zak (zki 5 zge.nd (z22 (zl6 1 [3] 3 0 ["_law_k","_law_state"] rfl (zl8 rfl W.z_range (zae (za3 (zb5 W) hr (za6 3 @3)) zal)) (fun _ _ _ _ _=>(dgc 0 1)) (fun _ _ _ _ _=>(zej ztx (DE.dx zaj) (za3 (zb5 W) hr (zl3 1 @3)))))))
 (zam (zkg (zer (zdt PySem.F.plainAttrs_list PySem.F.slot_list_append PySem.F.type_list_append zga (pv 5) (zbv (z24 (yft W) hr (zid (z24 (yfv W) hr (zid (DE.dx (dv 7)) (zkc 3))) (zkc 3))) zcd)))))))))
 (zak (zki 5 zge.nd (z22 (zl6 1 [3] 3 0 ["_law_k","_law_state"] rfl (zl8 rfl W.z_range (zae (za3 (zb5 W) hr (za6 3 @3)) zal)) (fun _ _ _ _ _=>(dgc 0 1)) (fun _ _ _ _ _=>(zej ztx (DE.dx zaj) (za3 (zb5 W) hr (zl3 1 @3)))))))
 (zak (zev 8 zge.nd (yba (zdt PySem.F.plainAttrs_str PySem.F.slot_str_join PySem.F.type_str_join z4s zaj (zbv (dvB 5) zcd))))
 (zak (zhw 9 zge.nd (ybf (yfh W) hr (zai (dv 8) zaw)))
 (zak (zgm 4 (zb2 (zjd (zei (DE.db (ya6 (zx3 W 9) hr (zdo (dvB 9) (zdo (DE.db (dv 4)) zdw)))))) (zam (ze9 zg7)) zbd))
 (zak (zl4 (zer (zdt PySem.F.plainAttrs_list PySem.F.slot_list_append PySem.F.type_list_append zga (pv 9) (zbv zaj zcd))))
 (zak (zfl (zgn (zcc hu) (zwg (zb5 W) hr (za6 3 @3)) (DE.dx zag)) (zak (ybg (zer (zdt PySem.F.plainAttrs_list PySem.F.slot_list_insert PySem.F.type_list_insert yet (pv 5) (DAX.pa (zae (zwg (zb5 W) hr (za6 3 (zae (DE.dx (zca zde (zd0 zeu ze3 rfl W.z_len PySem.boot_len (zdo (dvB 5) zdw)) zag)) zal))) (zae (zwg (yfw W) hr (za6 3 zal)) zal))))))
 (zam (zgm 5 (zb2 (zjd (zei (DE.db (zck (yfy W) hr (zai (ybb (zdt PySem.F.plainAttrs_str PySem.F.slot_str_join PySem.F.type_str_join z4s zaj (zbv (dv 5) zcd))) zaw))))) (zam (ze9 zg7)) zbd)))) zbd)
 (zam (zgm 4 (ze9 (zck (zx3 W 9) hr (zai (zck (yfr W) hr (zai (dv 8) zaw)) (zai (dv 4) zaw)))))))))))))))))))
local macro_rules | `(tactic| walk_at "evS")=>`(tactic| first | decide | omega | assumption | exact ⟨by decide,by decide⟩ | exact ⟨by omega,by omega⟩ | exact .inl ⟨by decide,by decide⟩ | exact .inr ⟨by decide,by decide⟩ | exact .inl ⟨by omega,by omega⟩ | exact .inr ⟨by omega,by omega⟩ | exact ⟨by decide,by decide,by decide⟩)
local macro_rules | `(tactic| walk_at "evO")=>`(tactic| first | with_reducible exact zfh | with_reducible exact zrs | with_reducible exact zi6 | with_reducible exact zlv | with_reducible exact zv3 | with_reducible exact dGe_eq | with_reducible exact ze8 _ _ | with_reducible exact zou _ _ | ((with_reducible apply zia); (focus walk_at "evS")) | ((with_reducible apply z19); (focus walk_at "evS")) | ((with_reducible apply dMul_eq); (focus walk_at "evS")) | ((with_reducible apply zly); (focus first | assumption | exact .inl (by walk_at "evS") | exact .inr ⟨by omega,by omega⟩)) | ((with_reducible apply zi9); (focus walk_at "evS")) | ((with_reducible apply dShr_eq); (focus walk_at "evS")) | with_reducible exact zv2 _ _ | with_reducible exact z2a _ _ | with_reducible exact dEq_bl _ _ | with_reducible exact dAndB_eq | exact dEq_nil _ _ | exact dNe_nil _ _ | assumption | rfl)
local macro_rules | `(tactic| walk_at "ev")=>`(tactic| first
 | with_reducible assumption
 | ((with_reducible apply zas); (focus walk_at "ev"); (focus walk_at "ev"); (focus walk_at "evO"))
 | ((with_reducible apply zba); (focus walk_at "ev"))
 | ((with_reducible apply zf7); (focus walk_at "ev"); (focus first | assumption | rfl))
 | ((with_reducible apply zxf); (focus walk_at "ev"); (focus walk_at "ev"))
 | ((with_reducible apply mOr_eq); (focus walk_at "ev"); (focus walk_at "ev"))
 | ((with_reducible apply zkr); (focus walk_at "ev"))
 | ((with_reducible apply zj2); (focus walk_at "ev"); (focus walk_at "ev"))
 | ((with_reducible apply z86); (focus walk_at "ev"); (focus walk_at "ev"))
 | ((with_reducible apply z85); (focus walk_at "ev"))
 | ((with_reducible apply zaz); (focus walk_at "ev"); (focus walk_at "ev"))
 | ((with_reducible apply tup_eq); (focus walk_at "ev"))
 | ((with_reducible apply zjj); (focus walk_at "ev"))
 | ((with_reducible apply zbi); (focus walk_at "ev"); (focus first | with_reducible assumption | with_reducible exact zji _ _ | assumption | exact zji _ _ | exact z4j _ _ | rfl))
 | ((with_reducible apply z10); (focus walk_at "ev"); (focus assumption); (focus rfl))
 | ((with_reducible apply zbf); (focus walk_at "ev"); (focus walk_at "ev"); (focus first | assumption | rfl))
 | ((with_reducible apply sl_kl); (focus walk_at "ev"); (focus rfl); (focus rfl))
 | ((with_reducible apply zu1); (focus walk_at "ev"); (focus rfl); (focus rfl))
 | ((with_reducible apply zne); (focus walk_at "ev"); (focus rfl))
 | rfl)
local macro_rules | `(tactic| walk_at "nrm")=>`(tactic| simp only [z4d,set_cons_succ,set_cons_zero])
local macro_rules | `(tactic| walk_at "set")=>`(tactic| (apply zaf; (first | with_reducible apply ze4 | with_reducible apply zgy); (focus walk_at "ev"); walk_at "nrm"))
local macro_rules | `(tactic| walk_at "if0")=>`(tactic| ((with_reducible first | apply za2 | apply zgx); (focus walk_at "ev")))
open PySem.Builtin PySem.Builtin.Str
noncomputable abbrev tx (l:LN) : Str:=⟨l.toArray⟩
theorem zc3 (l:LN) : (tx l).length=l.length:=by show l.toArray.size=_; simp
theorem znq (a b:LN) : tx a++tx b=tx (a++b):=by
 apply Str.ext';rw [Str.cps_append];simp
theorem ziy (z:Str) : tx z.cps.toList=z:=by
 apply Str.ext';simp
theorem zhn {a b:LN} (h:tx a=tx b) : a=b:=by
 have:=congrArg (fun z:Str=>z.cps.toList) h
 simpa using this
variable {ρ:LS} {d:D}
theorem zap {f:MF1} (h:f ρ=some d) : mX f ρ=some (d,ρ):=by
 unfold mX;rw [h];rfl
variable {f:Xe} {ρ1 ρ2:LS} {x:D}
theorem zb0 {m:D->D->OD} {g:Xe} {y:D} (h1:f ρ=some (x,ρ1)) (h2:g ρ1=some (y,ρ2)) (h3:m x y=some d) : mX2 m f g ρ=some (d,ρ2):=by
 unfold mX2;rw [h1,bind_some,h2,bind_some,h3];rfl
variable {ds:LD}
theorem zaq {g:Xa} (h1:f ρ=some (d,ρ1)) (h2:g ρ1=some (ds,ρ2)) : zad f g ρ=some (d::ds,ρ2):=by
 unfold zad;rw [h1,bind_some,h2];rfl
variable {f:Xa}
theorem yi4 {as:LD} (h1:f ρ=some (as,ρ1)) (h2:zjx as=some ds) : zfr f ρ=some (ds,ρ1):=by
 unfold zfr;rw [h1,bind_some,h2];rfl
variable {i:Nat} {m:Addr->LD->LD->LD->Option (LD×D)} {l l0:Addr} {xs0 xs ys:LD}
theorem zg3 (h0:ρ[i]?=some (.pin l0 xs0)) (h1:f ρ=some (ds,ρ1)) (h2:ρ1[i]?=some (.pin l xs)) (h3:m l [] ds xs=some (ys,d)) : zat i m f ρ=some (d,ρ1.set i (.pin l ys)):=by
 unfold zat;rw [h0];show (f ρ).bind _=_;rw [h1,bind_some];dsimp only;rw [h2];show (m l [] ds xs).map _=_;rw [h3];rfl
open Classical in
theorem zvt (h0:ρ[i]?=some (.own xs0)) (h1:f ρ=some (ds,ρ1)) (h2:ρ1[i]?=some (.own xs)) (h3:∀ l,m l [] ds xs=some (ys,d)) : zf5 i m f ρ=some (d,ρ1.set i (.own ys)):=by
 unfold zf5;rw [h0];show (f ρ).bind _=_;rw [h1,bind_some];dsimp only;rw [h2];show (if h:∃ q,∀ l,m l [] ds xs=some q then _ else none)=_;rw [dif_pos ⟨(ys,d),h3⟩]
 have e : (⟨(ys,d),h3⟩ : ∃ q,∀ l,m l [] ds xs=some q).choose=(ys,d):=by
  have:=(⟨(ys,d),h3⟩ : ∃ q,∀ l,m l [] ds xs=some q).choose_spec 0;rw [h3 0] at this;exact Option.some.inj this.symm
 rw [e]
variable {f:Xe} {K:Fl->Prop}
theorem zbw (h:f ρ=some (d,ρ1)) (k:K (.nx (ρ1.set i (.im d)))) : wp (zbk i f) ρ K:=⟨_,by unfold zbk; rw [h]; rfl,k⟩
theorem zbo (h:f ρ=some (d,ρ1)) (k:K (.rtS d ρ1)) : wp (zbj f) ρ K:=⟨_,by unfold zbj; rw [h]; rfl,k⟩
theorem z9g {z:D} (h0:ρ[i]?=some (.im x)) (h:f ρ=some (d,ρ1)) (h2:zi5 x d=some z) (k:K (.nx (ρ1.set i (.im z)))) : wp (zmh i f) ρ K:=⟨_,by
 unfold zmh;rw [h0];show (f ρ).bind _=_;rw [h,bind_some,h2];rfl,k⟩
variable {t:Xt} {b:Bool}
theorem zeb {F F':MF3} (h:t ρ=some (b,ρ1)) (kT:b=true->wp F ρ1 K) (kF:b=false->wp F' ρ1 K) : wp (zdr t F F') ρ K:=by
 unfold wp zdr;rw [h]
 cases b with
 | true=>exact kT rfl
 | false=>exact kF rfl
noncomputable def nx (s:Int) : Int:=(s * 1181783497276652981 + 12345678910987) % (2 ^ 61 - 1)
def okS (s:Int) : Prop:=0<=s/\s < 2305843009213693951
theorem zbh (s:Int) : okS (nx s):=by
 have h1:=Int.emod_nonneg (s * 1181783497276652981 + 12345678910987) (show (2 ^ 61 - 1 : Int)≠0 by decide);have h2:=Int.emod_lt_of_pos (s * 1181783497276652981 + 12345678910987) (show (0 : Int) < 2 ^ 61 - 1 by decide);unfold okS nx;omega
noncomputable def dr (s k:Int) : Int:=nx s / 65537 % k
variable {k:Int}
theorem zbm (s:Int) (h:0 < k) : 0<=dr s k/\dr s k < k:=⟨Int.emod_nonneg _ (by omega),Int.emod_lt_of_pos _ h⟩
theorem zim (l:Addr) (s k:Int) (h:okS s) (hk:0 < k) : m_0 l [] [.int k] [.int s]=some ([.int (nx s)],.int (dr s k)):=by
 obtain ⟨h0,h1⟩:=h
 have w : wp b_0 [.pin l [.int s],.im (.int k)] (fun o=>o=.rtS (.int (dr s k)) [.pin l [.int (nx s)],.im (.int k)]):=by
  unfold b_0;apply zaf;have hg : ziz s 1181783497276652981:=.inr ⟨by omega,by decide⟩;refine yl0 (d:=.int (nx s)) (k:=0) (xs:=[.int s]) ?_ rfl rfl (by decide) (by show (0 : Int) < 1; decide) ?_
  ·exact zas (zas (zas rfl rfl (zly hg)) rfl zfh) (zas (zas rfl rfl (zi9 (by decide))) rfl zrs) (zia (by decide))
  ·exact zc4 (zas (zas rfl rfl (z19 (by have:=zbh s; unfold okS at this; walk_at "evS"))) rfl (zia hk)) rfl
 obtain ⟨o,e,rfl⟩:=w;exact zd4 (ρ:=[.pin l [.int (nx s)],.im (.int k)]) e rfl
noncomputable def smL : LN:=("abcdefghijklmnopqrstuvwxyz" : Str).cps.toList
theorem z0r : smL.length=26:=by decide +kernel
theorem smT : ("abcdefghijklmnopqrstuvwxyz" : Str)=tx smL:=(ziy _).symm
noncomputable def stp (sp:Int) (p:Int×LN) : Int×LN:=(nx p.1,p.2++[smL.getD (dr p.1 sp).toNat 0])
noncomputable def its (sp:Int) : Nat->Int×LN->Int×LN
 | 0,p=>p
 | n + 1,p=>stp sp (its sp n p)
theorem zw4 (sp:Int) (p:Int×LN) (h:okS p.1) : ∀ n,okS (its sp n p).1/\(its sp n p).2.length=p.2.length + n
 | 0=>⟨h,rfl⟩
 | n + 1=>by
  obtain ⟨a,c⟩:=zw4 sp p h n;refine ⟨zbh _,?_⟩;show ((its sp n p).2++[_]).length=_;rw [length_append,c];rfl
theorem zv0 (a b:LN) (h:a.length + b.length<=2000) : zcb (.str (tx a)) (.str (tx b))=some (.str (tx (a++b))):=by
 show (if (tx a).length + (tx b).length<=16777216 then some (D.str (tx a++tx b)) else none)=_;rw [zc3,zc3,if_pos (by omega),znq]
theorem z36 (sg:LN) (v:Int) (h:0<=v/\v < (sg.length : Nat)) (h1:sg.length<=1000) : zlx (.str (tx sg)) (.int v)=some (.str (tx [sg.getD v.toNat 0])):=by
 show (if 0<=v/\v < 2 ^ 63/\v < ((tx sg).length : Int) then ((tx sg).cps[v.toNat]?).map (fun ch=>D.str ⟨#[ch]⟩) else none)=_;rw [if_pos ⟨h.1,by omega,by rw [zc3]; exact h.2⟩];show ((sg.toArray)[v.toNat]?).map _=_;have hl : v.toNat < sg.length:=by omega
 rw [List.getElem?_toArray,List.getElem?_eq_getElem hl,getD_eq_getElem?_getD,List.getElem?_eq_getElem hl];rfl
theorem zp1 (v:Int) (a:0<=v) (b:v<=500) : zjx [D.int v]=some ((List.range v.toNat).map fun (i:Nat)=>D.int i):=by
 show (if -(2 ^ 62)<=v/\v < 2 ^ 62 then some (rng 0 v.toNat) else none)=_;rw [if_pos ⟨by omega,by omega⟩,yi5];simp
noncomputable def smP (n sp s:Int) : Int×LN:=its sp n.toNat (s,[])
theorem znf (n sp s:Int) (h:okS s) (hn:0<=n) : okS (smP n sp s).1/\((smP n sp s).2.length : Int)=n:=by
 obtain ⟨a,c⟩:=zw4 sp (s,[]) h n.toNat;refine ⟨a,?_⟩;unfold smP;rw [c];simp only [length_nil];omega
theorem yka (l:Addr) (s n sp:Int) (h:okS s) (hn:0<=n/\n<=500) (hs:0 < sp/\sp<=26) : zmq l [] [.int n,.int sp] [.int s]=some ([.int (smP n sp s).1],.str (tx (smP n sp s).2)):=by
 have rk:=zw4 sp (s,[]) h
 have w : wp zn8 [.pin l [.int s],.im (.int n),.im (.int sp),.no,.no] (fun o=>∃ a,o=.rtS (.str (tx (smP n sp s).2)) [.pin l [.int (smP n sp s).1],.im (.int n),.im (.int sp),.im (.str (tx (smP n sp s).2)),a]):=by
  unfold zn8;apply zaf;refine ze4 (d:=.str (tx [])) rfl ?_;show wp _ [.pin l [.int s],.im (.int n),.im (.int sp),.im (.str (tx [])),.no] _;apply zaf;refine zh5 (List.range n.toNat) (fun (i:Nat)=>D.int i) (fun pre ρ=>∃ a,ρ=[.pin l [.int (its sp pre.length (s,[])).1],.im (.int n),.im (.int sp),.im (.str (tx (its sp pre.length (s,[])).2)),a]) ?_ ⟨_,rfl⟩ ?_ ?_
  ·have ef : zac (zab 1) nZ [.pin l [.int s],.im (.int n),.im (.int sp),.im (.str (tx [])),.no]=some [.int n]:=rfl;unfold zfq;rw [ef,bind_some,zp1 n hn.1 hn.2]
  ·rintro pre x post ρ he ⟨a,rfl⟩;refine ⟨_,rfl,?_⟩;show wp _ [.pin l [.int (its sp pre.length (s,[])).1],.im (.int n),.im (.int sp),.im (.str (tx (its sp pre.length (s,[])).2)),.im (.int x)] _;obtain ⟨k1,k3⟩:=rk pre.length
   have hpre : pre.length < n.toNat:=by
    have:=congrArg List.length he;rw [length_range,length_append,length_cons] at this;omega
   generalize hp : its sp pre.length (s,[])=p at k1 k3;have dk:=zbm p.1 (k:=sp) hs.1;have ec : zat 0 m_0 (zad (mX (zab 2)) zaa) [.pin l [.int p.1],.im (.int n),.im (.int sp),.im (.str (tx p.2)),.im (.int x)]=some (.int (dr p.1 sp),[.pin l [.int (nx p.1)],.im (.int n),.im (.int sp),.im (.str (tx p.2)),.im (.int x)]):=zg3 (i:=0) (ρ1:=[.pin l [.int p.1],.im (.int n),.im (.int sp),.im (.str (tx p.2)),.im (.int x)]) rfl (zaq (zap rfl) rfl) rfl (zim l p.1 sp k1 hs.1);refine z9g (x:=.str (tx p.2)) (d:=.str (tx [smL.getD (dr p.1 sp).toNat 0])) (z:=.str (tx (stp sp p).2)) rfl (zb0 (zap (d:=.str (tx smL)) (by rw [smT])) ec (z36 smL _ (by rw [z0r]; omega) (by rw [z0r]; decide))) ?_ ?_
   ·show (if (tx p.2).length + (tx [_]).length<=16777216 then some (D.str (tx p.2++tx [_])) else none)=_;rw [zc3,zc3,if_pos (by rw [k3]; simp only [length_nil,length_cons]; omega),znq];rfl
   ·refine ⟨.im (.int x),?_⟩;rw [length_append,show ([x] : LN).length=1 from rfl];show _=[Sl.pin l [.int (stp sp (its sp pre.length (s,[]))).1],.im (.int n),.im (.int sp),.im (.str (tx (stp sp (its sp pre.length (s,[]))).2)),.im (.int x)];rw [hp];rfl
  ·rintro ρ ⟨a,rfl⟩;rw [length_range];exact zc4 rfl ⟨a,rfl⟩
 obtain ⟨o,e,a,rfl⟩:=w;exact zd4 (ρ:=[.pin l [.int (smP n sp s).1],.im (.int n),.im (.int sp),.im (.str (tx (smP n sp s).2)),a]) e rfl
theorem zc7 (l:Addr) (s k:Int) (r:LS) {f:MF1} (hf:f (.pin l [.int s]::r)=some (.int k)) (h:okS s) (hk:0 < k) : zat 0 m_0 (zad (mX f) zaa) (.pin l [.int s]::r)=some (.int (dr s k),.pin l [.int (nx s)]::r):=zg3 (i:=0) (ρ1:=.pin l [.int s]::r) rfl (zaq (zap hf) rfl) rfl (zim l s k h hk)
noncomputable def itP {α : Type} (F:Int->Int×α) : Nat->Int->Int×List α
 | 0,s=>(s,[])
 | n + 1,s=>((itP F n (F s).1).1,(F s).2::(itP F n (F s).1).2)
theorem zgo {α : Type} {F:Int->Int×α} (hF:∀ s,okS (F s).1) : ∀ n s,okS s->okS (itP F n s).1/\(itP F n s).2.length=n
 | 0,s,h=>⟨h,rfl⟩
 | n + 1,s,_=>⟨(zgo hF n _ (hF s)).1,by show (_::(itP F n (F s).1).2).length=_; rw [length_cons,(zgo hF n _ (hF s)).2]⟩
theorem zii {α : Type} {F:Int->Int×α} {P:α->Prop} (hP:∀ s,P (F s).2) : ∀ n s,∀ x∈(itP F n s).2,P x
 | 0,_,x,h=>(not_mem_nil h).elim
 | n + 1,s,x,h=>by
  rcases mem_cons.mp (show x∈(F s).2::(itP F n (F s).1).2 from h) with e | e
  ·rw [e]; exact hP s
  ·exact zii hP n _ x e
variable {α:Type} {F:Int->Int×α} {tl:LS} {s0:Sl}
section
variable {toD:α->D}
theorem ylf (hm:∀ s,okS s->m l [] [] [.int s]=some ([.int (F s).1],toD (F s).2)) (d:D) (s:Int) (h:okS s) : zix 1 [0] 0 0 (zbe 0) (zat 1 m zaa) (s0::tl) l d [.int s]=some (toD (F s).2,[.int (F s).1]):=by
 have ec : zat 1 m zaa [.im d,.pin l [.int s]]=some (toD (F s).2,[.im d,.pin l [.int (F s).1]]):=zg3 (i:=1) (ρ1:=[.im d,.pin l [.int s]]) rfl rfl rfl (hm s h);unfold zix;show (some [Sl.im d,Sl.pin l [.int s]]).bind (fun ρ1=>_)=_;rw [bind_some,ec,bind_some];refine if_pos fun i hi=>?_
 cases i with
 | zero=>cases hi
 | succ i=>rfl
end
section
variable {toD:α->D}
theorem z4q (hm:∀ s,okS s->m l [] [] [.int s]=some ([.int (F s).1],toD (F s).2)) (hF:∀ s,okS (F s).1) : ∀ (ds:LD) (s:Int),okS s->zfc 1 [0] 0 0 (zbe 0) (zat 1 m zaa) (s0::tl) l ds [.int s]=some ((itP F ds.length s).2.map toD,[.int (itP F ds.length s).1])
 | [],s,_=>rfl
 | d::ds,s,h=>by
  unfold zfc;rw [ylf hm d s h,bind_some,z4q hm hF ds (F s).1 (hF s)];rfl
end
variable {s:Int}
section
variable {toD:α->D}
theorem zro (hm:∀ s,okS s->m l [] [] [.int s]=some ([.int (F s).1],toD (F s).2)) (hF:∀ s,okS (F s).1) {fi:Xa} (h:okS s) (hi:fi ρ=some (ds,.pin l [.int s]::tl)) (hz:ds.length<=1000) :
  ze0 1 [0] 0 0 fi (zbe 0) (zat 1 m zaa) ρ=some (.lst ((itP F ds.length s).2.map toD),.pin l [.int (itP F ds.length s).1]::tl):=by
 unfold ze0;rw [hi,bind_some];show (if ds.length<=16777216/\([0] : LN)[0]?=some 0/\(([0] : LN).all fun j=>j==0 || ((((Sl.pin l [.int s]::tl) : LS)[j]?).getD .no).calm)=true then (zfc 1 [0] 0 0 (zbe 0) (zat 1 m zaa) (.pin l [.int s]::tl) l ds [.int s]).map fun q=>(D.lst q.1,((Sl.pin l [.int s]::tl) : LS).set 0 (.pin l q.2)) else none)=_;rw [if_pos ⟨by omega,rfl,rfl⟩,z4q hm hF ds s h];rfl
end
noncomputable def grL : LN:=("ABCDEFGHIJKLMNOPQRSTUVWXYZ" : Str).cps.toList
theorem grT : ("ABCDEFGHIJKLMNOPQRSTUVWXYZ" : Str)=tx grL:=(ziy _).symm
theorem zwr : grL.length=26:=by decide +kernel
noncomputable def kpS : LSt:=["kind","rule","may","choose","never","if","and","not","unlike","least","most","of","to","over","in","for"]
noncomputable def kpW : L2N:=kpS.map fun z=>z.cps.toList
noncomputable def kept (w:LN) : Bool:=kpW.any fun k=>k==w
theorem kpD : kpS.map D.str=kpW.map fun w=>D.str (tx w):=by
 unfold kpW;rw [map_map];refine map_congr_left fun z _=>?_;show D.str z=D.str (tx z.cps.toList);rw [ziy]
theorem z4h : zmw []=some (.lst (kpW.map fun w=>D.str (tx w))):=by
 rw [<- kpD];rfl
theorem inK (w:LN) : dIn (.str (tx w)) (.lst (kpW.map fun w=>D.str (tx w)))=some (.bl (kept w)):=by
 unfold dIn inD;show Option.map D.bl (if ((D.str (tx w)).scalar && (kpW.map fun w=>D.str (tx w)).all D.scalar)=true then some ((kpW.map fun w=>D.str (tx w)).any fun d=>eqX d (.str (tx w))) else none)=_;rw [if_pos (by rw [all_map]; exact (Bool.and_eq_true _ _).mpr ⟨rfl,all_eq_true.mpr fun _ _=>rfl⟩),any_map];unfold kept;show some (D.bl _)=_
 congr 2
 refine congrArg (fun p=>kpW.any p) (funext fun k=>?_);show (tx k==tx w)=(k==w);apply Bool.eq_iff_iff.mpr;rw [beq_iff_eq,beq_iff_eq];exact ⟨zhn,fun e=>by rw [e]⟩
noncomputable def zi2 (sg w:LN) : Bool:=w.all fun x=>decide (x∈sg)
noncomputable def made (w sg:LN) (most:Nat) : Bool:=(decide (1<=w.length) && decide (w.length<=most)) && zi2 sg w
noncomputable def zcv (w:LN) : Bool:=made w smL 8 && !kept w
noncomputable def sp2 (v:Int) : Int:=if v=0 then 26 else 2
theorem znh (v:Int) : 0 < sp2 v/\sp2 v<=26:=by unfold sp2; split <;> decide
noncomputable def zf3 (k:Int) : LN:=kpW.getD k.toNat []
noncomputable def zby (s:Int) : Int×LN :=
 if dr s 12=0 then ((smP 1 26 (nx (nx s))).1,zf3 (dr (nx s) 16)++(smP 1 26 (nx (nx s))).2)
 else if dr s 12=1 then (nx (nx s),(zf3 (dr (nx s) 16)).dropLast)
 else ((smP (1 + dr (nx s) 8) (sp2 (dr s 12 % 2)) (nx (nx s))).1,if kept (smP (1 + dr (nx s) 8) (sp2 (dr s 12 % 2)) (nx (nx s))).2 then 122::(smP (1 + dr (nx s) 8) (sp2 (dr s 12 % 2)) (nx (nx s))).2 else (smP (1 + dr (nx s) 8) (sp2 (dr s 12 % 2)) (nx (nx s))).2)
theorem zw9 : kpW.length=16:=rfl
theorem ydz : ∀ w∈kpW,w.length<=6:=by decide +kernel
theorem zw8 (h:0<=k/\k < 16) : zf3 k∈kpW:=by
 have hl : k.toNat < kpW.length:=by rw [zw9]; omega
 unfold zf3;rw [getD_eq_getElem?_getD,List.getElem?_eq_getElem hl];exact List.getElem_mem hl
theorem ydu (h:0<=k/\k < 16) : zd6 (.lst (kpW.map fun w=>D.str (tx w))) (.int k)=some (.str (tx (zf3 k))):=by
 have hl : k.toNat < kpW.length:=by rw [zw9]; omega
 show atI (kpW.map fun w=>D.str (tx w)) k=_;unfold atI ixN;rw [if_pos h.1,if_pos (by rw [length_map,zw9]; omega),bind_some,List.getElem?_map,List.getElem?_eq_getElem hl];show some _=some _;unfold zf3;rw [getD_eq_getElem?_getD,List.getElem?_eq_getElem hl];rfl
theorem z34 (sp:Int) (hs:0 < sp/\sp<=26) (p:Int×LN) (h:∀ x∈p.2,x∈smL) : ∀ n,∀ x∈(its sp n p).2,x∈smL
 | 0,x,hx=>h x hx
 | n + 1,x,hx=>by
  rcases mem_append.mp (show x∈(its sp n p).2++[_] from hx) with e | e
  ·exact z34 sp hs p h n x e
  ·have d:=zbm (its sp n p).1 (k:=sp) hs.1;rw [mem_singleton] at e;have hl : (dr (its sp n p).1 sp).toNat < smL.length:=by rw [z0r]; omega
   rw [e,getD_eq_getElem?_getD,List.getElem?_eq_getElem hl];exact List.getElem_mem hl
theorem z0q (n sp s:Int) (hs:0 < sp/\sp<=26) : zi2 smL (smP n sp s).2=true:=all_eq_true.mpr fun x hx=>decide_eq_true (z34 sp hs (s,[]) (fun x hx=>(not_mem_nil hx).elim) n.toNat x hx)
theorem ydw : ∀ k∈kpW,∀ x∈smL,zcv (k++[x])=true:=by decide +kernel
theorem ydv : ∀ k∈kpW,zcv k.dropLast=true:=by decide +kernel
theorem yd0 : ∀ k∈kpW,zcv (122::k)=true:=by decide +kernel
theorem zhh (s:Int) : okS (zby s).1/\zcv (zby s).2=true:=by
 have d16:=zbm (nx s) (k:=16) (by decide);have d8:=zbm (nx s) (k:=8) (by decide);have d12:=zbm s (k:=12) (by decide)
 unfold zby
 split
 ·obtain ⟨a,b⟩:=znf 1 26 (nx (nx s)) (zbh _) (by decide);have al:=z0q 1 26 (nx (nx s)) (by decide);refine ⟨a,?_⟩;generalize (smP 1 26 (nx (nx s))).2=w at b al
  match w,b,al with
  | [x],_,al =>
   exact ydw _ (zw8 d16) x (of_decide_eq_true (all_eq_true.mp al x mem_cons_self))
  | [],b,_=>simp at b
  | _::_::_,b,_=>exfalso; simp at b; omega
 ·split
  ·exact ⟨zbh _,ydv _ (zw8 d16)⟩
  ·have hsp:=znh (dr s 12 % 2);obtain ⟨a,b⟩:=znf (1 + dr (nx s) 8) (sp2 (dr s 12 % 2)) (nx (nx s)) (zbh _) (by omega);have al:=z0q (1 + dr (nx s) 8) (sp2 (dr s 12 % 2)) (nx (nx s)) hsp;generalize smP (1 + dr (nx s) 8) (sp2 (dr s 12 % 2)) (nx (nx s))=q at a b al;refine ⟨a,?_⟩;show zcv (if kept q.2 then 122::q.2 else q.2)=true
   cases hk : kept q.2 with
   | true =>
    rw [if_pos rfl];obtain ⟨k,hm,e⟩:=any_eq_true.mp hk;rw [<- beq_iff_eq.mp e]
    exact yd0 k hm
   | false =>
    rw [if_neg (fq)];unfold zcv made;rw [hk,al,decide_eq_true (show 1<=q.2.length by omega),decide_eq_true (show q.2.length<=8 by omega)];rfl
noncomputable abbrev sT (w:LN) : D:=.str (tx w)
theorem zdn {α : Type} {F:Int->Int×α} {toD:α->D} (hm:∀ s,okS s->m l [] [] [.int s]=some ([.int (F s).1],toD (F s).2)) (s:Int) (r:LS) (h:okS s) : zat 0 m zaa (.pin l [.int s]::r)=some (toD (F s).2,.pin l [.int (F s).1]::r):=zg3 (i:=0) (ρ1:=.pin l [.int s]::r) rfl rfl rfl (hm s h)
theorem z0s (l:Addr) (s n sp:Int) (r:LS) {fa:Xa} (h0:ρ[0]?=some (.pin l xs)) (ha:fa ρ=some ([.int n,.int sp],.pin l [.int s]::r)) (h:okS s) (hn:0<=n/\n<=500) (hs:0 < sp/\sp<=26) : zat 0 zmq fa ρ=some (.str (tx (smP n sp s).2),.pin l [.int (smP n sp s).1]::r):=zg3 (i:=0) (ρ1:=.pin l [.int s]::r) h0 ha rfl (yka l s n sp h hn hs)
theorem z0t (v:Int) (h:0<=v/\v < 2) : zd6 (.lst [.int 26,.int 2]) (.int v)=some (.int (sp2 v)):=by
 have : v=0\/v=1:=by omega
 rcases this with e | e <;> (rw [e]; rfl)
theorem zT : ("z" : Str)=tx [122]:=by decide +kernel
theorem ydy : ∀ w∈kpW,Txt.slice (tx w) none (some (-1))=tx w.dropLast:=by decide +kernel
variable {ρ':LS}
theorem bxX {g:Xe} {m:D->D->OD} (h:mX2 m f g ρ=some (.bl b,ρ')) : mBX (mX2 m f g) ρ=some (b,ρ'):=by
 unfold mBX;rw [h];rfl
theorem zpm (l:Addr) (s:Int) (hs:okS s) : zkw l [] [] [.int s]=some ([.int (zby s).1],.str (tx (zby s).2)):=by
 have d12:=zbm s (k:=12) (by decide);have d16:=zbm (nx s) (k:=16) (by decide);have d8:=zbm (nx s) (k:=8) (by decide);have n1:=zbh s;have n2:=zbh (nx s)
 have w : wp zn5 [.pin l [.int s],.no,.no] (fun o=>∃ a1 a2,o=.rtS (.str (tx (zby s).2)) [.pin l [.int (zby s).1],a1,a2]):=by
  unfold zn5 zby
  apply zaf;refine zbw (zc7 l s 12 _ rfl hs (by decide)) ?_;show wp _ [.pin l [.int (nx s)],.im (.int (dr s 12)),.no] _;generalize dr s 12=v at d12;generalize nx s=s1 at d16 d8 n1 n2;apply zaf;have ek : mX2 zd6 (mX (zax zmw nZ)) (zat 0 m_0 (zad (mX (kI 16)) zaa)) [.pin l [.int s1],.im (.int v),.no]=some (.str (tx (zf3 (dr s1 16))),[.pin l [.int (nx s1)],.im (.int v),.no]):=zb0 (zap (zbi rfl z4h)) (zc7 l s1 16 _ rfl n1 (by decide)) (ydu d16);have hkm:=zw8 d16;have hkl:=ydz _ hkm;refine za2 (b:=v==0) (zba (zas rfl rfl (ze8 _ _))) (fun e=>?_) fun e=>za5 ?_
  ·have e0 : v=0:=by simpa using e
   rw [if_pos e0];obtain ⟨g1,g2⟩:=znf 1 26 (nx s1) n2 (by decide);exact zbo (zb0 ek (z0s l (nx s1) 1 26 _ rfl rfl n2 (by decide) (by decide)) (zv0 _ _ (by omega))) ⟨_,_,rfl⟩
  have e0 : ¬ v=0:=by simpa using e
  rw [if_neg e0];show wp _ [.pin l [.int s1],.im (.int v),.no] _;apply zaf;refine za2 (b:=v==1) (zba (zas rfl rfl (ze8 _ _))) (fun e=>?_) fun e=>za5 ?_
  ·have e1 : v=1:=by simpa using e
   rw [if_pos e1];refine zbo (d:=.str (tx (zf3 (dr s1 16)).dropLast)) (ρ1:=[.pin l [.int (nx s1)],.im (.int v),.no]) ?_ ⟨_,_,rfl⟩;unfold zss;rw [ek,bind_some];show (zja (.str (tx (zf3 (dr s1 16)))) none (some (-1))).map _=_
   have : zja (.str (tx (zf3 (dr s1 16)))) none (some (-1))=some (.str (Txt.slice (tx (zf3 (dr s1 16))) none (some (-1)))):=by
    show (if (tx (zf3 (dr s1 16))).length<=16777216 then some (D.str (Txt.slice (tx (zf3 (dr s1 16))) none (some (-1)))) else none)=_;rw [zc3,if_pos (by omega)]
   rw [this,ydy _ hkm];rfl
  have e1 : ¬ v=1:=by simpa using e
  rw [if_neg e1];show wp _ [.pin l [.int s1],.im (.int v),.no] _;apply zaf;have hsp:=znh (v % 2);have ei : mIx (zac (kI 26) (zac (kI 2) nZ)) (m2 zfi (zab 1) (kI 2)) [.pin l [.int (nx s1)],.im (.int v),.no]=some (.int (sp2 (v % 2))):=zbf rfl (zas rfl rfl (zia (by decide))) (z0t (v % 2) ⟨by omega,by omega⟩);refine zbw (z0s l (nx s1) (1 + dr s1 8) (sp2 (v % 2)) _ rfl (zaq (zb0 (zap rfl) (zc7 l s1 8 _ rfl n1 (by decide)) zfh) (zaq (zap ei) rfl)) n2 ⟨by omega,by omega⟩ hsp) ?_;obtain ⟨g1,g2⟩:=znf (1 + dr s1 8) (sp2 (v % 2)) (nx s1) n2 (by omega);generalize smP (1 + dr s1 8) (sp2 (v % 2)) (nx s1)=q at g1 g2;show wp _ [.pin l [.int q.1],.im (.int v),.im (.str (tx q.2))] _;apply zaf;refine za2 (zba (zas rfl (zbi rfl z4h) (inK q.2))) (fun e=>?_) fun e=>za5 ?_
  ·rw [e];refine zc4 (d:=.str (tx (122::q.2))) (zas (x:=.str (tx [122])) (by rw [zT]) rfl (zv0 [122] q.2 (by rw [length_singleton]; omega))) ?_;exact ⟨_,_,rfl⟩
  ·rw [e];exact zc4 rfl ⟨_,_,rfl⟩
 obtain ⟨o,e,a1,a2,rfl⟩:=w;exact zd4 (ρ:=[.pin l [.int (zby s).1],a1,a2]) e rfl
noncomputable def zea (s:Int) : Int×LN :=
 ((smP (dr (nx (nx s)) 8) (sp2 (dr (nx (nx (nx s))) 2)) (nx (nx (nx (nx s))))).1,grL.getD (dr (nx s) (sp2 (dr s 2))).toNat 0::(smP (dr (nx (nx s)) 8) (sp2 (dr (nx (nx (nx s))) 2)) (nx (nx (nx (nx s))))).2)
noncomputable def zhp (w:LN) : Bool:=made (w.take 1) grL 1 && (decide (w.length=1) || made (w.drop 1) smL 7)
theorem zu7 (s:Int) : okS (zea s).1/\zhp (zea s).2=true:=by
 have d2:=znh (dr s 2);have d0:=zbm (nx s) (k:=sp2 (dr s 2)) d2.1;have d8:=zbm (nx (nx s)) (k:=8) (by decide);have hsp:=znh (dr (nx (nx (nx s))) 2);obtain ⟨a,b⟩:=znf (dr (nx (nx s)) 8) (sp2 (dr (nx (nx (nx s))) 2)) (nx (nx (nx (nx s)))) (zbh _) d8.1;have al:=z0q (dr (nx (nx s)) 8) (sp2 (dr (nx (nx (nx s))) 2)) (nx (nx (nx (nx s)))) hsp;unfold zea;generalize smP (dr (nx (nx s)) 8) (sp2 (dr (nx (nx (nx s))) 2)) (nx (nx (nx (nx s))))=q at a b al;refine ⟨a,?_⟩;have hl : (dr (nx s) (sp2 (dr s 2))).toNat < grL.length:=by rw [zwr]; omega
 have hg : grL.getD (dr (nx s) (sp2 (dr s 2))).toNat 0∈grL:=by
  rw [getD_eq_getElem?_getD,List.getElem?_eq_getElem hl];exact List.getElem_mem hl
 generalize grL.getD (dr (nx s) (sp2 (dr s 2))).toNat 0=x at hg;show (made [x] grL 1 && (decide ((x::q.2).length=1) || made q.2 smL 7))=true
 have h1 : made [x] grL 1=true:=by
  unfold made zi2;rw [all_cons,decide_eq_true hg];rfl
 rw [h1,Bool.true_and,length_cons];unfold made;rw [al]
 by_cases e : q.2.length=0
 ·rw [decide_eq_true (show q.2.length + 1=1 by omega)]; rfl
 ·rw [decide_eq_true (show 1<=q.2.length by omega),decide_eq_true (show q.2.length<=7 by omega)];simp
theorem z9b (l:Addr) (s:Int) (hs:okS s) : zs3 l [] [] [.int s]=some ([.int (zea s).1],.str (tx (zea s).2)):=by
 have d2:=zbm s (k:=2) (by decide);have h2:=znh (dr s 2);have d0:=zbm (nx s) (k:=sp2 (dr s 2)) h2.1;have d8:=zbm (nx (nx s)) (k:=8) (by decide);have d22:=zbm (nx (nx (nx s))) (k:=2) (by decide);have hsp:=znh (dr (nx (nx (nx s))) 2)
 have w : wp zoi [.pin l [.int s],.no] (fun o=>∃ a1,o=.rtS (.str (tx (zea s).2)) [.pin l [.int (zea s).1],a1]):=by
  unfold zoi zea;apply zaf
  have e1 : zat 0 m_0 (zad (mX2 zd6 (mX (zbp (zac (kI 26) (zac (kI 2) nZ)))) (zat 0 m_0 (zad (mX (kI 2)) zaa))) zaa) [.pin l [.int s],.no]=some (.int (dr (nx s) (sp2 (dr s 2))),[.pin l [.int (nx (nx s))],.no]) :=
   zg3 (i:=0) (ρ1:=[.pin l [.int (nx s)],.no]) rfl (zaq (zb0 (zap rfl) (zc7 l s 2 _ rfl hs (by decide)) (z0t _ d2)) rfl) rfl (zim l (nx s) (sp2 (dr s 2)) (zbh _) h2.1)
  refine zbw (d:=.str (tx [grL.getD (dr (nx s) (sp2 (dr s 2))).toNat 0])) (zb0 (zap (d:=.str (tx grL)) (by rw [grT])) e1 (z36 grL _ (by rw [zwr]; omega) (by rw [zwr]; decide))) ?_;generalize grL.getD (dr (nx s) (sp2 (dr s 2))).toNat 0=x;have hs2:=zbh (nx s);generalize nx (nx s)=s2 at *;show wp _ [.pin l [.int s2],.im (.str (tx [x]))] _;obtain ⟨a,b⟩:=znf (dr s2 8) (sp2 (dr (nx s2) 2)) (nx (nx s2)) (zbh _) d8.1;refine zbo (d:=.str (tx (x::(smP (dr s2 8) (sp2 (dr (nx s2) 2)) (nx (nx s2))).2))) (zb0 (zap rfl) (z0s l (nx (nx s2)) (dr s2 8) (sp2 (dr (nx s2) 2)) _ rfl (zaq (zc7 l s2 8 _ rfl hs2 (by decide)) (zaq (zb0 (zap rfl) (zc7 l (nx s2) 2 _ rfl (zbh _) (by decide)) (z0t _ d22)) rfl)) (zbh _) ⟨by omega,by omega⟩ hsp) (zv0 [x] _ (by rw [length_singleton]; omega))) ⟨_,rfl⟩
 obtain ⟨o,e,a1,rfl⟩:=w;exact zd4 (ρ:=[.pin l [.int (zea s).1],a1]) e rfl
noncomputable def zdv (s:Int) : Int×LN:=if dr s 2=0 then zea (nx s) else zby (nx s)
noncomputable def zcx (w:LN) : Bool:=zhp w || zcv w
theorem zj7 (s:Int) : okS (zdv s).1/\zcx (zdv s).2=true:=by
 unfold zdv zcx;split
 ·exact ⟨(zu7 _).1,by rw [(zu7 _).2]; rfl⟩
 ·exact ⟨(zhh _).1,by rw [(zhh _).2,Bool.or_true]⟩
theorem zvl (l:Addr) (s:Int) (hs:okS s) : zph l [] [] [.int s]=some ([.int (zdv s).1],.str (tx (zdv s).2)):=by
 have w : wp zog [.pin l [.int s]] (fun o=>o=.rtS (.str (tx (zdv s).2)) [.pin l [.int (zdv s).1]]):=by
  unfold zog zdv;apply zaf;refine zeb (b:=dr s 2==0) (ρ1:=[.pin l [.int (nx s)]]) (bxX (zb0 (zc7 l s 2 _ rfl hs (by decide)) (zap rfl) (ze8 _ _))) (fun e=>?_) fun e=>za5 ?_
  ·have e0 : dr s 2=0:=by simpa using e
   rw [if_pos e0];exact zbo (zdn (F:=zea) (toD:=sT) (fun s h=>z9b l s h) (nx s) [] (zbh _)) rfl
  ·have e0 : ¬ dr s 2=0:=by simpa using e
   rw [if_neg e0];exact zbo (zdn (F:=zby) (toD:=sT) (fun s h=>zpm l s h) (nx s) [] (zbh _)) rfl
 obtain ⟨o,e,rfl⟩:=w;exact zd4 (ρ:=[.pin l [.int (zdv s).1]]) e rfl
noncomputable def zek (s:Int) : Int×Int:=if dr (nx s) 3=0 then (nx (nx (nx (nx (nx s)))),((dr s 9 * 10 ^ 10 + dr (nx (nx s)) (10 ^ 10)) * 10 ^ 10 + dr (nx (nx (nx s))) (10 ^ 10)) * 10 ^ 9 + dr (nx (nx (nx (nx s)))) (10 ^ 9)) else (nx (nx s),dr s 9)
noncomputable def za4 (s:Int) : Int×Int:=(nx (zek s).1,if dr (zek s).1 3=0 then -(zek s).2 else (zek s).2)
theorem z44 (s:Int) : okS (zek s).1/\0<=(zek s).2/\(zek s).2 < 10 ^ 30:=by
 have d9:=zbm s (k:=9) (by decide);have a:=zbm (nx (nx s)) (k:=10 ^ 10) (by decide);have b:=zbm (nx (nx (nx s))) (k:=10 ^ 10) (by decide);have c:=zbm (nx (nx (nx (nx s)))) (k:=10 ^ 9) (by decide);unfold zek;split
 ·refine ⟨zbh _,?_,?_⟩
  ·show 0<=((dr s 9 * 10 ^ 10 + dr (nx (nx s)) (10 ^ 10)) * 10 ^ 10 + dr (nx (nx (nx s))) (10 ^ 10)) * 10 ^ 9 + dr (nx (nx (nx (nx s)))) (10 ^ 9);omega
  ·show ((dr s 9 * 10 ^ 10 + dr (nx (nx s)) (10 ^ 10)) * 10 ^ 10 + dr (nx (nx (nx s))) (10 ^ 10)) * 10 ^ 9 + dr (nx (nx (nx (nx s)))) (10 ^ 9) < 10 ^ 30;omega
 ·exact ⟨zbh _,d9.1,by show dr s 9 < 10 ^ 30; omega⟩
theorem zk0 (s:Int) : okS (za4 s).1/\-(10 ^ 30) < (za4 s).2/\(za4 s).2 < 10 ^ 30:=by
 obtain ⟨a,b,c⟩:=z44 s;refine ⟨zbh _,?_⟩;show -(10 ^ 30) < (if dr (zek s).1 3=0 then -(zek s).2 else (zek s).2)/\(if dr (zek s).1 3=0 then -(zek s).2 else (zek s).2) < 10 ^ 30
 split <;> omega
theorem ztr (l:Addr) (s:Int) (hs:okS s) : zkv l [] [] [.int s]=some ([.int (za4 s).1],.int (za4 s).2):=by
 have d9:=zbm s (k:=9) (by decide)
 have w : wp zn4 [.pin l [.int s],.no,.no] (fun o=>∃ a1 a2,o=.rtS (.int (za4 s).2) [.pin l [.int (za4 s).1],a1,a2]):=by
  unfold zn4;apply zaf;refine zbw (zc7 l s 9 _ rfl hs (by decide)) ?_;show wp _ [.pin l [.int (nx s)],.im (.int (dr s 9)),.no] _;refine zlo (fun ρ=>∃ a2,ρ=[.pin l [.int (zek s).1],.im (.int (zek s).2),a2]) ?_ ?_
  ·unfold zek;refine zeb (b:=dr (nx s) 3==0) (ρ1:=[.pin l [.int (nx (nx s))],.im (.int (dr s 9)),.no]) (bxX (zb0 (zc7 l (nx s) 3 _ rfl (zbh _) (by decide)) (zap rfl) (ze8 _ _))) (fun e=>?_) fun e=>za5 ?_
   ·have e0 : dr (nx s) 3=0:=by simpa using e
    rw [if_pos e0];have a:=zbm (nx (nx s)) (k:=10 ^ 10) (by decide);have b:=zbm (nx (nx (nx s))) (k:=10 ^ 10) (by decide);generalize hn : dr s 9=n at d9;have hs2:=zbh (nx s);generalize nx (nx s)=s2 at *;apply zaf;refine zh5 [0,1] (fun (i:Nat)=>D.int i) (fun pre ρ=>∃ a2,ρ=[.pin l [.int (if pre.length=0 then s2 else if pre.length=1 then nx s2 else nx (nx s2))],.im (.int (if pre.length=0 then n else if pre.length=1 then n * 10 ^ 10 + dr s2 (10 ^ 10) else (n * 10 ^ 10 + dr s2 (10 ^ 10)) * 10 ^ 10 + dr (nx s2) (10 ^ 10))),a2]) rfl ⟨_,rfl⟩ ?_ ?_
    ·rintro pre k post ρ he ⟨a2,rfl⟩;refine ⟨_,rfl,?_⟩
     have step : ∀ (t n:Int),okS t->0<=n->n < 10 ^ 21->mX2 zcb (mX (m2 zib (zab 1) (m2 zg4 (kI 10) (kI 10)))) (zat 0 m_0 (zad (mX (m2 zg4 (kI 10) (kI 10))) zaa)) [.pin l [.int t],.im (.int n),.im (.int k)]=some (.int (n * 10 ^ 10 + dr t (10 ^ 10)),[.pin l [.int (nx t)],.im (.int n),.im (.int k)]):=fun t n ht h0 h1 =>
      zb0 (zap (zas rfl (zas rfl rfl (zi9 (by decide))) (zly (.inr ⟨by omega,by decide⟩)))) (zc7 l t (10 ^ 10) _ (zas rfl rfl (zi9 (by decide))) ht (by decide)) zfh
     match pre,he with
     | [],_ =>
      exact zbw (step s2 n hs2 d9.1 (by omega)) ⟨_,rfl⟩
     | [x],_ =>
      exact zbw (step (nx s2) (n * 10 ^ 10 + dr s2 (10 ^ 10)) (zbh _) (by omega) (by omega)) ⟨_,rfl⟩
     | x::y::r,he=>exfalso; have:=congrArg List.length he; simp at this
    ·rintro ρ ⟨a2,rfl⟩;show wp _ [.pin l [.int (nx (nx s2))],.im (.int ((n * 10 ^ 10 + dr s2 (10 ^ 10)) * 10 ^ 10 + dr (nx s2) (10 ^ 10))),a2] _;refine zbw (zb0 (zap (zas rfl (zas rfl rfl (zi9 (by decide))) (zly (.inr ⟨by omega,by decide⟩)))) (zc7 l (nx (nx s2)) (10 ^ 9) _ (zas rfl rfl (zi9 (by decide))) (zbh _) (by decide)) zfh) ?_;exact k_J ⟨_,rfl⟩
   ·have e0 : ¬ dr (nx s) 3=0:=by simpa using e
    rw [if_neg e0];exact k_J ⟨_,rfl⟩
  ·rintro ρ ⟨a2,rfl⟩;obtain ⟨q1,q2,q3⟩:=z44 s;unfold za4;generalize zek s=p at q1 q2 q3;apply zaf;refine zeb (b:=dr p.1 3==0) (ρ1:=[.pin l [.int (nx p.1)],.im (.int p.2),a2]) (bxX (zb0 (zc7 l p.1 3 _ rfl q1 (by decide)) (zap rfl) (ze8 _ _))) (fun e=>?_) fun e=>za5 ?_
   ·have e0 : dr p.1 3=0:=by simpa using e
    rw [if_pos e0];exact zc4 rfl ⟨_,_,rfl⟩
   ·have e0 : ¬ dr p.1 3=0:=by simpa using e
    rw [if_neg e0];exact zc4 rfl ⟨_,_,rfl⟩
 obtain ⟨o,e,a1,a2,rfl⟩:=w;exact zd4 (ρ:=[.pin l [.int (za4 s).1],a1,a2]) e rfl
theorem zu9 (h0:ρ[i]?=some (.own xs0)) (h:f ρ=some (d,ρ1)) (h1:ρ1[i]?=some (.own xs)) (hl:xs.length < 16777216) (k:K (.nx (ρ1.set i (.own (xs++[d]))))) : wp (zeq i f) ρ K:=⟨_,by
 unfold zeq;rw [h0];show (f ρ).bind _=_;rw [h,bind_some];dsimp only;rw [h1];exact if_pos hl,k⟩
theorem zdc {f:Xa} (h:f ρ=some (ds,ρ1)) : zcm f ρ=some (.tup ds,ρ1):=by
 unfold zcm;rw [h];rfl
noncomputable abbrev Th:=LN×L2N
noncomputable abbrev Ti:=Th×Int×Bool
noncomputable def thD (t:Th) : D:=.tup [.str (tx t.1),.lst (t.2.map sT)]
noncomputable def zcf (z:Ti) : D:=.tup [thD z.1,.int z.2.1]
noncomputable def prD (p:LN×LN) : D:=.tup [.str (tx p.1),.str (tx p.2)]
inductive Pa where
 | is (t:Th)
 | no (t:Th)
 | un (a b:LN)
 | ct (w:Bool) (n:Int) (its:List Ti) (ov:List (LN×LN))
noncomputable def ctS (w:Bool) : Str:=if w then "least" else "most"
noncomputable def Pa.toD : Pa->D
 | .is t=>.tup [.str "is",thD t]
 | .no t=>.tup [.str "not",thD t]
 | .un a b=>.tup [.str "unlike",.str (tx a),.str (tx b)]
 | .ct w n its ov=>.tup [.str (ctS w),.int n,.lst (its.map zcf),.lst (ov.map prD)]
inductive Ro where
 | kind (n:LN) (ns:L2N)
 | rule (b:Bool) (t:Th) (bd:List Pa) (ps:List (LN×LN))
 | choose (lo hi:Int) (its:List Ti) (ov:List (LN×LN)) (bd:List Pa) (ps:List (LN×LN))
 | never (bd:List Pa) (ps:List (LN×LN))
noncomputable def ruS (b:Bool) : Str:=if b then "rule" else "may"
noncomputable def Ro.toD : Ro->D
 | .kind n ns=>.tup [.str "kind",.str (tx n),.lst (ns.map sT)]
 | .rule b t bd ps=>.tup [.str (ruS b),thD t,.lst (bd.map Pa.toD),.lst (ps.map prD)]
 | .choose lo hi its ov bd ps=>.tup [.str "choose",.int lo,.int hi,.lst (its.map zcf),.lst (ov.map prD),.lst (bd.map Pa.toD),.lst (ps.map prD)]
 | .never bd ps=>.tup [.str "never",.lst (bd.map Pa.toD),.lst (ps.map prD)]
def zdz (n:Int) : Prop:=-(10 ^ 30) < n/\n < 10 ^ 30
def zee (t:Th) : Prop:=zcv t.1=true/\(∀ a∈t.2,zcx a=true)/\t.2.length<=3
def zcq (z:Ti) : Prop:=zee z.1/\0<=z.2.1/\z.2.1 < 10 ^ 30
def ze6 (p:LN×LN) : Prop:=zhp p.1=true/\zcv p.2=true
def zdg : Pa->Prop
 | .is t=>zee t
 | .no t=>zee t
 | .un a b=>zcx a=true/\zcx b=true
 | .ct _ n its ov=>zdz n/\(∀ z∈its,zcq z)/\(0 < its.length/\its.length<=9)/\(∀ p∈ov,ze6 p)/\ov.length<=2
noncomputable def Pa.unl : Pa->Bool
 | .un _ _=>true
 | _=>false
def zdd (bd:List Pa) : Prop:=(∀ p∈bd,zdg p)/\bd.length<=4
def zet (ps:List (LN×LN)) : Prop:=(∀ p∈ps,ze6 p)/\ps.length<=3
def zfe : Ro->Prop
 | .kind n ns=>zcv n=true/\(∀ w∈ns,zcv w=true)/\0 < ns.length/\ns.length<=12
 | .rule _ t bd ps=>zee t/\zdd bd/\zet ps
 | .choose lo hi its ov bd ps=>(zdz lo/\zdz hi)/\((∀ z∈its,zcq z)/\0 < its.length/\its.length<=9)/\((∀ p∈ov,ze6 p)/\ov.length<=2)/\zdd bd/\zet ps
 | .never bd ps=>zdd bd/\(∃ p∈bd,p.unl=false)/\zet ps
noncomputable def mx0 (v:Int) : Int:=if v > 0 then v else 0
noncomputable def thP (s:Int) : Int×Th:=((itP zdv (mx0 (dr (zby s).1 5 - 1)).toNat (nx (zby s).1)).1,((zby s).2,(itP zdv (mx0 (dr (zby s).1 5 - 1)).toNat (nx (zby s).1)).2))
theorem zhm (s:Int) : okS (thP s).1/\zee (thP s).2:=by
 obtain ⟨a,b⟩:=zhh s;have d5:=zbm (zby s).1 (k:=5) (by decide)
 have hm : 0<=mx0 (dr (zby s).1 5 - 1)/\mx0 (dr (zby s).1 5 - 1)<=3:=by unfold mx0; split <;> omega
 obtain ⟨c,d⟩:=zgo (fun s=>(zj7 s).1) (mx0 (dr (zby s).1 5 - 1)).toNat (nx (zby s).1) (zbh _);refine ⟨c,b,zii (fun s=>(zj7 s).2) _ _,?_⟩;show (itP zdv _ _).2.length<=3;rw [d];omega
theorem zp2 {v:Int} (h:f ρ=some (.int v,ρ1)) (a:0<=v) (b:v<=500) : zfr (zad f zaa) ρ=some ((List.range v.toNat).map (fun (i:Nat)=>D.int i),ρ1):=yi4 (zaq h rfl) (zp1 v a b)
theorem zjw (v:Int) : ((List.range v.toNat).map fun (i:Nat)=>D.int i).length=v.toNat:=by rw [length_map,length_range]
theorem zqh (l:Addr) (s:Int) (hs:okS s) : zkx l [] [] [.int s]=some ([.int (thP s).1],thD (thP s).2):=by
 obtain ⟨a,_⟩:=zhh s;have d5:=zbm (zby s).1 (k:=5) (by decide)
 have hm : 0<=mx0 (dr (zby s).1 5 - 1)/\mx0 (dr (zby s).1 5 - 1)<=3:=by unfold mx0; split <;> omega
 have w : wp zn7 [.pin l [.int s],.no] (fun o=>∃ a1,o=.rtS (thD (thP s).2) [.pin l [.int (thP s).1],a1]):=by
  unfold zn7 thP;apply zaf;refine zbw (zdn (F:=zby) (toD:=sT) (fun s h=>zpm l s h) s _ hs) ?_;generalize zby s=q at a d5 hm;show wp _ [.pin l [.int q.1],.im (.str (tx q.2))] _
  have er : zez ztj (zad (mX (kI 0)) (zad (mX2 zjb (zat 0 m_0 (zad (mX (kI 5)) zaa)) (mX (kI 1))) zaa)) [.pin l [.int q.1],.im (.str (tx q.2))]=some (.int (mx0 (dr q.1 5 - 1)),[.pin l [.int (nx q.1)],.im (.str (tx q.2))]):=by
   unfold zez;rw [zaq (zap rfl) (zaq (zb0 (zc7 l q.1 5 _ rfl a (by decide)) (zap rfl) zrs) rfl)];rfl
  have ec:=zro (F:=zdv) (toD:=sT) (fun s h=>zvl l s h) (fun s=>(zj7 s).1) (zbh q.1) (zp2 er hm.1 (by omega)) (by rw [zjw]; omega);rw [zjw] at ec;exact zbo (zdc (zaq (zap rfl) (zaq ec rfl))) ⟨_,rfl⟩
 obtain ⟨o,e,a1,rfl⟩:=w;exact zd4 (ρ:=[.pin l [.int (thP s).1],a1]) e rfl
noncomputable def zf1 (s:Int) : Int×Ti:=if dr (thP s).1 2=0 then (nx (thP s).1,((thP s).2,1,false)) else ((za4 (nx (thP s).1)).1,((thP s).2,(if (za4 (nx (thP s).1)).2 < 0 then -(za4 (nx (thP s).1)).2 else (za4 (nx (thP s).1)).2),false))
theorem zw3 (s:Int) : okS (zf1 s).1/\zcq (zf1 s).2:=by
 obtain ⟨a,b⟩:=zhm s;obtain ⟨c,d,e⟩:=zk0 (nx (thP s).1);unfold zf1;split
 ·exact ⟨zbh _,b,by show (0 : Int)<=1; decide,by show (1 : Int) < 10 ^ 30; decide⟩
 ·refine ⟨c,b,?_⟩;show 0<=(if (za4 (nx (thP s).1)).2 < 0 then -(za4 (nx (thP s).1)).2 else (za4 (nx (thP s).1)).2)/\(if (za4 (nx (thP s).1)).2 < 0 then -(za4 (nx (thP s).1)).2 else (za4 (nx (thP s).1)).2) < 10 ^ 30
  split <;> omega
theorem ydo (l:Addr) (s:Int) (hs:okS s) : zxk l [] [] [.int s]=some ([.int (zf1 s).1],zcf (zf1 s).2):=by
 obtain ⟨a,_⟩:=zhm s
 have w : wp zom [.pin l [.int s],.no] (fun o=>∃ a1,o=.rtS (zcf (zf1 s).2) [.pin l [.int (zf1 s).1],a1]):=by
  unfold zom zf1;apply zaf;refine zbw (zdn (F:=thP) (toD:=thD) (fun s h=>zqh l s h) s _ hs) ?_;generalize thP s=q at a;show wp _ [.pin l [.int q.1],.im (thD q.2)] _;apply zaf;refine zeb (b:=dr q.1 2==0) (ρ1:=[.pin l [.int (nx q.1)],.im (thD q.2)]) (bxX (zb0 (zc7 l q.1 2 _ rfl a (by decide)) (zap rfl) (ze8 _ _))) (fun e=>?_) fun e=>za5 ?_
  ·have e0 : dr q.1 2=0:=by simpa using e
   rw [if_pos e0];exact zc4 rfl ⟨_,rfl⟩
  ·have e0 : ¬ dr q.1 2=0:=by simpa using e
   rw [if_neg e0];have en:=zdn (F:=za4) (toD:=D.int) (fun s h=>ztr l s h) (nx q.1) [.im (thD q.2)] (zbh _)
   have ea : zez zqn (zad (zat 0 zkv zaa) zaa) [.pin l [.int (nx q.1)],.im (thD q.2)]=some (.int (if (za4 (nx q.1)).2 < 0 then -(za4 (nx q.1)).2 else (za4 (nx q.1)).2),[.pin l [.int (za4 (nx q.1)).1],.im (thD q.2)]):=by
    unfold zez;rw [zaq en rfl];rfl
   exact zbo (zdc (zaq (zap rfl) (zaq ea rfl))) ⟨_,rfl⟩
 obtain ⟨o,e,a1,rfl⟩:=w;exact zd4 (ρ:=[.pin l [.int (zf1 s).1],a1]) e rfl
noncomputable def zhl (v:Int) : Int:=if v=0 then 9 else 4
noncomputable def zci (s:Int) : Int×List Ti:=itP zf1 (1 + dr (nx s) (zhl (dr s 6))).toNat (nx (nx s))
theorem z8i (v:Int) : 0 < zhl v/\zhl v<=9:=by unfold zhl; split <;> decide
theorem zsm (s:Int) : okS (zci s).1/\(∀ z∈(zci s).2,zcq z)/\0 < (zci s).2.length/\(zci s).2.length<=9:=by
 have h:=z8i (dr s 6);have d:=zbm (nx s) (k:=zhl (dr s 6)) h.1;obtain ⟨c,e⟩:=zgo (fun s=>(zw3 s).1) (1 + dr (nx s) (zhl (dr s 6))).toNat (nx (nx s)) (zbh _);refine ⟨c,zii (fun s=>(zw3 s).2) _ _,?_⟩;show 0 < (itP zf1 _ _).2.length/\(itP zf1 _ _).2.length<=9;rw [e];omega
theorem z31 (l:Addr) (s:Int) (hs:okS s) : zs7 l [] [] [.int s]=some ([.int (zci s).1],.lst ((zci s).2.map zcf)):=by
 have d6:=zbm s (k:=6) (by decide);have h:=z8i (dr s 6);have d:=zbm (nx s) (k:=zhl (dr s 6)) h.1
 have w : wp zok [.pin l [.int s]] (fun o=>o=.rtS (.lst ((zci s).2.map zcf)) [.pin l [.int (zci s).1]]):=by
  unfold zok zci
  have e6 : mX1 zkm (mX2 dEq (zat 0 m_0 (zad (mX (kI 6)) zaa)) (mX (kI 0))) [.pin l [.int s]]=some (.int (if dr s 6==0 then 1 else 0),[.pin l [.int (nx s)]]):=by
   unfold mX1;rw [zb0 (zc7 l s 6 _ rfl hs (by decide)) (zap rfl) (ze8 _ _)];rfl
  have e49 : zd6 (.lst [.int 4,.int 9]) (.int (if dr s 6==0 then 1 else 0))=some (.int (zhl (dr s 6))):=by
   unfold zhl
   by_cases e : dr s 6=0
   ·rw [if_pos e,e]; rfl
   ·rw [if_neg e,if_neg (by simpa using e)]; rfl
  have en : zat 0 m_0 (zad (mX2 zd6 (mX (zbp (zac (kI 4) (zac (kI 9) nZ)))) (mX1 zkm (mX2 dEq (zat 0 m_0 (zad (mX (kI 6)) zaa)) (mX (kI 0))))) zaa) [.pin l [.int s]]=some (.int (dr (nx s) (zhl (dr s 6))),[.pin l [.int (nx (nx s))]]) :=
   zg3 (i:=0) (ρ1:=[.pin l [.int (nx s)]]) rfl (zaq (zb0 (zap rfl) e6 e49) rfl) rfl (zim l (nx s) (zhl (dr s 6)) (zbh _) h.1)
  have ec:=zro (F:=zf1) (toD:=zcf) (fun s h=>ydo l s h) (fun s=>(zw3 s).1) (zbh (nx s)) (zp2 (zb0 (zap (f:=fun _=>some (.int 1)) rfl) en zfh) (by omega) (by omega)) (by rw [zjw]; omega);rw [zjw] at ec;exact zbo ec rfl
 obtain ⟨o,e,rfl⟩:=w;exact zd4 (ρ:=[.pin l [.int (zci s).1]]) e rfl
noncomputable def zcs (s:Int) : Int×(LN×LN):=((zby (zea s).1).1,((zea s).2,(zby (zea s).1).2))
theorem zjs (s:Int) : okS (zcs s).1/\ze6 (zcs s).2:=⟨(zhh _).1,(zu7 _).2,(zhh _).2⟩
theorem z30 {α : Type} (F:Int->Int×α) : ∀ (n:Nat) (s:Int),itP F (n + 1) s=((F (itP F n s).1).1,(itP F n s).2++[(F (itP F n s).1).2])
 | 0,s=>rfl
 | n + 1,s=>by
  show ((itP F (n + 1) (F s).1).1,(F s).2::(itP F (n + 1) (F s).1).2)=_;rw [z30 F n (F s).1];rfl
theorem ygk (l:Addr) (s n:Int) (hs:okS s) (hn:0<=n/\n<=100) : zmr l [] [.int n] [.int s]=some ([.int (itP zcs n.toNat s).1],.lst ((itP zcs n.toNat s).2.map prD)):=by
 have w : wp zn9 [.pin l [.int s],.im (.int n),.no,.no,.no] (fun o=>∃ a3 a4,o=.rtS (.lst ((itP zcs n.toNat s).2.map prD)) [.pin l [.int (itP zcs n.toNat s).1],.im (.int n),.im (.lst ((itP zcs n.toNat s).2.map prD)),a3,a4]):=by
  unfold zn9;apply zaf;refine zgy (d:=[]) rfl ?_;show wp _ [.pin l [.int s],.im (.int n),.own [],.no,.no] _;apply zaf;refine zh5 (List.range n.toNat) (fun (i:Nat)=>D.int i) (fun pre ρ=>∃ a3 a4,ρ=[.pin l [.int (itP zcs pre.length s).1],.im (.int n),.own ((itP zcs pre.length s).2.map prD),a3,a4]) ?_ ⟨_,_,rfl⟩ ?_ ?_
  ·unfold zfq;rw [show zac (zab 1) nZ [.pin l [.int s],.im (.int n),.own [],.no,.no]=some [.int n] from rfl,bind_some,zp1 n hn.1 (by omega)]
  ·rintro pre x post ρ he ⟨a3,a4,rfl⟩;obtain ⟨k1,k2⟩:=zgo (fun s=>(zjs s).1) pre.length s hs
   have hpl : pre.length < n.toNat:=by
    have:=congrArg List.length he;rw [length_range,length_append,length_cons] at this;omega
   have hst : itP zcs (pre++[x]).length s=((zcs (itP zcs pre.length s).1).1,(itP zcs pre.length s).2++[(zcs (itP zcs pre.length s).1).2]):=by
    rw [length_append];exact z30 zcs pre.length s
   rw [hst];generalize itP zcs pre.length s=p at k1 k2;refine ⟨_,rfl,?_⟩;show wp _ [.pin l [.int p.1],.im (.int n),.own (p.2.map prD),.im (.int x),a4] _;apply zaf;refine zbw (zdn (F:=zea) (toD:=sT) (fun s h=>z9b l s h) p.1 _ k1) ?_;show wp _ [.pin l [.int (zea p.1).1],.im (.int n),.own (p.2.map prD),.im (.int x),.im (.str (tx (zea p.1).2))] _;refine zu9 (xs:=p.2.map prD) (d:=prD (zcs p.1).2) rfl (zdc (zaq (zap rfl) (zaq (zdn (F:=zby) (toD:=sT) (fun s h=>zpm l s h) (zea p.1).1 _ (zu7 _).1) rfl))) rfl (by rw [length_map]; omega) ?_;refine ⟨.im (.int x),.im (.str (tx (zea p.1).2)),?_⟩;rw [map_append];rfl
  ·rintro ρ ⟨a3,a4,rfl⟩;rw [length_range];refine zgf rfl ?_;exact zc4 rfl ⟨a3,a4,rfl⟩
 obtain ⟨o,e,a3,a4,rfl⟩:=w;exact zd4 (ρ:=[.pin l [.int (itP zcs n.toNat s).1],.im (.int n),.im (.lst ((itP zcs n.toNat s).2.map prD)),a3,a4]) e rfl
noncomputable def zcr (s:Int) : Int×Pa:=((itP zcs (dr (zci (za4 (nx s)).1).1 3).toNat (nx (zci (za4 (nx s)).1).1)).1,.ct (decide (dr s 2=0)) (za4 (nx s)).2 (zci (za4 (nx s)).1).2 (itP zcs (dr (zci (za4 (nx s)).1).1 3).toNat (nx (zci (za4 (nx s)).1).1)).2)
theorem zrm (s:Int) : okS (zcr s).1/\zdg (zcr s).2/\(zcr s).2.unl=false:=by
 obtain ⟨a,b⟩:=zk0 (nx s);obtain ⟨c,d,e⟩:=zsm (za4 (nx s)).1;have d3:=zbm (zci (za4 (nx s)).1).1 (k:=3) (by decide);obtain ⟨f,g⟩:=zgo (fun s=>(zjs s).1) (dr (zci (za4 (nx s)).1).1 3).toNat (nx (zci (za4 (nx s)).1).1) (zbh _);refine ⟨f,⟨b,d,e,zii (fun s=>(zjs s).2) _ _,?_⟩,rfl⟩;rw [g];omega
theorem zye (l:Addr) (n s:Int) (r:LS) {fa:Xe} (h0:ρ[0]?=some (.pin l xs)) (ha:fa ρ=some (.int n,.pin l [.int s]::r)) (h:okS s) (hn:0<=n/\n<=100) : zat 0 zmr (zad fa zaa) ρ=some (.lst ((itP zcs n.toNat s).2.map prD),.pin l [.int (itP zcs n.toNat s).1]::r):=zg3 (i:=0) (ρ1:=.pin l [.int s]::r) h0 (zaq ha rfl) rfl (ygk l s n h hn)
theorem z12 (l:Addr) (s:Int) (hs:okS s) : zs0 l [] [] [.int s]=some ([.int (zcr s).1],(zcr s).2.toD):=by
 have d2:=zbm s (k:=2) (by decide);obtain ⟨a,_⟩:=zk0 (nx s);obtain ⟨c,_⟩:=zsm (za4 (nx s)).1;have d3:=zbm (zci (za4 (nx s)).1).1 (k:=3) (by decide)
 have w : wp zod [.pin l [.int s],.no,.no,.no] (fun o=>∃ a1 a2 a3,o=.rtS (zcr s).2.toD [.pin l [.int (zcr s).1],a1,a2,a3]):=by
  unfold zod zcr;apply zaf
  have e2 : zd6 (.lst [.str "least",.str "most"]) (.int (dr s 2))=some (.str (ctS (decide (dr s 2=0)))):=by
   have : dr s 2=0\/dr s 2=1:=by omega
   rcases this with e | e <;> (rw [e]; rfl)
  refine zbw (zb0 (zap rfl) (zc7 l s 2 _ rfl hs (by decide)) e2) ?_;generalize decide (dr s 2=0)=b;show wp _ [.pin l [.int (nx s)],.im (.str (ctS b)),.no,.no] _;apply zaf;refine zbw (zdn (F:=za4) (toD:=D.int) (fun s h=>ztr l s h) (nx s) _ (zbh _)) ?_;generalize za4 (nx s)=q at a c d3;show wp _ [.pin l [.int q.1],.im (.str (ctS b)),.im (.int q.2),.no] _;apply zaf;refine zbw (zdn (F:=zci) (toD:=fun z=>.lst (z.map zcf)) (fun s h=>z31 l s h) q.1 _ a) ?_;generalize zci q.1=z at c d3;show wp _ [.pin l [.int z.1],.im (.str (ctS b)),.im (.int q.2),.im (.lst (z.2.map zcf))] _;exact zbo (zdc (zaq (zap rfl) (zaq (zap rfl) (zaq (zap rfl) (zaq (zye l (dr z.1 3) (nx z.1) _ rfl (zc7 l z.1 3 _ rfl c (by decide)) (zbh _) ⟨by omega,by omega⟩) rfl))))) ⟨_,_,_,rfl⟩
 obtain ⟨o,e,a1,a2,a3,rfl⟩:=w;exact zd4 (ρ:=[.pin l [.int (zcr s).1],a1,a2,a3]) e rfl
noncomputable def zgr (s:Int) : Int×Pa :=
 if dr s 5 < 2 then zcr (nx s)
 else if dr s 5=2 then ((zdv (zdv (nx s)).1).1,.un (zdv (nx s)).2 (zdv (zdv (nx s)).1).2)
 else ((thP (nx s)).1,if dr s 5=3 then .is (thP (nx s)).2 else .no (thP (nx s)).2)
theorem zyf (s:Int) : okS (zgr s).1/\zdg (zgr s).2:=by
 unfold zgr;split
 ·exact ⟨(zrm _).1,(zrm _).2.1⟩
 ·split
  ·exact ⟨(zj7 _).1,(zj7 _).2,(zj7 _).2⟩
  ·refine ⟨(zhm _).1,?_⟩;show zdg (if dr s 5=3 then .is (thP (nx s)).2 else .no (thP (nx s)).2);split
   ·exact (zhm _).2
   ·exact (zhm _).2
theorem ygl (l:Addr) (s:Int) (hs:okS s) : zxj l [] [] [.int s]=some ([.int (zgr s).1],(zgr s).2.toD):=by
 have d5:=zbm s (k:=5) (by decide)
 have w : wp zol [.pin l [.int s],.no,.no] (fun o=>∃ a1 a2,o=.rtS (zgr s).2.toD [.pin l [.int (zgr s).1],a1,a2]):=by
  unfold zol zgr;apply zaf;refine zbw (zc7 l s 5 _ rfl hs (by decide)) ?_;have n1:=zbh s;generalize nx s=s1 at n1;generalize dr s 5=v at d5;show wp _ [.pin l [.int s1],.im (.int v),.no] _;apply zaf;refine za2 (b:=decide (v < 2)) (zba (zas rfl rfl zi6)) (fun e=>?_) fun e=>za5 ?_
  ·rw [if_pos (of_decide_eq_true e)];exact zbo (zdn (F:=zcr) (toD:=Pa.toD) (fun s h=>z12 l s h) s1 _ n1) ⟨_,_,rfl⟩
  rw [if_neg (of_decide_eq_false e)];have e2:=of_decide_eq_false e;show wp _ [.pin l [.int s1],.im (.int v),.no] _;apply zaf;refine za2 (b:=v==2) (zba (zas rfl rfl (ze8 _ _))) (fun e=>?_) fun e=>za5 ?_
  ·have e0 : v=2:=by simpa using e
   rw [if_pos e0];apply zaf;refine zbw (zdn (F:=zdv) (toD:=sT) (fun s h=>zvl l s h) s1 _ n1) ?_;exact zbo (zdc (zaq (zap rfl) (zaq (zap rfl) (zaq (zdn (F:=zdv) (toD:=sT) (fun s h=>zvl l s h) (zdv s1).1 _ (zj7 _).1) rfl)))) ⟨_,_,rfl⟩
  have e0 : ¬ v=2:=by simpa using e
  rw [if_neg e0];show wp _ [.pin l [.int s1],.im (.int v),.no] _
  have ei : mIx (zac (kSt "is") (zac (kSt "not") nZ)) (m2 zjb (zab 1) (kI 3)) [.pin l [.int s1],.im (.int v),.no]=some (.str (if v=3 then "is" else "not")):=by
   have : v=3\/v=4:=by omega
   rcases this with e | e <;> subst e <;> rfl
  refine zbo (d:=(if v=3 then Pa.is (thP s1).2 else Pa.no (thP s1).2).toD) (ρ1:=[.pin l [.int (thP s1).1],.im (.int v),.no]) ((zdc (zaq (zap ei) (zaq (zdn (F:=thP) (toD:=thD) (fun s h=>zqh l s h) s1 _ n1) rfl))).trans ?_) ⟨_,_,rfl⟩
  by_cases e3 : v=3
  ·rw [if_pos e3,if_pos e3]; rfl
  ·rw [if_neg e3,if_neg e3]; rfl
 obtain ⟨o,e,a1,a2,rfl⟩:=w;exact zd4 (ρ:=[.pin l [.int (zgr s).1],a1,a2]) e rfl
noncomputable def zdm (s:Int) : Int×List Pa:=itP zgr (dr s 4).toNat (nx s)
theorem z1x (s:Int) : okS (zdm s).1/\(∀ p∈(zdm s).2,zdg p)/\(zdm s).2.length<=3:=by
 have d:=zbm s (k:=4) (by decide);obtain ⟨c,e⟩:=zgo (fun s=>(zyf s).1) (dr s 4).toNat (nx s) (zbh _);refine ⟨c,zii (fun s=>(zyf s).2) _ _,?_⟩;show (itP zgr _ _).2.length<=3;rw [e];omega
theorem z95 (l:Addr) (s:Int) (hs:okS s) : zxm l [] [] [.int s]=some ([.int (zdm s).1],.lst ((zdm s).2.map Pa.toD)):=by
 have d:=zbm s (k:=4) (by decide)
 have w : wp zoo [.pin l [.int s]] (fun o=>o=.rtS (.lst ((zdm s).2.map Pa.toD)) [.pin l [.int (zdm s).1]]):=by
  unfold zoo zdm;have ec:=zro (F:=zgr) (toD:=Pa.toD) (fun s h=>ygl l s h) (fun s=>(zyf s).1) (zbh s) (zp2 (zc7 l s 4 [] (f:=fun _=>some (.int 4)) rfl hs (by decide)) (by omega) (by omega)) (by rw [zjw]; omega);rw [zjw] at ec;exact zbo ec rfl
 obtain ⟨o,e,rfl⟩:=w;exact zd4 (ρ:=[.pin l [.int (zdm s).1]]) e rfl
noncomputable def zpu (k:Int) (a b c:Pa) : Pa:=if k=0 then a else if k=1 then b else c
noncomputable def z68 (s:Int) : Int×Ro:=((itP zby (1 + dr (zby s).1 12).toNat (nx (zby s).1)).1,.kind (zby s).2 (itP zby (1 + dr (zby s).1 12).toNat (nx (zby s).1)).2)
noncomputable def zyy (bd:List Pa) (ps:List (LN×LN)) (s:Int) : Int×Ro :=
 (nx (thP (thP (zcr (nx s)).1).1).1,.never (bd.take (dr s (bd.length + 1)).toNat++[zpu (dr (thP (thP (zcr (nx s)).1).1).1 3) (zcr (nx s)).2 (.is (thP (zcr (nx s)).1).2) (.no (thP (thP (zcr (nx s)).1).1).2)]++bd.drop (dr s (bd.length + 1)).toNat) ps)
noncomputable def z67 (bd:List Pa) (ps:List (LN×LN)) (s:Int) : Int×Ro :=
 ((itP zcs (dr (zci (za4 (za4 s).1).1).1 3).toNat (nx (zci (za4 (za4 s).1).1).1)).1,.choose (za4 s).2 (za4 (za4 s).1).2 (zci (za4 (za4 s).1).1).2 (itP zcs (dr (zci (za4 (za4 s).1).1).1 3).toNat (nx (zci (za4 (za4 s).1).1).1)).2 bd ps)
noncomputable def z69 (v:Int) (bd:List Pa) (ps:List (LN×LN)) (s:Int) : Int×Ro:=((thP s).1,.rule (decide (v % 2=0)) (thP s).2 bd ps)
noncomputable def zp3 (v:Int) (bd:List Pa) (ps:List (LN×LN)) (s:Int) : Int×Ro:=if v=0 then z68 s else if v < 3 then zyy bd ps s else if v < 5 then z67 bd ps s else z69 v bd ps s
noncomputable def ziu (s:Int) : Int×Ro:=zp3 (dr s 9) (zdm (nx s)).2 (itP zcs (dr (zdm (nx s)).1 4).toNat (nx (zdm (nx s)).1)).2 (itP zcs (dr (zdm (nx s)).1 4).toNat (nx (zdm (nx s)).1)).1
theorem yi7 (v:Int) (bd:List Pa) (ps:List (LN×LN)) (s:Int) (hb:(∀ p∈bd,zdg p)/\bd.length<=3) (hp:zet ps) : okS (zp3 v bd ps s).1/\zfe (zp3 v bd ps s).2:=by
 have hb4 : zdd bd:=⟨hb.1,by omega⟩;unfold zp3;split
 ·have d:=zbm (zby s).1 (k:=12) (by decide);obtain ⟨c,e⟩:=zgo (fun s=>(zhh s).1) (1 + dr (zby s).1 12).toNat (nx (zby s).1) (zbh _);refine ⟨c,(zhh s).2,zii (P:=fun w=>zcv w=true) (fun s=>(zhh s).2) _ _,?_⟩;show 0 < (itP zby _ _).2.length/\(itP zby _ _).2.length<=12;rw [e];omega
 ·split
  ·obtain ⟨c1,c2,c3⟩:=zrm (nx s);obtain ⟨t1,t2⟩:=zhm (zcr (nx s)).1;obtain ⟨u1,u2⟩:=zhm (thP (zcr (nx s)).1).1;unfold zyy;generalize hx : zpu (dr (thP (thP (zcr (nx s)).1).1).1 3) (zcr (nx s)).2 (.is (thP (zcr (nx s)).1).2) (.no (thP (thP (zcr (nx s)).1).1).2)=x
   have hxo : zdg x/\x.unl=false:=by
    rw [<- hx];unfold zpu;split
    ·exact ⟨c2,c3⟩
    ·split
     ·exact ⟨t2,rfl⟩
     ·exact ⟨u2,rfl⟩
   refine ⟨zbh _,⟨fun p hq=>?_,?_⟩,⟨x,by simp,hxo.2⟩,hp⟩
   ·rcases mem_append.mp hq with q | q
    ·rcases mem_append.1 q with q | q
     ·exact hb.1 p (mem_of_mem_take q)
     ·rw [mem_singleton] at q; rw [q]; exact hxo.1
    ·exact hb.1 p (mem_of_mem_drop q)
   ·show (bd.take _++[x]++bd.drop _).length<=4;rw [length_append,length_append,length_singleton,length_take,length_drop];omega
  ·split
   ·obtain ⟨a1,a2⟩:=zk0 s;obtain ⟨b1,b2⟩:=zk0 (za4 s).1;obtain ⟨c,d,e⟩:=zsm (za4 (za4 s).1).1;have d3:=zbm (zci (za4 (za4 s).1).1).1 (k:=3) (by decide);obtain ⟨f,g⟩:=zgo (fun s=>(zjs s).1) (dr (zci (za4 (za4 s).1).1).1 3).toNat (nx (zci (za4 (za4 s).1).1).1) (zbh _);refine ⟨f,⟨a2,b2⟩,⟨d,e⟩,⟨zii (fun s=>(zjs s).2) _ _,?_⟩,hb4,hp⟩;rw [g];omega
   ·exact ⟨(zhm s).1,(zhm s).2,hb4,hp⟩
theorem yi9 (s:Int) : okS (ziu s).1/\zfe (ziu s).2:=by
 obtain ⟨_,b⟩:=z1x (nx s);have d4:=zbm (zdm (nx s)).1 (k:=4) (by decide);obtain ⟨f,g⟩:=zgo (fun s=>(zjs s).1) (dr (zdm (nx s)).1 4).toNat (nx (zdm (nx s)).1) (zbh _);exact yi7 _ _ _ _ b ⟨zii (fun s=>(zjs s).2) _ _,by rw [g]; omega⟩
theorem yj3 {α : Type} (f:α->D) (bd:List α) (v:Int) (h:0<=v/\v<=bd.length) : ((bd.drop (HT.sIx bd.length 0 none)).take (HT.sIx bd.length bd.length (some v) - HT.sIx bd.length 0 none))=bd.take v.toNat/\((bd.drop (HT.sIx bd.length 0 (some v))).take (HT.sIx bd.length bd.length none - HT.sIx bd.length 0 (some v)))=bd.drop v.toNat:=by
 obtain ⟨n,rfl⟩ : ∃ n : Nat,v=n:=⟨v.toNat,by omega⟩;have hn : n<=bd.length:=by omega
 rw [HT.sIx_none,HT.sIx_none,HT.sIx_nat,HT.sIx_nat,Nat.min_eq_left hn,drop_zero,Nat.sub_zero,Int.toNat_natCast];exact ⟨rfl,take_of_length_le (by rw [length_drop]; omega)⟩
theorem yi8 (l:Addr) (s:Int) (hs:okS s) : zsx l [] [] [.int s]=some ([.int (ziu s).1],(ziu s).2.toD):=by
 have d9:=zbm s (k:=9) (by decide);obtain ⟨b1,b2,b3⟩:=z1x (nx s);have d4:=zbm (zdm (nx s)).1 (k:=4) (by decide);obtain ⟨p1,p2⟩:=zgo (fun s=>(zjs s).1) (dr (zdm (nx s)).1 4).toNat (nx (zdm (nx s)).1) (zbh _)
 have w : wp zn6 [.pin l [.int s],.no,.no,.no,.no,.no,.no,.no,.no] (fun o=>∃ a1 a2 a3 a4 a5 a6 a7 a8,o=.rtS (ziu s).2.toD [.pin l [.int (ziu s).1],a1,a2,a3,a4,a5,a6,a7,a8]):=by
  unfold zn6 ziu;apply zaf;refine zbw (zc7 l s 9 _ rfl hs (by decide)) ?_;show wp _ [.pin l [.int (nx s)],.im (.int (dr s 9)),.no,.no,.no,.no,.no,.no,.no] _;generalize dr s 9=v at d9;apply zaf;refine zbw (zdn (F:=zdm) (toD:=fun z=>.lst (z.map Pa.toD)) (fun s h=>z95 l s h) (nx s) _ (zbh _)) ?_;generalize zdm (nx s)=B at *;show wp _ [.pin l [.int B.1],.im (.int v),.im (.lst (B.2.map Pa.toD)),.no,.no,.no,.no,.no,.no] _;apply zaf;refine zbw (zye l (dr B.1 4) (nx B.1) _ rfl (zc7 l B.1 4 _ rfl b1 (by decide)) (zbh _) ⟨by omega,by omega⟩) ?_;generalize itP zcs (dr B.1 4).toNat (nx B.1)=P at *;show wp _ [.pin l [.int P.1],.im (.int v),.im (.lst (B.2.map Pa.toD)),.im (.lst (P.2.map prD)),.no,.no,.no,.no,.no] _;generalize hBd : D.lst (B.2.map Pa.toD)=Bd;generalize hPd : D.lst (P.2.map prD)=Pd;unfold zp3;apply zaf;refine za2 (b:=v==0) (zba (zas rfl rfl (ze8 _ _))) (fun e=>?_) fun e=>za5 ?_
  ·have e0 : v=0:=by simpa using e
   rw [if_pos e0];unfold z68;obtain ⟨n1,_⟩:=zhh P.1;have d12:=zbm (zby P.1).1 (k:=12) (by decide);apply zaf;refine zbw (zdn (F:=zby) (toD:=sT) (fun s h=>zpm l s h) P.1 _ p1) ?_;generalize zby P.1=q at n1 d12;show wp _ [.pin l [.int q.1],.im (.int v),.im Bd,.im Pd,.im (.str (tx q.2)),.no,.no,.no,.no] _;have ec:=zro (F:=zby) (toD:=sT) (fun s h=>zpm l s h) (fun s=>(zhh s).1) (tl:=[.im (.int v),.im Bd,.im Pd,.im (.str (tx q.2)),.no,.no,.no,.no]) (zbh q.1) (zp2 (zb0 (zap (f:=fun _=>some (.int 1)) rfl) (zc7 l q.1 12 _ (f:=fun _=>some (.int 12)) rfl n1 (by decide)) zfh) (by omega) (by omega)) (by rw [zjw]; omega);rw [zjw] at ec;exact zbo (zdc (zaq (zap rfl) (zaq (zap rfl) (zaq ec rfl)))) ⟨_,_,_,_,_,_,_,_,rfl⟩
  have e0 : ¬ v=0:=by simpa using e
  rw [if_neg e0];show wp _ [.pin l [.int P.1],.im (.int v),.im Bd,.im Pd,.no,.no,.no,.no,.no] _;apply zaf;refine za2 (b:=decide (v < 3)) (zba (zas rfl rfl zi6)) (fun e=>?_) fun e=>za5 ?_
  ·rw [if_pos (of_decide_eq_true e)];unfold zyy;have da:=zbm P.1 (k:=(B.2.length : Int) + 1) (by omega);have hlen : zcg [Bd]=some (.int (B.2.length : Nat)):=by subst hBd; show some (D.int ((B.2.map Pa.toD).length : Int))=_; rw [length_map]
   apply zaf;refine zbw (zc7 l P.1 ((B.2.length : Int) + 1) _ (zas (zbi rfl hlen) rfl zfh) p1 (by omega)) ?_;have hsa:=zbh P.1;generalize dr P.1 ((B.2.length : Int) + 1)=at_ at da;generalize nx P.1=s1 at hsa;show wp _ [.pin l [.int s1],.im (.int v),.im Bd,.im Pd,.no,.im (.int at_),.no,.no,.no] _;obtain ⟨c1,_⟩:=zrm s1;obtain ⟨t1,_⟩:=zhm (zcr s1).1;obtain ⟨u1,_⟩:=zhm (thP (zcr s1).1).1;apply zaf;have lstX {f:Xa} {ρ ρ1:LS} {ds:LD} (h:f ρ=some (ds,ρ1)) : zmm f ρ=some (.lst ds,ρ1):=by unfold zmm; rw [h]; rfl
   refine zbw (lstX (zaq (zdn (F:=zcr) (toD:=Pa.toD) (fun s h=>z12 l s h) s1 _ hsa) (zaq (zdc (zaq (zap rfl) (zaq (zdn (F:=thP) (toD:=thD) (fun s h=>zqh l s h) (zcr s1).1 _ c1) rfl))) (zaq (zdc (zaq (zap rfl) (zaq (zdn (F:=thP) (toD:=thD) (fun s h=>zqh l s h) (thP (zcr s1).1).1 _ t1) rfl))) rfl)))) ?_;generalize (zcr s1).2=x1 at *;generalize thP (zcr s1).1=q1 at *;generalize thP q1.1=q2 at *;show wp _ [.pin l [.int q2.1],.im (.int v),.im Bd,.im Pd,.no,.im (.int at_),.im (.lst [x1.toD,.tup [.str "is",thD q1.2],.tup [.str "not",thD q2.2]]),.no,.no] _;have d3:=zbm q2.1 (k:=3) (by decide)
   have e3 : zd6 (.lst [x1.toD,.tup [.str "is",thD q1.2],.tup [.str "not",thD q2.2]]) (.int (dr q2.1 3))=some (zpu (dr q2.1 3) x1 (.is q1.2) (.no q2.2)).toD:=by
    have : dr q2.1 3=0\/dr q2.1 3=1\/dr q2.1 3=2:=by omega
    rcases this with e | e | e <;> (rw [e]; rfl)
   generalize zpu (dr q2.1 3) x1 (.is q1.2) (.no q2.2)=x at e3;obtain ⟨k1,k2⟩:=yj3 Pa.toD B.2 at_ ⟨da.1,by omega⟩
   have s1' : ∀ r0 r8 : Sl,zbp (mSl (zab 2) (fun _=>some none) (mPt (zab 5))) [r0,.im (.int v),.im Bd,.im Pd,.no,.im (.int at_),r8,.no,.no]=some (.lst ((B.2.take at_.toNat).map Pa.toD)):=fun r0 r8=>by
    subst hBd;rw [<- k1];exact zjj (zu1 rfl rfl rfl)
   have s2' : ∀ r0 r8 : Sl,zbp (mSl (zab 2) (mPt (zab 5)) (fun _=>some none)) [r0,.im (.int v),.im Bd,.im Pd,.no,.im (.int at_),r8,.no,.no]=some (.lst ((B.2.drop at_.toNat).map Pa.toD)):=fun r0 r8=>by
    subst hBd;rw [<- k2];exact zjj (zu1 rfl rfl rfl)
   have add2 : ∀ a b : LD,a.length + b.length<=1000->zcb (.lst a) (.lst b)=some (.lst (a++b)):=fun a b h=>by
    show (if a.length + b.length<=16777216 then some (D.lst (a++b)) else none)=_;rw [if_pos (by omega)]
   refine zbo (zdc (zaq (zap rfl) (zaq (zb0 (zb0 (zap (s1' _ _)) (lstX (zaq (zb0 (zap rfl) (zc7 l q2.1 3 _ rfl u1 (by decide)) e3) rfl)) (add2 _ _ ?_)) (zap (s2' _ _)) (add2 _ _ ?_)) (zaq (zap rfl) rfl)))) ?_
   ·rw [length_map,length_take,length_singleton]; omega
   ·rw [length_append,length_map,length_map,length_take,length_drop,length_singleton]; omega
   ·subst hPd;refine ⟨.im (.int v),.im Bd,.im (.lst (P.2.map prD)),.no,.im (.int at_),.im (.lst [x1.toD,.tup [.str "is",thD q1.2],.tup [.str "not",thD q2.2]]),.no,.no,?_⟩;show Fl.rtS (.tup [.str "never",.lst _,.lst (P.2.map prD)]) _=Fl.rtS (.tup [.str "never",.lst (List.map Pa.toD (_++[x]++_)),.lst (P.2.map prD)]) _;rw [map_append,map_append];rfl
  rw [if_neg (of_decide_eq_false e)];show wp _ [.pin l [.int P.1],.im (.int v),.im Bd,.im Pd,.no,.no,.no,.no,.no] _;apply zaf;refine za2 (b:=decide (v < 5)) (zba (zas rfl rfl zi6)) (fun e=>?_) fun e=>za5 ?_
  ·rw [if_pos (of_decide_eq_true e)];unfold z67;obtain ⟨a1,_⟩:=zk0 P.1;obtain ⟨a2,_⟩:=zk0 (za4 P.1).1;obtain ⟨c,_⟩:=zsm (za4 (za4 P.1).1).1;have d3:=zbm (zci (za4 (za4 P.1).1).1).1 (k:=3) (by decide);apply zaf;refine zbw (zdn (F:=za4) (toD:=D.int) (fun s h=>ztr l s h) P.1 _ p1) ?_;generalize za4 P.1=q1 at *;show wp _ [.pin l [.int q1.1],.im (.int v),.im Bd,.im Pd,.no,.no,.no,.im (.int q1.2),.no] _;apply zaf;refine zbw (zdn (F:=za4) (toD:=D.int) (fun s h=>ztr l s h) q1.1 _ a1) ?_;generalize za4 q1.1=q2 at *;show wp _ [.pin l [.int q2.1],.im (.int v),.im Bd,.im Pd,.no,.no,.no,.im (.int q1.2),.im (.int q2.2)] _;apply zaf;refine zbw (zdn (F:=zci) (toD:=fun z=>.lst (z.map zcf)) (fun s h=>z31 l s h) q2.1 _ a2) ?_;generalize zci q2.1=z at *;show wp _ [.pin l [.int z.1],.im (.int v),.im Bd,.im Pd,.no,.no,.im (.lst (z.2.map zcf)),.im (.int q1.2),.im (.int q2.2)] _;subst hBd hPd;exact zbo (zdc (zaq (zap rfl) (zaq (zap rfl) (zaq (zap rfl) (zaq (zap rfl) (zaq (zye l (dr z.1 3) (nx z.1) _ rfl (zc7 l z.1 3 _ rfl c (by decide)) (zbh _) ⟨by omega,by omega⟩) (zaq (zap rfl) (zaq (zap rfl) rfl)))))))) ⟨_,_,_,_,_,_,_,_,rfl⟩
  rw [if_neg (of_decide_eq_false e)];show wp _ [.pin l [.int P.1],.im (.int v),.im Bd,.im Pd,.no,.no,.no,.no,.no] _;unfold z69
  have ei : mIx (zac (kSt "rule") (zac (kSt "may") nZ)) (m2 zfi (zab 1) (kI 2)) [.pin l [.int P.1],.im (.int v),.im Bd,.im Pd,.no,.no,.no,.no,.no]=some (.str (ruS (decide (v % 2=0)))):=by
   refine zbf rfl (zas rfl rfl (zia (by decide))) ?_;have : v % 2=0\/v % 2=1:=by omega
   rcases this with e | e <;> (rw [e]; rfl)
  subst hBd hPd;exact zbo (zdc (zaq (zap ei) (zaq (zdn (F:=thP) (toD:=thD) (fun s h=>zqh l s h) P.1 _ p1) (zaq (zap rfl) (zaq (zap rfl) rfl))))) ⟨_,_,_,_,_,_,_,_,rfl⟩
 obtain ⟨o,e,a1,a2,a3,a4,a5,a6,a7,a8,rfl⟩:=w;exact zd4 (ρ:=[.pin l [.int (ziu s).1],a1,a2,a3,a4,a5,a6,a7,a8]) e rfl
theorem z18 (a b:LN) (h:a.length + b.length<=100000) : zcb (.str (tx a)) (.str (tx b))=some (.str (tx (a++b))):=by
 show (if (tx a).length + (tx b).length<=16777216 then some (D.str (tx a++tx b)) else none)=_;rw [zc3,zc3,if_pos (by omega),znq]
theorem ya0 (a b:LN) (h:a.length + b.length<=100000) : zi5 (.str (tx a)) (.str (tx b))=some (.str (tx (a++b))):=by
 show (if (tx a).length + (tx b).length<=16777216 then some (D.str (tx a++tx b)) else none)=_;rw [zc3,zc3,if_pos (by omega),znq]
variable {w:LN}
theorem zqp (h:zcx w=true) : 0 < w.length/\w.length<=8:=by
 unfold zcx at h;rw [Bool.or_eq_true] at h
 rcases h with h | h
 ·unfold zhp at h;rw [Bool.and_eq_true] at h;obtain ⟨h1,h2⟩:=h;unfold made at h1 h2;simp only [Bool.and_eq_true,Bool.or_eq_true,decide_eq_true_eq,length_take,length_drop] at h1 h2;omega
 ·unfold zcv made at h;simp only [Bool.and_eq_true,decide_eq_true_eq] at h;omega
theorem ztm (h:zcv w=true) : 0 < w.length/\w.length<=8:=zqp (by unfold zcx; rw [h,Bool.or_true])
theorem z9d (h:zhp w=true) : 0 < w.length/\w.length<=8:=zqp (by unfold zcx; rw [h]; rfl)
theorem cmT : ("," : Str)=tx [44]:=by decide +kernel
theorem opT : ("(" : Str)=tx [40]:=by decide +kernel
theorem clT : (")" : Str)=tx [41]:=by decide +kernel
variable {f:MF1}
theorem zvv {g:MF1} {a b:LD} (h:f ρ=some (.lst a)) (h':g ρ=some (.lst b)) (hl:a.length + b.length<=16777216) : zf6 f g ρ=some (a++b):=by
 unfold zf6;rw [h,h'];show (if a.length + b.length<=16777216 then some (a++b) else none)=_;rw [if_pos hl]
noncomputable def za0 (n:Int) : LN:=(Str.ofString (toString n)).cps.toList
theorem ye9 (n:Int) : Str.ofString (toString n)=tx (za0 n):=(ziy _).symm
theorem ztt (m:Nat) : za0 (-((m + 1 : Nat) : Int))=45::za0 ((m + 1 : Nat) : Int):=by
 unfold za0;have e : toString (-((m + 1 : Nat) : Int))="-" ++ Nat.repr (m + 1):=rfl;rw [e,W.KIN.signs_num,signs_ofString,String.toList_append,map_append,Nat.toList_repr];rfl
theorem ztu (m:Nat) (h:(m:Int) < 10 ^ 30) : 0 < (za0 (m:Int)).length/\(za0 (m:Int)).length<=30:=by
 have h1:=toString_length_le (v:=(m:Int)) (by omega) (k:=30) (by decide) h;have e : (Str.ofString (toString (m:Int))).length=(za0 (m:Int)).length:=rfl;refine ⟨?_,by rw [<- e]; exact h1⟩;unfold za0;rw [W.KIN.signs_num,length_map];exact length_pos_iff.mpr Nat.toDigits_ne_nil
variable {n:Int}
theorem zts (h:zdz n) : 0 < (za0 n).length/\(za0 n).length<=31:=by
 obtain ⟨h1,h2⟩:=h
 by_cases h0 : 0<=n
 ·obtain ⟨m,rfl⟩ : ∃ m : Nat,n=m:=⟨n.toNat,by omega⟩;have:=ztu m h2;omega
 ·obtain ⟨m,rfl⟩ : ∃ m : Nat,n=-((m + 1 : Nat) : Int):=⟨(-n).toNat - 1,by omega⟩;have:=ztu (m + 1) (by omega);rw [ztt,length_cons];omega
theorem yea (h:zdz n) : n.natAbs.log2 < 1920:=by
 obtain ⟨h1,h2⟩:=h
 have hb : n.natAbs < 2 ^ 100:=by
  have : (10 : Int) ^ 30 < 2 ^ 100:=by decide
  omega
 by_cases h0 : n.natAbs=0
 ·rw [h0]; decide
 ·have:=(Nat.log2_lt h0).mpr hb;omega
theorem z0x (h:zdz n) : zg6 (.int n)=some (.str (tx (za0 n))):=by
 show (if n.natAbs.log2 < 1920 then some (D.str (Str.ofString (toString n))) else none)=_;rw [if_pos (yea h),ye9]
theorem zw1 {z:Ti} (h:zcq z) : zdz z.2.1:=⟨by have h1:=h.2.1; have h2 : (0 : Int) < 10 ^ 30:=(by decide); omega,h.2.2⟩
noncomputable def cw (z:Str) : LN:=z.cps.toList
theorem cwT (z:Str) : z=tx (cw z):=(ziy z).symm
theorem cwD (z:Str) : D.str z=sT (cw z):=by show D.str z=D.str (tx (cw z)); rw [<- cwT]
open PySem.Builtin PySem.Builtin.Str
noncomputable def spr (c:Nat) (l:LN) : LN:=l.flatMap fun x=>if x=c then [32,c,32] else [x]
theorem zqf (c:Nat) (a b:LN) : spr c (a++b)=spr c a++spr c b:=by unfold spr; rw [flatMap_append]
theorem z0u (c:Nat) : ∀ l : LN,c∉l->spr c l=l
 | [],_=>rfl
 | k::r,h=>by
  obtain ⟨h1,h2⟩:=not_or.mp (fun e=>h (mem_cons.mpr e));have ih:=z0u c r h2;unfold spr at ih ⊢;rw [flatMap_cons,if_neg (Ne.symm h1),ih];rfl
theorem znj (c:Nat) : ∀ l : LN,(spr c l).length<=3 * l.length
 | []=>Nat.le_refl _
 | k::r=>by
  have ih:=znj c r;unfold spr at ih ⊢;rw [flatMap_cons,length_append,length_cons]
  split <;> (simp only [length_cons,length_nil]; omega)
theorem z9t (c:Nat) : (zny c).cps.toList=[32,c,32]:=rfl
theorem z8k (c:Nat) : ∀ parts : LSt,(∀ p∈parts,c∉p.cps.toList)->spr c (Str.join ⟨#[c]⟩ parts).cps.toList=(Str.join (zny c) parts).cps.toList
 | [],_=>rfl
 | [p],h=>z0u c _ (h p (mem_singleton.mpr rfl))
 | p::q::r,h=>by
  have ih:=z8k c (q::r) fun a ha=>h a (mem_cons_of_mem _ ha);show spr c (p++⟨#[c]⟩++Str.join ⟨#[c]⟩ (q::r)).cps.toList=(p++zny c++Str.join (zny c) (q::r)).cps.toList;simp only [Array.toList_append,Str.cps_append];rw [zqf,zqf,ih,z0u c _ (h p (mem_cons_self ..)),z9t];show p.cps.toList++spr c [c]++_=_;have : spr c [c]=[32,c,32]:=by unfold spr; simp
  rw [this]
theorem zp5 (l:LN) (c:Nat) : zcw (tx l) c=tx (spr c l):=by
 rw [<- ziy (zcw (tx l) c)];unfold zcw;rw [StrLaws.replace_one,<- z8k c _ (StrLaws.split_free (tx l) c),StrLaws.join_split]
noncomputable def zcy (c:Nat) : LN->LN->L2N
 | [],cur=>[cur]
 | x::r,cur=>if x=c then cur::zcy c r [] else zcy c r (cur++[x])
theorem zvy (c:Nat) : ∀ (p r cur:LN),c∉p->zcy c (p++r) cur=zcy c r (cur++p)
 | [],r,cur,_=>by rw [nil_append,append_nil]
 | k::p,r,cur,h=>by
  have h1 : k≠c:=(ne_of_not_mem_cons h).symm;have ih:=zvy c p r (cur++[k]) fun m=>h (mem_cons_of_mem _ m);rw [cons_append,zcy,if_neg h1,ih,append_assoc];rfl
theorem zrp (c:Nat) : ∀ parts : LSt,parts≠[]->(∀ p∈parts,c∉p.cps.toList)->zcy c (Str.join ⟨#[c]⟩ parts).cps.toList []=parts.map fun p=>p.cps.toList
 | [],h,_=>absurd rfl h
 | [p],_,h=>by
  have:=zvy c p.cps.toList [] [] (h p (mem_singleton.mpr rfl));rw [append_nil,nil_append] at this
  exact this
 | p::q::r,_,h=>by
  have ih:=zrp c (q::r) (by simp) fun a ha=>h a (mem_cons_of_mem _ ha);show zcy c (p++⟨#[c]⟩++Str.join ⟨#[c]⟩ (q::r)).cps.toList []=_;simp only [Str.cps_append,Array.toList_append,append_assoc];rw [zvy c _ _ _ (h p (mem_cons_self ..)),nil_append];show zcy c (c::(Str.join ⟨#[c]⟩ (q::r)).cps.toList) p.cps.toList=_;rw [zcy,if_pos rfl,ih];rfl
theorem z8j (x y:Str) : Txt.split x y≠[]:=by
 unfold Txt.split;split
 ·simp
 ·split
  ·simp
  ·rw [StrLaws.partsBetween_eq];obtain ⟨p,r,e⟩:=StrLaws.partsFrom_ne x y.length 0 (occurrences x y 0 x.length (x.length + 1));rw [e];simp
theorem ykd (l:LN) : Txt.split (tx l) (" " : Str)=(zcy 32 l []).map tx:=by
 have e : (" " : Str)=⟨#[32]⟩:=rfl;rw [e];have h:=zrp 32 (Txt.split (tx l) ⟨#[32]⟩) (z8j _ _) (StrLaws.split_free (tx l) 32);rw [StrLaws.join_split] at h;rw [show (tx l).cps.toList=l from rfl] at h;rw [h,map_map]
 conv=>lhs; rw [<- map_id (Txt.split (tx l) ⟨#[32]⟩)]
 apply map_congr_left;intro p _;exact (ziy p).symm
theorem z52 (x y:Str) : (zt7 x y).length<=x.length + 2:=by
 unfold zt7 partsBetween;have few:=StrLaws.occ_length_le x y 0 x.length (x.length + 1);simp only [length_map,length_zip,length_cons,length_append];omega
theorem ya3 (l:LN) (h:l.length<=1000000) : zg5 (.str (tx l)) (.str " ")=some (.lst ((zcy 32 l []).map fun w=>.str (tx w))):=by
 unfold zg5;dsimp only;have:=z52 (tx l) (" " : Str);rw [zc3] at this;rw [if_pos ⟨by decide,by rw [zc3]; omega,by omega⟩,ykd,map_map];rfl
noncomputable def zhb (x:Nat) : Bool:=x==40 || x==41 || x==44
noncomputable def fl (cur:LN) : L2N:=if cur=[] then [] else [cur]
noncomputable def ws : LN->LN->L2N
 | [],cur=>fl cur
 | x::r,cur=>if x=32 then fl cur++ws r [] else if zhb x=true then fl cur++[x]::ws r [] else ws r (cur++[x])
noncomputable def zfw (l:LN) : LN:=spr 44 (spr 41 (spr 40 l))
theorem yke (x:Nat) (r:LN) : zfw (x::r)=(if zhb x=true then [32,x,32] else [x])++zfw r:=by
 unfold zfw;rw [show x::r=[x]++r from rfl,zqf,zqf,zqf]
 congr 1
 by_cases h0 : x=40
 ·subst h0; rfl
 ·by_cases h1 : x=41
  ·subst h1; rfl
  ·by_cases h2 : x=44
   ·subst h2; rfl
   ·have h3 : zhb x=false:=by simp [zhb,h0,h1,h2]
    rw [h3];simp [spr,h0,h1,h2]
theorem zrq : ∀ (l cur:LN),(zcy 32 (zfw l) cur).filter (fun w=>!decide (w=[]))=ws l cur
 | [],cur=>by
  show ([cur] : L2N).filter _=fl cur;unfold fl
  by_cases h : cur=[] <;> simp [h]
 | x::r,cur=>by
  have flf : ∀ (z:L2N),(cur::z).filter (fun w=>!decide (w=[]))=fl cur++z.filter (fun w=>!decide (w=[])):=fun z=>by
   unfold fl
   by_cases h : cur=[] <;> simp [h]
  rw [yke];unfold ws
  by_cases h : x=32
  ·subst h;rw [if_pos rfl,if_neg (by decide)];show (zcy 32 (32::zfw r) cur).filter _=_;rw [zcy,if_pos rfl,flf,zrq r []]
  ·rw [if_neg h]
   by_cases h2 : zhb x=true
   ·rw [if_pos h2,if_pos h2];show (zcy 32 (32::x::32::zfw r) cur).filter _=_;rw [zcy,if_pos rfl,flf,zcy,if_neg h,zcy,if_pos rfl];show _++([x]::zcy 32 (zfw r) []).filter _=_;rw [filter_cons,if_pos (by simp),zrq r []]
   ·rw [if_neg h2,if_neg h2];show (zcy 32 (x::zfw r) cur).filter _=_;rw [zcy,if_neg h,zrq r (cur++[x])]
theorem ykf (l:LN) : (zfw l).length<=27 * l.length:=by
 have h1:=znj 40 l;have h2:=znj 41 (spr 40 l);have h3:=znj 44 (spr 41 (spr 40 l));unfold zfw;omega
def plain (w:LN) : Prop:=∀ x∈w,x≠32/\zhb x=false
theorem z9l : ∀ (w r cur:LN),plain w->ws (w++r) cur=ws r (cur++w)
 | [],r,cur,_=>by rw [nil_append,append_nil]
 | x::w,r,cur,h=>by
  have hx:=h x (mem_cons_self ..);have ih:=z9l w r (cur++[x]) fun y hy=>h y (mem_cons_of_mem _ hy);rw [cons_append,ws,if_neg hx.1,if_neg (by rw [hx.2]; decide),ih,append_assoc];rfl
theorem zva : ∀ (n:Nat) (r:LN),ws (List.replicate n 32++r) []=ws r []
 | 0,r=>rfl
 | n + 1,r=>by
  rw [replicate_succ,cons_append,ws,if_pos rfl,zva n r];rfl
theorem z9k (n:Nat) (r cur:LN) : ws (List.replicate (n + 1) 32++r) cur=fl cur++ws r []:=by
 rw [replicate_succ,cons_append,ws,if_pos rfl,zva n r]
theorem z08 {x:Nat} (r cur:LN) (h:zhb x=true) : ws (x::r) cur=fl cur++[x]::ws r []:=by
 have h32 : ¬ x=32:=fun e=>by subst e; cases h
 rw [ws,if_neg h32,if_pos h]
noncomputable def wD (ws:L2N) : LD:=ws.map fun w=>.str (tx w)
theorem yec : ("(),": Str).cps.toList=[40,41,44]:=rfl
theorem ylx (l:LN) (h:l.length<=20000) : wp zn3 [.im (.str (tx l)),.no,.no] (fun o=>o=.rtO (wD (ws l []))):=by
 have l1:=znj 40 l;have l2:=znj 41 (spr 40 l);have l3:=ykf l
 have hok : zp4 (tx l) [40,41,44]=true:=by
  unfold zp4;show ((decide (4 * (tx l).length + 3<=16777216)) && ((decide (4 * (zcw (tx l) 40).length + 3<=16777216)) && ((decide (4 * (zcw (zcw (tx l) 40) 41).length + 3<=16777216)) && true)))=true;rw [zp5,zp5,zc3,zc3,zc3,decide_eq_true (by omega),decide_eq_true (by omega),decide_eq_true (by omega)];rfl
 have h1 : zpd 1 2 "()," (zab 0) [.im (.str (tx l)),.no,.no]=some (.nx [.im (.str (tx l)),.im (.str (tx (zfw l))),.im (.str ⟨#[44]⟩)]):=by
  unfold zpd;rw [show zab 0 [Sl.im (.str (tx l)),.no,.no]=some (.str (tx l)) from rfl,bind_some,yec];show (if zp4 (tx l) [40,41,44]=true then _ else none)=_;rw [if_pos hok];show some (Fl.nx [.im (.str (tx l)),.im (.str (zcw (zcw (zcw (tx l) 40) 41) 44)),.im (.str ⟨#[44]⟩)])=_;rw [zp5,zp5,zp5];rfl
 unfold zn3;apply zaf;refine zh6 h1 ?_;refine yl1 (d:=wD (ws l [])) ?_ rfl;unfold wD;rw [<- zrq l []]
 have hl : ∀ (r cur:LN),(zcy 32 r cur).length<=r.length + 1:=by
  intro r
  induction r with
  | nil=>intro cur; exact Nat.le_refl _
  | cons x r ih =>
   intro cur;unfold zcy;split
   ·have:=ih []; simp only [length_cons]; omega
   ·have:=ih (cur++[x]); simp only [length_cons]; omega
 have hl3:=hl (zfw l) [];refine z15 (zcy 32 (zfw l) []) (fun w=>D.str (tx w)) (fun w=>!decide (w=[])) (fun w=>D.str (tx w)) (zne (zas rfl rfl (ya3 _ (by omega))) rfl) (by omega) fun w _=>?_
 have e1 : ((tx w)==("" : Str))=decide (w=[]):=by
  by_cases hw : w=[]
  ·subst hw; rfl
  ·rw [decide_eq_false hw]
   cases e : ((tx w)==("" : Str)) with
   | false=>rfl
   | true=>exact absurd (zhn ((eq_of_beq e).trans (show ("" : Str)=tx [] from rfl))) hw
 have e2:=z04 (g:=zbe 0) (ft:=mB (m2 dNe (zab 0) (kSt ""))) (fe:=zab 0) (ρ:=zb9 1 [] [.im (.str (tx l)),.im (.str (tx (zfw l))),.im (.str ⟨#[44]⟩)]) (d:=.str (tx w)) (b:=!decide (w=[])) (y:=.str (tx w)) rfl (zba (zas rfl rfl (by rw [z2a,e1]))) fun _=>rfl;exact e2
theorem zqk (l:LN) (h:l.length<=20000) : zf9 [.str (tx l)]=some (.lst (wD (ws l []))):=by
 obtain ⟨o,e,rfl⟩:=ylx l h;exact z7e e
open NumText PySem.Builtin PySem.Builtin.Str
noncomputable def dgL : LN:=("0123456789" : Str).cps.toList
theorem zrz (x:Nat) : x∈dgL↔48<=x/\x<=57:=by
 have e : dgL=[48,49,50,51,52,53,54,55,56,57]:=rfl;rw [e];simp only [mem_cons,not_mem_nil,or_false];omega
noncomputable def fgs (w:LN) : LN:=if w.head?=some 45 then w.tail else w
noncomputable def zkn (w:LN) : Bool:=if w==[48] then true else made (fgs w) dgL 30 && !decide ((fgs w).head?=some 48)
abbrev asc (w:LN) : Prop:=w.all (· < 128)=true
theorem z9v (h:asc w) : (tx w).cps.all (· < 128)=true:=by
 show w.toArray.all _=true
 simpa using h
theorem yc9 (x:Nat) (sg:LN) : inS ⟨#[x]⟩ (tx sg)=decide (x∈sg):=StrLaws.found_one (tx sg) x
theorem z4k (w:LN) (h:w.length<=1000) : zcg [.str (tx w)]=some (.int (w.length : Int)):=by
 show (if (tx w).length<=16777216 then some (D.int ((tx w).length : Int)) else none)=_;rw [zc3,if_pos (by omega)]
theorem ykj (h:f ρ=some (.str (tx w))) (ha:asc w) : zmo f ρ=some (w.map fun x=>D.str ⟨#[x]⟩):=by
 unfold zmo;rw [h,bind_some];show (if (tx w).cps.all (· < 128)=true then some ((tx w).cps.toList.map fun ch=>D.str ⟨#[ch]⟩) else none)=_;rw [if_pos (z9v ha)]
theorem zvj (bs:List Bool) : zh8 [.lst (bs.map D.bl)]=some (.bl (bs.all id)):=by
 have : ∀ l : List Bool,zg2 (l.map D.bl)=some l:=by
  intro l
  induction l with
  | nil=>rfl
  | cons a l ih=>rw [map_cons]; unfold zg2; rw [ih]; rfl
 show ((zg2 (bs.map D.bl)).map fun bs=>D.bl (bs.all id))=_;rw [this];rfl
theorem zti (w sg:LN) (most:Nat) (hw:w.length<=1000) (ha:asc w) : zmt [.str (tx w),.str (tx sg),.int (most:Int)]=some (.bl (made w sg most)):=by
 apply zhq;unfold zq1;show wp _ [.im (.str (tx w)),.im (.str (tx sg)),.im (.int (most:Int))] _;refine zgx ?_ (zf2 rfl);unfold made;refine zj2 ?_ ?_
 ·have:=yao (m:=dLe) (m':=dLe) (f:=fun _=>some (.int 1)) (g:=zax zcg (zac (zab 0) nZ)) (h:=zab 2) (ρ:=[.im (.str (tx w)),.im (.str (tx sg)),.im (.int (most:Int))]) rfl (zbi rfl (z4k w hw)) zv3 rfl zv3;rw [this]
  congr 3 <;> exact decide_eq_decide.mpr (by omega)
 ·have hc : zdq 1 [1] (zmo (zab 0)) (zbe 0) kY (m2 zlw (zab 0) (zab 1)) [.im (.str (tx w)),.im (.str (tx sg)),.im (.int (most:Int))]=some ((w.map fun x=>decide (x∈sg)).map D.bl):=by
   rw [map_map];exact zos w (fun x=>D.str ⟨#[x]⟩) (fun x=>D.bl (decide (x∈sg))) (ykj rfl ha) (by omega) fun x _=>zqi rfl rfl (zas rfl rfl (show some (D.bl (inS ⟨#[x]⟩ (tx sg)))=_ by rw [yc9]))
  refine zbi (zaz (zjj hc) rfl) ?_;rw [zvj,all_map];rfl
theorem ye3 (w:LN) : zi8 (.str (tx w)) (.kt (kpS.map D.str))=some (.bl (!kept w)):=by
 rw [kpD];show some (D.bl (!((kpW.map fun w=>D.str (tx w)).any fun d=>eqX d (.str (tx w)))))=_;rw [any_map];unfold kept
 congr 3
 refine congrArg (fun p=>kpW.any p) (funext fun k=>?_);show (tx k==tx w)=(k==w);apply Bool.eq_iff_iff.mpr;rw [beq_iff_eq,beq_iff_eq];exact ⟨zhn,fun e=>by rw [e]⟩
theorem dgT : ("0123456789" : Str)=tx dgL:=(ziy _).symm
theorem z4v (w:LN) (hw:w.length<=1000) (ha:asc w) : ztf [.str (tx w)]=some (.bl (zcv w)):=by
 apply zhq;unfold zre;show wp _ [.im (.str (tx w))] _;refine zgx (zj2 ?_ (zas rfl rfl (ye3 w))) (zf2 rfl);refine zbi (zaz rfl (zaz rfl (zaz rfl rfl))) ?_;rw [smT];exact zti w smL 8 hw ha
theorem z8f (w:LN) (i:Int) (h:0<=i/\i<=w.length) : Txt.slice (tx w) (some i) none=tx (w.drop i.toNat):=by
 have:=StrLaws.sliceText_from (x:=tx w) (i:=i) ⟨h.1,h.2⟩;show StrLaws.sliceText (tx w) (some i) none=_;rw [this]
 congr 2
 show (w.drop i.toNat).take _=_;rw [take_of_length_le (by rw [length_drop]; show _<=((w.length : Int) - i).toNat; omega)]
theorem yj7 (w:LN) (i:Int) (h:(w.length : Int)<=i) : Txt.slice (tx w) (some i) none=tx (w.drop i.toNat):=by
 have e : PySem.Builtin.Str.strSliceIndices (some i) none 1 (tx w).length=PySem.Builtin.Str.strSliceIndices (some ((tx w).length : Int)) none 1 (tx w).length:=by
  have hl:=zc3 w;have e1 : ¬ i < 0:=by omega
  have e2 : ¬ (((tx w).length : Nat) : Int) < 0:=by omega
  have e3 : min i (((tx w).length : Nat) : Int)=((tx w).length : Nat):=by omega
  simp [PySem.Builtin.Str.strSliceIndices,e1,e2,e3]
 have e0 : Txt.slice (tx w) (some i) none=Txt.slice (tx w) (some (w.length : Int)) none:=by
  unfold Txt.slice;rw [e,zc3]
 rw [e0,z8f w _ ⟨by omega,by omega⟩,drop_of_length_le (by omega),drop_of_length_le (by omega)]
theorem z8e (w:LN) (i:Int) (h:0<=i) : Txt.slice (tx w) (some i) none=tx (w.drop i.toNat):=by
 by_cases hi : i<=w.length
 ·exact z8f w i ⟨h,hi⟩
 ·exact yj7 w i (by omega)
theorem yj9 (w:LN) (j:Int) (h:0<=j/\j<=w.length) : Txt.slice (tx w) none (some j)=tx (w.take j.toNat):=by
 have:=StrLaws.sliceText_to (x:=tx w) (j:=j) ⟨h.1,h.2⟩;show StrLaws.sliceText (tx w) none (some j)=_;rw [this];simp
theorem yj8 (w:LN) : Txt.slice (tx w) none (some 1)=tx (w.take 1):=by
 cases w with
 | nil=>rfl
 | cons a w=>exact yj9 (a::w) 1 ⟨by decide,by rw [length_cons]; omega⟩
theorem ya2 (w:LN) (lo hi:Option Int) (h:w.length<=1000) : zja (.str (tx w)) lo hi=some (.str (Txt.slice (tx w) lo hi)):=by
 show (if (tx w).length<=16777216 then some (D.str (Txt.slice (tx w) lo hi)) else none)=_;rw [zc3,if_pos (by omega)]
theorem z0p {l h:LS->Option (Option Int)} {lo hi:Option Int} {r:Str} (e1:f ρ=some (.str (tx w))) (e2:l ρ=some lo) (e3:h ρ=some hi) (hw:w.length<=1000) (e4:Txt.slice (tx w) lo hi=r) : zku f l h ρ=some (.str r):=by
 unfold zku;rw [e1,bind_some,e2,bind_some,e3,bind_some,ya2 w lo hi hw,e4]
theorem zvm {a b:LN} (h:asc b) (hs:a ⊆ b) : asc a:=all_eq_true.mpr fun x hx=>all_eq_true.mp h x (hs hx)
theorem z9c (w:LN) (hw:w.length<=1000) (ha:asc w) : ztg [.str (tx w)]=some (.bl (zhp w)):=by
 apply zhq;unfold zrf;show wp _ [.im (.str (tx w))] _;refine zgx (zj2 ?_ (z86 ?_ ?_)) (zf2 rfl)
 ·refine zbi (zaz (z0p (w:=w) rfl rfl rfl hw (yj8 w)) (zaz rfl (zaz rfl rfl))) ?_;rw [grT];exact zti (w.take 1) grL 1 (by rw [length_take]; omega) (zvm ha (take_subset _ _))
 ·refine zas (zbi rfl (z4k w hw)) rfl ((ze8 _ _).trans ?_)
  congr 2
  by_cases e : w.length=1
  ·rw [e]; rfl
  ·rw [decide_eq_false e]; exact beq_eq_false_iff_ne.mpr (by omega)
 ·refine zbi (zaz (z0p (w:=w) rfl rfl rfl hw (z8e w 1 (by decide))) (zaz rfl (zaz rfl rfl))) ?_;rw [smT];exact zti (w.drop 1) smL 7 (by rw [length_drop]; omega) (zvm ha (drop_subset _ _))
theorem z8n (w:LN) (x:Nat) : Txt.startswith (tx w) ⟨#[x]⟩=decide (w.head?=some x):=by
 unfold Txt.startswith
 cases w with
 | nil=>rfl
 | cons a w =>
  rw [StrLaws.subAt_eq];show (decide (0 + 1<=(tx (a::w)).length) && (((a::w).drop 0).take 1==[x]))=_;rw [zc3,decide_eq_true (by simp)]
  by_cases e : a=x
  ·subst e; simp
  ·simp [e]
theorem zw0 (w:LN) (hw:w.length<=1000) (ha:asc w) : zs6 [.str (tx w)]=some (.bl (zkn w)):=by
 apply zhq;unfold zq6 zkn;show wp _ [.im (.str (tx w)),.no] _
 have e0 : ((tx w)==("0" : Str))=(w==[48]):=by
  by_cases h : w=[48]
  ·subst h; rfl
  ·rw [beq_eq_false_iff_ne.mpr h];exact beq_eq_false_iff_ne.mpr fun e=>h (zhn (e.trans (show ("0" : Str)=tx [48] from rfl)))
 apply zaf;refine za2 (b:=(w==[48])) (zba (zas rfl rfl ((zv2 _ _).trans (by rw [e0])))) (fun h=>?_) (fun h=>?_)
 ·rw [h];exact zgx rfl (zf2 rfl)
 ·rw [h];refine za5 ?_;show wp _ [.im (.str (tx w)),.no] _;apply zaf;have hs : zlz (.str (tx w)) (.str "-")=some (.bl (decide (w.head?=some 45))):=congrArg (fun b=>some (D.bl b)) (z8n w 45);refine ze4 (d:=.str (tx (fgs w))) (z84 (b:=decide (w.head?=some 45)) (zf7 (zas rfl rfl hs) rfl) (fun e=>?_) (fun e=>?_)) ?_
  ·have e:=of_decide_eq_true e;unfold fgs;rw [if_pos e];refine z0p (w:=w) rfl rfl rfl hw ((z8e w 1 (by decide)).trans ?_)
   cases w <;> rfl
  ·have e:=of_decide_eq_false e;unfold fgs;rw [if_neg e];rfl
  ·show wp _ [.im (.str (tx w)),.im (.str (tx (fgs w)))] _
   have fl : (fgs w).length<=w.length/\fgs w ⊆ w:=by
    unfold fgs;split
    ·exact ⟨by rw [length_tail]; omega,fun _ h=>mem_of_mem_tail h⟩
    ·exact ⟨Nat.le_refl _,fun _ h=>h⟩
   have hs2 : zlz (.str (tx (fgs w))) (.str "0")=some (.bl (decide ((fgs w).head?=some 48))):=congrArg (fun b=>some (D.bl b)) (z8n (fgs w) 48);refine zgx (zj2 ?_ (z85 (zas rfl rfl hs2))) (zf2 rfl);refine zbi (zaz rfl (zaz rfl (zaz rfl rfl))) ?_;rw [dgT];exact zti (fgs w) dgL 30 (by omega) (zvm ha fl.2)
open NumText PySem.Builtin PySem.Builtin.Str
noncomputable def nz (cs:LN) : LN:=match cs.dropWhile (·==48) with
 | []=>[48]
 | c::r=>c::r
variable {cs:LN}
theorem yfc (h:zi2 dgL cs=true) : ∀ x∈nz cs,48<=x/\x<=57:=by
 intro x hx;unfold nz at hx;split at hx
 ·rw [mem_singleton.mp hx]; decide
 ·rename_i e;have : x∈cs.dropWhile (·==48):=by rw [e]; exact hx
  have hm:=(dropWhile_sublist _).subset this;exact (zrz x).mp (of_decide_eq_true (all_eq_true.mp h x hm))
theorem ykg (h:zi2 dgL cs=true) : (Nat.toDigits 10 (digitsVal cs)).map Char.toNat=nz cs:=by
 have had : AllDigits cs:=fun x hx=>(zrz x).mp (of_decide_eq_true (all_eq_true.mp h x hx));rw [toDigits_all cs had];have nd:=yfc h;unfold nz at nd ⊢;split
 ·rename_i e; rw [e]; rfl
 ·rename_i c r e;rw [e] at nd ⊢;rw [map_map]
  conv=>rhs; rw [<- map_id (c::r)]
  apply map_congr_left;intro x hx;have:=nd x hx;have hb : ∀ y : Fin 58,(Char.ofNat y.val).toNat=y.val:=by decide
  exact hb ⟨x,by omega⟩
noncomputable def dig (m:Nat) : LN:=(Nat.toDigits 10 m).map Char.toNat
theorem zmx (m:Nat) : za0 ((m:Nat) : Int)=dig m:=W.KIN.signs_num m
theorem zl2 (m:Nat) : AllDigits (dig m):=by
 intro c hc;unfold dig at hc;obtain ⟨ch,hm,rfl⟩:=mem_map.mp hc;exact digit_range (Nat.isDigit_of_mem_toDigits (by decide) (by decide) hm)
theorem zwd (m:Nat) : zi2 dgL (dig m)=true:=all_eq_true.mpr fun x hx=>decide_eq_true ((zrz x).mpr (zl2 m x hx))
theorem zr2 (m:Nat) : digitsVal (dig m)=m:=W.KIN.val_back m
theorem ybe (m:Nat) : dig m=nz (dig m):=by
 have:=ykg (zwd m);rw [zr2] at this;exact this
theorem z2u (m:Nat) (h:dig m≠[48]) : (dig m).head?≠some 48:=by
 have e:=ybe m;unfold nz at e;split at e
 ·exact absurd e h
 ·rename_i c r hd;rw [e];intro z;have hc : c=48:=by simpa using z
  have:=head_dropWhile_not (p:=fun x : Nat=>x==48) (l:=dig m) (by rw [hd]; simp);simp only [hd,head_cons] at this;rw [hc] at this;exact absurd this (by decide)
theorem z2v (m:Nat) : dig m≠[]:=by
 unfold dig;simp [Nat.toDigits_ne_nil]
theorem z46 (h:zdz n) : zkn (za0 n)=true:=by
 obtain ⟨h1,h2⟩:=h
 by_cases h0 : 0<=n
 ·obtain ⟨m,rfl⟩ : ∃ m : Nat,n=m:=⟨n.toNat,by omega⟩;have l:=ztu m h2;rw [zmx] at l ⊢;unfold zkn
  by_cases e : dig m=[48]
  ·rw [e]; rfl
  ·rw [if_neg (by simpa using e)]
   have ef : fgs (dig m)=dig m:=by
    unfold fgs;refine if_neg fun z=>?_;have:=zl2 m 45 (mem_of_mem_head? z);omega
   rw [ef,decide_eq_false (z2u m e)];unfold made;rw [zwd,decide_eq_true (show 1<=(dig m).length by omega),decide_eq_true l.2];rfl
 ·obtain ⟨m,rfl⟩ : ∃ m : Nat,n=-((m + 1 : Nat) : Int):=⟨(-n).toNat - 1,by omega⟩;have l:=ztu (m + 1) (by omega);rw [ztt];rw [zmx] at l ⊢;unfold zkn;rw [if_neg (by simp)];have ef : fgs (45::dig (m + 1))=dig (m + 1):=rfl
  have hn : dig (m + 1)≠[48]:=fun e=>by
   have:=zr2 (m + 1);rw [e] at this;exact absurd this (by show ¬ 0=m + 1; omega)
  rw [ef,decide_eq_false (z2u _ hn)];unfold made;rw [zwd,decide_eq_true (show 1<=(dig (m + 1)).length by omega),decide_eq_true l.2];rfl
theorem yfa (h:zdz n) : zot (.str (tx (za0 n)))=some (.int n):=by
 have l:=zts h;show (if (tx (za0 n)).length<=640 then (PySem.intText? (tx (za0 n))).map D.int else none)=_;rw [zc3,if_pos (by omega)];obtain ⟨h1,h2⟩:=h
 by_cases h0 : 0<=n
 ·obtain ⟨m,rfl⟩ : ∃ m : Nat,n=m:=⟨n.toNat,by omega⟩;rw [zmx] at l ⊢;rw [intText_digits (x:=tx (dig m)) (zl2 m) (z2v m) (by rw [zc3]; omega)];show some (D.int ((digitsVal (dig m) : Nat) : Int))=_;rw [zr2]
 ·obtain ⟨m,rfl⟩ : ∃ m : Nat,n=-((m + 1 : Nat) : Int):=⟨(-n).toNat - 1,by omega⟩;rw [ztt,zmx] at l ⊢;rw [intText_neg (x:=tx (45::dig (m + 1))) (cs:=dig (m + 1)) rfl (zl2 _) (z2v _) (by rw [zc3]; omega)];show some (D.int (-((digitsVal (dig (m + 1)) : Nat) : Int)))=_;rw [zr2]
theorem zxw : ∀ x∈za0 n,x=45\/(48<=x/\x<=57):=by
 intro x hx
 by_cases h0 : 0<=n
 ·obtain ⟨m,rfl⟩ : ∃ m : Nat,n=m:=⟨n.toNat,by omega⟩;rw [zmx] at hx;exact .inr (zl2 m x hx)
 ·obtain ⟨m,rfl⟩ : ∃ m : Nat,n=-((m + 1 : Nat) : Int):=⟨(-n).toNat - 1,by omega⟩;rw [ztt,zmx] at hx
  rcases mem_cons.mp hx with e | e
  ·exact .inl e
  ·exact .inr (zl2 _ x e)
theorem z8g : ∀ x∈smL,97<=x/\x<=122:=by decide +kernel
theorem ycx : ∀ x∈grL,65<=x/\x<=90:=by decide +kernel
theorem zvi {sg:LN} (h:zi2 sg w=true) : ∀ x∈w,x∈sg:=fun x hx=>of_decide_eq_true (all_eq_true.mp h x hx)
theorem z4x (h:zcv w=true) : ∀ x∈w,97<=x/\x<=122:=by
 unfold zcv made at h;simp only [(Bool.and_eq_true)] at h;exact fun x hx=>z8g x (zvi h.1.2 x hx)
theorem z9e (h:zhp w=true) : (∀ x∈w,65<=x/\x<=122)/\∃ c r,w=c::r/\c<=90:=by
 have hl:=z9d h;unfold zhp at h;rw [Bool.and_eq_true,Bool.or_eq_true] at h;obtain ⟨h1,h2⟩:=h;unfold made at h1 h2;simp only [Bool.and_eq_true,decide_eq_true_eq] at h1 h2
 cases w with
 | nil=>exact absurd hl.1 (by decide)
 | cons c r =>
  have hc:=ycx c (zvi h1.2 c (by simp));refine ⟨fun x hx=>?_,c,r,rfl,hc.2⟩
  rcases mem_cons.mp hx with e | e
  ·rw [e]; omega
  ·rcases h2 with q | q
   ·have : r=[]:=eq_nil_of_length_eq_zero (by rw [length_cons] at q; omega);rw [this] at e;exact (not_mem_nil e).elim
   ·have:=z8g x (zvi q.2 x e);omega
theorem zvk (h:zcx w=true) : ∀ x∈w,65<=x/\x<=122:=by
 unfold zcx at h;rw [Bool.or_eq_true] at h
 rcases h with h | h
 ·exact (z9e h).1
 ·intro x hx;have:=z4x h x hx;omega
theorem yht (h:∀ x∈w,65<=x/\x<=122) : plain w:=fun x hx=>by
 have:=h x hx;refine ⟨by omega,?_⟩;unfold zhb;simp only [Bool.or_eq_false_iff,beq_eq_false_iff_ne,ne_eq];omega
theorem yfb (n:Int) : plain (za0 n):=fun x hx=>by
 have:=zxw x hx;refine ⟨by omega,?_⟩;unfold zhb;simp only [Bool.or_eq_false_iff,beq_eq_false_iff_ne,ne_eq];omega
theorem z1h (h:∀ x∈w,x < 128) : asc w:=all_eq_true.mpr fun x hx=>decide_eq_true (h x hx)
theorem zqo (h:zcx w=true) : asc w:=z1h fun x hx=>by have:=zvk h x hx; omega
theorem zhi (h:zcv w=true) : zcx w=true:=by unfold zcx; rw [h,Bool.or_true]
theorem z06 (h:zhp w=true) : zcx w=true:=by unfold zcx; rw [h]; rfl
theorem z45 (n:Int) : asc (za0 n):=z1h fun x hx=>by have:=zxw x hx; omega
theorem yey (h:zcv w=true) : zkn w=false:=by
 have hl:=ztm h
 cases w with
 | nil=>exact absurd hl.1 (by decide)
 | cons c r =>
  have hc:=z4x h c mem_cons_self;unfold zkn;rw [if_neg (by simp; omega)];have ef : fgs (c::r)=c::r:=by unfold fgs; rw [if_neg (by simp; omega)]
  have hm : made (c::r) dgL 30=false:=by
   unfold made zi2;have : decide (c∈dgL)=false:=decide_eq_false fun z=>by have:=(zrz c).mp z; omega
   rw [all_cons,this,Bool.false_and,Bool.and_false]
  rw [ef,hm,Bool.false_and]
theorem yhh : plain (cw "and"):=by unfold plain; decide +kernel
noncomputable def zdy (c:L2N) : List L2N->L2N
 | []=>[]
 | [x]=>x
 | x::y::r=>x++c++zdy c (y::r)
noncomputable def zb1 (t:Th) : L2N:=t.1::(if t.2=[] then [] else [40]::(zdy [[44]] (t.2.map fun a=>[a])++[[41]]))
noncomputable def zd9 (p:LN×LN) : L2N:=[p.1,cw "in",p.2]
noncomputable def zbq (ps:List (LN×LN)) : L2N:=zdy [[44]] (ps.map zd9)
noncomputable def zfm (z:Ti) : L2N:=(if z.2.1=1/\z.2.2=false then [] else [za0 z.2.1])++zb1 z.1
noncomputable def zbt (its:List Ti) : L2N:=zdy [[44]] (its.map zfm)
noncomputable def zbc (w:LN) (xs:L2N) : L2N:=if xs=[] then [] else w::xs
noncomputable def zgc (its:List Ti) (ov:List (LN×LN)) : L2N:=zbt its++zbc (cw "over") (zbq ov)
noncomputable def pWd : Pa->L2N
 | .is t=>zb1 t
 | .no t=>cw "not" :: zb1 t
 | .un a b=>[a,cw "unlike",b]
 | .ct w n its ov=>[cw (ctS w),za0 n,cw "of"]++zgc its ov
noncomputable def bWd (bd:List Pa) : L2N:=zdy [cw "and"] (bd.map pWd)
noncomputable def zce (bd:List Pa) (ps:List (LN×LN)) : L2N:=zbc (cw "if") (bWd bd)++zbc (cw "for") (zbq ps)
noncomputable def zch : Ro->L2N
 | .kind n ns=>cw "kind" :: n::ns
 | .never bd ps=>cw "never" :: (bWd bd++zbc (cw "for") (zbq ps))
 | .choose lo hi its ov bd ps=>[cw "choose",za0 lo,cw "to",za0 hi,cw "of"]++(zgc its ov++zce bd ps)
 | .rule b t bd ps=>cw (ruS b)::(zb1 t++zce bd ps)
theorem yhl : plain (cw "in"):=by unfold plain; decide +kernel
theorem zuy {α : Type} {c:L2N} {g:α->L2N} {L:List α} (h:∀ x∈L,g x≠[]) : zdy c (L.map g)=[]↔L=[]:=by
 match L with
 | []=>exact ⟨fun _=>rfl,fun _=>rfl⟩
 | [x]=>exact ⟨fun e=>absurd e (h x mem_cons_self),fun e=>by cases e⟩
 | x::y::r =>
  refine ⟨fun e=>?_,fun e=>by cases e⟩;have e' : g x++c++zdy c ((y::r).map g)=[]:=e;have:=(append_eq_nil_iff.mp (append_eq_nil_iff.mp e').1).1;exact absurd this (h x mem_cons_self)
theorem z51 (p:Pa) : pWd p≠[]:=by
 cases p <;> (intro e; cases e)
theorem yho : plain (cw "not")/\cw "not" ≠ []:=by unfold plain; decide +kernel
theorem yhs : plain (cw "unlike")/\cw "unlike" ≠ []:=by unfold plain; decide +kernel
theorem z6h : plain (cw "of")/\cw "of" ≠ []:=by unfold plain; decide +kernel
theorem yhr : plain (cw "to")/\cw "to" ≠ []:=by unfold plain; decide +kernel
theorem yhp : plain (cw "over")/\cw "over" ≠ []:=by unfold plain; decide +kernel
theorem yhk : plain (cw "if")/\cw "if" ≠ []:=by unfold plain; decide +kernel
theorem z6g : plain (cw "for")/\cw "for" ≠ []:=by unfold plain; decide +kernel
theorem yhm : plain (cw "kind")/\cw "kind" ≠ []:=by unfold plain; decide +kernel
theorem yhn : plain (cw "never")/\cw "never" ≠ []:=by unfold plain; decide +kernel
theorem yhi : plain (cw "choose")/\cw "choose" ≠ []:=by unfold plain; decide +kernel
theorem yhj (w:Bool) : plain (cw (ctS w))/\cw (ctS w)≠[]:=by cases w <;> (unfold plain; decide +kernel)
theorem yhq (w:Bool) : plain (cw (ruS w))/\cw (ruS w)≠[]:=by cases w <;> (unfold plain; decide +kernel)
noncomputable abbrev rN : LSt:=["words","place"]
noncomputable abbrev fls (W:L2N) (p:Nat) : LD:=[.lst (wD W),.int ((p:Nat) : Int)]
noncomputable abbrev rd (l:Addr) (W:L2N) (p:Nat) : Sl:=.pino l "Reader" rN (fls W p)
def kR (l:Addr) (W:L2N) (p:Nat) (d:D) (o:Fl) : Prop:=∃ ρ,(o=.rtS d (rd l W p::ρ)\/(d=.non/\o=.nx (rd l W p::ρ)))
variable {p:Nat}
theorem zb4 {W:L2N} : kR l W p d (.rtS d (rd l W p::ρ)):=⟨ρ,.inl rfl⟩
theorem z4c {W:L2N} : kR l W p .non (.nx (rd l W p::ρ)):=⟨ρ,.inr ⟨rfl,rfl⟩⟩
variable {F:MF3}
theorem zcj {N:Nat} {W:L2N} (w:wp F (zff N l "Reader" rN ds xs) (kR l W p d)) : zcp N "Reader" rN F l ds xs=some (fls W p,d):=by
 obtain ⟨o,e,ρ,h⟩:=w;unfold zcp;rw [e,bind_some]
 rcases h with h | ⟨hd,h⟩
 ·subst h;show (zgs l "Reader" rN (rd l W p::ρ)).map (fun ys=>(ys,d))=_;rw [z6e (ys:=fls W p) rfl];rfl
 ·subst h hd;show (zgs l "Reader" rN (rd l W p::ρ)).map (fun ys=>(ys,D.non))=_;rw [z6e (ys:=fls W p) rfl];rfl
variable {nm:Str}
theorem zds {m:Addr->LD->LD->Option (LD×D)} {f:Xa} {W:L2N} {q:Nat} {tl':LS} (hn:rN.contains nm=false) (h1:f (rd l W p::tl)=some (ds,rd l W p::tl')) (h2:m l ds (fls W p)=some (fls W q,d)) : zar 0 "Reader" nm rN m f (rd l W p::tl)=some (d,rd l W q::tl'):=by
 unfold zar;show (if ("Reader" : Str)="Reader" /\ rN=rN/\rN.contains nm=false then (f (rd l W p::tl)).bind _ else none)=_;rw [if_pos ⟨rfl,rfl,hn⟩,h1,bind_some];show (if ("Reader" : Str)="Reader" /\ rN=rN then (m l ds (fls W p)).map _ else none)=_;rw [if_pos ⟨rfl,rfl⟩,h2];rfl
theorem zwl (l:Addr) (W:L2N) (p:Nat) (tl:LS) : zhe 0 "Reader" "words" (rd l W p::tl)=some (.lst (wD W)):=rfl
theorem z3c (l:Addr) (W:L2N) (p:Nat) (tl:LS) : zhe 0 "Reader" "place" (rd l W p::tl)=some (.int ((p:Nat) : Int)):=rfl
theorem z1j (l:Addr) (W:L2N) (p:Nat) (tl:LS) : zo9 0 "Reader" "place" (kI 1) (rd l W p::tl)=some (.nx (rd l W (p + 1)::tl)):=rfl
theorem znp {f:Xe} (h:f ρ=some (.bl b,ρ1)) : zdk f ρ=some (b,ρ1):=by
 unfold zdk;rw [h];rfl
theorem ye5 {f:Xt} (h:f ρ=some (b,ρ1)) : zpc f ρ=some (!b,ρ1):=by
 unfold zpc;rw [h];rfl
theorem zf0 {f g:Xe} {r:Option (D×LS)} (h:t ρ=some (b,ρ1)) (hT:b=true->f ρ1=r) (hF:b=false->g ρ1=r) : zhz t f g ρ=r:=by
 unfold zhz;rw [h,bind_some]
 cases b with
 | true=>exact hT rfl
 | false=>exact hF rfl
theorem zor {m:LD->OD} {f:Xa} (h1:f ρ=some (ds,ρ1)) (h2:m ds=some d) : zez m f ρ=some (d,ρ1):=by
 unfold zez;rw [h1,bind_some,h2];rfl
theorem eqT (a b:LN) : dEq (sT a) (sT b)=some (.bl (decide (a=b))):=by
 show some (D.bl (tx a==tx b))=_
 congr 2
 apply Bool.eq_iff_iff.mpr;rw [beq_iff_eq,decide_eq_true_iff];exact ⟨zhn,fun e=>by rw [e]⟩
theorem neT (a b:LN) : dNe (sT a) (sT b)=some (.bl (!decide (a=b))):=by
 show some (D.bl (!(tx a==tx b)))=_
 congr 3
 apply Bool.eq_iff_iff.mpr;rw [beq_iff_eq,decide_eq_true_iff];exact ⟨zhn,fun e=>by rw [e]⟩
theorem zxa (W:L2N) : zcg [.lst (wD W)]=some (.int W.length):=zji W sT
theorem yap (l:Addr) (W:L2N) (p b:Nat) : zfs l [.int ((b:Nat) : Int)] (fls W p)=some (fls W p,sT (W.getD (p + b) [])):=by
 refine zcj ?_;unfold zqs;show wp _ [rd l W p,.im (.int ((b:Nat) : Int)),.no] _;apply zaf;refine ze4 (zas (z3c l W p _) rfl zfh) ?_;show wp _ [rd l W p,.im (.int ((b:Nat) : Int)),.im (.int ((p:Int) + (b:Int)))] _;refine zc4 (d:=sT (W.getD (p + b) [])) (z84 (b:=decide ((p:Int) + (b:Int) < (W.length : Int))) (zba (zas rfl (zbi (zaz (zwl l W p _) rfl) (zxa W)) zi6)) (fun e=>?_) fun e=>?_) zb4
 ·have h:=of_decide_eq_true e;have hl : p + b < W.length:=by omega
  refine zbf (zne (zwl l W p _) rfl) rfl ?_;unfold atI ixN;rw [if_pos (by omega),if_pos (by unfold wD; rw [length_map]; omega),bind_some];have ei : ((p:Int) + (b:Int)).toNat=p + b:=by omega
  unfold wD;rw [ei,List.getElem?_map,List.getElem?_eq_getElem hl,getD_eq_getElem?_getD,List.getElem?_eq_getElem hl];rfl
 ·have h:=of_decide_eq_false e;rw [getD_eq_getElem?_getD,List.getElem?_eq_none (by omega)];rfl
theorem ze7 (l:Addr) (W:L2N) (p b:Nat) (tl:LS) (hf:f (rd l W p::tl)=some (.int ((b:Nat) : Int))) : zar 0 "Reader" "coming" rN zfs (zad (mX f) zaa) (rd l W p::tl)=some (sT (W.getD (p + b) []),rd l W p::tl):=zds rfl (zaq (zap hf) rfl) (yap l W p b)
variable {z:LN}
theorem z53 {W:L2N} (h:W.getD p []=z) : m_6 l [sT z] (fls W p)=some (fls W (p + 1),.bl true):=by
 refine zcj ?_;unfold b_6;show wp _ [rd l W p,.im (sT z)] _;apply zaf;refine zeb (b:=false) (bxX (zb0 (ze7 l W p 0 _ rfl) (zap rfl) ((neT _ _).trans (by rw [Nat.add_zero,decide_eq_true h]; rfl)))) (fun e=>by cases e) fun _=>za5 ?_;show wp _ [rd l W p,.im (sT z)] _;apply zaf;refine zh6 (z1j l W p _) ?_;exact zc4 rfl zb4
theorem ygp {W:L2N} (h:W.getD p []≠z) : m_6 l [sT z] (fls W p)=some (fls W p,.bl false):=by
 refine zcj ?_;unfold b_6;show wp _ [rd l W p,.im (sT z)] _;apply zaf;refine zeb (b:=true) (bxX (zb0 (ze7 l W p 0 _ rfl) (zap rfl) ((neT _ _).trans (by rw [Nat.add_zero,decide_eq_false h]; rfl)))) (fun _=>?_) fun e=>by cases e
 exact zc4 rfl zb4
theorem ziw (l:Addr) (W:L2N) (p:Nat) : zh1 l [] (fls W p)=some (fls W (p + 1),sT (W.getD p [])):=by
 refine zcj ?_;unfold zqw;show wp _ [rd l W p,.no] _;apply zaf;refine zbw (ze7 l W p 0 _ rfl) ?_;show wp _ [rd l W p,.im (sT (W.getD p []))] _;apply zaf;refine zh6 (z1j l W p _) ?_;exact zc4 rfl zb4
theorem ygo {W:L2N} (h:W.getD p []=z) : zil l [sT z] (fls W p)=some (fls W (p + 1),.non):=by
 refine zcj ?_;unfold zqy;show wp _ [rd l W p,.im (sT z)] _;refine zeb (b:=false) (ρ1:=[rd l W (p + 1),.im (sT z)]) (ye5 (b:=true) (znp (zds rfl (zaq (zap rfl) rfl) (z53 h)))) (fun e=>by cases e) fun _=>za5 z4c
theorem ybz {W:L2N} (h:W.length<=p) : zxh l [] (fls W p)=some (fls W p,.non):=by
 refine zcj ?_;unfold zqv;show wp _ [rd l W p] _;refine za2 (b:=false) (zba (zas (z3c l W p _) (zbi (zaz (zwl l W p _) rfl) (zxa W)) (zi6.trans (by congr 2; exact decide_eq_false (by omega))))) (fun e=>by cases e) fun _=>za5 z4c
noncomputable abbrev hd (ys:L2N) : LN:=ys.headD []
def Rds (m:Addr->LD->LD->Option (LD×D)) (bad xs:L2N) (d:D) : Prop:=∀ l W p post,W.drop p=xs++post->hd post∉bad->m l [] (fls W p)=some (fls W (p + xs.length),d)
theorem zvo {W ys:L2N} (h:W.drop p=ys) (b:Nat) : W.getD (p + b) []=ys.getD b []:=by
 rw [<- h,getD_eq_getElem?_getD,getD_eq_getElem?_getD,List.getElem?_drop]
theorem zn0 {W ys:L2N} (h:W.drop p=ys) : W.getD p []=hd ys:=by
 have:=zvo h 0;rw [Nat.add_zero] at this;rw [this]
 cases ys <;> rfl
variable {x:LN}
theorem zfz {W ys:L2N} (h:W.drop p=x::ys) : W.getD p []=x:=zn0 h
theorem zeh {W xs post:L2N} (h:W.drop p=xs++post) : W.drop (p + xs.length)=post:=by
 rw [<- drop_drop,h,drop_left]
theorem zeg {W post:L2N} (h:W.drop p=x::post) : W.drop (p + 1)=post:=zeh (xs:=[x]) h
variable {m:Addr->LD->LD->Option (LD×D)} {bad post:L2N}
theorem zb6 {xs:L2N} (R:Rds m bad xs d) (hn:rN.contains nm=false) {W:L2N} (h:W.drop p=xs++post) (hb:hd post∉bad) : zar 0 "Reader" nm rN m zaa (rd l W p::tl)=some (d,rd l W (p + xs.length)::tl):=zds hn rfl (R l W p post h hb)
variable {z:Str}
theorem zm1 {W post:L2N} (hz:D.str z=sT x) (h:W.drop p=x::post) : zar 0 "Reader" "must_pass" rN zil (zad (mX (fun _=>some (.str z))) zaa) (rd l W p::tl)=some (.non,rd l W (p + 1)::tl):=zds rfl (zaq (zap (d:=sT x) (congrArg some hz)) rfl) (ygo (zfz h))
theorem zlp {W post:L2N} (hz:D.str z=sT x) (h:W.drop p=x::post) : zdk (zar 0 "Reader" "passes" rN m_6 (zad (mX (fun _=>some (.str z))) zaa)) (rd l W p::tl)=some (true,rd l W (p + 1)::tl):=znp (zds rfl (zaq (zap (d:=sT x) (congrArg some hz)) rfl) (z53 (zfz h)))
theorem noX {W post:L2N} (hz:D.str z=sT x) (h:W.drop p=post) (hx:hd post≠x) : zdk (zar 0 "Reader" "passes" rN m_6 (zad (mX (fun _=>some (.str z))) zaa)) (rd l W p::tl)=some (false,rd l W p::tl):=znp (zds rfl (zaq (zap (d:=sT x) (congrArg some hz)) rfl) (ygp (by rw [zn0 h]; exact hx)))
theorem cmS : D.str ","=sT [44]:=by rw [cmT]
theorem opS : D.str "("=sT [40]:=by rw [opT]
theorem clS : D.str ")"=sT [41]:=by rw [clT]
theorem zjv (h:zcv w=true) : Rds m_3 [] [w] (sT w):=fun l W p post hd _=>by
 have hl:=ztm h;refine zcj ?_;unfold b_3;show wp _ [rd l W p,.no] _;apply zaf;refine zbw (zds (p:=p) rfl rfl (ziw l W p)) ?_;rw [zfz hd];show wp _ [rd l W (p + 1),.im (sT w)] _;apply zaf;refine za2 (b:=false) (zkr (b:=true) (zf7 (zbi rfl (z4v w (by omega) (zqo (zhi h)))) (by rw [h]; rfl))) (fun e=>by cases e) fun _=>za5 ?_;exact zc4 rfl zb4
theorem z62 (h:zhp w=true) : Rds zs9 [] [w] (sT w):=fun l W p post hd _=>by
 have hl:=z9d h;refine zcj ?_;unfold zq8;show wp _ [rd l W p,.no] _;apply zaf;refine zbw (zds (p:=p) rfl rfl (ziw l W p)) ?_;rw [zfz hd];show wp _ [rd l W (p + 1),.im (sT w)] _;apply zaf;refine za2 (b:=false) (zkr (b:=true) (zf7 (zbi rfl (z9c w (by omega) (zqo (z06 h)))) (by rw [h]; rfl))) (fun e=>by cases e) fun _=>za5 ?_;exact zc4 rfl zb4
theorem zuf (h:zdz n) : Rds zms [] [za0 n] (.int n):=fun l W p post hd _=>by
 have hl:=zts h;refine zcj ?_;unfold zq0;show wp _ [rd l W p,.no] _;apply zaf;refine zbw (zds (p:=p) rfl rfl (ziw l W p)) ?_;rw [zfz hd];show wp _ [rd l W (p + 1),.im (sT (za0 n))] _;apply zaf;refine za2 (b:=false) (zkr (b:=true) (zf7 (zbi rfl (zw0 (za0 n) (by omega) (z45 n))) (by rw [z46 h]; rfl))) (fun e=>by cases e) fun _=>za5 ?_;exact zc4 (d:=.int n) (show zot (sT (za0 n))=_ from yfa h) zb4
theorem zyu (h:zcx w=true) : Rds zmv [] [w] (sT w):=fun l W p post hd hb=>by
 have hl:=zqp h;refine zcj ?_;unfold zq3;show wp _ [rd l W p] _;refine zbo (d:=sT w) (ρ1:=[rd l W (p + 1)]) (zf0 (b:=zhp w) (ρ1:=[rd l W p]) (znp (zor (zaq (ze7 l W p 0 [] rfl) rfl) ?_)) (fun e=>?_) fun e=>?_) zb4
 ·rw [Nat.add_zero,zfz hd];exact z9c w (by omega) (zqo h)
 ·exact zb6 (z62 e) rfl hd hb
 ·unfold zcx at h;rw [e,Bool.false_or] at h;exact zb6 (zjv h) rfl hd hb
theorem yir {q:LN×LN} (h:ze6 q) : Rds zte [] (zd9 q) (prD q):=fun l W p post hd hb=>by
 have h0 : W.drop p=[q.1]++(cw "in" :: q.2::post):=hd;have h1:=zeh h0;have h2:=zeg h1;refine zcj ?_;unfold zrd;show wp _ [rd l W p,.no] _;apply zaf;refine zbw (zb6 (z62 h.1) rfl h0 (by simp)) ?_;show wp _ [rd l W (p + 1),.im (sT q.1)] _;apply zaf;refine zlm (zm1 (cwD "in") h1) ?_;show wp _ [rd l W (p + 1 + 1),.im (sT q.1)] _;exact zbo (zdc (zaq (zap rfl) (zaq (zb6 (zjv h.2) rfl (post:=post) h2 (by simp)) rfl))) zb4
noncomputable def tlW {α : Type} (c:LN) (g:α->L2N) (L:List α) : L2N:=L.flatMap fun x=>c::g x
theorem zlg {α : Type} (c:LN) (g:α->L2N) : ∀ (x:α) (L:List α),zdy [c] ((x::L).map g)=g x++tlW c g L
 | x,[]=>by show g x=g x++[]; rw [append_nil]
 | x,y::L=>by
  show g x++[c]++zdy [c] ((y::L).map g)=g x++(c::g y++tlW c g L);rw [zlg c g y L];simp
variable {g:α->L2N} {toD:α->D} {c:LN} {cs:Str}
section
variable {W:L2N}
theorem z4p (hn:rN.contains nm=false) (hz:D.str cs=sT c) (hc:c∉bad) {post:L2N} (hb:hd post∉bad) (hp:hd post≠c) : ∀ (L:List α) (n p:Nat) (acc:LD),(∀ x∈L,Rds m bad (g x) (toD x))->L.length < n->acc.length + L.length<=1000->W.drop p=tlW c g L++post ->
  zd3 (zdk (zar 0 "Reader" "passes" rN m_6 (zad (mX (fun _=>some (.str cs))) zaa))) (zeq 1 (zar 0 "Reader" nm rN m zaa)) n [rd l W p,.own acc]=some (.nx [rd l W (p + (tlW c g L).length),.own (acc++L.map toD)])
 | [],n + 1,p,acc,_,_,_,h=>by
  unfold zd3;rw [noX hz h hp,bind_some];show some (Fl.nx [rd l W p,.own acc])=some (Fl.nx [rd l W (p + 0),.own (acc++[])])
  rw [append_nil,Nat.add_zero]
 | x::L,n + 1,p,acc,hR,hl,ha,h=>by
  have h0 : W.drop p=c::(g x++(tlW c g L++post)):=by
   rw [h];show (c::g x++tlW c g L)++post=_;simp
  have h1:=zeg h0;have h2:=zeh h1
  have hbad : hd (tlW c g L++post)∉bad:=by
   cases L with
   | nil=>exact hb
   | cons y L=>exact hc
  have ih:=z4p hn hz hc hb hp L n (p + 1 + (g x).length) (acc++[toD x]) (fun y hy=>hR y (mem_cons_of_mem _ hy)) (by simp only [length_cons] at hl; omega) (by simp only [length_cons,length_append,length_nil] at ha ⊢; omega) h2;obtain ⟨o,eo,ko⟩:=zu9 (i:=1) (ρ:=[rd l W (p + 1),.own acc]) (K:=fun o=>o=.nx [rd l W (p + 1 + (g x).length),.own (acc++[toD x])]) rfl (zb6 (hR x mem_cons_self) hn (tl:=[.own acc]) h1 hbad) (xs:=acc) rfl (by simp only [length_cons] at ha; omega) rfl;subst ko;unfold zd3;rw [zlp hz h0,bind_some];show (zeq 1 (zar 0 "Reader" nm rN m zaa) [rd l W (p + 1),.own acc]).bind _=_;rw [eo,bind_some];show zd3 _ _ n [rd l W (p + 1 + (g x).length),.own (acc++[toD x])]=_;rw [ih]
  have e1 : (tlW c g (x::L)).length=1 + (g x).length + (tlW c g L).length:=by
   show (c::g x++tlW c g L).length=_;simp only [length_append,length_cons];omega
  rw [e1,map_cons,append_assoc];have e2 : p + 1 + (g x).length + (tlW c g L).length=p + (1 + (g x).length + (tlW c g L).length):=by omega
  rw [e2];rfl
end
section
variable {W:L2N}
theorem zso {za9:MF3} (L:List α) (hn:rN.contains nm=false) (hz:D.str cs=sT c) (hc:c∉bad) (hb:hd post∉bad) (hp:hd post≠c) (hR:∀ x∈L,Rds m bad (g x) (toD x)) (hL:L≠[]) (hl:L.length<=900) (h:W.drop p=zdy [c] (L.map g)++post) (k:wp za9 [rd l W (p + (zdy [c] (L.map g)).length),.own (L.map toD)] K) :
  wp (zah (zh0 1 (zar 0 "Reader" nm rN m zaa)) (zah (zd3 (zdk (zar 0 "Reader" "passes" rN m_6 (zad (mX (fun _=>some (.str cs))) zaa))) (zeq 1 (zar 0 "Reader" nm rN m zaa)) 1000000000) za9)) [rd l W p,.no] K:=by
 cases L with
 | nil=>exact absurd rfl hL
 | cons x L =>
  rw [zlg] at h k;rw [append_assoc] at h;have h2:=zeh h
  have hbad : hd (tlW c g L++post)∉bad:=by
   cases L with
   | nil=>exact hb
   | cons y L=>exact hc
  apply zaf;refine zh6 (o:=.nx [rd l W (p + (g x).length),.own [toD x]]) ?_ ?_
  ·unfold zh0;rw [zb6 (hR x mem_cons_self) hn (tl:=[.no]) h hbad];rfl
  ·show wp _ [rd l W (p + (g x).length),.own [toD x]] _;apply zaf;refine zh6 (z4p hn hz hc hb hp L 1000000000 (p + (g x).length) [toD x] (fun y hy=>hR y (mem_cons_of_mem _ hy)) (by simp only [length_cons] at hl; omega) (by simp only [length_cons,length_nil] at hl ⊢; omega) h2) ?_;rw [length_append,<- Nat.add_assoc] at k;exact k
end
theorem zps {W:L2N} : zsa 1 [rd l W p,.own ds]=[rd l W p,.im (.lst ds)]:=rfl
theorem zqr (xs:LD) (n:Nat) (h:xs.length<=n) : zmu [.lst xs,.int ((n:Nat) : Int)]=some (.lst xs):=by
 apply zhq;unfold zq2;show wp _ [.im (.lst xs),.im (.int ((n:Nat) : Int))] _;apply zaf;refine za2 (b:=false) (zba (zas (zbi rfl (show zcg [.lst xs]=some (.int xs.length) from rfl)) rfl (zlv.trans (by congr 2; exact decide_eq_false (by omega))))) (fun e=>by cases e) fun _=>za5 ?_;exact z9i rfl (zf2 rfl)
variable {ps:List (LN×LN)}
theorem z61 (h:∀ q∈ps,ze6 q) (hn:ps≠[]) (hl:ps.length<=900) : Rds ztd [[44]] (zbq ps) (.lst (ps.map prD)):=fun l W p post hd hb=>by
 refine zcj ?_;unfold zrc;show wp _ [rd l W p,.no] _;refine zso (c:=[44]) (g:=zd9) (toD:=prD) (bad:=[]) ps rfl cmS (by simp) (by simp) (fun e=>hb (by rw [e]; exact mem_singleton.mpr rfl)) (fun x hx=>yir (h x hx)) hn hl hd ?_;refine zgf zps ?_;exact zc4 rfl zb4
theorem ztl {xs q:L2N} (h1:w∉bad) (h2:hd q∉bad) : hd (zbc w xs++q)∉bad:=by
 unfold zbc;split
 ·exact h2
 ·exact h1
theorem z6j : zbq ps=[]↔ps=[]:=zuy fun _ _ e=>by cases e
variable {bd:List Pa}
theorem z1k : bWd bd=[]↔bd=[]:=zuy fun p _=>z51 p
theorem z6y (h:zet ps) : Rds zjp [cw "for",[44]] (zbc (cw "for") (zbq ps)) (.lst (ps.map prD)):=fun l W p post hd hb=>by
 refine zcj ?_;unfold zob;show wp _ [rd l W p] _
 by_cases e : ps=[]
 ·subst e;exact zbo (zf0 (b:=false) (noX (cwD "for") (show W.drop p=post from hd) fun z=>hb (by rw [z]; exact mem_cons_self)) (fun e=>by cases e) fun _=>zap rfl) zb4
 ·have e1 : zbc (cw "for") (zbq ps)=cw "for" :: zbq ps:=if_neg fun z=>e (z6j.mp z);rw [e1] at hd ⊢;have h1:=zeg (show W.drop p=cw "for" :: (zbq ps++post) from hd);refine zbo (zf0 (b:=true) (zlp (cwD "for") hd) (fun _=>zor (zaq (zb6 (z61 h.1 e (by have:=h.2; omega)) rfl h1 fun z=>hb (mem_cons_of_mem _ z)) (zaq (zap rfl) rfl)) (zqr _ 3 (by rw [length_map]; exact h.2))) fun e=>by cases e) ?_;rw [length_cons,show p + ((zbq ps).length + 1)=p + 1 + (zbq ps).length by omega];exact zb4
theorem z60 (h:(∀ p∈ps,ze6 p)/\ps.length<=2) : Rds zth [cw "over",[44]] (zbc (cw "over") (zbq ps)) (.lst (ps.map prD)):=fun l W p post hd hb=>by
 refine zcj ?_;unfold zrg;show wp _ [rd l W p] _
 by_cases e : ps=[]
 ·subst e;exact zbo (zf0 (b:=false) (noX (cwD "over") (show W.drop p=post from hd) fun z=>hb (by rw [z]; exact mem_cons_self)) (fun e=>by cases e) fun _=>zap rfl) zb4
 ·have e1 : zbc (cw "over") (zbq ps)=cw "over" :: zbq ps:=if_neg fun z=>e (z6j.mp z);rw [e1] at hd ⊢;have h1:=zeg (show W.drop p=cw "over" :: (zbq ps++post) from hd);refine zbo (zf0 (b:=true) (zlp (cwD "over") hd) (fun _=>zor (zaq (zb6 (z61 h.1 e (by have:=h.2; omega)) rfl h1 fun z=>hb (mem_cons_of_mem _ z)) (zaq (zap rfl) rfl)) (zqr _ 2 (by rw [length_map]; exact h.2))) fun e=>by cases e) ?_;rw [length_cons,show p + ((zbq ps).length + 1)=p + 1 + (zbq ps).length by omega];exact zb4
theorem yik {as:L2N} (h:∀ a∈as,zcx a=true) (hn:as≠[]) (hl:as.length<=3) : Rds zxn [] (zdy [[44]] (as.map fun a=>[a])++[[41]]) (.lst (as.map sT)):=fun l W p post hd hb=>by
 have h0 : W.drop p=zdy [[44]] (as.map fun a=>[a])++([41]::post):=by rw [hd]; simp
 have h1:=zeh h0;refine zcj ?_;unfold zrh;show wp _ [rd l W p,.no] _;refine zso (c:=[44]) (g:=fun a=>[a]) (toD:=sT) (bad:=[]) (post:=[41]::post) as rfl cmS (by simp) (by simp) (show ([41] : LN)≠[44] by decide) (fun x hx=>zyu (h x hx)) hn (by omega) h0 ?_;apply zaf;refine zlm (zm1 clS h1) ?_;show wp _ [rd l W (p + (zdy [[44]] (as.map fun a=>[a])).length + 1),.own (as.map sT)] _;refine zgf zps ?_;refine zc4 (zbi (zaz rfl (zaz rfl rfl)) (zqr _ 3 (by rw [length_map]; exact hl))) ?_;rw [length_append,length_singleton,<- Nat.add_assoc];exact zb4
variable {t:Th}
theorem znb (h:zee t) : Rds m_5 [[40]] (zb1 t) (thD t):=fun l W p post hd hb=>by
 obtain ⟨h1,h2,h3⟩:=h;refine zcj ?_;unfold b_5;show wp _ [rd l W p,.no] _;unfold zb1 at hd ⊢;apply zaf
 by_cases e : t.2=[]
 ·rw [if_pos e] at hd ⊢;refine zbw (zb6 (zjv h1) rfl (show W.drop p=[t.1]++post from hd) (by simp)) ?_;show wp _ [rd l W (p + 1),.im (sT t.1)] _;have h4:=zeg (show W.drop p=t.1::post from hd);refine zbo (d:=thD t) (zdc (zaq (zap rfl) (zaq (zf0 (b:=false) (r:=some (.lst (t.2.map sT),[rd l W (p + 1),.im (sT t.1)])) (noX opS h4 fun z=>hb (by rw [z]; exact mem_cons_self)) (fun e=>by cases e) fun _=>by rw [e]; exact zap rfl) rfl))) zb4
 ·rw [if_neg e] at hd ⊢;have h4 : W.drop p=[t.1]++([40]::(zdy [[44]] (t.2.map fun a=>[a])++[[41]]++post)):=by rw [hd]; rfl
  have h5:=zeh h4;have h6:=zeg h5;refine zbw (zb6 (zjv h1) rfl h4 (by simp)) ?_;show wp _ [rd l W (p + 1),.im (sT t.1)] _;refine zbo (d:=thD t) (zdc (zaq (zap rfl) (zaq (zf0 (b:=true) (zlp opS h5) (fun _=>zb6 (yik h2 e h3) rfl h6 (by simp)) fun e=>by cases e) rfl))) ?_;have e2 : ∀ q : Nat,p + (q + 1 + 1)=p + 1 + 1 + q:=fun q=>by omega
  rw [length_cons,length_cons,e2];exact zb4
variable {z:Ti}
theorem yio (h:zcq z) : Rds ztc [[40]] (zfm z) (zcf z):=fun l W p post hd hb=>by
 obtain ⟨h1,h2⟩:=h;refine zcj ?_;unfold zrb;show wp _ [rd l W p,.no] _;unfold zfm at hd ⊢;apply zaf
 have hnn : ∀ q : Nat,wp (zah (zbn (mB (m2 dLt (zab 1) (kI 0))) (fun _=>none) zbb) (zbj (zcm (zad (zar 0 "Reader" "read_thing" rN m_5 zaa) (zad (mX (zab 1)) zaa))))) [rd l W q,.im (.int z.2.1)] (kR l W (q + (zb1 z.1).length) (zcf z))\/¬ W.drop q=zb1 z.1++post:=fun q=>by
  by_cases hq : W.drop q=zb1 z.1++post
  ·left;apply zaf;refine za2 (b:=false) (zba (zas rfl rfl (zi6.trans (by congr 2; exact decide_eq_false (by omega))))) (fun e=>by cases e) fun _=>za5 ?_;exact zbo (zdc (zaq (zb6 (znb h1) rfl hq hb) (zaq (zap rfl) rfl))) zb4
  ·exact .inr hq
 by_cases e : z.2.1=1/\z.2.2=false
 ·rw [if_pos e,nil_append] at hd ⊢;have hw : W.getD p []=z.1.1:=zfz (show W.drop p=z.1.1::_ from hd);have hl:=ztm h1.1;refine zbw (zf0 (b:=false) (r:=some (.int z.2.1,[rd l W p,.no])) (znp (zor (zaq (ze7 l W p 0 [.no] rfl) rfl) ?_)) (fun e=>by cases e) fun _=>by rw [e.1]; exact zap rfl) ?_
  ·rw [Nat.add_zero,hw,zw0 _ (by omega) (zqo (zhi h1.1)),yey h1.1]
  ·exact (hnn p).resolve_right fun q=>q hd
 ·rw [if_neg e] at hd ⊢;have hN : zdz z.2.1:=⟨by have h5 : (0 : Int) < 10 ^ 30:=(by decide); omega,h2.2⟩;have hl:=zts hN;have h4 : W.drop p=[za0 z.2.1]++(zb1 z.1++post):=by rw [hd]; rfl
  have h5:=zeh h4;refine zbw (zf0 (b:=true) (r:=some (.int z.2.1,[rd l W (p + 1),.no])) (znp (zor (zaq (ze7 l W p 0 [.no] rfl) rfl) ?_)) (fun _=>zb6 (zuf hN) rfl h4 (by simp)) fun e=>by cases e) ?_
  ·rw [Nat.add_zero,zfz (show W.drop p=za0 z.2.1::_ from h4),zw0 _ (by omega) (z45 _),z46 hN]
  ·have:=(hnn (p + 1)).resolve_right fun q=>q h5;rw [length_append,length_singleton,<- Nat.add_assoc];exact this
theorem z6z {its:List Ti} (h:∀ z∈its,zcq z) (hn:its≠[]) (hl:its.length<=900) : Rds ztb [[40],[44]] (zbt its) (.lst (its.map zcf)):=fun l W p post hd hb=>by
 refine zcj ?_;unfold zra;show wp _ [rd l W p,.no] _;refine zso (c:=[44]) (g:=zfm) (toD:=zcf) (bad:=[[40]]) its rfl cmS (by decide) (fun z=>hb ?_) (fun e=>hb (by rw [e]; decide)) (fun x hx=>yio (h x hx)) hn hl hd ?_
 ·rw [mem_singleton.mp z]; decide
 refine zgf zps ?_;exact zc4 rfl zb4
theorem z5z : cw "over" ∉ ([[40],[44]] : L2N):=by decide +kernel
variable {ov:List (LN×LN)}
theorem yim {w:Bool} {its:List Ti} (h:zdg (.ct w n its ov)) : Rds zs5 [[40],[44],cw "over"] (pWd (.ct w n its ov)) (Pa.toD (.ct w n its ov)):=fun l W p post hd hb=>by
 obtain ⟨h1,h2,h3,h4,h5⟩:=(show zdz n/\(∀ z∈its,zcq z)/\(0 < its.length/\its.length<=9)/\(∀ p∈ov,ze6 p)/\ov.length<=2 from h);have hn : its≠[]:=fun e=>by rw [e] at h3; exact absurd h3.1 (by decide)
 have d0 : W.drop p=cw (ctS w)::([za0 n]++(cw "of" :: (zbt its++(zbc (cw "over") (zbq ov)++post)))):=by
  rw [hd];show [cw (ctS w),za0 n,cw "of"]++(zbt its++zbc (cw "over") (zbq ov))++post=_;simp
 have d1:=zeg d0;have d2:=zeh d1;have d3:=zeg d2;have d4:=zeh d3;refine zcj ?_;unfold zq5;show wp _ [rd l W p,.no,.no] _;apply zaf;refine zbw (zds (p:=p) rfl rfl (ziw l W p)) ?_;rw [zfz d0];show wp _ [rd l W (p + 1),.im (sT (cw (ctS w))),.no] _;apply zaf;refine zbw (zb6 (zuf h1) rfl d1 (by simp)) ?_;show wp _ [rd l W (p + 1 + 1),.im (sT (cw (ctS w))),.im (.int n)] _;apply zaf;refine zlm (zm1 (cwD "of") d2) ?_;show wp _ [rd l W (p + 1 + 1 + 1),.im (sT (cw (ctS w))),.im (.int n)] _;refine zbo (d:=Pa.toD (.ct w n its ov)) (ρ1:=[rd l W (p + 1 + 1 + 1 + (zbt its).length + (zbc (cw "over") (zbq ov)).length),.im (sT (cw (ctS w))),.im (.int n)]) ((zdc (zaq (zap rfl) (zaq (zap rfl) (zaq (zb6 (z6z h2 hn (by omega)) rfl d3 (ztl z5z fun z=>hb ?_)) (zaq (zb6 (z60 ⟨h4,h5⟩) rfl d4 fun z=>hb ?_) rfl))))).trans ?_) ?_
 ·rcases mem_cons.mp z with e | e
  ·rw [e]; simp
  ·rw [mem_singleton.mp e]; simp
 ·rcases mem_cons.mp z with e | e
  ·rw [e]; simp
  ·rw [mem_singleton.mp e]; simp
 ·show some (D.tup [sT (cw (ctS w)),.int n,.lst (its.map zcf),.lst (ov.map prD)],_)=some (D.tup [.str (ctS w),.int n,.lst (its.map zcf),.lst (ov.map prD)],_);rw [<- cwD];rfl
 ·have e : p + (pWd (.ct w n its ov)).length=p + 1 + 1 + 1 + (zbt its).length + (zbc (cw "over") (zbq ov)).length:=by
   show p + ([cw (ctS w),za0 n,cw "of"]++(zbt its++zbc (cw "over") (zbq ov))).length=_;simp only [length_append,length_cons,length_nil];omega
  rw [e];exact zb4
theorem ydx : ∀ k∈kpW,k≠[]/\∀ x∈k,97<=x:=by decide +kernel
theorem zlr {k:LN} (h:zcx w=true) (hk:k∈kpW) : w≠k:=fun e=>by
 subst e;unfold zcx at h;rw [Bool.or_eq_true] at h
 rcases h with h | h
 ·obtain ⟨_,c,r,rfl,hc⟩:=z9e h;have:=(ydx _ hk).2 c mem_cons_self;omega
 ·unfold zcv at h;rw [Bool.and_eq_true] at h;have : kept w=true:=any_eq_true.mpr ⟨w,hk,beq_self_eq_true _⟩;rw [this] at h;exact absurd h.2 (by decide)
theorem z4g : cw "not" ∈ kpW:=by decide +kernel
theorem z4e : cw "least" ∈ kpW:=by decide +kernel
theorem z4f : cw "most" ∈ kpW:=by decide +kernel
theorem zwv (h1:w≠cw "least") (h2:w≠cw "most") : dIn (sT w) (.tup [.str "least",.str "most"])=some (.bl false):=by
 have a : (("least" : Str)==tx w)=false:=beq_eq_false_iff_ne.mpr fun e=>h1 (zhn (e.symm.trans (cwT "least")));have b : (("most" : Str)==tx w)=false:=beq_eq_false_iff_ne.mpr fun e=>h2 (zhn (e.symm.trans (cwT "most")));show some (D.bl ((("least" : Str)==tx w) || ((("most" : Str)==tx w) || false)))=_;rw [a,b];rfl
theorem yc8 (b:Bool) : dIn (sT (cw (ctS b))) (.tup [.str "least",.str "most"])=some (.bl true):=by
 rw [<- cwD]
 cases b <;> rfl
theorem yit {a b:LN} (h1:zcx a=true) (h2:zcx b=true) : Rds zta [] [a,cw "unlike",b] (Pa.toD (.un a b)):=fun l W p post hd hb=>by
 have d0 : W.drop p=[a]++(cw "unlike" :: ([b]++post)):=hd;have d1:=zeh d0;have d2:=zeg d1;refine zcj ?_;unfold zq9;show wp _ [rd l W p,.no] _;apply zaf;refine zbw (zb6 (zyu h1) rfl d0 (by simp)) ?_;show wp _ [rd l W (p + 1),.im (sT a)] _;apply zaf;refine zlm (zm1 (cwD "unlike") d1) ?_;show wp _ [rd l W (p + 1 + 1),.im (sT a)] _;exact zbo (zdc (zaq (zap rfl) (zaq (zap rfl) (zaq (zb6 (zyu h2) rfl d2 hb) rfl)))) zb4
noncomputable abbrev bdP : L2N:=[[40],[44],cw "over",cw "unlike"]
theorem yln : ([40] : LN)≠cw "unlike":=by decide +kernel
theorem yaw (w:Bool) : cw (ctS w)≠cw "not":=by cases w <;> decide +kernel
theorem yis {q:Pa} (h:zdg q) : Rds zsw bdP (pWd q) q.toD:=fun l W p post hd hb=>by
 refine zcj ?_;unfold zqu;show wp _ [rd l W p] _;apply zaf
 cases q with
 | no t =>
  have d0 : W.drop p=cw "not" :: (zb1 t++post):=hd;have d1:=zeg d0;refine zeb (b:=true) (zlp (cwD "not") d0) (fun _=>?_) fun e=>by cases e
  refine zbo (zdc (zaq (zap rfl) (zaq (zb6 (znb (show zee t from h)) rfl d1 fun z=>hb (by rw [mem_singleton.mp z]; exact mem_cons_self)) rfl))) ?_;show kR l W (p + ((zb1 t).length + 1)) _ _;rw [show p + ((zb1 t).length + 1)=p + 1 + (zb1 t).length by omega]
  exact zb4
 | ct w n its ov =>
  have d0 : W.drop p=cw (ctS w)::([za0 n,cw "of"]++zgc its ov++post):=hd;refine zeb (b:=false) (noX (cwD "not") d0 (yaw w)) (fun e=>by cases e) fun _=>za5 ?_;show wp _ [rd l W p] _;apply zaf;refine zeb (b:=true) (ρ1:=[rd l W p]) (bxX (zb0 (ze7 l W p 0 [] rfl) (zap rfl) (by rw [Nat.add_zero,zfz d0]; exact yc8 w))) (fun _=>?_) fun e=>by cases e
  refine zbo (zb6 (yim h) rfl hd fun z=>hb ?_) zb4
  rcases mem_cons.mp z with e | z
  ·rw [e]; simp
  rcases mem_cons.mp z with e | z
  ·rw [e]; simp
  ·rw [mem_singleton.mp z]; simp
 | un a b =>
  obtain ⟨h1,h2⟩:=(show zcx a=true/\zcx b=true from h);have d0 : W.drop p=a::(cw "unlike" :: b::post):=hd;refine zeb (b:=false) (noX (cwD "not") d0 (zlr h1 z4g)) (fun e=>by cases e) fun _=>za5 ?_;show wp _ [rd l W p] _;apply zaf;refine zeb (b:=false) (ρ1:=[rd l W p]) (bxX (zb0 (ze7 l W p 0 [] rfl) (zap rfl) (by rw [Nat.add_zero,zfz d0]; exact zwv (zlr h1 z4e) (zlr h1 z4f)))) (fun e=>by cases e) fun _=>za5 ?_;show wp _ [rd l W p] _;apply zaf;refine zeb (b:=true) (ρ1:=[rd l W p]) (bxX (zb0 (ze7 l W p 1 [] rfl) (zap (d:=sT (cw "unlike")) (congrArg some (cwD "unlike"))) ((eqT _ _).trans (by rw [zvo d0 1]; exact congrArg (fun b=>some (D.bl b)) (decide_eq_true rfl))))) (fun _=>?_) fun e=>by cases e
  exact zbo (zb6 (yit h1 h2) rfl hd (by simp)) zb4
 | is t =>
  have ht : zee t:=h;have hn:=zhi ht.1;have d0 : W.drop p=t.1::((if t.2=[] then [] else [40]::(zdy [[44]] (t.2.map fun a=>[a])++[[41]]))++post):=hd;refine zeb (b:=false) (noX (cwD "not") d0 (zlr hn z4g)) (fun e=>by cases e) fun _=>za5 ?_;show wp _ [rd l W p] _;apply zaf;refine zeb (b:=false) (ρ1:=[rd l W p]) (bxX (zb0 (ze7 l W p 0 [] rfl) (zap rfl) (by rw [Nat.add_zero,zfz d0]; exact zwv (zlr hn z4e) (zlr hn z4f)))) (fun e=>by cases e) fun _=>za5 ?_;show wp _ [rd l W p] _;apply zaf
  have hu : W.getD (p + 1) []≠cw "unlike":=by
   rw [zn0 (zeg d0)];split
   ·exact fun z=>hb (by rw [show N_k77.hd post=cw "unlike" from z]; simp)
   ·exact yln
  refine zeb (b:=false) (ρ1:=[rd l W p]) (bxX (zb0 (ze7 l W p 1 [] rfl) (zap (d:=sT (cw "unlike")) (congrArg some (cwD "unlike"))) ((eqT _ _).trans (by rw [decide_eq_false hu])))) (fun e=>by cases e) fun _=>za5 ?_;show wp _ [rd l W p] _;exact zbo (zdc (zaq (zap rfl) (zaq (zb6 (znb ht) rfl (show W.drop p=zb1 t++post from hd) fun z=>hb (by rw [mem_singleton.mp z]; exact mem_cons_self)) rfl))) zb4
noncomputable abbrev bdB : L2N:=[cw "and",[40],[44],cw "over",cw "unlike"]
theorem z9s : cw "and" ∉ bdP:=by decide +kernel
theorem zyv (h:zdd bd) (hn:bd≠[]) : Rds m_8 bdB (bWd bd) (.lst (bd.map Pa.toD)):=fun l W p post hd hb=>by
 refine zcj ?_;unfold b_8;show wp _ [rd l W p,.no] _;refine zso (c:=cw "and") (g:=pWd) (toD:=Pa.toD) (bad:=bdP) bd rfl (cwD "and") z9s (fun z=>hb (mem_cons_of_mem _ z)) (fun e=>hb (by rw [e]; exact mem_cons_self)) (fun x hx=>yis (h.1 x hx)) hn (by have:=h.2; omega) hd ?_;refine zgf zps ?_;exact zc4 rfl zb4
theorem yin (h:zdd bd) : Rds m_7 (cw "if" :: bdB) (zbc (cw "if") (bWd bd)) (.lst (bd.map Pa.toD)):=fun l W p post hd hb=>by
 refine zcj ?_;unfold b_7;show wp _ [rd l W p] _
 by_cases e : bd=[]
 ·subst e;exact zbo (zf0 (b:=false) (noX (cwD "if") (show W.drop p=post from hd) fun z=>hb (by rw [z]; exact mem_cons_self)) (fun e=>by cases e) fun _=>zap rfl) zb4
 ·have e1 : zbc (cw "if") (bWd bd)=cw "if" :: bWd bd:=if_neg fun z=>e (z1k.mp z);rw [e1] at hd ⊢;have h1:=zeg (show W.drop p=cw "if" :: (bWd bd++post) from hd);refine zbo (zf0 (b:=true) (zlp (cwD "if") hd) (fun _=>zb6 (zyv h e) rfl h1 fun z=>hb (mem_cons_of_mem _ z)) fun e=>by cases e) ?_;rw [length_cons,show p + ((bWd bd).length + 1)=p + 1 + (bWd bd).length by omega];exact zb4
theorem ych : cw "for" ∉ (cw "if" :: bdB):=by decide +kernel
theorem yby (bd:List Pa) (ps:List (LN×LN)) : hd (zce bd ps)=cw "if" \/ hd (zce bd ps)=cw "for" \/ hd (zce bd ps)=[]:=by
 unfold zce zbc;split
 ·split
  ·exact .inr (.inr rfl)
  ·exact .inr (.inl rfl)
 ·exact .inl rfl
theorem z27 (bd:List Pa) (ps:List (LN×LN)) : hd (zce bd ps)∉bdB:=by
 rcases yby bd ps with e | e | e <;> (rw [e]; decide +kernel)
theorem z6x (h:zdd bd) (h2:zet ps) {W:L2N} (hd:W.drop p=zce bd ps) :
  zad (zar 0 "Reader" "read_if" rN m_7 zaa) (zad (zar 0 "Reader" "read_for" rN zjp zaa) zaa) (rd l W p::tl)=some ([.lst (bd.map Pa.toD),.lst (ps.map prD)],rd l W (p + (zce bd ps).length)::tl):=by
 have d0 : W.drop p=zbc (cw "if") (bWd bd)++(zbc (cw "for") (zbq ps)++[]):=by rw [hd,append_nil]; rfl
 have d1:=zeh d0;have e : p + (zce bd ps).length=p + (zbc (cw "if") (bWd bd)).length + (zbc (cw "for") (zbq ps)).length:=by unfold zce; rw [length_append,Nat.add_assoc]
 rw [e];exact zaq (zb6 (yin h) rfl d0 (ztl ych (by decide +kernel))) (zaq (zb6 (z6y h2) rfl d1 (by decide +kernel)) rfl)
theorem z4w {l:Addr} {W:L2N} : ∀ (L:L2N) (n p:Nat) (acc:LD),(∀ x∈L,zcv x=true)->L.length < n->acc.length + L.length<=1000->W.drop p=L ->
  zd3 (mBX (mX2 dNe (zar 0 "Reader" "coming" rN zfs (zad (mX (kI 0)) zaa)) (mX (kSt "")))) (zeq 1 (zar 0 "Reader" "read_name" rN m_3 zaa)) n [rd l W p,.own acc]=some (.nx [rd l W (p + L.length),.own (acc++L.map sT)])
 | [],n + 1,p,acc,_,_,_,h=>by
  unfold zd3;rw [bxX (b:=false) (ρ':=[rd l W p,.own acc]) (zb0 (ze7 l W p 0 [.own acc] rfl) (zap (d:=sT []) rfl) ((neT _ _).trans (by rw [Nat.add_zero,zn0 h]; rfl))),bind_some];show some (Fl.nx [rd l W p,.own acc])=some (Fl.nx [rd l W (p + 0),.own (acc++[])])
  rw [append_nil,Nat.add_zero]
 | x::L,n + 1,p,acc,hR,hl,ha,h=>by
  have h2:=zeg h;have hx:=hR x mem_cons_self;have hne : x≠[]:=fun e=>by have:=(ztm hx).1; rw [e] at this; exact absurd this (by decide)
  have ih:=z4w (l:=l) L n (p + 1) (acc++[sT x]) (fun y hy=>hR y (mem_cons_of_mem _ hy)) (by simp only [length_cons] at hl; omega) (by simp only [length_cons,length_append,length_nil] at ha ⊢; omega) h2;obtain ⟨o,eo,ko⟩:=zu9 (i:=1) (ρ:=[rd l W p,.own acc]) (K:=fun o=>o=.nx [rd l W (p + 1),.own (acc++[sT x])]) rfl (zb6 (nm:="read_name") (zjv hx) rfl (tl:=[.own acc]) (show W.drop p=[x]++L from h) (by simp)) (xs:=acc) rfl (by simp only [length_cons] at ha; omega) rfl;subst ko;unfold zd3;rw [bxX (b:=true) (ρ':=[rd l W p,.own acc]) (zb0 (ze7 l W p 0 [.own acc] rfl) (zap (d:=sT []) rfl) ((neT _ _).trans (by rw [Nat.add_zero,zfz h,decide_eq_false hne]; rfl))),bind_some];show (zeq 1 (zar 0 "Reader" "read_name" rN m_3 zaa) [rd l W p,.own acc]).bind _=_;rw [eo,bind_some];show zd3 _ _ n [rd l W (p + 1),.own (acc++[sT x])]=_;rw [ih,length_cons,map_cons,append_assoc,show p + 1 + L.length=p + (L.length + 1) by omega];rfl
theorem yip {ns:L2N} (h:∀ x∈ns,zcv x=true) (hn:ns≠[]) (hl:ns.length<=12) {W:L2N} (hd:W.drop p=ns) : zsv l [] (fls W p)=some (fls W (p + ns.length),.lst (ns.map sT)):=by
 cases ns with
 | nil=>exact absurd rfl hn
 | cons x L =>
  have h1:=zeg hd;refine zcj ?_;unfold zqt;show wp _ [rd l W p,.no] _;apply zaf;refine zh6 (o:=.nx [rd l W (p + 1),.own [sT x]]) ?_ ?_
  ·unfold zh0;rw [zb6 (zjv (h x mem_cons_self)) rfl (tl:=[.no]) (show W.drop p=[x]++L from hd) (by simp)];rfl
  ·show wp _ [rd l W (p + 1),.own [sT x]] _;apply zaf;refine zh6 (z4w L 1000000000 (p + 1) [sT x] (fun y hy=>h y (mem_cons_of_mem _ hy)) (by simp only [length_cons] at hl; omega) (by simp only [length_cons,length_nil] at hl ⊢; omega) h1) ?_;show wp _ [rd l W (p + 1 + L.length),.own ((x::L).map sT)] _;refine zgf zps ?_;refine zc4 (zbi (zaz rfl (zaz rfl rfl)) (zqr _ 12 (by rw [length_map]; exact hl))) ?_;rw [length_cons,show p + (L.length + 1)=p + 1 + L.length by omega];exact zb4
theorem z1u (bs:List Bool) : zh8 [.lst (bs.map D.bl)]=some (.bl (bs.all id)):=zvj bs
theorem z82 (q:Pa) : m2 dEq (mIx (zbg 0) (kI 0)) (kSt "unlike") [.im q.toD]=some (.bl q.unl):=by
 cases q with
 | is t=>rfl
 | no t=>rfl
 | un a b=>rfl
 | ct w n its ov=>cases w <;> rfl
theorem yiq (h1:zdd bd) (h2:∃ p∈bd,p.unl=false) (h3:zet ps) {W:L2N} (hd:W.drop p=bWd bd++zbc (cw "for") (zbq ps)) : zpg l [] (fls W p)=some (fls W (p + (bWd bd++zbc (cw "for") (zbq ps)).length),Ro.toD (.never bd ps)):=by
 have hn : bd≠[]:=fun e=>by obtain ⟨q,hq,_⟩:=h2; rw [e] at hq; exact not_mem_nil hq
 have d1:=zeh hd;have hl:=h1.2;refine zcj ?_;unfold zn1;show wp _ [rd l W p,.no] _;apply zaf
 have hnb : N_k77.hd (zbc (cw "for") (zbq ps))∉bdB:=by
  have:=ztl (bad:=bdB) (xs:=zbq ps) (q:=[]) (w:=cw "for") (by decide +kernel) (by decide +kernel);rw [append_nil] at this;exact this
 refine zbw (zb6 (zyv h1 hn) rfl hd hnb) ?_;show wp _ [rd l W (p + (bWd bd).length),.im (.lst (bd.map Pa.toD))] _;apply zaf
 have hc : zdq 1 [] (zdx (zab 1)) (zbe 0) kY (m2 dEq (mIx (zbg 0) (kI 0)) (kSt "unlike")) [rd l W (p + (bWd bd).length),.im (.lst (bd.map Pa.toD))]=some ((bd.map Pa.unl).map D.bl):=by
  rw [map_map];exact zos bd Pa.toD _ rfl (by omega) fun q _=>zqi rfl rfl (z82 q)
 refine za2 (b:=false) (zf7 (d:=.bl ((bd.map Pa.unl).all id)) (zbi (zaz (zjj hc) rfl) (z1u _)) ?_) (fun e=>by cases e) fun _=>za5 ?_
 ·have : (bd.map Pa.unl).all id=false:=by
   obtain ⟨q,hq,e⟩:=h2;rw [all_map];exact all_eq_false.mpr ⟨q,hq,by show ¬ q.unl=true; rw [e]; decide⟩
  rw [this];rfl
 ·refine zbo (d:=Ro.toD (.never bd ps)) (ρ1:=[rd l W (p + (bWd bd).length + (zbc (cw "for") (zbq ps)).length),.im (.lst (bd.map Pa.toD))]) (zdc (zaq (zap rfl) (zaq (zap rfl) (zaq (zb6 (z6y h3) rfl (post:=[]) (by rw [append_nil]; exact d1) (by decide +kernel)) rfl)))) ?_;rw [length_append,<- Nat.add_assoc];exact zb4
theorem yil {lo hi:Int} {its:List Ti} (h:zfe (.choose lo hi its ov bd ps)) {W:L2N} (hd:W.drop p=[za0 lo,cw "to",za0 hi,cw "of"]++(zgc its ov++zce bd ps)) : zs4 l [] (fls W p)=some (fls W (p + ([za0 lo,cw "to",za0 hi,cw "of"]++(zgc its ov++zce bd ps)).length),Ro.toD (.choose lo hi its ov bd ps)):=by
 obtain ⟨h1,h2,h3,h4,h5⟩:=(show (zdz lo/\zdz hi)/\((∀ z∈its,zcq z)/\0 < its.length/\its.length<=9)/\((∀ p∈ov,ze6 p)/\ov.length<=2)/\zdd bd/\zet ps from h);have hn : its≠[]:=fun e=>by rw [e] at h2; exact absurd h2.2.1 (by decide)
 have d0 : W.drop p=[za0 lo]++(cw "to" :: ([za0 hi]++(cw "of" :: (zbt its++(zbc (cw "over") (zbq ov)++zce bd ps))))):=by
  rw [hd];show [za0 lo,cw "to",za0 hi,cw "of"]++(zbt its++zbc (cw "over") (zbq ov)++zce bd ps)=_;simp
 have d1:=zeh d0;have d2:=zeg d1;have d3:=zeh d2;have d4:=zeg d3;have d5:=zeh d4;have d6:=zeh d5;have eb:=z27 bd ps;refine zcj ?_;unfold zq4;show wp _ [rd l W p,.no,.no] _;apply zaf;refine zbw (zb6 (zuf h1.1) rfl d0 (by simp)) ?_;show wp _ [rd l W (p + 1),.im (.int lo),.no] _;apply zaf;refine zlm (zm1 (cwD "to") d1) ?_;show wp _ [rd l W (p + 1 + 1),.im (.int lo),.no] _;apply zaf;refine zbw (zb6 (zuf h1.2) rfl d2 (by simp)) ?_;show wp _ [rd l W (p + 1 + 1 + 1),.im (.int lo),.im (.int hi)] _;apply zaf;refine zlm (zm1 (cwD "of") d3) ?_;show wp _ [rd l W (p + 1 + 1 + 1 + 1),.im (.int lo),.im (.int hi)] _;refine zbo (d:=Ro.toD (.choose lo hi its ov bd ps)) (ρ1:=[rd l W (p + 1 + 1 + 1 + 1 + (zbt its).length + (zbc (cw "over") (zbq ov)).length + (zce bd ps).length),.im (.int lo),.im (.int hi)]) (zdc (zaq (zap rfl) (zaq (zap rfl) (zaq (zap rfl) (zaq (zb6 (z6z h2.1 hn (by omega)) rfl d4 (ztl z5z fun z=>eb ?_)) (zaq (zb6 (z60 h3) rfl d5 fun z=>eb ?_) (z6x h4 h5 d6))))))) ?_
 ·rcases mem_cons.mp z with e | z
  ·rw [e]; simp
  ·rw [mem_singleton.mp z]; simp
 ·rcases mem_cons.mp z with e | z
  ·rw [e]; simp
  ·rw [mem_singleton.mp z]; simp
 ·have e : p + ([za0 lo,cw "to",za0 hi,cw "of"]++(zgc its ov++zce bd ps)).length=p + 1 + 1 + 1 + 1 + (zbt its).length + (zbc (cw "over") (zbq ov)).length + (zce bd ps).length:=by
   unfold zgc;simp only [length_append,length_cons,length_nil];omega
  rw [e];exact zb4
theorem zww (h1:w≠cw "rule") (h2:w≠cw "may") : dIn (sT w) (.tup [.str "rule",.str "may"])=some (.bl false):=by
 have a : (("rule" : Str)==tx w)=false:=beq_eq_false_iff_ne.mpr fun e=>h1 (zhn (e.symm.trans (cwT "rule")));have b : (("may" : Str)==tx w)=false:=beq_eq_false_iff_ne.mpr fun e=>h2 (zhn (e.symm.trans (cwT "may")));show some (D.bl ((("rule" : Str)==tx w) || ((("may" : Str)==tx w) || false)))=_;rw [a,b];rfl
theorem z3t (b:Bool) : dIn (sT (cw (ruS b))) (.tup [.str "rule",.str "may"])=some (.bl true):=by
 rw [<- cwD]
 cases b <;> rfl
theorem eqC (w:LN) (z:Str) : dEq (sT w) (.str z)=some (.bl (decide (w=cw z))):=by rw [cwD z]; exact eqT _ _
variable {r:Ro}
theorem ycj (h:zfe r) (l:Addr) : m_4 l [] (fls (zch r) 0)=some (fls (zch r) (zch r).length,r.toD):=by
 refine zcj ?_;unfold b_4;show wp _ [rd l (zch r) 0,.no] _;apply zaf;refine zbw (zds (p:=0) rfl rfl (ziw l (zch r) 0)) ?_
 cases r with
 | kind n ns =>
  obtain ⟨h1,h2,h3,h4⟩:=(show zcv n=true/\(∀ w∈ns,zcv w=true)/\0 < ns.length/\ns.length<=12 from h);have hne : ns≠[]:=fun e=>by rw [e] at h3; exact absurd h3 (by decide)
  show wp _ [rd l (cw "kind" :: n::ns) (0 + 1),.im (sT (cw "kind"))] _;have d1 : (cw "kind" :: n::ns).drop (0 + 1)=[n]++ns:=rfl;have d2:=zeh d1;apply zaf;refine za2 (b:=true) (zba (zas rfl rfl ((eqC _ _).trans (by rw [decide_eq_true rfl])))) (fun _=>?_) fun e=>by cases e
  refine zbo (d:=Ro.toD (.kind n ns)) (ρ1:=[rd l (cw "kind" :: n::ns) (0 + 1 + 1 + ns.length),.im (sT (cw "kind"))]) (zdc (zaq (zap rfl) (zaq (zb6 (zjv h1) rfl d1 (by simp)) (zaq (zds (ds:=[]) rfl rfl (yip h2 hne h4 d2)) rfl)))) ?_;show kR l (cw "kind" :: n::ns) (ns.length + 1 + 1) _ _;rw [show ns.length + 1 + 1=0 + 1 + 1 + ns.length by omega]
  exact zb4
 | rule b t bd ps =>
  obtain ⟨h1,h2,h3⟩:=(show zee t/\zdd bd/\zet ps from h);show wp _ [rd l (cw (ruS b)::(zb1 t++zce bd ps)) (0 + 1),.im (sT (cw (ruS b)))] _;have d1 : (cw (ruS b)::(zb1 t++zce bd ps)).drop (0 + 1)=zb1 t++zce bd ps:=rfl;have d2:=zeh d1;have eb:=z27 bd ps;generalize hW : cw (ruS b)::(zb1 t++zce bd ps)=W at d1 d2;have hWl : W.length=0 + 1 + (zb1 t).length + (zce bd ps).length:=by rw [<- hW,length_cons,length_append]; omega
  apply zaf
  refine za2 (b:=false) (zba (zas rfl rfl ((eqC _ _).trans (by rw [decide_eq_false (by cases b <;> decide +kernel)])))) (fun e=>by cases e) fun _=>za5 ?_
  show wp _ [rd l W (0 + 1),.im (sT (cw (ruS b)))] _;apply zaf;refine za2 (b:=true) (zba (zas rfl rfl (z3t b))) (fun _=>?_) fun e=>by cases e
  refine zbo (d:=Ro.toD (.rule b t bd ps)) (ρ1:=[rd l W (0 + 1 + (zb1 t).length + (zce bd ps).length),.im (sT (cw (ruS b)))]) ((zdc (zaq (zap rfl) (zaq (zb6 (znb h1) rfl d1 fun z=>eb (by rw [mem_singleton.mp z]; simp)) (z6x h2 h3 d2)))).trans ?_) ?_
  ·show some (D.tup [sT (cw (ruS b)),thD t,.lst (bd.map Pa.toD),.lst (ps.map prD)],_)=some (D.tup [.str (ruS b),thD t,.lst (bd.map Pa.toD),.lst (ps.map prD)],_);rw [<- cwD]
  ·have : zch (.rule b t bd ps)=W:=hW;rw [this,hWl]
   exact zb4
 | choose lo hi its ov bd ps =>
  show wp _ [rd l (cw "choose" :: ([za0 lo,cw "to",za0 hi,cw "of"]++(zgc its ov++zce bd ps))) (0 + 1),.im (sT (cw "choose"))] _;have d1 : (cw "choose" :: ([za0 lo,cw "to",za0 hi,cw "of"]++(zgc its ov++zce bd ps))).drop (0 + 1)=[za0 lo,cw "to",za0 hi,cw "of"]++(zgc its ov++zce bd ps):=rfl;generalize hX : [za0 lo,cw "to",za0 hi,cw "of"]++(zgc its ov++zce bd ps)=X at d1;apply zaf;refine za2 (b:=false) (zba (zas rfl rfl ((eqC _ _).trans (by rw [decide_eq_false (by decide +kernel)])))) (fun e=>by cases e) fun _=>za5 ?_;show wp _ [rd l (cw "choose" :: X) (0 + 1),.im (sT (cw "choose"))] _;apply zaf;refine za2 (b:=false) (zba (zas rfl rfl (zww (by decide +kernel) (by decide +kernel)))) (fun e=>by cases e) fun _=>za5 ?_;show wp _ [rd l (cw "choose" :: X) (0 + 1),.im (sT (cw "choose"))] _;apply zaf;refine za2 (b:=true) (zba (zas rfl rfl ((eqC _ _).trans (by rw [decide_eq_true rfl])))) (fun _=>?_) fun e=>by cases e
  have em:=yil h (l:=l) (W:=cw "choose" :: X) (p:=0 + 1) (by rw [hX]; exact d1);rw [hX] at em;refine zbo (zds (ds:=[]) rfl rfl em) ?_;have : zch (.choose lo hi its ov bd ps)=cw "choose" :: X:=by rw [<- hX]; rfl
  rw [this,length_cons,show X.length + 1=0 + 1 + X.length by omega]
  exact zb4
 | never bd ps =>
  obtain ⟨h1,h2,h3⟩:=(show zdd bd/\(∃ p∈bd,p.unl=false)/\zet ps from h);show wp _ [rd l (cw "never" :: (bWd bd++zbc (cw "for") (zbq ps))) (0 + 1),.im (sT (cw "never"))] _;have d1 : (cw "never" :: (bWd bd++zbc (cw "for") (zbq ps))).drop (0 + 1)=bWd bd++zbc (cw "for") (zbq ps):=rfl;generalize hX : bWd bd++zbc (cw "for") (zbq ps)=X at d1;apply zaf;refine za2 (b:=false) (zba (zas rfl rfl ((eqC _ _).trans (by rw [decide_eq_false (by decide +kernel)])))) (fun e=>by cases e) fun _=>za5 ?_;show wp _ [rd l (cw "never" :: X) (0 + 1),.im (sT (cw "never"))] _;apply zaf;refine za2 (b:=false) (zba (zas rfl rfl (zww (by decide +kernel) (by decide +kernel)))) (fun e=>by cases e) fun _=>za5 ?_;show wp _ [rd l (cw "never" :: X) (0 + 1),.im (sT (cw "never"))] _;apply zaf;refine za2 (b:=false) (zba (zas rfl rfl ((eqC _ _).trans (by rw [decide_eq_false (by decide +kernel)])))) (fun e=>by cases e) fun _=>za5 ?_;show wp _ [rd l (cw "never" :: X) (0 + 1),.im (sT (cw "never"))] _;apply zaf;refine za2 (b:=true) (zba (zas rfl rfl ((eqC _ _).trans (by rw [decide_eq_true rfl])))) (fun _=>?_) fun e=>by cases e
  have em:=yiq h1 h2 h3 (l:=l) (W:=cw "never" :: X) (p:=0 + 1) (by rw [hX]; exact d1);rw [hX] at em;refine zbo (zds (ds:=[]) rfl rfl em) ?_;have : zch (.never bd ps)=cw "never" :: X:=by rw [<- hX]; rfl
  rw [this,length_cons,show X.length + 1=0 + 1 + X.length by omega];exact zb4
variable {q:Nat}
open Classical in
theorem zxo {W:L2N} {a b:Sl} (hn:rN.contains nm=false) (h:∀ l,m l [] (fls W p)=some (fls W q,d)) : zjm 1 "Reader" nm rN m zaa [a,.obj "Reader" rN (fls W p),b]=some (d,[a,.obj "Reader" rN (fls W q),b]):=by
 unfold zjm;show (if ("Reader" : Str)="Reader" /\ rN=rN/\rN.contains nm=false then _ else none)=_;rw [if_pos ⟨rfl,rfl,hn⟩];show (if ("Reader" : Str)="Reader" /\ rN=rN then (if h:∃ q,∀ l,m l [] (fls W p)=some q then some (h.choose.2,[a,.obj "Reader" rN h.choose.1,b]) else none) else none)=_;rw [if_pos ⟨rfl,rfl⟩,dif_pos ⟨(fls W q,d),h⟩]
 have e : (⟨(fls W q,d),h⟩ : ∃ q,∀ l,m l [] (fls W p)=some q).choose=(fls W q,d):=by
  have:=(⟨(fls W q,d),h⟩ : ∃ q,∀ l,m l [] (fls W p)=some q).choose_spec 0;rw [h 0] at this;exact Option.some.inj this.symm
 rw [e]
theorem yiu {T:LN} (h:zfe r) (hw:zf9 [.str (tx T)]=some (.lst (wD (zch r)))) : m_1 [.str (tx T)]=some r.toD:=by
 apply zhq;unfold b_1;show wp _ [.im (.str (tx T)),.no,.no] _;apply zaf;refine zh6 (o:=.nx [.im (.str (tx T)),.obj "Reader" rN (fls (zch r) 0),.no]) ?_ ?_
 ·unfold zkt;rw [zaz (zbi rfl hw) rfl];rfl
 show wp _ [.im (.str (tx T)),.obj "Reader" rN (fls (zch r) 0),.no] _;apply zaf;refine zbw (zxo rfl fun l=>ycj h l) ?_;show wp _ [.im (.str (tx T)),.obj "Reader" rN (fls (zch r) (zch r).length),.im r.toD] _;apply zaf;refine zlm (zxo rfl fun l=>ybz (Nat.le_refl _)) ?_;exact z9i rfl (zf2 rfl)
def zep : Nat->D->Prop
 | 0,_=>False
 | _ + 1,.str _=>True
 | _ + 1,.int _=>True
 | n + 1,.tup ds=>ds.length<=500/\∀ d∈ds,zep n d
 | n + 1,.lst ds=>ds.length<=500/\∀ d∈ds,zep n d
 | _ + 1,_=>False
variable {n:Nat}
theorem z7j (ih:∀ d,zep n d->zft n [d,d]=some (.bl true)) (x:D) (ds:LD) (hx:zbg 0 [.im x]=some ds) (hv:∀ i : Sl,zbg 1 [i,.im x,.im x]=some ds/\zbg 2 [i,.im x,.im x]=some ds) (hlen:zcg [x]=some (.int ds.length)) (h:ds.length<=500/\∀ d∈ds,zep n d) :
  zax zh8 (zac (zbp (zdq 1 [0,1] (zfq (zac (zax zcg (zac (zab 1) nZ)) nZ)) (zbe 0) kY (zax (zft n) (zac (mIx (zbg 1) (zab 0)) (zac (mIx (zbg 2) (zab 0)) nZ))))) nZ) [.im x,.im x]=some (.bl true):=by
 have hc : zdq 1 [0,1] (zfq (zac (zax zcg (zac (zab 1) nZ)) nZ)) (zbe 0) kY (zax (zft n) (zac (mIx (zbg 1) (zab 0)) (zac (mIx (zbg 2) (zab 0)) nZ))) [.im x,.im x]=some (((List.range ds.length).map fun _=>true).map D.bl):=by
  rw [map_map];refine zos (List.range ds.length) (fun (i:Nat)=>D.int i) _ ?_ (by rw [length_range]; omega) fun i hi=>?_
  ·unfold zfq;rw [zaz (zbi (m:=zcg) (f:=zac (zab 1) nZ) (ρ:=[.im x,.im x]) rfl hlen) rfl,bind_some,zp1 _ (by omega) (by omega),Int.toNat_natCast]
  ·have hil : i < ds.length:=mem_range.mp hi
   have ha : atI ds ((i:Nat) : Int)=some ds[i]:=by
    unfold atI ixN;rw [if_pos (by omega),if_pos (by omega),bind_some,Int.toNat_natCast,List.getElem?_eq_getElem hil]
   exact zqi rfl rfl (zbi (zaz (zbf (hv _).1 rfl ha) (zaz (zbf (hv _).2 rfl ha) rfl)) (ih _ (h.2 _ (List.getElem_mem hil))))
 refine zbi (zaz (zjj hc) rfl) ((zvj _).trans ?_);rw [all_map]
 congr 2
 exact all_eq_true.mpr fun _ _=>rfl
theorem z7i : ∀ (n:Nat) (d:D),zep n d->zft n [d,d]=some (.bl true)
 | 0,_,h=>h.elim
 | n + 1,d,h=>by
  have ih:=z7i n;show zdl 2 (zn2 (zft n)) [d,d]=_;apply zhq;unfold zn2
  cases d with
  | str z =>
   show wp _ [.im (.str z),.im (.str z)] _;apply zaf;refine za2 (b:=true) rfl (fun _=>?_) fun e=>by cases e
   exact zgx (zj2 (a:=true) rfl (zas rfl rfl (zv2 z z))) (zf2 (by rw [beq_self_eq_true]; rfl))
  | int i =>
   show wp _ [.im (.int i),.im (.int i)] _;apply zaf;refine za2 (b:=false) rfl (fun e=>by cases e) fun _=>za5 ?_;apply zaf;refine za2 (b:=true) rfl (fun _=>?_) fun e=>by cases e
   exact zgx (zj2 (a:=true) rfl (zj2 (a:=true) rfl (zas rfl rfl (ze8 i i)))) (zf2 (by rw [beq_self_eq_true]; rfl))
  | tup ds =>
   show wp _ [.im (.tup ds),.im (.tup ds)] _;apply zaf;refine za2 (b:=false) rfl (fun e=>by cases e) fun _=>za5 ?_;apply zaf;refine za2 (b:=false) rfl (fun e=>by cases e) fun _=>za5 ?_;apply zaf;refine za2 (b:=false) rfl (fun e=>by cases e) fun _=>za5 ?_;apply zaf;refine za2 (b:=false) rfl (fun e=>by cases e) fun _=>za5 ?_;apply zaf;refine za2 (b:=false) (zba (zas rfl rfl ((zou _ _).trans (by simp)))) (fun e=>by cases e) fun _=>za5 ?_
   exact zgx (z7j ih (.tup ds) ds rfl (fun _=>⟨rfl,rfl⟩) rfl h) (zf2 rfl)
  | lst ds =>
   show wp _ [.im (.lst ds),.im (.lst ds)] _;apply zaf;refine za2 (b:=false) rfl (fun e=>by cases e) fun _=>za5 ?_;apply zaf;refine za2 (b:=false) rfl (fun e=>by cases e) fun _=>za5 ?_;apply zaf;refine za2 (b:=false) rfl (fun e=>by cases e) fun _=>za5 ?_;apply zaf;refine za2 (b:=false) rfl (fun e=>by cases e) fun _=>za5 ?_;apply zaf;refine za2 (b:=false) (zba (zas rfl rfl ((zou _ _).trans (by simp)))) (fun e=>by cases e) fun _=>za5 ?_
   exact zgx (z7j ih (.lst ds) ds rfl (fun _=>⟨rfl,rfl⟩) rfl h) (zf2 rfl)
  | non=>exact h.elim
  | bl _=>exact h.elim
  | kl _=>exact h.elim
  | kt _=>exact h.elim
  | ins _ _ _=>exact h.elim
theorem zkk {α : Type} {f:α->D} {L:List α} (h:∀ x∈L,zep n (f x)) : ∀ d∈L.map f,zep n d:=fun d hd=>by
 obtain ⟨x,hx,rfl⟩:=mem_map.mp hd;exact h x hx
theorem zsc (h:zee t) (n:Nat) : zep (n + 3) (thD t):=by
 refine ⟨by simp,fun d hd=>?_⟩
 rcases mem_cons.mp hd with e | hd
 ·rw [e]; exact trivial
 ·rw [mem_singleton.mp hd];exact ⟨by rw [length_map]; have:=h.2.2; omega,zkk fun _ _=>trivial⟩
theorem z3k (h:zcq z) (n:Nat) : zep (n + 4) (zcf z):=by
 refine ⟨by simp,fun d hd=>?_⟩
 rcases mem_cons.mp hd with e | hd
 ·rw [e]; exact zsc h.1 n
 ·rw [mem_singleton.mp hd]; exact trivial
theorem z3l (p:LN×LN) (n:Nat) : zep (n + 2) (prD p):=by
 refine ⟨by simp,fun d hd=>?_⟩
 rcases mem_cons.mp hd with e | hd
 ·rw [e]; exact trivial
 ·rw [mem_singleton.mp hd]; exact trivial
variable {p:Pa}
theorem yct (h:zdg p) (n:Nat) : zep (n + 6) p.toD:=by
 cases p with
 | is t =>
  refine ⟨by simp,fun d hd=>?_⟩
  rcases mem_cons.mp hd with e | hd
  ·rw [e]; exact trivial
  ·rw [mem_singleton.mp hd]; exact zsc (show zee t from h) (n + 2)
 | no t =>
  refine ⟨by simp,fun d hd=>?_⟩
  rcases mem_cons.mp hd with e | hd
  ·rw [e]; exact trivial
  ·rw [mem_singleton.mp hd]; exact zsc (show zee t from h) (n + 2)
 | un a b =>
  refine ⟨by simp,fun d hd=>?_⟩
  rcases mem_cons.mp hd with e | hd
  ·rw [e]; exact trivial
  rcases mem_cons.mp hd with e | hd
  ·rw [e]; exact trivial
  ·rw [mem_singleton.mp hd]; exact trivial
 | ct w m its ov =>
  obtain ⟨h1,h2,h3,h4,h5⟩:=(show zdz m/\(∀ z∈its,zcq z)/\(0 < its.length/\its.length<=9)/\(∀ p∈ov,ze6 p)/\ov.length<=2 from h);refine ⟨by simp,fun d hd=>?_⟩
  rcases mem_cons.mp hd with e | hd
  ·rw [e]; exact trivial
  rcases mem_cons.mp hd with e | hd
  ·rw [e]; exact trivial
  rcases mem_cons.mp hd with e | hd
  ·rw [e]; exact ⟨by rw [length_map]; omega,zkk fun z hz=>z3k (h2 z hz) n⟩
  ·rw [mem_singleton.mp hd]; exact ⟨by rw [length_map]; omega,zkk fun z hz=>z3l z (n + 2)⟩
theorem zsb (h:ps.length<=3) (n:Nat) : zep (n + 3) (.lst (ps.map prD)):=⟨by rw [length_map]; omega,zkk fun z _=>z3l z n⟩
theorem zwq (h:zdd bd) (n:Nat) : zep (n + 7) (.lst (bd.map Pa.toD)):=⟨by rw [length_map]; have:=h.2; omega,zkk fun z hz=>yct (h.1 z hz) n⟩
theorem ycu (h:zfe r) : zep 8 r.toD:=by
 cases r with
 | kind n ns =>
  obtain ⟨h1,h2,h3,h4⟩:=(show zcv n=true/\(∀ w∈ns,zcv w=true)/\0 < ns.length/\ns.length<=12 from h);refine ⟨by simp,fun d hd=>?_⟩
  rcases mem_cons.mp hd with e | hd
  ·rw [e]; exact trivial
  rcases mem_cons.mp hd with e | hd
  ·rw [e]; exact trivial
  ·rw [mem_singleton.mp hd]; exact ⟨by rw [length_map]; omega,zkk fun _ _=>trivial⟩
 | never bd ps =>
  obtain ⟨h1,h2,h3⟩:=(show zdd bd/\(∃ p∈bd,p.unl=false)/\zet ps from h);refine ⟨by simp,fun d hd=>?_⟩
  rcases mem_cons.mp hd with e | hd
  ·rw [e]; exact trivial
  rcases mem_cons.mp hd with e | hd
  ·rw [e]; exact zwq h1 0
  ·rw [mem_singleton.mp hd]; exact zsb h3.2 4
 | choose lo hi its ov bd ps =>
  obtain ⟨h1,h2,h3,h4,h5⟩:=(show (zdz lo/\zdz hi)/\((∀ z∈its,zcq z)/\0 < its.length/\its.length<=9)/\((∀ p∈ov,ze6 p)/\ov.length<=2)/\zdd bd/\zet ps from h);refine ⟨by simp,fun d hd=>?_⟩
  rcases mem_cons.mp hd with e | hd
  ·rw [e]; exact trivial
  rcases mem_cons.mp hd with e | hd
  ·rw [e]; exact trivial
  rcases mem_cons.mp hd with e | hd
  ·rw [e]; exact trivial
  rcases mem_cons.mp hd with e | hd
  ·rw [e]; exact ⟨by rw [length_map]; omega,zkk fun z hz=>z3k (h2.1 z hz) 2⟩
  rcases mem_cons.mp hd with e | hd
  ·rw [e]; exact zsb (by omega) 4
  rcases mem_cons.mp hd with e | hd
  ·rw [e]; exact zwq h4 0
  ·rw [mem_singleton.mp hd]; exact zsb h5.2 4
 | rule b t bd ps =>
  obtain ⟨h1,h2,h3⟩:=(show zee t/\zdd bd/\zet ps from h);refine ⟨by simp,fun d hd=>?_⟩
  rcases mem_cons.mp hd with e | hd
  ·rw [e]; exact trivial
  rcases mem_cons.mp hd with e | hd
  ·rw [e]; exact zsc h1 4
  rcases mem_cons.mp hd with e | hd
  ·rw [e]; exact zwq h2 0
  ·rw [mem_singleton.mp hd]; exact zsb h3.2 4
theorem yb0 {α : Type} {f:MF2} {g:α->D} {xs:List α} (d:α) (e:f ρ=some [.kl (xs.map g)]) : zjl f ρ=some ((List.range xs.length).map fun i=>D.tup [.int (i:Nat),g (xs.getD i d)]):=by
 unfold zjl;rw [e,<- z48];rfl
theorem yjy (ns:List Int) (many:Int) (hm:0 < many/\many<=6) : ∃ ss : List Int,ss.length=many.toNat/\(∀ s∈ss,okS s)/\zxi [.kl (ns.map D.int),.int many]=some (.lst (ss.map D.int)):=by
 have w : wp zof [.im (.kl (ns.map D.int)),.im (.int many),.no,.no,.no,.no] (zko fun d=>∃ ss : List Int,d=.lst (ss.map D.int)/\ss.length=many.toNat/\∀ s∈ss,okS s):=by
  unfold zof;generalize hSc : D.kl (ns.map D.int)=Sc;apply zaf
  have hc : zdq 1 [] (zfq (zac (zab 1) nZ)) (zbe 0) kY (m2 zcb (m2 zib (zab 0) (kI 7368787)) (kI 1000003)) [.im Sc,.im (.int many),.no,.no,.no,.no]=some (((List.range many.toNat).map fun (k:Nat)=>(k:Int) * 7368787 + 1000003).map D.int):=by
   rw [map_map];refine zos (List.range many.toNat) (fun (i:Nat)=>D.int i) _ ?_ (by rw [length_range]; omega) fun i hi=>?_
   ·unfold zfq;rw [show zac (zab 1) nZ [.im Sc,.im (.int many),.no,.no,.no,.no]=some [.int many] from rfl,bind_some,zp1 _ (by omega) (by omega)]
   ·have hil : i < many.toNat:=mem_range.mp hi;exact zqi rfl rfl (zas (zas rfl rfl (zly (.inl (.inr ⟨by decide,by decide⟩)))) rfl zfh)
  refine zgy hc ?_;show wp _ [.im Sc,.im (.int many),.own (((List.range many.toNat).map fun (k:Nat)=>(k:Int) * 7368787 + 1000003).map D.int),.no,.no,.no] _;apply zaf;refine zh5 (List.range ns.length) (fun i=>D.tup [.int (i:Nat),.int (ns.getD i 0)]) (fun _ ρ=>∃ (ss:List Int) (a3 a4 a5:Sl),(ss.length=many.toNat/\∀ s∈ss,okS s)/\ρ=[.im Sc,.im (.int many),.own (ss.map D.int),a3,a4,a5]) (by subst hSc; exact yb0 0 rfl) ⟨_,_,_,_,⟨by rw [length_map,length_range],fun s hs=>?_⟩,rfl⟩ ?_ ?_
  ·obtain ⟨k,hk,rfl⟩:=mem_map.mp hs;have:=mem_range.mp hk;unfold okS;omega
  ·rintro pre i post ρ he ⟨ss,a3,a4,a5,⟨hl,hs⟩,rfl⟩;refine ⟨_,rfl,?_⟩;generalize ns.getD i 0=c;show wp _ [.im Sc,.im (.int many),.own (ss.map D.int),.im (.int (i:Nat)),.im (.int c),a5] _;have hq : 0<=((i:Nat) : Int) % many/\((i:Nat) : Int) % many < many:=⟨Int.emod_nonneg _ (by omega),Int.emod_lt_of_pos _ hm.1⟩;have ei : ∀ (b4 b5:Sl),m2 zfi (zab 3) (zab 1) [.im Sc,.im (.int many),.own (ss.map D.int),.im (.int (i:Nat)),b4,b5]=some (.int (((i:Nat) : Int) % many)):=fun _ _=>zas rfl rfl (zia hm.1);generalize ((i:Nat) : Int) % many=q at hq ei;have hql : q.toNat < ss.length:=by omega
   have ea : atI (ss.map D.int) q=some (.int ss[q.toNat]):=by
    unfold atI ixN;rw [if_pos hq.1,if_pos (by rw [length_map]; omega),bind_some,List.getElem?_map,List.getElem?_eq_getElem hql];rfl
   have ho:=hs _ (List.getElem_mem hql);unfold okS at ho;generalize ss[q.toNat]=s at ea ho;apply zaf;refine ze4 (d:=.int (s * 1000003 + c % 10 ^ 30)) (zas (zas (zbf rfl (ei _ _) ea) rfl (zly (.inr ⟨by omega,by decide⟩))) (zas rfl (zas rfl rfl (zi9 (by decide))) (zia (by decide))) zfh) ?_;show wp _ [.im Sc,.im (.int many),.own (ss.map D.int),.im (.int (i:Nat)),.im (.int c),.im (.int (s * 1000003 + c % 10 ^ 30))] _;refine ylz (d:=.int ((s * 1000003 + c % 10 ^ 30 + (i:Nat)) % (2 ^ 61 - 1))) (k:=q) (xs:=ss.map D.int) (zas (zas rfl rfl zfh) (zas (zas rfl rfl (zi9 (by decide))) rfl zrs) (zia (by decide))) (ei _ _) rfl hq.1 (by rw [length_map]; omega) ?_;refine ⟨ss.set q.toNat ((s * 1000003 + c % 10 ^ 30 + (i:Nat)) % (2 ^ 61 - 1)),.im (.int (i:Nat)),.im (.int c),.im (.int (s * 1000003 + c % 10 ^ 30)),⟨by rw [length_set]; exact hl,fun z hz=>?_⟩,?_⟩
   ·rcases mem_or_eq_of_mem_set hz with e | e
    ·exact hs z e
    ·have h1:=Int.emod_nonneg (s * 1000003 + c % 10 ^ 30 + (i:Nat)) (show (2 ^ 61 - 1 : Int)≠0 by decide);have h2:=Int.emod_lt_of_pos (s * 1000003 + c % 10 ^ 30 + (i:Nat)) (show (0 : Int) < 2 ^ 61 - 1 by decide);rw [e];exact ⟨h1,h2⟩
   ·rw [map_set];rfl
  ·rintro ρ ⟨ss,a3,a4,a5,⟨hl,hs⟩,rfl⟩;exact z07 rfl (zw6 ⟨ss,rfl,hl,hs⟩)
 obtain ⟨d,e,ss,rfl,hl,hs⟩:=z9j (n:=6) (ds:=[.kl (ns.map D.int),.int many]) w;exact ⟨ss,hl,hs,e⟩
theorem zln {f:Xe} (h0:ρ[i]?=some (.own xs0)) (h:f ρ=some (.lst ds,ρ1)) (h':ρ1[i]?=some (.own xs)) (hl:xs.length + ds.length<=16777216) (k:K (.nx (ρ1.set i (.own (xs++ds))))) : wp (zfn i f) ρ K:=⟨_,by
 unfold zfn;rw [h0];show (f ρ).bind _=_;rw [h,bind_some];dsimp only;rw [h'];show (if xs.length + ds.length<=16777216 then some (Fl.nx (ρ1.set i (.own (xs++ds)))) else none)=_;rw [if_pos hl],k⟩
theorem yl2 {f g:Xe} (h1:f ρ=some (.lst xs,ρ1)) (h2:g ρ1=some (.lst ys,ρ2)) (hl:xs.length + ys.length<=16777216) (k:K (.nx (ρ2.set i (.own (xs++ys))))) : wp (zpe i f g) ρ K:=⟨_,by
 unfold zpe;rw [h1,bind_some];dsimp only;rw [h2,bind_some];dsimp only;rw [if_pos hl],k⟩
theorem zlt {m:Addr->LD->LD->LD->Option (LD×D)} {f:Xa} (h0:ρ[i]?=some (.pin l0 xs0)) (h1:f ρ=some (ds,ρ1)) (h2:ρ1[i]?=some (.pin l xs)) (h3:m l ds [] xs=some (ys,d)) : zij i m f ρ=some (d,ρ1.set i (.pin l ys)):=by
 unfold zij;rw [h0];show (f ρ).bind _=_;rw [h1,bind_some];dsimp only;rw [h2];show (m l ds [] xs).map _=_;rw [h3];rfl
open Classical in
theorem z1z {m:Addr->LD->LD->LD->Option (LD×D)} {f:Xa} (h0:ρ[i]?=some (.own xs0)) (h1:f ρ=some (ds,ρ1)) (h2:ρ1[i]?=some (.own xs)) (h3:∀ l,m l ds [] xs=some (ys,d)) : zjk i m f ρ=some (d,ρ1.set i (.own ys)):=by
 unfold zjk;rw [h0];show (f ρ).bind _=_;rw [h1,bind_some];dsimp only;rw [h2];show (if h:∃ q,∀ l,m l ds [] xs=some q then _ else none)=_;rw [dif_pos ⟨(ys,d),h3⟩]
 have e : (⟨(ys,d),h3⟩ : ∃ q,∀ l,m l ds [] xs=some q).choose=(ys,d):=by
  have:=(⟨(ys,d),h3⟩ : ∃ q,∀ l,m l ds [] xs=some q).choose_spec 0;rw [h3 0] at this;exact Option.some.inj this.symm
 rw [e]
theorem zyj {fa fb fn:MF1} {a b:D} (ha:fa ρ=some a) (hb:fb ρ=some b) (hn:fn ρ=some (.int (n:Nat))) : mIx (zac fa (zac fb nZ)) (zkq (m2 dGt fn (kI 0))) ρ=some (if n=0 then a else b):=by
 refine zbf (i:=if decide ((n:Int) > 0) then 1 else 0) (zaz ha (zaz hb rfl)) ?_ ?_
 ·unfold zkq;rw [zas hn rfl zlv];rfl
 ·by_cases e : n=0
  ·subst e; rfl
  ·rw [if_pos (by exact decide_eq_true (show (n:Int) > 0 by omega)),if_neg e]; rfl
noncomputable def opW {α : Type} (a c:LN) (g:α->L2N) : List α->L2N
 | []=>[]
 | x::L=>a::(g x++tlW c g L)
theorem z8x (L:List α) (x:α) : tlW c g (L++[x])=tlW c g L++(c::g x):=by
 unfold tlW;rw [flatMap_append];simp
variable {a:LN}
theorem zyc (L:List α) (x:α) : opW a c g (L++[x])=opW a c g L++((if L=[] then a else c)::g x):=by
 cases L with
 | nil=>show a::(g x++tlW c g [])=_; simp [tlW,opW]
 | cons y L =>
  show a::(g y++tlW c g (L++[x]))=a::(g y++tlW c g L)++_;rw [z8x,if_neg (by simp)];simp
variable {L:List α}
theorem zyb (h:∀ x∈L,g x≠[]) : zbc a (zdy [c] (L.map g))=opW a c g L:=by
 cases L with
 | nil=>rfl
 | cons x L =>
  unfold zbc;rw [zlg,if_neg fun e=>h x mem_cons_self (append_eq_nil_iff.mp e).1];rfl
theorem z5y : opW a c g L=[]↔L=[]:=by
 cases L with
 | nil=>exact ⟨fun _=>rfl,fun _=>rfl⟩
 | cons x L=>exact ⟨fun e=>(by cases e),fun e=>(by cases e)⟩
theorem z77 (L:List α) (x:α) : zdy [c] ((L++[x]).map g)=(if L=[] then [] else zdy [c] (L.map g)++[c])++g x:=by
 cases L with
 | nil=>rfl
 | cons y L =>
  rw [if_neg (by simp),cons_append,zlg,zlg,z8x];simp
theorem z01 {B:Nat} : ∀ L : List α,(∀ x∈L,(g x).length<=B)->(tlW c g L).length<=L.length * (B + 1)
 | [],_=>Nat.zero_le _
 | x::L,h=>by
  have h1:=z01 L fun y hy=>h y (mem_cons_of_mem _ hy);have h2:=h x mem_cons_self;show ((c::g x)++tlW c g L).length<=_;rw [length_append,length_cons,length_cons,Nat.succ_mul];omega
variable {B:Nat}
theorem zm0 (L:List α) (h:∀ x∈L,(g x).length<=B) : (opW a c g L).length<=L.length * (B + 1):=by
 cases L with
 | nil=>exact Nat.zero_le _
 | cons x L =>
  have h1:=z01 (c:=c) L fun y hy=>h y (mem_cons_of_mem _ hy);have h2:=h x mem_cons_self;show (a::(g x++tlW c g L)).length<=_;rw [length_cons,length_append,length_cons,Nat.succ_mul];omega
theorem yjz (L:List α) (h:∀ x∈L,(g x).length<=B) : (zdy [c] (L.map g)).length<=L.length * (B + 1):=by
 cases L with
 | nil=>exact Nat.zero_le _
 | cons x L =>
  have h1:=z01 (c:=c) L fun y hy=>h y (mem_cons_of_mem _ hy);have h2:=h x mem_cons_self;rw [zlg,length_append,length_cons,Nat.succ_mul];omega
theorem zfx (a b:L2N) : wD (a++b)=wD a++wD b:=map_append
theorem zdf (a:L2N) : (wD a).length=a.length:=length_map ..
theorem z8w (t:Th) : zb1 t=t.1::(opW [40] [44] (fun a=>[a]) t.2++(if t.2=[] then [] else [[41]])):=by
 unfold zb1
 by_cases e : t.2=[]
 ·rw [if_pos e,if_pos e,e]; rfl
 ·rw [if_neg e,if_neg e,<- zyb (a:=[40]) (c:=[44]) (g:=fun a=>[a]) (L:=t.2) fun _ _ e=>by cases e];unfold zbc;rw [if_neg fun z=>e ((zuy fun _ _ e=>by cases e).mp z)];rfl
theorem zlk (h:zee t) : 0 < (zb1 t).length/\(zb1 t).length<=8:=by
 rw [z8w,length_cons,length_append];have h1:=zm0 (a:=[40]) (c:=[44]) (g:=fun a : LN=>[a]) (B:=1) t.2 fun _ _=>Nat.le_refl _;have h2:=h.2.2
 have h3 : (if t.2=[] then [] else [[41]] : L2N).length<=1:=by split <;> decide
 omega
theorem zu5 (t:Th) (h:zee t) : zjo [thD t]=some (.lst (wD (zb1 t))):=by
 obtain ⟨h1,h2,h3⟩:=h;rw [z8w];apply zhq;unfold zqx;show wp _ [.im (thD t),.no,.no,.no] _;apply zaf;refine zgy (d:=wD (t.1::opW [40] [44] (fun a=>[a]) ([] : L2N))) (zaz @5 rfl) ?_;show wp _ [.im (thD t),.own (wD (t.1::opW [40] [44] (fun a=>[a]) ([] : L2N))),.no,.no] _;apply zaf;refine zh5 (List.range t.2.length) (fun i=>D.tup [.int (i:Nat),.str (tx (t.2.getD i []))]) (fun pre ρ=>∃ a2 a3,ρ=[.im (thD t),.own (wD (t.1::opW [40] [44] (fun a=>[a]) (t.2.take pre.length))),a2,a3]) (yb1 (g:=fun w=>D.str (tx w)) (xs:=t.2) [] (zaz @5 rfl)) ⟨_,_,rfl⟩ ?_ ?_
 ·rintro pre i post ρ he ⟨a2,a3,rfl⟩
  have hi : i=pre.length/\i < t.2.length:=by
   have h2 : (List.range t.2.length)[pre.length]?=some i:=by rw [he,List.getElem?_append_right (Nat.le_refl _),Nat.sub_self]; rfl
   obtain ⟨hlt,e⟩:=gq h2;rw [List.getElem_range] at e;rw [length_range] at hlt;omega
  obtain ⟨hi1,hi2⟩:=hi;have hg : t.2[i]?=some (t.2.getD i []):=by rw [getD_eq_getElem?_getD,List.getElem?_eq_getElem hi2]; rfl
  have htk : t.2.take (i + 1)=t.2.take i++[t.2.getD i []]:=by rw [take_add_one,hg]; rfl
  rw [length_append,show ([i] : LN).length=1 from rfl,<- hi1,htk,zyc];have hlt : (t.2.take i).length=i:=by rw [length_take]; omega
  have hne : t.2.take i=[]↔i=0:=⟨fun e=>by rw [e] at hlt; exact hlt.symm,fun e=>by rw [e]; rfl⟩;have hb:=zm0 (a:=[40]) (c:=[44]) (g:=fun a : LN=>[a]) (B:=1) (t.2.take i) fun _ _=>Nat.le_refl _;generalize t.2.getD i []=w;generalize t.2.take i=pr at hlt hne hb;refine ⟨_,rfl,?_⟩;show wp _ [.im (thD t),.own (wD (t.1::opW [40] [44] (fun a=>[a]) pr)),.im (.int (i:Nat)),.im (.str (tx w))] _;refine zln (ds:=wD [if pr=[] then [40] else [44],w]) rfl (zap ?_) rfl ?_ ⟨.im (.int (i:Nat)),.im (.str (tx w)),?_⟩
  ·unfold zbp;rw [zaz (zyj (n:=i) rfl rfl rfl) (zaz rfl rfl)]
   by_cases e : i=0
   ·rw [if_pos e,if_pos (hne.mpr e),opS]; rfl
   ·rw [if_neg e,if_neg fun z=>e (hne.mp z),cmS]; rfl
  ·rw [zdf,zdf,length_cons];show _ + 2<=_;omega
  ·show [_,Sl.own (wD _++wD _),_,_]=_;rw [<- zfx];rfl
 ·rintro ρ ⟨a2,a3,rfl⟩;rw [length_range,take_length];have hb:=zm0 (a:=[40]) (c:=[44]) (g:=fun a : LN=>[a]) (B:=1) t.2 fun _ _=>Nat.le_refl _;refine zlo (fun ρ=>ρ=[.im (thD t),.own (wD (t.1::(opW [40] [44] (fun a=>[a]) t.2++(if t.2=[] then [] else [[41]])))),a2,a3]) ?_ ?_
  ·refine za2 (b:=decide ((t.2.length : Int) > 0)) (zba (zas (zbi (zaz @5 rfl) (zji t.2 sT)) rfl zlv)) (fun e=>?_) fun e=>za5 (k_J ?_)
   ·have e0 : t.2≠[]:=fun z=>by rw [z] at e; cases e
    rw [if_neg e0];refine zll (d:=.str ")") (xs:=wD (t.1::opW [40] [44] (fun a=>[a]) t.2)) rfl rfl (by rw [zdf,length_cons]; omega) (k_J ?_);show [_,Sl.own (wD _++[_]),_,_]=_;rw [clS,show [sT [41]]=wD [[41]] from rfl,<- zfx];rfl
   ·have e0 : t.2=[]:=by
     have:=of_decide_eq_false e;exact length_eq_zero_iff.mp (by omega)
    rw [if_pos e0,append_nil]
  ·rintro ρ rfl;exact z07 rfl (zw6 rfl)
noncomputable def stI (p:Int×List Ti) (z:Ti) : Int×List Ti:=if z.2.1=1 then (nx p.1,p.2++[(z.1,z.2.1,decide (dr p.1 3=0))]) else (p.1,p.2++[(z.1,z.2.1,false)])
noncomputable def zbu (L:List Ti) (s:Int) : Int×List Ti:=L.foldl stI (s,[])
theorem z8m : ∀ (L:List Ti) (p:Int×List Ti),okS p.1->okS (L.foldl stI p).1/\(L.foldl stI p).2.map zcf=p.2.map zcf++L.map zcf/\((∀ z∈p.2,zcq z)->(∀ z∈L,zcq z)->∀ z∈(L.foldl stI p).2,zcq z)
 | [],p,h=>⟨h,by simp,fun a _=>a⟩
 | z::L,p,h=>by
  have hp : okS (stI p z).1/\(stI p z).2.map zcf=p.2.map zcf++[zcf z]/\((∀ y∈p.2,zcq y)->zcq z->∀ y∈(stI p z).2,zcq y):=by
   unfold stI;split
   ·refine ⟨zbh _,by simp [zcf],fun a b y hy=>?_⟩
    rcases mem_append.1 hy with hy | hy
    ·exact a y hy
    ·rw [mem_singleton.1 hy]; exact b
   ·refine ⟨h,by simp [zcf],fun a b y hy=>?_⟩
    rcases mem_append.1 hy with hy | hy
    ·exact a y hy
    ·rw [mem_singleton.1 hy]; exact b
  obtain ⟨h1,h2,h3⟩:=z8m L (stI p z) hp.1;refine ⟨h1,?_,fun a b=>h3 (hp.2.2 a (b z mem_cons_self)) fun y hy=>b y (mem_cons_of_mem _ hy)⟩;rw [foldl_cons,h2,hp.2.1];simp
variable {L:List Ti}
theorem zo6 (hs:okS s) (h:∀ z∈L,zcq z) : okS (zbu L s).1/\(zbu L s).2.map zcf=L.map zcf/\(∀ z∈(zbu L s).2,zcq z)/\(zbu L s).2.length=L.length:=by
 obtain ⟨h1,h2,h3⟩:=z8m L (s,[]) hs;refine ⟨h1,h2,h3 (fun _ h=>by cases h) h,?_⟩;have:=congrArg List.length h2;unfold zbu
 simpa using this
theorem ydn (z:Ti) : zfm z≠[]:=by
 unfold zfm zb1
 split <;> simp
theorem ydm (h:zcq z) : (zfm z).length<=9:=by
 have h1:=zlk h.1;unfold zfm
 split <;> (simp only [length_append,length_nil,length_singleton]; omega)
theorem zo5 (h:∀ z∈L,zcq z) : (zbt L).length<=L.length * 10:=yjz L fun z hz=>ydm (h z hz)
theorem z3z : zbt L=[]↔L=[]:=zuy fun z _=>ydn z
theorem ygj {f g:Xt} (h:f ρ=some (true,ρ1)) : zjn f g ρ=some (true,ρ1):=by
 unfold zjn;rw [h];rfl
theorem ygi {f g:Xt} {r:Option (Bool×LS)} (h:f ρ=some (false,ρ1)) (h2:g ρ1=r) : zjn f g ρ=r:=by
 unfold zjn;rw [h];exact h2
theorem zlj {f:MF4} (h:f ρ=some b) : mTX f ρ=some (b,ρ):=by
 unfold mTX;rw [h];rfl
theorem zxq (i:Nat) (l:Addr) (s k:Int) (h0:ρ[i]?=some (.pin l [.int s])) (hf:f ρ=some (.int k)) (h:okS s) (hk:0 < k) : zat i m_0 (zad (mX f) zaa) ρ=some (.int (dr s k),ρ.set i (.pin l [.int (nx s)])):=zg3 h0 (zaq (zap hf) rfl) h0 (zim l s k h hk)
theorem z32 (l:Addr) (its:List Ti) (s:Int) (h:∀ z∈its,zcq z) (hl:its.length<=9) (hs:okS s) : zsz l [.lst (its.map zcf)] [] [.int s]=some ([.int (zbu its s).1],.lst (wD (zbt (zbu its s).2))):=by
 generalize hS : D.lst (its.map zcf)=Sc
 have w : wp zoc [.im Sc,.pin l [.int s],.no,.no,.no] (fun o=>∃ a3 a4,o=.rtS (.lst (wD (zbt (zbu its s).2))) [.im Sc,.pin l [.int (zbu its s).1],.im (.lst (wD (zbt (zbu its s).2))),a3,a4]):=by
  unfold zoc;apply zaf;refine zgy (d:=wD (zbt (zbu [] s).2)) rfl ?_;show wp _ [.im Sc,.pin l [.int (zbu [] s).1],.own (wD (zbt (zbu [] s).2)),.no,.no] _;apply zaf;refine zh5 its zcf (fun pre ρ=>∃ a3 a4,ρ=[.im Sc,.pin l [.int (zbu pre s).1],.own (wD (zbt (zbu pre s).2)),a3,a4]) (by rw [<- hS]; rfl) ⟨_,_,rfl⟩ ?_ ?_
  ·rintro pre z post ρ he ⟨a3,a4,rfl⟩;have hz : zcq z:=h z (by rw [he]; simp);have hp : ∀ y∈pre,zcq y:=fun y hy=>h y (by rw [he]; simp [hy]);have hpl : pre.length<=9:=by have:=congrArg List.length he; rw [length_append] at this; omega
   obtain ⟨o1,o2,o3,o4⟩:=zo6 hs hp;have hsn : zbu (pre++[z]) s=stI (zbu pre s) z:=by unfold zbu; rw [foldl_append]; rfl
   rw [hsn];generalize zbu pre s=p at o1 o2 o3 o4;have b1:=zo5 o3;have b2:=zlk hz.1;rw [o4] at b1;refine ⟨_,rfl,?_⟩;show wp _ [.im Sc,.pin l [.int p.1],.own (wD (zbt p.2)),.im (thD z.1),.im (.int z.2.1)] _;refine zlo (fun ρ=>ρ=[.im Sc,.pin l [.int p.1],.own (wD (if p.2=[] then [] else zbt p.2++[[44]])),.im (thD z.1),.im (.int z.2.1)]) ?_ ?_
   ·refine za2 (b:=decide (((zbt p.2).length : Int) > 0)) (zba (zas (zbi (zaz rfl rfl) (zji (zbt p.2) sT)) rfl zlv)) (fun e=>?_) fun e=>za5 (k_J ?_)
    ·have e0 : p.2≠[]:=fun q=>by rw [z3z.mpr q] at e; cases e
     rw [if_neg e0];refine zll (d:=.str ",") (xs:=wD (zbt p.2)) rfl rfl (by rw [zdf]; omega) (k_J ?_);show [_,_,Sl.own (wD _++[_]),_,_]=_;rw [cmS,show [sT [44]]=wD [[44]] from rfl,<- zfx]
    ·have e0 : zbt p.2=[]:=by
      have:=of_decide_eq_false e;exact length_eq_zero_iff.mp (by omega)
     rw [if_pos (z3z.mp e0),e0]
   ·rintro ρ rfl
    have b3 : (if p.2=[] then [] else zbt p.2++[[44]]).length<=101:=by
     split
     ·exact Nat.zero_le _
     ·simp only [length_append,length_singleton]; omega
    have hW : zbt (p.2++[(z.1,z.2.1,decide (dr p.1 3=0))])=(if p.2=[] then [] else zbt p.2++[[44]])++zfm (z.1,z.2.1,decide (dr p.1 3=0)):=z77 ..;have hW2 : zbt (p.2++[(z.1,z.2.1,false)])=(if p.2=[] then [] else zbt p.2++[[44]])++zfm (z.1,z.2.1,false):=z77 ..;generalize (if p.2=[] then [] else zbt p.2++[[44]])=X at b3 hW hW2;have hN:=zw1 hz
    have last : ∀ (q:Int) (Y:L2N),Y.length<=1->wp (zfn 2 (mX (zax zjo (zac (zab 3) nZ)))) [.im Sc,.pin l [.int q],.own (wD (X++Y)),.im (thD z.1),.im (.int z.2.1)] (fun o=>o=.nx [.im Sc,.pin l [.int q],.own (wD (X++(Y++zb1 z.1))),.im (thD z.1),.im (.int z.2.1)]):=fun q Y hY=>by
     refine zln (xs:=wD (X++Y)) (ds:=wD (zb1 z.1)) rfl (zap (zbi (zaz rfl rfl) (zu5 z.1 hz.1))) rfl (by rw [zdf,zdf,length_append]; omega) ?_;show Fl.nx [_,_,Sl.own (wD _++wD _),_,_]=_;rw [<- zfx,append_assoc]
    by_cases e1 : z.2.1=1
    ·have es : stI p z=(nx p.1,p.2++[(z.1,z.2.1,decide (dr p.1 3=0))]):=if_pos e1;rw [es];dsimp only;rw [hW];unfold zfm;dsimp only
     have et : zjn (mTX (mB (m2 dNe (zab 4) (kI 1)))) (mBX (mX2 dEq (zat 1 m_0 (zad (mX (kI 3)) zaa)) (mX (kI 0)))) [.im Sc,.pin l [.int p.1],.own (wD X),.im (thD z.1),.im (.int z.2.1)]=some (dr p.1 3==0,[.im Sc,.pin l [.int (nx p.1)],.own (wD X),.im (thD z.1),.im (.int z.2.1)]):=by
      refine ygi (zlj (zba (zas rfl rfl (zou _ _ |>.trans ?_)))) (bxX (zb0 (zxq 1 l p.1 3 rfl rfl o1 (by decide)) (zap rfl) (ze8 _ _)));rw [e1]; rfl
     apply zaf;refine zeb et (fun e=>?_) fun e=>za5 ?_
     ·have e0 : dr p.1 3=0:=by simpa using e
      rw [if_neg (by rw [decide_eq_true e0]; simp)];refine zll (d:=.str (tx (za0 z.2.1))) (xs:=wD X) (by show (zab 4 _).bind zg6=_; exact z0x hN) rfl (by rw [zdf]; omega) ?_;obtain ⟨o,ho,rfl⟩:=last (nx p.1) [za0 z.2.1] (Nat.le_refl _);rw [zfx] at ho;exact ⟨_,ho,⟨_,_,rfl⟩⟩
     ·have e0 : ¬ dr p.1 3=0:=by simpa using e
      rw [if_pos ⟨e1,decide_eq_false e0⟩];obtain ⟨o,ho,rfl⟩:=last (nx p.1) [] (by decide);rw [append_nil] at ho;exact ⟨_,ho,⟨_,_,rfl⟩⟩
    ·have es : stI p z=(p.1,p.2++[(z.1,z.2.1,false)]):=if_neg e1;rw [es];dsimp only;rw [hW2];unfold zfm;dsimp only;rw [if_neg fun q=>e1 q.1];apply zaf;refine zeb (b:=true) (ygj (zlj (zba (zas rfl rfl (zou _ _ |>.trans ?_))))) (fun _=>?_) fun e=>by cases e
     ·rw [show (z.2.1==1)=false from beq_eq_false_iff_ne.mpr e1]; rfl
     refine zll (d:=.str (tx (za0 z.2.1))) (xs:=wD X) (by show (zab 4 _).bind zg6=_; exact z0x hN) rfl (by rw [zdf]; omega) ?_;obtain ⟨o,ho,rfl⟩:=last p.1 [za0 z.2.1] (Nat.le_refl _);rw [zfx] at ho;exact ⟨_,ho,⟨_,_,rfl⟩⟩
  ·rintro ρ ⟨a3,a4,rfl⟩;refine zgf (ρ':=[.im Sc,.pin l [.int (zbu its s).1],.im (.lst (wD (zbt (zbu its s).2))),a3,a4]) rfl ?_;exact zc4 rfl ⟨_,_,rfl⟩
 obtain ⟨o,e,a3,a4,rfl⟩:=w;exact zd4 (ρ:=[.im Sc,.pin l [.int (zbu its s).1],.im (.lst (wD (zbt (zbu its s).2))),a3,a4]) e rfl
theorem zpt (z:Str) (ps:List (LN×LN)) (hl:ps.length<=3) : zmp [.str z,.lst (ps.map prD)]=some (.lst (wD (opW (cw z) [44] zd9 ps))):=by
 apply zhq;unfold zqz;show wp _ [.im (.str z),.im (.lst (ps.map prD)),.no,.no,.no] _;apply zaf;refine zgy (d:=wD (opW (cw z) [44] zd9 [])) rfl ?_;show wp _ [.im (.str z),.im (.lst (ps.map prD)),.own (wD (opW (cw z) [44] zd9 [])),.no,.no] _;apply zaf;refine zh5 ps prD (fun pre ρ=>∃ a3 a4,ρ=[.im (.str z),.im (.lst (ps.map prD)),.own (wD (opW (cw z) [44] zd9 pre)),a3,a4]) rfl ⟨_,_,rfl⟩ ?_ ?_
 ·rintro pre q post ρ he ⟨a3,a4,rfl⟩;have hpl : pre.length<=3:=by have:=congrArg List.length he; rw [length_append] at this; omega
  have hb:=zm0 (a:=cw z) (c:=[44]) (g:=zd9) (B:=3) pre fun _ _=>Nat.le_refl _;refine ⟨_,rfl,?_⟩;show wp _ [.im (.str z),.im (.lst (ps.map prD)),.own (wD (opW (cw z) [44] zd9 pre)),.im (.str (tx q.1)),.im (.str (tx q.2))] _;rw [zyc];have hne : opW (cw z) [44] zd9 pre=[]↔pre=[]:=z5y;generalize opW (cw z) [44] zd9 pre=X at hb hne;refine zln (ds:=wD ((if pre=[] then cw z else [44])::zd9 q)) rfl (zap ?_) rfl ?_ ⟨.im (.str (tx q.1)),.im (.str (tx q.2)),?_⟩
  ·unfold zbp;rw [zaz (zyj (n:=X.length) rfl rfl (zbi (zaz rfl rfl) (zji X sT))) (zaz rfl (zaz rfl (zaz rfl rfl)))]
   by_cases e : pre=[]
   ·rw [if_pos e,hne.mpr e,if_pos (show ([] : L2N).length=0 from rfl),cwD z,cwD "in"]; rfl
   ·rw [if_neg e,if_neg fun q=>e (hne.mp (length_eq_zero_iff.mp q)),cmS,cwD "in"]; rfl
  ·rw [zdf,zdf];show _ + 4<=_;omega
  ·show [_,_,Sl.own (wD _++wD _),_,_]=_;rw [<- zfx]
 ·rintro ρ ⟨a3,a4,rfl⟩;exact z07 rfl (zw6 rfl)
noncomputable def prS (s:Int) : Pa->Int×Pa
 | .ct w n its ov=>((zbu its s).1,.ct w n (zbu its s).2 ov)
 | p=>(s,p)
theorem z6i (hs:okS s) (h:zdg p) : okS (prS s p).1/\zdg (prS s p).2/\(prS s p).2.toD=p.toD/\(prS s p).2.unl=p.unl:=by
 cases p with
 | ct w n its ov =>
  obtain ⟨h1,h2,h3,h4⟩:=h;obtain ⟨o1,o2,o3,o4⟩:=zo6 hs h2;refine ⟨o1,⟨h1,o3,by rw [o4]; exact h3,h4⟩,?_,rfl⟩;show D.tup [_,_,.lst ((zbu its s).2.map zcf),_]=_;rw [o2]
  rfl
 | _=>exact ⟨hs,h,rfl,rfl⟩
theorem yhx (q:LN×LN) : zd9 q≠[]:=fun e=>by cases e
theorem zir (a:LN) (ps:List (LN×LN)) : zbc a (zbq ps)=opW a [44] zd9 ps:=zyb fun q _=>yhx q
theorem zop (a:LN) (bd:List Pa) : zbc a (bWd bd)=opW a (cw "and") pWd bd:=zyb fun q _=>z51 q
theorem zis (a:LN) (h:ps.length<=3) : (opW a [44] zd9 ps).length<=12:=by
 have:=zm0 (a:=a) (c:=[44]) (g:=zd9) (B:=3) ps fun _ _=>Nat.le_refl _;omega
theorem z50 (h:zdg p) : (pWd p).length<=105:=by
 cases p with
 | is t=>have:=zlk (t:=t) h; show (zb1 t).length<=105; omega
 | no t=>have:=zlk (t:=t) h; show (cw "not" :: zb1 t).length<=105; rw [length_cons]; omega
 | un a b=>show 3<=105; decide
 | ct w n its ov =>
  obtain ⟨h1,h2,h3,h4,h5⟩:=h;have a1:=zo5 h2;have a2:=zis (cw "over") (ps:=ov) (by omega);show ([cw (ctS w),za0 n,cw "of"]++(zbt its++zbc (cw "over") (zbq ov))).length<=105;rw [zir];simp only [length_append,length_cons,length_nil];omega
theorem eqZ {a b:Str} {t:Bool} (h:decide (cw a=cw b)=t) : dEq (.str a) (.str b)=some (.bl t):=by
 rw [cwD a,cwD b,eqT,h]
variable {n:Int}
theorem m1S (h:f ρ=some (.int n)) (hn:zdz n) : m1 zg6 f ρ=some (.str (tx (za0 n))):=by
 unfold m1;rw [h];exact z0x hn
theorem ygm (l:Addr) (p:Pa) (s:Int) (h:zdg p) (hs:okS s) : zxl l [p.toD] [] [.int s]=some ([.int (prS s p).1],.lst (wD (pWd (prS s p).2))):=by
 have w : wp zon [.im p.toD,.pin l [.int s],.no] (fun o=>∃ a2,o=.rtS (.lst (wD (pWd (prS s p).2))) [.im p.toD,.pin l [.int (prS s p).1],a2]):=by
  unfold zon
  cases p with
  | un a b =>
   apply zaf;refine za2 (b:=true) (zba (zas @5 rfl rfl)) (fun _=>?_) fun e=>by cases e
   refine zc4 (d:=.lst (wD [a,cw "unlike",b])) ?_ ⟨_,rfl⟩;unfold zbp;rw [zaz @5 (zaz rfl (zaz @5 rfl)),cwD "unlike"]
   rfl
  | is t =>
   apply zaf;refine za2 (b:=false) (zba (zas @5 rfl (eqZ (by decide +kernel)))) (fun e=>by cases e) fun _=>za5 ?_;apply zaf;refine za2 (b:=true) (zba (zas @5 rfl (eqZ (by decide +kernel)))) (fun _=>?_) fun e=>by cases e
   exact zc4 (zbi (zaz @5 rfl) (zu5 t h)) ⟨_,rfl⟩
  | no t =>
   have hb:=zlk (t:=t) h;apply zaf;refine za2 (b:=false) (zba (zas @5 rfl (eqZ (by decide +kernel)))) (fun e=>by cases e) fun _=>za5 ?_;apply zaf;refine za2 (b:=false) (zba (zas @5 rfl (eqZ (by decide +kernel)))) (fun e=>by cases e) fun _=>za5 ?_;apply zaf;refine za2 (b:=true) (zba (zas @5 rfl (eqZ (by decide +kernel)))) (fun _=>?_) fun e=>by cases e
   refine zc4 (d:=.lst (wD (cw "not" :: zb1 t))) ?_ ⟨_,rfl⟩;have e : zf6 (zbp (zac (kSt "not") nZ)) (zax zjo (zac (mIx (zbg 0) (kI 1)) nZ)) [.im (Pa.toD (.no t)),.pin l [.int s],.no]=some ([.str "not"]++wD (zb1 t)):=zvv rfl (zbi (zaz @5 rfl) (zu5 t h)) (by rw [zdf]; show 1 + _<=_; omega);show (zf6 _ _ _).map D.lst=_;rw [e,cwD "not"]
   rfl
  | ct w n its ov =>
   obtain ⟨h1,h2,h3,h4,h5⟩:=h;obtain ⟨o1,o2,o3,o4⟩:=zo6 hs h2;have b1:=zo5 o3;have b2:=zis (cw "over") (ps:=ov) (by omega);rw [o4] at b1
   have ne : ∀ z : Str,z="unlike" \/ z="is" \/ z="not" -> dEq (.str (ctS w)) (.str z)=some (.bl false):=fun z hz=>by
    rcases hz with rfl | rfl | rfl <;> (cases w <;> exact eqZ (by decide +kernel))
   apply zaf;refine za2 (b:=false) (zba (zas @5 rfl (ne _ (by simp)))) (fun e=>by cases e) fun _=>za5 ?_;apply zaf;refine za2 (b:=false) (zba (zas @5 rfl (ne _ (by simp)))) (fun e=>by cases e) fun _=>za5 ?_;apply zaf;refine za2 (b:=false) (zba (zas @5 rfl (ne _ (by simp)))) (fun e=>by cases e) fun _=>za5 ?_
   have e0 : mX (zbp (zac (mIx (zbg 0) (kI 0)) (zac (m1 zg6 (mIx (zbg 0) (kI 1))) (zac (kSt "of") nZ)))) [.im (Pa.toD (.ct w n its ov)),.pin l [.int s],.no]=some (.lst (wD [cw (ctS w),za0 n,cw "of"]),[.im (Pa.toD (.ct w n its ov)),.pin l [.int s],.no]):=by
    refine zap ?_;unfold zbp;rw [zaz @5 (zaz (m1S @5 h1) (zaz rfl rfl)),cwD "of",cwD (ctS w)];rfl
   apply zaf;refine zbw (zb0 e0 (zlt rfl (zaq (zap @5) rfl) rfl (z32 l its s h2 h3.2 hs)) (d:=.lst (wD ([cw (ctS w),za0 n,cw "of"]++zbt (zbu its s).2))) ?_) ?_
   ·show (if (wD [cw (ctS w),za0 n,cw "of"]).length + (wD (zbt (zbu its s).2)).length<=16777216 then some (D.lst (wD _++wD _)) else none)=_;rw [if_pos (by rw [zdf,zdf]; show 3 + _<=_; omega),zfx]
   ·show wp _ [.im (Pa.toD (.ct w n its ov)),.pin l [.int (zbu its s).1],.im (.lst (wD ([cw (ctS w),za0 n,cw "of"]++zbt (zbu its s).2)))] _;refine zc4 (d:=.lst (wD (pWd (prS s (.ct w n its ov)).2))) (zas rfl (zbi (zaz rfl (zaz @5 rfl)) (zpt "over" ov (by omega))) ?_) ⟨_,rfl⟩;show (if (wD ([cw (ctS w),za0 n,cw "of"]++zbt (zbu its s).2)).length + (wD (opW (cw "over") [44] zd9 ov)).length<=16777216 then some (D.lst (wD _++wD _)) else none)=_;rw [if_pos (by rw [zdf,zdf,length_append]; show 3 + _ + _<=_; omega),<- zfx];show _=some (D.lst (wD ([cw (ctS w),za0 n,cw "of"]++(zbt (zbu its s).2++zbc (cw "over") (zbq ov)))));rw [zir,append_assoc]
 obtain ⟨o,e,a2,rfl⟩:=w;exact zd4 (ρ:=[.im p.toD,.pin l [.int (prS s p).1],a2]) e rfl
noncomputable def stB (p:Int×List Pa) (q:Pa) : Int×List Pa:=((prS p.1 q).1,p.2++[(prS p.1 q).2])
noncomputable def bdS (L:List Pa) (s:Int) : Int×List Pa:=L.foldl stB (s,[])
theorem z8l : ∀ (L:List Pa) (p:Int×List Pa),okS p.1->(∀ q∈L,zdg q)->okS (L.foldl stB p).1/\(L.foldl stB p).2.map Pa.toD=p.2.map Pa.toD++L.map Pa.toD/\(L.foldl stB p).2.map Pa.unl=p.2.map Pa.unl++L.map Pa.unl/\((∀ z∈p.2,zdg z)->∀ z∈(L.foldl stB p).2,zdg z)
 | [],p,h,_=>⟨h,by simp,by simp,fun a=>a⟩
 | q::L,p,h,hL=>by
  obtain ⟨a1,a2,a3,a4⟩:=z6i h (hL q mem_cons_self);obtain ⟨h1,h2,h3,h4⟩:=z8l L (stB p q) a1 fun y hy=>hL y (mem_cons_of_mem _ hy);refine ⟨h1,?_,?_,fun b=>h4 fun z hz=>?_⟩
  ·rw [foldl_cons,h2];show (p.2++[(prS p.1 q).2]).map Pa.toD++_=_;simp [a3]
  ·rw [foldl_cons,h3];show (p.2++[(prS p.1 q).2]).map Pa.unl++_=_;simp [a4]
  ·rcases mem_append.1 hz with hz | hz
   ·exact b z hz
   ·rw [mem_singleton.1 hz]; exact a2
theorem zri {L:List Pa} (hs:okS s) (h:∀ q∈L,zdg q) : okS (bdS L s).1/\(bdS L s).2.map Pa.toD=L.map Pa.toD/\(bdS L s).2.map Pa.unl=L.map Pa.unl/\(∀ z∈(bdS L s).2,zdg z)/\(bdS L s).2.length=L.length:=by
 obtain ⟨h1,h2,h3,h4⟩:=z8l L (s,[]) hs h;refine ⟨h1,h2,h3,h4 (fun _ h=>by cases h),?_⟩;have:=congrArg List.length h2;unfold bdS
 simpa using this
theorem z1l (a:LN) (h:∀ q∈bd,zdg q) : (opW a (cw "and") pWd bd).length<=bd.length * 106:=zm0 bd fun q hq=>z50 (h q hq)
theorem zvs (l:Addr) (z:Str) (bd:List Pa) (s:Int) (h:zdd bd) (hs:okS s) : zs1 l [.str z,.lst (bd.map Pa.toD)] [] [.int s]=some ([.int (bdS bd s).1],.lst (wD (opW (cw z) (cw "and") pWd (bdS bd s).2))):=by
 obtain ⟨h1,h2⟩:=h;generalize hS : D.lst (bd.map Pa.toD)=Sc
 have w : wp zoe [.im (.str z),.im Sc,.pin l [.int s],.no,.no] (fun o=>∃ a4,o=.rtS (.lst (wD (opW (cw z) (cw "and") pWd (bdS bd s).2))) [.im (.str z),.im Sc,.pin l [.int (bdS bd s).1],.im (.lst (wD (opW (cw z) (cw "and") pWd (bdS bd s).2))),a4]):=by
  unfold zoe;apply zaf;refine zgy (d:=wD (opW (cw z) (cw "and") pWd (bdS [] s).2)) rfl ?_;show wp _ [.im (.str z),.im Sc,.pin l [.int (bdS [] s).1],.own (wD (opW (cw z) (cw "and") pWd (bdS [] s).2)),.no] _;apply zaf;refine zh5 bd Pa.toD (fun pre ρ=>∃ a4,ρ=[.im (.str z),.im Sc,.pin l [.int (bdS pre s).1],.own (wD (opW (cw z) (cw "and") pWd (bdS pre s).2)),a4]) (by rw [<- hS]; rfl) ⟨_,rfl⟩ ?_ ?_
  ·rintro pre q post ρ he ⟨a4,rfl⟩;have hq : zdg q:=h1 q (by rw [he]; simp);have hp : ∀ y∈pre,zdg y:=fun y hy=>h1 y (by rw [he]; simp [hy]);have hpl : pre.length<=4:=by have:=congrArg List.length he; rw [length_append] at this; omega
   obtain ⟨o1,o2,_,o3,o4⟩:=zri hs hp;have hsn : bdS (pre++[q]) s=stB (bdS pre s) q:=by unfold bdS; rw [foldl_append]; rfl
   rw [hsn];generalize bdS pre s=p at o1 o2 o3 o4;have b1:=z1l (cw z) o3;rw [o4] at b1;obtain ⟨q1,q2,_,_⟩:=z6i o1 hq;have b2:=z50 q2;unfold stB;dsimp only;rw [zyc];have hne : opW (cw z) (cw "and") pWd p.2=[]↔p.2=[]:=z5y;generalize opW (cw z) (cw "and") pWd p.2=X at b1 hne;refine ⟨_,rfl,?_⟩;show wp _ [.im (.str z),.im Sc,.pin l [.int p.1],.own (wD X),.im q.toD] _;apply zaf
   have ed : (if X.length=0 then D.str z else D.str "and")=sT (if p.2=[] then cw z else cw "and"):=by
    by_cases e : p.2=[]
    ·rw [if_pos e,hne.mpr e,if_pos (show ([] : L2N).length=0 from rfl),cwD z]
    ·rw [if_neg e,if_neg fun y=>e (hne.mp (length_eq_zero_iff.mp y)),cwD "and"]
   refine zll (d:=sT (if p.2=[] then cw z else cw "and")) (xs:=wD X) (by rw [<- ed]; exact zyj (n:=X.length) rfl rfl (zbi (zaz rfl rfl) (zji X sT))) rfl (by rw [zdf]; omega) ?_;show wp _ [.im (.str z),.im Sc,.pin l [.int p.1],.own (wD X++wD [if p.2=[] then cw z else cw "and"]),.im q.toD] _;rw [<- zfx];refine zln (xs:=wD (X++[if p.2=[] then cw z else cw "and"])) rfl (zlt rfl (zaq (zap rfl) rfl) rfl (ygm l q p.1 hq o1)) rfl (by rw [zdf,zdf,length_append,length_singleton]; omega) ⟨.im q.toD,?_⟩;show [_,_,_,Sl.own (wD _++wD _),_]=_;rw [<- zfx,append_assoc];rfl
  ·rintro ρ ⟨a4,rfl⟩;refine zgf (ρ':=[.im (.str z),.im Sc,.pin l [.int (bdS bd s).1],.im (.lst (wD (opW (cw z) (cw "and") pWd (bdS bd s).2))),a4]) rfl ?_;exact zc4 rfl ⟨_,rfl⟩
 obtain ⟨o,e,a4,rfl⟩:=w;exact zd4 (ρ:=[.im (.str z),.im Sc,.pin l [.int (bdS bd s).1],.im (.lst (wD (opW (cw z) (cw "and") pWd (bdS bd s).2))),a4]) e rfl
noncomputable def roS (s:Int) : Ro->Int×Ro
 | .kind n ns=>(s,.kind n ns)
 | .rule b t bd ps=>((bdS bd s).1,.rule b t (bdS bd s).2 ps)
 | .choose lo hi its ov bd ps=>((bdS bd (zbu its s).1).1,.choose lo hi (zbu its s).2 ov (bdS bd (zbu its s).1).2 ps)
 | .never bd ps=>((bdS bd s).1,.never (bdS bd s).2 ps)
theorem zls (hs:okS s) (h:zdd bd) : okS (bdS bd s).1/\zdd (bdS bd s).2/\(bdS bd s).2.map Pa.toD=bd.map Pa.toD:=by
 obtain ⟨a,b,_,c,d⟩:=zri hs h.1;exact ⟨a,⟨c,by rw [d]; exact h.2⟩,b⟩
theorem yi6 (hs:okS s) (h:zfe r) : okS (roS s r).1/\zfe (roS s r).2/\(roS s r).2.toD=r.toD:=by
 cases r with
 | kind n ns=>exact ⟨hs,h,rfl⟩
 | rule b t bd ps =>
  obtain ⟨h1,h2,h3⟩:=h;obtain ⟨a,c,d⟩:=zls hs h2;refine ⟨a,⟨h1,c,h3⟩,?_⟩;show D.tup [_,_,.lst ((bdS bd s).2.map Pa.toD),_]=_
  rw [d]; rfl
 | choose lo hi its ov bd ps =>
  obtain ⟨h1,h2,h3,h4,h5⟩:=h;obtain ⟨o1,o2,o3,o4⟩:=zo6 hs h2.1;obtain ⟨a,c,d⟩:=zls o1 h4;refine ⟨a,⟨h1,⟨o3,by rw [o4]; exact h2.2⟩,h3,c,h5⟩,?_⟩;show D.tup [_,_,_,.lst ((zbu its s).2.map zcf),_,.lst ((bdS bd (zbu its s).1).2.map Pa.toD),_]=_
  rw [d,o2]; rfl
 | never bd ps =>
  obtain ⟨h1,h2,h3⟩:=h;obtain ⟨a,c,d⟩:=zls hs h1;refine ⟨a,⟨c,?_,h3⟩,?_⟩
  ·obtain ⟨p,hp,e⟩:=h2;have hm : false∈bd.map Pa.unl:=mem_map.2 ⟨p,hp,e⟩;rw [<- (zri hs h1.1).2.2.1] at hm;obtain ⟨q,hq,e'⟩:=mem_map.1 hm;exact ⟨q,hq,e'⟩
  ·show D.tup [_,.lst ((bdS bd s).2.map Pa.toD),_]=_;rw [d]; rfl
theorem zo8 {a b:L2N} (h:a.length + b.length<=100000) : zcb (.lst (wD a)) (.lst (wD b))=some (.lst (wD (a++b))):=by
 show (if (wD a).length + (wD b).length<=16777216 then some (D.lst (wD a++wD b)) else none)=_;rw [if_pos (by rw [zdf,zdf]; omega),zfx]
theorem zoq (a:LN) (h:zdd bd) : (opW a (cw "and") pWd bd).length<=424:=by
 have:=z1l a h.1;have:=h.2;omega
theorem ylw (l:Addr) (r:Ro) (s:Int) (h:zfe r) (hs:okS s) : zs2 l [r.toD] [] [.int s]=some ([.int (roS s r).1],.lst (wD (zch (roS s r).2))):=by
 have w : wp zoh [.im r.toD,.pin l [.int s],.no] (fun o=>∃ a2,o=.rtS (.lst (wD (zch (roS s r).2))) [.im r.toD,.pin l [.int (roS s r).1],a2]):=by
  unfold zoh
  cases r with
  | kind n ns =>
   obtain ⟨h1,h2,h3,h4⟩:=h;apply zaf;refine za2 (b:=true) (zba (zas @5 rfl (eqZ (by decide +kernel)))) (fun _=>?_) fun e=>by cases e
   refine zc4 (d:=.lst (wD (cw "kind" :: n::ns))) ?_ ⟨_,rfl⟩;show (zf6 _ _ _).map D.lst=_;rw [zvv (a:=[.str "kind",.str (tx n)]) (b:=ns.map sT) ?_ @5 (by rw [length_map]; show 2 + _<=_; omega),cwD "kind"]
   ·rfl
   ·show (zac _ _ _).map D.lst=_;rw [zaz rfl (zaz @5 rfl)]
    rfl
  | never bd ps =>
   obtain ⟨h1,h2,h3⟩:=h;obtain ⟨a,c,d⟩:=zls hs h1;have b1:=zoq (cw "never") c;have b2:=zis (cw "for") h3.2;apply zaf;refine za2 (b:=false) (zba (zas @5 rfl (eqZ (by decide +kernel)))) (fun e=>by cases e) fun _=>za5 ?_;apply zaf;refine za2 (b:=true) (zba (zas @5 rfl (eqZ (by decide +kernel)))) (fun _=>?_) fun e=>by cases e
   refine zbo (d:=.lst (wD (zch (roS s (.never bd ps)).2))) (zb0 (zlt rfl (zaq (zap rfl) (zaq (zap @5) rfl)) rfl (zvs l "never" bd s h1 hs)) (zap (zbi (zaz rfl (zaz @5 rfl)) (zpt "for" ps h3.2))) ?_) ⟨_,rfl⟩;rw [zo8 (by omega),<- zop,<- zir]
   have hne : bWd (bdS bd s).2≠[]:=fun e=>by
    have e2:=z1k.mp e;obtain ⟨p,hp,_⟩:=h2;have:=(zri hs h1.1).2.2.2.2;rw [e2] at this;rw [length_eq_zero_iff.mp this.symm] at hp;cases hp
   show some (D.lst (wD (zbc (cw "never") (bWd (bdS bd s).2)++_)))=some (.lst (wD (cw "never" :: (bWd (bdS bd s).2++zbc (cw "for") (zbq ps)))));rw [show zbc (cw "never") (bWd (bdS bd s).2)=cw "never" :: bWd (bdS bd s).2 from if_neg hne]
   rfl
  | choose lo hi its ov bd ps =>
   obtain ⟨h1,h2,h3,h4,h5⟩:=h;obtain ⟨o1,o2,o3,o4⟩:=zo6 hs h2.1;obtain ⟨a,c,d⟩:=zls o1 h4;have b0:=zo5 o3;rw [o4] at b0;have b1:=zoq (cw "if") c;have b2:=zis (cw "for") h5.2;have b3:=zis (cw "over") (ps:=ov) (by have:=h3.2; omega);apply zaf;refine za2 (b:=false) (zba (zas @5 rfl (eqZ (by decide +kernel)))) (fun e=>by cases e) fun _=>za5 ?_;apply zaf;refine za2 (b:=false) (zba (zas @5 rfl (eqZ (by decide +kernel)))) (fun e=>by cases e) fun _=>za5 ?_;refine zlo (fun ρ=>ρ=[.im (Ro.toD (.choose lo hi its ov bd ps)),.pin l [.int (zbu its s).1],.own (wD ([cw "choose",za0 lo,cw "to",za0 hi,cw "of"]++zbt (zbu its s).2++opW (cw "over") [44] zd9 ov))]) ?_ ?_
   ·refine za2 (b:=true) (zba (zas @5 rfl (eqZ (by decide +kernel)))) (fun _=>?_) fun e=>by cases e
    apply zaf;refine yl2 (xs:=wD [cw "choose",za0 lo,cw "to",za0 hi,cw "of"]) (zap ?_) (zlt rfl (zaq (zap @5) rfl) rfl (z32 l its s h2.1 h2.2.2 hs)) (by rw [zdf,zdf]; show 5 + _<=_; omega) ?_
    ·show (zac _ _ _).map D.lst=_;rw [zaz rfl (zaz (m1S @5 h1.1) (zaz rfl (zaz (m1S @5 h1.2) (zaz rfl rfl)))),cwD "choose",cwD "to",cwD "of"];rfl
    show wp _ [_,.pin l [.int (zbu its s).1],.own (wD _++wD _)] _;rw [<- zfx];refine zln (xs:=wD ([cw "choose",za0 lo,cw "to",za0 hi,cw "of"]++zbt (zbu its s).2)) rfl (zap (zbi (zaz rfl (zaz @5 rfl)) (zpt "over" ov (by have:=h3.2; omega)))) rfl (by rw [zdf,zdf,length_append]; show 5 + _ + _<=_; omega) (k_J ?_);show [_,_,Sl.own (wD _++wD _)]=_;rw [<- zfx]
   ·rintro ρ rfl;refine zgf (ρ':=[.im (Ro.toD (.choose lo hi its ov bd ps)),.pin l [.int (zbu its s).1],.im (.lst (wD ([cw "choose",za0 lo,cw "to",za0 hi,cw "of"]++zbt (zbu its s).2++opW (cw "over") [44] zd9 ov)))]) rfl ?_;refine zbo (d:=.lst (wD (zch (roS s (.choose lo hi its ov bd ps)).2))) (zb0 (zb0 (zap rfl) (zlt rfl (zaq (zap rfl) (zaq (zap @5) rfl)) rfl (zvs l "if" bd (zbu its s).1 h4 o1)) (zo8 (by rw [length_append,length_append]; show 5 + _ + _ + _<=_; omega))) (zap (zbi (zaz rfl (zaz @5 rfl)) (zpt "for" ps h5.2))) ?_) ⟨_,rfl⟩;rw [zo8 (by rw [length_append,length_append,length_append]; show 5 + _ + _ + _ + _<=_; omega),<- zop,<- zir,<- zir]
    congr 3
    show _=[cw "choose",za0 lo,cw "to",za0 hi,cw "of"]++((zbt (zbu its s).2++zbc (cw "over") (zbq ov))++(zbc (cw "if") (bWd (bdS bd (zbu its s).1).2)++zbc (cw "for") (zbq ps)))
    simp only [append_assoc]
  | rule b t bd ps =>
   obtain ⟨h1,h2,h3⟩:=h;obtain ⟨a,c,d⟩:=zls hs h2;have b0:=zlk h1;have b1:=zoq (cw "if") c;have b2:=zis (cw "for") h3.2
   have ne : ∀ z : Str,z="kind" \/ z="never" \/ z="choose" -> dEq (.str (ruS b)) (.str z)=some (.bl false):=fun z hz=>by
    rcases hz with rfl | rfl | rfl <;> (cases b <;> exact eqZ (by decide +kernel))
   apply zaf;refine za2 (b:=false) (zba (zas @5 rfl (ne _ (by simp)))) (fun e=>by cases e) fun _=>za5 ?_;apply zaf;refine za2 (b:=false) (zba (zas @5 rfl (ne _ (by simp)))) (fun e=>by cases e) fun _=>za5 ?_;refine zlo (fun ρ=>ρ=[.im (Ro.toD (.rule b t bd ps)),.pin l [.int s],.own (wD ([cw (ruS b)]++zb1 t))]) ?_ ?_
   ·refine za2 (b:=false) (zba (zas @5 rfl (ne _ (by simp)))) (fun e=>by cases e) fun _=>?_;refine zgy (d:=[.str (ruS b)]++wD (zb1 t)) (zvv ?_ (zbi (zaz @5 rfl) (zu5 t h1)) (by rw [zdf]; show 1 + _<=_; omega)) (k_J ?_)
    ·show (zac _ _ _).map D.lst=_;rw [zaz @5 rfl];rfl
    ·rw [cwD (ruS b)];rfl
   ·rintro ρ rfl;refine zgf (ρ':=[.im (Ro.toD (.rule b t bd ps)),.pin l [.int s],.im (.lst (wD ([cw (ruS b)]++zb1 t)))]) rfl ?_;refine zbo (d:=.lst (wD (zch (roS s (.rule b t bd ps)).2))) (zb0 (zb0 (zap rfl) (zlt rfl (zaq (zap rfl) (zaq (zap @5) rfl)) rfl (zvs l "if" bd s h2 hs)) (zo8 (by rw [length_append]; show 1 + _ + _<=_; omega))) (zap (zbi (zaz rfl (zaz @5 rfl)) (zpt "for" ps h3.2))) ?_) ⟨_,rfl⟩;rw [zo8 (by rw [length_append,length_append]; show 1 + _ + _ + _<=_; omega),<- zop,<- zir]
    congr 3
    show _=cw (ruS b)::(zb1 t++(zbc (cw "if") (bWd (bdS bd s).2)++zbc (cw "for") (zbq ps)));simp only [append_assoc,singleton_append];rfl
 obtain ⟨o,e,a2,rfl⟩:=w;exact zd4 (ρ:=[.im r.toD,.pin l [.int (roS s r).1],a2]) e rfl
noncomputable def lon (w:LN) : Bool:=decide (w=[40]) || decide (w=[41]) || decide (w=[44])
def GW (w:LN) : Prop:=((plain w/\w≠[])\/lon w=true)/\w.length<=31
noncomputable def gap (s:Int) (w last:LN) : Int:=if dr s 3=0/\lon w=false/\lon last=false then 1 else dr s 3
noncomputable def stL (p:Int×LN×LN) (w:LN) : Int×LN×LN:=(nx p.1,p.2.1++(List.replicate (gap p.1 w p.2.2).toNat 32++w),w)
noncomputable def lnS (W:L2N) (s:Int) : Int×LN×LN:=W.foldl stL (s,[],[40])
noncomputable def lnP (W:L2N) (s:Int) : Int×LN:=(nx (lnS W s).1,(lnS W s).2.1++List.replicate (dr (lnS W s).1 3).toNat 32)
theorem zwp (s:Int) (w last:LN) : 0<=gap s w last/\gap s w last < 3:=by
 have:=zbm s (k:=3) (by decide);unfold gap;split
 ·exact ⟨by decide,by decide⟩
 ·exact this
theorem ycs {last:LN} (h:gap s w last=0) : lon w=true\/lon last=true:=by
 unfold gap at h;split at h
 ·cases h
 ·rename_i q
  cases e1 : lon w with
  | true=>exact .inl rfl
  | false =>
   cases e2 : lon last with
   | true=>exact .inr rfl
   | false=>exact absurd ⟨h,e1,e2⟩ q
theorem zxd (h:lon w=true) : ∃ c,zhb c=true/\w=[c]:=by
 unfold lon at h;simp only [Bool.or_eq_true,decide_eq_true_eq] at h
 rcases h with (h | h) | h
 ·exact ⟨40,rfl,h⟩
 ·exact ⟨41,rfl,h⟩
 ·exact ⟨44,rfl,h⟩
theorem yeb (h:plain w) : lon w=false:=by
 cases e : lon w with
 | false=>rfl
 | true =>
  obtain ⟨c,hc,rfl⟩:=zxd e;have:=(h c mem_cons_self).2;rw [hc] at this;cases this
def brk (r:LN) : Prop:=r=[]\/∃ x q,r=x::q/\(x=32\/zhb x=true)
theorem yl3 (h:plain w) (hn:w≠[]) {r:LN} (hr:brk r) : ws (w++r) []=w::ws r []:=by
 rw [z9l w r [] h,nil_append]
 rcases hr with rfl | ⟨x,q,rfl,rfl | hx⟩
 ·show fl w=w::fl [];unfold fl;rw [if_neg hn];rfl
 ·have e:=z9k 0 q w;have e2:=z9k 0 q [];rw [show List.replicate (0 + 1) 32++q=32::q from rfl] at e e2;rw [e,e2];unfold fl;rw [if_neg hn];rfl
 ·rw [z08 q w hx,z08 q [] hx];unfold fl;rw [if_neg hn];rfl
theorem z4m : ∀ (W:L2N) (p:Int×LN×LN) (V:L2N),(∀ w∈W,GW w)->(∀ r,brk r\/lon p.2.2=true->ws (p.2.1++r) []=V++ws r [])->∀ r,brk r\/lon (W.foldl stL p).2.2=true->ws ((W.foldl stL p).2.1++r) []=V++W++ws r []
 | [],p,V,_,h=>fun r hr=>by rw [append_nil]; exact h r hr
 | w::W,p,V,hW,h=>by
  have hw:=(hW w mem_cons_self).1;have:=z4m W (stL p w) (V++[w]) (fun y hy=>hW y (mem_cons_of_mem _ hy)) fun r hr=>?_
  ·intro r hr;rw [foldl_cons] at hr ⊢;rw [this r hr];simp
  ·show ws (p.2.1++(List.replicate (gap p.1 w p.2.2).toNat 32++w)++r) []=_;replace hr : brk r\/lon w=true:=hr;have hg:=zwp p.1 w p.2.2;rw [append_assoc,append_assoc,h]
   ·rw [zva]
    rcases hw with ⟨hp,hn⟩ | hl
    ·have hb : brk r:=hr.resolve_right fun e=>by rw [yeb hp] at e; cases e
     rw [yl3 hp hn hb];simp
    ·obtain ⟨c,hc,rfl⟩:=zxd hl;show V++ws (c::r) []=_;rw [z08 r [] hc];show V++([]++_)=_;simp
   ·by_cases e0 : gap p.1 w p.2.2=0
    ·rcases ycs e0 with hl | hl
     ·obtain ⟨c,hc,rfl⟩:=zxd hl;rw [e0];exact .inl (.inr ⟨c,r,rfl,.inr hc⟩)
     ·exact .inr hl
    ·obtain ⟨n,hn⟩ : ∃ n,(gap p.1 w p.2.2).toNat=n + 1:=⟨(gap p.1 w p.2.2).toNat - 1,by omega⟩;rw [hn];exact .inl (.inr ⟨32,_,rfl,.inl rfl⟩)
theorem yd9 {W:L2N} (s:Int) (h:∀ w∈W,GW w) : ws (lnP W s).2 []=W:=by
 have:=z4m W (s,[],[40]) [] h (fun r _=>rfl) (List.replicate (dr (lnS W s).1 3).toNat 32) (.inl ?_)
 ·refine this.trans ?_;have e:=zva (dr (lnS W s).1 3).toNat [];rw [append_nil] at e;rw [e];show []++W++fl []=W;simp [fl]
 ·cases (dr (lnS W s).1 3).toNat with
  | zero=>exact .inl rfl
  | succ n=>exact .inr ⟨32,_,rfl,.inl rfl⟩
theorem z4n : ∀ (W:L2N) (p:Int×LN×LN),okS p.1->(∀ w∈W,GW w)->okS (W.foldl stL p).1/\(W.foldl stL p).2.1.length<=p.2.1.length + W.length * 33
 | [],p,h,_=>⟨h,Nat.le_refl _⟩
 | w::W,p,h,hW=>by
  have hg:=zwp p.1 w p.2.2;have hw:=(hW w mem_cons_self).2;obtain ⟨a,b⟩:=z4n W (stL p w) (zbh _) fun y hy=>hW y (mem_cons_of_mem _ hy);refine ⟨a,?_⟩;rw [foldl_cons];replace b : _<=(p.2.1++(List.replicate (gap p.1 w p.2.2).toNat 32++w)).length + W.length * 33:=b;rw [length_append,length_append,length_replicate] at b;rw [length_cons,Nat.succ_mul];omega
theorem zxc {W:L2N} (hs:okS s) (h:∀ w∈W,GW w) : okS (lnS W s).1/\(lnS W s).2.1.length<=W.length * 33:=by
 have:=z4n W (s,[],[40]) hs h;rw [show ((s,[],[40]) : Int×LN×LN).2.1.length=0 from rfl,Nat.zero_add] at this;exact this
theorem z40 (w:LN) : zi8 (sT w) (.lst [.str "(",.str ")",.str ","])=some (.bl (!lon w)):=by
 rw [opS,clS,cmS];show some (D.bl (!((tx [40]==tx w) || ((tx [41]==tx w) || ((tx [44]==tx w) || false)))))=_
 have e : ∀ a : LN,(tx a==tx w)=decide (w=a):=fun a=>by
  apply Bool.eq_iff_iff.mpr;rw [beq_iff_eq,decide_eq_true_eq];exact ⟨fun h=>(zhn h).symm,fun h=>by rw [h]⟩
 rw [e,e,e,Bool.or_false];unfold lon;rw [Bool.or_assoc]
theorem zvq (g:Int) (h:0<=g/\g < 3) : zi7 (.str " ") (.int g)=some (.str (tx (List.replicate g.toNat 32))):=by
 show (if (" " : Str).length=1/\0<=g/\g<=1000 then some (D.str ⟨(List.replicate g.toNat ((" " : Str).cps.getD 0 0)).toArray⟩) else none)=_;rw [if_pos ⟨by decide,h.1,by omega⟩];rfl
theorem yd8 (l:Addr) (W:L2N) (s:Int) (hs:okS s) (h:∀ w∈W,GW w) (hl:W.length<=600) : zsy l [.lst (wD W)] [] [.int s]=some ([.int (lnP W s).1],.str (tx (lnP W s).2)):=by
 generalize hS : D.lst (wD W)=Sc
 have w : wp zoa [.im Sc,.pin l [.int s],.no,.no,.no,.no] (fun o=>∃ a2 a3 a4 a5,o=.rtS (.str (tx (lnP W s).2)) [.im Sc,.pin l [.int (lnP W s).1],a2,a3,a4,a5]):=by
  unfold zoa;apply zaf;refine ze4 (d:=.str (tx (lnS [] s).2.1)) rfl ?_;apply zaf;refine ze4 (d:=sT (lnS [] s).2.2) (congrArg some opS) ?_;show wp _ [.im Sc,.pin l [.int (lnS [] s).1],.im (.str (tx (lnS [] s).2.1)),.im (sT (lnS [] s).2.2),.no,.no] _;apply zaf;refine zh5 W sT (fun pre ρ=>∃ a4 a5,ρ=[.im Sc,.pin l [.int (lnS pre s).1],.im (.str (tx (lnS pre s).2.1)),.im (sT (lnS pre s).2.2),a4,a5]) (by rw [<- hS]; rfl) ⟨_,_,rfl⟩ ?_ ?_
  ·rintro pre w post ρ he ⟨a4,a5,rfl⟩;have hw : GW w:=h w (by rw [he]; simp);have hp : ∀ y∈pre,GW y:=fun y hy=>h y (by rw [he]; simp [hy]);have hpl : pre.length<=600:=by have:=congrArg List.length he; rw [length_append] at this; omega
   obtain ⟨o1,o2⟩:=zxc hs hp;have hsn : lnS (pre++[w]) s=stL (lnS pre s) w:=by unfold lnS; rw [foldl_append]; rfl
   rw [hsn];generalize lnS pre s=p at o1 o2;have hg:=zwp p.1 w p.2.2;have hwl:=hw.2;unfold stL;dsimp only;refine ⟨_,rfl,?_⟩;show wp _ [.im Sc,.pin l [.int p.1],.im (.str (tx p.2.1)),.im (sT p.2.2),.im (sT w),a5] _;apply zaf;refine zbw (zxq 1 l p.1 3 rfl rfl o1 (by decide)) ?_;show wp _ [.im Sc,.pin l [.int (nx p.1)],.im (.str (tx p.2.1)),.im (sT p.2.2),.im (sT w),.im (.int (dr p.1 3))] _;refine zlo (fun ρ=>ρ=[.im Sc,.pin l [.int (nx p.1)],.im (.str (tx p.2.1)),.im (sT p.2.2),.im (sT w),.im (.int (gap p.1 w p.2.2))]) ?_ ?_
   ·refine za2 (b:=(dr p.1 3==0) && (!lon w && !lon p.2.2)) (zxf (zba (zas rfl rfl (ze8 _ _))) (zxf (zba (zas rfl rfl (z40 w))) (zba (zas rfl rfl (z40 p.2.2))))) (fun e=>?_) fun e=>za5 (k_J ?_)
    ·have e1 : gap p.1 w p.2.2=1:=by
      unfold gap;simp only [Bool.and_eq_true,beq_iff_eq,Bool.not_eq_true'] at e;rw [if_pos ⟨e.1,e.2.1,e.2.2⟩]
     rw [e1];exact ze4 rfl (k_J rfl)
    ·have e1 : gap p.1 w p.2.2=dr p.1 3:=by
      unfold gap;rw [if_neg];rintro ⟨q1,q2,q3⟩;rw [q1,q2,q3] at e;cases e
     rw [e1]
   ·rintro ρ rfl;apply zaf;have ea : (List.replicate (gap p.1 w p.2.2).toNat 32++w).length<=40:=by rw [length_append,length_replicate]; omega
    refine z9g (x:=.str (tx p.2.1)) rfl (zap (zas (zas rfl rfl (zvq _ hg)) rfl (z18 (List.replicate (gap p.1 w p.2.2).toNat 32) w (by rw [length_replicate]; omega)))) (ya0 _ _ (by omega)) ?_;exact ze4 rfl ⟨_,_,rfl⟩
  ·rintro ρ ⟨a4,a5,rfl⟩;obtain ⟨o1,o2⟩:=zxc hs h;have hd:=zbm (lnS W s).1 (k:=3) (by decide);refine zbo (zb0 (zap rfl) (zb0 (zap rfl) (zxq 1 l (lnS W s).1 3 rfl rfl o1 (by decide)) (zvq _ hd)) (z18 _ _ (by rw [length_replicate]; omega))) ⟨_,_,_,_,rfl⟩
 obtain ⟨o,e,a2,a3,a4,a5,rfl⟩:=w;exact zd4 (ρ:=[.im Sc,.pin l [.int (lnP W s).1],a2,a3,a4,a5]) e rfl
theorem zjz {α : Type} {g:α->L2N} {L:List α} (h:w∈zdy [c] (L.map g)) : w=c\/∃ x∈L,w∈g x:=by
 cases L with
 | nil=>cases h
 | cons x L =>
  rw [zlg] at h
  rcases mem_append.1 h with h | h
  ·exact .inr ⟨x,mem_cons_self,h⟩
  ·obtain ⟨y,hy,h⟩:=mem_flatMap.1 h
   rcases mem_cons.1 h with h | h
   ·exact .inl h
   ·exact .inr ⟨y,mem_cons_of_mem _ hy,h⟩
variable {xs:L2N}
theorem z1g (h:w∈zbc a xs) : w=a\/w∈xs:=by
 unfold zbc at h;split at h
 ·cases h
 ·exact mem_cons.1 h
variable {z:Str}
theorem zey (h:plain (cw z)/\cw z≠[]) (hl:(cw z).length<=31) : GW (cw z):=⟨.inl h,hl⟩
theorem zjh (h:zcx w=true) : GW w:=by
 have:=zqp h;exact ⟨.inl ⟨yht (zvk h),fun e=>by rw [e] at this; exact absurd this.1 (by decide)⟩,by omega⟩
theorem zsf (h:zdz n) : GW (za0 n):=by
 have:=zts h;exact ⟨.inl ⟨yfb n,fun e=>by rw [e] at this; exact absurd this.1 (by decide)⟩,this.2⟩
theorem zws : GW [44]:=⟨.inr rfl,by decide⟩
theorem zsg (h:zee t) : ∀ w∈zb1 t,GW w:=fun w hw=>by
 obtain ⟨h1,h2,h3⟩:=h;unfold zb1 at hw
 rcases mem_cons.1 hw with rfl | hw
 ·exact zjh (zhi h1)
 ·split at hw
  ·cases hw
  ·rcases mem_cons.1 hw with rfl | hw
   ·exact ⟨.inr rfl,by decide⟩
   ·rcases mem_append.1 hw with hw | hw
    ·rcases zjz hw with rfl | ⟨x,hx,hw⟩
     ·exact zws
     ·rw [mem_singleton.1 hw]; exact zjh (h2 x hx)
    ·rw [mem_singleton.1 hw]; exact ⟨.inr rfl,by decide⟩
theorem zwu (h:∀ q∈ps,ze6 q) : ∀ w∈zbq ps,GW w:=fun w hw=>by
 rcases zjz hw with rfl | ⟨q,hq,hw⟩
 ·exact zws
 ·obtain ⟨a,b⟩:=h q hq
  rcases mem_cons.1 hw with rfl | hw
  ·exact zjh (z06 a)
  ·rcases mem_cons.1 hw with rfl | hw
   ·exact zey ⟨yhl,by decide +kernel⟩ (by decide +kernel)
   ·rw [mem_singleton.1 hw]; exact zjh (zhi b)
theorem ycy {its:List Ti} (h:∀ z∈its,zcq z) : ∀ w∈zbt its,GW w:=fun w hw=>by
 rcases zjz hw with rfl | ⟨z,hz,hw⟩
 ·exact zws
 ·unfold zfm at hw
  rcases mem_append.1 hw with hw | hw
  ·split at hw
   ·cases hw
   ·rw [mem_singleton.1 hw]; exact zsf (zw1 (h z hz))
  ·exact zsg (h z hz).1 w hw
theorem zse (h1:GW a) (h2:∀ w∈xs,GW w) : ∀ w∈zbc a xs,GW w:=fun w hw=>by
 rcases z1g hw with rfl | hw
 ·exact h1
 ·exact h2 w hw
theorem zkl {ys:L2N} (h1:∀ w∈xs,GW w) (h2:∀ w∈ys,GW w) : ∀ w∈xs++ys,GW w:=fun w hw=>by
 rcases mem_append.1 hw with hw | hw
 ·exact h1 w hw
 ·exact h2 w hw
theorem zex {ys:L2N} (h1:GW a) (h2:∀ w∈ys,GW w) : ∀ w∈a::ys,GW w:=fun w hw=>by
 rcases mem_cons.1 hw with rfl | hw
 ·exact h1
 ·exact h2 w hw
theorem zwt : ∀ w∈([] : L2N),GW w:=fun w hw=>by cases hw
theorem z3q {its:List Ti} (h:∀ z∈its,zcq z) (h2:∀ q∈ov,ze6 q) : ∀ w∈zgc its ov,GW w:=zkl (ycy h) (zse (zey yhp (by decide +kernel)) (zwu h2))
theorem ycz (h:zdg p) : ∀ w∈pWd p,GW w:=by
 cases p with
 | is t=>exact zsg h
 | no t=>exact zex (zey yho (by decide +kernel)) (zsg h)
 | un a b=>exact zex (zjh h.1) (zex (zey yhs (by decide +kernel)) (zex (zjh h.2) zwt))
 | ct w n its ov =>
  obtain ⟨h1,h2,h3,h4,h5⟩:=h
  exact zkl (zex (zey (yhj w) (by cases w <;> decide +kernel)) (zex (zsf h1) (zex (zey z6h (by decide +kernel)) zwt))) (z3q h2 h4)
theorem z3o (h:zdd bd) : ∀ w∈bWd bd,GW w:=fun w hw=>by
 rcases zjz hw with rfl | ⟨p,hp,hw⟩
 ·exact zey ⟨yhh,by decide +kernel⟩ (by decide +kernel)
 ·exact ycz (h.1 p hp) w hw
theorem z3p (h:zdd bd) (h2:zet ps) : ∀ w∈zce bd ps,GW w:=zkl (zse (zey yhk (by decide +kernel)) (z3o h)) (zse (zey z6g (by decide +kernel)) (zwu h2.1))
theorem z3r (h:zfe r) : ∀ w∈zch r,GW w:=by
 cases r with
 | kind n ns=>exact zex (zey yhm (by decide +kernel)) (zex (zjh (zhi h.1)) fun w hw=>zjh (zhi (h.2.1 w hw)))
 | rule b t bd ps=>exact zex (zey (yhq b) (by cases b <;> decide +kernel)) (zkl (zsg h.1) (z3p h.2.1 h.2.2))
 | never bd ps=>exact zex (zey yhn (by decide +kernel)) (zkl (z3o h.1) (zse (zey z6g (by decide +kernel)) (zwu h.2.2.1)))
 | choose lo hi its ov bd ps =>
  obtain ⟨h1,h2,h3,h4,h5⟩:=h;exact zkl (zex (zey yhi (by decide +kernel)) (zex (zsf h1.1) (zex (zey yhr (by decide +kernel)) (zex (zsf h1.2) (zex (zey z6h (by decide +kernel)) zwt))))) (zkl (z3q h2.1 h3.1) (z3p h4 h5))
theorem z7b (h:zfe r) : (zch r).length<=600:=by
 have eW : ∀ {bd ps},zdd bd->zet ps->(zce bd ps).length<=436:=fun {bd ps} h1 h2=>by
  unfold zce;rw [zop,zir,length_append];have:=zoq (cw "if") h1;have:=zis (cw "for") h2.2;omega
 cases r with
 | kind n ns =>
  have:=h.2.2.2;show ns.length + 1 + 1<=600
  omega
 | rule b t bd ps =>
  have:=zlk h.1;have:=eW h.2.1 h.2.2;show (zb1 t++zce bd ps).length + 1<=600;rw [length_append]
  omega
 | never bd ps =>
  have a1:=zoq (cw "and") h.1;have a2:=zis (cw "for") h.2.2.2;rw [<- zop] at a1
  have a3 : (bWd bd).length<=425:=by
   unfold zbc at a1;split at a1
   ·rename_i e; rw [e]; exact Nat.zero_le _
   ·rw [length_cons] at a1; omega
  show (bWd bd++zbc (cw "for") (zbq ps)).length + 1<=600;rw [zir,length_append]
  omega
 | choose lo hi its ov bd ps =>
  obtain ⟨h1,h2,h3,h4,h5⟩:=h;have a1:=zo5 h2.1;have a2:=zis (cw "over") (ps:=ov) (by have:=h3.2; omega);have a3:=eW h4 h5;have a4:=h2.2.2;show ([cw "choose",za0 lo,cw "to",za0 hi,cw "of"]++((zbt its++zbc (cw "over") (zbq ov))++zce bd ps)).length<=600;rw [zir,length_append,length_append,length_append];show 5 + _<=600;omega
noncomputable def jn (a:LN) : L2N->LN
 | []=>[]
 | [x]=>x
 | x::y::r=>x++a++jn a (y::r)
theorem z4a (a:LN) : ∀ ws : L2N,Txt.join (tx a) (ws.map tx)=tx (jn a ws):=by
 intro ws;show Builtin.Str.glued (tx a) (ws.map tx)=_;rw [StrLaws.glued_eq_join]
 induction ws with
 | nil=>rfl
 | cons x r ih =>
  cases r with
  | nil=>rfl
  | cons y r =>
   show tx x++tx a++Str.join (tx a) ((y::r).map tx)=_;rw [ih,znq,znq];rfl
noncomputable def zdb (ws:L2N) : Nat:=(ws.map List.length).sum
theorem zw5 (a:LN) : ∀ ws,(jn a ws).length<=zdb ws + ws.length * a.length
 | []=>Nat.zero_le _
 | [x]=>by show x.length<=_; unfold zdb; simp
 | x::y::r=>by
  have ih:=zw5 a (y::r);show (x++a++jn a (y::r)).length<=_;rw [length_append,length_append];unfold zdb at ih ⊢;rw [map_cons,sum_cons,length_cons (a:=x),Nat.succ_mul];omega
theorem z8r (b:Nat) : ∀ ws : L2N,(∀ w∈ws,w.length<=b)->zdb ws<=ws.length * b
 | [],_=>Nat.zero_le _
 | w::ws,h=>by
  have ih:=z8r b ws fun x hx=>h x (mem_cons_of_mem _ hx);have h1:=h w mem_cons_self;unfold zdb at ih ⊢;rw [map_cons,sum_cons,length_cons,Nat.succ_mul];omega
theorem ya1 (a:LN) (ws:L2N) (ha:a.length<=16) (hw:zdb ws + ws.length<=100000) : zhu (.str (tx a)) (.lst (ws.map sT))=some (.str (tx (jn a ws))):=by
 have e : ws.map sT=(ws.map tx).map D.str:=by rw [map_map]; rfl
 show (zh4 (ws.map sT)).bind (fun zs=>if PySem.JoinOk (tx a) zs=true then some (D.str (PySem.Txt.join (tx a) zs)) else none)=_;rw [e,z81,bind_some,if_pos,z4a];refine joinOk_of_weight ?_ (by rw [zc3]; exact ha);rw [map_map,length_map];have : (fun x=>x.length) ∘ tx=List.length:=funext fun w=>zc3 w;rw [this];unfold zdb at hw;omega
theorem ykc (l:LN) : Txt.split (tx l) ("\n" : Str)=(zcy 10 l []).map tx:=by
 have e : ("\n" : Str)=⟨#[10]⟩:=rfl;rw [e];have h:=zrp 10 (Txt.split (tx l) ⟨#[10]⟩) (z8j _ _) (StrLaws.split_free (tx l) 10);rw [StrLaws.join_split] at h;rw [show (tx l).cps.toList=l from rfl] at h;rw [h,map_map]
 conv=>lhs; rw [<- map_id (Txt.split (tx l) ⟨#[10]⟩)]
 apply map_congr_left;intro p _;exact (ziy p).symm
theorem z2c (l:LN) (h:l.length<=1000000) : zg5 (.str (tx l)) (.str "\n")=some (.lst ((zcy 10 l []).map fun w=>.str (tx w))):=by
 unfold zg5;dsimp only;have:=z52 (tx l) ("\n" : Str);rw [zc3] at this;rw [if_pos ⟨by decide,by rw [zc3]; omega,by omega⟩,ykc,map_map];rfl
theorem z17 (Ls:L2N) (hn:Ls≠[]) (h:∀ l∈Ls,10∉l) : zcy 10 (jn [10] Ls) []=Ls:=by
 have q:=zrp 10 (Ls.map tx) (by intro e; exact hn (map_eq_nil_iff.mp e)) (fun p hp=>by
  obtain ⟨l,hl,rfl⟩:=mem_map.mp hp;exact h l hl)
 have e : (Str.join ⟨#[10]⟩ (Ls.map tx))=tx (jn [10] Ls):=by
  have:=z4a [10] Ls;rw [show Txt.join (tx [10]) (Ls.map tx)=Str.join (tx [10]) (Ls.map tx) from StrLaws.glued_eq_join ..] at this;exact this
 rw [e,map_map] at q;rw [show (tx (jn [10] Ls)).cps.toList=jn [10] Ls from rfl] at q;rw [q]
 conv=>rhs; rw [<- map_id Ls]
 rfl
noncomputable def ful (l:LN) : Bool:=!decide (ws l []=[])
theorem z02 (l:LN) (h:l.length<=20000) : zno (.lst (wD (ws l [])))=some (ful l):=by
 unfold ful
 by_cases e : ws l []=[]
 ·rw [e]; rfl
 ·rw [decide_eq_false e]
  cases q : ws l [] with
  | nil=>exact absurd q e
  | cons a r=>rfl
theorem yiz (l:LN) (h:l.length<=20000) (d:D) (hd:ful l=true->m_1 [.str (tx l)]=some d) (hρ:ρ=[.no]) :
  zhg (zbe 0) (zcu (zax zf9 (zac (zab 0) nZ))) (zax m_1 (zac (zab 0) nZ)) ρ (.str (tx l))=some (if ful l then some d else none):=by
 subst hρ;refine z04 (b:=ful l) (y:=d) rfl (zf7 (zbi rfl (zqk l h)) (z02 l h)) fun e=>?_;exact zbi rfl (hd e)
theorem yiw (Ls:L2N) (hn:Ls≠[]) (h10:∀ l∈Ls,10∉l) (hlen:∀ l∈Ls,l.length<=20000) (hs:(jn [10] Ls).length<=1000000) (hc:Ls.length<=1000) (f:LN->D) (hr:∀ l∈Ls,ful l=true->m_1 [.str (tx l)]=some (f l)) :
  b_2 (zef 1 [.str (tx (jn [10] Ls))])=some (.rtO ((Ls.filter ful).map f)):=by
 have e : zdq 1 [] (zdx (m2 zg5 (zab 0) (kSt "\n"))) (zbe 0) (zcu (zax zf9 (zac (zab 0) nZ))) (zax m_1 (zac (zab 0) nZ)) [.im (.str (tx (jn [10] Ls)))]=some ((Ls.filter ful).map f):=by
  refine z15 Ls (fun w=>D.str (tx w)) ful f (zne (zas rfl rfl (z2c _ hs)) (by rw [z17 Ls hn h10]; rfl)) (by omega) fun l hl=>?_;exact yiz l (hlen l hl) (f l) (hr l hl) rfl
 unfold b_2;show zik _ [.im (.str (tx (jn [10] Ls)))]=_;unfold zik;rw [e];rfl
theorem yiv {Ls:L2N} (h:b_2 (zef 1 [.str (tx (jn [10] Ls))])=some (.rtO ds)) : o_2 [.str (tx (jn [10] Ls))]=some ds/\m_2 [.str (tx (jn [10] Ls))]=some (.lst ds):=by
 refine ⟨?_,z7e h⟩;unfold o_2 zui;rw [h];rfl
theorem yiy (Ls:L2N) (hn:Ls≠[]) (h10:∀ l∈Ls,10∉l) (hlen:∀ l∈Ls,l.length<=20000) (hs:(jn [10] Ls).length<=1000000) (hc:Ls.length<=1000) (f:LN->D) (pre post:L2N) (b:LN) (e:Ls=pre++b::post)
  (hr:∀ l∈pre,ful l=true->m_1 [.str (tx l)]=some (f l)) (hb:ful b=true) (hbr:r_1 [.str (tx b)]=true) : r_2 [.str (tx (jn [10] Ls))]=true:=by
 show zm7 _ _ _ _ _ _ _ [.im (.str (tx (jn [10] Ls)))]=true;unfold zm7;rw [show zdx (m2 zg5 (zab 0) (kSt "\n")) [.im (.str (tx (jn [10] Ls)))]=some (Ls.map fun w=>D.str (tx w)) from zne (zas rfl rfl (z2c _ hs)) (by rw [z17 Ls hn h10]; rfl)];show (decide ((Ls.map fun w=>D.str (tx w)).length<=16777216) && zgd _ _ _ _ [.no] _)=true;rw [decide_eq_true (by rw [length_map]; omega),Bool.true_and]
 have go : ∀ p : L2N,(∀ l∈p,l∈pre)->zgd (zbe 0) (zcu (zax zf9 (zac (zab 0) nZ))) (zax m_1 (zac (zab 0) nZ)) (zm6 rNo r_1 (zad (mX (zab 0)) zaa)) [.no] ((p++b::post).map fun w=>D.str (tx w))=true:=fun p=>by
  induction p with
  | nil =>
   intro _;show zgd _ _ _ _ _ (D.str (tx b)::_)=true;unfold zgd;rw [show zbe 0 (.str (tx b)) [.no]=some [.im (.str (tx b))] from rfl];dsimp only;rw [show zcu (zax zf9 (zac (zab 0) nZ)) [.im (.str (tx b))]=some true from (zf7 (zbi rfl (zqk b (hlen b (by rw [e]; simp)))) (z02 b (hlen b (by rw [e]; simp)))).trans (by rw [hb])];dsimp only;rw [show zm6 rNo r_1 (zad (mX (zab 0)) zaa) [.im (.str (tx b))]=true from hbr]
   rfl
  | cons l p ih =>
   intro hp;have hl:=hp l mem_cons_self;have hL : l.length<=20000:=hlen l (by rw [e]; exact mem_append_left _ hl);have ih:=ih fun x hx=>hp x (mem_cons_of_mem _ hx);show zgd _ _ _ _ _ (D.str (tx l)::_)=true;unfold zgd;rw [show zbe 0 (.str (tx l)) [.no]=some [.im (.str (tx l))] from rfl];dsimp only;rw [show zcu (zax zf9 (zac (zab 0) nZ)) [.im (.str (tx l))]=some (ful l) from zf7 (zbi rfl (zqk l hL)) (z02 l hL)]
   cases q : ful l with
   | false=>exact ih
   | true =>
    dsimp only;rw [show zax m_1 (zac (zab 0) nZ) [.im (.str (tx l))]=some (f l) from zbi rfl (hr l hl q)];show (_ || (true && _))=true;rw [Bool.true_and,Bool.or_eq_true];exact .inr ih
 have:=go pre fun _ h=>h;rw [<- e] at this;exact this
variable {r1 r2:LS->Bool}
theorem zu6 (h:r1 ρ=true) : zel r1 F r2 ρ=true:=by unfold zel; rw [h]; rfl
theorem zes (h:F ρ=some (.nx ρ')) (h2:r2 ρ'=true) : zel r1 F r2 ρ=true:=by unfold zel; rw [h]; dsimp only; rw [h2,Bool.or_true]
theorem yla {f:Xe} (h:r1 ρ=true) : zgt r1 f r2 ρ=true:=by unfold zgt; rw [h]; rfl
theorem znn {f:Xe} (h:f ρ=some (d,ρ')) (h2:r2 ρ'=true) : zgt r1 f r2 ρ=true:=by unfold zgt; rw [h]; dsimp only; rw [h2,Bool.or_true]
theorem zm8 {t:Xt} {ra rb:LS->Bool} (h:t ρ=some (true,ρ')) (h2:ra ρ'=true) : rIf t ra rb ρ=true:=by unfold rIf; rw [h]; exact h2
variable {p:Nat}
theorem zju {r:Addr->LD->LD->Bool} {W:L2N} (hn:rN.contains nm=false) (h:r l [] (fls W p)=true) : ze2 0 "Reader" nm rN r zaa (rd l W p::tl)=true:=by
 show (decide (("Reader" : Str)="Reader" /\ rN=rN/\rN.contains nm=false) && (decide (("Reader" : Str)="Reader" /\ rN=rN) && r l [] (fls W p)))=true;rw [decide_eq_true ⟨rfl,rfl,hn⟩,decide_eq_true ⟨rfl,rfl⟩,h];rfl
open Classical in
theorem z6s {r:Addr->LD->LD->Bool} {W:L2N} {a b:Sl} (hn:rN.contains nm=false) (h:∀ l,r l [] (fls W p)=true) : zk7 1 "Reader" nm rN r zaa [a,.obj "Reader" rN (fls W p),b]=true:=by
 unfold zk7;show (decide (("Reader" : Str)="Reader" /\ rN=rN/\rN.contains nm=false) && (decide (("Reader" : Str)="Reader" /\ rN=rN) && decide (∀ l,r l [] (fls W p)=true)))=true;rw [decide_eq_true ⟨rfl,rfl,hn⟩,decide_eq_true ⟨rfl,rfl⟩,decide_eq_true h];rfl
variable {zs:LSt}
theorem z3h {g:LS->Option LSt} (h:f ρ=some (sT w)) (hw:(reprText (tx w)).length<=16777216) (hg:g ρ=some zs) : mFr f g ρ=some (reprText (tx w)::zs):=by
 unfold mFr;rw [h,bind_some];show (if (reprText (tx w)).length<=16777216 then some (reprText (tx w)) else none).bind _=_;rw [if_pos hw,bind_some,hg];rfl
theorem z3b {x:Str} {g:LS->Option LSt} (hg:g ρ=some zs) : mFc x g ρ=some (x::zs):=by unfold mFc; rw [hg]; rfl
theorem z3i {f:LS->Option LSt} (h:f ρ=some zs) (hl:(zgk Str.empty zs).length<=16777216) : rOf (zac (mFs f) nZ) ρ=true:=by
 have e : mFs f ρ=some (.str (zgk Str.empty zs)):=by unfold mFs; rw [h,bind_some,if_pos hl]
 unfold rOf;rw [zaz e rfl];rfl
theorem z4y {W:L2N} (h:W.getD p []=[]) : r_3 l [] (fls W p)=true:=by
 show zpz [rd l W p,.no]=true;unfold zpz;refine zes (ρ':=[rd l W (p + 1),.im (sT [])]) ?_ ?_
 ·unfold zbk;rw [zds (p:=p) rfl rfl (ziw l W p),h];rfl
 ·refine zm8 (zlj (zkr (b:=false) (zf7 (zbi rfl (z4v [] (by decide) (by unfold asc; decide))) rfl))) ?_;exact z3i (z3h rfl (by decide +kernel) (z3b rfl)) (by decide +kernel)
theorem z4z {W:L2N} (h:W.getD p []=[]) : r_5 l [] (fls W p)=true:=by
 show zud [rd l W p,.no]=true;exact zju rfl (z4y h)
theorem ye0 {W:L2N} (h:W.getD p []=[]) : zyp l [] (fls W p)=true:=by
 show zuc [rd l W p,.no]=true;exact zju rfl (z4y h)
theorem yda (l:Addr) (W:L2N) (p:Nat) (tl:LS) (h:W.getD p []=[]) : mBX (mX2 dIn (zar 0 "Reader" "coming" rN zfs (zad (mX (kI 0)) zaa)) (mX (zgq (zac (kSt "least") (zac (kSt "most") nZ))))) (rd l W p::tl)=some (false,rd l W p::tl):=by
 have e:=ze7 l W p 0 tl (f:=fun _=>some (.int 0)) rfl;rw [Nat.add_zero,h] at e;unfold mBX mX2;rw [e,bind_some];rw [show mX (zgq (zac (kSt "least") (zac (kSt "most") nZ))) (rd l W p::tl)=some (.tup [.str "least",.str "most"],rd l W p::tl) from rfl,bind_some];rw [zwv (w:=[]) (by decide +kernel) (by decide +kernel)];rfl
theorem ye1 {W:L2N} (h:W.drop p=[]) : zyq l [] (fls W p)=true:=by
 have h0 : W.getD p []=[]:=zn0 h;have h1 : W.getD (p + 1) []=[]:=zvo h 1;show zpx [rd l W p]=true;unfold zpx;have n1:=noX (l:=l) (tl:=[]) (z:="not") (x:=cw "not") (cwD "not") h (by decide +kernel);refine zes (ρ':=[rd l W p]) ?_ (zes (ρ':=[rd l W p]) ?_ (zes (ρ':=[rd l W p]) ?_ (znn (ρ':=[rd l W p]) rfl (zju rfl (z4z h0)))))
 ·unfold zdr;rw [n1];rfl
 ·unfold zdr;rw [yda l W p [] h0];rfl
 ·have e:=ze7 l W p 1 [] (f:=fun _=>some (.int 1)) rfl;rw [h1] at e;unfold zdr mBX mX2;rw [e,bind_some];rw [show mX (kSt "unlike") [rd l W p]=some (.str "unlike",[rd l W p]) from rfl,bind_some];rw [eqC,decide_eq_false (by decide +kernel)];rfl
theorem yez {W:L2N} (h:W.drop p=[cw "if"]) : r_7 l [] (fls W p)=true:=by
 show zp0 [rd l W p]=true;unfold zp0;refine zm8 (zlp (cwD "if") h) (zju rfl ?_);show zue [rd l W (p + 1),.no]=true;exact zju rfl (ye1 (zeg h))
theorem yeu {W:L2N} (h:p < W.length) : zyr l [] (fls W p)=true:=by
 show zpy [rd l W p]=true;unfold zpy;refine zm8 (zlj (zba (zas rfl (zbi rfl (zxa W)) (zi6.trans ?_)))) rfl;rw [decide_eq_true (by omega)]
theorem zma {t:MF4} (h:t ρ=some false) : zbn t F zbb ρ=some (.nx ρ):=by
 unfold zbn;rw [h];rfl
theorem zu0 (l:Addr) (w:LN) (W:L2N) : zbk 1 (zar 0 "Reader" "take" rN zh1 zaa) [rd l (w::W) 0,.no]=some (.nx [rd l (w::W) 1,.im (sT w)]):=by
 unfold zbk;rw [zds (p:=0) rfl rfl (ziw l (w::W) 0)];rfl
theorem zjf {W:L2N} (h:w≠cw z) : mB (m2 dEq (zab 1) (fun _=>some (.str z))) [rd l W p,.im (sT w)]=some false:=zba (zas rfl rfl ((eqC _ _).trans (by rw [decide_eq_false h])))
theorem z3a {W:L2N} : mB (m2 dEq (zab 1) (fun _=>some (.str z))) [rd l W p,.im (sT (cw z))]=some true:=zba (zas rfl rfl ((eqC _ _).trans (by rw [decide_eq_true rfl])))
theorem z3s {W:L2N} (h1:w≠cw "rule") (h2:w≠cw "may") : mB (m2 dIn (zab 1) (zgq (zac (kSt "rule") (zac (kSt "may") nZ)))) [rd l W p,.im (sT w)]=some false:=zba (zas rfl rfl (zww h1 h2))
theorem zwx {W:L2N} : mB (m2 dIn (zab 1) (zgq (zac (kSt "rule") (zac (kSt "may") nZ)))) [rd l W p,.im (sT (cw "rule"))]=some true:=zba (zas rfl rfl (z3t false))
theorem ycn {W:L2N} (h1:w≠cw "kind") (h2:w≠cw "rule") (h3:w≠cw "may") (h4:w≠cw "choose") (h5:w≠cw "never") (hw:(reprText (tx w)).length<=16777216) (hc:(zgk Str.empty ["no row begins with ",reprText (tx w)]).length<=16777216) : r_4 l [] (fls (w::W) 0)=true:=by
 show zhk [rd l (w::W) 0,.no]=true;unfold zhk;refine zes (zu0 l w W) (zes (zma (zjf h1)) (zes (zma (z3s h2 h3)) (zes (zma (zjf h4)) (zes (zma (zjf h5)) ?_))));exact z3i (z3b (z3h rfl hw rfl)) hc
theorem z1f : zcv [97]=true:=by decide +kernel
theorem zvh : zee ([97],[]):=⟨z1f,(fun _ h=>by cases h),by decide⟩
theorem ycl : r_4 l [] (fls [cw "kind",[97]] 0)=true:=by
 show zhk [rd l [cw "kind",[97]] 0,.no]=true;unfold zhk;refine zes (zu0 l _ _) (zu6 (zm8 (zlj z3a) (znn rfl (znn (zb6 (zjv z1f) rfl (post:=[]) rfl (by simp)) (zju rfl (ye0 rfl))))))
theorem yco : r_4 l [] (fls [cw "rule"] 0)=true:=by
 show zhk [rd l [cw "rule"] 0,.no]=true;unfold zhk;refine zes (zu0 l _ _) (zes (zma (zjf (by decide +kernel))) (zu6 (zm8 (zlj zwx) (znn rfl (yla (zju rfl (z4z rfl)))))))
theorem yck : r_4 l [] (fls [cw "rule",[97],cw "if"] 0)=true:=by
 show zhk [rd l [cw "rule",[97],cw "if"] 0,.no]=true;unfold zhk;refine zes (zu0 l _ _) (zes (zma (zjf (by decide +kernel))) (zu6 (zm8 (zlj zwx) (znn rfl (znn (zb6 (znb zvh) rfl (post:=[cw "if"]) rfl (by decide +kernel)) (zju rfl (yez rfl)))))))
theorem yc7 {W post:L2N} (h:W.drop p=post) (hx:hd post≠cw "if") : m_7 l [] (fls W p)=some (fls W p,.lst []):=by
 refine zcj ?_;unfold b_7;show wp _ [rd l W p] _;exact zbo (zf0 (b:=false) (noX (cwD "if") h hx) (fun e=>by cases e) fun _=>zap rfl) zb4
theorem z3g {W post:L2N} (h:W.drop p=post) (hx:hd post≠cw "for") : zjp l [] (fls W p)=some (fls W p,.lst []):=by
 refine zcj ?_;unfold zob;show wp _ [rd l W p] _;exact zbo (zf0 (b:=false) (noX (cwD "for") h hx) (fun e=>by cases e) fun _=>zap rfl) zb4
theorem yci (l:Addr) : m_4 l [] (fls [cw "rule",[97],[44],[98]] 0)=some (fls [cw "rule",[97],[44],[98]] 2,.tup [sT (cw "rule"),thD ([97],[]),.lst [],.lst []]):=by
 refine zcj ?_;unfold b_4;generalize hW : ([cw "rule",[97],[44],[98]] : L2N)=W;have d1 : W.drop 1=zb1 ([97],[])++[[44],[98]]:=by rw [<- hW]; rfl
 have d2 : W.drop 2=[[44],[98]]:=by rw [<- hW]; rfl
 show wp _ [rd l W 0,.no] _;apply zaf;refine zbw (zds (p:=0) rfl rfl (ziw l W 0)) ?_;rw [show W.getD 0 []=cw "rule" by rw [<- hW]; rfl];show wp _ [rd l W 1,.im (sT (cw "rule"))] _;apply zaf;refine za2 (b:=false) (zjf (by decide +kernel)) (fun e=>by cases e) fun _=>za5 ?_;show wp _ [rd l W 1,.im (sT (cw "rule"))] _;apply zaf;refine za2 (b:=true) zwx (fun _=>?_) fun e=>by cases e
 refine zbo (ρ1:=[rd l W 2,.im (sT (cw "rule"))]) (zdc (zaq (zap rfl) (zaq (zb6 (znb zvh) rfl d1 (by decide +kernel)) (zaq (zds (ds:=[]) rfl rfl (yc7 d2 (by decide +kernel))) (zaq (zds (ds:=[]) rfl rfl (z3g d2 (by decide +kernel))) rfl))))) ?_;exact zb4
theorem z9p : zdd [Pa.is ([97],[])]:=⟨fun p hp=>by rw [mem_singleton.mp hp]; exact zvh,by decide⟩
theorem yew {W:L2N} (hd:W.drop p=[[97],[98]]) : zpg l [] (fls W p)=some (fls W (p + 1),.tup [.str "never",.lst [Pa.toD (.is ([97],[]))],.lst []]):=by
 have d1 : W.drop (p + 1)=[[98]]:=zeg hd;refine zcj ?_;unfold zn1;show wp _ [rd l W p,.no] _;apply zaf;refine zbw (zb6 (zyv z9p (by simp)) rfl (post:=[[98]]) hd (by decide +kernel)) ?_;show wp _ [rd l W (p + 1),.im (.lst [Pa.toD (.is ([97],[]))])] _;apply zaf
 have hc : zdq 1 [] (zdx (zab 1)) (zbe 0) kY (m2 dEq (mIx (zbg 0) (kI 0)) (kSt "unlike")) [rd l W (p + 1),.im (.lst [Pa.toD (.is ([97],[]))])]=some (([Pa.is ([97],[])].map Pa.unl).map D.bl):=by
  rw [map_map];exact zos [Pa.is ([97],[])] Pa.toD _ rfl (by decide) fun q _=>zqi rfl rfl (z82 q)
 refine za2 (b:=false) (zf7 (d:=.bl false) (zbi (zaz (zjj hc) rfl) (z1u _)) rfl) (fun e=>by cases e) fun _=>za5 ?_;refine zbo (ρ1:=[rd l W (p + 1),.im (.lst [Pa.toD (.is ([97],[]))])]) (zdc (zaq (zap rfl) (zaq (zap rfl) (zaq (zds (ds:=[]) rfl rfl (z3g d1 (by decide +kernel))) rfl)))) ?_;exact zb4
theorem ycm (l:Addr) : m_4 l [] (fls [cw "never",[97],[98]] 0)=some (fls [cw "never",[97],[98]] 2,.tup [.str "never",.lst [Pa.toD (.is ([97],[]))],.lst []]):=by
 refine zcj ?_;unfold b_4;generalize hW : ([cw "never",[97],[98]] : L2N)=W;have d1 : W.drop 1=[[97],[98]]:=by rw [<- hW]; rfl
 show wp _ [rd l W 0,.no] _;apply zaf;refine zbw (zds (p:=0) rfl rfl (ziw l W 0)) ?_;rw [show W.getD 0 []=cw "never" by rw [<- hW]; rfl];show wp _ [rd l W 1,.im (sT (cw "never"))] _;apply zaf;refine za2 (b:=false) (zjf (by decide +kernel)) (fun e=>by cases e) fun _=>za5 ?_;apply zaf;refine za2 (b:=false) (z3s (by decide +kernel) (by decide +kernel)) (fun e=>by cases e) fun _=>za5 ?_;apply zaf;refine za2 (b:=false) (zjf (by decide +kernel)) (fun e=>by cases e) fun _=>za5 ?_;apply zaf;refine za2 (b:=true) z3a (fun _=>?_) fun e=>by cases e
 exact zbo (zds (ds:=[]) rfl rfl (yew d1)) zb4
variable {b:LN}
theorem z7c (hl:b.length<=20000) : zkt 1 "Reader" zsh (zac (zax zf9 (zac (zab 0) nZ)) nZ) [.im (.str (tx b)),.no,.no]=some (.nx [.im (.str (tx b)),.obj "Reader" rN (fls (ws b []) 0),.no]):=by
 unfold zkt;rw [zaz (zbi rfl (zqk b hl)) rfl];rfl
theorem zug (hl:b.length<=20000) (h:∀ l,r_4 l [] (fls (ws b []) 0)=true) : r_1 [.str (tx b)]=true:=by
 show zk8 [.im (.str (tx b)),.no,.no]=true;unfold zk8;exact zes (z7c hl) (zu6 (z6s rfl h))
theorem z7a (hl:b.length<=20000) (h:∀ l,m_4 l [] (fls (ws b []) 0)=some (fls (ws b []) q,d)) (hq:q < (ws b []).length) : r_1 [.str (tx b)]=true:=by
 show zk8 [.im (.str (tx b)),.no,.no]=true;unfold zk8;refine zes (z7c hl) (zes (ρ':=[.im (.str (tx b)),.obj "Reader" rN (fls (ws b []) q),.im d]) ?_ (z6s rfl fun l=>yeu hq));unfold zbk;rw [zxo rfl h];rfl
noncomputable def zg1 : L2N:=[[57,97],[45,48],[42],cw "rule",cw "kind a",cw "rule a if",cw "never a b",cw "rule a, b",cw "abcdefghi",[97,9,98],[9],[32,9,32]]
theorem z90 : ∀ b∈zg1,ful b=true/\r_1 [.str (tx b)]=true/\10∉b/\b.length<=9:=by
 have one : ∀ (b w:LN),ws b []=[w]->b.length<=9->10∉b->w≠cw "kind" -> w≠cw "rule" -> w≠cw "may" -> w≠cw "choose" -> w≠cw "never" -> (reprText (tx w)).length<=16777216->(zgk Str.empty ["no row begins with ",reprText (tx w)]).length<=16777216->ful b=true/\r_1 [.str (tx b)]=true/\10∉b/\b.length<=9:=fun b w e hl h10 h1 h2 h3 h4 h5 h6 h7=>by
  refine ⟨by unfold ful; rw [e]; rfl,zug (by omega) fun l=>?_,h10,hl⟩;rw [e];exact ycn h1 h2 h3 h4 h5 h6 h7
 intro b hb;simp only [zg1,mem_cons,not_mem_nil,or_false] at hb
 rcases hb with rfl | rfl | rfl | rfl | rfl | rfl | rfl | rfl | rfl | rfl | rfl | rfl
 ·apply one _ [57,97]<;>decide +kernel
 ·apply one _ [45,48]<;>decide +kernel
 ·apply one _ [42]<;>decide +kernel
 ·exact ⟨by decide +kernel,zug (by decide +kernel) fun l=>by rw [show ws (cw "rule") []=[cw "rule"] by decide +kernel]; exact yco,by decide +kernel,by decide +kernel⟩
 ·exact ⟨by decide +kernel,zug (by decide +kernel) fun l=>by rw [show ws (cw "kind a") []=[cw "kind",[97]] by decide +kernel]; exact ycl,by decide +kernel,by decide +kernel⟩
 ·exact ⟨by decide +kernel,zug (by decide +kernel) fun l=>by rw [show ws (cw "rule a if") []=[cw "rule",[97],cw "if"] by decide +kernel]; exact yck,by decide +kernel,by decide +kernel⟩
 ·have e : ws (cw "never a b") []=[cw "never",[97],[98]]:=by decide +kernel
  refine ⟨by decide +kernel,z7a (q:=2) (d:=.tup [.str "never",.lst [Pa.toD (.is ([97],[]))],.lst []]) (by decide +kernel) (fun l=>?_) (by rw [e]; decide),by decide +kernel,by decide +kernel⟩;rw [e];exact ycm l
 ·have e : ws (cw "rule a, b") []=[cw "rule",[97],[44],[98]]:=by decide +kernel
  refine ⟨by decide +kernel,z7a (q:=2) (d:=.tup [sT (cw "rule"),thD ([97],[]),.lst [],.lst []]) (by decide +kernel) (fun l=>?_) (by rw [e]; decide),by decide +kernel,by decide +kernel⟩;rw [e];exact yci l
 ·apply one _ (cw "abcdefghi")<;>decide +kernel
 ·apply one _ [97,9,98]<;>decide +kernel
 ·apply one _ [9]<;>decide +kernel
 ·apply one _ [9]<;>decide +kernel
noncomputable def blP (s:Int) : Int×LN:=(nx s,List.replicate (dr s 3).toNat 32)
theorem z1r (s:Int) : okS (blP s).1:=zbh s
noncomputable abbrev blE : Xe:=mX2 zi7 (mX (kSt " ")) (zat 1 m_0 (zad (mX (kI 3)) zaa))
variable {r0 r1 r2 r3:Sl}
section
variable {za9:LS}
theorem z93 (d:D) (s:Int) (h:okS s) : zix 1 [3] 3 0 (zbe 0) blE (r0::r1::r2::r3::za9) l d [.int s]=some (sT (blP s).2,[.int (blP s).1]):=by
 have ec : zat 1 m_0 (zad (mX (kI 3)) zaa) [.im d,.pin l [.int s]]=some (.int (dr s 3),[.im d,.pin l [.int (nx s)]]):=zg3 (i:=1) (ρ1:=[.im d,.pin l [.int s]]) rfl rfl rfl (zim l s 3 h (by decide));have ee : blE [.im d,.pin l [.int s]]=some (sT (blP s).2,[.im d,.pin l [.int (nx s)]]):=zb0 (zap rfl) ec (zvq _ (zbm s (by decide)));unfold zix;show (some [Sl.im d,Sl.pin l [.int s]]).bind (fun ρ1=>_)=_;rw [bind_some,ee,bind_some];refine if_pos fun i hi=>?_
 cases i with
 | zero=>cases hi
 | succ i=>rfl
end
section
variable {za9:LS}
theorem z1s : ∀ (ds:LD) (s:Int),okS s->zfc 1 [3] 3 0 (zbe 0) blE (r0::r1::r2::r3::za9) l ds [.int s]=some ((itP blP ds.length s).2.map sT,[.int (itP blP ds.length s).1])
 | [],s,_=>rfl
 | d::ds,s,h=>by
  unfold zfc;rw [z93 d s h,bind_some,z1s ds (blP s).1 (z1r s)];rfl
end
theorem yl4 {j:Nat} {m:Xe} {xs:LD} (h:ρ[j]?=some (.own xs)) (hm:∀ l,m (ρ.set j (.pin l xs))=some (d,ρ.set j (.pin l ys))) : mXQ j m ρ=some (d,ρ.set j (.own ys)):=by
 have hq : ∃ q : D×LD,∀ l,m (ρ.set j (.pin l xs))=some (q.1,ρ.set j (.pin l q.2)):=⟨(d,ys),hm⟩;unfold mXQ;rw [h];dsimp only;rw [dif_pos hq];have e:=hq.choose_spec 0;rw [hm 0] at e
 injection e with e
 injection e with e1 e2
 have hj:=(gq h).1;have e3 : (ρ.set j (.pin 0 ys))[j]?=(ρ.set j (.pin 0 hq.choose.2))[j]?:=by rw [e2]
 rw [List.getElem?_set_self hj,List.getElem?_set_self hj] at e3
 injection e3 with e3
 injection e3 with _ e4
 rw [<- e1,<- e4]
noncomputable def bls (s:Int) : Int×L2N:=itP blP (dr s 3).toNat (nx s)
theorem zvr (s:Int) : okS (bls s).1/\(bls s).2.length < 3/\∀ b∈(bls s).2,10∉b/\b.length < 3/\ful b=false:=by
 have hd:=zbm s (k:=3) (by decide);obtain ⟨a,b⟩:=zgo (F:=blP) z1r (dr s 3).toNat (nx s) (zbh s);refine ⟨a,by unfold bls; rw [b]; omega,zii (fun s'=>?_) _ _⟩;have h3:=zbm s' (k:=3) (by decide);show 10∉List.replicate (dr s' 3).toNat 32/\(List.replicate (dr s' 3).toNat 32).length < 3/\ful (List.replicate (dr s' 3).toNat 32)=false;have hn : (dr s' 3).toNat < 3:=by omega
 generalize (dr s' 3).toNat=n at hn
 match n,hn with
 | 0,_=>decide +kernel
 | 1,_=>decide +kernel
 | 2,_=>decide +kernel
theorem z1v (s:Int) (hs:okS s) (r0 r1 r2:Sl) (za9:LS) : mXQ 3 (ze0 1 [3] 3 0 (zfr (zad (zat 3 m_0 (zad (mX (kI 3)) zaa)) zaa)) (zbe 0) blE) (r0::r1::r2::.own [.int s]::za9)=some (.lst ((bls s).2.map sT),r0::r1::r2::.own [.int (bls s).1]::za9):=by
 have hd:=zbm s (k:=3) (by decide);refine yl4 (j:=3) (xs:=[.int s]) (ys:=[.int (bls s).1]) rfl fun l=>?_;show ze0 _ _ _ _ _ _ _ (r0::r1::r2::.pin l [.int s]::za9)=some (_,r0::r1::r2::.pin l [.int (bls s).1]::za9);have ec : zat 3 m_0 (zad (mX (kI 3)) zaa) (r0::r1::r2::.pin l [.int s]::za9)=some (.int (dr s 3),r0::r1::r2::.pin l [.int (nx s)]::za9):=zg3 (i:=3) (ρ1:=r0::r1::r2::.pin l [.int s]::za9) rfl rfl rfl (zim l s 3 hs (by decide));have er:=zp2 ec hd.1 (by omega);unfold ze0;rw [er,bind_some];have hl : ((List.range (dr s 3).toNat).map (fun (i:Nat)=>D.int i)).length=(dr s 3).toNat:=by rw [length_map,length_range]
 generalize (List.range (dr s 3).toNat).map (fun (i:Nat)=>D.int i)=ds at hl;show (if ds.length<=16777216/\([3] : LN)[0]?=some 3/\(([3] : LN).all fun j=>j==3 || ((((r0::r1::r2::Sl.pin l [.int (nx s)]::za9) : LS)[j]?).getD .no).calm)=true then (zfc 1 [3] 3 0 (zbe 0) blE (r0::r1::r2::.pin l [.int (nx s)]::za9) l ds [.int (nx s)]).map fun q=>(D.lst q.1,((r0::r1::r2::Sl.pin l [.int (nx s)]::za9) : LS).set 3 (.pin l q.2)) else none)=_;rw [if_pos ⟨by omega,rfl,rfl⟩,z1s ds (nx s) (zbh s),hl];rfl
noncomputable def zi3 (k:Int) : LN:=zg1.getD k.toNat []
theorem z91 : [D.str "9a",.str "-0",.str "*",.str "rule",.str "kind a",.str "rule a if",.str "never a b",.str "rule a, b",.str "abcdefghi",.str "a\tb",.str "\t",.str " \t "]=zg1.map sT:=by
 unfold zg1;simp only [map_cons,map_nil,<- cwD];rfl
theorem z9x (h:0<=k/\k < 12) : zi3 k∈zg1:=by
 have hl : k.toNat < zg1.length:=by show k.toNat < 12; omega
 unfold zi3;rw [getD_eq_getElem?_getD,List.getElem?_eq_getElem hl];exact List.getElem_mem hl
theorem z9y (l:Addr) (s:Int) (hs:okS s) : zpi l [] [] [.int s]=some ([.int (nx s)],sT (zi3 (dr s 12))):=by
 have d12:=zbm s (k:=12) (by decide)
 have ix : zd6 (.lst (zg1.map sT)) (.int (dr s 12))=some (sT (zi3 (dr s 12))):=by
  have hl : (dr s 12).toNat < zg1.length:=by show (dr s 12).toNat < 12; omega
  show atI (zg1.map sT) (dr s 12)=_;unfold atI ixN;rw [if_pos d12.1,if_pos (by rw [length_map]; omega),bind_some,List.getElem?_map,List.getElem?_eq_getElem hl];unfold zi3;rw [getD_eq_getElem?_getD,List.getElem?_eq_getElem hl];rfl
 have w : wp zoj [.pin l [.int s],.no] (fun o=>∃ a1,o=.rtS (sT (zi3 (dr s 12))) [.pin l [.int (nx s)],a1]):=by
  unfold zoj;apply zaf;refine ze4 (d:=.lst [D.str "9a",.str "-0",.str "*",.str "rule",.str "kind a",.str "rule a if",.str "never a b",.str "rule a, b",.str "abcdefghi",.str "a\tb"]) rfl ?_;refine zbo (zb0 (zap ?_) (zc7 l s 12 _ rfl hs (by decide)) ix) ⟨_,rfl⟩;rw [<- z91];rfl
 obtain ⟨o,e,a1,rfl⟩:=w;exact zd4 (ρ:=[.pin l [.int (nx s)],a1]) e rfl
abbrev N10 (w:LN) : Prop:=10∉w
theorem zjq (h:zcx w=true) : N10 w:=fun hx=>absurd (zvk h 10 hx) (by decide)
theorem ztp (_:zdz n) : N10 (za0 n):=fun hx=>by have:=zxw 10 hx; omega
theorem zxt : N10 [44]:=(by decide)
theorem ztq (h:zee t) : ∀ w∈zb1 t,N10 w:=fun w hw=>by
 obtain ⟨h1,h2,h3⟩:=h;unfold zb1 at hw
 rcases mem_cons.1 hw with rfl | hw
 ·exact zjq (zhi h1)
 ·split at hw
  ·cases hw
  ·rcases mem_cons.1 hw with rfl | hw
   ·exact (by decide)
   ·rcases mem_append.1 hw with hw | hw
    ·rcases zjz hw with rfl | ⟨x,hx,hw⟩
     ·exact zxt
     ·rw [mem_singleton.1 hw]; exact zjq (h2 x hx)
    ·rw [mem_singleton.1 hw]; exact (by decide)
theorem zxv (h:∀ q∈ps,ze6 q) : ∀ w∈zbq ps,N10 w:=fun w hw=>by
 rcases zjz hw with rfl | ⟨q,hq,hw⟩
 ·exact zxt
 ·obtain ⟨a,b⟩:=h q hq
  rcases mem_cons.1 hw with rfl | hw
  ·exact zjq (z06 a)
  ·rcases mem_cons.1 hw with rfl | hw
   ·exact by decide +kernel
   ·rw [mem_singleton.1 hw]; exact zjq (zhi b)
theorem ye6 {its:List Ti} (h:∀ z∈its,zcq z) : ∀ w∈zbt its,N10 w:=fun w hw=>by
 rcases zjz hw with rfl | ⟨z,hz,hw⟩
 ·exact zxt
 ·unfold zfm at hw
  rcases mem_append.1 hw with hw | hw
  ·split at hw
   ·cases hw
   ·rw [mem_singleton.1 hw]; exact ztp (zw1 (h z hz))
  ·exact ztq (h z hz).1 w hw
theorem zto (h1:N10 a) (h2:∀ w∈xs,N10 w) : ∀ w∈zbc a xs,N10 w:=fun w hw=>by
 rcases z1g hw with rfl | hw
 ·exact h1
 ·exact h2 w hw
theorem zkz {ys:L2N} (h1:∀ w∈xs,N10 w) (h2:∀ w∈ys,N10 w) : ∀ w∈xs++ys,N10 w:=fun w hw=>by
 rcases mem_append.1 hw with hw | hw
 ·exact h1 w hw
 ·exact h2 w hw
theorem ze1 {ys:L2N} (h1:N10 a) (h2:∀ w∈ys,N10 w) : ∀ w∈a::ys,N10 w:=fun w hw=>by
 rcases mem_cons.1 hw with rfl | hw
 ·exact h1
 ·exact h2 w hw
theorem zxu : ∀ w∈([] : L2N),N10 w:=fun w hw=>by cases hw
theorem z43 {its:List Ti} (h:∀ z∈its,zcq z) (h2:∀ q∈ov,ze6 q) : ∀ w∈zgc its ov,N10 w:=zkz (ye6 h) (zto (by decide +kernel) (zxv h2))
theorem ye7 {p:Pa} (h:zdg p) : ∀ w∈pWd p,N10 w:=by
 cases p with
 | is t=>exact ztq h
 | no t=>exact ze1 (by decide +kernel) (ztq h)
 | un a b=>exact ze1 (zjq h.1) (ze1 (by decide +kernel) (ze1 (zjq h.2) zxu))
 | ct w n its ov =>
  obtain ⟨h1,h2,h3,h4,h5⟩:=h
  exact zkz (ze1 (by cases w <;> decide +kernel) (ze1 (ztp h1) (ze1 (by decide +kernel) zxu))) (z43 h2 h4)
theorem z41 (h:zdd bd) : ∀ w∈bWd bd,N10 w:=fun w hw=>by
 rcases zjz hw with rfl | ⟨p,hp,hw⟩
 ·exact by decide +kernel
 ·exact ye7 (h.1 p hp) w hw
theorem z42 (h:zdd bd) (h2:zet ps) : ∀ w∈zce bd ps,N10 w:=zkz (zto (by decide +kernel) (z41 h)) (zto (by decide +kernel) (zxv h2.1))
theorem ye8 (h:zfe r) : ∀ w∈zch r,N10 w:=by
 cases r with
 | kind n ns=>exact ze1 (by decide +kernel) (ze1 (zjq (zhi h.1)) fun w hw=>zjq (zhi (h.2.1 w hw)))
 | rule b t bd ps=>exact ze1 (by cases b <;> decide +kernel) (zkz (ztq h.1) (z42 h.2.1 h.2.2))
 | never bd ps=>exact ze1 (by decide +kernel) (zkz (z41 h.1) (zto (by decide +kernel) (zxv h.2.2.1)))
 | choose lo hi its ov bd ps =>
  obtain ⟨h1,h2,h3,h4,h5⟩:=h;exact zkz (ze1 (by decide +kernel) (ze1 (ztp h1.1) (ze1 (by decide +kernel) (ze1 (ztp h1.2) (ze1 (by decide +kernel) zxu))))) (zkz (z43 h2.1 h3.1) (z42 h4 h5))
noncomputable def fR (l:LN) : D:=(m_1 [.str (tx l)]).getD .non
def zhs (l:LN) : Prop:=10∉l/\l.length<=19802/\(ful l=true->∃ r,zfe r/\m_1 [.str (tx l)]=some r.toD)
theorem zxb {l:LN} (h:zhs l) (hf:ful l=true) : m_1 [.str (tx l)]=some (fR l)/\zep 8 (fR l):=by
 obtain ⟨r,hr,e⟩:=h.2.2 hf;unfold fR;rw [e];exact ⟨rfl,ycu hr⟩
theorem z92 (h:10∉b/\b.length < 3/\ful b=false) : zhs b:=⟨h.1,by omega,fun e=>by rw [h.2.2] at e; cases e⟩
theorem z4u : ∀ (W:L2N) (p:Int×LN×LN),(∀ w∈W,N10 w)->10∉p.2.1->10∉(W.foldl stL p).2.1
 | [],_,_,h=>h
 | w::W,p,hw,h=>by
  rw [foldl_cons];refine z4u W _ (fun x hx=>hw x (mem_cons_of_mem _ hx)) ?_;unfold stL;intro hx
  rcases mem_append.1 hx with hx | hx
  ·exact h hx
  ·rcases mem_append.1 hx with hx | hx
   ·exact absurd (eq_of_mem_replicate hx) (by decide)
   ·exact hw w mem_cons_self hx
theorem yja (hs:okS s) (h:zfe r) (T:D) (hT:T=r.toD) : zhs (lnP (zch r) s).2/\ful (lnP (zch r) s).2=true/\fR (lnP (zch r) s).2=T:=by
 have hG:=z3r h;have hL:=z7b h;have hlen:=(zxc hs hG).2;have hd:=zbm (lnS (zch r) s).1 (k:=3) (by decide)
 have hl : (lnP (zch r) s).2.length<=19802:=by
  show (_++List.replicate _ 32).length<=_;rw [length_append,length_replicate];omega
 have hW:=zqk (lnP (zch r) s).2 (by omega);have hw:=yd9 s hG;rw [hw] at hW;have hR:=yiu h hW
 have hf : ful (lnP (zch r) s).2=true:=by
  unfold ful;rw [hw]
  have : zch r≠[]:=by cases r <;> exact fun e=>by cases e
  rw [decide_eq_false this];rfl
 refine ⟨⟨?_,hl,fun _=>⟨r,h,hR⟩⟩,hf,?_⟩
 ·intro hx
  rcases mem_append.1 (show 10∈(lnS (zch r) s).2.1++List.replicate _ 32 from hx) with hx | hx
  ·exact z4u (zch r) (s,[],[40]) (ye8 h) (fun z=>by cases z) hx
  ·exact absurd (eq_of_mem_replicate hx) (by decide)
 ·unfold fR;rw [hR,hT];rfl
theorem zu2 (a b:L2N) : zdb (a++b)=zdb a + zdb b:=by unfold zdb; rw [map_append,sum_append]
def zj6 (n:Nat) (Ls:L2N) (due:LD) : Prop:=(∀ l∈Ls,zhs l)/\due=(Ls.filter ful).map fR/\zdb Ls<=n * 19806/\Ls.length<=3 * n
theorem ycc {B:L2N} (h:∀ b∈B,ful b=false) : B.filter ful=[]:=filter_eq_nil_iff.mpr fun b hb e=>by rw [h b hb] at e; cases e
variable {n:Nat} {due:LD}
theorem z8h {Ls:L2N} (h:zj6 n Ls due) (s:Int) : (∀ l∈Ls++(bls s).2,zhs l)/\due=((Ls++(bls s).2).filter ful).map fR/\zdb (Ls++(bls s).2)<=n * 19806 + 4/\(Ls++(bls s).2).length<=3 * n + 2:=by
 obtain ⟨h1,h2,h3,h4⟩:=h;obtain ⟨_,b2,b3⟩:=zvr s;have hs:=z8r 2 (bls s).2 fun w hw=>by have:=(b3 w hw).2.1; omega
 refine ⟨fun l hl=>?_,?_,?_,?_⟩
 ·rcases mem_append.1 hl with hl | hl
  ·exact h1 l hl
  ·exact z92 (b3 l hl)
 ·rw [filter_append,ycc fun b hb=>(b3 b hb).2.2,append_nil];exact h2
 ·rw [zu2]; omega
 ·rw [length_append]; omega
theorem ykb {Ls:L2N} (h:zj6 n Ls due) (s:Int) {T:D} (hb:zhs b/\ful b=true/\fR b=T) : zj6 (n + 1) (Ls++(bls s).2++[b]) (due++[T]):=by
 obtain ⟨h1,h2,h3,h4⟩:=z8h h s;obtain ⟨c1,c2,c3⟩:=hb;refine ⟨fun l hl=>?_,?_,?_,?_⟩
 ·rcases mem_append.1 hl with hl | hl
  ·exact h1 l hl
  ·rw [mem_singleton.1 hl]; exact c1
 ·rw [filter_append,map_append,<- h2,filter_cons_of_pos c2];rw [<- c3];rfl
 ·rw [zu2];have : zdb [b]=b.length:=by unfold zdb; simp
  have:=c1.2.1;omega
 ·rw [length_append,length_singleton]; omega
theorem yaa {m:Addr->LD->LD->LD->Option (LD×D)} {f:MF2} {xs:LD} (h1:f ρ=some xs) (h:∀ l,m l [] [] xs=some (ys,d)) : zmi m f ρ=some d:=by
 unfold zmi;rw [h1,bind_some,dif_pos ⟨(ys,d),h⟩]
 have e : (⟨(ys,d),h⟩ : ∃ q,∀ l,m l [] [] xs=some q).choose=(ys,d):=by
  have:=(⟨(ys,d),h⟩ : ∃ q,∀ l,m l [] [] xs=some q).choose_spec 0;rw [h 0] at this;exact Option.some.inj this.symm
 rw [e]
theorem yi0 {t:LN} (h:r_2 [.str (tx t)]=true) : zs8 [.str (tx t)]=some (.bl true):=by
 apply zhq;unfold zq7;show wp _ [.im (.str (tx t)),.no,.no] _;apply zaf;refine ze4 (d:=.lst []) rfl ?_;show wp _ [.im (.str (tx t)),.im (.lst []),.no] _;apply zaf;refine zh6 (o:=.nx [.no,.im (.lst [.bl true,.bl true,.bl false]),.no]) ?_ ?_
 ·unfold zst;rw [if_pos]
  ·rfl
  ·show (rNo _ || r_2 [.str (tx t)])=true;rw [h];rfl
 ·exact zgx rfl (zf2 rfl)
theorem yds (Ls:L2N) : ∃ Ls',jn [10] Ls=jn [10] Ls'/\Ls'≠[]/\(Ls'.filter ful=Ls.filter ful)/\(∀ l∈Ls',l∈Ls\/l=[])/\Ls'.length<=Ls.length + 1:=by
 cases Ls with
 | nil=>exact ⟨[[]],rfl,by simp,by decide +kernel,fun l hl=>.inr (mem_singleton.mp hl),by simp⟩
 | cons a r=>exact ⟨a::r,rfl,by simp,rfl,fun l hl=>.inl hl,by simp⟩
theorem yex : zhs []:=⟨(fun h=>by cases h),by decide,fun h=>absurd h (by decide +kernel)⟩
theorem yix {Ls:L2N} (h:∀ l∈Ls,zhs l) (hs:zdb Ls<=99034) (hl:Ls.length<=17) : o_2 [.str (tx (jn [10] Ls))]=some ((Ls.filter ful).map fR)/\m_2 [.str (tx (jn [10] Ls))]=some (.lst ((Ls.filter ful).map fR)):=by
 obtain ⟨L',e,hn,hf,hm,hc⟩:=yds Ls;have hj:=zw5 [10] Ls;have ok : ∀ l∈L',zhs l:=fun l hl=>(hm l hl).elim (h l) fun e=>by rw [e]; exact yex
 rw [e] at hj ⊢;rw [<- hf];have h1 : ([10] : LN).length=1:=rfl;rw [h1] at hj;exact yiv (yiw L' hn (fun l hl=>(ok l hl).1) (fun l hl=>by have:=(ok l hl).2.1; omega) (by omega) (by omega) fR fun l hl q=>(zxb (ok l hl) q).1)
theorem z9z {Ls:L2N} (h:∀ l∈Ls,zhs l) (hs:zdb Ls<=99034) (hl:Ls.length<=17) (hb:b∈zg1) (k:Nat) : r_2 [.str (tx (jn [10] (Ls.take k++b::Ls.drop k)))]=true/\zdb (Ls.take k++b::Ls.drop k) + (Ls.take k++b::Ls.drop k).length<=100000:=by
 obtain ⟨b1,b2,b3,b4⟩:=z90 b hb
 have e : zdb (Ls.take k++b::Ls.drop k)=zdb Ls + b.length:=by
  have : zdb Ls=zdb (Ls.take k) + zdb (Ls.drop k):=by rw [<- zu2,take_append_drop]
  rw [this,zu2];unfold zdb;rw [map_cons,sum_cons];omega
 have el : (Ls.take k++b::Ls.drop k).length=Ls.length + 1:=by
  rw [length_append,length_cons,length_take,length_drop];omega
 have mem : ∀ l∈Ls.take k++b::Ls.drop k,l∈Ls\/l=b:=fun l hl=>by
  rcases mem_append.1 hl with hl | hl
  ·exact .inl (mem_of_mem_take hl)
  ·rcases mem_cons.1 hl with hl | hl
   ·exact .inr hl
   ·exact .inl (mem_of_mem_drop hl)
 have hj:=zw5 [10] (Ls.take k++b::Ls.drop k);have h1 : ([10] : LN).length=1:=rfl;rw [e,el,h1] at hj;refine ⟨yiy _ (by simp) (fun l hl=>?_) (fun l hl=>?_) (by omega) (by omega) fR (Ls.take k) (Ls.drop k) b rfl (fun l hl q=>(zxb (h l (mem_of_mem_take hl)) q).1) b1 b2,by omega⟩
 ·rcases mem l hl with z | z
  ·exact (h l z).1
  ·rw [z]; exact b3
 ·rcases mem l hl with z | z
  ·have:=(h l z).2.1; omega
  ·rw [z]; omega
theorem yjh (h:∀ d∈ds,zep 8 d) (hl:ds.length<=500) : zft 9 [.lst ds,.lst ds]=some (.bl true):=z7i 9 _ ⟨hl,h⟩
theorem z39 {Ls:L2N} (h:zdb Ls + Ls.length<=100000) : zhu (.str "\n") (.lst (Ls.map sT))=some (.str (tx (jn [10] Ls))):=ya1 [10] Ls (by decide) h
theorem yki (Sc:D) (many:Int) (sd:D) (n:Nat) (s s0:Int) (hs:okS s) (hs0:okS s0) {Ls:L2N} (h:zj6 n Ls due) (hn:n < 5) (a7:Sl) (K:Fl->Prop)
  (k:∀ s' Ls' due' a7',okS s'->zj6 (n + 1) Ls' due'->K (.nx [.im Sc,.im (.int many),.im sd,.own [.int s'],.own due',.own (Ls'.map sT),.im (.int s0),a7',.no,.no])) :
  wp (zah (zdi 7 (zmi zsx (zac (zab 6) nZ))) (zah (zf4 4 (zab 7)) (zah (zfn 5 (mXQ 3 (ze0 1 [3] 3 0 (zfr (zad (zat 3 m_0 (zad (mX (kI 3)) zaa)) zaa)) (zbe 0) blE))) (zeq 5 (zjk 3 zsy (zad (zjk 3 zs2 (zad (mX (zab 7)) zaa)) zaa))))))
   [.im Sc,.im (.int many),.im sd,.own [.int s],.own due,.own (Ls.map sT),.im (.int s0),a7,.no,.no] K:=by
 obtain ⟨_,hR⟩:=yi9 s0;apply zaf;refine ze4 (yaa (zaz (d:=.int s0) rfl rfl) fun l=>yi8 l s0 hs0) ?_;generalize (ziu s0).2=r at hR;show wp _ [.im Sc,.im (.int many),.im sd,.own [.int s],.own due,.own (Ls.map sT),.im (.int s0),.im r.toD,.no,.no] _
 have hdl : due.length<=15:=by
  have:=h.2.2.2;rw [h.2.1,length_map];have:=length_filter_le ful Ls;omega
 apply zaf;refine zll (xs:=due) rfl rfl (by omega) ?_;show wp _ [.im Sc,.im (.int many),.im sd,.own [.int s],.own (due++[r.toD]),.own (Ls.map sT),.im (.int s0),.im r.toD,.no,.no] _;apply zaf;obtain ⟨o1,b2,_⟩:=zvr s;have hLl:=h.2.2.2;refine zln (xs0:=Ls.map sT) (xs:=Ls.map sT) rfl (z1v s hs _ _ _ _) rfl (by rw [length_map,length_map]; omega) ?_;show wp _ [.im Sc,.im (.int many),.im sd,.own [.int (bls s).1],.own (due++[r.toD]),.own (Ls.map sT++(bls s).2.map sT),.im (.int s0),.im r.toD,.no,.no] _;obtain ⟨o2,hR1,hD⟩:=yi6 o1 hR;have hG:=z3r hR1;have hL:=z7b hR1;have hln:=yja o2 hR1 r.toD hD.symm;have hnew:=ykb h s hln;have o3 : okS (lnP (zch (roS (bls s).1 r).2) (roS (bls s).1 r).1).1:=zbh _;refine zu9 (xs0:=Ls.map sT++(bls s).2.map sT) (xs:=Ls.map sT++(bls s).2.map sT) rfl (z1z rfl (zaq (z1z rfl (zaq (zap rfl) rfl) rfl fun l=>ylw l r (bls s).1 hR o1) rfl) rfl fun l=>yd8 l _ _ o2 hG hL) rfl (by rw [length_append,length_map,length_map]; omega) ?_;generalize lnP (zch (roS (bls s).1 r).2) (roS (bls s).1 r).1=T at hln hnew o3;have:=k T.1 _ _ (.im r.toD) o3 hnew;rw [map_append,map_append] at this;exact this
theorem yk9 (Sc:D) (many:Int) (sd:D) (n:Nat) (s:Int) (hs:okS s) {Ls:L2N} (h:zj6 n Ls due) (hn:n<=5) (a6 a7:Sl) :
  wp (zah (zfn 5 (mXQ 3 (ze0 1 [3] 3 0 (zfr (zad (zat 3 m_0 (zad (mX (kI 3)) zaa)) zaa)) (zbe 0) blE)))
   (zah (zdi 8 (m2 zhu (kSt "\n") (zf8 5)))
   (zah (zd8 9 (zmj o_2 (zac (zab 8) nZ)))
   (zah (zd2 4 (zbn (zfp (zcu (zmk (zft 9) (zac (zf8 9) (zac (zab 4) nZ))))) (zdh (kBl false)) zbb))
   (zah (zf4 9 (kSt "x"))
   (zah (zdr (mBX (mX2 dEq (zf5 3 m_0 (zad (mX (kI 2)) zaa)) (mX (kI 0)))) (zah (zpb 5 (zad (zf5 3 m_0 (zad (mX (m2 zcb (zax zcg (zac (zf8 5) nZ)) (kI 1))) zaa)) (zad (zf5 3 zpi zaa) zaa)))
    (zd2 5 (zbn (zfp (zcu (zax zs8 (zac (m2 zhu (kSt "\n") (zab 5)) nZ)))) (zdh (kBl false)) zbb))) zbb)
   (zd2 4 (zdh (zax (zft 9) (zac (zax m_2 (zac (zab 8) nZ)) (zac (zab 4) nZ)))))))))))
   [.im Sc,.im (.int many),.im sd,.own [.int s],.own due,.own (Ls.map sT),a6,a7,.no,.no] (zko fun d=>d=.bl true):=by
 obtain ⟨o1,b2,_⟩:=zvr s;obtain ⟨h1,h2,h3,h4⟩:=z8h h s;have hLl:=h.2.2.2;apply zaf;refine zln (xs0:=Ls.map sT) (xs:=Ls.map sT) rfl (z1v s hs _ _ _ _) rfl (by rw [length_map,length_map]; omega) ?_;rw [<- map_append];generalize Ls++(bls s).2=Ms at h1 h2 h3 h4;generalize (bls s).1=s1 at o1;show wp _ [.im Sc,.im (.int many),.im sd,.own [.int s1],.own due,.own (Ms.map sT),a6,a7,.no,.no] _;have hS : zdb Ms<=99034:=by omega
 have hM : Ms.length<=17:=by omega
 obtain ⟨er1,er2⟩:=yix h1 hS hM;rw [<- h2] at er1 er2
 have hg : ∀ d∈due,zep 8 d:=fun d hd=>by
  rw [h2] at hd;obtain ⟨l,hl,rfl⟩:=mem_map.mp hd;have:=mem_filter.mp hl;exact (zxb (h1 l this.1) this.2).2
 have hdl : due.length<=17:=by
  rw [h2,length_map];have:=length_filter_le ful Ms;omega
 have hsame:=yjh hg (by omega);apply zaf;refine ze4 (zas rfl rfl (z39 (by omega))) ?_;show wp _ [.im Sc,.im (.int many),.im sd,.own [.int s1],.own due,.own (Ms.map sT),a6,a7,.im (.str (tx (jn [10] Ms))),.no] _;generalize hT : jn [10] Ms=T at er1 er2;apply zaf;refine zgy (yab rfl er1) ?_;show wp _ [.im Sc,.im (.int many),.im sd,.own [.int s1],.own due,.own (Ms.map sT),a6,a7,.im (.str (tx T)),.own due] _;apply zaf;refine zgf (ρ':=[.im Sc,.im (.int many),.im sd,.own [.int s1],.im (.lst due),.own (Ms.map sT),a6,a7,.im (.str (tx T)),.own due]) rfl ?_;refine za2 (b:=false) (zkr (b:=true) (zf7 (z10 rfl hsame rfl) rfl)) (fun e=>by cases e) fun _=>za5 ?_;show wp _ [.im Sc,.im (.int many),.im sd,.own [.int s1],.im (.lst due),.own (Ms.map sT),a6,a7,.im (.str (tx T)),.own due] _;apply zaf;refine zll (xs:=due) rfl rfl (by omega) ?_;show wp _ [.im Sc,.im (.int many),.im sd,.own [.int s1],.im (.lst due),.own (Ms.map sT),a6,a7,.im (.str (tx T)),.own (due++[.str "x"])] _;apply zaf
 have fin : ∀ (r3 r5 r9:Sl),wp (zd2 4 (zdh (zax (zft 9) (zac (zax m_2 (zac (zab 8) nZ)) (zac (zab 4) nZ))))) [.im Sc,.im (.int many),.im sd,r3,.im (.lst due),r5,a6,a7,.im (.str (tx T)),r9] (zko fun d=>d=.bl true):=fun r3 r5 r9 =>
  zgf (ρ':=[.im Sc,.im (.int many),.im sd,r3,.im (.lst due),r5,a6,a7,.im (.str (tx T)),r9]) rfl (zgx (zbi (zaz (zbi rfl er2) (zaz rfl rfl)) hsame) (zf2 rfl))
 have eq2 : mBX (mX2 dEq (zf5 3 m_0 (zad (mX (kI 2)) zaa)) (mX (kI 0))) [.im Sc,.im (.int many),.im sd,.own [.int s1],.im (.lst due),.own (Ms.map sT),a6,a7,.im (.str (tx T)),.own (due++[.str "x"])]=some (dr s1 2==0,[.im Sc,.im (.int many),.im sd,.own [.int (nx s1)],.im (.lst due),.own (Ms.map sT),a6,a7,.im (.str (tx T)),.own (due++[.str "x"])]) :=
  bxX (zb0 (zvt rfl (zaq (zap rfl) rfl) rfl fun l=>zim l s1 2 o1 (by decide)) (zap rfl) (ze8 _ _))
 refine zeb eq2 (fun _=>?_) fun _=>za5 (fin _ _ _);have o2:=zbh s1;generalize nx s1=s2 at o2;have o3:=zbh s2;have hk:=zbm s2 (k:=(Ms.length : Int) + 1) (by omega);have hb:=z9x (zbm (nx s2) (k:=12) (by decide))
 have ef : zad (zf5 3 m_0 (zad (mX (m2 zcb (zax zcg (zac (zf8 5) nZ)) (kI 1))) zaa)) (zad (zf5 3 zpi zaa) zaa) [.im Sc,.im (.int many),.im sd,.own [.int s2],.im (.lst due),.own (Ms.map sT),a6,a7,.im (.str (tx T)),.own (due++[.str "x"])]=some ([.int (dr s2 ((Ms.length : Int) + 1)),sT (zi3 (dr (nx s2) 12))],[.im Sc,.im (.int many),.im sd,.own [.int (nx (nx s2))],.im (.lst due),.own (Ms.map sT),a6,a7,.im (.str (tx T)),.own (due++[.str "x"])]) :=
  zaq (zvt rfl (zaq (zap (zas (zbi rfl (zji Ms sT)) rfl zfh)) rfl) rfl fun l=>zim l s2 _ o2 (by omega)) (zaq (zvt rfl rfl rfl fun l=>z9y l (nx s2) o3) rfl)
 generalize dr s2 ((Ms.length : Int) + 1)=kk at hk ef;generalize zi3 (dr (nx s2) 12)=b at hb ef;generalize nx (nx s2)=s3 at ef;obtain ⟨rr,rs⟩:=z9z h1 hS hM hb kk.toNat;apply zaf;refine zh6 (o:=.nx [.im Sc,.im (.int many),.im sd,.own [.int s3],.im (.lst due),.own ((Ms.take kk.toNat++b::Ms.drop kk.toNat).map sT),a6,a7,.im (.str (tx T)),.own (due++[.str "x"])]) ?_ ?_
 ·unfold zpb;rw [show ([.im Sc,.im (.int many),.im sd,.own [.int s2],.im (.lst due),.own (Ms.map sT),a6,a7,.im (.str (tx T)),.own (due++[.str "x"])] : LS)[5]?=some (.own (Ms.map sT)) from rfl];dsimp only;rw [ef,bind_some];show (if 0<=kk/\kk<=(Ms.map sT).length/\(Ms.map sT).length < 16777216 then some (Fl.nx [.im Sc,.im (.int many),.im sd,.own [.int s3],.im (.lst due),.own ((Ms.map sT).take kk.toNat++sT b::(Ms.map sT).drop kk.toNat),a6,a7,.im (.str (tx T)),.own (due++[.str "x"])]) else none)=_;rw [if_pos ⟨hk.1,by rw [length_map]; omega,by rw [length_map]; omega⟩,map_append,map_cons,map_take,map_drop]
 ·generalize hQ : Ms.take kk.toNat++b::Ms.drop kk.toNat=Qs at rr rs;refine zgf (ρ':=[.im Sc,.im (.int many),.im sd,.own [.int s3],.im (.lst due),.im (.lst (Qs.map sT)),a6,a7,.im (.str (tx T)),.own (due++[.str "x"])]) rfl ?_;refine za2 (b:=false) (zkr (b:=true) (zf7 (zbi (zaz (zas rfl rfl (z39 rs)) rfl) (yi0 rr)) rfl)) (fun e=>by cases e) fun _=>za5 (fin _ _ _)
theorem yd2 (ns:List Int) (h:ns.length<=63) : m_9 [.kl (ns.map D.int)]=some (.bl true):=by
 apply zhq;unfold b_9;generalize hSc : D.kl (ns.map D.int)=Sc;show wp _ [.im Sc,.no,.no,.no,.no,.no,.no,.no,.no,.no] _;apply zaf;refine ze4 (d:=.int 0) rfl ?_;show wp _ [.im Sc,.im (.int 0),.no,.no,.no,.no,.no,.no,.no,.no] _;refine zlo (fun ρ=>∃ many : Int,(0<=many/\many<=5)/\ρ=[.im Sc,.im (.int many),.no,.no,.no,.no,.no,.no,.no,.no]) ?_ ?_
 ·subst hSc;refine za2 (b:=decide ((ns.length : Int) > 0)) (zba (zas (zbi rfl (z4j ns D.int)) rfl zlv)) (fun e=>?_) fun e=>za5 (k_J ⟨0,by decide,rfl⟩);have hl : 0 < ns.length:=by have:=of_decide_eq_true e; omega
  have ea : atI (ns.map D.int) 0=some (.int ns[0]):=by
   unfold atI ixN;rw [if_pos (by decide),if_pos (by rw [length_map]; omega),bind_some,List.getElem?_map];show (ns[0]?).map D.int=_;rw [List.getElem?_eq_getElem hl];rfl
  have h1:=Int.emod_nonneg ns[0] (show (6 : Int)≠0 by decide);have h2:=Int.emod_lt_of_pos ns[0] (show (0 : Int) < 6 by decide);refine ze4 (d:=.int (ns[0] % 6)) (zas (zbf rfl rfl ea) rfl (zia (by decide))) (k_J ⟨ns[0] % 6,by omega,rfl⟩)
 ·rintro ρ ⟨many,hm,rfl⟩;obtain ⟨ss,hl,hss,es⟩:=yjy ns (many + 1) (by omega);rw [hSc] at es;apply zaf;refine ze4 (zbi (zaz rfl (zaz (zas rfl rfl zfh) rfl)) es) ?_
  cases ss with
  | nil=>rw [length_nil] at hl; omega
  | cons s ss =>
   rw [length_cons] at hl;generalize hsd : D.lst ((s::ss).map D.int)=sd;show wp _ [.im Sc,.im (.int many),.im sd,.no,.no,.no,.no,.no,.no,.no] _;apply zaf;refine zgy (d:=[.int s]) (by subst hsd; exact zaz (zbf rfl rfl (by unfold atI ixN; rw [if_pos (by decide),if_pos (by rw [length_map,length_cons]; omega)]; rfl)) rfl) ?_;apply zaf;refine zgy (d:=[]) rfl ?_;apply zaf;refine zgy (d:=[]) rfl ?_;show wp _ [.im Sc,.im (.int many),.im sd,.own [.int s],.own [],.own [],.no,.no,.no,.no] _;apply zaf
   have hsl : mSl (zab 2) (mPt (kI 1)) (fun _=>some none) [.im Sc,.im (.int many),.im sd,.own [.int s],.own [],.own [],.no,.no,.no,.no]=some (ss.map D.int):=by
    subst hsd;refine (zu1 (xs:=s::ss) rfl rfl rfl).trans ?_;show some ((((s::ss).drop (HT.sIx (s::ss).length 0 (some 1))).take _).map D.int)=_
    have e1 : HT.sIx (s::ss).length 0 (some 1)=1:=by
     unfold HT.sIx;simp
    have e2 : HT.sIx (s::ss).length (s::ss).length none=(s::ss).length:=rfl;rw [e1,e2,drop_succ_cons,drop_zero,length_cons,Nat.add_sub_cancel,take_length]
   refine zh5 ss D.int (fun pre ρ=>∃ s' Ls due a6 a7,okS s'/\zj6 pre.length Ls due/\ρ=[.im Sc,.im (.int many),.im sd,.own [.int s'],.own due,.own (Ls.map sT),a6,a7,.no,.no]) (zne (zjj hsl) rfl) ⟨s,[],[],.no,.no,hss s mem_cons_self,⟨(fun l hl=>by cases hl),rfl,by decide,by decide⟩,rfl⟩ ?_ ?_
   ·rintro pre s0 post ρ he ⟨s',Ls,due,a6,a7,o,hS,rfl⟩;refine ⟨[.im Sc,.im (.int many),.im sd,.own [.int s'],.own due,.own (Ls.map sT),.im (.int s0),a7,.no,.no],rfl,?_⟩
    have hpl : pre.length < 5:=by
     have:=congrArg List.length he;rw [length_append,length_cons] at this;omega
    refine yki Sc many sd pre.length s' s0 o (hss s0 (mem_cons_of_mem _ (by rw [he]; simp))) hS hpl a7 _ fun s1 Ls' due' a7' o1 hS1=>?_;exact ⟨s1,Ls',due',_,a7',o1,by rw [length_append,length_singleton]; exact hS1,rfl⟩
   ·rintro ρ ⟨s',Ls,due,a6,a7,o,hS,rfl⟩;exact yk9 Sc many sd ss.length s' o hS (by omega) a6 a7
def sp_law (K:W.Frag) : Sp:=fun vs H Q _=>∃ (a:Addr) (ns:List Int),vs=[.ref a]/\SqL K H a (ns.map V.int)/\ns.length<=63/\∀ H',Q (.bl true) H'
variable {K:W.Frag}
theorem sp_law_of {H:Hp} {a:Addr} {ns:List Int} {E:XK} (hl:ns.length<=63) (hS:SqL K H a (ns.map V.int)) : sp_law K [.ref a] H (fun v _=>v=.bl true) E:=⟨a,ns,rfl,hS,hl,fun _=>rfl⟩
variable {w:World}
theorem law_ok {a:Wa} (W:Wd K mg a) : zcn P w K mg base CX0 18 a.e_9.1 a.e_9.2 ["_law_script"] (sp_law K):=(yf3 W).ok.imp fun vs H Q E ⟨a,ns,ev,hS,hl,k⟩ =>
 ⟨H,[.kl (ns.map D.int)],.bl true,zav.refl _,⟨.ref a,[],ev,⟨a,_,rfl,hS,zan.ints ns⟩,rfl⟩,rfl,yd2 ns hl,fun v Hf' H' x r=>by rw [show v=V.bl true from r]; exact k H'⟩
variable {P:LVa->Prop}
theorem zsn (h:P []) : ∀ us : LVa,us.length=0->P us:=fun us e=>by
 rw [eq_nil_of_length_eq_zero e];exact h
theorem zmd (h:∀ a (us:LVa),us.length=n->P (a::us)) : ∀ us : LVa,us.length=n + 1->P us:=fun us e=>by
 cases us with
 | nil=>cases e
 | cons a us=>exact h a us (Nat.succ.inj e)
theorem yd5 (h:P []) : ∀ us : LVa,us.length=0->P us:=zsn (h)
theorem z4i (h:∀ a0 : Value,P [a0]) : ∀ us : LVa,us.length=1->P us:=zmd (P:=fun us=>P (us)) fun a0=>zsn (h a0)
theorem yd6 (h:∀ a0 a1 : Value,P [a0,a1]) : ∀ us : LVa,us.length=2->P us:=zmd (P:=fun us=>P (us)) fun a0=>zmd (P:=fun us=>P (a0::us)) fun a1=>zsn (h a0 a1)
theorem yd7 (h:∀ a0 a1 a2 : Value,P [a0,a1,a2]) : ∀ us : LVa,us.length=3->P us:=zmd (P:=fun us=>P (us)) fun a0=>zmd (P:=fun us=>P (a0::us)) fun a1=>zmd (P:=fun us=>P (a0::a1::us)) fun a2=>zsn (h a0 a1 a2)
local macro_rules | `(tactic| walk_at "bd")=>`(tactic| exact fun _ _ _ _ _ _=>by first | exact yd5 rfl | exact z4i fun _=>rfl | exact yd6 fun _ _=>rfl | exact yd7 fun _ _ _=>rfl)
set_option autoImplicit true in
theorem all_mk {h:Heap} {fd_15 fd_31 fd_54 fd_55 fd_44 fd_2 fd_1 fd_32 fd_0 fd_36 fd_25 fd_37 fd_20 fd_40 fd_18 fd_38 fd_23 fd_56 fd_45 fd_26 fd_33 fd_46 fd_59 fd_21 fd_19 fd_29 fd_24 fd_57 fd_34 fd_39 fd_27 fd_14 fd_41 fd_47 fd_9 fd_61 fd_10 fd_17 fd_6 fd_22 fd_16 fd_4 fd_42 fd_11 fd_3 fd_12 fd_48 fd_30 fd_35 fd_5 fd_60 fd_7 fd_8 fd_13 fd_49 fd_43 fd_50 fd_51 fd_58 fd_28 fd_52 fd_53:FuncData} {f_KEPT n_KEPT:Nat} {t_KEPT0 t_KEPT1 t_KEPT2 t_KEPT3 t_KEPT4 t_KEPT5 t_KEPT6 t_KEPT7 t_KEPT8 t_KEPT9 t_KEPT10 t_KEPT11 t_KEPT12 t_KEPT13 t_KEPT14 t_KEPT15:Tok} {t_SMALL t_GREAT t_FIGURES t_LONE:Tok} {fa:Addr} (X:K.In h) (G:h.Ns mainGlobals mg) (hfa:mg "law"=some (.ref fa))
  (aC_Reader:W.nsIn K mainGlobals "Reader"=some (some (.ref C_Reader)))
  (aC_BadName:W.nsIn K mainGlobals "BadName"=some (some (.ref C_BadName)))
  (aC_NoRow:W.nsIn K mainGlobals "NoRow"=some (some (.ref C_NoRow)))
  (aC_NoThing:W.nsIn K mainGlobals "NoThing"=some (some (.ref C_NoThing)))
  (aC_StillError:W.nsIn K mainGlobals "StillError"=some (some (.ref C_StillError)))
  (aC_Wide:W.nsIn K mainGlobals "Wide"=some (some (.ref C_Wide)))
  (q_15:Dq K "words_of" zy4 f_15 fd_15)
  (q_31:Dq K "is_made_of" zzk f_31 fd_31)
  (q_54:Dq K "is_name" zz7 f_54 fd_54)
  (q_55:Dq K "is_variable" zz8 f_55 fd_55)
  (q_44:Dq K "is_number" zzx f_44 fd_44)
  (q_2:Dq K "read" s_2 f_2 fd_2)
  (q_1:Dq K "read_row" s_1 f_1 fd_1)
  (q_32:Dq K "at_most" zzl f_32 fd_32)
  (q_0:Dq K "_law_next" s_0 f_0 fd_0)
  (q_36:Dq K "_law_seeds" zzp f_36 fd_36)
  (q_25:Dq K "_law_small" zze f_25 fd_25)
  (q_37:Dq K "_law_kept" zzq f_37 fd_37)
  (q_20:Dq K "_law_name" zy9 f_20 fd_20)
  (q_40:Dq K "_law_variable" zzt f_40 fd_40)
  (q_18:Dq K "_law_number" zy7 f_18 fd_18)
  (q_38:Dq K "_law_arg" zzr f_38 fd_38)
  (q_23:Dq K "_law_thing" zzc f_23 fd_23)
  (q_56:Dq K "_law_item" zz9 f_56 fd_56)
  (q_45:Dq K "_law_items" zzy f_45 fd_45)
  (q_26:Dq K "_law_pairs" zzf f_26 fd_26)
  (q_33:Dq K "_law_count" zzm f_33 fd_33)
  (q_46:Dq K "_law_part" zzz f_46 fd_46)
  (q_59:Dq K "_law_body" z0c f_59 fd_59)
  (q_21:Dq K "_law_row" zza f_21 fd_21)
  (q_19:Dq K "_law_thing_words" zy8 f_19 fd_19)
  (q_29:Dq K "_law_items_words" zzi f_29 fd_29)
  (q_24:Dq K "_law_pairs_words" zzd f_24 fd_24)
  (q_57:Dq K "_law_part_words" z0a f_57 fd_57)
  (q_34:Dq K "_law_body_words" zzn f_34 fd_34)
  (q_39:Dq K "_law_words" zzs f_39 fd_39)
  (q_27:Dq K "_law_line" zzg f_27 fd_27)
  (q_14:Dq K "_law_same" zy3 f_14 fd_14)
  (q_41:Dq K "_law_bad" zzu f_41 fd_41)
  (q_47:Dq K "_law_refused" zz0 f_47 fd_47)
  (q_9:Dq K "law" s_9 f_9 fd_9)
  (q_61:Dp K C_Reader "__init__" "Reader.__init__" z0e f_61 fd_61)
  (q_10:Dp K C_Reader "coming" "Reader.coming" zyz f_10 fd_10)
  (q_17:Dp K C_Reader "take" "Reader.take" zy6 f_17 fd_17)
  (q_6:Dp K C_Reader "passes" "Reader.passes" s_6 f_6 fd_6)
  (q_22:Dp K C_Reader "must_pass" "Reader.must_pass" zzb f_22 fd_22)
  (q_16:Dp K C_Reader "must_end" "Reader.must_end" zy5 f_16 fd_16)
  (q_4:Dp K C_Reader "read_form" "Reader.read_form" s_4 f_4 fd_4)
  (q_42:Dp K C_Reader "read_choose" "Reader.read_choose" zzv f_42 fd_42)
  (q_11:Dp K C_Reader "read_never" "Reader.read_never" zy0 f_11 fd_11)
  (q_3:Dp K C_Reader "read_name" "Reader.read_name" s_3 f_3 fd_3)
  (q_12:Dp K C_Reader "read_names" "Reader.read_names" zy1 f_12 fd_12)
  (q_48:Dp K C_Reader "read_variable" "Reader.read_variable" zz1 f_48 fd_48)
  (q_30:Dp K C_Reader "read_number" "Reader.read_number" zzj f_30 fd_30)
  (q_35:Dp K C_Reader "read_arg" "Reader.read_arg" zzo f_35 fd_35)
  (q_5:Dp K C_Reader "read_thing" "Reader.read_thing" s_5 f_5 fd_5)
  (q_60:Dp K C_Reader "read_args" "Reader.read_args" z0d f_60 fd_60)
  (q_7:Dp K C_Reader "read_if" "Reader.read_if" s_7 f_7 fd_7)
  (q_8:Dp K C_Reader "read_body" "Reader.read_body" s_8 f_8 fd_8)
  (q_13:Dp K C_Reader "read_part" "Reader.read_part" zy2 f_13 fd_13)
  (q_49:Dp K C_Reader "read_unlike" "Reader.read_unlike" zz2 f_49 fd_49)
  (q_43:Dp K C_Reader "read_count" "Reader.read_count" zzw f_43 fd_43)
  (q_50:Dp K C_Reader "read_items" "Reader.read_items" zz3 f_50 fd_50)
  (q_51:Dp K C_Reader "read_item" "Reader.read_item" zz4 f_51 fd_51)
  (q_58:Dp K C_Reader "read_over" "Reader.read_over" z0b f_58 fd_58)
  (q_28:Dp K C_Reader "read_for" "Reader.read_for" zzh f_28 fd_28)
  (q_52:Dp K C_Reader "read_pairs" "Reader.read_pairs" zz5 f_52 fd_52)
  (q_53:Dp K C_Reader "read_pair" "Reader.read_pair" zz6 f_53 fd_53)
  (pg_Reader:W.plainGet K C_Reader Str.empty=true)
  (hd_Reader:W.hasDictIn K C_Reader=true)
  (po_Reader:W.plainOver K C_Reader=true)
  (sa_Reader:W.findIn K (.ref C_Reader) "__setattr__"=some (some (.builtin "object.__setattr__")))
  (mk_Reader:W.makesIn K C_Reader=true)
  (kc_Reader:W.keepIn K (.ref C_Reader)=true)
  (na_Reader_words:W.findIn K (.ref C_Reader) "words"=some none)
  (na_Reader_place:W.findIn K (.ref C_Reader) "place"=some none)
  (x_NoRow:W.excIn K C_NoRow [.type "ValueError",.type "Exception",.type "BaseException",.type "object"] "ValueError.__new__"=true)
  (x_StillError:W.excIn K C_StillError [.type "ValueError",.type "Exception",.type "BaseException",.type "object"] "ValueError.__new__"=true)
  (gax:W.findIn K (.ref C_NoRow) "__getattribute__"=some (some (.builtin "BaseException.__getattribute__")))
  (hkx:W.findIn K (.ref C_NoRow) "__getattr__"=some none)
  (bxx:W.mroIn K C_NoRow (.type "BaseException")=some true)
  (clx:W.clsIn K C_NoRow=some cdx)
  (tAx:W.findIn K (.ref C_NoRow) "__class__"=some (some (.builtin "object.__class__")))
  (tMx:W.mroIn K C_NoRow (.type "object")=some true)
  (mr_StillError:W.mroIn K C_NoRow (.ref C_StillError)=some true)
  (ke_NoRow:W.kitOne K (.ref C_NoRow) (.ref C_NoRow)=some true)
  (kv_ValueError:W.kitOne K (.ref C_NoRow) (.type "ValueError")=some true)
  (km_BadName_Wide_NoThing:W.kitAny K (.ref C_NoRow) [.ref C_BadName,.ref C_Wide,.ref C_NoThing]=some false)
  (tG:W.specialIn K (.builtin "object.__class__") "__get__"=some (some (.builtin "getset_descriptor.__get__")))
  (tK:W.takesIn K (.builtin "object.__class__")=some true)
  (tA_Reader:W.findIn K (.ref C_Reader) "__class__"=some (some (.builtin "object.__class__")))
  (tM_Reader:W.mroIn K C_Reader (.type "object")=some true)
  (a_KEPT:W.nsIn K mainGlobals "KEPT"=some (some (.ref f_KEPT)))
  (l_KEPT:K.lookup f_KEPT=some ⟨.type "tuple",od_KEPT,.seq #[.str "kind" t_KEPT0,.str "rule" t_KEPT1,.str "may" t_KEPT2,.str "choose" t_KEPT3,.str "never" t_KEPT4,.str "if" t_KEPT5,.str "and" t_KEPT6,.str "not" t_KEPT7,.str "unlike" t_KEPT8,.str "least" t_KEPT9,.str "most" t_KEPT10,.str "of" t_KEPT11,.str "to" t_KEPT12,.str "over" t_KEPT13,.str "in" t_KEPT14,.str "for" t_KEPT15] n_KEPT,sl_KEPT⟩)
  (a_SMALL:W.nsIn K mainGlobals "SMALL"=some (some (.str "abcdefghijklmnopqrstuvwxyz" t_SMALL)))
  (a_GREAT:W.nsIn K mainGlobals "GREAT"=some (some (.str "ABCDEFGHIJKLMNOPQRSTUVWXYZ" t_GREAT)))
  (a_FIGURES:W.nsIn K mainGlobals "FIGURES"=some (some (.str "0123456789" t_FIGURES)))
  (a_LONE:W.nsIn K mainGlobals "LONE"=some (some (.str "()," t_LONE)))
  (z_ValueError:W.nsIn K mainGlobals "ValueError"=some none)
  (z_abs:W.nsIn K mainGlobals "abs"=some none)
  (z_all:W.nsIn K mainGlobals "all"=some none)
  (z_bool:W.nsIn K mainGlobals "bool"=some none)
  (z_enumerate:W.nsIn K mainGlobals "enumerate"=some none)
  (z_int:W.nsIn K mainGlobals "int"=some none)
  (z_isinstance:W.nsIn K mainGlobals "isinstance"=some none)
  (z_len:W.nsIn K mainGlobals "len"=some none)
  (z_list:W.nsIn K mainGlobals "list"=some none)
  (z_max:W.nsIn K mainGlobals "max"=some none)
  (z_range:W.nsIn K mainGlobals "range"=some none)
  (z_str:W.nsIn K mainGlobals "str"=some none)
  (z_tuple:W.nsIn K mainGlobals "tuple"=some none)
  (is_bool:zg0 K "bool")
  (is_int:zg0 K "int")
  (is_list:zg0 K "list")
  (is_str:zg0 K "str")
  (is_tuple:zg0 K "tuple")
  : ∃ a : Wa,∃ W : Wd K mg a,a.e_9.1=fa/\∀ (s:Shared) (v:Value),BindsTo s a.e_9.2 ⟨[v],[]⟩ [("_law_script",v)]:=by
 have e:=hfa.symm.trans (W.mg_of X G q_9.a);cases e;have hc : ∃ cl : Str->Addr,C_Reader=cl "Reader":=⟨fun s=>if s="Reader" then C_Reader else 0,by dsimp only; rw [if_pos rfl]⟩;obtain ⟨cl,rfl⟩:=hc
 exact ⟨{
  e_15:=(f_15,fd_15),e_31:=(f_31,fd_31),e_54:=(f_54,fd_54),e_55:=(f_55,fd_55),e_44:=(f_44,fd_44),e_2:=(f_2,fd_2),e_1:=(f_1,fd_1),e_32:=(f_32,fd_32),e_0:=(f_0,fd_0),e_36:=(f_36,fd_36),e_25:=(f_25,fd_25),e_37:=(f_37,fd_37),e_20:=(f_20,fd_20),e_40:=(f_40,fd_40),e_18:=(f_18,fd_18),e_38:=(f_38,fd_38),e_23:=(f_23,fd_23),e_56:=(f_56,fd_56),e_45:=(f_45,fd_45),e_26:=(f_26,fd_26),e_33:=(f_33,fd_33),e_46:=(f_46,fd_46),e_59:=(f_59,fd_59),e_21:=(f_21,fd_21),e_19:=(f_19,fd_19),e_29:=(f_29,fd_29),e_24:=(f_24,fd_24),e_57:=(f_57,fd_57),e_34:=(f_34,fd_34),e_39:=(f_39,fd_39),e_27:=(f_27,fd_27),e_14:=(f_14,fd_14),e_41:=(f_41,fd_41),e_47:=(f_47,fd_47),e_9:=(f_9,fd_9),e_61:=(f_61,fd_61),e_10:=(f_10,fd_10),e_17:=(f_17,fd_17),e_6:=(f_6,fd_6),e_22:=(f_22,fd_22),e_16:=(f_16,fd_16),e_4:=(f_4,fd_4),e_42:=(f_42,fd_42),e_11:=(f_11,fd_11),e_3:=(f_3,fd_3),e_12:=(f_12,fd_12),e_48:=(f_48,fd_48),e_30:=(f_30,fd_30),e_35:=(f_35,fd_35),e_5:=(f_5,fd_5),e_60:=(f_60,fd_60),e_7:=(f_7,fd_7),e_8:=(f_8,fd_8),e_13:=(f_13,fd_13),e_49:=(f_49,fd_49),e_43:=(f_43,fd_43),e_50:=(f_50,fd_50),e_51:=(f_51,fd_51),e_58:=(f_58,fd_58),e_28:=(f_28,fd_28),e_52:=(f_52,fd_52),e_53:=(f_53,fd_53),cl:=cl,C_BadName:=C_BadName,C_NoRow:=C_NoRow,C_NoThing:=C_NoThing,C_StillError:=C_StillError,C_Wide:=C_Wide },{
  g_Reader:=W.mg_of X G aC_Reader,
  cl_Reader:=⟨pg_Reader,hd_Reader,po_Reader,sa_Reader⟩,
  mk_Reader:=⟨mk_Reader,q_61.a,q_61.i,kc_Reader⟩,
  na_Reader_words:=na_Reader_words,
  na_Reader_place:=na_Reader_place,
  g_BadName:=W.mg_of X G aC_BadName,
  g_NoRow:=W.mg_of X G aC_NoRow,
  g_NoThing:=W.mg_of X G aC_NoThing,
  g_StillError:=W.mg_of X G aC_StillError,
  g_Wide:=W.mg_of X G aC_Wide,
  x_NoRow:=x_NoRow,
  x_StillError:=x_StillError,
  ec_NoRow:=⟨gax,hkx,bxx,(by rw [clx]; rfl),tAx,tG,tK,tMx⟩,
  mr_StillError:=mr_StillError,
  ke_NoRow:=ke_NoRow,
  kv_ValueError:=kv_ValueError,
  km_BadName_Wide_NoThing:=km_BadName_Wide_NoThing,
  g_KEPT:=⟨_,_,_,_,W.mg_of X G a_KEPT,l_KEPT,rfl,rfl,(show 16<=sizeLine by decide),.cons ⟨_,rfl⟩ (.cons ⟨_,rfl⟩ (.cons ⟨_,rfl⟩ (.cons ⟨_,rfl⟩ (.cons ⟨_,rfl⟩ (.cons ⟨_,rfl⟩ (.cons ⟨_,rfl⟩ (.cons ⟨_,rfl⟩ (.cons ⟨_,rfl⟩ (.cons ⟨_,rfl⟩ (.cons ⟨_,rfl⟩ (.cons ⟨_,rfl⟩ (.cons ⟨_,rfl⟩ (.cons ⟨_,rfl⟩ (.cons ⟨_,rfl⟩ (.cons ⟨_,rfl⟩ (.nil))))))))))))))))⟩,
  g_SMALL:=⟨_,W.mg_of X G a_SMALL⟩,
  g_GREAT:=⟨_,W.mg_of X G a_GREAT⟩,
  g_FIGURES:=⟨_,W.mg_of X G a_FIGURES⟩,
  g_LONE:=⟨_,W.mg_of X G a_LONE⟩,
  z_ValueError:=W.mg_none_of X G z_ValueError,
  z_abs:=W.mg_none_of X G z_abs,
  z_all:=W.mg_none_of X G z_all,
  z_bool:=W.mg_none_of X G z_bool,
  z_enumerate:=W.mg_none_of X G z_enumerate,
  z_int:=W.mg_none_of X G z_int,
  z_isinstance:=W.mg_none_of X G z_isinstance,
  z_len:=W.mg_none_of X G z_len,
  z_list:=W.mg_none_of X G z_list,
  z_max:=W.mg_none_of X G z_max,
  z_range:=W.mg_none_of X G z_range,
  z_str:=W.mg_none_of X G z_str,
  z_tuple:=W.mg_none_of X G z_tuple,
  e_15:=q_15.mk2 X G,
  e_31:=q_31.mk2 X G,
  e_54:=q_54.mk2 X G,
  e_55:=q_55.mk2 X G,
  e_44:=q_44.mk2 X G,
  e_2:=q_2.mk2 X G,
  e_1:=q_1.mk2 X G,
  e_32:=q_32.mk2 X G,
  e_0:=q_0.mk2 X G,
  e_36:=q_36.mk2 X G,
  e_25:=q_25.mk2 X G,
  e_37:=q_37.mk2 X G,
  e_20:=q_20.mk2 X G,
  e_40:=q_40.mk2 X G,
  e_18:=q_18.mk2 X G,
  e_38:=q_38.mk2 X G,
  e_23:=q_23.mk2 X G,
  e_56:=q_56.mk2 X G,
  e_45:=q_45.mk2 X G,
  e_26:=q_26.mk2 X G,
  e_33:=q_33.mk2 X G,
  e_46:=q_46.mk2 X G,
  e_59:=q_59.mk2 X G,
  e_21:=q_21.mk2 X G,
  e_19:=q_19.mk2 X G,
  e_29:=q_29.mk2 X G,
  e_24:=q_24.mk2 X G,
  e_57:=q_57.mk2 X G,
  e_34:=q_34.mk2 X G,
  e_39:=q_39.mk2 X G,
  e_27:=q_27.mk2 X G,
  e_14:=q_14.mk2 X G,
  e_41:=q_41.mk2 X G,
  e_47:=q_47.mk2 X G,
  e_9:=q_9.mk2 X G,
  e_61:=q_61.mk2,
  e_10:=q_10.mk2,
  e_17:=q_17.mk2,
  e_6:=q_6.mk2,
  e_22:=q_22.mk2,
  e_16:=q_16.mk2,
  e_4:=q_4.mk2,
  e_42:=q_42.mk2,
  e_11:=q_11.mk2,
  e_3:=q_3.mk2,
  e_12:=q_12.mk2,
  e_48:=q_48.mk2,
  e_30:=q_30.mk2,
  e_35:=q_35.mk2,
  e_5:=q_5.mk2,
  e_60:=q_60.mk2,
  e_7:=q_7.mk2,
  e_8:=q_8.mk2,
  e_13:=q_13.mk2,
  e_49:=q_49.mk2,
  e_43:=q_43.mk2,
  e_50:=q_50.mk2,
  e_51:=q_51.mk2,
  e_58:=q_58.mk2,
  e_28:=q_28.mk2,
  e_52:=q_52.mk2,
  e_53:=q_53.mk2,
  is_bool:=is_bool,
  is_int:=is_int,
  is_list:=is_list,
  is_str:=is_str,
  is_tuple:=is_tuple },rfl,q_9.bt (fun _ _ _ _ _ _=>z4i fun _=>rfl)⟩
end N_k77
structure PySem.W.Fast:Prop where
 (te11047595091303004233 te11188672075362029738 te11340239910372911115 te13544770925393365389 te1372189487858572150 te14664164458930044897 te16770554379439969615 te16982847329507632384 te17875304415424671904 te2380814705744412257 te5742770356882532964 te7802727939222656917 te944500324269959189 te523823967670703111 te17696025096683203550 te4376875752950666306 te17440878504403422946 te18441051277600468007 te2387847923915981028 te6979936764407619561 te2002407108014406533 te14118782800590884301 te6036921657739665531 te12343026803449647856 te14854759146889941688 te1757087665924197170 te3487886459102731331 te8796463206435422882 te9902123103530737296 te18199703198585344283 te12009734894801507456 te1170445710345516839 te7923591891890070585 te15406913370464544151 te17984382109230573949 te9066658234427284907 te12965276538070707245 te1396754591759641060 te7494022523680487191 te11264389978407707826 te8637372689786194471 te5126822749981141770 te6760828370951772203 te4700072510612087937 te1796777685784459015 te16794592315956358223 te14776291625168707953 te9476368881418298567 te5594564352250483681 te13287065081357409120 te11144394549076344552 te3621997609052988806 te7108910292336493120 te7772203560768184925 te17311453395998514940 te9678114824148906987 te6413384636214353151 te8877781960458071648 te16196354368158971202 te17206517552955408153 te14472061599926206089 te5957220217430929513 te406955022861404213 te10830714862961849427 te2939270504253139040 te11900337649995092664 te15617010244179763660 te14826177494871181893 te16275424497210182036 te13625963452076290931 te8112104970194271787 te4796838912958663016 te8711894222485281550 te10998954551271233036 te13008971983724371586 te10209338747733406693 te12459378863571784756 te7767147608003840165 te17734638589493638186 te1606635482016946605 te10301010794800077733 te13967934196426853896 te6883706936314515022 te5004407289691268520 te10832003718753435253 te6331247994337030269 te14263255825875591576 te6890334441193652579 te258488200070725244 te9480016925437110696 te14538197963731287530 te10247480293867244992 te14830762922636777553 te6165515025598413073 te17388391063331915266 te7184673208771366594 te12182304681515638995 te14439557359328921774 te16504792211108805912 te3696786472455804687 te8814490158995830885 te1376114044679460194 te13300519371045142088 te48272808772126862 te4940225731627154846 te10351668403038430267 te14793048090027279379 te6438843731702202269 te17985628927553319159 te12692289967381008512 te15910496995098126748 te7219272417658062469 te12648847242597904258 te8362167196082419982 te3808814762455990654 te3054463170534400620 te16074814400923504447 te17607353092368815509 te17395226697671600512 te8802163370186719211 te7743607384872125011 te13548809064725081876 te1420095690319930146 te6216459836410460842 te11309878447155006847 te13218832601629357458 te4403094126732844218 te12337344012076484472 te395735030489614953 te4549911229142600985 te8265759160427260228 te8939529953932591837 te15766595971765452673 te17704730848989289892 te11383451864807829049 te6553221323212134008 te12672372273206336994 te8985373043383568153 te11468950396528587436 te1471975796418002905 te18352133737712552077 te18334781899615760222 te9943208097276972820 te5864557757618364033 te11192481458105802019 te8478420821104931017 te17314233507888552933 te16085061806569229312 te14936771053857423489 te12675333393229307567 te3621296270516527136 te10230907716110615269 te14543942891839576925 te18153649056435923174 te14888525764114427578 te14217292832833004046 te16608912636398957728 te17691016955320252255 te7237995968224894528 te12933166396125869906 te16608039153861819346 te390980776329783289 te15766772390211891734 te4168973629479187442 te5564382446930789334 te12757316896535363120 te15159770148318796157 te1375914644911143913 te9133810544912376441 te6173682631150675450 te13457862315856952366 te586010999179580933 te18362620485825742666:True)
open PySem PySem.W PyProof.Rows
set_option maxRecDepth 100000 in
set_option maxHeartbeats 0 in
theorem PySem.Challenge.cw_standstill_k77_texts_of_rows_holds : PySem.Challenge.rw_standstill_k77_texts_of_rows.Holds := by
 w_on; o_law; k_head; (case hw=>w_witness2)
 k_fill
 refine L2.walk_ofK (l:=PySem.Challenge.rw_standstill_k77_texts_of_rows) (n:=63) (k:=18) (x:="_law_script") (CX:=L2.CX0) (sp:=N_k77.sp_law) rfl (by decide) rfl ⟨rfl,by decide,by decide⟩ (fun w h Y=>PySem.W.kIn_of Y) ?F (fun _ _ a ns hl _ hS=>N_k77.sp_law_of hl hS) (fun _ _ _ _ z=>z)
 case F =>
  intro w mg fa h KX G hmg
  have TT : ∃ a : N_k77.Wa,∃ W : N_k77.Wd (L2.KOf KX) mg a,a.e_9.1=fa /\ ∀ (s:Shared) (v:Value),BindsTo s a.e_9.2 ⟨[v],[]⟩ [("_law_script",v)]:=by
   dsimp only [L2.KOf]
   refine' N_k77.all_mk KX G hmg ..
   all_goals first | k_is | kit_is | k_exc | exact ⟨by k_is,L2.fun_mk (by k_is) (by k_is) (by k_is)⟩ | exact ⟨by k_is,by k_is,L2.fun_mk (by k_is) (by k_is) (by k_is)⟩ | (intro t ht; simp only [List.mem_cons,List.not_mem_nil,or_false] at ht; rcases ht with rfl | rfl | rfl | rfl | rfl | rfl | rfl <;> kit_is) | skip
  obtain ⟨a,W,e1,hb⟩:=TT
  subst e1
  exact ⟨_,hb,fun base kb nb=>N_k77.law_ok W⟩
