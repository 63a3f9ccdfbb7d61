import PyProof.Rows.All
import Wide.All
import OpenK.AllK
import Wide.FinOn
import Lean
import PyProof.EqAt
import PyProof.EqKinds
import PyProof.TupleCall
import PyProof.NeKinds
import PySem.Challenge.RW_standstill_k82_bad_names
set_option Elab.async false
set_option genSizeOf false
set_option linter.all false
set_option compiler.extract_closed false
set_option bootstrap.genMatcherCode false
local macro_rules
|`(def $d:declId $b* :$t $v:declVal)=>`(theorem $d $b* :$t $v:declVal)
|`(abbrev $d:declId $s:optDeclSig $v:declVal)=>`(noncomputable def $d $s:optDeclSig $v:declVal)
set_option maxRecDepth 100000
open Array renaming length_toList->tL
open Bool renaming true->ac,false->ak,false_ne_true->cE,and_eq_true->cx,or_eq_true->fG,noConfusion->jS,eq_iff_iff->jT,or_eq_true_iff->pX,eq_false_iff->tM
open False renaming elim->iP
open ForInStep renaming yield->md
open Int renaming toNat_natCast->kX,eq_ofNat_of_zero_le->pY,emod_lt_of_pos->tN
open List renaming mem_singleton->aU,length_append->bh,getElem?_eq_some_iff->dh,length_map->aW,mem_cons_self->bP,not_mem_nil->bJ,getElem?_eq_getElem->eM,mem_cons_of_mem->cF,length_cons->b9,getElem?_set_ne->eN,mem_append->bV,getElem?_set_self->fH,mem_cons->bG,getElem?_map->fm,map_append->cK,append_nil->cV,length_pos_iff->eX,length_singleton->fS,getD_eq_getElem?_getD->ij,range->di,length_range->eD,mem_append_right->gH,length_take->eY,getElem?_append_right->me,lookup_cons->fT,take_of_length_le->jl,mem_append_left->iQ,length_drop->gi,length->g6,getElem?_append_left->nN,nodup_cons->gj,length_replicate->jU,length_set->gk,append_assoc->ik,drop_eq_nil_of_le->kZ,getElem_mem->mf,filterMap_cons->k6,nodup_nil->g7,replicate->mh,map_cons->gI,length_nil->jm,mem_map->gJ,getElem?_replicate->tO,all_cons->iR,length_eq_zero_iff->pZ,getElem?_cons_succ->tP,ext_getElem?->mi,nodup_append->mj,drop_of_length_le->p5,getElem?_eq_none->tQ,take_append_drop->p6,mem_of_getElem?->p7,nodup_iff_pairwise_ne->tS,mem_of_mem_take->p8,getElem_inj->tT,mem_range->ml,any_cons->k7
open List.Nodup renaming length_le_of_subset->xm
open Nat renaming le_refl->bC,lt_of_lt_of_le->fI,le_trans->dq,ne_of_lt->dC,le_of_ble_eq_true->k8,zero_le->gl,min_eq_left->jV,le_of_lt->iS,lt_irrefl->jn,le_add_right->k9,min_eq_right->mm,ne_of_gt->nO,lt_or_ge->p9,le_of_not_lt->tU
open Ne renaming symm->eE
open Option renaming some->aa,none->ae,bind_some->aJ,bind_eq_some_iff->fo,map_eq_some_iff->lb
open Option.some renaming inj->cs
open Or renaming inr->bp,inl->bS
open PyProof.Rows renaming callWith_type1->mn,callWith_builtin1->xo,envOfC->gm,AllBare->iT,boot_isinstance->qb,boot_list->mo
open PySem renaming starEach->aX,boot_len->cC,Shared->aM,wpAny_bind->bW,mainGlobals->cu,sizeLine->bE,wpAny_pure->c6,sizeLine_eq->dD,foldedSetIterable->gK,compareOp->du,wpAny_mono->e7,bootBuiltins->gL,swapsWith->fJ,wpAny_Call_Name_kw->lc,Program->dJ,assignEach->gM,wpAny_holding->jo,binaryOp->fq,FuncData->fu,wpAny_truthy_bool->mq,NameKind->fU,mem_of_lookup->nP,Builtin->BG,Around->dE,behindInMarks->lh,wpAny_getItem_str_slice->qc,backTo->eG,Spec->Ig,wpAny_passesOwn->nQ,sliceBounds->li,holding->il,codeAny->iU,codeAny_mono->nR,post_val_or_str->qd,codeAny_builtin->qe,codeAny_call_builtin->tV,assign->io,swapsWithSole->qf,swappedStores->qg
open PySem.Around renaming in1_units->tW
open PySem.Builtin.Int renaming intBits->qh
open PySem.Builtin.List renaming listFitsIndex->xp,listTooLong->xq
open PySem.Builtin.Str renaming strSliceIndices->tX
open PySem.Calls renaming spliced_cons->qi
open PySem.F renaming plainAttrs_list->eO,slot_list_append->gn,type_list_append->gq,slot_list_insert->qj,type_list_insert->qk,called_set->jW,excBase_ValueError->tY
open PySem.Heap renaming get?_push_of_some->eH,lt_size->cb,get?_push_size->fV,size_push->qm,FlyingW->qo
open PySem.Heap.IsSliceOf renaming new->xr
open PySem.NameKind renaming free->fw,cell->lj
open PySem.PassesOwn renaming never->fK,leaving->qp
open PySem.SeqAt renaming EqAt->c7
open PySem.SeqAt.EqAt renaming same->tZ
open PySem.Str renaming empty->ln
open PySem.Txt renaming slice->gN,slice_le->qq
open PySem.Value renaming bool->lq,ref->jq
open PySem.W renaming Frag->bu,mg_none_of->fL,kia_one->gO,nsIn->dw,hideAll_none->mr,kitOne->ip,hideAll_get->nS,findIn->jr,mroIn->iq,mg_of->jt,hideAll->ms
open True renaming intro->nU
nonrec abbrev PRS:=PySem.Value->PySem.Shared->Prop
nonrec abbrev MGT:=PySem.Str->Option PySem.Value
nonrec abbrev PNS:=List (PySem.Addr×PySem.Obj)
nonrec abbrev LN:=List Nat
nonrec abbrev L2N:=List LN
nonrec abbrev LSt:=List PySem.Str
nonrec abbrev LVa:=List PySem.Value
nonrec abbrev LAd:=List PySem.Addr
nonrec abbrev LEx:=List PySem.Expr
namespace L2
open List
open PySem PySem.Spec PyProof.Rows
@[reducible]noncomputable def Key:=Sum Int Str
abbrev xt:Key->Value->Bool
 |.inl k,v=>Value.isInt k v
 |.inr x,v=>Value.isStrOf x v
abbrev BH(w:World):Key->Int
 |.inl k=>hashInt k
 |.inr x=>hashStr w x
def ju:∀{k:Key} {v:Value},xt k v=ac->(∃i t,k=Sum.inl i/\v=Value.int i t)\/(∃x t,k=Sum.inr x/\v=Value.str x t)
 |.inl i,v,h=>by
  obtain⟨t,e⟩:=Value.isInt_shape h
  exact .inl ⟨i,t,rfl,e⟩
 |.inr x,v,h=>by
  obtain⟨t,e⟩:=Value.isStrOf_shape h;exact .inr ⟨x,t,rfl,e⟩
def BI(a b:Int):decide ((Sum.inl a:Key)=Sum.inl b)=(a==b):=by
 by_cases e:a=b
 .subst e;simp
 .have h:¬(Sum.inl a:Key)=Sum.inl b:=λq=>e (Sum.inl.inj q);rw[decide_eq_false h];exact(beq_eq_false_iff_ne.mpr e).symm
def BJ(a b:Str):decide ((Sum.inr a:Key)=Sum.inr b)=decide (a=b):=by
 by_cases e:a=b
 .subst e;simp
 .have h:¬(Sum.inr a:Key)=Sum.inr b:=λq=>e (Sum.inr.inj q);rw[decide_eq_false h,decide_eq_false e]
def BK(a:Int)(b:Str):decide ((Sum.inl a:Key)=Sum.inr b)=ak:=decide_eq_false (λq=>nomatch q)
def BL(a:Str)(b:Int):decide ((Sum.inr a:Key)=Sum.inl b)=ak:=decide_eq_false (λq=>nomatch q)
abbrev ua(prog:dJ)(w:World):PySem.KeyKind prog w Key where
 is:=xt
 hash:=BH w
 inj:=λv a b ha hb=>by
  rcases ju ha with⟨i,t,rfl,rfl⟩ |⟨x,t,rfl,rfl⟩
  .rcases ju hb with⟨j,u,rfl,e⟩ |⟨y,u,rfl,e⟩
   .injection e with e1 _;rw[e1]
   .exact nomatch e
  .rcases ju hb with⟨j,u,rfl,e⟩ |⟨y,u,rfl,e⟩
   .exact nomatch e
   .injection e with e1 _;rw[e1]
 byValue:=λk v h=>by
  rcases ju h with⟨i,t,rfl,rfl⟩ |⟨x,t,rfl,rfl⟩ <;> rfl
 pyHash:=λhv h=>by
  rcases ju hv with⟨i,t,rfl,rfl⟩ |⟨x,t,rfl,rfl⟩
  .exact wpAny_pyHash_int h
  .exact wpAny_pyHash_str h
 eqBool:=λhu hv h=>by
  rcases ju hu with⟨i,t,rfl,rfl⟩ |⟨x,t,rfl,rfl⟩
  .rcases ju hv with⟨j,u,rfl,rfl⟩ |⟨y,u,rfl,rfl⟩
   .rw[BI]at h;exact wpAny_eqBool_int h
   .rw[BK]at h;exact c7.int_str i t y u _ _ _ _ h
  .rcases ju hv with⟨j,u,rfl,rfl⟩ |⟨y,u,rfl,rfl⟩
   .rw[BL]at h;exact c7.str_int x t j u _ _ _ _ h
   .rw[BJ]at h;exact wpAny_eqBool_str h
 «strs»:=λk x t v h=>by
  rcases ju h with⟨i,u,rfl,e⟩ |⟨y,u,rfl,e⟩
  .exact nomatch e
  .injection e with e1 _
   subst e1
   cases v <;> rfl
inductive V where
 |non |bl (b:Bool) |int (i:Int) |str (x:Str) |byt (b:Array UInt8) |flt (b:UInt64) |ref (a:Addr) |ty (n:String)
 deriving DecidableEq
abbrev bj:V->Value->Prop
 |.non,u=>u=Value.none
 |.bl b,u=>u=lq b
 |.int i,u=>∃t,u=Value.int i t
 |.str x,u=>∃t,u=Value.str x t
 |.byt b,u=>∃t,u=Value.bytes b t
 |.flt b,u=>∃t,u=Value.float b t
 |.ref a,u=>u=jq a
 |.ty n,u=>u=Value.type n
nonrec abbrev aY:List V->LVa->Prop:=Paired bj
variable{xs:List V}{us:LVa}
def aY.length(r:aY xs us):xs.length=us.length:=Paired.length r
def aY.get:∀{xs:List V} {us:LVa} {i:Nat} {x:V},aY xs us->xs[i]?=aa x->∃u,us[i]?=aa u/\bj x u
 | _,_,_,_,.nil,e=>by simp at e
 | _,_,0,_,.cons r _,e=>by simp at e;subst e;exact⟨_,rfl,r⟩
 | _,_,i+1,x,.cons _ t,e=>by
  obtain⟨u,a,b⟩:=aY.get t (by simpa using e);exact⟨u,by simpa using a,b⟩
def aY.set{x:V}{u:Value}(r:bj x u):∀{xs:List V} {us:LVa} (i:Nat),aY xs us->aY (xs.set i x) (us.set i u)
 | _,_,_,.nil=>.nil
 | _,_,0,.cons _ t=>.cons r t
 | _,_,i+1,.cons q t=>.cons q (aY.set r i t)
def aY.append:∀{xs b:List V} {us a:LVa},aY xs us->aY b a->aY (xs++b) (us++a)
 | _,_,_,_,.nil,s=>s
 | _,_,_,_,.cons r t,s=>.cons r (aY.append t s)
def aY.take:∀{xs:List V} {us:LVa} (n:Nat),aY xs us->aY (xs.take n) (us.take n)
 | _,_,0,_=>.nil
 | _,_,_+1,.nil=>.nil
 | _,_,n+1,.cons r t=>.cons r (aY.take n t)
def aY.drop:∀{xs:List V} {us:LVa} (n:Nat),aY xs us->aY (xs.drop n) (us.drop n)
 | _,_,0,r=>r
 | _,_,_+1,.nil=>.nil
 | _,_,n+1,.cons _ t=>aY.drop n t
abbrev uc:Option V->Option Value->Prop
 |some v,aa u=>bj v u
 |none,ae=>True
 | _,_=>False
abbrev KV{a:Type}:List (a×V)->List (a×Value)->Prop:=Paired λ(p:a×V) (q:a×Value)=>p.1=q.1/\bj p.2 q.2
abbrev kV:Key->V
 |.inl i=>.int i
 |.inr x=>.str x
inductive HO where
 |lst (xs:List V)
 |tup (xs:List V)
 |dK (kvs:List (Key×V)) |dT (kvs:List (List Key×V))
 |set (S:Int->Bool) (n:Nat)
 |ins (C dx:Addr) (fs:List (Str×V))
 |own (x:Addr)
 |xd (fs:List (Str×V))
 |met (f x:Addr)
 |rng (lo hi:Int)
 |frz (o:Obj) (u:HO)
 |tbl (ps:Array Value)
 |ext (φ:Heap->Prop)
@[reducible]noncomputable def Hp:=Addr->Option HO
abbrev upd(H:Hp)(a:Addr)(o:HO):Hp:=λb=>if b=a then aa o else H b
variable{H:Hp}{a:Addr}{o:HO}
def bT:upd H a o a=aa o:=by unfold upd;rw[if_pos rfl]
variable{b:Addr}
def bH(h:b≠a):upd H a o b=H b:=by unfold upd;rw[if_neg h]
def g8(h:H a=aa o)(h':H b=ae):a≠b:=by
 intro e;subst e;rw[h]at h';cases h'
section
variable(P:dJ)(w:World)
abbrev fM(H:Hp)(h:Heap)(a:Addr):HO->Prop
 |.lst xs=>xs.length<=bE/\∃(its:LVa) (n:Nat),aY xs its/\h.get? a=aa {cls:=.type "list",data:=.seq its.toArray n}
 |.tup xs=>xs.length<=bE/\∃its:LVa,aY xs its/\IsTup h a its.toArray
 |.dK kvs=>kvs.length<=bE/\(a==sysModules)=ak/\∃vs,KV kvs vs/\h.DictOf (ua P w) a vs
 |.dT kvs=>kvs.length<=bE/\(a==sysModules)=ak/\∃xs:List (List Key×Addr×Value),
   Paired (λ(p:List Key×V) (q:List Key×Addr×Value)=>p.1=q.1/\H q.2.1=aa (.tup (p.1.map kV))/\bj p.2 q.2.2) kvs xs /\
   ∃o es e,h.get? a=aa o/\o.ExactDict/\o.data=.dict es e/\es.toList=xs.map (entryOfKey (tupleKind (ua P w)))/\(xs.map (·.1)).Nodup
 |.set S n=>h.SetOf (intKind P w) a S n
 |.ins C dx fs=>H dx=aa (.own a)/\fs.length<=1000/\dx≠a/\h.get? a=aa (W.instObj C dx) /\
   ∃mA,h.Ns1 dx mA/\(∀f,uc (fs.lookup f) (mA f))/\PySem.Within mA (fs.map (·.1))
 |.own _=>∃o,h.get? a=aa o
 |.xd fs=>∃mA,h.Ns1 a mA/\∀f,uc (fs.lookup f) (mA f)
 |.rng lo hi=>∃t u v,h.get? a=aa {cls:=.type "range",data:=.fields #[.int lo t,.int hi u,.int 1 v]}
 |.frz o u=>h.get? a=aa o/\fM H h a u
 |.tbl ps=>h.get? a=aa {cls:=.none,data:=.fields ps}
 |.met f x=>h.get? a=aa (W.methodObj (.ref f) (.ref x))
 |.ext φ=>φ h/\(∃o,h.get? a=aa o)/\∀c d:Heap,φ c->(∀o,c.get? a=aa o->d.get? a=aa o)->φ d
abbrev HOk(H:Hp)(h:Heap):Prop:=∀a o,H a=aa o->fM P w H h a o
end
variable{P:dJ}{w:World}{h:Heap}
def fM.lt(x:fM P w H h a o):a<h.objs.size:=by
 cases o with
 |lst xs=>obtain⟨_,_,_,_,e⟩:=x;exact cb e
 |tup xs=>obtain⟨_,_,_,p⟩:=x;exact p.lt
 |dK kvs=>obtain⟨_,_,_,_,o,_,_,e,_⟩:=x;exact cb e
 |dT kvs=>obtain⟨_,_,_,_,o,_,_,e,_⟩:=x;exact cb e
 |set S n=>obtain⟨o,_,_,_,e,_⟩:=x;exact cb e
 |ins C dx fs=>obtain⟨_,_,_,e,_⟩:=x;exact cb e
 |own y=>obtain⟨_,e⟩:=x;exact cb e
 |xd fs=>obtain⟨_,⟨_,_,_,e,_⟩,_⟩:=x;exact cb e
 |rng lo hi=>obtain⟨_,_,_,e⟩:=x;exact cb e
 |frz c u=>obtain⟨e,_⟩:=x;exact cb e
 |tbl ps=>exact cb (x)
 |met f y=>exact cb (x)
 |ext φ=>obtain⟨_,⟨_,e⟩,_⟩:=x;exact cb e
def Paired.mapP{d e:Type}{F G:d->e->Prop}:∀{l₁:List d} {c:List e},Paired F l₁ c->(∀a b,F a b->G a b)->Paired G l₁ c
 | _,_,.nil,_=>.nil
 | _,_,.cons r t,f=>.cons (f _ _ r) (Paired.mapP t f)
variable{H':Hp}{h':Heap}
def fM.stay(x:fM P w H h a o)(k:∀b u,(b=a\/H b=aa (.own a))->h.get? b=aa u->h'.get? b=aa u)
 (l:∀b,H b=aa (.own a)->H' b=aa (.own a))(m:∀b xs,H b=aa (.tup xs)->H' b=aa (.tup xs)):fM P w H' h' a o:=by
 induction o with
 |lst xs=>obtain⟨z,its,n,r,e⟩:=x;exact⟨z,its,n,r,k _ _ (.inl rfl) e⟩
 |tup xs=>obtain⟨z,its,r,g,e,c⟩:=x;exact⟨z,its,r,g,k _ _ (.inl rfl) e,c⟩
 |dK kvs=>obtain⟨z,y,vs,r,g,es,i,e,c⟩:=x;exact⟨z,y,vs,r,g,es,i,k _ _ (.inl rfl) e,c⟩
 |dT kvs=>
  obtain⟨z,y,xs,r,g,es,i,e,c⟩:=x
  exact⟨z,y,xs,Paired.mapP r λp q z=>⟨z.1,m _ _ z.2.1,z.2.2⟩,g,es,i,k _ _ (.inl rfl) e,c⟩
 |set S n=>obtain⟨g,es,i,t,e,c⟩:=x;exact⟨g,es,i,t,k _ _ (.inl rfl) e,c⟩
 |ins C dx fs=>
  obtain⟨d,z,ne,e,mA,⟨od,es,i,j,c⟩,r⟩:=x
  exact⟨l _ d,z,ne,k _ _ (.inl rfl) e,mA,⟨od,es,i,k _ _ (.inr d) j,c⟩,r⟩
 |own y=>obtain⟨g,e⟩:=x;exact⟨g,k _ _ (.inl rfl) e⟩
 |xd fs=>obtain⟨mA,⟨od,es,i,e,c⟩,r⟩:=x;exact⟨mA,⟨od,es,i,k _ _ (.inl rfl) e,c⟩,r⟩
 |rng lo hi=>obtain⟨t,u,v,e⟩:=x;exact⟨t,u,v,k _ _ (.inl rfl) e⟩
 |frz g u s=>obtain⟨e,q⟩:=x;exact⟨k _ _ (.inl rfl) e,s q⟩
 |tbl ps=>
  have e:=x
  exact k a _ (.inl rfl) e
 |met f y=>
  have e:=x
  exact k a _ (.inl rfl) e
 |ext φ=>obtain⟨p,⟨o,e⟩,st⟩:=x;exact⟨st _ _ p λo q=>k _ _ (.inl rfl) q,⟨o,k _ _ (.inl rfl) e⟩,st⟩
def HOk.lt(x:HOk P w H h)(e:H a=aa o):a<h.objs.size:=(x a o e).lt
def HOk.fresh(x:HOk P w H h)(e:h.objs.size<=a):H a=ae:=by
 cases q:H a with
 |none=>rfl
 |some u=>exact absurd (fI (x.lt q) e) (jn _)
def HOk.kept(x:HOk P w H h)(k:∀b u,h.get? b=aa u->h'.get? b=aa u):HOk P w H h':=λa o e=>
 (x a o e).stay (λb u _ q=>k b u q) (λ_ q=>q) λ_ _ q=>q
def HOk.laid(x:HOk P w H h)(k:∀b u,h.get? b=aa u->h'.get? b=aa u)(f:h.objs.size<=a)(new:fM P w (upd H a o) h' a o):HOk P w (upd H a o) h':=λb u e=>by
 have hn:=x.fresh f
 by_cases d:b=a
 .subst d;rw[bT]at e;cases e;exact new
 .rw[bH d]at e;exact(x b u e).stay (λc v _ q=>k c v q) (λc q=>by rw[bH (g8 q hn)];exact q) λc xs q=>by rw[bH (g8 q hn)];exact q
abbrev Rd(H:Hp)(a:Addr)(u:HO):Prop:=H a=aa u\/∃o,H a=aa (.frz o u)
def Rd.ok{u:HO}(r:Rd H a u)(x:HOk P w H h):fM P w H h a u:=by
 rcases r with r |⟨o,r⟩
 .exact x a u r
 .obtain⟨_,q⟩:=x a _ r;exact q
abbrev Mut:Option HO->Prop
 |some (.lst _)=>True
 |some (.dK _)=>True
 |some (.dT _)=>True
 |some (.set _ _)=>True
 |some (.ins _ _ _)=>True
 |some (.ext _)=>True
 | _=>False
variable{x e:Addr}{o':HO}
def HOk.write(ok:HOk P w H h)(l:Mut (H x))(n:e=x\/H e=aa (.own x))(k:∀b u,b≠e->h.get? b=aa u->h'.get? b=aa u)(m:∃u,h'.get? e=aa u)
 (new:fM P w (upd H x o') h' x o'):HOk P w (upd H x o') h':=λb u q=>by
 have f:∀c y,H c=aa (.own y)->c≠x:=λc y r z=>by subst z;rw[r]at l;exact l
 have g:∀c xs,H c=aa (.tup xs)->c≠x:=λc xs r z=>by subst z;rw[r]at l;exact l
 by_cases i:b=x
 .subst i;rw[bT]at q;cases q;exact new
 .rw[bH i]at q
  by_cases d:b=e
  .have p:H b=aa (.own x):=by
    rcases n with z |z
    .exact absurd (d.trans z) i
    .rw[d];exact z
   rw[q]at p;cases p;obtain⟨v,s⟩:=m;exact⟨v,by rw[d];exact s⟩
  .refine(ok b u q).stay (λc v j r=>k c v ?_ r) (λc r=>by rw[bH (f c b r)];exact r) λc xs r=>by rw[bH (g c xs r)];exact r
   rcases j with rfl |j
   .exact d
   .rintro rfl
    rcases n with z |z
    .exact f c b j z
    .rw[j]at z;cases z;exact i rfl
structure Un(fs ex:LAd)(H H':Hp)(h h':Heap):Prop where
 keep:∀b o,h.get? b=aa o->H b=ae->b∉fs->b∉ex->h'.get? b=aa o
 slot:∀b o,h.get? b=aa o->H b=ae->b∈fs->b∉ex->∃sl,h'.get? b=aa {o with slots:=sl}
 free:∀b o,h.get? b=aa o->H b=ae->b∉ex->H' b=ae
 there:∀b o,h.get? b=aa o->b∉ex->∃o',h'.get? b=aa o'
 tups:∀b xs,H b=aa (.tup xs)->H' b=aa (.tup xs)
 frzs:∀b o u,H b=aa (.frz o u)->H' b=aa (.frz o u)
 tbls:∀b ps,H b=aa (.tbl ps)->∃more,H' b=aa (.tbl (ps++more))
variable{ex:LAd}{H1:Hp}{h1:Heap}
def Un.any{fs:LAd}(u:Un fs ex H H1 h h1){c:Obj}(q:h.get? b=aa c)(n:H b=ae)(f:b∉ex):∃sl,h1.get? b=aa {c with slots:=sl}:=by
 by_cases d:b∈fs
 .exact u.slot b c q n d f
 .exact⟨c.slots,u.keep b c q n d f⟩
variable{H2:Hp}{h2:Heap}
def Un.trans{fs:LAd}(a:Un fs ex H H1 h h1)(b:Un fs ex H1 H2 h1 h2):Un fs ex H H2 h h2 where
 keep:=λc ob q n hc hx=>b.keep c ob (a.keep c ob q n hc hx) (a.free c ob q n hx) hc hx
 slot:=λc ob q n hc hx=>by
  obtain⟨sl,e1⟩:=a.slot c ob q n hc hx;obtain⟨sl',e2⟩:=b.slot c _ e1 (a.free c ob q n hx) hc hx;exact⟨sl',e2⟩
 free:=λc ob q n hx=>by
  obtain⟨o',e1⟩:=a.there c ob q hx;exact b.free c o' e1 (a.free c ob q n hx) hx
 there:=λc ob q hx=>by
  obtain⟨o',e1⟩:=a.there c ob q hx;exact b.there c o' e1 hx
 tups:=λc xs q=>b.tups c xs (a.tups c xs q)
 frzs:=λc ob xs q=>b.frzs c ob xs (a.frzs c ob xs q)
 tbls:=λc ps q=>by
  obtain⟨m1,e1⟩:=a.tbls c ps q;obtain⟨m2,e2⟩:=b.tbls c _ e1;exact⟨m1++m2,by rw[e2,Array.append_assoc]⟩
def Un.kept{fs:LAd}(k:∀b u,h.get? b=aa u->h'.get? b=aa u):Un fs ex H H h h':=
 ⟨λb c q _ _ _=>k b c q,λb c q _ _ _=>⟨c.slots,k b c q⟩,λ_ _ _ n _=>n,λb c q _=>⟨c,k b c q⟩,λ_ _ q=>q,λ_ _ _ q=>q,λ_ ps q=>⟨#[],by rw[q];simp⟩⟩
def Un.refl{fs:LAd}:Un fs ex H H h h:=Un.kept λ_ _ q=>q
def Un.laid{fs:LAd}(k:∀b u,h.get? b=aa u->h'.get? b=aa u)(hp:h.objs.size<=a)(hn:H a=ae):Un fs ex H (upd H a o) h h' where
 keep:=λb u q _ _ _=>k b u q
 slot:=λb u q _ _ _=>⟨u.slots,k b u q⟩
 free:=λb u q n _=>by rw[bH (dC (fI (cb q) hp))];exact n
 there:=λb u q _=>⟨u,k b u q⟩
 tups:=λb xs q=>by rw[bH (g8 q hn)];exact q
 frzs:=λb u xs q=>by rw[bH (g8 q hn)];exact q
 tbls:=λb ps q=>⟨#[],by rw[bH (g8 q hn),q];simp⟩
def Un.write{fs:LAd}(d:Mut (H x))(j:e=x\/H e=aa (.own x))(k:∀b u,b≠e->h.get? b=aa u->h'.get? b=aa u)(f:∃u,h'.get? e=aa u):Un fs ex H (upd H x o) h h':=by
 have i:∀b,H b=ae->b≠x:=λb n z=>by subst z;rw[n]at d;exact d
 have g:∀b,H b=ae->b≠e:=λb n z=>by
  subst z
  rcases j with r |r
  .exact i b n r
  .rw[n]at r;nomatch r
 have hm:∀b u,H b=aa u->¬Mut (aa u)->b≠x:=λb u q nm z=>by subst z;rw[q]at d;exact nm d
 refine⟨λb u q n _ _=>k b u (g b n) q,λb u q n _ _=>⟨u.slots,k b u (g b n) q⟩,λb u q n _=>by rw[bH (i b n)];exact n,λb u q _=>?_,
  λb xs q=>by rw[bH (hm b _ q λz=>z)];exact q,λb u xs q=>by rw[bH (hm b _ q λz=>z)];exact q,λb ps q=>⟨#[],by rw[bH (hm b _ q λz=>z),q];simp⟩⟩
 by_cases c:b=e
 .subst c;exact f
 .exact⟨u,k b u c q⟩
abbrev trk(h:Heap)(H:Hp):LAd:=(di h.objs.size).filter λa=>(H a).isSome
abbrev mv(h:Heap)(H:Hp):Heap:=ms h (trk h H)
def BM(h:Heap)(H:Hp):(mv h H).objs.size=h.objs.size:=W.hideAll_size _ _
variable{o:Obj}
def BN(e:h.get? b=aa o)(n:H b=ae):(mv h H).get? b=aa o:=
 nS _ e λhm=>by
  have q:=(mem_filter.mp hm).2;rw[n]at q;simp at q
def BO(e:(mv h H).get? b=aa o):h.get? b=aa o/\H b=ae:=by
 have c:=W.of_hideAll _ e;refine⟨c,?_⟩
 cases q:H b with
 |none=>rfl
 |some x=>
  have hm:b∈trk h H:=mem_filter.mpr ⟨ml.mpr (cb c),by simp[q]⟩;have z:(mv h H).get? b=ae:=mr _ hm;rw[z]at e;nomatch e
abbrev BP(g h:Heap)(L:Addr):PNS:=(di h.objs.size).filterMap λa=>if a=L\/(g.get? a).isSome=ac then ae else (h.get? a).map λo=>(a,o)
abbrev bv(g h:Heap)(L d:Addr):PNS:=(BP g h L).filter λp=>decide (p.1≠d)
structure Mod(K:bu)(mg:MGT)(base:Heap):Prop where
 kin:K.In base
 glob:base.Ns cu mg
 blt:∃mb,base.Ns builtinsNs mb/\∀x:Str,x ≠ "__name__" -> mb x=gL x
 nolimit:base.NoLimit
set_option genInjectivity false in
structure Cx where
 prog:dJ
 w:World
 K:bu
 mg:Str->Option Value
 base:Heap
 A:dE
 N:LSt
 s₀:aM
 H₀:Hp
 env:Env
 outer:List Env
 stack:List Env
 ex:LAd
 fn:Str->Bool
 calm:Bool
 pn:PNS
 xe:Value->aM->Prop
nonrec abbrev NDb(x:Str):=(x==("__debug__":Str))=ak
nonrec abbrev NCd(x:Str):=(x==("__classdict__":Str))=ak
nonrec abbrev StE(X:Cx)(e:Expr)(es:LEx):=aX (e::es) X.env=(ak,eval e X.env)::aX es X.env
nonrec abbrev BkE(X:Cx)(pos:Pos)(es:LEx):=(eG pos (aX es X.env)).any (·.1)=ak
nonrec abbrev LcF(X:Cx)(x:Str):=X.fn x=ac\/X.env.scope.names.lookup x=aa .local
abbrev frs(l:List Env):LAd:=l.filterMap (·.frame)
@[reducible]noncomputable def Cx.fs(X:Cx):LAd:=frs X.outer
abbrev Vis(sc:Scope)(x:Str):Prop:=sc.names.lookup x=aa .local\/sc.names.lookup x=aa .cell\/sc.names.lookup x=aa .free
abbrev Loc(sc:Scope)(x:Str):Prop:=sc.names.lookup x=aa .local\/sc.names.lookup x=aa .cell
abbrev xu(env:Env)(h:Heap)(m:MGT)(x:Str)(u:Value):Prop:=
 (env.kindOf x=aa .local/\m x=aa u)\/((env.kindOf x=aa .cell\/env.kindOf x=aa .free)/\∃c,env.cells.lookup x=aa c/\h.IsCell c (aa u))
structure Cx.Ok(X:Cx):Prop where
 mod:Mod X.K X.mg X.base
 kind:X.env.scope.kind=.function
 glob:X.env.globals=cu
 blt:X.env.builtins=builtinsNs
 above:X.s₀.heap.objs.size<=X.env.locals
 inj:∀x y c,X.env.cells.lookup x=aa c->X.env.cells.lookup y=aa c->x=y
 has:∀x,(X.env.kindOf x=aa .cell\/X.env.kindOf x=aa .free)->∃c,X.env.cells.lookup x=aa c
 cab:∀x c,X.fn x=ac->X.env.cells.lookup x=aa c->X.s₀.heap.objs.size<=c
 hd:X.calm=ac->X.A.handled=ae
 frames:X.A.frames=aa X.stack
 stk:X.stack=X.outer\/(X.stack=X.env::X.outer/\X.env.frame=aa X.env.locals)
 exf:∀b∈X.ex,b≠X.env.locals/\∀x c,X.env.cells.lookup x=aa c->c≠b
 bs:∀b o,X.base.get? b=aa o->X.s₀.heap.get? b=aa o/\X.H₀ b=ae
 bsz:X.base.objs.size<=X.s₀.heap.objs.size
 noex:∀b o,X.base.get? b=aa o->b∉X.ex
 exfs:∀b∈X.ex,b∉X.fs
 funs:X.s₀.heap.FunFrames X.base X.outer
 frf:∀b∈X.fs,X.H₀ b=ae
structure Inv(X:Cx)(pins:PNS)(σ:List (Option V))(H:Hp)(s:aM):Prop where
 ok:X.Ok
 os:s.os=X.s₀.os
 bare:iT s.gens
 base:Un X.fs X.ex X.H₀ H X.s₀.heap s.heap
 loc:∃m,s.heap.Ns X.env.locals m/\∀(i:Nat) (x:Str) (v:V),X.N[i]?=aa x->σ[i]?=aa (aa v)->Vis X.env.scope x->∃u,bj v u/\xu X.env s.heap m x u
 cell:∀x c,X.env.cells.lookup x=aa c->∃v,s.heap.IsCell c v
 free:H X.env.locals=ae
 freeC:∀x c,X.env.cells.lookup x=aa c->H c=ae
 pin:∀p∈X.pn++pins,s.heap.get? p.1=aa p.2/\H p.1=ae/\p.1≠X.env.locals/\p.1∉X.fs/\∀v,p.2.data≠.cell v
 hok:HOk X.prog X.w H s.heap
 len:σ.length=X.N.length
variable{X:Cx}
def Cx.Ok.nofr(ok:X.Ok)(e:X.base.get? b=aa o):b∉X.fs:=λc=>by
 have:=(ok.funs.mem c).1;rw[e]at this;nomatch this
variable{pins:PNS}{σ:List (Option V)}{s:aM}
def Inv.bs(I:Inv X pins σ H s):∀b o,X.base.get? b=aa o->s.heap.get? b=aa o/\H b=ae:=λb o e=>
 ⟨I.base.keep b o (I.ok.bs b o e).1 (I.ok.bs b o e).2 (I.ok.nofr e) (I.ok.noex b o e),I.base.free b o (I.ok.bs b o e).1 (I.ok.bs b o e).2 (I.ok.noex b o e)⟩
def Inv.bk(I:Inv X pins σ H s):∀b o,X.base.get? b=aa o->s.heap.get? b=aa o:=λb o e=>(I.bs b o e).1
def Inv.mod(I:Inv X pins σ H s):Mod X.K X.mg X.base:=I.ok.mod
def Inv.kIn(I:Inv X pins σ H s):X.K.In s.heap:=I.ok.mod.kin.keeps I.bk
def Inv.lt(I:Inv X pins σ H s):X.env.locals<s.heap.objs.size:=let ⟨_,hn,_⟩:=I.loc;hn.lt
def Inv.sz(I:Inv X pins σ H s):X.s₀.heap.objs.size<=s.heap.objs.size:=dq I.ok.above (iS I.lt)
def Inv.nofs(I:Inv X pins σ H s)(h:s.heap.objs.size<=a):a∉X.fs:=λc=>by
 obtain⟨_,o,d,_⟩:=I.ok.funs.mem c;exact absurd (fI (cb d) (dq I.sz h)) (jn _)
def Inv.cne(I:Inv X pins σ H s):∀x c,X.env.cells.lookup x=aa c->c≠X.env.locals:=λx c e z=>by
 obtain⟨v,o,g,hd⟩:=I.cell x c e;obtain⟨m,⟨o',es,i,f,d,_⟩,_⟩:=I.loc;rw[z,f]at g;cases g;rw[d]at hd;nomatch hd
def Inv.funs(I:Inv X pins σ H s):s.heap.FunFrames X.base X.outer:=by
 have all:∀l,(∀b∈frs l,b∈X.fs)->X.s₀.heap.FunFrames X.base l->s.heap.FunFrames X.base l:=by
  intro l
  induction l with
  |nil=>intro _ _;trivial
  |cons env r p=>
   intro g j;obtain⟨i,⟨L,o,f,hn,m,hd⟩,n⟩:=j;have c:=g L (by unfold frs;rw[k6,f];exact bP);obtain⟨sl,e⟩:=I.base.slot L o m (I.ok.frf L c) c λz=>I.ok.exfs L z c;exact⟨i,⟨L,_,f,hn,e,hd⟩,p (λb d=>g b (by unfold frs;rw[k6,f];exact cF _ d)) n⟩
 exact all X.outer (λ_ d=>d) I.ok.funs
def Inv.stack(I:Inv X pins σ H s):s.heap.FunFrames X.base X.stack:=by
 rcases I.ok.stk with e |⟨e,hf⟩
 .rw[e];exact I.funs
 .rw[e];obtain⟨m,hn,_⟩:=I.loc;exact .cons (by rw[I.ok.kind];decide) hf hn (Heap.get?_none_of_le (dq I.ok.bsz I.ok.above)) I.funs
def Inv.stkSub(I:Inv X pins σ H s):∀b∈frs X.stack,b∈X.env.locals::X.fs:=λb c=>by
 rcases I.ok.stk with e |⟨e,hf⟩
 .rw[e]at c;exact cF _ c
 .rw[e]at c;unfold frs at c;rw[k6,hf]at c;exact c
def Inv.stkFree(I:Inv X pins σ H s):∀b∈frs X.stack,H b=ae:=λb c=>by
 rcases bG.mp (I.stkSub b c)with e |c
 .rw[e];exact I.free
 .obtain⟨_,o,d,_⟩:=I.ok.funs.mem c;exact I.base.free b o d (I.ok.frf b c) λz=>I.ok.exfs b z c
variable{g':Array GenState}{t':Nat}{d':Drawn}{ch:LAd}
def Inv.step(I:Inv X pins σ H s)
 (j:∀b∈ch,(b∈X.ex\/X.s₀.heap.objs.size<=b)/\b≠X.env.locals/\(∀x c,X.env.cells.lookup x=aa c->c≠b)/\∀p∈X.pn++pins,p.1≠b)
 (keep:∀b o,b≠X.env.locals->b∉X.fs->b∉ch->s.heap.get? b=aa o->H b=ae->h'.get? b=aa o)
 (slot:∀b o,b≠X.env.locals->b∈X.fs->b∉ch->s.heap.get? b=aa o->H b=ae->∃sl,h'.get? b=aa {o with slots:=sl})(free:∀b o,b∉ch->s.heap.get? b=aa o->H b=ae->H' b=ae)
 (there:∀b o,b∉ch->s.heap.get? b=aa o->∃o',h'.get? b=aa o')
 (tups:∀b xs,H b=aa (.tup xs)->H' b=aa (.tup xs))(frzs:∀b o u,H b=aa (.frz o u)->H' b=aa (.frz o u))(tbls:∀b ps,H b=aa (.tbl ps)->∃more,H' b=aa (.tbl (ps++more)))
 (ns:∀m,s.heap.Ns X.env.locals m->h'.Ns X.env.locals m)(hok:HOk X.prog X.w H' h')(T:iT g'):
  Inv X pins σ H' {s with heap:=h',gens:=g',drawn:=d',toks:=t'}:=by
 have G:∀b o,X.s₀.heap.get? b=aa o->b≠X.env.locals:=λb o e=>dC (fI (cb e) I.ok.above)
 have A:∀b o,X.s₀.heap.get? b=aa o->b∉X.ex->b∉ch:=λb o e f B=>by
  rcases(j b B).1 with z |z
  .exact f z
  .exact absurd (fI (cb e) z) (jn _)
 have g:∀x c,X.env.cells.lookup x=aa c->∀v,s.heap.IsCell c v->h'.IsCell c v:=λx c e v Y=>by
  obtain⟨o,C,hd⟩:=Y;have t:=λz=>(j c z).2.2.1 x c e rfl
  by_cases L:c∈X.fs
  .obtain⟨sl,q⟩:=slot c o (I.cne x c e) L t C (I.freeC x c e);exact⟨_,q,hd⟩
  .exact⟨o,keep c o (I.cne x c e) L t C (I.freeC x c e),hd⟩
 refine⟨I.ok,I.os,T,⟨λb o e n B f=>(keep b o (G b o e) B (A b o e f) (I.base.keep b o e n B f) (I.base.free b o e n f)),λb o e n B f=>?_,λb o e n f=>?_,λb o e f=>?_,λb xs e=>tups b xs (I.base.tups b xs e),λb o xs e=>frzs b o xs (I.base.frzs b o xs e),λb ps e=>?_⟩,?_,λx c e=>?_,?_,λx c e=>?_,λp M=>?_,hok,I.len⟩
 .obtain⟨sl,y⟩:=I.base.slot b o e n B f;obtain⟨J,E⟩:=slot b _ (G b o e) B (A b o e f) y (I.base.free b o e n f);exact⟨J,E⟩
 .obtain⟨o',y⟩:=I.base.there b o e f;exact free b o' (A b o e f) y (I.base.free b o e n f)
 .obtain⟨o',y⟩:=I.base.there b o e f;exact there b o' (A b o e f) y
 .obtain⟨m1,y⟩:=I.base.tbls b ps e;obtain⟨m2,E⟩:=tbls b _ y;exact⟨m1++m2,by rw[E,Array.append_assoc]⟩
 .obtain⟨m,hn,U⟩:=I.loc;refine⟨m,ns m hn,λi x v y E Q=>?_⟩;obtain⟨u,r,l⟩:=U i x v y E Q;refine⟨u,r,?_⟩
  rcases l with l |⟨k,c,e,z⟩
  .exact .inl l
  .exact .inr ⟨k,c,e,g x c e _ z⟩
 .obtain⟨v,z⟩:=I.cell x c e;exact⟨v,g x c e v z⟩
 .obtain⟨m,⟨o,_,_,C,_⟩,_⟩:=I.loc;exact free _ o (λz=>(j _ z).2.1 rfl) C I.free
 .obtain⟨v,o,C,hd⟩:=I.cell x c e;exact free c o (λz=>(j c z).2.2.1 x c e rfl) C (I.freeC x c e)
 .obtain⟨e,n,ne,N,d⟩:=I.pin p M;have t:=λz=>(j p.1 z).2.2.2 p M rfl;exact⟨keep p.1 p.2 ne N t e n,free p.1 p.2 t e n,ne,N,d⟩
def Inv.un(I:Inv X pins σ H s)(u:Un X.fs [] H H' s.heap h')(hok:HOk X.prog X.w H' h'):Inv X pins σ H' {s with heap:=h',toks:=t'}:=by
 obtain⟨m,⟨o,es,p,i,r⟩,_⟩:=id I.loc;obtain⟨sl,j⟩:=u.any i I.free (by simp)
 exact I.step (ch:=[]) (λ_ z=>nomatch z) (λb o _ g _ e n=>u.keep b o e n g (by simp)) (λb o _ g _ e n=>u.slot b o e n g (by simp)) (λb o _ e n=>u.free b o e n (by simp)) (λb o _ e=>u.there b o e (by simp)) u.tups u.frzs u.tbls (λq hm=>by
  obtain⟨o',f,d,c,l⟩:=hm;rw[i]at c;cases c;exact⟨_,f,d,j,l⟩) hok I.bare
def Inv.call(I:Inv X pins σ H s)(u:Un (frs X.stack) ch H H' s.heap h')(hok:HOk X.prog X.w H' h')(v:iT g')
 (f:∀b∈ch,(b∈X.ex\/X.s₀.heap.objs.size<=b)/\b≠X.env.locals/\(∀x c,X.env.cells.lookup x=aa c->c≠b)/\∀p∈X.pn++pins,p.1≠b):
  Inv X pins σ H' {s with heap:=h',gens:=g',drawn:=d',toks:=t'}:=by
 obtain⟨m,⟨o,es,A,q,r⟩,_⟩:=id I.loc;obtain⟨sl,l⟩:=u.any q I.free λz=>(f _ z).2.1 rfl
 exact I.step f (λb o l t d e n=>u.keep b o e n (λz=>(bG.mp (I.stkSub b z)).elim l t) d) (λb o _ _ d e n=>u.any e n d) (λb o d e n=>u.free b o e n d) (λb o d e=>u.there b o e d) u.tups u.frzs u.tbls (λB hm=>by
  obtain⟨o',j,i,g,y⟩:=hm;rw[q]at g;cases g;exact⟨_,j,i,l,y⟩) hok v
variable{it:Addr}
def Inv.turned(I:Inv X pins σ H s)(k:∀b o,b≠it->s.heap.get? b=aa o->h'.get? b=aa o)(hn:H it=ae)(g:it≠X.env.locals)
 (h1:it∈X.ex\/X.s₀.heap.objs.size<=it)(h2:∀x c,X.env.cells.lookup x=aa c->c≠it)(j:∀p∈X.pn++pins,p.1≠it):Inv X pins σ H {s with heap:=h',toks:=t'}:=by
 have f:∀b u,H b=aa u->b≠it:=λb u e z=>by rw[z,hn]at e;nomatch e
 refine I.step (ch:=[it]) (λb l=>?_) (λb o _ _ d e _=>k b o (λz=>d (by simp[z])) e) (λb o _ _ d e _=>⟨o.slots,k b o (λz=>d (by simp[z])) e⟩) (λ_ _ _ _ n=>n)
  (λb o d e=>⟨o,k b o (λz=>d (by simp[z])) e⟩) (λ_ _ e=>e) (λ_ _ _ e=>e) (λb ps e=>⟨#[],by rw[e];simp⟩) (λm hm=>?_) (λb u e=>?_) I.bare
 .have e:b=it:=by simpa using l
  subst e;exact⟨h1,g,h2,j⟩
 .obtain⟨o,es,i,t,r⟩:=hm;exact⟨o,es,i,k _ o (eE g) t,r⟩
 .refine(I.hok b u e).stay (λc v d q=>k c v ?_ q) (λ_ q=>q) λ_ _ q=>q
  rcases d with z |z
  .rw[z];exact f b u e
  .exact f c _ z
def Inv.tok(I:Inv X pins σ H s)(t:Nat):Inv X pins σ H {s with toks:=t}:=I.un Un.refl I.hok
def Inv.kept(I:Inv X pins σ H s)(k:∀b u,s.heap.get? b=aa u->h'.get? b=aa u):Inv X pins σ H {s with heap:=h',toks:=t'}:=I.un (Un.kept k) (I.hok.kept k)
def Inv.laid{o:HO}(I:Inv X pins σ H s)(k:∀b u,s.heap.get? b=aa u->h'.get? b=aa u)(c:s.heap.objs.size<=a)(new:fM X.prog X.w (upd H a o) h' a o):
  Inv X pins σ (upd H a o) {s with heap:=h',toks:=t'}:=I.un (Un.laid k c (I.hok.fresh c)) (I.hok.laid k c new)
def Inv.write{o:HO}(I:Inv X pins σ H s)(f:Mut (H x))(d:e=x\/H e=aa (.own x))(k:∀b u,b≠e->s.heap.get? b=aa u->h'.get? b=aa u)(c:∃u,h'.get? e=aa u)
 (new:fM X.prog X.w (upd H x o) h' x o):Inv X pins σ (upd H x o) {s with heap:=h',toks:=t'}:=I.un (Un.write f d k c) (I.hok.write f d k c new)
variable{pr:PNS}
def Inv.pins_of(I:Inv X pins σ H s)(h:∀p∈pr,s.heap.get? p.1=aa p.2/\H p.1=ae/\p.1≠X.env.locals/\p.1∉X.fs/\∀v,p.2.data≠.cell v):Inv X pr σ H s:=
 ⟨I.ok,I.os,I.bare,I.base,I.loc,I.cell,I.free,I.freeC,λp c=>(bV.mp c).elim (λz=>I.pin p (iQ _ z)) (h p),I.hok,I.len⟩
variable{N:LSt}{i:Nat}{x:Str}
def xv(f:N.Nodup){j:Nat}(a:N[i]?=aa x)(b:N[j]?=aa x):i=j:=by
 obtain⟨h1,c⟩:=dh.mp a;obtain⟨h2,d⟩:=dh.mp b;exact(tT f).mp (c.trans d.symm)
variable{M:Model}{A:dE}{E:PRS}{v:V}{u:Value}{Q:Unit->aM->Prop}
def xw(I:Inv X pins σ H s)(hN:X.N.Nodup)(hi:X.N[i]?=aa x)(B:Loc X.env.scope x)(r:bj v u)
 (h:∀s',Inv X pins (σ.set i (aa v)) H s'->(∃a,Heap.SameBut a s.heap s'.heap/\(a=X.env.locals\/X.env.cells.lookup x=aa a))->Q () s')(hf:LcF X x:=by first |exact .inl rfl |exact .inr rfl |assumption):wpAny M A (storeName X.env x u) Q E s:=by
 obtain⟨m,hn,hl⟩:=id I.loc;have hcls:(X.env.scope.kind==.class || (X.env.scope.kind==.module && X.env.locals != X.env.globals))=ak:=by rw[I.ok.kind];rfl
 have J:i<σ.length:=by rw[I.len];exact(dh.mp hi).1
 have cne:=I.cne
 have l:∀{a:Addr} {h':Heap},(∃o,s.heap.get? a=aa o/\H a=ae)->Heap.SameBut a s.heap h'->HOk X.prog X.w H h':=λ{a h'} ha f b ob e=>by
  obtain⟨_,_,C⟩:=ha;refine(I.hok b ob e).stay (λc w' t q=>(f.2 c ?_).trans q) (λ_ q=>q) λ_ _ q=>q;rintro rfl
  rcases t with rfl |t
  .rw[C]at e;nomatch e
  .rw[C]at t;nomatch t
 rcases B with hk |hk
 .refine wpAny_storeName_local hk hn (λh' hn' f=>?_) hcls;obtain⟨oL,_,_,hoL,_⟩:=id hn;refine h _ ⟨I.ok,I.os,I.bare,⟨λb o e n L B=>((f.2 b (dC (fI (cb e) I.ok.above))).trans (I.base.keep b o e n L B)),λb o e n L B=>?_,I.base.free,λb o e B=>?_,I.base.tups,I.base.frzs,I.base.tbls⟩,⟨_,hn',λj y v' g G e3=>?_⟩,λy c e=>?_,I.free,I.freeC,λp hp=>?_,l ⟨oL,hoL,I.free⟩ f,by simpa using I.len⟩ ⟨_,f,.inl rfl⟩
  .obtain⟨sl,g⟩:=I.base.slot b o e n L B;exact⟨sl,(f.2 b (dC (fI (cb e) I.ok.above))).trans g⟩
  .obtain⟨o',g⟩:=I.base.there b o e B;exact⟨o',(f.2 b (dC (fI (cb e) I.ok.above))).trans g⟩
  .by_cases U:j=i
   .subst U;rw[hi]at g;cases g;rw[fH J]at G;cases G;exact⟨u,r,.inl ⟨hk,by simp⟩⟩
   .rw[eN (eE U)]at G;obtain⟨u',r',q⟩:=hl j y v' g G e3;refine⟨u',r',?_⟩
    rcases q with⟨k,e⟩ |⟨k,c,e,z⟩
    .refine .inl ⟨k,?_⟩;have:y≠x:=λe=>U (xv hN g (e▸hi));simp[this,e]
    .exact .inr ⟨k,c,e,z.sameBut f (cne y c e)⟩
  .obtain⟨w',z⟩:=I.cell y c e;exact⟨w',z.sameBut f (cne y c e)⟩
  .obtain⟨e,n,ne,nf,d⟩:=I.pin p hp;exact⟨(f.2 p.1 ne).trans e,n,ne,nf,d⟩
 .have T:X.fn x=ac:=by
   rcases hf with z |z
   .exact z
   .rw[z]at hk;nomatch hk
  obtain⟨c,t⟩:=I.ok.has x (.inl hk);obtain⟨w',z⟩:=I.cell x c t;refine wpAny_storeName_cell I.ok.kind hk t z (λh' Y f=>?_);obtain⟨oc,hoc,hocd⟩:=id z
  refine h {s with heap:=h'} ⟨I.ok,I.os,I.bare,⟨λb o e n L B=>((f.2 b (dC (fI (cb e) (I.ok.cab x c T t)))).trans (I.base.keep b o e n L B)),λb o e n L B=>?_,I.base.free,λb o e B=>?_,I.base.tups,I.base.frzs,I.base.tbls⟩,⟨m,hn.sameBut f (eE (cne x c t)),λj y v' g G e3=>?_⟩,λy c' e=>?_,I.free,I.freeC,λp hp=>?_,l ⟨oc,hoc,I.freeC x c t⟩ f,by simpa using I.len⟩ ⟨c,f,.inr t⟩
  .obtain⟨sl,g⟩:=I.base.slot b o e n L B;exact⟨sl,(f.2 b (dC (fI (cb e) (I.ok.cab x c T t)))).trans g⟩
  .obtain⟨o',g⟩:=I.base.there b o e B;exact⟨o',(f.2 b (dC (fI (cb e) (I.ok.cab x c T t)))).trans g⟩
  .by_cases U:j=i
   .subst U;rw[hi]at g;cases g;rw[fH J]at G;cases G;exact⟨u,r,.inr ⟨.inl hk,c,t,Y⟩⟩
   .rw[eN (eE U)]at G;obtain⟨u',r',q⟩:=hl j y v' g G e3;refine⟨u',r',?_⟩
    rcases q with q |⟨k,c',e,z'⟩
    .exact .inl q
    .refine .inr ⟨k,c',e,z'.sameBut f ?_⟩;rintro rfl;exact U (xv hN g (I.ok.inj _ _ _ e t▸hi))
  .by_cases hcc:c'=c
   .subst hcc;exact⟨_,Y⟩
   .obtain⟨w2,z2⟩:=I.cell y c' e;exact⟨w2,z2.sameBut f hcc⟩
  .obtain⟨e,n,ne,nf,d⟩:=I.pin p hp;refine⟨(f.2 p.1 ?_).trans e,n,ne,nf,d⟩;intro q;rw[q,hoc]at e;exact d w' (by rw[<- (cs e)];exact hocd)
def nV(I:Inv X pins σ H s)(d:X.N.Nodup)(hi:X.N[i]?=aa x)(g:Loc X.env.scope x)(r:bj v u)
 (h:∀s',Inv X pins (σ.set i (aa v)) H s'->Q () s')(f:LcF X x:=by first |exact .inl rfl |exact .inr rfl |assumption):wpAny M A (storeName X.env x u) Q E s:=
 xw I d hi g r (λs' c _=>h s' c) f
variable{s':aM}
def Inv.call'(I:Inv X pins σ H s)(g:s'.os=s.os)(u:Un (frs X.stack) ch H H' s.heap s'.heap)(hok:HOk X.prog X.w H' s'.heap)(f:iT s'.gens)
 (d:∀b∈ch,(b∈X.ex\/X.s₀.heap.objs.size<=b)/\b≠X.env.locals/\(∀x c,X.env.cells.lookup x=aa c->c≠b)/\∀p∈X.pn++pins,p.1≠b):Inv X pins σ H' s':=by
 obtain⟨h',g',d',t',o'⟩:=s';subst g;exact I.call u hok f d
@[reducible]noncomputable def XK:=Value->Option Addr->Hp->Prop
@[reducible]noncomputable def St:=List (Option V)
@[reducible]noncomputable def VK:=V->Hp->Prop
@[reducible]noncomputable def TE:=St->Hp->VK->Prop
@[reducible]noncomputable def TT:=St->Hp->(Bool->Hp->Prop)->Prop
@[reducible]noncomputable def TA:=St->Hp->(List V->Hp->Prop)->Prop
structure iV where
 nx:St->Hp->Prop
 rt:VK
 bk:St->Hp->Prop:=λ_ _=>False
 ct:St->Hp->Prop:=λ_ _=>False
@[reducible]noncomputable def TS:=iV->St->Hp->Prop
abbrev EP(X:Cx)(pins:PNS)(σ:St)(Q:VK)(u:Value)(s':aM):Prop:=∃v H',Inv X pins σ H' s'/\bj v u/\Q v H'
abbrev TP(X:Cx)(pins:PNS)(σ:St)(Q:Bool->Hp->Prop)(b:Bool)(s':aM):Prop:=∃H',Inv X pins σ H' s'/\Q b H'
abbrev AP(X:Cx)(pins:PNS)(σ:St)(Q:List V->Hp->Prop)(us:LVa)(s':aM):Prop:=∃vs H',Inv X pins σ H' s'/\aY vs us/\Q vs H'
abbrev SP(X:Cx)(pins:PNS)(D:iV)(f:Flow)(s':aM):Prop:=
 match f with
 |.next=>∃σ' H',Inv X pins σ' H' s'/\D.nx σ' H'
 |.brk=>∃σ' H',Inv X pins σ' H' s'/\D.bk σ' H'
 |.cont=>∃σ' H',Inv X pins σ' H' s'/\D.ct σ' H'
 |.ret u=>∃v σ' H',Inv X pins σ' H' s'/\bj v u/\D.rt v H'
abbrev PE(X:Cx)(e:Expr)(t:TE):Prop:=
 ∀(pins:PNS) (s:aM) (σ:St) (H:Hp) (Q:VK),Inv X pins σ H s->t σ H Q->wpAny (model X.prog X.w) X.A (eval e X.env) (EP X pins σ Q) X.xe s
abbrev PT(X:Cx)(e:Expr)(t:TT):Prop:=
 ∀(pins:PNS) (s:aM) (σ:St) (H:Hp) (Q:Bool->Hp->Prop),Inv X pins σ H s->t σ H Q->wpAny (model X.prog X.w) X.A (isTrue e X.env (eval e X.env)) (TP X pins σ Q) X.xe s
abbrev PW(X:Cx)(e:Expr)(t:TT):Prop:=
 ∀(c:Sem Value) (pins:PNS) (s:aM) (σ:St) (H:Hp) (Q:Bool->Hp->Prop),Inv X pins σ H s->t σ H Q->wpAny (model X.prog X.w) X.A (isTrue e X.env c) (TP X pins σ Q) X.xe s
variable{e:Expr}
def PW.pt{t:TT}(h:PW X e t):PT X e t:=h _
abbrev PA(X:Cx)(es:LEx)(t:TA):Prop:=
 ∀(pos:Pos) (pins:PNS) (s:aM) (σ:St) (H:Hp) (Q:List V->Hp->Prop),Inv X pins σ H s->t σ H Q->wpAny (model X.prog X.w) X.A (spliced (eG pos (aX es X.env))) (AP X pins σ Q) X.xe s
abbrev PS(X:Cx)(st:Stmt)(t:TS):Prop:=
 ∀(pins:PNS) (s:aM) (σ:St) (H:Hp) (D:iV),Inv X pins σ H s->t D σ H->wpAny (model X.prog X.w) X.A (exec st X.env) (SP X pins D) X.xe s
abbrev PSs(X:Cx)(st:List Stmt)(t:TS):Prop:=
 ∀(pins:PNS) (s:aM) (σ:St) (H:Hp) (D:iV),Inv X pins σ H s->t D σ H->wpAny (model X.prog X.w) X.A (execs st X.env) (SP X pins D) X.xe s
def thn{d:Type}{t:Sem d}{Q c:d->aM->Prop}(h:wpAny M A t Q E s)(f:∀a s,Q a s->c a s):wpAny M A t c E s:=e7 h f λ_ _ x=>x
abbrev dL(i:Nat):TE:=λσ H Q=>∃v,σ[i]?=aa (aa v)/\Q v H
abbrev tC(v:V):TE:=λ_ H Q=>Q v H
variable{pos:Pos}
def iW(p:X.N[i]?=aa x)(t:Vis X.env.scope x)(hd:NDb x:=by decide)(j:NCd x:=by decide):PE X (.Name x pos) (dL i):=by
 intro pins s σ H Q I h;obtain⟨v,e,h⟩:=h;obtain⟨m,hn,q⟩:=I.loc;obtain⟨u,r,l⟩:=q i x v p e t;have f:EP X pins σ Q u s:=⟨v,H,I,r,h⟩
 rcases l with⟨g,hm⟩ |⟨g,c,n,d⟩
 .exact wpAny_Name (wpAny_loadName_local I.ok.kind g hn hm f) hd
 .rcases g with g |g
  .exact wpAny_Name (wpAny_loadName_cell I.ok.kind g n d f) hd
  .exact wpAny_Name (wpAny_loadName_free I.ok.kind g n d f j) hd
def BQ{i j pos}:PE X (.Constant (.int i) j pos) (tC (.int i)):=λ_ _ _ H _ I h=>wpAny_Constant_int ⟨.int i,H,I.tok _,⟨_,rfl⟩,h⟩
def BR{b j pos}:PE X (.Constant (.bool b) j pos) (tC (.bl b)):=λ_ _ _ H _ I h=>Constant_bool ⟨.bl b,H,I,rfl,h⟩
def BS{x j pos}:PE X (.Constant (.str x) j pos) (tC (.str x)):=λ_ _ _ H _ I h=>Calls.Constant_str ⟨.str x,H,I.tok _,⟨_,rfl⟩,h⟩
abbrev Gl(X:Cx)(x:Str):Prop:=X.env.kindOf x=aa .globalImplicit
variable{σ:St}
def nW{Q:PRS}(I:Inv X pins σ H s)(c:Gl X x)(hm:X.mg x=aa u)(h:Q u s)
 (hd:NDb x:=by decide):wpAny (model X.prog X.w) X.A (eval (.Name x pos) X.env) Q E s:=
 Calls.Name_function_global I.ok.kind c (Calls.loadGlobal_global (by rw[I.ok.glob];exact I.mod.glob.keeps I.bk) hm h) hd
def jv{Q:PRS}(I:Inv X pins σ H s)(c:Gl X x)(hm:X.mg x=ae)(d:gL x=aa u)(h:Q u s)
 (hn:x ≠ "__name__":=by decide)(hd:NDb x:=by decide):wpAny (model X.prog X.w) X.A (eval (.Name x pos) X.env) Q E s:=by
 obtain⟨mb,h1,h2⟩:=I.mod.blt;exact Calls.Name_function_global I.ok.kind c (Calls.loadGlobal_builtin (by rw[I.ok.glob];exact I.mod.glob.keeps I.bk) hm (by rw[I.ok.blt];exact h1.keeps I.bk) ((h2 x hn).trans d) h) hd
def nX(c:Gl X x)(hm:X.mg x=aa u)(r:bj v u)(hd:NDb x:=by decide):PE X (.Name x pos) (tC v):=
 λ_ _ _ H _ I h=>nW I c hm ⟨v,H,I,r,h⟩ hd
def xy(c:Gl X x)(hm:X.mg x=ae)(d:gL x=aa u)(r:bj v u)(hn:x ≠ "__name__":=by decide)(hd:NDb x:=by decide):PE X (.Name x pos) (tC v):=
 λ_ _ _ H _ I h=>jv I c hm d ⟨v,H,I,r,h⟩ hn hd
abbrev tB(t:TE):TT:=λσ H Q=>t σ H λx H1=>∃c,x=.bl c/\Q c H1
abbrev BU(t u:TT):TT:=λσ H Q=>t σ H λc H1=>if c=ac then u σ H1 Q else Q ak H1
abbrev tOr(t u:TT):TT:=λσ H Q=>t σ H λc H1=>if c=ac then Q ac H1 else u σ H1 Q
abbrev BV(t:TT):TT:=λσ H Q=>t σ H λc H1=>Q (!c) H1
variable{a:Expr}{tA:TT}
def xz(ha:PT X a tA):PW X (.BoolOp .And [a] pos) tA:=by
 intro d pins s σ H Q I h;refine isTrue_and (thn (ha pins s σ H Q I h) λc s1 e=>?_)
 cases c with
 |true=>exact isTrue_and_nil e
 |false=>exact e
def BW(ha:PT X a tA):PW X (.BoolOp .Or [a] pos) tA:=by
 intro d pins s σ H Q I h;refine isTrue_or (thn (ha pins s σ H Q I h) λc s1 e=>?_)
 cases c with
 |false=>exact isTrue_or_nil e
 |true=>exact e
variable{b:Expr}{tB':TT}
def xA{bv:LEx}(ha:PT X a tA)(g:PW X (.BoolOp .And (b::bv) pos) tB'):PW X (.BoolOp .And (a::b::bv) pos) (BU tA tB'):=by
 intro l pins s σ H Q I h;refine isTrue_and (thn (ha pins s σ H _ I h) λc s1 j=>?_);obtain⟨H1,d,f⟩:=j
 cases c with
 |true=>exact g l pins s1 σ H1 Q d f
 |false=>exact⟨H1,d,f⟩
def BX{bv:LEx}(ha:PT X a tA)(g:PW X (.BoolOp .Or (b::bv) pos) tB'):PW X (.BoolOp .Or (a::b::bv) pos) (tOr tA tB'):=by
 intro l pins s σ H Q I h;refine isTrue_or (thn (ha pins s σ H _ I h) λc s1 j=>?_);obtain⟨H1,d,f⟩:=j
 cases c with
 |true=>exact⟨H1,d,f⟩
 |false=>exact g l pins s1 σ H1 Q d f
def BY(ha:PT X a tA):PT X (.UnaryOp .Not a pos) (BV tA):=by
 intro pins s σ H Q I h;exact isTrue_not (ha pins s σ H _ I h)
abbrev BZ(d f:TE):TE:=λσ H Q=>d σ H λx H1=>∃c,x=.bl c/\if c=ac then f σ H1 Q else Q (.bl ak) H1
abbrev B0(d f:TE):TE:=λσ H Q=>d σ H λx H1=>∃c,x=.bl c/\if c=ac then Q (.bl ac) H1 else f σ H1 Q
def B1{op}{t:TE}(h:PE X a t):PE X (.BoolOp op [a] pos) t:=λpins s σ H Q I c=>BoolOp_one (h pins s σ H Q I c)
variable{ta tb:TE}
def B2{bv:LEx}(ha:PE X a ta)(g:PE X (.BoolOp .And (b::bv) pos) tb):PE X (.BoolOp .And (a::b::bv) pos) (BZ ta tb):=by
 intro pins s σ H Q I h;refine BoolOp_and (thn (ha pins s σ H _ I h) λv s1 j=>?_);obtain⟨x,H1,f,l,d⟩:=j;obtain⟨c,rfl,d⟩:=d;subst l;refine mq ?_
 cases c with
 |true=>exact g pins s1 σ H1 Q f d
 |false=>exact⟨.bl ak,H1,f,rfl,d⟩
def B3{bv:LEx}(ha:PE X a ta)(g:PE X (.BoolOp .Or (b::bv) pos) tb):PE X (.BoolOp .Or (a::b::bv) pos) (B0 ta tb):=by
 intro pins s σ H Q I h;refine BoolOp_or (thn (ha pins s σ H _ I h) λv s1 j=>?_);obtain⟨x,H1,f,l,d⟩:=j;obtain⟨c,rfl,d⟩:=d;subst l;refine mq ?_
 cases c with
 |false=>exact g pins s1 σ H1 Q f d
 |true=>exact⟨.bl ac,H1,f,rfl,d⟩
abbrev SqL(K:bu)(H:Hp)(a:Addr)(xs:List V):Prop:=
 Rd H a (.lst xs) \/
  ∃(o:Obj) (its:Array Value) (n:Nat),K.lookup a=aa o/\o.cls=.type "list" /\ o.dict=ae/\o.data=.seq its n/\its.size<=bE/\aY xs its.toList
abbrev SqT(K:bu)(H:Hp)(a:Addr)(xs:List V):Prop:=
 Rd H a (.tup xs) \/
  ∃(o:Obj) (its:Array Value) (n:Nat),K.lookup a=aa o/\o.cls=.type "tuple" /\ o.data=.seq its n/\its.size<=bE/\aY xs its.toList
abbrev B4:Value->Option V
 |.none=>aa .non
 |.bool b=>aa (.bl b)
 |.int i _=>aa (.int i)
 |.str x _=>aa (.str x)
 |.bytes b _=>aa (.byt b)
 |.float b _=>aa (.flt b)
 |.ref a=>aa (.ref a)
 |.type n=>aa (.ty n)
 | _=>ae
def bj.abs{x:V}(r:bj x u):B4 u=aa x:=by
 cases x with
 |non=>subst r;rfl
 |bl _=>subst r;rfl
 |int _=>obtain⟨t,rfl⟩:=r;rfl
 |str _=>obtain⟨t,rfl⟩:=r;rfl
 |byt _=>obtain⟨t,rfl⟩:=r;rfl
 |flt _=>obtain⟨t,rfl⟩:=r;rfl
 |ref _=>subst r;rfl
 |ty _=>subst r;rfl
variable{y:V}
def bj.inj{x:V}(r:bj x u)(q:bj y u):x=y:=cs (r.abs.symm.trans q.abs)
def aY.inj:∀{xs c:List V} {us:LVa},aY xs us->aY c us->xs=c
 | _,_,_,.nil,.nil=>rfl
 | _,_,_,.cons r t,.cons r' t'=>by rw[r.inj r',aY.inj t t']
variable{a:Addr}{K:bu}
def SqL.of(h:H a=aa (.lst xs)):SqL K H a xs:=.inl (.inl h)
def SqT.of(h:H a=aa (.tup xs)):SqT K H a xs:=.inl (.inl h)
def Inv.list(I:Inv X pins σ H s)(h:SqL X.K H a xs):∃its:LVa,aY xs its/\PlainL s.heap a its.toArray/\xs.length<=bE:=by
 rcases h with h |⟨o,its,n,hk,hc,hd,hs,hz,r⟩
 .obtain⟨z,its,n,r,e⟩:=h.ok I.hok;exact⟨its,r,⟨_,n,e,rfl,rfl,rfl⟩,z⟩
 .refine⟨its.toList,r,⟨o,n,I.kIn a o hk,hc,hd,by simpa using hs⟩,?_⟩;have e:=r.length;simp only[tL]at e;lia
def Inv.tuple(I:Inv X pins σ H s)(h:SqT X.K H a xs):∃its:LVa,aY xs its/\IsTup s.heap a its.toArray/\xs.length<=bE:=by
 rcases h with h |⟨o,its,n,hk,hc,hs,hz,r⟩
 .obtain⟨z,its,r,p⟩:=h.ok I.hok;exact⟨its,r,p,z⟩
 .refine⟨its.toList,r,⟨o,I.kIn a o hk,hc,n,by simpa using hs⟩,?_⟩;have e:=r.length;simp only[tL]at e;lia
variable{ys:List V}
def Inv.list_inj(I:Inv X pins σ H s)(h:SqL X.K H a xs)(h':SqL X.K H a ys):xs=ys:=by
 obtain⟨its,r,⟨o,n,e,_,_,d⟩,_⟩:=I.list h;obtain⟨c,g,⟨o',j,f,_,_,d'⟩,_⟩:=I.list h';rw[e]at f;cases f;rw[d]at d'
 injection d' with d1 _
 have:its=c:=by simpa using congrArg Array.toList d1
 subst this;exact r.inj g
def Inv.tuple_inj(I:Inv X pins σ H s)(h:SqT X.K H a xs)(h':SqT X.K H a ys):xs=ys:=by
 obtain⟨its,r,⟨o,e,_,n,d⟩,_⟩:=I.tuple h;obtain⟨c,g,⟨o',f,_,j,d'⟩,_⟩:=I.tuple h';rw[e]at f;cases f;rw[d]at d'
 injection d' with d1 _
 have:its=c:=by simpa using congrArg Array.toList d1
 subst this;exact r.inj g
@[reducible]noncomputable def Cx.wish(X:Cx)(E:PRS):Cx:={X with xe:=E}
@[reducible]noncomputable def Cx.nox(X:Cx):Cx:=X.wish λ_ _=>False
def Cx.Ok.wish(ok:X.Ok)(E:PRS):(X.wish E).Ok:=
 ⟨ok.mod,ok.kind,ok.glob,ok.blt,ok.above,ok.inj,ok.has,ok.cab,ok.hd,ok.frames,ok.stk,ok.exf,ok.bs,ok.bsz,ok.noex,ok.exfs,ok.funs,ok.frf⟩
def Cx.Ok.unwish(ok:(X.wish E).Ok):X.Ok:=
 ⟨ok.mod,ok.kind,ok.glob,ok.blt,ok.above,ok.inj,ok.has,ok.cab,ok.hd,ok.frames,ok.stk,ok.exf,ok.bs,ok.bsz,ok.noex,ok.exfs,ok.funs,ok.frf⟩
def Inv.wish(I:Inv X pins σ H s)(E:PRS):Inv (X.wish E) pins σ H s:=⟨I.ok.wish E,I.os,I.bare,I.base,I.loc,I.cell,I.free,I.freeC,I.pin,I.hok,I.len⟩
def Inv.unwish(I:Inv (X.wish E) pins σ H s):Inv X pins σ H s:=⟨I.ok.unwish,I.os,I.bare,I.base,I.loc,I.cell,I.free,I.freeC,I.pin,I.hok,I.len⟩
def SP.unwish{D:iV}{f:Flow}(h:SP (X.wish E) pins D f s'):SP X pins D f s':=by
 cases f with
 |next=>obtain⟨σ',H',I,q⟩:=h;exact⟨σ',H',I.unwish,q⟩
 |brk=>obtain⟨σ',H',I,q⟩:=h;exact⟨σ',H',I.unwish,q⟩
 |cont=>obtain⟨σ',H',I,q⟩:=h;exact⟨σ',H',I.unwish,q⟩
 |ret u=>obtain⟨v,σ',H',I,r,q⟩:=h;exact⟨v,σ',H',I.unwish,r,q⟩
variable{t:TS}
def PSs.nox{st:List Stmt}(h:PSs X.nox st t):PSs X st t:=λpins s σ H D I c=>
 e7 (h pins s σ H D (I.wish _) c) (λ_ _ q=>q.unwish) λ_ _ z=>iP z
abbrev B5:TS:=λD σ H=>D.nx σ H
abbrev B6(t u:TS):TS:=λD σ H=>t {D with nx:=u D} σ H
def B7:PSs X [] B5:=λ_ _ σ H _ I h=>wpAny_execs_nil ⟨σ,H,I,h⟩
variable{st:Stmt}{u:TS}
def ud{bv:List Stmt}(h1:PS X st t)(h2:PSs X bv u):PSs X (st::bv) (B6 t u):=by
 intro pins s σ H D I h
 refine wpAny_execs_cons (thn (h1 pins s σ H {D with nx:=u D} I h) λf s1 q=>?_)
 cases f with
 |next=>
  obtain⟨σ',H',c,q⟩:=q
  exact h2 pins s1 σ' H' D c q
 |ret v=>exact q
 |brk=>exact q
 |cont=>exact q
def ue(h1:PS X st t):PSs X [st] t:=by
 intro pins s σ H D I h;refine wpAny_execs_cons (thn (h1 pins s σ H D I h) λf s1 q=>?_)
 cases f with
 |next=>exact wpAny_execs_nil q
 |ret v=>exact q
 |brk=>exact q
 |cont=>exact q
def Inv.quiet(I:Inv X pins σ H s):interactive X.env=ak:=by simp[interactive,I.ok.kind]
abbrev lr(te:TE):TS:=λD σ H=>te σ H λ_ H1=>D.nx σ H1
variable{te:TE}
def dR(d:PE X e te)(f:fJ e ae pos.line X.env=pure ak:=by rfl):PS X (.Expr e pos) (lr te):=by
 intro pins s σ H D I h;exact wpAny_Expr_any (thn (d pins s σ H _ I h) λv s1 ⟨x,H1,c,j,g⟩=>⟨σ,H1,c,g⟩) I.quiet f
abbrev B8(te:TE):TS:=λD σ H=>te σ H D.rt
def mw(d:PE X e te):PS X (.Return (aa e) pos) (B8 te):=by
 intro pins s σ H D I h;exact wpAny_Return_some (thn (d pins s σ H _ I h) λv s1 ⟨x,H1,c,g,f⟩=>⟨x,σ,H1,c,g,f⟩)
abbrev B9(c:TT)(t u:TS):TS:=λD σ H=>c σ H λb H1=>if b=ac then t D σ H1 else u D σ H1
variable{c:Expr}
def uf{a b:List Stmt}{j:TT}(m:PT X c j)(ha:PSs X a t)(l:PSs X b u):PS X (.If c a b pos) (B9 j t u):=by
 intro pins s σ H D I h;refine wpAny_If (thn (m pins s σ H _ I h) λd s1 n=>?_);obtain⟨H1,f,g⟩:=n
 cases d with
 |true=>exact ha pins s1 σ H1 D f g
 |false=>exact l pins s1 σ H1 D f g
@[reducible]noncomputable def TG:=V->St->Hp->(St->Hp->Prop)->Prop
@[reducible]noncomputable def TGs:=List V->St->Hp->(St->Hp->Prop)->Prop
abbrev PG(X:Cx)(d:Expr)(t:TG):Prop:=
 ∀(pins:PNS) (s:aM) (σ:St) (H:Hp) (v:V) (u:Value) (Q:St->Hp->Prop),Inv X pins σ H s->bj v u->t v σ H Q ->
  wpAny (model X.prog X.w) X.A (io d X.env u) (λ_ s'=>∃σ' H',Inv X pins σ' H' s'/\Q σ' H') X.xe s
abbrev PGs(X:Cx)(d:LEx)(t:TGs):Prop:=
 ∀(pins:PNS) (s:aM) (σ:St) (H:Hp) (vs:List V) (us:LVa) (Q:St->Hp->Prop),Inv X pins σ H s->aY vs us->t vs σ H Q ->
  wpAny (model X.prog X.w) X.A (assignInOrder ((gM d X.env).map (·.2)) us) (λ_ s'=>∃σ' H',Inv X pins σ' H' s'/\Q σ' H') X.xe s
@[reducible]noncomputable def ug:=V->V->V->Hp->(Hp->Prop)->Prop
abbrev xB(X:Cx)(t:ug):Prop:=
 ∀(pins:PNS) (s:aM) (σ:St) (H:Hp) (o i v:V) (ov d u:Value) (Q:Hp->Prop),Inv X pins σ H s->bj o ov->bj i d->bj v u->t o i v H Q ->
  wpAny (model X.prog X.w) X.A (setItem ov d u) (λ_ s'=>∃H',Inv X pins σ H' s'/\Q H') X.xe s
@[reducible]noncomputable def TIp:=V->V->Hp->VK->Prop
abbrev PIp(X:Cx)(d:Operator)(t:TIp):Prop:=
 ∀(pins:PNS) (s:aM) (σ:St) (H:Hp) (x y:V) (v u:Value) (Q:VK),Inv X pins σ H s->bj x v->bj y u->t x y H Q ->
  wpAny (model X.prog X.w) X.A (inplaceOp d v u) (EP X pins σ Q) X.xe s
abbrev jw(i:Nat):TG:=λv σ H Q=>Q (σ.set i (aa v)) H
def qr(f:X.N.Nodup)(hi:X.N[i]?=aa x)(j:Loc X.env.scope x)(g:LcF X x:=by first |exact .inl rfl |exact .inr rfl |assumption):PG X (.Name x pos) (jw i):=by
 intro pins s σ H v u Q I r h;exact wpAny_assign_Name (nV I f hi j r (λs' d=>⟨_,H,d,h⟩) g)
abbrev xC:TGs:=λvs σ H Q=>vs=[]/\Q σ H
abbrev uh(t:TG)(u:TGs):TGs:=λvs σ H Q=>∃v r,vs=v::r/\t v σ H λσ' H'=>u r σ' H' Q
def xD:PGs X [] xC:=by
 intro pins s σ H vs us Q I r h;obtain⟨e,h⟩:=h;exact assignInOrder_nil ⟨σ,H,I,h⟩
variable{es:LEx}
def uj{t:TG}{u:TGs}(h1:PG X e t)(h2:PGs X es u)
 (j:(gM (e::es) X.env).map (·.2)=io e X.env::(gM es X.env).map (·.2):=by rfl):PGs X (e::es) (uh t u):=by
 intro pins s σ H vs us Q I r h;obtain⟨v,vr,g,h⟩:=h;subst g
 cases r with
 |cons r m=>
  rw[j];exact assignInOrder_cons (thn (h1 pins s σ H _ _ _ I r h) λ_ s1 ⟨d,H1,f,l⟩=>(h2 pins s1 d H1 _ _ Q f m l))
abbrev xE(K:bu)(n:Nat)(t:TGs):TG:=λv σ H Q=>∃a xs,v=.ref a/\SqT K H a xs/\xs.length=n/\t xs σ H Q
def xF{k:Nat}{t:TGs}{n:Nat}(l:X.calm=ac)(h:PGs X es t)
 (hn:(gM es X.env).length=n:=by rfl)(d:(gM es X.env).findIdx? (·.1)=ae:=by rfl):PG X (.Tuple es k pos) (xE X.K n t):=by
 intro pins s σ H v u Q I r f;obtain⟨a,xs,j,p,m,f⟩:=f;subst j;subst r;obtain⟨its,g,q,B⟩:=I.tuple p;refine assign_Tuple_tuple (I.ok.hd l) q (by simp[hn,<- m,g.length]) d λh' z=>?_;exact h pins _ σ H xs _ Q (I.kept λb o e=>z b o (dC (cb e)) e) (by simpa using g) f
abbrev uk(to f:TE)(t:ug):TG:=λv σ H Q=>to σ H λo H1=>f σ H1 λi H2=>t o i v H2 λd=>Q σ d
def xG{o i:Expr}{to g:TE}{t:ug}(p:PE X o to)(hi:PE X i g)(q:xB X t)
 (ha:∀ v,io (.Subscript o i pos) X.env v=(do
   let ov <- il [v] (eval o X.env)
   let d <- il [v,ov] (eval i X.env)
   standAt pos
   il [v,ov,d] (setItem ov d v)
   release [v,ov,d] []):=by intro _;rfl):PG X (.Subscript o i pos) (uk to g t):=by
 intro pins s σ H v u Q I r h;refine bW (jo (thn (p pins s σ H _ I h) λov s1 f=>?_));obtain⟨x,H1,l,G,z⟩:=f;refine bW (jo (thn (hi pins s1 σ H1 _ l z) λd s2 f=>?_));obtain⟨y,H2,m,J,B⟩:=f;exact bW (wpAny_standAt (bW (jo (thn (q pins s2 σ H2 x y v ov d u _ m G J r B) λ_ L ⟨j,n,C⟩=>(wpAny_release ⟨σ,j,n,C⟩)))))
abbrev ls(te:TE)(g:TG):TS:=λD σ H=>te σ H λx H1=>g x σ H1 D.nx
variable{tg:Expr}{g:TG}
def ul(f:PE X e te)(j:PG X tg g)(l:qf [tg] e pos.line X.env=pure ak:=by rfl)(m:qg [tg] e X.env=pure ae:=by rfl)
 (h1:(gM [tg] X.env).map (·.2)=[io tg X.env]:=by rfl):PS X (.Assign [tg] e pos) (ls te g):=by
 intro pins s σ H D I h;refine wpAny_Assign_stores (thn (f pins s σ H _ I h) λv s1 p=>?_) l m;obtain⟨x,H1,d,r,n⟩:=p;rw[h1];exact thn (j pins s1 σ H1 x v _ d r n) λ_ s2 q=>q
variable{b4:Pos}
def lu(j:X.N.Nodup)(hi:X.N[i]?=aa x)(p:Loc X.env.scope x)(l:PE X e te)(n:fJ e (aa (.Name x b4)) pos.line X.env=pure ak:=by rfl)(m:LcF X x:=by first |exact .inl rfl |exact .inr rfl |assumption):
  PS X (.Assign [.Name x b4] e pos) (ls te (jw i)):=by
 intro pins s σ H D I h;exact wpAny_Assign_Name (thn (l pins s σ H _ I h) λv s1 ⟨y,H1,d,r,q⟩=>(nV d j hi p r (λs2 f=>⟨_,H1,f,q⟩) m)) n
abbrev Ca(i:Nat)(te:TE)(d:TIp):TS:=λD σ H=>∃x,σ[i]?=aa (aa x)/\te σ H λy H1=>d x y H1 λz H2=>D.nx (σ.set i (aa z)) H2
variable{op:Operator}
def xH{B:TIp}(T:X.N.Nodup)(hi:X.N[i]?=aa x)(p:Loc X.env.scope x)(Y:PE X e te)(ho:PIp X op B)(hf:LcF X x:=by first |exact .inl rfl |exact .inr rfl |assumption):
  PS X (.AugAssign (.Name x b4) op e pos) (Ca i te B):=by
 intro pins s σ H D I h;obtain⟨v,L,h⟩:=h;obtain⟨m,hn,hl⟩:=I.loc
 have q:Vis X.env.scope x:=by rcases p with k |k;exact .inl k;exact .inr (.inl k)
 obtain⟨u,r,l⟩:=hl i x v hi L q;refine wpAny_AugAssign_Name ?_
 have go:wpAny (model X.prog X.w) X.A (eval e X.env) (λw j=>wpAny (model X.prog X.w) X.A (inplaceOp op u w) (λr n=>wpAny (model X.prog X.w) X.A (storeName X.env x r) (λ_=>SP X pins D .next) X.xe n) X.xe j) X.xe s:=by
  refine thn (Y pins s σ H _ I h) λw s1 q_=>?_;obtain⟨y,H1,C,r1,q1⟩:=q_;exact thn (ho pins s1 σ H1 v y u w _ C r r1 q1) λz s2 ⟨zv,H2,G,r2,q2⟩=>(nV G T hi p r2 (λs3 J=>⟨_,H2,J,q2⟩) hf)
 rcases l with⟨d,hm⟩ |⟨d,c,U,f⟩
 .exact wpAny_loadName_local I.ok.kind d hn hm go
 .rcases d with d |d
  .exact wpAny_loadName_cell I.ok.kind d U f go
  .rcases p with k |k
   .have:X.env.scope.names.lookup x=aa .free:=d;rw[k]at this;nomatch this
   .have:X.env.scope.names.lookup x=aa .free:=d;rw[k]at this;nomatch this
abbrev ipI(f:Int->Int->Int):TIp:=λx y H Q=>∃i j,x=.int i/\y=.int j/\Q (.int (f i j)) H
def Cb:PIp X .Add (ipI λi j=>i+j):=by
 intro pins s σ H x y v u Q I l m h;obtain⟨i,j,d,f,q⟩:=h;subst d;subst f;obtain⟨t,rfl⟩:=l;obtain⟨t',rfl⟩:=m;exact iadd_int ⟨.int _,H,I.tok _,⟨_,rfl⟩,q⟩
structure It where
 go:Nat->Hp->Prop
 yld:Nat->Hp->V->Hp->Prop
 stop:Nat->Hp->Prop
abbrev gP(X:Cx)(pins:PNS)(H:Hp)(b:Addr):Prop:=
 H b=ae/\b≠X.env.locals/\b∉X.fs/\(b∈X.ex\/X.s₀.heap.objs.size<=b)/\(∀x c,X.env.cells.lookup x=aa c->c≠b)/\∀p∈X.pn++pins,p.1≠b
def Inv.fpOk{b:Addr}(I:Inv X pins σ H s)(d:s.heap.objs.size<=b)(hn:H' b=ae):gP X pins H' b:=by
 refine⟨hn,nO (fI I.lt d),I.nofs d,.inr (dq I.sz d),λx c e z=>?_,λp f z=>(absurd (fI (cb (I.pin p f).1) (by rw[z];exact d)) (jn _))⟩;obtain⟨v,q⟩:=I.cell x c e;exact absurd (fI q.lt (by rw[z];exact d)) (jn _)
structure jx(P:dJ)(w:World)(K:bu)(tg:Expr)(J:It)(fp:LAd)(it:Addr)(tn:Nat->Heap->Prop):Prop where
 mem:it∈fp
 obj:∀i h,tn i h->∀b∈fp,∃o,h.get? b=aa o/\∀v,o.data≠.cell v
 keep:∀i h h',tn i h->(∀b∈fp,∀o,h.get? b=aa o->h'.get? b=aa o)->tn i h'
 item:∀(X:Cx),X.prog=P->X.w=w->X.K=K->X.calm=ac->∀(i:Nat) (pins:PNS) (s:aM) (σ:St) (H:Hp) (E:PRS),Inv X pins σ H s->(∀b∈fp,gP X pins H b)->tn i s.heap->J.go i H ->
  wpAny (model P w) X.A (pyNext (.ref it)) (λr s1=>∃ u,r=aa u /\
   wpAny (model P w) X.A (letOwnedTupleGo tg (.ref it) u) (λ_ s2=>∃x H',Inv X pins σ H' s2/\bj x u/\J.yld i H x H'/\tn (i+1) s2.heap/\∀b∈fp,H' b=ae) E s1) E s
 done:∀(X:Cx),X.prog=P->X.w=w->X.K=K->X.calm=ac->∀(i:Nat) (pins:PNS) (s:aM) (σ:St) (H:Hp) (E:PRS),Inv X pins σ H s->(∀b∈fp,gP X pins H b)->tn i s.heap->J.stop i H ->
  wpAny (model P w) X.A (pyNext (.ref it)) (λr s1=>r=ae/\Inv X pins σ H s1) E s
 self:∀(A:dE) (i:Nat) (s:aM) (Q:PRS) (E:PRS),tn i s.heap->Q (.ref it) s->wpAny (model P w) A (pyIter (.ref it)) Q E s
@[reducible]noncomputable def TI:=St->Hp->(It->Hp->Prop)->Prop
abbrev PIE(X:Cx)(pins:PNS)(σ:St)(tg:Expr)(R:It->Hp->Prop)(d:Value)(s2:aM):Prop:=
 ∃(it:Addr) (fp:LAd) (tn:Nat->Heap->Prop) (J:It) (H':Hp),d=.ref it/\Inv X pins σ H' s2/\jx X.prog X.w X.K tg J fp it tn/\tn 0 s2.heap/\(∀b∈fp,gP X pins H' b)/\R J H'
abbrev PI(X:Cx)(tg iter:Expr)(d:TI):Prop:=
 ∀(pins:PNS) (s:aM) (σ:St) (H:Hp) (R:It->Hp->Prop),Inv X pins σ H s->d σ H R ->
  wpAny (model X.prog X.w) X.A (eval iter X.env) (λv s1=>wpAny (model X.prog X.w) X.A (pyIter v) (PIE X pins σ tg R) X.xe s1) X.xe s
def qt{u:Value}{n:String}{vs:Array Value}(j:s.heap.get? it = aa o)(f:o.cls = .type n)(hd:o.data = .fields vs)
   (hn:["enumerate", "zip", "dict_itemiterator", "dict_reverseitemiterator", "odict_iterator", "itertools.zip_longest", "itertools.pairwise"].contains n = ak)(d:Q () s):wpAny M A (letOwnedTupleGo tg (.ref it) u) Q E s:= by
  cases tg <;> first
    |exact c6 d
    | (cases u <;> first
        |exact c6 d
        | (refine bW (wpAny_load j ?_)
           rw[f, hd];show wpAny M A (if _ = ac then _ else _) Q E s;rw[if_neg (by intro h;rw[hn, Bool.false_and]at h;nomatch h)];exact c6 d))
abbrev Itl(K:bu)(a:Addr):It:=
 ⟨λi H=>∃xs x,SqL K H a xs/\xs[i]?=aa x,λi H x H'=>H'=H/\∀xs,SqL K H a xs->xs[i]?=aa x,λi H=>∃xs,SqL K H a xs/\xs.length<=i⟩
abbrev Itt(K:bu)(a:Addr):It:=
 ⟨λi H=>∃xs x,SqT K H a xs/\xs[i]?=aa x,λi H x H'=>H'=H/\∀xs,SqT K H a xs->xs[i]?=aa x,λi H=>∃xs,SqT K H a xs/\xs.length<=i⟩
abbrev Itr(lo:Int)(n:Nat):It:=⟨λi _=>i<n,λi H x H'=>H'=H/\x=.int (lo+i),λi _=>n<=i⟩
def Cc(a it:Addr):jx P w K tg (Itl K a) [it] it (λi h=>h.IsListIter it a i) where
 mem:=by simp
 obj:=λi h st b hb=>by
  have e:b=it:=by simpa using hb
  subst e;obtain⟨o,e,c,d⟩:=st;exact⟨o,e,λv z=>by rw[d]at z;nomatch z⟩
 keep:=λi h h' st k=>st.at λo e=>k it (by simp) o e
 item:=by
  intro X hP hw hK hc i pins s σ H E I hf st hg;subst hP hw hK;obtain⟨xs,x,hq,hx⟩:=hg;obtain⟨its,rv,p,hz⟩:=I.list hq;obtain⟨u,hu,ru⟩:=rv.get hx;obtain⟨f0,f1,f2,f3,f4,f5⟩:=hf it (by simp);refine wpAny_pyNext_list_item st p.isList (by simpa using hu) λh' pA sb=>?_;obtain⟨o,e,c,d⟩:=id pA;exact⟨u,rfl,qt e c d (by decide) ⟨x,H,(I.turned (λb o hb e=>(sb.2 b hb).trans e) f0 f1 f3 f4 f5),ru,⟨rfl,λys hy=>by rw[I.list_inj hy hq];exact hx⟩,pA,λb hb=>(hf b hb).1⟩⟩
 done:=by
  intro X hP hw hK hc i pins s σ H E I hf st hg;subst hP hw hK;obtain⟨xs,hq,hx⟩:=hg;obtain⟨its,rv,p,hz⟩:=I.list hq;obtain⟨f0,f1,f2,f3,f4,f5⟩:=hf it (by simp);have hl:=rv.length;exact wpAny_pyNext_list_end (I.ok.hd hc) st p.isList (by simp;lia) λh' eb=>⟨rfl,I.turned (λb o hb e=>eb b o hb e) f0 f1 f3 f4 f5⟩
 self:=λ_ _ _ _ _ st h=>wpAny_pyIter_listiter st h
def Cd(a it:Addr):jx P w K tg (Itt K a) [it] it (λi h=>h.IsTupleIter it a i) where
 mem:=by simp
 obj:=λi h st b hb=>by
  have e:b=it:=by simpa using hb
  subst e;obtain⟨o,e,c,d⟩:=st;exact⟨o,e,λv z=>by rw[d]at z;nomatch z⟩
 keep:=λi h h' st k=>st.at λo e=>k it (by simp) o e
 item:=by
  intro X hP hw hK hc i pins s σ H E I hf st hg;subst hP hw hK;obtain⟨xs,x,hq,hx⟩:=hg;obtain⟨its,rv,p,hz⟩:=I.tuple hq;obtain⟨u,hu,ru⟩:=rv.get hx;obtain⟨f0,f1,f2,f3,f4,f5⟩:=hf it (by simp);refine wpAny_pyNext_tuple_item st (p) (by simpa using hu) λh' pA sb=>?_;obtain⟨o,e,c,d⟩:=id pA;exact⟨u,rfl,qt e c d (by decide) ⟨x,H,(I.turned (λb o hb e=>(sb.2 b hb).trans e) f0 f1 f3 f4 f5),ru,⟨rfl,λys hy=>by rw[I.tuple_inj hy hq];exact hx⟩,pA,λb hb=>(hf b hb).1⟩⟩
 done:=by
  intro X hP hw hK hc i pins s σ H E I hf st hg;subst hP hw hK;obtain⟨xs,hq,hx⟩:=hg;obtain⟨its,rv,p,hz⟩:=I.tuple hq;obtain⟨f0,f1,f2,f3,f4,f5⟩:=hf it (by simp);have hl:=rv.length;exact wpAny_pyNext_tuple_end (I.ok.hd hc) st (p) (by simp;lia) λh' eb=>⟨rfl,I.turned (λb o hb e=>eb b o hb e) f0 f1 f3 f4 f5⟩
 self:=λ_ _ _ _ _ st h=>wpAny_pyIter_tupleiter st h
def Ce(it:Addr)(lo:Int)(n:Nat):jx P w K tg (Itr lo n) [it] it (λi h=>IsRangeIter h it (lo+(i:Nat)*1) ((n:Int)-(i:Nat)) 1) where
 mem:=by simp
 obj:=λi h st b hb=>by
  have e:b=it:=by simpa using hb
  subst e
  exact⟨_,st,λv z=>by
   nomatch z⟩
 keep:=λi h h' st k=>k it (by simp) _ st
 item:=by
  intro X hP hw hK hc i pins s σ H E I hf st hg;subst hP hw hK;obtain⟨f0,f1,f2,f3,f4,f5⟩:=hf it (by simp);refine(Walks.range (I.ok.hd hc) it lo 1 n).item i s _ _ hg st λv h' tk hv pA kk=>?_;obtain⟨t,rfl⟩:=hv
  have I1:Inv X pins σ H {s with heap:=h',toks:=tk}:=I.turned (λb o hb e=>kk b o (by simpa using hb) e) f0 f1 f3 f4 f5
  refine⟨_,rfl,qt pA rfl rfl (by decide) ⟨.int _,H,I1,⟨t,?_⟩,⟨rfl,rfl⟩,pA,λb hb=>(hf b hb).1⟩⟩;rw[Int.mul_one]
 done:=by
  intro X hP hw hK hc i pins s σ H E I hf st hg;obtain⟨f0,f1,f2,f3,f4,f5⟩:=hf it (by simp);exact wpAny_pyNext_range_end (I.ok.hd hc) st (by have:n<=i:=hg;lia) λh' eb=>⟨rfl,I.turned (λb o hb e=>eb b o hb e) f0 f1 f3 f4 f5⟩
 self:=λ_ _ _ _ _ st h=>wpAny_pyIter_rangeiter st h
abbrev Cf(K:bu)(d:TE):TI:=λσ H R=>d σ H λx H1=>∃a,x=.ref a/\(∃xs,SqL K H1 a xs)/\R (Itl K a) H1
abbrev Cg(K:bu)(d:TE):TI:=λσ H R=>d σ H λx H1=>∃a,x=.ref a/\(∃xs,SqT K H1 a xs)/\R (Itt K a) H1
variable{l:Expr}{tl:TE}
def qu(j:PE X l tl):PI X tg l (Cf X.K tl):=by
 intro pins s σ H R I h;refine thn (j pins s σ H _ I h) λv s1 r=>?_;obtain⟨x,H1,d,z,n⟩:=r;obtain⟨a,e,⟨xs,m⟩,q⟩:=n;subst e;subst z;obtain⟨its,C,p,B⟩:=d.list m;refine wpAny_pyIter_list p.isList ?_;refine⟨s1.heap.objs.size,_,_,_,H1,rfl,d.kept λb o e=>eH _ e,Cc a _,⟨_,fV _ rfl,rfl,rfl⟩,λb f=>?_,q⟩;have e:b=s1.heap.objs.size:=by simpa using f
 subst e;exact d.fpOk (bC _) (d.hok.fresh (bC _))
def Ch(j:PE X l tl):PI X tg l (Cg X.K tl):=by
 intro pins s σ H R I h;refine thn (j pins s σ H _ I h) λv s1 r=>?_;obtain⟨x,H1,d,z,n⟩:=r;obtain⟨a,e,⟨xs,m⟩,q⟩:=n;subst e;subst z;obtain⟨its,C,p,B⟩:=d.tuple m;refine wpAny_pyIter_tuple (p) ?_;refine⟨s1.heap.objs.size,_,_,_,H1,rfl,d.kept λb o e=>eH _ e,Cd a _,⟨_,fV _ rfl,rfl,rfl⟩,λb f=>?_,q⟩;have e:b=s1.heap.objs.size:=by simpa using f
 subst e;exact d.fpOk (bC _) (d.hok.fresh (bC _))
variable{tk:Nat}
def Ci{R:It->Hp->Prop}{lo hi:Int}{t u v:Tok}(I:Inv X pins σ H s)(h1:-(2 ^ 62)<=lo)(h2:lo<2 ^ 62)(m:-(2 ^ 62)<=hi)(n:hi<2 ^ 62)
 (q:R (Itr lo (hi-lo).toNat) H):wpAny (model X.prog X.w) X.A (pyIter (.ref s.heap.objs.size)) (PIE X pins σ tg R) E {s with heap:=s.heap.push {cls:=.type "range",data:=.fields #[.int lo t,.int hi u,.int 1 v]},toks:=tk}:=by
 refine wpAny_pyIter_range (IsRange.new ..) (small_one h1 h2 m n) ?_
 have d:Inv X pins σ H {s with heap:=s.heap.push {cls:=.type "range",data:=.fields #[.int lo t,.int hi u,.int 1 v]},toks:=tk}:=I.kept λb o e=>eH _ e
 refine⟨(s.heap.push {cls:=.type "range",data:=.fields #[.int lo t,.int hi u,.int 1 v]}).objs.size,_,_,_,H,rfl,
  d.kept λb o e=>eH _ e,Ce _ lo (hi-lo).toNat,?_,λb p=>?_,q⟩
 .have f:lo+((0:Nat):Int)*1=lo:=by simp
  have j:(((hi-lo).toNat:Nat):Int)-((0:Nat):Int)=Builtin.Range.rangeSize lo hi 1:=by rw[rangeSize_one];split <;> lia
  rw[f,j];exact fV _ rfl
 .have e:b=(s.heap.push {cls:=.type "range",data:=.fields #[.int lo t,.int hi u,.int 1 v]}).objs.size:=by simpa using p
  subst e;exact d.fpOk (bC _) (d.hok.fresh (bC _))
abbrev Cj(ta:TA):TI:=λσ H R=>ta σ H λvs H1=>∃j:Int,vs=[.int j]/\-(2 ^ 62)<=j/\j<2 ^ 62/\R (Itr 0 j.toNat) H1
variable{a:Expr}
def xI{ta:TA}{p:Pos}(m:Gl X "range")(hm:X.mg "range"=ae)(ha:PA X [a] ta)(n:aX [a] X.env=[(ak,eval a X.env)]:=by rfl):PI X tg (.Call (.Name "range" p) [a] [] pos) (Cj ta):=by
 intro pins s σ H R I h;refine Call_ (jv I m hm boot_range (mn (thn (ha pos pins s σ H _ I h) λus s1 ⟨vs,H1,f,B,d⟩=>?_) n rfl));obtain⟨j,e,d,z,q⟩:=d;subst e
 cases B with
 |cons r C=>
  cases C;obtain⟨t,rfl⟩:=r;exact call_range_1 (Ci f (by lia) (by lia) d z (by simpa using q))
abbrev Ck(j:TI)(g:TG)(tb:TS):TS:=λD σ H=>j σ H λJ H1=>∃W:Nat->Nat->St->Hp->Prop,(∃m,W 0 m σ H1)/\∀i m σ H,W i m σ H ->
 (J.stop i H/\D.nx σ H)\/(J.go i H/\∃N:St->Hp->Prop,(∀σ' H',N σ' H'->∃f,f<m/\W (i+1) f σ' H')/\∀x H',J.yld i H x H'->g x σ H' λd H2=>tb {D with nx:=N,ct:=N,bk:=D.nx} d H2)
abbrev qw(fp:LAd)(h:Heap):PNS:=fp.filterMap λb=>(h.get? b).map λo=>(b,o)
variable{fp:LAd}
def qx{b:Addr}(d:b∈fp)(e:h.get? b=aa o):(b,o)∈qw fp h:=mem_filterMap.mpr ⟨b,d,by rw[e];rfl⟩
def Cm{p:Addr×Obj}(j:p∈qw fp h):p.1∈fp/\h.get? p.1=aa p.2:=by
 obtain⟨b,f,e⟩:=mem_filterMap.mp j
 cases q:h.get? b with
 |none=>rw[q]at e;nomatch e
 |some o=>
  rw[q]at e;have d:=cs e;subst d;exact⟨f,q⟩
def Inv.pinned(I:Inv X pins σ H s)(r:∀b∈fp,gP X pins H b)(B:∀b∈fp,∃o,s.heap.get? b=aa o/\∀v,o.data≠.cell v):Inv X (pins++qw fp s.heap) σ H s:=
 I.pins_of λp C=>(bV.mp C).elim (λz=>I.pin p (gH _ z)) λz=>by
  obtain⟨j,e⟩:=Cm z;obtain⟨m,n,q,_⟩:=r p.1 j;obtain⟨o,f,d⟩:=B p.1 j;rw[e]at f;cases f;exact⟨e,m,n,q,d⟩
def Inv.unpinned{pl:PNS}(I:Inv X (pins++pl) σ H s):Inv X pins σ H s:=I.pins_of λp d=>I.pin p (gH _ (iQ _ d))
variable{iter:Expr}{body:List Stmt}{wi:TI}
def qy{tb:TS}(Y:PassesOwn (model X.prog X.w) X.A X.env X.xe)(hc:X.calm=ac)(hi:PI X tg iter wi)(hg:PG X tg g)(z:PSs X body tb)
 (hs:∀x,gK iter X.env x=pure x:=by intro _;rfl):PS X (.For tg iter body [] pos) (Ck wi g tb):=by
 intro pins s σ H D I h;refine wpAny_For (thn (hi pins s σ H _ I h) λv s1 h1=>thn h1 λitv s2 h2=>?_) hs;obtain⟨it,fp,tn,J,H2,e,I2,T,st2,f2,W,⟨m0,w0⟩,turn⟩:=h2;subst e;have B:∀{H':Hp},(∀b∈fp,H' b=ae)->∀b∈fp,gP X pins H' b:=λhn b z=>⟨hn b z,(f2 b z).2⟩;refine codeAny_forLoop_any (λn s'=>∃i σ' H',Inv X pins σ' H' s'/\tn i s'.heap/\(∀b∈fp,H' b=ae)/\W i n σ' H') ?_ m0 ⟨0,σ,H2,I2,st2,λb z=>(f2 b z).1,w0⟩;rintro n s3 ⟨i,C,H3,I3,kF,U,w3⟩
 rcases turn i n C H3 w3 with⟨stop,qn⟩ |⟨go,N,hN,step⟩
 .refine nQ Y (thn (T.done X rfl rfl rfl hc i pins s3 C H3 X.xe I3 (B U) kF stop) λr s4 ⟨hr,I4⟩=>?_);subst hr;exact wpAny_execs_nil ⟨C,H3,I4,qn⟩
 .refine nQ Y (thn (T.item X rfl rfl rfl hc i pins s3 C H3 X.xe I3 (B U) kF go) λr s4 q_=>?_);obtain⟨u,hr,h4⟩:=q_;subst hr;refine nQ Y (thn h4 λ_ s5 q_=>?_);obtain⟨x,H5,I5,r5,y5,L,fr5⟩:=q_;refine nQ Y (thn (hg _ s5 C H5 x u _ (I5.pinned (B fr5) (T.obj _ _ L)) r5 (step x H5 y5)) λ_ s6 q_=>?_);obtain⟨σ6,H6,I6,q6⟩:=q_;refine nQ Y (thn (z _ s6 σ6 H6 _ I6 q6) λf s7 G=>?_)
  have again:∀{j:St} {p:Hp},Inv X _ j p s7->N j p->∃m,m<n/\∃i σ' H',Inv X pins σ' H' s7/\tn i s7.heap/\(∀b∈fp,H' b=ae)/\W i m σ' H':=λ{j p} q n7=>by
   obtain⟨m',hm,w7⟩:=hN j p n7;refine⟨m',hm,i+1,j,p,q.unpinned,T.keep _ _ _ L λb z o e=>(q.pin _ (gH _ (gH _ (qx z e)))).1,λb z=>?_,w7⟩;obtain⟨o,e,d⟩:=T.obj _ _ L b z;exact(q.pin _ (gH _ (gH _ (qx z e)))).2.1
  cases f with
  |next=>obtain⟨j,p,q,n7⟩:=G;exact again q n7
  |cont=>obtain⟨j,p,q,n7⟩:=G;exact again q n7
  |brk=>obtain⟨j,p,q,G⟩:=G;exact⟨j,p,q.unpinned,G⟩
  |ret v=>obtain⟨x7,j,p,q,r7,G⟩:=G;exact⟨x7,j,p,q.unpinned,r7,G⟩
@[reducible]noncomputable def R2:=V->V->Hp->VK->Prop
abbrev OpR(X:Cx)(f:Value->Value->Sem Value)(r:R2):Prop:=
 ∀(pins:PNS) (s:aM) (σ:St) (H:Hp) (x y:V) (v u:Value) (Q:VK),Inv X pins σ H s->bj x v->bj y u->r x y H Q ->
  wpAny (model X.prog X.w) X.A (f v u) (EP X pins σ Q) X.xe s
abbrev UnR(X:Cx)(f:Value->Sem Value)(r:V->Hp->VK->Prop):Prop:=
 ∀(pins:PNS) (s:aM) (σ:St) (H:Hp) (x:V) (v:Value) (Q:VK),Inv X pins σ H s->bj x v->r x H Q ->
  wpAny (model X.prog X.w) X.A (f v) (EP X pins σ Q) X.xe s
abbrev gr(X:Cx)(f:Value)(r:List V->Hp->VK->Prop):Prop:=
 ∀(pins:PNS) (s:aM) (σ:St) (H:Hp) (xs:List V) (us:LVa) (Q:VK),Inv X pins σ H s->aY xs us->r xs H Q ->
  wpAny (model X.prog X.w) X.A (call f us) (EP X pins σ Q) X.xe s
abbrev Cn(X:Cx)(r:V->Hp->(Bool->Hp->Prop)->Prop):Prop:=
 ∀(pins:PNS) (s:aM) (σ:St) (H:Hp) (x:V) (v:Value) (Q:Bool->Hp->Prop),Inv X pins σ H s->bj x v->r x H Q ->
  wpAny (model X.prog X.w) X.A (truthy v) (TP X pins σ Q) X.xe s
abbrev tOp(r:R2)(ta tb:TE):TE:=λσ H Q=>ta σ H λx H1=>tb σ H1 λy H2=>r x y H2 Q
abbrev tUn(r:V->Hp->VK->Prop)(ta:TE):TE:=λσ H Q=>ta σ H λx H1=>r x H1 Q
abbrev rI(C:Int->Int->Prop)(g:Int->Int->V):R2:=λx y H Q=>∃i j,x=.int i/\y=.int j/\C i j/\Q (g i j) H
abbrev rI0(g:Int->Int->V):R2:=λx y H Q=>∃i j,x=.int i/\y=.int j/\Q (g i j) H
abbrev rU(g:Int->V):V->Hp->VK->Prop:=λx H Q=>∃i,x=.int i/\Q (g i) H
variable{f:Value->Value->Sem Value}
def qz(ha:PE X a ta)(p:PE X b tb){R:V->V->Hp->Prop}(I:Inv X pins σ H s)
 (h:ta σ H λx H1=>tb σ H1 λy H2=>R x y H2){Q:PRS}
 (q:∀v u s2 x y H2,Inv X pins σ H2 s2->bj x v->bj y u->R x y H2->wpAny (model X.prog X.w) X.A (f v u) Q X.xe s2):
  wpAny (model X.prog X.w) X.A (eval a X.env) (λv d=>wpAny (model X.prog X.w) X.A (eval b X.env) (λu j=>wpAny (model X.prog X.w) X.A (f v u) Q X.xe j) X.xe d) X.xe s:=by
 refine thn (ha pins s σ H _ I h) λv s1 B=>?_;obtain⟨x,H1,m,C,r⟩:=B;exact thn (p pins s1 σ H1 _ m r) λu s2 ⟨y,H2,n,G,z⟩=>(q v u s2 x y H2 n C G z)
def um{r:R2}(m:OpR X (fq op) r)(ha:PE X a ta)(j:PE X b tb):PE X (.BinOp a op b pos) (tOp r ta tb):=by
 intro pins s σ H Q I h;exact wpAny_BinOp (qz ha j I h λv u s2 x y H2 d n p q=>m pins s2 σ H2 x y v u Q d n p q)
def Co{op:UnaryOp}{r:V->Hp->VK->Prop}(j:UnR X (unaryOp op) r)(ha:PE X a ta):PE X (.UnaryOp op a pos) (tUn r ta):=by
 intro pins s σ H Q I h;exact UnaryOp_ (thn (ha pins s σ H _ I h) λv s1 ⟨x,H1,d,n,m⟩=>j pins s1 σ H1 x v Q d n m)
def opI{C:Int->Int->Prop}{g:Int->Int->Int}
 (rule:∀(i j:Int) (t u:Tok) (s:aM) (Q:PRS) (E:PRS),C i j->Q (.int (g i j) s.toks) {s with toks:=s.toks+1}->wpAny (model X.prog X.w) X.A (f (.int i t) (.int j u)) Q E s):
  OpR X f (rI C λi j=>.int (g i j)):=by
 intro pins s σ H x y v u Q I m n h;obtain⟨i,j,rfl,rfl,d,q⟩:=h;obtain⟨t,rfl⟩:=m;obtain⟨t',rfl⟩:=n;exact rule i j t t' s _ _ d ⟨.int _,H,I.tok _,⟨_,rfl⟩,q⟩
def xJ{g:Int->Int->Int}
 (rule:∀(i j:Int) (t u:Tok) (s:aM) (Q:PRS) (E:PRS),Q (.int (g i j) s.toks) {s with toks:=s.toks+1}->wpAny (model X.prog X.w) X.A (f (.int i t) (.int j u)) Q E s):
  OpR X f (rI0 λi j=>.int (g i j)):=by
 intro pins s σ H x y v u Q I d m h;obtain⟨i,j,rfl,rfl,q⟩:=h;obtain⟨t,rfl⟩:=d;obtain⟨t',rfl⟩:=m;exact rule i j t t' s _ _ ⟨.int _,H,I.tok _,⟨_,rfl⟩,q⟩
def uq{g:Int->Int->Bool}
 (rule:∀(i j:Int) (t u:Tok) (s:aM) (Q:PRS) (E:PRS),Q (.bool (g i j)) s->wpAny (model X.prog X.w) X.A (f (.int i t) (.int j u)) Q E s):
  OpR X f (rI0 λi j=>.bl (g i j)):=by
 intro pins s σ H x y v u Q I d m h;obtain⟨i,j,rfl,rfl,q⟩:=h;obtain⟨t,rfl⟩:=d;obtain⟨t',rfl⟩:=m;exact rule i j t t' s _ _ ⟨.bl _,H,I,rfl,q⟩
abbrev nY(i j:Int):Prop:=0<j/\j<1073741824
abbrev n6(i j:Int):Prop:=0<=j/\j<=1000000/\i.natAbs<2 ^ 64
abbrev n8(i j:Int):Prop:=(-(2 ^ 64)<i/\i<2 ^ 64)\/(-(2 ^ 64)<j/\j<2 ^ 64)
variable{j:Int}
def n8.ok{i:Int}(h:n8 i j):IntMulOk i j:=by
 rcases h with⟨h1,h2⟩ |⟨h1,h2⟩
 .exact .of_left (intBits_le_64 h1 h2)
 .exact .of_right (intBits_le_64 h1 h2)
def Cp:OpR X (fq .Add) (rI0 λi j=>.int (i+j)):=xJ λ_ _ _ _ _ _ _ q=>add_int q
def Cq:OpR X (fq .Sub) (rI0 λi j=>.int (i-j)):=xJ λ_ _ _ _ _ _ _ q=>sub_int q
def Cr:OpR X (fq .FloorDiv) (rI nY λi j=>.int (i / j)):=opI λi j _ _ _ _ _ d q=>by
 have h1:=d.1;have h2:=d.2;exact floordiv_int (by lia) (by rw[Int.fdiv_eq_ediv_of_nonneg i (by lia)];exact q) (.inl (PyProof.noPylong_small (by lia)))
def Cs:OpR X (fq .Mod) (rI (λ_ j=>0<j) λi j=>.int (i % j)):=opI λi j _ _ _ _ _ d q=>by
 exact mod_int' (by lia) (by rw[Int.fmod_eq_emod_of_nonneg i (by lia)];exact q)
def Ct:OpR X (fq .Pow) (rI n6 λi j=>.int (i ^ j.toNat)):=opI λ_ _ _ _ _ _ _ d q=>pow_int_small d.1 d.2.1 d.2.2 q
def unI{f:Value->Sem Value}{g:Int->Int}
 (rule:∀(i:Int) (t:Tok) (s:aM) (Q:PRS) (E:PRS),Q (.int (g i) s.toks) {s with toks:=s.toks+1}->wpAny (model X.prog X.w) X.A (f (.int i t)) Q E s):
  UnR X f (rU λi=>.int (g i)):=by
 intro pins s σ H x v Q I d h;obtain⟨i,rfl,q⟩:=h;obtain⟨t,rfl⟩:=d;exact rule i t s _ _ ⟨.int _,H,I.tok _,⟨_,rfl⟩,q⟩
def Cu:UnR X (unaryOp .USub) (rU λi=>.int (-i)):=unI λ_ _ _ _ _ q=>neg_int q
abbrev ur:V->V->Bool
 |.non,.non=>ac |.non,.int _=>ac |.int _,.non=>ac |.non,.bl _=>ac |.bl _,.non=>ac |.non,.str _=>ac |.str _,.non=>ac
 |.int _,.int _=>ac |.bl _,.bl _=>ac |.str _,.str _=>ac |.byt _,.byt _=>ac
 |.int _,.str _=>ac |.str _,.int _=>ac |.bl _,.str _=>ac |.str _,.bl _=>ac
 | _,_=>ak
abbrev rEq:R2:=λx y H Q=>ur x y=ac/\Q (.bl (decide (x=y))) H
abbrev rNe:R2:=λx y H Q=>ur x y=ac/\Q (.bl (!decide (x=y))) H
def uu{i:Int}:decide (V.int i=V.int j)=(i==j):=by
 rw[jT];simp
def uv{i j:Bool}:decide (V.bl i=V.bl j)=(i==j):=by
 rw[jT];simp
def uw{i j:Str}:decide (V.str i=V.str j)=(i==j):=by
 rw[jT];simp
def xK{i j:Array UInt8}:decide (V.byt i=V.byt j)=(i.toList==j.toList):=by
 rw[jT];cases i;cases j;simp
def cL{Q:VK}{k d:Bool}(I:Inv X pins σ H s)(q:Q (.bl k) H)(e:k=d):EP X pins σ Q (.bool d) s:=by
 subst e;exact⟨.bl k,H,I,rfl,q⟩
def Cv:OpR X (du .Eq) rEq:=by
 intro pins s σ H x y v u Q I n d h;obtain⟨m,q⟩:=h
 cases x with
 |non=>
  cases n
  cases y with
  |non=>subst d;exact PySem.EqNone.eq_none_none (cL I q (by simp))
  |bl j=>subst d;exact PySem.EqNone.eq_none_bool (cL I q (by simp))
  |int j=>obtain⟨t',rfl⟩:=d;exact PySem.EqNone.eq_none_int (cL I q (by simp))
  |str j=>obtain⟨t',rfl⟩:=d;exact PySem.EqNone.eq_none_str (cL I q (by simp))
  | _=>exact absurd (m) cE
 |bl i=>
  subst n
  cases y with
  |non=>subst d;exact PySem.EqNone.eq_bool_none (cL I q (by simp))
  |bl j=>subst d;exact eq_bool (cL I q uv)
  |str j=>obtain⟨t',rfl⟩:=d;exact PySem.EqMixed.eq_bool_str (cL I q (by simp))
  | _=>exact absurd (m) cE
 |int i=>
  obtain⟨t,rfl⟩:=n
  cases y with
  |non=>subst d;exact PySem.EqNone.eq_int_none (cL I q (by simp))
  |int j=>obtain⟨t',rfl⟩:=d;exact eq_int (cL I q uu)
  |str j=>obtain⟨t',rfl⟩:=d;exact PySem.EqMixed.eq_int_str (cL I q (by simp))
  | _=>exact absurd (m) cE
 |str i=>
  obtain⟨t,rfl⟩:=n
  cases y with
  |non=>subst d;exact PySem.EqNone.eq_str_none (cL I q (by simp))
  |bl j=>subst d;exact PySem.EqMixed.eq_str_bool (cL I q (by simp))
  |int j=>obtain⟨t',rfl⟩:=d;exact PySem.EqMixed.eq_str_int (cL I q (by simp))
  |str j=>obtain⟨t',rfl⟩:=d;exact eq_str (cL I q uw)
  | _=>exact absurd (m) cE
 |byt i=>
  obtain⟨t,rfl⟩:=n
  cases y with
  |byt j=>obtain⟨t',rfl⟩:=d;exact W.eq_bytes (cL I q xK)
  | _=>exact absurd (m) cE
 | _=>cases y <;> exact absurd (show ak=ac from m) cE
def Cw:OpR X (du .NotEq) rNe:=by
 intro pins s σ H x y v u Q I n d h;obtain⟨m,q⟩:=h
 cases x with
 |non=>
  cases n
  cases y with
  |non=>subst d;exact PySem.EqNone.ne_none_none (cL I q (by simp))
  |bl j=>subst d;exact PySem.EqNone.ne_none_bool (cL I q (by simp))
  |int j=>obtain⟨t',rfl⟩:=d;exact PySem.EqNone.ne_none_int (cL I q (by simp))
  |str j=>obtain⟨t',rfl⟩:=d;exact PySem.EqNone.ne_none_str (cL I q (by simp))
  | _=>exact absurd (m) cE
 |bl i=>
  subst n
  cases y with
  |non=>subst d;exact PySem.EqNone.ne_bool_none (cL I q (by simp))
  |bl j=>subst d;exact ne_bool (cL I q (congrArg not uv))
  |str j=>obtain⟨t',rfl⟩:=d;exact PySem.EqMixed.ne_bool_str (cL I q (by simp))
  | _=>exact absurd (m) cE
 |int i=>
  obtain⟨t,rfl⟩:=n
  cases y with
  |non=>subst d;exact PySem.EqNone.ne_int_none (cL I q (by simp))
  |int j=>obtain⟨t',rfl⟩:=d;exact ne_int (cL I q (congrArg not uu))
  |str j=>obtain⟨t',rfl⟩:=d;exact PySem.EqMixed.ne_int_str (cL I q (by simp))
  | _=>exact absurd (m) cE
 |str i=>
  obtain⟨t,rfl⟩:=n
  cases y with
  |non=>subst d;exact PySem.EqNone.ne_str_none (cL I q (by simp))
  |bl j=>subst d;exact PySem.EqMixed.ne_str_bool (cL I q (by simp))
  |int j=>obtain⟨t',rfl⟩:=d;exact PySem.EqMixed.ne_str_int (cL I q (by simp))
  |str j=>obtain⟨t',rfl⟩:=d;exact ne_str (cL I q (congrArg not uw))
  | _=>exact absurd (m) cE
 |byt i=>
  obtain⟨t,rfl⟩:=n
  cases y with
  |byt j=>obtain⟨t',rfl⟩:=d;exact W.ne_bytes (cL I q (congrArg not xK))
  | _=>exact absurd (show ak=ac from m) cE
 | _=>cases y <;> exact absurd (show ak=ac from m) cE
def Cy:OpR X (du .Lt) (rI0 λi j=>.bl (decide (i<j))):=uq λ_ _ _ _ _ _ _ q=>lt_int q
def Cz:OpR X (du .LtE) (rI0 λi j=>.bl (decide (i<=j))):=uq λ_ _ _ _ _ _ _ q=>le_int q
def CA:OpR X (du .Gt) (rI0 λi j=>.bl (decide (j<i))):=uq λ_ _ _ _ _ _ _ q=>gt_int q
variable{op:CmpOp}
def ux(b:Expr)(h:op≠.In:=by decide)(h2:op≠.NotIn:=by decide):lh op b=ak:=by
 have d:(op==CmpOp.In)=ak:=by cases op <;> first |rfl |exact absurd rfl h
 have m:(op==CmpOp.NotIn)=ak:=by cases op <;> first |rfl |exact absurd rfl h2
 cases b <;> simp[lh,d,m]
variable{r:R2}
def CB(n:OpR X (du op) r)(ha:PE X a ta)(m:PE X b tb)(hm:lh op b=ak):PE X (.Compare a [op] [b] pos) (tOp r ta tb):=by
 intro pins s σ H Q I h;exact wpAny_Compare1 (qz ha m I h λv u s2 x y H2 d p z q=>n pins s2 σ H2 x y v u Q d p z q) hm
abbrev CC(t:TE):TT:=λσ H Q=>t σ H λx H'=>∃k,x=.bl k/\Q k H'
def xL(B:OpR X (du op) r)(ha:PE X a ta)(q:PE X b tb)(hm:lh op b=ak):PT X (.Compare a [op] [b] pos) (CC (tOp r ta tb)):=by
 intro pins s σ H Q I h
 refine wpAny_isTrue_Compare1 (thn (ha pins s σ H _ I h) λv s1 ⟨x,H1,m,L,C⟩=>thn (q pins s1 σ H1 _ m C) λu s2 ⟨y,H2,n,T,G⟩ =>
  thn (B pins s2 σ H2 x y v u _ n L T G) λc Y ⟨z,d,p,U,k,e,J⟩=>?_) hm
 subst e;subst U;exact mq ⟨d,p,J⟩
abbrev CD(r n:R2)(ta tb p:TE):TE:=λσ H Q=>ta σ H λx H1=>tb σ H1 λy H2=>r x y H2 λz d=>∃k,z=.bl k /\
 (if k=ac then p σ d λq m=>n y q m Q else Q (.bl ak) d)
variable{tc:TE}{op':CmpOp}{r':R2}
def CF(Y:OpR X (du op) r)(m:OpR X (du op') r')(ha:PE X a ta)(T:PE X b tb)(U:PE X c tc)
 (hm:lastMarks [op,op'] [b,c]=ak:=by with_unfolding_all rfl):PE X (.Compare a [op,op'] [b,c] pos) (CD r r' ta tb tc):=by
 intro pins s σ H Q I h
 refine Compare_chain (thn (ha pins s σ H _ I h) λv s1 ⟨x,H1,G,r1,q1⟩=>chain_link (thn (T pins s1 σ H1 _ G q1) λu s2 ⟨y,H2,J,B,q2⟩ =>
  thn (Y pins s2 σ H2 x y v u _ J r1 B q2) λd s3 ⟨z,n,p,r3,k,e,q⟩=>?_)) hm
 subst e;subst r3;refine mq ?_
 cases k with
 |false=>exact ite_ff ⟨.bl ak,n,p,rfl,q⟩
 |true=>exact ite_tt (chain_last (thn (U pins s3 σ n _ p q) λw' s4 ⟨z',C,L,r4,q4⟩=>m pins s4 σ C y z' u w' Q L B r4 q4))
abbrev uz(K:bu)(x:V)(H:Hp)(k:Bool):Prop:=
 match x with
 |.non=>k=ak
 |.bl b=>k=b
 |.int i=>k=(i != 0)
 |.str y=>y.length<=bE/\k=((y.length:Int) != 0)
 |.byt y=>y.size<=bE/\k=((y.size:Int) != 0)
 |.ref p=>(∃xs,SqL K H p xs/\k=!xs.isEmpty)\/(∃xs,SqT K H p xs/\k=!xs.isEmpty)\/∃kvs,H p=aa (.dK kvs)/\k=!kvs.isEmpty
 | _=>False
def CG{d:Type}{kvs:List (d×V)}{vs:List (d×Value)}(r:KV kvs vs):(!vs.isEmpty)=!kvs.isEmpty:=by
 cases r <;> rfl
def xM{its:LVa}(r:aY xs its):(!its.toArray.isEmpty)=!xs.isEmpty:=by
 cases r <;> simp
def oa:(bE:Nat)<2 ^ 63:=by rw[dD];decide
def CH:Cn X (λx H Q=>∃k,uz X.K x H k/\Q k H):=by
 intro pins s σ H x v Q I z h;obtain⟨k,e,q⟩:=h;have L:=dD
 cases x with
 |non=>
  subst z;have d:=e;subst d
  exact truthy_none ⟨H,I,q⟩
 |bl b=>
  subst z;have d:=e;subst d
  exact mq ⟨H,I,q⟩
 |int i=>
  obtain⟨t,rfl⟩:=z;have d:=e;subst d
  exact PySem.P.truthy_int ⟨H,I,q⟩
 |str y=>
  obtain⟨t,rfl⟩:=z;obtain⟨J,d⟩:y.length<=bE/\k=_:=e;subst d
  exact PySem.P.truthy_str (by lia) ⟨H,I.tok _,q⟩
 |byt y=>
  obtain⟨t,rfl⟩:=z;obtain⟨J,d⟩:y.size<=bE/\k=_:=e;subst d
  exact W.truthy_bytes (by lia) ⟨H,I.tok _,q⟩
 |ref p=>
  subst z;have d:=e
  rcases d with⟨xs,B,d⟩ |⟨xs,B,d⟩ |⟨kvs,B,d⟩
  .subst d;obtain⟨its,r,pl,C⟩:=I.list B;have n:=r.length;exact wpAny_truthy_list pl.isList (by simp only[size_toArray];lia) ⟨H,I.tok _,by rw[xM r];exact q⟩
  .subst d;obtain⟨its,r,pl,C⟩:=I.tuple B;have n:=r.length;exact truthy_tuple pl (by simp only[size_toArray];lia) ⟨H,I.tok _,by rw[xM r];exact q⟩
  .subst d;obtain⟨C,G,vs,r,m⟩:kvs.length<=bE/\(p==sysModules)=ak/\∃vs,KV kvs vs/\s.heap.DictOf (ua X.prog X.w) p vs:=I.hok p _ B;have n:=Paired.length r
   exact wpAny_truthy_dict G m (by lia) ⟨H,I.tok _,by rw[CG r];exact q⟩
 | _=>exact(show False from e).elim
def CI(ha:PE X a ta)(n:∀d,isTrue a X.env d=(do let v <- d;standAt a.pos;il [v] (truthy v))):
  PT X a (λσ H Q=>ta σ H λx H'=>∃k,uz X.K x H' k/\Q k H'):=by
 intro pins s σ H Q I h;exact isTrue_plain (thn (ha pins s σ H _ I h) λv s1 ⟨x,H1,m,q,p⟩=>CH pins s1 σ H1 x v Q m q p) (n _)
def CJ:OpR X (fq .Add) (λx y H Q=>∃i j,x=.str i/\y=.str j/\i.length+j.length<=bE/\Q (.str (i++j)) H):=by
 intro pins s σ H x y v u Q I m n h;obtain⟨i,j,rfl,rfl,d,q⟩:=h;obtain⟨t,rfl⟩:=m;obtain⟨t',rfl⟩:=n;exact add_str (λt' tk=>⟨.str _,H,I.tok _,⟨_,rfl⟩,q⟩) d
def CK:OpR X (inplaceOp .Add) (λx y H Q=>∃i j,x=.str i/\y=.str j/\i.length+j.length<=bE/\Q (.str (i++j)) H):=by
 intro pins s σ H x y v u Q I m n h;obtain⟨i,j,rfl,rfl,d,q⟩:=h;obtain⟨t,rfl⟩:=m;obtain⟨t',rfl⟩:=n;exact iadd_str (λt' tk=>⟨.str _,H,I.tok _,⟨_,rfl⟩,q⟩) d
abbrev xN(b:Expr):Prop:=∀o i,subscripted b ak o i=operate [o,i] (getItem o i)
def CL(ha:PE X a ta)(C:PE X b tb)(J:xN b):
  PE X (.Subscript a b pos) (tOp (λx y H Q=>∃z i c,x=.str z/\y=.int i/\0<=i/\i<2 ^ 63/\i<z.length/\z.cps[i.toNat]?=aa c/\Q (.str ⟨#[c]⟩) H) ta tb):=by
 intro pins s σ H Q I h;refine Subscript_ (qz ha C I h λv u s2 x y H2 d L T q=>?_);obtain⟨z,i,c,rfl,rfl,p,B,h1,G,q⟩:=q;obtain⟨t,rfl⟩:=L;obtain⟨t',rfl⟩:=T
 exact tail_any (typeIs_str s2 z t) slot_str_getitem.lookup (getItem_str (by
  have m:decide (i < -(2 ^ 63:Int))=ak:=decide_eq_false (by lia);have n:decide (i≥2 ^ 63)=ak:=decide_eq_false (by lia)
  rw[m,n] <;> rfl) (by rw[(PySem.StrLaws.seqIndex_nonneg p h1)];exact G) ⟨.str ⟨#[c]⟩,H2,d.tok _,⟨_,rfl⟩,q⟩) (J _ _)
variable{x:V}
def og(r:aY [x] us):∃u,us=[u]/\bj x u:=by
 cases r with
 |cons d m=>cases m;exact⟨_,rfl,d⟩
def mx(r:aY [x,y] us):∃u d,us=[u,d]/\bj x u/\bj y d:=by
 cases r with
 |cons m n=>
  cases n with
  |cons p q=>cases q;exact⟨_,_,rfl,m,p⟩
structure uA(h:Heap)(x dx C:Addr)(mA:MGT):Prop where
 obj:h.get? x=aa (W.instObj C dx)
 ns:h.Ns1 dx mA
 ne:dx≠x
variable{mA:MGT}
def CM{dx:Addr}(n:h.Ns1 dx mA):∃od,h.get? dx=aa od/\∀name,W.lookIn name od=aa (mA name):=by
 obtain⟨o,es,G,B,hd,p,_,hm⟩:=n;refine⟨o,B,λname=>?_⟩;have e:=hm name;unfold nsFind findBy at e;rw[<- Array.find?_toList]at e;unfold W.lookIn;rw[hd];dsimp only;split
 .rename_i y q;rw[q]at e;exact congrArg aa e
 .rename_i q;rw[q]at e
  have a:es.toList.any (·.refKey)=ak:=by
   rw[any_eq_false];intro y C;obtain⟨z,t,d⟩:=p y (Array.mem_toList_iff.mp C);simp[DictEntry.refKey,d]
  have m:¬es.toList.any (·.refKey)=ac:=by rw[a];exact cE
  rw[if_neg m];exact congrArg aa e
def uA.look{x dx C:Addr}(I:uA h x dx C mA):∃od,W.InstAt h x (W.instObj C dx) C (aa od)/\∀name,W.lookIn name od=aa (mA name):=
 let ⟨od,ho,hl⟩:=CM I.ns
 ⟨od,⟨I.obj,rfl,rfl,ho⟩,hl⟩
variable{a C:Addr}{fs:List (Str×V)}
def CN{dx:Addr}(hok:HOk P w H h)(e:H a=aa (.ins C dx fs)):∃mA,uA h a dx C mA/\(∀f,uc (fs.lookup f) (mA f))/\PySem.Within mA (fs.map (·.1))/\fs.length<=1000/\H dx=aa (.own a):=by
 obtain⟨d,z,ne,m,mA,n,r,q⟩:=(hok a _ e);exact⟨mA,⟨m,n,ne⟩,r,q,z,d⟩
structure Cls(K:bu)(C:Addr):Prop where
 pg:W.plainGet K C ln=ac
 hd:W.hasDictIn K C=ac
 po:W.plainOver K C=ac
 sa:jr K (.ref C) "__setattr__"=aa (aa (.builtin "object.__setattr__"))
def Cls.get(c:Cls K C)(f:Str):W.plainGet K C f=ac:=c.pg
inductive gs(K:bu)(H:Hp):V->Value->Prop where
 |non:gs K H .non (.type "NoneType")
 |bl (x:Bool):gs K H (.bl x) (.type "bool")
 |int (i:Int):gs K H (.int i) (.type "int")
 |str (x:Str):gs K H (.str x) (.type "str")
 |flt (x:UInt64):gs K H (.flt x) (.type "float")
 |lst {a:Addr} {xs:List V} (e:H a=aa (.lst xs)):gs K H (.ref a) (.type "list")
 |frz {a:Addr} {o:Obj} {xs:List V} (e:H a=aa (.frz o (.lst xs))):gs K H (.ref a) (.type "list")
 |tup {a:Addr} {xs:List V} (e:H a=aa (.tup xs)):gs K H (.ref a) (.type "tuple")
 |dK {a:Addr} {kvs:List (Key×V)} (e:H a=aa (.dK kvs)):gs K H (.ref a) (.type "dict")
 |dT {a:Addr} {kvs:List (List Key×V)} (e:H a=aa (.dT kvs)):gs K H (.ref a) (.type "dict")
 |ins {a C dx:Addr} {fs:List (Str×V)} (e:H a=aa (.ins C dx fs)) (cl:Cls K C) (ha:jr K (.ref C) "__class__"=aa (aa (.builtin "object.__class__")))
   (hn:W.specialIn K (.builtin "object.__class__") "__get__"=aa (aa (.builtin "getset_descriptor.__get__"))) (htk:W.takesIn K (.builtin "object.__class__")=aa ac)
   (hm:iq K C (.type "object")=aa ac):gs K H (.ref a) (.ref C)
variable{Q:PRS}{c u:Value}{b:Bool}
def CO{t:Value}(I:Inv X pins σ H s)(m:bj x u)(ty:gs X.K H x t)(e:ip X.K t c=aa b)(h:∀tk,Q (.bool b) {s with toks:=tk}):
  wpAny (model X.prog X.w) A (call (.builtin "isinstance") [u,c]) Q E s:=by
 cases ty with
 |non=>cases (m);exact gO W.kitx_none I.kIn nU e (λz=>nomatch z) h
 |bl y=>cases (m);exact gO W.kitx_bool I.kIn nU e (λz=>nomatch z) h
 |int i=>obtain⟨t,q⟩:=(m);subst q;exact gO W.kitx_int I.kIn nU e (λz=>nomatch z) h
 |str y=>obtain⟨t,q⟩:=(m);subst q;exact gO W.kitx_str I.kIn nU e (λz=>nomatch z) h
 |flt y=>obtain⟨t,q⟩:=(m);subst q;exact gO W.kitx_float I.kIn nU e (λz=>nomatch z) h
 | @lst a xs d=>
  cases (m);obtain⟨_,_,n,_,h1⟩:=(I.hok a _ d)
  exact gO W.kitx_list I.kIn ⟨_,h1,rfl⟩ e (λz=>nomatch z) h
 | @frz a G xs d=>
  cases (m);obtain⟨_,_,_,n,_,h1⟩:=(I.hok a _ d)
  exact gO W.kitx_list I.kIn ⟨_,h1,rfl⟩ e (λz=>nomatch z) h
 | @tup a xs d=>
  cases (m);obtain⟨_,_,_,p⟩:=(I.hok a _ d);obtain⟨o,h1,h2,_⟩:=p
  exact gO W.kitx_tuple I.kIn ⟨o,h1,h2⟩ e (λz=>nomatch z) h
 | @dK a kvs d=>
  cases (m);obtain⟨_,_,vs,_,p⟩:=(I.hok a _ d);obtain⟨o,es,B,h1,h2,_⟩:=p
  exact gO W.kitx_dict I.kIn ⟨o,h1,h2.1⟩ e (λz=>nomatch z) h
 | @dT a kvs d=>
  cases (m);obtain⟨_,_,xs,_,o,es,B,h1,h2,_⟩:=(I.hok a _ d)
  exact gO W.kitx_dict I.kIn ⟨o,h1,h2.1⟩ e (λz=>nomatch z) h
 | @ins a C dx fs d cl ha hn htk hm=>
  cases (m);obtain⟨mA,O,_⟩:=CN I.hok d;obtain⟨od,J,_⟩:=O.look;exact gO (W.kitx_own (cl.get _) cl.hd ha hn htk hm) I.kIn J e (λz=>nomatch z) h
structure cG(k:Nat)(A:dE):Prop where
 hd:A.handled=ae
 dp:A.depth+3*k+5<recursionLimit
 un:A.units+16*k+200<cLine
def cG.mono{j k:Nat}(r:cG k A)(h:j<=k):cG j A:=⟨r.hd,by have:=r.dp;lia,by have:=r.un;lia⟩
def cG.deeper{k:Nat}(r:cG (k+1) A)(env:Env):cG k (A.deeper env):=
 ⟨r.hd,by have:=r.dp;show A.depth+1+3*k+5<_;lia,by have:=r.un;show A.units+3+16*k+200<_;lia⟩
def cG.depth{k:Nat}(r:cG k A):A.depth<recursionLimit:=by have:=r.dp;lia
def cG.units{k:Nat}(r:cG k A):A.units+64<cLine:=by have:=r.un;lia
abbrev my:TA:=λ_ H Q=>Q [] H
abbrev mz(ta:TE)(d:TA):TA:=λσ H Q=>ta σ H λx H1=>d σ H1 λxs H2=>Q (x::xs) H2
def dg:PA X [] my:=λ_ _ _ _ H Q I h=>Calls.spliced_nil ⟨[],H,I,.nil,h⟩
variable{t:TA}
def cj(ha:PE X e te)(n:PA X es t)(p:StE X e es:=by rfl):PA X (e::es) (mz te t):=by
 intro pos pins s σ H Q I h;rw[p];exact qi (thn (ha pins s σ H _ I h) λu s1 ⟨x,H1,d,B,q⟩=>(thn (n pos pins s1 σ H1 _ d q) λus s2 ⟨xs,H2,m,G,z⟩=>⟨x::xs,H2,m,.cons B G,z⟩))
abbrev CP(t:TA):TE:=λσ H Q=>t σ H λxs H1=>xs.length<=bE/\∀p,H1 p=ae->Q (.ref p) (upd H1 p (.tup xs))
abbrev CQ(t:TA):TE:=λσ H Q=>t σ H λxs H1=>xs.length<=bE/\∀p,H1 p=ae->Q (.ref p) (upd H1 p (.lst xs))
def qA{x1}(h:PA X es t):PE X (.Tuple es x1 pos) (CP t):=by
 intro pins s σ H Q I m;refine wpAny_Tuple_spliced (thn (h pos pins s σ H _ I m) λus s1 ⟨xs,H1,d,r,z,q⟩=>⟨by rw[<- r.length];exact z,?_⟩);refine⟨.ref s1.heap.objs.size,upd H1 s1.heap.objs.size _,d.laid (λb u e=>eH _ e) (bC _) ?_,rfl,q _ (d.hok.fresh (bC _))⟩;exact⟨z,us,r,⟨_,fV _ rfl,rfl,_,rfl⟩⟩
def qB(h:PA X es t):PE X (.List es pos) (CQ t):=by
 intro pins s σ H Q I m;refine wpAny_List_spliced (thn (h pos pins s σ H _ I m) λus s1 ⟨xs,H1,d,r,z,q⟩=>⟨by rw[<- r.length];exact z,?_⟩);refine⟨.ref s1.heap.objs.size,upd H1 s1.heap.objs.size _,d.laid (λb u e=>eH _ e) (bC _) ?_,rfl,q _ (d.hok.fresh (bC _))⟩;exact⟨z,us,0,r,fV _ rfl⟩
@[reducible]noncomputable def Sp:=List V->Hp->VK->XK->Prop
@[reducible]noncomputable def CXT:=List Env->Hp->aM->XK->PRS
structure qC(P:dJ)(w:World)(K:bu)(mg:MGT)(base:Heap)(A:dE)(outer:List Env)(s:aM)(H:Hp):Prop where
 frames:A.frames=aa outer
 mod:Mod K mg base
 bs:∀b o,base.get? b=aa o->s.heap.get? b=aa o/\H b=ae
 bsz:base.objs.size<=s.heap.objs.size
 funs:s.heap.FunFrames base outer
 frf:∀b∈frs outer,H b=ae
 hok:HOk P w H s.heap
 bare:iT s.gens
abbrev CE(outer:List Env)(P:dJ)(w:World)(H:Hp)(s:aM)(Q:VK)(u:Value)(s':aM):Prop:=
 ∃v H',s'.os=s.os/\iT s'.gens/\Un (frs outer) [] H H' s.heap s'.heap/\HOk P w H' s'.heap/\bj v u/\Q v H'
abbrev CR(CX:CXT)(outer:List Env)(P:dJ)(w:World)(H:Hp)(s:aM)(Q:VK)(E:XK)(r:Result)(s':aM):Prop:=
 match r with
 |.ok (.ret u)=>CE outer P w H s Q u s'
 |.ok _=>False
 |.error e=>CX outer H s E e s'
structure e8(P:dJ)(w:World)(K:bu)(mg:MGT)(base:Heap)(CX:CXT)(k:Nat)(f:Addr)(fd:fu)(ps:LSt)(sp:Sp):Prop where
 len:∀vs H Q E,sp vs H Q E->vs.length=ps.length
 run:∀(A:dE) (outer:List Env) (s:aM) (H:Hp) (args:Args) (us:LVa) (vs:List V) (Q:VK) (E:XK),cG k A->qC P w K mg base A outer s H->BindsTo s fd args (ps.zip us)->aY vs us->sp vs H Q E ->
  iU (model P w) A (.call (.ref f) args) (CR CX outer P w H s Q E) s
variable{mg:MGT}{base:Heap}{CX:CXT}{f:Addr}{fd:fu}{ps:LSt}{sp:Sp}
def e8.imp{k:Nat}{d:Sp}(F:e8 P w K mg base CX k f fd ps sp)
 (h:∀vs H Q E,d vs H Q E->sp vs H Q E):e8 P w K mg base CX k f fd ps d:=
 ⟨λvs H Q E q=>F.len vs H Q E (h _ _ _ _ q),λA outer s H args us vs Q E p n m B z=>F.run A outer s H args us vs Q E p n m B (h _ _ _ _ z)⟩
def Inv.env0(I:Inv X pins σ H s):qC X.prog X.w X.K X.mg X.base X.A X.stack s H:=
 ⟨I.ok.frames,I.ok.mod,I.bs,dq I.ok.bsz I.sz,I.stack,I.stkFree,I.hok,I.bare⟩
variable{Q:VK}
def Inv.after(I:Inv X pins σ H s)(h:CE X.stack X.prog X.w H s Q u s'):EP X pins σ Q u s':=by
 obtain⟨v,H',os,bare,un,hok,r,q⟩:=h;obtain⟨n,g,d,t,m⟩:=s';obtain rfl:m=s.os:=os;exact⟨v,H',I.call un hok bare (λb z=>absurd z (by simp)),r,q⟩
abbrev CS(sp:Sp)(d:List V)(E:XK)(t:TA):TE:=λσ H Q=>t σ H λvs H1=>sp (vs++d) H1 Q E
abbrev lv(K:bu)(fd:fu)(ps:LSt)(ds:LVa):Prop:=
 ∀(s:aM) (us:LVa),K.In s.heap->(us++ds).length=ps.length->BindsTo s fd ⟨us,[]⟩ (ps.zip (us++ds))
def lv.all(h:∀us:LVa,us.length=ps.length->bindArgs fd ⟨us,[]⟩=pure (ps.zip us)):lv K fd ps []:=λs us _ d=>by
 rw[cV]at d ⊢;exact .of_eq (h us d)
abbrev lw(CX:CXT)(X:Cx)(E:XK):Prop:=∀(pins:PNS) (σ:St) (H:Hp) (s:aM) (e:Value) (s':aM),Inv X pins σ H s->CX X.stack H s E e s'->X.xe e s'
variable{dvs vs:List V}{ds:LVa}{E:XK}
def CT{k:Nat}(F:e8 X.prog X.w X.K X.mg X.base CX k f fd ps sp)(z:cG k X.A)(p:lv X.K fd ps ds)(hd:aY dvs ds)(B:lw CX X E)
 (I:Inv X pins σ H s)(r:aY vs us)(h:sp (vs++dvs) H Q E):wpAny (model X.prog X.w) X.A (call (.ref f) us) (EP X pins σ Q) X.xe s:=by
 have m:=r.append hd;have q:(us++ds).length=ps.length:=by rw[<- m.length];exact F.len _ _ _ _ h
 refine wpAny_call (nR (F.run X.A X.stack s H ⟨us,[]⟩ _ _ Q E z I.env0 (p s us I.kIn q) m h) λr s' d=>?_)
 cases r with
 |error e=>exact B pins σ H s e s' I d
 |ok n=>
  cases n with
  |ret u=>exact I.after d
  |next=>exact iP d
  |brk=>exact iP d
  |cont=>exact iP d
variable{x:Str}{p:Pos}
def jX{k:Nat}(F:e8 X.prog X.w X.K X.mg X.base CX k f fd ps sp)(L:cG k X.A)(G:Gl X x)(hm:X.mg x=aa (.ref f))(J:W.keepIn X.K (.ref f)=ac)(z:lv X.K fd ps ds)(hd:aY dvs ds)(T:lw CX X E)
 (ha:PA X (e::es) t)(d:NDb x:=by decide)(B:StE X e es:=by rfl)(m:BkE X pos es:=by rfl):
  PE X (.Call (.Name x p) (e::es) [] pos) (CS sp dvs E t):=by
 intro pins s σ H Q I h;refine lc (nW I G hm ?_ d);exact W.callWith_K I.ok.mod.kin J (thn (ha pos pins s σ H _ I h) λus s1 ⟨vs,H1,n,r,q⟩=>⟨n.kIn,(CT F L z hd T n r q)⟩) B m
structure bZ(N P:LSt)(sc:Scope):Prop where
 kind:sc.kind=.function
 co:sc.isCoroutine=ak
 gen:sc.isGenerator=ak
 nd:N.Nodup
 pre:N.take P.length=P
 par:∀x∈P,sc.names.lookup x=aa .local\/sc.names.lookup x=aa .cell
 nofree:∀y∈sc.names,y.2≠.free
def xO{kindOf:Str->Option fU}{x:Str}:∀{binds:List (Str×Value)} {m:MGT},(∀v,(x,v)∉binds)->bindL kindOf binds m x=m x
 | [],_,_=>rfl
 |(n,v)::r,m,h=>by
  unfold bindL;rw[xO λw d=>h w (cF _ d)];split
  .have:x≠n:=by rintro rfl;exact h v bP
   simp[this]
  .rfl
def xP{kindOf:Str->Option fU}{x:Str}:∀{binds:List (Str×Value)} {m:MGT},(∀v,(x,v)∉binds)->bindC kindOf binds m x=m x
 | [],_,_=>rfl
 |(n,v)::r,m,h=>by
  unfold bindC;rw[xP λw d=>h w (cF _ d)];split
  .rfl
  .have:x≠n:=by rintro rfl;exact h v bP
   simp[this]
def xQ{kindOf:Str->Option fU}{x:Str}{v:Value}:∀{P:LSt} {vs:LVa} {i:Nat} {m:MGT},P.Nodup->P[i]?=aa x->vs[i]?=aa v->kindOf x=aa .local ->
  bindL kindOf (P.zip vs) m x=aa v
 | [],_,_,_,_,h,_,_=>by simp at h
 | _::_,[],_,_,_,_,h,_=>by simp at h
 |p::P,w::vs,0,m,nd,h1,h2,hk=>by
  simp at h1 h2;subst h1;subst h2;show bindL kindOf (_::P.zip vs) m p=_;unfold bindL;rw[xO λv d=>(gj.mp nd).1 (of_mem_zip d).1,if_pos hk]
  simp
 |p::P,w::vs,i+1,m,nd,h1,h2,hk=>by
  show bindL kindOf (_::P.zip vs) m x=_;exact xQ (gj.mp nd).2 (by simpa using h1) (by simpa using h2) hk
def xR{kindOf:Str->Option fU}{x:Str}{v:Value}:∀{P:LSt} {vs:LVa} {i:Nat} {m:MGT},P.Nodup->P[i]?=aa x->vs[i]?=aa v->kindOf x≠aa .local ->
  bindC kindOf (P.zip vs) m x=aa v
 | [],_,_,_,_,h,_,_=>by simp at h
 | _::_,[],_,_,_,_,h,_=>by simp at h
 |p::P,w::vs,0,m,nd,h1,h2,hk=>by
  simp at h1 h2;subst h1;subst h2;show bindC kindOf (_::P.zip vs) m p=_;unfold bindC;rw[xP λv d=>(gj.mp nd).1 (of_mem_zip d).1,if_neg hk]
  simp
 |p::P,w::vs,i+1,m,nd,h1,h2,hk=>by
  show bindC kindOf (_::P.zip vs) m x=_;exact xR (gj.mp nd).2 (by simpa using h1) (by simpa using h2) hk
abbrev start(N:LSt)(vs:List V):St:=vs.map aa++mh (N.length-vs.length) ae
abbrev gQ(CX:CXT)(P:dJ)(w:World)(K:bu)(mg:MGT)(base:Heap)(N:LSt)(qual:Str)(scope:Scope)(f:Addr)(cd:Value)(A:dE)(outer:List Env)(s:aM)(H:Hp)(E:XK):Cx where
 prog:=P
 w:=w
 K:=K
 mg:=mg
 base:=base
 A:=A.deeper (gm qual scope s.heap.objs.size f cd)
 N:=N
 s₀:=s
 H₀:=H
 env:=gm qual scope s.heap.objs.size f cd
 outer:=outer
 stack:=gm qual scope s.heap.objs.size f cd::outer
 ex:=[]
 calm:=ac
 fn:=λ_=>ac
 pn:=[]
 xe:=λe s'=>wpAny (model P w) (A.deeper (gm qual scope s.heap.objs.size f cd)) (leaving (gm qual scope s.heap.objs.size f cd) e) (λ_ s''=>CX outer H s E e s'') (λe' s''=>CX outer H s E e' s'') s'
variable{n:Nat}
def xS{sc:Scope}(h:sc.names.lookup x=aa .cell):∃c,(cellsFrom n sc.names []).lookup x=aa c:=by
 exact Option.isSome_iff_exists.mp (W.cellsFrom_some sc.names n [] (.inl h))
variable{qual:Str}{scope:Scope}
def CU{J:Value}{outer:List Env}{s1:aM}
 (S:bZ N ps scope)(hd:A.handled=ae)(d:qC P w K mg base A outer s H)(hl:vs.length=ps.length)(r:aY vs us)
 (x:InCallC s s.heap.objs.size (bindL (gm qual scope s.heap.objs.size f J).kindOf (ps.zip us) λ_=>ae) (cellsFrom (s.heap.objs.size+1) scope.names []) (bindC (gm qual scope s.heap.objs.size f J).kindOf (ps.zip us) λ_=>ae) s1):
  Inv (gQ CX P w K mg base N qual scope f J A outer s H E) [] (start N vs) H s1:=by
 have U:ps.length<=N.length:=by have:=congrArg g6 S.pre;rw[eY]at this;lia
 obtain⟨h1,tk,rfl,L⟩:=x.done;have B:∀b:Addr,b∉(gQ CX P w K mg base N qual scope f J A outer s H E).ex:=λb z=>absurd (show b∈([]:LAd)from z) (by simp)
 refine⟨⟨d.mod,S.kind,rfl,rfl,bC _,λy z c h1 h2=>?_,λy m=>?_,λy c _ h=>?_,λ_=>hd,dE.frames_deeper d.frames,.inr ⟨rfl,rfl⟩,λb z=>absurd z (B b),d.bs,d.bsz,λb _ _=>B b,λb z=>absurd z (B b),d.funs,d.frf⟩,
  rfl,d.bare,Un.kept L,⟨_,x.toInCall.ns,λi y v h1 h2 h3=>?_⟩,λy c h=>⟨_,x.cell y c h⟩,d.hok.fresh (bC _),λy c h=>?_,λp G=>absurd (show p∈([]:List _)from G) (by simp),d.hok.kept L,?_⟩
 .exact name_of_addr x.apart (nP h1) (nP h2)
 .have m:=m
  rcases m with m |m
  .exact xS m
  .exact absurd rfl (S.nofree _ (nP m))
 .exact iS (x.above y c (nP h))
 .have hi:i<vs.length:=by
   unfold start at h2
   by_cases hi:i<vs.length
   .exact hi
   .rw[me (by simpa using hi)]at h2;rw[tO]at h2
    split at h2 <;> nomatch h2
  have ha:vs[i]?=aa v:=by
   unfold start at h2;rw[nN (by simpa using hi),fm]at h2
   cases e:vs[i]? with
   |none=>rw[e]at h2;nomatch h2
   |some a=>rw[e]at h2;cases h2;rfl
  obtain⟨u,T,Y⟩:=r.get ha
  have G:ps[i]?=aa y:=by
   rw[<- S.pre,List.getElem?_take_of_lt (by lia)];exact h1
  have I:ps.Nodup:=by rw[<- S.pre];exact S.nd.sublist (take_sublist _ _)
  refine⟨u,Y,?_⟩
  rcases S.par y (p7 G)with k |k
  .exact .inl ⟨k,xQ I G T k⟩
  .obtain⟨c,e⟩:=xS k;refine .inr ⟨.inl k,c,e,?_⟩;have q:=x.cell y c e;rw[xR I G T (by show scope.names.lookup y≠_;rw[k];decide)]at q;exact q
 .exact d.hok.fresh (iS (x.above y c (nP h)))
 .unfold start;show _=N.length;rw[bh,aW,jU];lia
variable{name:Str}{an od:Option Addr}{osl:Array (Option Value)}
def xT{k:Nat}{params:Arguments}{dV kV doc pm cdv ct oc:Value}
  (lk:K.lookup f=aa ⟨oc,od,.func (W.fnOf name qual params body scope dV kV doc pm an cdv ct),osl⟩)(T:W.codeIn K cdv qual=ac)(S:bZ N ps scope)
 (len:∀vs H Q E,sp vs H Q E->vs.length=ps.length)
 (d:∀ (A:dE) (outer:List Env) (s:aM) (H:Hp) (vs:List V) (Q:VK) (E:XK),cG k (A.deeper (gm qual scope s.heap.objs.size f cdv))->sp vs H Q E ->
   ∃t,PSs (gQ CX P w K mg base N qual scope f cdv A outer s H E) body t/\t {nx:=λ_ H'=>Q .non H',rt:=Q} (start N vs) H):
  e8 P w K mg base CX (k+1) f (W.fnOf name qual params body scope dV kV doc pm an cdv ct) ps sp:=by
 refine⟨len,λA outer s H args us vs Q E U B hb r L=>?_⟩;have KX:=B.mod.kin.keeps λb o e=>(B.bs b o e).1
 have m:∀y∈ps.zip us,scope.names.lookup y.1=aa .local\/(scope.names.lookup y.1=aa .cell/\((cellsFrom (s.heap.objs.size+1) scope.names []).lookup y.1).isSome=ac):=λ⟨n,v⟩ hy=>by
  rcases S.par n (of_mem_zip hy).1 with q |q
  .exact .inl q
  .exact .inr ⟨q,W.cellsFrom_some _ _ _ (.inl q)⟩
 refine codeAny_call_function U.depth (KX _ _ lk) rfl S.co S.gen rfl (W.codeRec_of KX T) (hb _ _ _ _ ?_);refine wpAny_newFunctionEnv_cells S.kind m λenv he s1 x=>?_;subst he;refine⟨(B.mod.nolimit.keeps λb o e=>(B.bs b o e).1).keeps x.toInCall.keep,codeAny_func ?_⟩;obtain⟨t,ht,hq⟩:=d A outer s H vs Q E (U.deeper _) L;have I:Inv (gQ CX P w K mg base N qual scope f cdv A outer s H E) [] _ H s1:=CU S U.hd B (len _ _ _ _ L) r x;refine e7 (ht [] s1 _ H _ I hq) (λfl s' z=>?_) λe s' z=>z
 have G:∀{σ':St} {H':Hp} {v:V} {u:Value},Inv (gQ CX P w K mg base N qual scope f cdv A outer s H E) [] σ' H' s'->bj v u->Q v H'->CE outer P w H s Q u s':=
  λ{σ' H' v u} J Y q=>⟨v,H',J.os,J.bare,J.base,J.hok,Y,q⟩
 cases fl with
 |ret u=>
  obtain⟨v,σ',H',J,Y,q⟩:=z
  exact G J Y q
 |next=>
  obtain⟨σ',H',J,q⟩:=z
  exact G (v:=V.non) J rfl q
 |brk=>
  obtain⟨_,_,_,q⟩:=z
  exact iP q
 |cont=>
  obtain⟨_,_,_,q⟩:=z;exact iP q
abbrev tCB(r:List V->Hp->VK->Prop)(t:TA):TE:=λσ H Q=>t σ H λvs H1=>r vs H1 Q
variable{r:List V->Hp->VK->Prop}
def mC{id:String}(z:gr X (.builtin id) r)(G:Gl X x)(hm:X.mg x=ae)(J:gL x=aa (.builtin id))(ha:PA X (e::es) t)(hn:x ≠ "__name__":=by decide)(d:NDb x:=by decide)
 (B:StE X e es:=by rfl)(m:BkE X pos es:=by rfl):PE X (.Call (.Name x p) (e::es) [] pos) (tCB r t):=by
 intro pins s σ H Q I h;exact lc (jv I G hm J (xo (thn (ha pos pins s σ H _ I h) λus s1 ⟨vs,H1,q,T,L⟩=>z pins s1 σ H1 vs us Q q T L) B m) hn d)
variable{T:String}
def CV(z:gr X (.type T) r)(G:Gl X x)(hm:X.mg x=ae)(J:gL x=aa (.type T))(ha:PA X (e::es) t)(hn:x ≠ "__name__":=by decide)(d:NDb x:=by decide)
 (B:StE X e es:=by rfl)(m:BkE X pos es:=by rfl):PE X (.Call (.Name x p) (e::es) [] pos) (tCB r t):=by
 intro pins s σ H Q I h;exact lc (jv I G hm J (mn (thn (ha pos pins s σ H _ I h) λus s1 ⟨vs,H1,q,U,L⟩=>z pins s1 σ H1 vs us Q q U L) B m) hn d)
end L2
namespace HT
open List
open PySem PyProof.Rows
open PySem.SeqAt
open PySem.AutoSeq1 (wpAny_loadPart')
open PySem.MeetsSeq PySem.MeetsSeq2 PySem.MeetsSeq3
abbrev sIx(n d:Nat):Option Int->Nat
 |none=>d
 |some v=>if v<0 then (v+(n:Int)).toNat else min v.toNat n
def sIx_none(n d:Nat):sIx n d ae=d:=rfl
def sIx_nat(n d k:Nat):sIx n d (aa (k:Int))=min k n:=by
 show(if k<0 then (k+(n:Int)).toNat else min (k:Int).toNat n)=min k n;rw[if_neg (by lia),kX]
end HT
namespace L2
open List
open PySem PySem.Spec PyProof.Rows
@[reducible]noncomputable def TO:=St->Hp->(Option Int->Hp->Prop)->Prop
abbrev PO(X:Cx)(e:Option Expr)(t:TO):Prop:=
 ∀(pins:PNS) (s:aM) (σ:St) (H:Hp) (Q:Option Int->Hp->Prop),Inv X pins σ H s->t σ H Q ->
  wpAny (model X.prog X.w) X.A (evalPart e X.env) (λu s'=>∃o H',Inv X pins σ H' s'/\IsPart u o/\Q o H') X.xe s
abbrev CW:TO:=λ_ H Q=>Q ae H
abbrev CY(t:TE):TO:=λσ H Q=>t σ H λx a=>∃i,x=.int i/\Q (aa i) a
variable{X:Cx}
def qE:PO X ae CW:=by
 intro pins s σ H Q I h;exact c6 ⟨ae,H,I,.none,h⟩
variable{e:Expr}{te:TE}
def uB(h:PE X e te):PO X (aa e) (CY te):=by
 intro pins s σ H Q I c;refine thn (h pins s σ H _ I c) λu s1 f=>?_;obtain⟨x,a,b,g,d⟩:=f;obtain⟨i,rfl,q⟩:=d;obtain⟨t,rfl⟩:=g;exact⟨aa i,a,b,.int i t,q⟩
variable{lo hi:Option Expr}
abbrev SlR(X:Cx)(r:V->Option Int->Option Int->Hp->VK->Prop):Prop:=
 ∀(pins:PNS) (s:aM) (σ:St) (H:Hp) (x:V) (v a b:Value) (lo hi:Option Int) (sl:Addr) (Q:VK),Inv X pins σ H s->bj x v->s.heap.IsSliceOf sl a b .none->IsPart a lo->IsPart b hi->r x lo hi H Q ->
  ∃T id,typeLookup (.type T) "__getitem__"=pure (aa (.builtin id))/\s.TypeIs v T/\wpAny (model X.prog X.w) X.A (getItem v (.ref sl)) (EP X pins σ Q) X.xe s
abbrev tSl(r:V->Option Int->Option Int->Hp->VK->Prop)(te:TE)(f d:TO):TE:=λσ H Q=>te σ H λx a=>f σ a λl b=>d σ b λu c=>r x l u c Q
variable{tl th:TO}{pos p2:Pos}
def uD{r:V->Option Int->Option Int->Hp->VK->Prop}(A:SlR X r)(w:PE X e te)(z:PO X lo tl)(C:PO X hi th):PE X (.Subscript e (.Slice lo hi ae p2) pos) (tSl r te tl th):=by
 intro pins s σ H Q I h;refine Subscript_ (thn (w pins s σ H _ I h) λv s1 c=>?_);obtain⟨x,i,m,M,G⟩:=c;refine wpAny_Slice (thn (z pins s1 σ i _ m G) λd s2 ⟨l,j,n,pl,J⟩=>thn (C pins s2 σ j _ n J) λf a c=>?_);obtain⟨u,g,o,E,L⟩:=c;refine c6 ?_
 have p:Inv X pins σ g {a with heap:=a.heap.push {cls:=.type "slice",data:=.fields #[d,f,.none]}}:=o.kept λb N q=>eH _ q
 obtain⟨T,id,t,B,y⟩:=A pins {a with heap:=a.heap.push {cls:=.type "slice",data:=.fields #[d,f,.none]}} σ g x v d f l u a.heap.objs.size Q p M (xr ..) pl E L
 exact tail_any B t y (by with_unfolding_all rfl)
abbrev mD(xs:List V)(lo hi:Option Int):List V:=(xs.drop (HT.sIx xs.length 0 lo)).take (HT.sIx xs.length xs.length hi-HT.sIx xs.length 0 lo)
def CZ(xs:List V)(lo hi:Option Int):(mD xs lo hi).length<=xs.length:=by
 unfold mD;rw[eY,gi];lia
abbrev ixN(n:Nat)(i:Int):Option Nat:=if 0<=i then (if i<n then aa i.toNat else ae) else if -(n:Int)<=i then aa (i+n).toNat else ae
abbrev atI{a:Type}(xs:List a)(i:Int):Option a:=(ixN xs.length i).bind λj=>xs[j]?
variable{n j:Nat}{i:Int}
def xU(h:ixN n i=aa j):seqIndex? i n=aa j/\j<n/\-(n:Int)<=i/\i<n:=by
 unfold ixN at h
 by_cases b:0<=i
 .rw[if_pos b]at h
  by_cases a:i<n
  .rw[if_pos a]at h;have e:=cs h;exact⟨by rw[seqIndex_of b a,e],by lia,by lia,a⟩
  .rw[if_neg a]at h;nomatch h
 .rw[if_neg b]at h
  by_cases a:-n<=i
  .rw[if_pos a]at h;have e:=cs h;exact⟨by rw[seqIndex_neg (by lia) a,e],by lia,a,by lia⟩
  .rw[if_neg a]at h;nomatch h
def xV{a:Type}{xs:List a}{v:a}(h:atI xs i=aa v):∃j,seqIndex? i xs.length=aa j/\xs[j]?=aa v/\j<xs.length/\-(xs.length:Int)<=i/\i<xs.length:=by
 unfold atI at h
 cases e:ixN xs.length i with
 |none=>rw[e]at h;nomatch h
 |some j=>
  rw[e]at h;obtain⟨b,c,d,f⟩:=xU e;exact⟨j,b,h,c,d,f⟩
abbrev uE(b:Expr):Prop:=∀o i,subscripted b ak o i=operate [o,i] (getItem o i)
abbrev IxR(X:Cx)(r:R2):Prop:=
 ∀(value slice:Expr) (pins:PNS) (s:aM) (σ:St) (H:Hp) (x y:V) (v u:Value) (Q:VK),Inv X pins σ H s->bj x v->bj y u->r x y H Q ->
  subscripted slice ak v u=operate [v,u] (getItem v u)->wpAny (model X.prog X.w) X.A (subscriptTail value slice v u) (EP X pins σ Q) X.xe s
abbrev MtR(X:Cx)(id:String)(r:V->List V->Hp->VK->Prop):Prop:=
 ∀(pins:PNS) (s:aM) (σ:St) (H:Hp) (x:V) (xs:List V) (v:Value) (us:LVa) (Q:VK),Inv X pins σ H s->bj x v->aY xs us->r x xs H Q ->
  wpAny (model X.prog X.w) X.A (call (.builtin id) (v::us)) (EP X pins σ Q) X.xe s
variable{r r':R2}
def IxR.or(h:IxR X r)(h':IxR X r'):IxR X (λx y H Q=>r x y H Q\/r' x y H Q):=by
 intro value slice pins s σ H x y v u Q I b c q a
 rcases q with q |q
 .exact h value slice pins s σ H x y v u Q I b c q a
 .exact h' value slice pins s σ H x y v u Q I b c q a
variable{a b:Expr}{ta tb:TE}
def xW(g:IxR X r)(ha:PE X a ta)(f:PE X b tb)(l:uE b):PE X (.Subscript a b pos) (tOp r ta tb):=by
 intro pins s σ H Q I h;exact Subscript_ (qz ha f I h λv u s2 x y c d m o q=>g a b pins s2 σ c x y v u Q d m o q (l _ _))
abbrev xX(K:bu):R2:=λx y H Q=>∃p xs i v,x=.ref p/\y=.int i/\SqL K H p xs/\atI xs i=aa v/\Q v H
abbrev xY(K:bu):R2:=λx y H Q=>∃p xs i v,x=.ref p/\y=.int i/\SqT K H p xs/\atI xs i=aa v/\Q v H
def xZ:IxR X (xX X.K):=by
 intro value slice pins s σ H x y v u Q I L M h o;obtain⟨p,xs,i,z,rfl,rfl,J,E,q⟩:=h;subst L;obtain⟨t,rfl⟩:=M;obtain⟨its,r,pl,T⟩:=I.list J;obtain⟨j,d,A,N,B,C⟩:=xV E;obtain⟨w,l,g⟩:=r.get A;have G:=r.length;have hn:=oa;have c:EP X pins σ Q w s:=⟨z,H,I,g,q⟩
 by_cases m:0<=i
 .have f:i.toNat=j:=by
   rw[seqIndex_of m C]at d;exact cs d
  exact item_listR pl.isList m (by lia) (by rw[f];simpa using l) c o
 .have f:(i+its.toArray.size).toNat=j:=by
   rw[seqIndex_neg (by lia) B]at d;rw[size_toArray,<- G];exact cs d
  exact subscriptTail_builtinR pl.isList.typeIs slot_list_getitem.lookup
   (wpAny_getItem_list_neg pl.isList (by lia) (by rw[size_toArray] <;> lia) (by lia) (by rw[f];simpa using l) ⟨rfl,c⟩) o
def x6:IxR X (xY X.K):=by
 intro value slice pins s σ H x y v u Q I B C h A;obtain⟨p,xs,i,z,rfl,rfl,o,m,q⟩:=h;subst B;obtain⟨t,rfl⟩:=C;obtain⟨its,r,pl,L⟩:=I.tuple o;obtain⟨j,g,l,E,G,J⟩:=xV m;obtain⟨w,f,d⟩:=r.get l;have hn:=oa;have c:EP X pins σ Q w s:=⟨z,H,I,d,q⟩
 exact subscriptTail_builtinR pl.typeIs slot_tuple_getitem.lookup
  (getItem_tuple pl (by lia) (by lia) (by rw[size_toArray,<- r.length];exact g) (by simpa using f) ⟨rfl,c⟩) A
def C0(its:LVa)(n j:Nat)(u:Value):Obj.mapSeq (·.setIfInBounds j u) {cls:=.type "list",data:=.seq its.toArray n}={cls:=.type "list",data:=.seq (its.set j u).toArray n}:=by
 simp[Obj.mapSeq]
variable{pins:PNS}{σ:St}{H:Hp}{s:aM}{p:Addr}{xs:List V}
def Inv.lst(I:Inv X pins σ H s)(h:H p=aa (.lst xs)):
  ∃(its:LVa) (n:Nat),aY xs its/\s.heap.get? p=aa {cls:=.type "list",data:=.seq its.toArray n}/\xs.length<=bE:=by
 obtain⟨z,its,n,r,e⟩:=I.hok p _ h;exact⟨its,n,r,e,z⟩
variable{ys:List V}{n':Nat}
def Inv.lstUpd{its c:LVa}{f:Obj->Obj}(I:Inv X pins σ H s)(h:H p=aa (.lst xs))
 (l:s.heap.get? p=aa {cls:=.type "list",data:=.seq its.toArray n})(d:f {cls:=.type "list",data:=.seq its.toArray n}={cls:=.type "list",data:=.seq c.toArray n'})(r:aY ys c)(m:ys.length<=bE)(t:Nat):
  Inv X pins σ (upd H p (.lst ys)) {s with heap:=s.heap.update p f,toks:=t}:=by
 have e:(s.heap.update p f).get? p=aa {cls:=.type "list",data:=.seq c.toArray n'}:=by
  rw[Heap.get?_update_self f l (by rw[d] <;> rfl),d]
 exact I.write (by rw[h];trivial) (.inl rfl) (λb u g q=>(Heap.get?_update_other _ _ (eE g)).trans q) ⟨_,e⟩ ⟨m,c,n',r,e⟩
abbrev uF:V->V->V->Hp->(Hp->Prop)->Prop:=λo i v H Q=>∃p xs k j,o=.ref p/\i=.int k/\H p=aa (.lst xs)/\ixN xs.length k=aa j/\Q (upd H p (.lst (xs.set j v)))
def x8:xB X uF:=by
 intro pins s σ H o i v ov J u Q I C B E h;obtain⟨p,xs,k,j,rfl,rfl,y,z,q⟩:=h;subst C;obtain⟨t,rfl⟩:=B;obtain⟨its,n,r,g,A⟩:=I.lst y;obtain⟨c,G,w,x⟩:=xU z;have f:=r.length;have hn:=oa
 have l:Inv X pins σ _ {s with heap:=s.heap.update p _}:=
  I.lstUpd y g (C0 its n j u) (r.set E j) (by rw[gk];exact A) s.toks
 by_cases m:0<=k
 .have d:k.toNat=j:=by
   rw[seqIndex_of m x]at c;exact cs c
  exact W.ki_setAt g m (by lia) (by rw[size_toArray,<- f];exact x) (by rw[d];exact⟨_,l,q⟩)
 .have d:(k+its.toArray.size).toNat=j:=by
   rw[seqIndex_neg (by lia) w]at c;rw[size_toArray,<- f];exact cs c
  exact W.ki_setBack g (by lia) (by rw[size_toArray,<- f];exact w) (by lia) (by rw[d];exact⟨_,l,q⟩)
def C1(lo hi:Option Int)(n:Nat):(li lo hi ae n).1=((HT.sIx n 0 lo:Nat):Int)/\(li lo hi ae n).2.1=((HT.sIx n n hi:Nat):Int)/\(li lo hi ae n).2.2=1:=by
 refine⟨?_,?_,rfl⟩
 .cases lo with
  |none=>simp[li,HT.sIx]
  |some i=>
   simp only[li,HT.sIx,Option.getD_none]
   by_cases h:i<0
   .simp only[h,if_true] <;> lia
   .simp only[h,if_false] <;> lia
 .cases hi with
  |none=>simp[li,HT.sIx]
  |some i=>
   simp only[li,HT.sIx,Option.getD_none]
   by_cases h:i<0
   .simp only[h,if_true] <;> lia
   .simp only[h,if_false] <;> lia
def x9(its:LVa)(lo hi:Option Int):slicePick its.toArray lo hi ae=((its.drop (HT.sIx its.length 0 lo)).take (HT.sIx its.length its.length hi-HT.sIx its.length 0 lo)).toArray:=by
 obtain⟨c,d,f⟩:=C1 lo hi its.toArray.size;unfold slicePick;rw[c,d,f]
 simp only[sliceRange_one,pick_run] <;> rfl
abbrev C3(K:bu):V->Option Int->Option Int->Hp->VK->Prop:=λx lo hi H Q=>∃a xs,x=.ref a/\SqL K H a xs/\∀p,H p=ae->Q (.ref p) (upd H p (.lst (mD xs lo hi)))
def ya:SlR X (C3 X.K):=by
 intro pins s σ H x v u w lo hi sl Q I o f pl m h;obtain⟨a,xs,rfl,g,q⟩:=h;subst o;obtain⟨its,r,d,l⟩:=I.list g;have c:=r.length;refine⟨"list",_,slot_list_getitem.lookup,d.isList.typeIs,?_⟩
 refine wpAny_getItem_list_slice d.isList f pl m .none (by simp) ?_ (by rw[size_toArray] <;> lia)
 rw[x9,<- c];refine⟨.ref s.heap.objs.size,_,I.laid (λb t q=>eH _ q) (bC _) ?_,rfl,q _ (I.hok.fresh (bC _))⟩;exact⟨dq (CZ xs lo hi) l,_,0,(r.drop _).take _,fV _ rfl⟩
abbrev fN:V->Bool
 |.non=>ac
 |.bl _=>ac
 |.int _=>ac
 |.str _=>ac
 | _=>ak
abbrev eqV:V->V->Bool
 |.non,.non=>ac
 |.bl a,.bl b=>a==b
 |.bl a,.int b=>(if a then 1 else 0)==b
 |.int a,.bl b=>a==(if b then 1 else 0)
 |.int a,.int b=>a==b
 |.str a,.str b=>a==b
 | _,_=>ak
variable{y x:V}{u v:Value}
def yb{A:dE}(f:bj y u)(c:bj x v)(g:fN y=ac)(d:fN x=ac):c7 A s u v (eqV y x):=by
 cases y with
 |non=>
  cases f
  cases x with
  |non=>subst c;exact tZ _
  |bl b=>subst c;exact c7.none_bool b
  |int b=>obtain⟨t,rfl⟩:=c;exact c7.none_int b t
  |str b=>obtain⟨t,rfl⟩:=c;exact c7.none_str b t
  | _=>exact absurd (d) cE
 |bl a=>
  subst f
  cases x with
  |non=>subst c;exact c7.bool_none a
  |bl b=>subst c;exact c7.bool_bool a b
  |int b=>obtain⟨t,rfl⟩:=c;exact c7.bool_int a b t
  |str b=>obtain⟨t,rfl⟩:=c;exact c7.bool_str a b t
  | _=>exact absurd (d) cE
 |int a=>
  obtain⟨t',rfl⟩:=f
  cases x with
  |non=>subst c;exact c7.int_none a t'
  |bl b=>subst c;exact c7.int_bool a t' b
  |int b=>obtain⟨t,rfl⟩:=c;exact c7.int_int a t' b t
  |str b=>obtain⟨t,rfl⟩:=c;exact c7.int_str a t' b t
  | _=>exact absurd (d) cE
 |str a=>
  obtain⟨t',rfl⟩:=f
  cases x with
  |non=>subst c;exact c7.str_none a t'
  |bl b=>subst c;exact c7.str_bool a t' b
  |int b=>obtain⟨t,rfl⟩:=c;exact c7.str_int a t' b t
  |str b=>obtain⟨t,rfl⟩:=c;exact c7.str_str a t' b t
  | _=>exact absurd (d) cE
 | _=>exact absurd (g) cE
abbrev eqU(x:V)(u:Value):Bool:=match u with
 |.none=>eqV .non x
 |.bool b=>eqV (.bl b) x
 |.int i _=>eqV (.int i) x
 |.str z _=>eqV (.str z) x
 | _=>ak
def yc(r:bj y u)(f:fN y=ac):eqU x u=eqV y x:=by
 cases y with
 |non=>subst r;rfl
 |bl b=>subst r;rfl
 |int i=>obtain⟨t,rfl⟩:=r;rfl
 |str z=>obtain⟨t,rfl⟩:=r;rfl
 | _=>exact absurd (f) cE
def oh{x:V}:∀{xs:List V} {us:LVa},aY xs us->xs.all fN=ac->us.any (eqU x)=xs.any λy=>eqV y x
 | _,_,.nil,_=>rfl
 |y::xs,u::us,.cons r t,f=>by
  rw[iR,cx]at f;rw[k7,k7,yc r f.1,oh t f.2]
def oi{A:dE}{s:aM}{x:V}{v:Value}(g:bj x v)(d:fN x=ac):∀{xs:List V} {us:LVa},aY xs us->xs.all fN=ac->∀u∈us,c7 A s u v (eqU x u)
 | _,_,.nil,_=>λu c=>by nomatch c
 |y::xs,u::us,.cons r t,f=>λh c=>by
  rw[iR,cx]at f
  rcases bG.mp c with rfl |c
  .rw[yc r f.1];exact yb r g f.1 d
  .exact oi g d t f.2 h c
abbrev inV(x:V)(xs:List V):Bool:=xs.any λy=>eqV y x
abbrev rIn(K:bu)(neg:Bool):R2:=λx y H Q=>∃p xs,y=.ref p/\(SqL K H p xs\/SqT K H p xs)/\fN x=ac/\xs.all fN=ac/\Q (.bl (if neg then !inV x xs else inV x xs)) H
def C4:OpR X (du .In) (rIn X.K ak):=by
 intro pins s σ H x y v u Q I g m h;obtain⟨p,xs,rfl,c,f,fs,q⟩:=h;subst m
 rcases c with c |c
 .obtain⟨its,r,pl,l⟩:=I.list c;refine SeqAt.in_listAt _ pl.isList (λw d=>oi g f r fs w (by simpa using d)) ⟨.bl _,H,I,rfl,?_⟩;rw[show its.toArray.any _=its.any (eqU x) by simp,oh r fs];exact q
 .obtain⟨its,r,pl,l⟩:=I.tuple c;refine SeqAt.in_tupleAt _ pl (λw d=>oi g f r fs w (by simpa using d)) ⟨.bl _,H,I,rfl,?_⟩;rw[show its.toArray.any _=its.any (eqU x) by simp,oh r fs];exact q
def C5:OpR X (du .NotIn) (rIn X.K ac):=by
 intro pins s σ H x y v u Q I g m h;obtain⟨p,xs,rfl,c,f,fs,q⟩:=h;subst m
 rcases c with c |c
 .obtain⟨its,r,pl,l⟩:=I.list c;refine SeqAt.notIn_listAt _ pl.isList (λw d=>oi g f r fs w (by simpa using d)) ⟨.bl _,H,I,rfl,?_⟩;rw[show its.toArray.any _=its.any (eqU x) by simp,oh r fs];exact q
 .obtain⟨its,r,pl,l⟩:=I.tuple c;refine SeqAt.notIn_tupleAt _ pl (λw d=>oi g f r fs w (by simpa using d)) ⟨.bl _,H,I,rfl,?_⟩;rw[show its.toArray.any _=its.any (eqU x) by simp,oh r fs];exact q
def C6:gr X (.builtin "len") (λxs H Q=>∃p ys,xs=[.ref p]/\(SqL X.K H p ys\/SqT X.K H p ys)/\Q (.int ys.length) H):=by
 intro pins s σ H xs us Q I r h;obtain⟨p,ys,rfl,d,q⟩:=h;obtain⟨u,rfl,g⟩:=og r;subst g;have hn:=oa
 rcases d with d |d
 .obtain⟨its,r',pl,f⟩:=I.list d;have c:=r'.length
  exact Calls.call_len_list pl.isList (by simp only[size_toArray] <;> lia) ⟨.int ys.length,H,I.tok _,⟨s.toks+1,by rw[size_toArray,c]⟩,q⟩
 .obtain⟨its,r',pl,f⟩:=I.tuple d;have c:=r'.length
  exact len_tuple pl (by simp only[size_toArray] <;> lia) ⟨.int ys.length,H,I.tok _,⟨s.toks+1,by rw[size_toArray,c]⟩,q⟩
def C7:gr X (.builtin "len") (λxs H Q=>∃z,xs=[.str z]/\z.length<=bE/\Q (.int z.length) H):=by
 intro pins s σ H xs us Q I r h;obtain⟨z,rfl,c,q⟩:=h;obtain⟨u,rfl,t,rfl⟩:=og r;have hn:=oa;exact len_str (by lia) ⟨.int z.length,H,I.tok _,⟨_,rfl⟩,q⟩
def C8:gr X (.type "list") (λxs H Q=>∃p ys,xs=[.ref p]/\(SqL X.K H p ys\/SqT X.K H p ys)/\∀l,H l=ae->Q (.ref l) (upd H l (.lst ys))):=by
 intro pins s σ H xs us Q I r h;obtain⟨p,ys,rfl,g,q⟩:=h;obtain⟨u,rfl,A⟩:=og r;subst A
 have d:∀its,aY ys its->ys.length<=bE->∀h' c,_ ->
   h'.get? s.heap.objs.size=aa {cls:=.type "list",dict:=ae,data:=.seq its.toArray c,slots:=#[]}->EP X pins σ Q _ {s with heap:=h'}:=λits r' m h' c kp e=>
  ⟨.ref s.heap.objs.size,_,I.laid kp (bC _) (show fM X.prog X.w _ h' _ (.lst ys)from⟨m,its,c,r',e⟩),rfl,q _ (I.hok.fresh (bC _))⟩
 rcases g with g |g
 .obtain⟨its,r',pl,m⟩:=I.list g;have f:=r'.length;obtain⟨o,z,t,n,hd⟩:=pl.isList
  exact call_list_seq p (.inl rfl) z t hd (λh' c kp e=>d its r' m h' c kp e) (by simp only[size_toArray] <;> lia)
 .obtain⟨its,r',pl,m⟩:=I.tuple g;have f:=r'.length;obtain⟨o,z,t,n,hd⟩:=pl
  exact call_list_seq p (.inr rfl) z t hd (λh' c kp e=>d its r' m h' c kp e) (by simp only[size_toArray] <;> lia)
abbrev tyV(K:bu)(T:String)(x:V)(H:Hp):Prop:=match x with
 |.str _=>T="str"
 |.int _=>T="int"
 |.ref p=>(T="list" /\ ∃xs,SqL K H p xs)\/(T="tuple" /\ ∃o,K.lookup p=aa o/\o.cls=.type "tuple" /\ o.dict=ae) \/
   (T="dict" /\ ((∃kvs,H p=aa (.dK kvs))\/∃kvs,H p=aa (.dT kvs)))\/(T="set" /\ ∃S n,H p=aa (.set S n))
 | _=>False
variable{T:String}
def C9(I:Inv X pins σ H s)(r:bj x v)(ty:tyV X.K T x H):
  s.TypeIs v T/\∀a,v=.ref a->∃g,s.heap.get? a=aa g/\g.dict=ae:=by
 cases x with
 |str z=>
  obtain⟨t,rfl⟩:=r;cases (ty)
  exact⟨typeIs_str s z t,λ_ e=>nomatch e⟩
 |int i=>
  obtain⟨t,rfl⟩:=r;cases (ty)
  exact⟨typeIs_int s i t,λ_ e=>nomatch e⟩
 |ref p=>
  subst r
  rcases ty with⟨rfl,xs,l⟩ |⟨rfl,o,d,h,hd⟩ |⟨rfl,d⟩ |⟨rfl,S,n,d⟩
  .obtain⟨its,_,pl,_⟩:=I.list l;refine⟨pl.isList.typeIs,λa e=>?_⟩;cases e;obtain⟨o,n,e,c,hd,_⟩:=pl;exact⟨o,e,hd⟩
  .refine⟨⟨o,I.kIn p o d,h⟩,λa e=>?_⟩;cases e;exact⟨o,I.kIn _ o d,hd⟩
  .have z:∃o,s.heap.get? p=aa o/\o.ExactDict:=by
    rcases d with⟨kvs,d⟩ |⟨kvs,d⟩
    .obtain⟨_,_,_,_,o,_,_,e,ex,_⟩:=I.hok p _ d;exact⟨o,e,ex⟩
    .obtain⟨_,_,_,_,o,_,_,e,ex,_⟩:=I.hok p _ d;exact⟨o,e,ex⟩
   obtain⟨o,e,ex⟩:=z;refine⟨⟨o,e,ex.1⟩,λa f=>?_⟩;cases f;exact⟨o,e,ex.2.1⟩
  .obtain⟨o,_,_,_,e,ex,_⟩:=I.hok p _ d;refine⟨⟨o,e,ex.1⟩,λa f=>?_⟩;cases f
   exact⟨o,e,ex.2.1⟩
 | _=>exact iP ty
abbrev tBM(K:bu)(T:String)(r:V->List V->Hp->VK->Prop)(to:TE)(t:TA):TE:=λσ H Q=>to σ H λx c=>tyV K T x c/\t σ c λxs d=>r x xs d Q
variable{o:Expr}{es:LEx}{t:TA}{name:Str}{apos c3:Pos}{r:V->List V->Hp->VK->Prop}
def eQ{to:TE}{id:String}(pa:PlainAttrs T)(slot:Slot T name id)(l:typeOf (.builtin id)=pure (.type "method_descriptor"))(hm:MtR X id r)(G:PE X o to)(ha:PA X (e::es) t)
 (d:attributeBase o name X.env (eval o X.env)=eval o X.env:=by rfl)
 (g:((eG c3 (aX (e::es) X.env)).all (λx=>!x.1) && (backToKw c3 (keywordEach [] X.env)).all (λx=>x.1.isSome)
   && decide ((e::es).length+([]:List Keyword).length+(if ([]:List Keyword).isEmpty then 0 else 1)<30))=ac:=by rfl)
 (f:(apos.endLine==c3.line)=ac:=by rfl)(J:StE X e es:=by rfl)(c:(eG c3 (aX es X.env)).any (·.1)=ak:=by rfl):
  PE X (.Call (.Attribute o name apos) (e::es) [] c3) (tBM X.K T r to t):=by
 intro pins s σ H Q I h;refine wpAny_Call_method_late d g f rfl (thn (G pins s σ H _ I h) λv s1 N=>?_);obtain⟨x,z,m,w,ty,L⟩:=N;obtain⟨C,E⟩:=C9 m w ty;refine⟨T,id,pa,slot,l,C,E,?_⟩;have q:=ha c3 pins s1 σ z _ m L;rw[J]at q ⊢
 exact Calls.callWith_builtin (by show(ak || (eG c3 _).any (·.1))=ak;rw[c] <;> rfl) (Calls.evalArgs_plain (thn q λus s2 ⟨vs,A,B,U,M⟩=>hm pins s2 σ A x vs v us Q B w U M))
abbrev MtM(X:Cx)(id:String)(r:V->List V->Hp->VK->Prop):Prop:=
 ∀(pins:PNS) (s:aM) (σ:St) (H:Hp) (x:V) (xs:List V) (v:Value) (us:LVa) (Q:VK),Inv X pins σ H s->bj x v->aY xs us->r x xs H Q ->
  wpAny (model X.prog X.w) X.A (call (.builtin id) (v::us)) (EP X pins σ Q) X.xe s
def aY.one:∀{x:V} {us:LVa},aY [x] us->∃u,us=[u]/\bj x u
 | _,_,.cons r .nil=>⟨_,rfl,r⟩
variable{us:LVa}
def aY.reverse(h:aY xs us):aY xs.reverse us.reverse:=by
 induction h with
 |nil=>exact .nil
 |cons r t c=>rw[reverse_cons,reverse_cons];exact aY.append c (.cons r .nil)
variable{l:Addr}{t':Nat}
def Inv.lset{its c:LVa}{f:Array Value->Array Value}(I:Inv X pins σ H s)(d:H l=aa (.lst xs))
 (e:s.heap.get? l=aa {cls:=.type "list",data:=.seq its.toArray n})(h:f its.toArray=c.toArray)(w:aY ys c)(z:ys.length<=bE):
  Inv X pins σ (upd H l (.lst ys)) {s with heap:=s.heap.update l (Obj.mapSeq f),toks:=t'}:=by
 have q:=PySem.IsL.update e f;rw[h]at q;exact I.write (by rw[d];exact trivial) (.inl rfl) (λA u g m=>(Heap.get?_update_other s.heap _ (eE g)).trans m) ⟨_,q⟩ ⟨z,c,_,w,q⟩
def Inv.lnew{its:LVa}(I:Inv X pins σ H s)(c:aY ys its)(d:ys.length<=bE):
  Inv X pins σ (upd H s.heap.objs.size (.lst ys)) {s with heap:=s.heap.push {cls:=.type "list",data:=.seq its.toArray},toks:=t'}:=
 I.laid (λ_ _ q=>eH _ q) (bC _) ⟨d,its,0,c,fV _ rfl⟩
def Inv.fresh(I:Inv X pins σ H s):H s.heap.objs.size=ae:=I.hok.fresh (bC _)
def Inv.lstM(I:Inv X pins σ H s)(c:H l=aa (.lst xs)):xs.length<=bE/\∃(its:LVa) (n:Nat),aY xs its/\xs.length=its.length/\s.heap.get? l=aa {cls:=.type "list",data:=.seq its.toArray n}:=by
 obtain⟨z,its,n,r,e⟩:=I.hok l _ c;exact⟨z,its,n,r,r.length,e⟩
def yd(h:n<=bE):xq n=ak:=by
 exact decide_eq_false (by lia)
abbrev oj:V->List V->Hp->VK->Prop:=λx vs H Q=>∃l xs y,x=.ref l/\vs=[y]/\H l=aa (.lst xs)/\xs.length<bE/\Q .non (upd H l (.lst (xs++[y])))
def gt:MtM X "list.append" oj:=by
 intro pins s σ H x vs v us Q I g f h;obtain⟨l,xs,y,rfl,rfl,c,w,q⟩:=h;subst g;obtain⟨u,rfl,d⟩:=f.one;obtain⟨z,its,n,r,m,e⟩:=I.lstM c;refine call_meets F.slot_list_append ⟨_,e,rfl⟩ F.entry_list_append (F.args_list_append_2 _ _) (PySem.list_append l its.toArray n u (by rw[size_toArray];lia)) ⟨e,?_⟩;refine⟨.non,_,I.lset c e (by simp) (r.append (.cons d .nil)) ?_,rfl,q⟩;rw[bh,fS];lia
abbrev ye:V->List V->Hp->VK->Prop:=λx vs H Q=>∃l b xs c,x=.ref l/\vs=[.ref b]/\H l=aa (.lst xs)/\H b=aa (.lst c)/\xs.length+c.length<=bE/\Q .non (upd H l (.lst (xs++c)))
def Da:MtM X "list.extend" ye:=by
 intro pins s σ H x vs v us Q I J G h;obtain⟨l,b,xs,U,rfl,rfl,g,w,M,q⟩:=h;subst J;obtain⟨u,rfl,E⟩:=G.one;subst E;obtain⟨z,its,n,r,L,e⟩:=I.lstM g;obtain⟨N,c,B,C,A,m⟩:=I.lstM w;have f:its.toArray.size+c.toArray.size<=bE:=by rw[size_toArray,size_toArray];lia
 have d:¬(!its.toArray.isEmpty && xq (its.toArray.size+c.toArray.size))=ac:=by
  rw[yd f,Bool.and_false];exact cE
 refine call_meets F.slot_list_extend ⟨_,e,rfl⟩ F.entry_list_extend (F.args_list_extend_2 _ _)
  (AutoSeq1.list_extend_list_list_0 l its.toArray n b c.toArray B d (by rw[size_toArray];lia) (by lia)) ⟨e,m,?_⟩
 refine⟨.non,_,I.lset g e (by simp) (r.append C) ?_,rfl,q⟩;rw[bh];lia
abbrev Db:R2:=λx y H Q=>∃l b xs c,x=.ref l/\y=.ref b/\H l=aa (.lst xs)/\H b=aa (.lst c)/\xs.length+c.length<=bE/\∀p,H p=ae->Q (.ref p) (upd H p (.lst (xs++c)))
def yf:OpR X (fq .Add) Db:=by
 intro pins s σ H x y v u Q I B C h;obtain⟨l,b,xs,M,rfl,rfl,m,g,G,q⟩:=h;subst B;subst C;obtain⟨z,its,n,r,E,e⟩:=I.lstM m;obtain⟨L,c,J,A,w,d⟩:=I.lstM g;refine PySem.P.add_list e d ?_ (by rw[size_toArray,size_toArray];lia);have f:its.toArray++c.toArray=(its++c).toArray:=by simp
 rw[f];exact⟨.ref _,_,I.lnew (r.append A) (by rw[bh];lia),rfl,q _ I.fresh⟩
end L2
namespace Att
open List
open PySem PySem.W PySem.Calls PyProof.Rows
variable{P:Params}{h:Heap}
def Dc:∀(ns:List Int) (vs:LVa),WellAll P h vs (ns.map WData.int)->IntsAre vs ns:=by
 intro ns
 induction ns with
 |nil=>
  intro vs w;cases w
  exact .nil
 |cons n ns c=>
  intro vs w
  cases w with
  |cons a b=>
   cases a;exact .cons _ _ (c _ b)
variable{l:OpenLaw}{n:Nat}
def Dd(hn:l.most=aa n){args:List WData}{c:LVa}
 (b:l.row.toRowW.claim.pre args=ac)(j:WellAll P h c args):
  ∃a vs ns,c=[jq a]/\args=[WData.list (ns.map WData.int)]/\h.get? a=aa {cls:=.type "list",data:=.seq vs.toArray}/\IntsAre vs ns/\ns.length<=n:=by
 obtain⟨d,r,rfl,m,o⟩:=hasAllW_cons ((pre_splitW b).1);obtain rfl:=hasAllW_nil o;obtain⟨xs,rfl,p⟩:=hasW_list m;obtain⟨ns,rfl⟩:=items_int p
 have f:ns.length<=n:=by
  have g:(WTm.not (.lt (.lit (.int n)) (.len (.arg 0)))).holds [] {args:=[.list (ns.map .int)]}=ac:=by
   have g:=(holds_andW ((pre_splitW b).2)).1;rw[hn]at g;exact g
  have i:=condW_of g (w_not (w_lt w_lit (w_len_list (w_arg rfl))))
  first
   |(rw[decide_eq_true q']at i;exact absurd i (by decide))
   |(simp at i;lia)
 cases j with
 |cons s t=>
  cases t
  cases s with
  |list q e=>exact⟨_,_,ns,rfl,rfl,q,Dc ns _ e,f⟩
def De(l:OpenLaw)(args:List WData):l.row.toRowW.claim.post args (.bool ac) args=ac:=
 postW_of
  (show WShape.has [] _ .bool=ac by first |rfl |decide |simp[WShape.has])
  (w_eq_bool (w_res rfl) w_lit) rfl
variable{q:dJ}{fx:LSt}{XP:MGT->Heap->Prop}{YP:World->Heap->Prop}{d:DefRec}
def attach_call
 (hn:l.most=aa n)(p:d.params.defaults=[])
 (call:∀ (w:World) (s₀ b:aM) (mg mb:MGT) (fa:Addr) (o:Obj) (pm j doc:Value) (a:Addr) (vs:LVa) (ns:List Int),
   Ground q fx [] XP w s₀ mg mb b.heap->YP w b.heap ->
   b.heap.get? fa=aa o->o.data=.func (docDef d.name d.params d.body d.scope pm j doc)->b.heap.CodeRec j d.name->mg d.name=aa (.ref fa) ->
   b.heap.get? a=aa {cls:=.type "list",data:=.seq vs.toArray}->IntsAre vs ns->ns.length<=n->b.gens=#[] ->
   iU (model l.prog w) callerA (.call (.ref fa) ⟨[.ref a],[]⟩) (λr s'=>r=.ok (.ret (.bool ac))/\OldK b.heap s'.heap/\s'.os=b.os/\iT s'.gens) b):
  WalkO q fx XP YP l.row.toRowW d [] (λf vs=>PySem.call f vs):=by
 intro w s₀ b mg mb G Y fa o pm j doc y kV H hd m u s C args x L i v J t E;obtain rfl:y=.none:=Dflts.none u p;obtain rfl:kV=.none:=Dflts.noKw u;obtain⟨a,vs,ns,rfl,rfl,g,c,e⟩:=Dd hn i t;refine enter_call (nR (call w s₀ b mg mb fa o pm j doc a vs ns G Y H (fd_plain hd) m s g c e C) λr s' I=>?_);obtain⟨rfl,z,A,B⟩:=I;exact⟨.inl ⟨.bool ac,.bool ac,[],rfl,λ_=>rfl,.bool ac,De l _,λ_=>⟨List.Pairwise.nil,λ_ hm=>(nomatch hm)⟩⟩,z,A,B⟩
end Att
namespace L2
open List
open PySem PySem.Spec PyProof.Rows
def yg:∀{vs:LVa} {ns:List Int},IntsAre vs ns->aY (ns.map V.int) vs
 | _,_,.nil=>.nil
 | _,_,.cons n t h=>.cons ⟨t,rfl⟩ (yg h)
abbrev qF(H:Hp):Prop:=∀b,H b=ae\/∃o xs,H b=aa (.frz o (.lst xs))
variable{P:dJ}{w:World}{K:bu}{mg:MGT}{a:Addr}{fd:fu}{x:Str}{ns:List Int}
def Dg{mb:MGT}{CX:CXT}{k:Nat}{fa:Addr}{sp:Sp}{c:aM}{vs:LVa}
 (N:K.In c.heap)(y:c.heap.Ns cu mg)(g:c.heap.Ns builtinsNs mb)(I:∀x:Str,x ≠ "__name__" -> mb x=gL x)(t:c.heap.NoLimit)(hg:c.gens=#[])
 (ha:c.heap.get? a=aa {cls:=.type "list",data:=.seq vs.toArray})(hi:IntsAre vs ns)(Y:ns.length<=bE)(hr:cG k callerA)
 (F:∀base:Heap,K.In base->base.Ns cu mg->e8 P w K mg base CX k fa fd [x] sp)(l:∀(s:aM) (u:Value),BindsTo s fd ⟨[u],[]⟩ [(x,u)])
 (L:∀H:Hp,qF H->SqL K H a (ns.map V.int)->sp [.ref a] H (λv _=>v=.bl ac) λ_ _ _=>False)
 (G:∀H e s',CX [] H c (λ_ _ _=>False) e s'->False):
  iU (model P w) callerA (.call (.ref fa) ⟨[.ref a],[]⟩) (λr s'=>r=.ok (.ret (.bool ac))/\OldK c.heap s'.heap/\s'.os=c.os/\iT s'.gens) c:=by
 have rv:=yg hi
 have j:∀H:Hp,qF H->SqL K H a (ns.map V.int)->HOk P w H c.heap->(∀b,H b≠ae->b=a)->(H a≠ae->K.lookup a=ae) ->
   iU (model P w) callerA (.call (.ref fa) ⟨[.ref a],[]⟩) (λr s'=>r=.ok (.ret (.bool ac))/\OldK c.heap s'.heap/\s'.os=c.os/\iT s'.gens) c:=by
  intro H U hS hok T hK;have f:∀{b:Addr} {o:Obj},c.heap.get? b=aa o->H b=ae->(mv c.heap H).get? b=aa o:=λe n=>BN e n
  have M:∀{b:Addr} {o:Obj} {es:Array DictEntry} {C:Nat},c.heap.get? b=aa o->o.data=.dict es C->H b=ae:=λ{b o es C} e d=>by
   cases q:H b with
   |none=>rfl
   |some u=>
    have E:=T b (by rw[q];simp);subst E;rw[ha]at e;cases e
    nomatch d
  have i:∀{b:Addr} {m:MGT},c.heap.Ns b m->(mv c.heap H).Ns b m:=λ{b m} ⟨o,es,C,e,d,r⟩=>⟨o,es,C,f e (M e d),d,r⟩
  have p:=λb o e=>f (N b o e) (by
   cases q:H b with
   |none=>rfl
   |some u=>
    have E:=T b (by rw[q];simp);subst E;rw[hK (by rw[q];simp)]at e;nomatch e)
  have hM:Mod K mg _:=⟨p,i y,⟨mb,i g,I⟩,let ⟨mc,h1,h2⟩:=t;⟨mc,i h1,h2⟩⟩;have e0:qC P w K mg _ callerA [] c H:=⟨rfl,hM,λb o e=>BO e,Nat.le_of_eq (BM _ _),trivial,λb g=>absurd (show b∈([]:LAd)from g) (by simp),hok,.of_eq hg⟩;refine nR ((F _ p (i y)).run callerA [] c H ⟨[.ref a],[]⟩ _ [.ref a] _ _ hr e0 (l c _) (.cons rfl .nil) (L H U hS)) λr s' h=>?_
  cases r with
  |error e=>exact(G H e s' h).elim
  |ok fl=>
   cases fl with
   |next=>exact iP h
   |brk=>exact iP h
   |cont=>exact iP h
   |ret u=>
    obtain⟨v,H',os,bare,un,A,r',q⟩:=h;subst q;obtain rfl:u=lq ac:=r';refine⟨rfl,OldK.of_keep λb o e=>?_,os,bare⟩
    cases q:H b with
    |none=>exact un.keep b o e q (by intro z;exact absurd (show b∈([]:LAd)from z) (by simp)) (by simp)
    |some u=>
     rcases U b with z |⟨ob,xs,z⟩
     .rw[q]at z;nomatch z
     .have z2:=un.frzs b ob _ z;obtain⟨Q,_⟩:=hok b _ z;obtain⟨e2,_⟩:=A b _ z2;rw[e]at Q;cases Q;exact e2
 cases J:K.lookup a with
 |some o=>
  have e:=N a o J;rw[ha]at e;cases e
  refine j _ (λ_=>.inl rfl) (.inr ⟨_,vs.toArray,_,J,rfl,rfl,rfl,by rw[size_toArray,hi.length];exact Y,by simpa using rv⟩) (λb u z=>by have B:_=aa u:=z;nomatch B) (λb z=>absurd rfl z) λz=>absurd rfl z
 |none=>
  refine j (λb=>if b=a then aa _ else ae) (λb=>?_) (.inl (.inr ⟨{cls:=.type "list",data:=.seq vs.toArray},if_pos rfl⟩)) (λb u z=>?_) (λb z=>?_) λ_=>J
  .by_cases g:b=a
   .exact .inr ⟨_,_,if_pos g⟩
   .exact .inl (if_neg g)
  .by_cases g:b=a
   .have B:=(if_pos g).symm.trans z;cases B;subst g;exact⟨ha,by rw[aW];exact Y,vs,_,rv,ha⟩
   .have B:=(if_neg g).symm.trans z
    nomatch B
  .by_cases g:b=a
   .exact g
   .exact absurd (if_neg g) z
variable{h:Heap}
@[reducible]noncomputable def KOf(_:K.In h):bu:=K
variable{l:W.OpenLaw}{q:dJ}{fx:LSt}{XP:MGT->Heap->Prop}{YP:World->Heap->Prop}{d:DefRec}
def Dh{n k:Nat}{K:Params->bu}{CX:World->CXT}{sp:World->Sp}
 (hn:l.most=aa n)(y:n<=bE)(r:d.params.defaults=[])(N:cG k callerA)
 (I:∀(w:World) (h:Heap),YP w h->(K w.params).In h)
 (F:∀ (w:World) (mg:MGT) (fa:Addr) (h:Heap),(K w.params).In h->h.Ns cu mg->mg d.name=aa (.ref fa) ->
   ∃fd:fu,(∀(s:aM) (u:Value),BindsTo s fd ⟨[u],[]⟩ [(x,u)]) /\
    ∀base:Heap,(K w.params).In base->base.Ns cu mg->e8 l.prog w (K w.params) mg base (CX w) k fa fd [x] (sp w))
 (z:∀(w:World) (H:Hp) (a:Addr) (ns:List Int),ns.length<=n->qF H->SqL (K w.params) H a (ns.map V.int)->sp w [.ref a] H (λv _=>v=.bl ac) λ_ _ _=>False)
 (p:∀(w:World) (H:Hp) (s:aM) (e:Value) (s':aM),CX w [] H s (λ_ _ _=>False) e s'->False):
  W.WalkO q fx XP YP l.row.toRowW d [] (λf vs=>PySem.call f vs):=by
 refine Att.attach_call hn r λw s₀ m mg mb fa o pm Q doc a vs ns G Y U hd L t j i c M=>?_;have A:=I w _ Y;obtain⟨fd,J,B⟩:=F w mg fa _ A G.T.g t;exact Dg A G.T.g G.T.b G.T.builtins G.T.nolimit M j i (dq c y) N B J (λH C E=>z w H a ns c C E) λH e s'=>p w H m e s'
variable{CX:CXT}
def walk_ofK{n k:Nat}{K:Params->bu}{sp:bu->Sp}
 (hn:l.most=aa n)(g:n<=bE)(c:d.params.defaults=[])(r:cG k callerA)
 (p:∀(w:World) (h:Heap),YP w h->(K w.params).In h)
 (F:∀ (w:World) (mg:MGT) (fa:Addr) (h:Heap),(K w.params).In h->h.Ns cu mg->mg d.name=aa (.ref fa) ->
   ∃fd:fu,(∀(s:aM) (u:Value),BindsTo s fd ⟨[u],[]⟩ [(x,u)]) /\
    ∀base:Heap,(K w.params).In base->base.Ns cu mg->e8 l.prog w (K w.params) mg base CX k fa fd [x] (sp (K w.params)))
 (i:∀(K:bu) (H:Hp) (a:Addr) (ns:List Int),ns.length<=n->qF H->SqL K H a (ns.map V.int)->sp K [.ref a] H (λv _=>v=.bl ac) λ_ _ _=>False)
 (b:∀(H:Hp) (s:aM) (e:Value) (s':aM),CX [] H s (λ_ _ _=>False) e s'->False):
  W.WalkO q fx XP YP l.row.toRowW d [] (λf vs=>PySem.call f vs):=
 Dh hn g c r p F (λw H a ns j m o=>i _ H a ns j m o) λ_ H s e s'=>b H s e s'
abbrev ol(s:Stmt):Arguments:=match s with
 |.FunctionDef _ a _ _ _ _ _ _ _ _=>a
 | _=>{posonlyargs:=[],args:=[],vararg:=ae,kwonlyargs:=[],kw_defaults:=[],kwarg:=ae,defaults:=[]}
abbrev ir(s:Stmt):List Stmt:=match s with
 |.FunctionDef _ _ b _ _ _ _ _ _ _=>b
 | _=>[]
abbrev bq(s:Stmt):Scope:=match s with
 |.FunctionDef _ _ _ _ _ _ sc _ _ _=>sc
 | _=>{kind:=.function,names:=[],isGenerator:=ak,isCoroutine:=ak}
nonrec abbrev CX0:CXT:=λ_ _ _ _ _ _=>False
nonrec abbrev E0:XK:=λ_ _ _=>False
variable{X:Cx}
def lx:lw CX0 X E0:=λ_ _ _ _ _ _ _ h=>h.elim
structure Fun(K:bu)(x qual:Str)(st:Stmt)(f:Addr)(fd:fu):Prop where
 ex:∃(oc:Value) (od:Option Addr) (kV doc pm:Value) (an:Option Addr) (cdv ct:Value) (osl:Array (Option Value)),
  fd=W.fnOf x qual (ol st) (ir st) (bq st) .none kV doc pm an cdv ct/\K.lookup f=aa ⟨oc,od,.func fd,osl⟩/\W.codeIn K cdv qual=ac
 kp:W.keepIn K (.ref f)=ac
variable{base:Heap}{qual:Str}{st:Stmt}{f:Addr}{N ps:LSt}{sp:Sp}
def Fun.ok{k:Nat}(F:Fun K x qual st f fd)(S:bZ N ps (bq st))(len:∀vs H Q E,sp vs H Q E->vs.length=ps.length)
 (b:∀ (cdv:Value) (A:dE) (outer:List Env) (s:aM) (H:Hp) (vs:List V) (Q:VK) (E:XK),cG k (A.deeper (gm qual (bq st) s.heap.objs.size f cdv))->sp vs H Q E ->
   ∃t,PSs (gQ CX0 P w K mg base N qual (bq st) f cdv A outer s H E).nox (ir st) t/\t {nx:=λ_ H'=>Q .non H',rt:=Q} (start N vs) H):e8 P w K mg base CX0 (k+1) f fd ps sp:=by
 obtain⟨oc,od,kV,doc,pm,an,cdv,ct,osl,rfl,i,c⟩:=F.ex;refine xT i c S len λA outer s H vs Q E g e=>?_;obtain⟨t,h,q⟩:=b cdv A outer s H vs Q E g e;exact⟨t,h.nox,q⟩
def Fun.binds(F:Fun K x qual st f fd)
 (h:∀(kV doc pm:Value) (an:Option Addr) (cdv ct:Value) (us:LVa),us.length=ps.length->bindArgs (W.fnOf x qual (ol st) (ir st) (bq st) .none kV doc pm an cdv ct) ⟨us,[]⟩=pure (ps.zip us)):lv K fd ps []:=by
 obtain⟨oc,od,kV,doc,pm,an,cdv,ct,osl,rfl,c,b⟩:=F.ex;exact .all (h kV doc pm an cdv ct)
def fun_mk{oc:Value}{od an:Option Addr}{osl:Array (Option Value)}{kV doc pm cdv ct:Value}(l:K.lookup f=aa ⟨oc,od,.func (W.fnOf x qual (ol st) (ir st) (bq st) .none kV doc pm an cdv ct),osl⟩)
 (c:W.codeIn K cdv qual=ac)(k:W.keepIn K (.ref f)=ac):Fun K x qual st f (W.fnOf x qual (ol st) (ir st) (bq st) .none kV doc pm an cdv ct):=⟨⟨oc,od,kV,doc,pm,an,cdv,ct,osl,rfl,l,c⟩,k⟩
structure Df(K:bu)(mg:MGT)(x:Str)(st:Stmt)(ps:LSt)(e:Addr×fu):Prop where
 F:Fun K x x st e.1 e.2
 b:lv K e.2 ps []
 g:mg x=aa (.ref e.1)
structure Pk(P:dJ)(w:World)(K:bu)(mg:MGT)(base:Heap)(CX:CXT)(k:Nat)(x:Str)(e:Addr×fu)(ps:LSt)(sp:Sp):Prop where
 ok:e8 P w K mg base CX k e.1 e.2 ps sp
 g:mg x=aa (.ref e.1)
 kp:W.keepIn K (.ref e.1)=ac
 b:lv K e.2 ps []
variable{e:Addr×fu}
def Df.pk{k:Nat}(E:Df K mg x st ps e)(o:e8 P w K mg base CX k e.1 e.2 ps sp):Pk P w K mg base CX k x e ps sp:=⟨o,E.g,E.F.kp,E.b⟩
structure Dq(K:bu)(x:Str)(st:Stmt)(f:Addr)(fd:fu):Prop where
 a:dw K cu x=aa (aa (.ref f))
 F:Fun K x x st f fd
nonrec abbrev yh(x q:Str)(st:Stmt)(ps:LSt):Prop:=∀(kV doc pm:Value) (an:Option Addr) (cdv ct:Value) (us:LVa),us.length=ps.length->bindArgs (W.fnOf x q (ol st) (ir st) (bq st) .none kV doc pm an cdv ct) ⟨us,[]⟩=pure (ps.zip us)
def Dq.mk2(d:Dq K x st f fd)(X:K.In h)(G:h.Ns cu mg)(b:yh x x st ps:=by walk_at "bd"):Df K mg x st ps (f,fd):=⟨d.F,d.F.binds b,jt X G d.a⟩
def Dq.bt{p:Str}(d:Dq K x st f fd)(b:yh x x st [p])(s:aM)(v:Value):BindsTo s fd ⟨[v],[]⟩ [(p,v)]:=by
 obtain⟨oc,od,kV,doc,pm,an,cdv,ct,osl,rfl,g,c⟩:=d.F.ex;exact .of_eq (b kV doc pm an cdv ct [v] rfl)
variable{n:Nat}
def ly(h:n<=1000):n<bE:=Nat.lt_of_le_of_lt h (by decide)
variable{pos:Pos}
def pv(i:Nat)(c:X.N[i]?=aa x:=by rfl)(g:Vis X.env.scope x:=by first |exact bS rfl |exact bp (bS rfl) |exact bp (bp rfl))(hd:NDb x:=by decide)
 (b:NCd x:=by decide):PE X (.Name x pos) (dL i):=iW c g hd b
def yi{A B:Prop}(h:A):if ac=ac then A else B:=by
 rw[if_pos rfl];exact h
abbrev aG(H H':Hp):Prop:=∀b o,H b=aa o->H' b=aa o
def aG.refl(H:Hp):aG H H:=λ_ _ h=>h
variable{H H1 H2:Hp}
def aG.trans(a:aG H H1)(b:aG H1 H2):aG H H2:=λc o h=>b c o (a c o h)
variable{H':Hp}{l:Addr}
def aG.free(e:aG H H')(h:H' l=Option.none):H l=Option.none:=by
 cases q:H l with
 |none=>rfl
 |some o=>
  rw[e l o q]at h
  nomatch h
variable{xs:List V}
def aG.seq(e:aG H H')(h:SqL K H a xs):SqL K H' a xs:=by
 rcases h with(h |⟨o,h⟩) |h
 .exact .inl (.inl (e _ _ h))
 .exact .inl (.inr ⟨o,e _ _ h⟩)
 .exact .inr h
section
variable{κ:Type}[DecidableEq κ]
abbrev uG(kvs:List (κ×V))(k:κ):Option V:=(kvs.find? λb=>decide (b.1=k)).map (·.2)
abbrev uH(kvs:List (κ×V))(k:κ)(v:V):List (κ×V):=
 if (kvs.any λb=>decide (b.1=k))=ac then kvs.map (λb=>if b.1=k then (b.1,v) else b) else kvs++[(k,v)]
def KV.any{kvs:List (κ×V)}{vs:List (κ×Value)}(r:KV kvs vs)(k:κ):(kvs.any λb=>decide (b.1=k))=vs.any λb=>decide (b.1=k):=by
 induction r with
 |nil=>rfl
 |cons h t c=>rw[k7,k7,c,h.1]
def KV.length{kvs:List (κ×V)}{vs:List (κ×Value)}(r:KV kvs vs):kvs.length=vs.length:=Paired.length r
end
abbrev yj(H:Hp)(a:Addr)(y:V)(r:Option V):Prop:=
 (∃kvs k,Rd H a (.dK kvs)/\y=kV k/\r=uG kvs k)\/∃kvs k b,Rd H a (.dT kvs)/\y=.ref b/\H b=aa (.tup (k.map kV))/\r=uG kvs k
abbrev ym(H:Hp)(a:Addr)(y v:V)(H':Hp):Prop:=
 (∃kvs k,H a=aa (.dK kvs)/\y=kV k/\kvs.length<bE/\H'=upd H a (.dK (uH kvs k v))) \/
 ∃kvs k b,H a=aa (.dT kvs)/\y=.ref b/\H b=aa (.tup (k.map kV))/\kvs.length<bE/\H'=upd H a (.dT (uH kvs k v))
variable{kvs:List (Key×V)}
def yj.k{k:Key}(e:H a=aa (.dK kvs)):yj H a (kV k) (uG kvs k):=.inl ⟨kvs,k,.inl e,rfl,rfl⟩
variable{v:V}
def ym.k{k:Key}(e:H a=aa (.dK kvs))(b:kvs.length<bE):ym H a (kV k) v (upd H a (.dK (uH kvs k v))):=.inl ⟨kvs,k,e,rfl,b,rfl⟩
section
variable{κ:Type}[DecidableEq κ]
end
end L2
set_option maxHeartbeats 4000000
namespace L2
open List
open PySem
def uI{env:Env}(f:(Str×fU)->List (Str×Addr)->Sem (ForInStep (List (Str×Addr))))
 (p:∀n k r,k≠fw->f (n,k) r=pure (.yield r))
 (q:∀n r c,env.cells.lookup n=aa c->f (n,.free) r=pure (.yield ((n,c)::r))):
  ∀(l:List (Str×fU)) (a:List (Str×Addr)),(∀x∈l,x.2=.free->∃c,env.cells.lookup x.1=aa c) ->
   (∀x c,a.lookup x=aa c->env.cells.lookup x=aa c) ->
   ∃cl,forIn l a f=(pure cl:Sem _)/\(∀x c,cl.lookup x=aa c->env.cells.lookup x=aa c) /\
    (∀x,((∃c,a.lookup x=aa c)\/(x,fw)∈l)->∃c,cl.lookup x=aa c)
 | [],a,_,ha=>⟨a,rfl,ha,λx b=>b.elim id (λz=>nomatch z)⟩
 |(n,k)::l,a,hl,ha=>by
  have i:=λx b=>hl x (cF _ b)
  by_cases t:k=.free
  .subst t;obtain⟨c,u⟩:=hl _ bP rfl;have g:=u
   have s:∀x d,((n,c)::a).lookup x=aa d->env.cells.lookup x=aa d:=λx d b=>by
    rw[fT]at b
    cases e:x==n with
    |true=>
     rw[e]at b;cases b
     rw[eq_of_beq e];exact g
    |false=>
     rw[e]at b;exact ha x d b
   obtain⟨cl,e,j,m⟩:=uI f p q l _ i s;refine⟨cl,?_,j,λx b=>m x ?_⟩
   .rw[forIn_cons,q n a c g,pure_bind];exact e
   .have h:∀d,a.lookup x=aa d->∃o,((n,c)::a).lookup x=aa o:=λd z=>by
     rw[fT]
     cases e:x==n with
     |true=>exact⟨c,rfl⟩
     |false=>exact⟨d,z⟩
    rcases b with⟨d,z⟩ |b
    .exact .inl (h d z)
    .rcases bG.mp b with z |z
     .cases z;refine .inl ⟨c,?_⟩;rw[fT,beq_self_eq_true]
     .exact .inr z
  .obtain⟨cl,e,j,m⟩:=uI f p q l a i ha;refine⟨cl,?_,j,λx b=>m x ?_⟩
   .rw[forIn_cons,p n k a t,pure_bind];exact e
   .rcases b with b |b
    .exact .inl b
    .rcases bG.mp b with z |z
     .cases z;exact absurd rfl t
     .exact .inr z
variable{scope:Scope}{env:Env}
def yn(h:∀x∈scope.names,x.2=.free->∃c,env.cells.lookup x.1=aa c):
  ∃cl,closureFor scope env=pure cl/\(∀x c,cl.lookup x=aa c->env.cells.lookup x=aa c)/\(∀x,(x,fw)∈scope.names->∃c,cl.lookup x=aa c):=by
 obtain ⟨cl,e,b,d⟩:=uI (λx r=>(match x with
   |(name,kind)=>if (kind==fw)=ac then (do let a <- cellOf env name;pure (md ((name,a)::r))) else (pure (md r):Sem _)))
  (λn k r g=>by
   have:(k==fw)=ak:=by simpa using g
   simp only[this,Bool.false_eq_true,if_false])
  (λn r c f=>by
   simp only[beq_self_eq_true,if_true,cellOf,f,pure_bind])
  scope.names [] h (λx c z=>by nomatch z)
 refine⟨cl,?_,b,λx i=>d x (.inr i)⟩;refine(congrArg _ ?_).trans ((congrArg (λt=>t >>= pure) e).trans (pure_bind _ _));rfl
nonrec abbrev E00:Value->aM->Prop:=λ_ _=>False
variable{prog:dJ}{w:World}{A:dE}{R:Result->aM->Prop}{s:aM}{c4 iter:Expr}{df:LEx}{pos:Pos}
def Di{a:Expr}{it p:Value}(I:Nat->aM->Prop)
 (y:∀ n s,I n s->wpAny (model prog w) A (pyNext it) (λr b=>match r with
   |none=>R (.ok .next) b
   | some v=>wpAny (model prog w) A (letOwnedTupleGo a it v) (λ_ d=>wpAny (model prog w) A (io a env v) (λ_ i =>
     wpAny (model prog w) A (forIn df ac λc r=>if r=ac then do let ok <- isTrue c env (eval c env); pure (md ok) else pure (md r)) (λok e =>
      if ok=ac then wpAny (model prog w) A (eval c4 env) (λx j =>
       wpAny (model prog w) A (call (.builtin "list.append") [p,x]) (λ_ l=>∃m,m<n/\I m l) (notedBy (model prog w) A env λx s'=>R (.error x) s') j) (notedBy (model prog w) A env λx s'=>R (.error x) s') e
      else ∃m,m<n/\I m e) (notedBy (model prog w) A env λx s'=>R (.error x) s') i) (notedBy (model prog w) A env λx s'=>R (.error x) s') d) (notedBy (model prog w) A env λx s'=>R (.error x) s') b) (notedBy (model prog w) A env λx s'=>R (.error x) s') s)
 (n:Nat)(h:I n s):
  iU (model prog w) A (.compLoop (.ListComp c4 [⟨a,iter,df,0⟩] scope pos) 0 it p env) R s:=by
 refine codeAny_loop rfl I (λn s z=>?_) n h;refine wpAny_noted ?_;refine bW (wpAny_standAt (bW (e7 (y n s z) (λr b f=>?_) λ_ _ h'=>h')))
 cases r with
 |none=>exact c6 f
 |some v=>
  refine bW (e7 f (λ_ d o=>?_) λ_ _ h'=>h');refine bW (e7 o (λ_ i q=>bW (e7 q (λok e g=>?_) λ_ _ h'=>h')) λ_ _ h'=>h')
  cases ok with
  |false=>exact c6 ⟨rfl,g⟩
  |true=>
   exact bW (bW (e7 g (λx j t=>bW (e7 t (λ_ l u=>c6 (c6 ⟨rfl,u⟩)) λ_ _ h'=>h')) λ_ _ h'=>h'))
open PySem.Spec PyProof.Rows
@[reducible]noncomputable def Cx.comp(X:Cx)(scope:Scope)(Nc:LSt)(cl:List (Str×Addr))(C:Addr)(ex:LAd)(b:aM)(a:Hp):Cx:=
 {X with N:=Nc,s₀:=b,H₀:=a,env:=compEnvC scope cl C X.env,outer:=X.stack,ex:=ex,fn:=λ_=>ak,pn:=[],xe:=E00}
def uJ{env:Env}:∀{names:List (Str×fU)} {x:Str},names.lookup x=aa .free ->
  (names.map λ(n,k)=>if (k==fw && env.scope.kind==.function && env.kindOf n==aa .cell) then (n,lj) else (n,k)).lookup x=aa .cell \/
  (names.map λ(n,k)=>if (k==fw && env.scope.kind==.function && env.kindOf n==aa .cell) then (n,lj) else (n,k)).lookup x=aa .free
 | [],_,h=>by simp at h
 |(n,k)::r,x,h=>by
  have b:=@uJ env r x;show List.lookup x ((if _=ac then _ else _)::_)=_\/List.lookup x ((if _=ac then _ else _)::_)=_;rw[fT]at h
  cases a:x==n with
  |true=>
   rw[a]at h;cases h;split
   .left;rw[fT,a]
   .right;rw[fT,a]
  |false=>
   rw[a]at h;split
   .rw[fT,a];exact b h
   .rw[fT,a];exact b h
def uK{env:Env}{a:fU}(b:a=.cell\/a=.free):∀{names:List (Str×fU)} {x:Str},
  (names.map λ(n,k)=>if (k==fw && env.scope.kind==.function && env.kindOf n==aa .cell) then (n,lj) else (n,k)).lookup x=aa a ->
  (x,fw)∈names\/(x,lj)∈names
 | [],_,h=>by simp at h
 |(n,k)::r,x,h=>by
  have h':List.lookup x ((if _=ac then _ else _)::_)=aa a:=h
  cases c:x==n with
  |true=>
   have e:=eq_of_beq c;subst e;split at h'
   .rename_i d
    have g:k=.free:=by
     rw[cx,cx]at d;exact eq_of_beq d.1.1
    subst g;exact .inl bP
   .rw[fT,c]at h';have e:=cs h';subst e
    rcases b with z |z
    .subst z;exact .inr bP
    .subst z;exact .inl bP
  |false=>
   have f:(r.map λ(n,k)=>if (k==fw && env.scope.kind==.function && env.kindOf n==aa .cell) then (n,lj) else (n,k)).lookup x=aa a:=by
    split at h' <;> (rw[fT,c]at h';exact h')
   rcases(@uK env a b r x) f with z |z
   .exact .inl (cF _ z)
   .exact .inr (cF _ z)
abbrev iX(scope:Scope)(outer:List (Str×fU))(N Nc:LSt)(k:Nat)(js:LN):Bool:=
 scope.names.all (λx=>(x.2 != .free || outer.lookup x.1==aa .cell || outer.lookup x.1==aa .free) && x.2 != .cell && (x.2 != .local || scope.names.lookup x.1==aa .local)) &&
 scope.kind==.function && Nc.length==k+js.length &&
 (di js.length).all (λi=>match Nc[k + i]?,js[i]? with
  |some x,aa j=>N[j]?==aa x && scope.names.lookup x==aa .free
  | _,_=>ak)
structure mE(scope:Scope)(outer:List (Str×fU))(N Nc:LSt)(k:Nat)(js:LN):Prop where
 free:∀x∈scope.names,x.2=.free->outer.lookup x.1=aa .cell\/outer.lookup x.1=aa .free
 nocell:∀x∈scope.names,x.2≠.cell
 loc:∀x∈scope.names,x.2=.local->scope.names.lookup x.1=aa .local
 kind:scope.kind=.function
 len:Nc.length=k+js.length
 at':∀i j,js[i]?=aa j->∃x,Nc[k+i]?=aa x/\N[j]?=aa x/\scope.names.lookup x=aa .free
variable{N Nc:LSt}{k:Nat}{js:LN}
def mE.of{outer:List (Str×fU)}(h:iX scope outer N Nc k js=ac):mE scope outer N Nc k js:=by
 unfold iX at h;rw[cx,cx,cx]at h;obtain⟨⟨⟨b,d⟩,f⟩,c⟩:=h;rw[all_eq_true]at b c;refine⟨λx a e=>?_,λx a e=>?_,λx a e=>?_,eq_of_beq d,eq_of_beq f,λi j e=>?_⟩
 .have:=b x a;simp only[cx,fG,bne_iff_ne,beq_iff_eq]at this
  rcases this.1.1 with(z |z) |z
  .exact absurd e z
  .exact .inl z
  .exact .inr z
 .have:=b x a;simp only[cx,bne_iff_ne]at this;exact this.1.2 e
 .have:=b x a;simp only[cx,fG,bne_iff_ne,beq_iff_eq]at this
  rcases this.2 with z |z
  .exact absurd e z
  .exact z
 .have hi:=(dh.mp e).1;have:=c i (ml.mpr hi);rw[e]at this
  cases q:Nc[k+i]? with
  |none=>rw[q]at this;nomatch this
  |some x=>
   rw[q]at this;simp only[cx,beq_iff_eq]at this;exact⟨x,rfl,this.1,this.2⟩
abbrev gu(k:Nat)(js:LN)(σ:St):St:=mh k ae++js.map λj=>(σ[j]?).getD ae
abbrev PTs(X:Cx)(df:LEx)(t:TT):Prop:=
 ∀(pins:PNS) (s:aM) (σ:St) (H:Hp) (Q:Bool->Hp->Prop),Inv X pins σ H s->t σ H Q ->
  wpAny (model X.prog X.w) X.A (forIn df ac λc r=>if r=ac then do let ok <- isTrue c X.env (eval c X.env);pure (md ok) else pure (md r)) (TP X pins σ Q) X.xe s
abbrev Dj:TT:=λ_ H Q=>Q ac H
variable{X:Cx}
def Dk:PTs X [] Dj:=λ_ _ _ H _ I h=>wpAny_tests_nil ⟨H,I,h⟩
def yo{c:Expr}{t:TT}(h:PT X c t):PTs X [c] t:=λpins s σ H Q I q=>wpAny_tests_one (h pins s σ H Q I q)
abbrev uL(J:It)(g:TG)(tt:TT)(te:TE)(h:St)(j:Hp)(Q:VK):Prop:=
 ∃W:Nat->Nat->List V->St->Hp->Prop,(∃m,W 0 m [] h j)/\∀i m c σ' H',W i m c σ' H' ->
  (J.stop i H'/\c.length<=bE/\∀D,j D=ae->H' D=ae->Q (.ref D) (upd H' D (.lst c))) \/
  (J.go i H'/\c.length<=bE/\∃ N : List V->St->Hp->Prop,(∀ e f d,N e f d->∃ n,n < m/\W (i + 1) n e f d) /\
   ∀x d,J.yld i H' x d->g x σ' d λa o=>tt a o λb l=>if b=ac then te a l λy p=>N (c++[y]) a p else N c a l)
abbrev mF(k:Nat)(js:LN)(b:TI)(g:TG)(tt:TT)(te:TE):TE:=λσ H Q=>b σ H λJ a=>uL J g tt te (gu k js σ) a Q
@[reducible]noncomputable def Cx.to(X:Cx)(pn:PNS)(xe:PRS):Cx:={X with pn:=pn,xe:=xe}
variable{Y:Cx}{xe:PRS}{pins:PNS}{σ:St}{H:Hp}
def yq(I:Inv Y pins σ H s):Inv {Y with xe:=xe} pins σ H s:=
 ⟨⟨I.ok.mod,I.ok.kind,I.ok.glob,I.ok.blt,I.ok.above,I.ok.inj,I.ok.has,I.ok.cab,I.ok.hd,I.ok.frames,I.ok.stk,I.ok.exf,I.ok.bs,I.ok.bsz,I.ok.noex,I.ok.exfs,I.ok.funs,I.ok.frf⟩,I.os,I.bare,I.base,I.loc,I.cell,I.free,I.freeC,I.pin,I.hok,I.len⟩
def yr(I:Inv {Y with xe:=xe} pins σ H s):Inv Y pins σ H s:=
 ⟨⟨I.ok.mod,I.ok.kind,I.ok.glob,I.ok.blt,I.ok.above,I.ok.inj,I.ok.has,I.ok.cab,I.ok.hd,I.ok.frames,I.ok.stk,I.ok.exf,I.ok.bs,I.ok.bsz,I.ok.noex,I.ok.exfs,I.ok.funs,I.ok.frf⟩,I.os,I.bare,I.base,I.loc,I.cell,I.free,I.freeC,I.pin,I.hok,I.len⟩
variable{e:Expr}{t:TE}
def PE.to0(h:PE {Y with pn:=[],xe:=E00} e t):PE {Y with pn:=[],xe:=xe} e t:=λpins s σ H Q I q=>
 e7 (h pins s σ H Q (yr I) q) (λu s' ⟨v,H',a,r,b⟩=>⟨v,H',yq a,r,b⟩) λ_ _ z=>z.elim
@[reducible]noncomputable def iY(us:LVa)(n:Nat):Obj:={cls:=.type "list",data:=.seq us.toArray n}
variable{tg:Expr}{g:TG}{tt:TT}{te:TE}{H2:Hp}{s2:aM}{it:Addr}{fp:LAd}{tn:Nat->Heap->Prop}{J:It}{cl:List (Str×Addr)}{Q:VK}{RR:Value->Addr->Result->aM->Prop}{E:PRS}
def Dl{PX:Cx->Prop}
 (hc:X.calm=ac)(ck:mE scope X.env.scope.names X.N Nc k js)
 (hg:∀cl C ex L I,PG (X.comp scope Nc cl C ex L I) tg g)(ht:∀cl C ex L I,PTs (X.comp scope Nc cl C ex L I) df tt)(he:∀cl C ex L I xe,PX ((X.comp scope Nc cl C ex L I).to [] xe)->PE ((X.comp scope Nc cl C ex L I).to [] xe) c4 te)
 (a1:∀x c,cl.lookup x=aa c->X.env.cells.lookup x=aa c)(a2:∀x,(x,fw)∈scope.names->∃c,cl.lookup x=aa c)
 (G:Inv X pins σ H2 s2)(T:jx X.prog X.w X.K tg J fp it tn)(st2:tn 0 s2.heap)(f2:∀b∈fp,gP X pins H2 b)(hW:uL J g tt te (gu k js σ) H2 Q)
 (hRR:∀(D C:Addr) (s':aM) (H':Hp),Inv X pins σ H' s'->(∃m,s'.heap.Ns C m)->gP X pins H' C->Q (.ref D) H'->RR (.ref D) C (.ok .next) s')
 (hPX:∀D C,s2.heap.objs.size=D->D<C->(∀b∈frs X.stack,b<D)->PX ((X.comp scope Nc cl C fp s2 H2).to [] (notedBy (model X.prog X.w) X.A (compEnvC scope cl C X.env) λx s'=>RR (.ref D) C (.error x) s'))):
  wpAny (model X.prog X.w) X.A (newList []) (λacc s₃=>wpAny (model X.prog X.w) X.A (newFunctionEnv scope X.env.globals cl [] X.env.qual ae .none (aa X.env)) (λcenv s₄ =>
   iU (model X.prog X.w) X.A (.compStart (.ListComp c4 [⟨tg,iter,df,0⟩] scope pos) 0 (.ref it) acc {cenv with scope:=relabel scope X.env}) (RR acc cenv.locals) s₄) E s₃) E s2:=by
 obtain⟨W,⟨m0,w0⟩,turn⟩:=hW;refine wpAny_newObj_type (wpAny_newFunctionEnv ck.nocell (by intro y hy;simp at hy) (λh₁ B h=>?_) ck.kind);dsimp only at B h ⊢;generalize hP:s2.heap.push {cls:=.type "list",dict:=ae,data:=.seq ([]:LVa).toArray}=P at B h ⊢;generalize hD:s2.heap.objs.size=D at hP B h ⊢;have hCs:P.objs.size=D+1:=by rw[<- hP,qm,hD]
 generalize hC:P.objs.size=C at hCs B h ⊢;have hDC':D<C:=by rw[hCs];exact Nat.lt_succ_self _
 have hDC:D≠C:=dC hDC';have below:∀b o,s2.heap.get? b=aa o->b<D:=λb o e=>hD▸cb e
 have old:∀b o,s2.heap.get? b=aa o->h₁.get? b=aa o:=λb o e=>by
  have f:=below b o e;exact h.extBut b o (dC (Nat.lt_trans f hDC')) (eH _ (hP▸eH _ e))
 have hDo:h₁.get? D=aa (iY [] 0):=h.extBut _ _ hDC (eH _ (by rw[<- hP,<- hD];exact fV _ rfl));have Hn:∀b,D<=b->H2 b=ae:=λb f=>G.hok.fresh (by lia);have fpo:∀b∈fp,b<D:=λb f=>by obtain⟨o,e,_⟩:=T.obj 0 _ st2 b f;exact below b o e
 have clo:∀x c,cl.lookup x=aa c->c<D:=λx c e=>by
  obtain⟨v,o,ho,_⟩:=G.cell x c (a1 x c e);exact below c o ho
 have stko:∀b∈frs X.stack,b<D:=λb f=>by
  obtain⟨_,o,ho,_⟩:=G.stack.mem f;exact below b o ho
 let Y:Cx:=X.comp scope Nc cl C fp s2 H2
 have yk:Y.Ok:=by
  refine⟨G.ok.mod,ck.kind,G.ok.glob,G.ok.blt,?_,?_,?_,?_,G.ok.hd,G.ok.frames,.inl rfl,?_,G.bs,?_,?_,?_,G.stack,G.stkFree⟩
  .show s2.heap.objs.size<=C;lia
  .exact λx y c h1 h2=>G.ok.inj x y c (a1 x c h1) (a1 y c h2)
  .intro x hx
   have:(x,fw)∈scope.names\/(x,lj)∈scope.names:=by
    rcases hx with hx |hx
    .exact uK (.inl rfl) hx
    .exact uK (.inr rfl) hx
   rcases this with z |z
   .exact a2 x z
   .exact absurd rfl (ck.nocell _ z)
  .exact λx c z=>nomatch z
  .intro b f;refine⟨?_,λx c e=>?_⟩
   .exact dC (Nat.lt_trans (fpo b f) hDC')
   .exact(f2 b f).2.2.2.2.1 x c (a1 x c e)
  .exact dq G.ok.bsz G.sz
  .intro b o e f
   rcases(f2 b f).2.2.2.1 with z |z
   .exact G.ok.noex b o e z
   .exact absurd (fI (cb e) (dq G.ok.bsz z)) (jn _)
  .intro b f z
   rcases bG.mp (G.stkSub b z)with e |e
   .exact(f2 b f).2.1 e
   .exact(f2 b f).2.2.1 e
 have I4:Inv Y [(D,iY [] 0)] (gu k js σ) H2 {s2 with heap:=h₁,toks:=s2.toks+([]:List (Str×Value)).length}:=by
  refine⟨yk,rfl,G.bare,Un.kept old,⟨_,B,λi x v e1 M e3=>?_⟩,λx c e=>?_,Hn C (by lia),λx c e=>G.freeC x c (a1 x c e),λp U=>?_,G.hok.kept old,?_⟩
  .have e1:Nc[i]?=aa x:=e1;unfold gu at M
   have hik:k<=i:=by
    rcases p9 i k with z |z
    .rw[nN (by simpa using z),tO]at M;simp[z]at M
    .exact z
   rw[me (by simpa using hik),fm]at M;simp only[jU]at M
   cases q:js[i-k]? with
   |none=>rw[q]at M;cases M
   |some j=>
    rw[q]at M;obtain⟨x',q1,q2,q3⟩:=ck.at' _ _ q;rw[show k+(i-k)=i by lia,e1]at q1;cases q1;have M:(σ[j]?).getD ae=aa v:=cs M
    have e2':σ[j]?=aa (aa v):=by
     cases z:σ[j]? with
     |none=>rw[z]at M;nomatch M
     |some y=>rw[z]at M;rw[show y=aa v from M]
    have hmem:(x,fw)∈scope.names:=by
     have:∀l:List (Str×fU),l.lookup x=aa .free->(x,fw)∈l:=by
      intro l
      induction l with
      |nil=>intro z;nomatch z
      |cons a l ih=>
       intro z;obtain⟨n,kk⟩:=a;rw[fT]at z
       cases f:x==n with
       |true=>
        rw[f]at z;cases z
        rw[eq_of_beq f];exact bP
       |false=>rw[f]at z;exact cF _ (ih z)
     exact this _ q3
    have hout:X.env.kindOf x=aa .cell\/X.env.kindOf x=aa .free:=ck.free _ hmem rfl;obtain⟨m,hn,hl⟩:=G.loc
    have vis:Vis X.env.scope x:=by
     rcases hout with z |z
     .exact .inr (.inl z)
     .exact .inr (.inr z)
    obtain⟨u,r,l⟩:=hl j x v q2 e2' vis;refine⟨u,r,.inr ⟨uJ q3,?_⟩⟩
    rcases l with⟨z,_⟩ |⟨_,c,hcl,hcell⟩
    .rcases hout with y |y <;> (rw[y]at z;nomatch z)
    .obtain⟨c',hc'⟩:=a2 x hmem;have:=a1 x c' hc';rw[hcl]at this;cases this;exact⟨c,hc',hcell.keeps old⟩
  .obtain⟨v,z⟩:=G.cell x c (a1 x c e);exact⟨v,z.keeps old⟩
  .have U:p∈[(D,iY [] 0)]:=(bV.mp U).elim (λz=>nomatch (show p∈([]:PNS)from z)) id;have U:=aU.mp U;subst U;refine⟨hDo,Hn D (bC _),hDC,λz=>?_,λv z=>by nomatch z⟩;exact absurd (stko D z) (jn _)
  .show(gu k js σ).length=Nc.length;rw[ck.len];simp[gu]
 have gp:=T.keep 0 _ _ st2 λb _ o e=>old b o e
 have fpY:∀{H':Hp} {p:PNS},(∀q∈p,q.1=D)->(∀b∈fp,H' b=ae)->∀b∈fp,gP Y p H' b:=λ{H' p} U hn b f=>by
  refine⟨hn b f,(yk.exf b f).1,yk.exfs b f,.inl f,λx c e=>(yk.exf b f).2 x c e,λq hq=>?_⟩;rw[U q hq];exact nO (fpo b f)
 let xe:Value->aM->Prop:=notedBy (model X.prog X.w) X.A (compEnvC scope cl C X.env) λx s'=>RR (.ref D) C (.error x) s'
 have U:=hPX D C hD hDC' stko
 have loop:iU (model X.prog X.w) X.A (.compLoop (.ListComp c4 [⟨tg,iter,df,0⟩] scope pos) 0 (.ref it) (.ref D) (compEnvC scope cl C X.env)) (RR (.ref D) C) {s2 with heap:=h₁,toks:=s2.toks+([]:List (Str×Value)).length}:=by
  refine Di (λn s'=>∃i ys us nn σ' H',Inv Y [(D,iY us nn)] σ' H' s'/\tn i s'.heap/\(∀b∈fp,H' b=ae)/\aY ys us/\W i n ys σ' H') ?_ m0
   ⟨0,[],[],0,gu k js σ,H2,I4,gp,λb f=>(f2 b f).1,.nil,w0⟩
  rintro n s3 ⟨i,ys,us,nn,hY,H3,I3,kF,fr3,rv,w3⟩
  have one:∀q∈[(D,iY us nn)],q.1=D:=λq hq=>by
   have:q=(D,iY us nn):=by simpa using hq
   rw[this]
  rcases turn i n ys hY H3 w3 with⟨stop,hz,qn⟩ |⟨go,hz,N,hN,step⟩
  .refine thn (T.done Y rfl rfl rfl hc i _ s3 hY H3 _ I3 (fpY one fr3) kF stop) λr s4 ⟨hr,I5⟩=>?_;subst hr;obtain⟨pD,nD,_,_,_⟩:=I5.pin (D,iY us nn) (by simp);have bs:=I5.base;have h2D:∀b o,H2 b=aa o->b≠D:=λb o e z=>by rw[z,Hn D (bC _)]at e;nomatch e
   have I6:Inv X pins σ (upd H3 D (.lst ys)) s4:=by
    refine G.call' (ch:=fp) I5.os ⟨bs.keep,bs.slot,λb o e n hx=>?_,bs.there,λb xs e=>?_,λb o u e=>?_,λb ps e=>?_⟩ (λb u e=>?_) I5.bare λb f=>?_
    .rw[bH (dC (below b o e))];exact bs.free b o e n hx
    .rw[bH (h2D b _ e)];exact bs.tups b xs e
    .rw[bH (h2D b _ e)];exact bs.frzs b o u e
    .rw[bH (h2D b _ e)];exact bs.tbls b ps e
    .by_cases f:b=D
     .subst f;rw[bT]at e;cases e;exact⟨hz,us,nn,rv,pD⟩
     .rw[bH f]at e;exact(I5.hok b u e).stay (λc v _ q=>q) (λc q=>by rw[bH (g8 q nD)];exact q) λc xs q=>by rw[bH (g8 q nD)];exact q
    .obtain⟨_,f1,_,f3,f4,f5⟩:=f2 b f;exact⟨f3,f1,f4,f5⟩
   obtain⟨m,hn,_⟩:=I5.loc;refine hRR D C s4 _ I6 ⟨m,hn⟩ (G.fpOk (by lia) ?_) (qn D (Hn D (bC _)) nD);rw[bH hDC.symm];exact I5.free
  .refine thn (T.item Y rfl rfl rfl hc i _ s3 hY H3 _ I3 (fpY one fr3) kF go) λr s4 q_=>?_;obtain⟨u,hr,h4⟩:=q_;subst hr;refine thn h4 λ_ s5 q_=>?_;obtain⟨x,H5,I5,r5,y5,st5,fr5⟩:=q_;have I5':=I5.pinned (fpY one fr5) (T.obj _ _ st5);refine e7 (hg cl C fp s2 H2 _ s5 hY H5 x u _ I5' r5 (step x H5 y5)) (λ_ s6 ⟨σ6,H6,I6,q6⟩=>?_) λ_ _ z=>z.elim;refine e7 (ht cl C fp s2 H2 _ s6 σ6 H6 _ I6 q6) (λb s7 ⟨H7,I7,q7⟩=>?_) λ_ _ z=>z.elim
   have kp:∀{H8:Hp} {s8:aM},Inv Y ([(D,iY us nn)]++qw fp s5.heap) σ6 H8 s8->tn (i+1) s8.heap/\(∀b∈fp,H8 b=ae):=λ{H8 s8} I8=>by
    refine⟨T.keep _ _ _ st5 λb f o e=>(I8.pin (b,o) (gH _ (gH _ (qx f e)))).1,λb f=>?_⟩;obtain⟨o,e,d⟩:=T.obj _ _ st5 b f;exact(I8.pin (b,o) (gH _ (gH _ (qx f e)))).2.1
   cases b with
   |false=>
    obtain⟨m',hm,w7⟩:=hN _ _ _ q7;obtain⟨st7,fr7⟩:=kp I7
    exact⟨m',hm,i+1,ys,us,nn,σ6,H7,I7.unpinned,st7,fr7,rv,w7⟩
   |true=>
    refine thn (he cl C fp s2 H2 xe U _ s7 σ6 H7 _ (yq I7) q7) λuy s8 q_=>?_;obtain⟨y,H8,I8',r8,q8⟩:=q_;have I8:=yr I8';obtain⟨m',hm,w8⟩:=hN _ _ _ q8;obtain⟨st8,fr8⟩:=kp I8;obtain⟨pD,nD,pC,pF,_⟩:=I8.pin (D,iY us nn) (by simp);have hl:=rv.length
    refine wpAny_list_append_plain (items:=us.toArray) ⟨nn,pD⟩ (λh' hl' sb=>?_) (by simp only[size_toArray] <;> lia)
    obtain⟨n',e'⟩:=hl';have I8n:Inv Y [] σ6 H8 s8:=I8.pins_of (λ_ z=>nomatch z);have I9:=I8n.turned (t':=s8.toks) (it:=D) (λb o f e=>(sb.2 b f).trans e) nD pC (.inr (by show s2.heap.objs.size<=D;lia)) (λx c e=>dC (clo x c e)) (λp U=>nomatch U);refine⟨m',hm,i+1,ys++[y],us++[uy],n',σ6,H8,I9.pins_of (λp U=>?_),?_,fr8,rv.append (.cons r8 .nil),w8⟩
    .have U:p=(D,iY (us++[uy]) n'):=by simpa using U
     subst U;refine⟨?_,nD,pC,pF,λv z=>by nomatch z⟩;have M:=e';rw[M];simp
    .exact T.keep _ _ _ st8 λb f o e=>(sb.2 b (dC (fpo b f))).trans e
 exact codeAny_compStart_list loop (T.self X.A 0 _ _ _ gp loop)
def yt
 (y:X.calm=ac)(r:mE scope X.env.scope.names X.N Nc k js)
 (B:∀cl C ex d a,PG (X.comp scope Nc cl C ex d a) tg g)(G:∀cl C ex d a,PTs (X.comp scope Nc cl C ex d a) df tt)(z:∀cl C ex d a,PE (X.comp scope Nc cl C ex d a) c4 te)
 (p:∀x c,cl.lookup x=aa c->X.env.cells.lookup x=aa c)(q:∀x,(x,fw)∈scope.names->∃c,cl.lookup x=aa c)
 (o:Inv X pins σ H2 s2)(T:jx X.prog X.w X.K tg J fp it tn)(n:tn 0 s2.heap)(u:∀b∈fp,gP X pins H2 b)(v:uL J g tt te (gu k js σ) H2 Q)
 (l:∀(D C:Addr) (s':aM) (H':Hp),Inv X pins σ H' s'->(∃m,s'.heap.Ns C m)->gP X pins H' C->Q (.ref D) H'->RR (.ref D) C (.ok .next) s'):
  wpAny (model X.prog X.w) X.A (newList []) (λh i=>wpAny (model X.prog X.w) X.A (newFunctionEnv scope X.env.globals cl [] X.env.qual ae .none (aa X.env)) (λf j =>
   iU (model X.prog X.w) X.A (.compStart (.ListComp c4 [⟨tg,iter,df,0⟩] scope pos) 0 (.ref it) h {f with scope:=relabel scope X.env}) (RR h f.locals) j) E i) E s2:=
 Dl (PX:=λ_=>True) y r B G (λcl C ex d a xe _=>PE.to0 (z cl C ex d a)) p q o T n u v l λ_ _ _ _ _=>trivial
variable{wi:TI}
def yu(k:Nat)(js:LN)(Nc:LSt)(hc:X.calm=ac)(hi:PI X tg iter wi)
 (hg:∀cl C ex c a,PG (X.comp scope Nc cl C ex c a) tg g)(ht:∀cl C ex c a,PTs (X.comp scope Nc cl C ex c a) df tt)(he:∀cl C ex c a,PE (X.comp scope Nc cl C ex c a) c4 te)
 (d:iX scope X.env.scope.names X.N Nc k js=ac:=by rfl)(hs:∀x,gK iter X.env x=pure x:=by intro _;rfl):
  PE X (.ListComp c4 [⟨tg,iter,df,0⟩] scope pos) (mF k js wi g tt te):=by
 intro pins s σ H Q I h;have d:=mE.of d;obtain⟨cl,f,p,r⟩:=yn λx hx e=>I.ok.has x.1 (d.free x hx e);refine wpAny_comprehension_free rfl hs f d.kind d.loc (thn (hi pins s σ H _ I h) λv s1 U=>thn U λitv s2 h2=>?_);obtain⟨it,fp,tn,J,H2,e,n,T,j,z,hW⟩:=h2;subst e;refine yt hc d hg ht he p r n T j z hW λD C s' H' l ⟨m,hn⟩ M q=>?_;obtain⟨u,y,_,B,G,L⟩:=M;exact⟨m,hn,λh' i=>⟨.ref D,H',l.turned (λb o hb e=>(i.2 b hb).trans e) u y B G L,rfl,q⟩⟩
variable{i:Nat}{x:Str}{b4 d9:Pos}
def qG(k:Nat)(js:LN)(Nc:LSt)(hN:X.N.Nodup)(p:X.N[i]?=aa x)(y:Loc X.env.scope x)(hc:X.calm=ac)(hi:PI X tg iter wi)
 (hg:∀cl C ex d c,PG (X.comp scope Nc cl C ex d c) tg g)(ht:∀cl C ex d c,PTs (X.comp scope Nc cl C ex d c) df tt)(he:∀cl C ex d c,PE (X.comp scope Nc cl C ex d c) c4 te)
 (u:fJ (.ListComp c4 [⟨tg,iter,df,0⟩] scope pos) (aa (.Name x b4)) d9.line X.env=pure ac:=by rfl)
 (f:iX scope X.env.scope.names X.N Nc k js=ac:=by rfl)(hs:∀x,gK iter X.env x=pure x:=by intro _;rfl)
 (hf:LcF X x:=by first |exact .inl rfl |exact .inr rfl |assumption):
  PS X (.Assign [.Name x b4] (.ListComp c4 [⟨tg,iter,df,0⟩] scope pos) d9) (ls (mF k js wi g tt te) (jw i)):=by
 intro pins s σ H D I h;have f:=mE.of f;rw[exec_Assign_Name_used _ _ _ _ u];refine bW (wpAny_standAt (bW ?_));obtain⟨cl,n,a1,a2⟩:=yn λx y e=>I.ok.has x.1 (f.free x y e)
 refine bW (e7 (wpAny_comprehension_free rfl hs n f.kind f.loc
  (thn (hi pins s σ H _ I h) λv s1 h1=>thn h1 λitv s2 h2=>?_)) (λ_ s' hq=>c6 (c6 hq)) λ_ _ e=>e)
 obtain⟨it,fp,tn,J,H2,e,I2,T,B,f2,hW⟩:=h2;subst e;refine yt hc f hg ht he a1 a2 I2 T B f2 hW λM C s' H' U ⟨m,hn⟩ fC q=>?_;obtain⟨f0,G,f2',f3,L,f5⟩:=fC;refine wpAny_assign_Name (xw (v:=.ref M) U hN p y rfl (λs'' j ⟨a,sb,ha⟩=>?_) hf)
 have l:C≠a:=by
  rcases ha with z |z
  .rw[z];exact G
  .exact(L x a z).symm
 exact⟨m,hn.sameBut sb l,λh' r=>⟨_,H',j.turned (λb o hb e=>(r.2 b hb).trans e) f0 G f3 L f5,q⟩⟩
def Dm:gr X (.builtin "isinstance") (λxs H Q=>∃x T t b,xs=[x,.ty T]/\gs X.K H x t/\ip X.K t (.type T)=aa b/\Q (.bl b) H):=by
 intro pins s σ H xs us Q I r h;obtain⟨x,T,t,b,rfl,ty,e,q⟩:=h;obtain⟨u,d,rfl,c,a⟩:=mx r;cases (a);exact CO I c ty e λtk=>⟨.bl b,H,I.tok tk,rfl,q⟩
variable{xs:List V}
def aY.at'{us:LVa}{u:Value}(r:aY xs us)(e:us[i]?=aa u):∃x,xs[i]?=aa x/\bj x u:=by
 have c:=r.length;have hi:i<xs.length:=by have:=(dh.mp e).1;lia
 refine⟨xs[i],by simp[hi],?_⟩;obtain⟨d,a,b⟩:=r.get (i:=i) (x:=xs[i]) (by simp[hi]);rw[e]at a;cases a;exact b
def mG{env:Env}{b:fU}(c:b≠.free):∀{names:List (Str×fU)} {x:Str},names.lookup x=aa b ->
  (names.map λ(n,k)=>if (k==fw && env.scope.kind==.function && env.kindOf n==aa .cell) then (n,lj) else (n,k)).lookup x=aa b
 | [],_,h=>by simp at h
 |(n,k)::r,x,h=>by
  have d:=@mG env b c r x;show List.lookup x ((if _=ac then _ else _)::_)=_;rw[fT]at h
  cases a:x==n with
  |true=>
   rw[a]at h;have e:=cs h;subst e;have f:(k==fw)=ak:=by simpa using c
   rw[f,Bool.false_and,Bool.false_and,if_neg cE,fT,a]
  |false=>
   rw[a]at h;split
   .rw[fT,a];exact d h
   .rw[fT,a];exact d h
def Dn(h:Vis scope x):Vis (relabel scope env) x:=by
 rcases h with h |h |h
 .exact .inl (mG (by decide) h)
 .exact .inr (.inl (mG (by decide) h))
 .rcases uJ h with z |z
  .exact .inr (.inl z)
  .exact .inr (.inr z)
variable{C:Addr}{ex:LAd}{al:aM}{bo:Hp}
def pvc(i:Nat)(b:Nc[i]?=aa x:=by rfl)(c:Vis scope x:=by first |exact bS rfl |exact bp (bS rfl) |exact bp (bp rfl))(hd:NDb x:=by decide)
 (a:NCd x:=by decide):PE (X.comp scope Nc cl C ex al bo) (.Name x pos) (dL i):=iW b (Dn c) hd a
def pgc(i:Nat)(b:Nc.Nodup:=by decide +kernel)(hi:Nc[i]?=aa x:=by rfl)(a:scope.names.lookup x=aa .local:=by rfl):PG (X.comp scope Nc cl C ex al bo) (.Name x pos) (jw i):=
 qr b hi (.inl (mG (by decide) a)) (.inr (mG (by decide) a))
def glc(h:scope.names.lookup x=aa .globalImplicit):Gl (X.comp scope Nc cl C ex al bo) x:=mG (by decide) h
variable{p:Addr}{o:HO}
def cM(h:H p=ae):aG H (upd H p o):=λb u e=>by rw[bH (g8 e h)];exact e
variable{K:bu}{H':Hp}
def aG.tup{a:Addr}(e:aG H H')(h:SqT K H a xs):SqT K H' a xs:=by
 rcases h with(h |⟨o,h⟩) |h
 .exact .inl (.inl (e _ _ h))
 .exact .inl (.inr ⟨o,e _ _ h⟩)
 .exact .inr h
abbrev mH(p:Addr)(H H':Hp):Prop:=∀b o,H b=aa o->b≠p->H' b=aa o
def mH.refl(p:Addr)(H:Hp):mH p H H:=λ_ _ h _=>h
variable{H1:Hp}
def mH.trans(a:mH p H H1)(b:mH p H1 H2):mH p H H2:=λc o h n=>b c o (a c o h n) n
abbrev yv(p:Option Bool->Bool)(es:List (Option Bool))(its:List (Int×Int)):Int:=((its.filter λz=>p (es.getD z.1.toNat ae)).map (·.2)).sum
inductive Prt where
 |inn (t:Int) |out (t:Int) |least (k:Int) (its:List (Int×Int)) |most (k:Int) (its:List (Int×Int))
abbrev bs(l:List Bool):List (Option Bool):=l.map aa
abbrev Prt.holds(a b:List Bool):Prt->Bool
 |.inn t=>(a.getD t.toNat ak)
 |.out t=>!(b.getD t.toNat ak)
 |.least k its=>decide (k<=yv (·==aa ac) (bs a) its)
 |.most k its=>decide (yv (·==aa ac) (bs b) its<=k)
variable{h':Heap}
def Inv.turnedMany{t':Nat}{ch:LAd}(I:Inv X pins σ H s)(k:∀b o,b∉ch->s.heap.get? b=aa o->h'.get? b=aa o)(d:∀b∈ch,gP X pins H b):Inv X pins σ H {s with heap:=h',toks:=t'}:=by
 refine I.step (λb G=>?_) (λb o _ _ a e _=>k b o a e) (λb o _ _ a e _=>⟨o.slots,k b o a e⟩) (λ_ _ _ _ n=>n)
  (λb o a e=>⟨o,k b o a e⟩) (λ_ _ e=>e) (λ_ _ _ e=>e) (λb ps e=>⟨#[],by rw[e];simp⟩) (λm hm=>?_) (λb u e=>?_) I.bare
 .obtain⟨_,h,_,j,l,B⟩:=d b G;exact⟨j,h,l,B⟩
 .obtain⟨o,es,f,L,r⟩:=hm;exact⟨o,es,f,k _ o (λz=>(d _ z).2.1 rfl) L,r⟩
 .refine(I.hok b u e).stay (λc v a q=>k c v (λz=>?_) q) (λ_ q=>q) λ_ _ q=>q;have hn:=(d c z).1
  rcases a with y |y
  .rw[y,e]at hn;nomatch hn
  .rw[hn]at y;nomatch y
def Inv.track(I:Inv X pins σ H s)(f:gP X pins H p)(B:fM X.prog X.w (upd H p o) s.heap p o):Inv X pins σ (upd H p o) s:=by
 obtain⟨h,j,G,l,r,y⟩:=f;have ne:∀b u,H b=aa u->b≠p:=λb u e=>g8 e h;have one:∀b:Addr,b∉[p]->b≠p:=λb a z=>a (by rw[z];simp)
 refine I.step (ch:=[p]) (λb a=>?_) (λb o _ _ d e _=>e) (λb o _ _ d e _=>⟨o.slots,e⟩) (λb o d e n=>?_)
  (λb o d e=>⟨o,e⟩) (λb xs e=>?_) (λb o u e=>?_) (λb ps e=>⟨#[],?_⟩) (λm hm=>hm) (λb u e=>?_) I.bare
 .have e:b=p:=by simpa using a
  subst e;exact⟨l,j,r,y⟩
 .rw[bH (one b d)];exact n
 .rw[bH (ne b _ e)];exact e
 .rw[bH (ne b _ e)];exact e
 .rw[bH (ne b _ e),e];simp
 .by_cases a:b=p
  .subst a;rw[bT]at e;cases e;exact B
  .rw[bH a]at e;exact(I.hok b u e).stay (λc v _ q=>q) (λc q=>by rw[bH (ne c _ q)];exact q) λc xs q=>by rw[bH (ne c _ q)];exact q
abbrev Itz(K:bu)(b c:Addr):It:=
  ⟨λi H=> ∃xs a x y, SqL K H b xs/\SqL K H c a/\xs[i]? = aa x/\a[i]? = aa y,
   λi H v H'=> ∃p x y, v = .ref p/\H p = ae/\H' = upd H p (.tup [x, y])/\(∀xs, SqL K H b xs->xs[i]? = aa x)/\(∀a, SqL K H c a->a[i]? = aa y),
   λi H=> ∃xs a, SqL K H b xs/\SqL K H c a/\(xs.length<=i\/a.length<=i)⟩
variable{P:dJ}{hI:LEx}{kx:Nat}
def Do(z TI TO i1 i2 l1 l2:Addr)(D:ZipApart z TI TO i1 i2 l1 l2):
  jx P w K (.Tuple hI kx pos) (Itz K l1 l2) [z,TI,TO,i1,i2] z (λi h=>IsZip h z TI TO .none/\IsPair h TI (.ref i1) (.ref i2)/\(∃a b,IsPair h TO a b)/\h.IsListIter i1 l1 i/\h.IsListIter i2 l2 i) where
 mem:=by simp
 obj:=λi h st b hb=>by
  obtain⟨hz,hTI,⟨a,c,hTO⟩,⟨o1,e1,_,d1⟩,⟨o2,e2,_,d2⟩⟩:=st;simp only[bG,bJ,or_false]at hb
  rcases hb with rfl |rfl |rfl |rfl |rfl
  .exact⟨_,hz,λv q=>by nomatch q⟩
  .exact⟨_,hTI,λv q=>by nomatch q⟩
  .exact⟨_,hTO,λv q=>by nomatch q⟩
  .exact⟨o1,e1,λv q=>by rw[d1]at q;nomatch q⟩
  .exact⟨o2,e2,λv q=>by rw[d2]at q;nomatch q⟩
 keep:=λi h h' st k=>by
  obtain⟨hz,hTI,⟨a,c,hTO⟩,h1,h2⟩:=st;exact⟨k z (by simp) _ hz,k TI (by simp) _ hTI,⟨a,c,k TO (by simp) _ hTO⟩,h1.at λo e=>k i1 (by simp) o e,h2.at λo e=>k i2 (by simp) o e⟩
 item:=by
  intro X hP hw hK hc i pins s σ H E I hf st hg;subst hP hw hK;obtain⟨hz,hTI,⟨a,c,hTO⟩,h1,h2⟩:=st;obtain⟨xs,ys,x,y,q1,q2,hx,hy⟩:=hg;obtain⟨its1,r1,p1,z1⟩:=I.list q1;obtain⟨eA,r2,p2,z2⟩:=I.list q2;obtain⟨u1,e1,ru1⟩:=r1.get hx;obtain⟨u2,e2,ru2⟩:=r2.get hy;refine wpAny_pyNext_zip_item D hz hTI hTO h1 h2 p1.isList p2.isList (by simpa using e1) (by simpa using e2) λh' a1 a2 a3 a4 a5 a6 a7=>⟨_,rfl,?_⟩;refine wpAny_letOwnedTupleGo_zip a1 λh'' b1 b2=>?_
  have lt:∀b∈[z,TI,TO,i1,i2],b<s.heap.objs.size:=λb hb=>by
   simp only[bG,bJ,or_false]at hb
   rcases hb with rfl |rfl |rfl |rfl |rfl
   .exact cb hz
   .exact cb hTI
   .exact cb hTO
   .obtain⟨o,e,_⟩:=h1;exact cb e
   .obtain⟨o,e,_⟩:=h2;exact cb e
  have kk:∀b o,b∉[z,TI,TO,i1,i2]->s.heap.get? b=aa o->h''.get? b=aa o:=λb o hb e=>by
   simp only[bG,bJ,or_false,not_or]at hb;obtain⟨n1,n2,n3,n4,n5⟩:=hb;exact(b2.2 b n1).trans (a7 b o n1 n3 n4 n5 e)
  have fr:=I.hok.fresh (bC _)
  have I2:Inv X pins σ (upd H s.heap.objs.size (.tup _)) {s with heap:=h''}:=
   (I.turnedMany kk hf).track (I.fpOk (bC _) fr) ⟨(by show 2<=bE;decide),_,.cons ru1 (.cons ru2 .nil),⟨_,((b2.2 _ (nO (lt z (by simp)))).trans a5),rfl,_,rfl⟩⟩
  refine⟨.ref s.heap.objs.size,_,I2,rfl,⟨_,x,y,rfl,fr,rfl,λc0 h=>by rw[I.list_inj h q1];exact hx,λys' h=>by rw[I.list_inj h q2];exact hy⟩,⟨b1,((b2.2 TI D.TIz).trans (a7 TI _ D.TIz D.TITO D.TIi1 D.TIi2 hTI)),⟨u1,u2,((b2.2 TO D.TOz).trans a2)⟩,(a3.at λo e=>(b2.2 i1 D.i1z).trans e),(a4.at λo e=>(b2.2 i2 D.i2z).trans e)⟩,λb hb=>?_⟩;rw[bH (dC (lt b hb))];exact(hf b hb).1
 done:=by
  intro X hP hw hK hc i pins s σ H E I hf st hg;subst hP hw hK;obtain⟨hz,hTI,⟨a,c,hTO⟩,h1,h2⟩:=st;obtain⟨xs,ys,q1,q2,kT⟩:=hg;obtain⟨its1,r1,p1,z1⟩:=I.list q1;obtain⟨eA,r2,p2,z2⟩:=I.list q2;have l1':=r1.length;have l2':=r2.length;refine wpAny_pyNext_zip_end (I.ok.hd hc) D hz hTI hTO h1 h2 p1.isList p2.isList ?_ λh' kk=>⟨rfl,I.turnedMany (λb o hb e=>?_) hf⟩
  .rcases kT with q |q
   .exact .inl (by simp;lia)
   .exact .inr (by simp;lia)
  .simp only[bG,bJ,or_false,not_or]at hb;obtain⟨n1,n2,n3,n4,n5⟩:=hb;exact kk b o n1 n3 n4 n5 e
 self:=λ_ _ _ _ _ st h=>wpAny_pyIter_zip st.1 h
abbrev Dp(K:bu)(c:TA):TI:=λσ H R=>c σ H λvs H1=>∃a b,vs=[.ref a,.ref b]/\(∃xs,SqL K H1 a xs)/\(∃d,SqL K H1 b d)/\R (Itz K a b) H1
variable{tpos:Pos}{b:Expr}{ta:TA}
def Dr{a:Expr}{p:Pos}(hg:Gl X "zip")(hm:X.mg "zip"=ae)(ha:PA X [a,b] ta)(hs:aX [a,b] X.env=[(ak,eval a X.env),(ak,eval b X.env)]:=by rfl)(f:aX [b] X.env=[(ak,eval b X.env)]:=by rfl):
  PI X (.Tuple hI kx tpos) (.Call (.Name "zip" p) [a,b] [] pos) (Dp X.K ta):=by
 intro pins s σ H R I h;refine Call_ (jv I hg hm boot_zip (mn (thn (ha pos pins s σ H _ I h) λus s1 ⟨vs,H1,c,z,q1⟩=>?_) (by rw[hs,f]) (by rw[f];rfl)));obtain⟨l1,l2,e,⟨xs,U⟩,⟨ys,h2⟩,q⟩:=q1;subst e;obtain⟨u,v,rfl,ru,rv⟩:=mx z;subst ru;subst rv;obtain⟨m,z,r,z1⟩:=c.list U;obtain⟨n,r2,y,z2⟩:=c.list h2;refine call_zip_2 r.isList y.isList λh' j B G L M a6 T=>?_;refine wpAny_pyIter_zip j ?_;refine⟨_,_,_,_,H1,rfl,(c.kept T),Do _ _ _ _ _ _ _ (zipApart_new r.lt y.lt),⟨j,B,⟨_,_,G⟩,L,M⟩,λb l=>?_,q⟩;simp only[bG,bJ,or_false]at l
 have d:s1.heap.objs.size<=b:=by
  rcases l with rfl |rfl |rfl |rfl |rfl
  .exact k9 _ _
  .exact k9 _ _
  .exact k9 _ _
  .exact bC _
  .exact k9 _ _
 exact c.fpOk d (c.hok.fresh d)
inductive D where
 |non
 |bl (b:Bool)
 |int (i:Int)
 |str (x:Str)
 |lst (xs:List D)
 |tup (xs:List D)
 |kl (xs:List D)
 |kt (xs:List D)
 |dic (ks:List Key) (xs:List D)
 |ins (c:Str) (ns:LSt) (xs:List D)
 |kd (ks:List Key) (xs:List D)
 |dT (ks:List (List Key)) (xs:List D)
 deriving Inhabited
nonrec abbrev OD:=Option D
nonrec abbrev LD:=List D
nonrec abbrev OLD:=Option LD
set_option genInjectivity false in
structure Gc where
 K:bu
 cl:Str->Addr
mutual
def Rep(G:Gc)(H:Hp):D->V->Prop
 |.non,v=>v=.non
 |.bl b,v=>v=.bl b
 |.int i,v=>v=.int i
 |.str x,v=>v=.str x
 |.lst ds,v=>∃a vs,v=.ref a/\H a=aa (.lst vs)/\aC G H ds vs
 |.tup ds,v=>∃a vs,v=.ref a/\H a=aa (.tup vs)/\aC G H ds vs
 |.kl ds,v=>∃a vs,v=.ref a/\SqL G.K H a vs/\aC G H ds vs
 |.kt ds,v=>∃a vs,v=.ref a/\SqT G.K H a vs/\aC G H ds vs
 |.dic ks ds,v=>∃a vs,v=.ref a/\H a=aa (.dK (ks.zip vs))/\ks.length=vs.length/\aC G H ds vs
 |.ins c ns ds,v=>∃a dx vs,v=.ref a/\H a=aa (.ins (G.cl c) dx (ns.zip vs))/\ns.length=vs.length/\aC G H ds vs
 |.kd ks ds,v=>∃a od vs,v=.ref a/\H a=aa (.frz od (.dK (ks.zip vs)))/\ks.length=vs.length/\aC G H ds vs
 |.dT ks ds,v=>∃a vs,v=.ref a/\H a=aa (.dT (ks.zip vs))/\ks.length=vs.length/\aC G H ds vs
def aC(G:Gc)(H:Hp):LD->List V->Prop
 | [],vs=>vs=[]
 |d::ds,vs=>∃v r,vs=v::r/\Rep G H d v/\aC G H ds r
end
mutual
theorem Rep.upM(s:aG H H'):∀(d:D) (v:V),Rep G H d v->Rep G H' d v
 |.non,_,h=>h
 |.bl _,_,h=>h
 |.int _,_,h=>h
 |.str _,_,h=>h
 |.lst ds,_,h_=>by obtain⟨a,vs,e,q,r⟩:=h_;exact⟨a,vs,e,s _ _ q,aC.upM s ds vs r⟩
 |.tup ds,_,h_=>by obtain⟨a,vs,e,q,r⟩:=h_;exact⟨a,vs,e,s _ _ q,aC.upM s ds vs r⟩
 |.kl ds,_,h_=>by obtain⟨a,vs,e,q,r⟩:=h_;exact⟨a,vs,e,s.seq q,aC.upM s ds vs r⟩
 |.kt ds,_,h_=>by obtain⟨a,vs,e,q,r⟩:=h_;exact⟨a,vs,e,s.tup q,aC.upM s ds vs r⟩
 |.dic _ ds,_,h_=>by obtain⟨a,vs,e,q,l,r⟩:=h_;exact⟨a,vs,e,s _ _ q,l,aC.upM s ds vs r⟩
 |.ins _ _ ds,_,h_=>by obtain⟨a,dx,vs,e,q,l,r⟩:=h_;exact⟨a,dx,vs,e,s _ _ q,l,aC.upM s ds vs r⟩
 |.kd _ ds,_,h_=>by obtain⟨a,od,vs,e,q,l,r⟩:=h_;exact⟨a,od,vs,e,s _ _ q,l,aC.upM s ds vs r⟩
 |.dT _ ds,_,h_=>by obtain⟨a,vs,e,q,l,r⟩:=h_;exact⟨a,vs,e,s _ _ q,l,aC.upM s ds vs r⟩
theorem aC.upM(s:aG H H'):∀(ds:LD) (vs:List V),aC G H ds vs->aC G H' ds vs
 | [],_,h=>h
 |d::ds,_,h_=>by obtain⟨v,r,e,a,c⟩:=h_;exact⟨v,r,e,Rep.upM s d v a,aC.upM s ds r c⟩
end
variable{G:Gc}{d:D}{v:V}
def Rep.up(r:Rep G H d v)(s:aG H H'):Rep G H' d v:=Rep.upM s d v r
variable{ds:LD}{vs:List V}
def aC.up(r:aC G H ds vs)(s:aG H H'):aC G H' ds vs:=aC.upM s ds vs r
def aC.nil:aC G H [] []:=rfl
def aC.cons(h:Rep G H d v)(t:aC G H ds vs):aC G H (d::ds) (v::vs):=⟨v,vs,rfl,h,t⟩
def aC.length:∀{ds:LD} {vs:List V},aC G H ds vs->ds.length=vs.length
 | [],_,h=>by cases (h);rfl
 |d::ds,_,⟨v,r,e,_,h⟩=>by subst e;simp[aC.length h]
def aC.append:∀{ds es:LD} {vs us:List V},aC G H ds vs->aC G H es us->aC G H (ds++es) (vs++us)
 | [],_,_,_,h,t=>by cases (h);exact t
 |d::ds,_,_,_,⟨v,r,e,h1,h2⟩,t=>by subst e;exact⟨v,r++_,rfl,h1,aC.append h2 t⟩
def aC.get:∀{ds:LD} {vs:List V} {i:Nat} {d:D},aC G H ds vs->ds[i]?=aa d->∃v,vs[i]?=aa v/\Rep G H d v
 | [],_,_,_,_,e=>by simp at e
 |d::ds,_,0,_,⟨v,r,e,h1,_⟩,e'=>by subst e;simp at e';subst e';exact⟨v,rfl,h1⟩
 |d::ds,_,i+1,d',q4_,e'=>by
  obtain⟨v,r,e,_,c⟩:=q4_;subst e;obtain⟨u,a,b⟩:=aC.get c (by simpa using e');exact⟨u,by simpa using a,b⟩
def aC.get':∀{ds:LD} {vs:List V} {i:Nat} {v:V},aC G H ds vs->vs[i]?=aa v->∃d,ds[i]?=aa d/\Rep G H d v:=λ{ds vs i v} h e=>by
 have c:=h.length;have hi:i<ds.length:=by have:=(dh.mp e).1;lia
 obtain⟨u,a,b⟩:=h.get (i:=i) (d:=ds[i]) (by simp[hi]);rw[e]at a;cases a;exact⟨ds[i],by simp[hi],b⟩
def aC.ints:∀(ns:List Int),aC G H (ns.map D.int) (ns.map V.int)
 | []=>rfl
 |n::ns=>⟨_,_,rfl,rfl,aC.ints ns⟩
def aC.take:∀{ds:LD} {vs:List V} (n:Nat),aC G H ds vs->aC G H (ds.take n) (vs.take n)
 | _,_,0,_=>rfl
 | [],_,n+1,h=>by cases (h);rfl
 |d::ds,_,n+1,⟨v,r,e,h1,h2⟩=>by subst e;exact⟨v,r.take n,rfl,h1,aC.take n h2⟩
def aC.drop:∀{ds:LD} {vs:List V} (n:Nat),aC G H ds vs->aC G H (ds.drop n) (vs.drop n)
 | _,_,0,h=>h
 | [],_,n+1,h=>by cases (h);rfl
 |d::ds,_,n+1,⟨v,r,e,h1,h2⟩=>by subst e;exact aC.drop n h2
def aC.reverse:∀{ds:LD} {vs:List V},aC G H ds vs->aC G H ds.reverse vs.reverse
 | [],_,h=>by cases (h);rfl
 |d::ds,_,q2_=>by
  obtain⟨v,r,e,a,c⟩:=q2_;subst e;rw[reverse_cons,reverse_cons];exact(aC.reverse c).append (.cons a .nil)
def aC.set:∀{ds:LD} {vs:List V} (i:Nat) {d:D} {v:V},aC G H ds vs->Rep G H d v->aC G H (ds.set i d) (vs.set i v)
 | [],_,_,_,_,h,_=>by cases (h);exact .nil
 |e::ds,_,0,_,_,⟨v,r,e',_,h2⟩,q=>by subst e';exact⟨_,r,rfl,q,h2⟩
 |e::ds,_,i+1,_,_,⟨v,r,e',h1,h2⟩,q=>by subst e';exact⟨v,r.set i _,rfl,h1,aC.set i h2 q⟩
abbrev fW:HO->Bool
 |.tup _=>ac
 | _=>ak
structure Ext(Hf H Hf' H':Hp):Prop where
 f:aG Hf Hf'
 h:aG H H'
 s:aG Hf' H'
 n:∀l o,H l=aa o->fW o=ak->Hf' l=Hf l
variable{Hf:Hp}
def Ext.refl(s:aG Hf H):Ext Hf H Hf H:=⟨aG.refl _,aG.refl _,s,λ_ _ _ _=>rfl⟩
variable{b3 b0:Hp}
def Ext.trans(a:Ext Hf H b3 H1)(b:Ext b3 H1 b0 H2):Ext Hf H b0 H2:=⟨a.f.trans b.f,a.h.trans b.h,b.s,λl o e t=>(b.n l o (a.h l o e) t).trans (a.n l o e t)⟩
def Ext.new(s:aG Hf H)(h:H p=ae):Ext Hf H (upd Hf p o) (upd H p o):=
 ⟨cM (s.free h),cM h,λb u e=>by
  by_cases a:b=p
  .subst a;rw[bT]at e ⊢;exact e
  .rw[bH a]at e ⊢;exact s b u e,λl u e _=>by rw[bH (g8 e h)]⟩
def Ext.tmp(s:aG Hf H)(h:H p=ae):Ext Hf H Hf (upd H p o):=⟨aG.refl _,cM h,s.trans (cM h),λ_ _ _ _=>rfl⟩
def Ext.grow(s:aG Hf H)(g:aG H H1):Ext Hf H Hf H1:=⟨aG.refl _,g,s.trans g,λ_ _ _ _=>rfl⟩
def Ext.fix(a:Ext Hf H b3 H1)(hn:H p=ae)(j:b3 p=ae)(m:H1 p=aa o):Ext Hf H (upd b3 p o) H1:=
 ⟨a.f.trans (cM j),a.h,λb u e=>by
  by_cases c:b=p
  .subst c;rw[bT]at e;rw[m];exact e
  .rw[bH c]at e;exact a.s b u e,λl u e t=>by rw[bH (g8 e hn)];exact a.n l u e t⟩
inductive O where
 |fz (d:D)
 |lst (xs:List O)
 |tup (xs:List O)
 |dic (ks:List Key) (xs:List O)
 |ins (c:Str) (ns:LSt) (xs:List O)
 |jnk (n:Nat)
 |dT (ks:List (List Key)) (xs:List O)
 |at (l:Addr) (o:O)
 |any
 deriving Inhabited
mutual
def OT(G:Gc)(Hf H:Hp):O->V->LAd->Prop
 |.fz d,v,fp=>Rep G Hf d v/\fp=[]
 |.lst os,v,fp=>∃a vs fs,v=.ref a/\H a=aa (.lst vs)/\OTs G Hf H os vs fs/\fp=a::fs
 |.tup os,v,fp=>∃a vs,v=.ref a/\H a=aa (.tup vs)/\OTs G Hf H os vs fp
 |.dic ks os,v,fp=>∃a vs fs,v=.ref a/\H a=aa (.dK (ks.zip vs))/\ks.length=vs.length/\OTs G Hf H os vs fs/\fp=a::fs
 |.ins c ns os,v,fp=>∃a dx vs fs,v=.ref a/\H a=aa (.ins (G.cl c) dx (ns.zip vs))/\ns.length=vs.length/\OTs G Hf H os vs fs/\fp=a::fs
 |.jnk n,v,fp=>∃a vs,v=.ref a/\H a=aa (.lst vs)/\vs.length<=n/\fp=[a]
 |.dT ks os,v,fp=>∃a vs fs,v=.ref a/\H a=aa (.dT (ks.zip vs))/\ks.length=vs.length/\OTs G Hf H os vs fs/\fp=a::fs
 |.at l o,v,fp=>v=.ref l/\OT G Hf H o v fp
 |.any,_,fp=>fp=[]
def OTs(G:Gc)(Hf H:Hp):List O->List V->LAd->Prop
 | [],vs,fp=>vs=[]/\fp=[]
 |o::os,vs,fp=>∃v r a c,vs=v::r/\OT G Hf H o v a/\OTs G Hf H os r c/\fp=a++c
end
mutual
noncomputable def O.toD:O->D
 |.fz d=>d
 |.lst os=>.lst (O.toDs os)
 |.tup os=>.tup (O.toDs os)
 |.dic ks os=>.dic ks (O.toDs os)
 |.ins c ns os=>.ins c ns (O.toDs os)
 |.at _ o=>o.toD
 |.jnk _=>.non
 |.dT ks os=>.dT ks (O.toDs os)
 |.any=>.non
noncomputable def O.toDs:List O->LD
 | []=>[]
 |o::os=>o.toD::O.toDs os
end
mutual
noncomputable def O.kn:O->Bool
 |.fz _=>ac
 |.lst os=>O.kns os
 |.tup os=>O.kns os
 |.dic _ os=>O.kns os
 |.ins _ _ os=>O.kns os
 |.at _ o=>o.kn
 |.jnk _=>ak
 |.dT _ os=>O.kns os
 |.any=>ak
noncomputable def O.kns:List O->Bool
 | []=>ac
 |o::os=>o.kn && O.kns os
end
mutual
theorem OT.frameM(f:aG Hf Hf'):∀(o:O) (v:V) (fp:LAd),OT G Hf H o v fp->(∀b u,H b=aa u->(fW u=ac\/b∈fp)->H' b=aa u)->OT G Hf' H' o v fp
 |.fz d,_,_,h,_=>⟨h.1.up f,h.2⟩
 |.lst os,_,fp,h_,k=>by obtain⟨a,vs,fs,e,q,r,j⟩:=h_;exact⟨a,vs,fs,e,k _ _ q (.inr (by rw[j];exact bP)),OTs.frameM f os vs fs r (λb u l hm=>k b u l (hm.imp_right λz=>by rw[j];exact cF _ z)),j⟩
 |.tup os,_,fp,h_,k=>by obtain⟨a,vs,e,q,r⟩:=h_;exact⟨a,vs,e,k _ _ q (.inl rfl),OTs.frameM f os vs fp r k⟩
 |.dic ks os,_,fp,h_,k=>by obtain⟨a,vs,fs,e,q,z,r,j⟩:=h_;exact⟨a,vs,fs,e,k _ _ q (.inr (by rw[j];exact bP)),z,OTs.frameM f os vs fs r (λb u l hm=>k b u l (hm.imp_right λz=>by rw[j];exact cF _ z)),j⟩
 |.ins c ns os,_,fp,h_,k=>by obtain⟨a,dx,vs,fs,e,q,z,r,j⟩:=h_;exact⟨a,dx,vs,fs,e,k _ _ q (.inr (by rw[j];exact bP)),z,OTs.frameM f os vs fs r (λb u l hm=>k b u l (hm.imp_right λz=>by rw[j];exact cF _ z)),j⟩
 |.jnk n,_,fp,h_,k=>by obtain⟨a,vs,e,q,z,j⟩:=h_;exact⟨a,vs,e,k _ _ q (.inr (by rw[j];exact bP)),z,j⟩
 |.dT ks os,_,fp,h_,k=>by obtain⟨a,vs,fs,e,q,z,r,j⟩:=h_;exact⟨a,vs,fs,e,k _ _ q (.inr (by rw[j];exact bP)),z,OTs.frameM f os vs fs r (λb u l hm=>k b u l (hm.imp_right λz=>by rw[j];exact cF _ z)),j⟩
 |.at _ o,v,fp,h_,k=>by obtain⟨e,r⟩:=h_;exact⟨e,OT.frameM f o v fp r k⟩
 |.any,_,_,h,_=>h
theorem OTs.frameM(f:aG Hf Hf'):∀(os:List O) (vs:List V) (fp:LAd),OTs G Hf H os vs fp->(∀b u,H b=aa u->(fW u=ac\/b∈fp)->H' b=aa u)->OTs G Hf' H' os vs fp
 | [],_,_,h,_=>h
 |o::os,_,fp,h_,k=>by obtain⟨v,r,j,l,e,m,n,a⟩:=h_;exact⟨v,r,j,l,e,OT.frameM f o v j m (λb u c hm=>k b u c (hm.imp_right λz=>by rw[a];exact iQ _ z)),OTs.frameM f os r l n (λb u c hm=>k b u c (hm.imp_right λz=>by rw[a];exact gH _ z)),a⟩
end
variable{Hf':Hp}{o:O}
def OT.frame(h:OT G Hf H o v fp)(f:aG Hf Hf')(k:∀b u,H b=aa u->(fW u=ac\/b∈fp)->H' b=aa u):OT G Hf' H' o v fp:=OT.frameM f o v fp h k
def OT.up(h:OT G Hf H o v fp)(f:aG Hf Hf')(s:aG H H'):OT G Hf' H' o v fp:=h.frame f λb u e _=>s b u e
def qH{a c:Type}:∀{ks:List a} {vs us:List c},ks.length=vs.length->ks.length=us.length->ks.zip vs=ks.zip us->vs=us
 | [],[],[],_,_,_=>rfl
 |k::ks,v::vs,u::us,h1,h2,e=>by
  injection e with e1 e2
  injection e1 with _ e3
  rw[e3,qH (by simpa using h1) (by simpa using h2) e2]
 | [],_::_,_,h,_,_=>by cases h
 | [],[],_::_,_,h,_=>by cases h
 | _::_,[],_,h,_,_=>by cases h
 | _::_,_::_,[],_,h,_=>by cases h
mutual
theorem OT.funM:∀(o:O) (v:V) (f L:LAd),OT G Hf H o v f->OT G Hf' H o v L->f=L
 |.fz d,_,_,_,h,h'=>h.2.trans h'.2.symm
 |.lst os,_,_,_,q4_,q5_=>by
  obtain⟨a,vs,fs,e,q,r,B⟩:=q4_;obtain⟨T,y,l,u,m,I,j⟩:=q5_;subst e B j;cases u;rw[q]at m;cases m
  rw[OTs.funM os vs fs l r I]
 |.tup os,_,f,L,q4_,q5_=>by
  obtain⟨a,vs,e,q,r⟩:=q4_;obtain⟨T,y,u,m,I⟩:=q5_;subst e;cases u;rw[q]at m;cases m
  exact OTs.funM os vs f L r I
 |.dic ks os,_,_,_,q4_,q5_=>by
  obtain⟨a,vs,fs,e,q,z,r,B⟩:=q4_;obtain⟨T,y,l,u,m,M,I,j⟩:=q5_;subst e B j;cases u;rw[q]at m;have:=qH z M (HO.dK.inj (cs m));subst this
  rw[OTs.funM os vs fs l r I]
 |.ins c ns os,_,_,_,q4_,q5_=>by
  obtain⟨a,dx,vs,fs,e,q,z,r,B⟩:=q4_;obtain⟨T,U,y,l,u,m,M,I,j⟩:=q5_;subst e B j;cases u;rw[q]at m;have:=qH z M (HO.ins.inj (cs m)).2.2;subst this
  rw[OTs.funM os vs fs l r I]
 |.jnk n,_,_,_,q4_,q5_=>by
  obtain⟨a,vs,e,q,z,B⟩:=q4_;obtain⟨T,y,u,m,M,j⟩:=q5_;subst e B j;cases u
  rfl
 |.dT ks os,_,_,_,q4_,q5_=>by
  obtain⟨a,vs,fs,e,q,z,r,B⟩:=q4_;obtain⟨T,y,l,u,m,M,I,j⟩:=q5_;subst e B j;cases u;rw[q]at m;have:=qH z M (HO.dT.inj (cs m));subst this
  rw[OTs.funM os vs fs l r I]
 |.at _ o,v,f,L,h,h'=>OT.funM o v f L h.2 h'.2
 |.any,_,_,_,h,h'=>(show _=[]from h).trans (show _=[]from h').symm
theorem OTs.funM:∀(os:List O) (vs:List V) (f n:LAd),OTs G Hf H os vs f->OTs G Hf' H os vs n->f=n
 | [],_,_,_,h,h'=>h.2.trans h'.2.symm
 |o::os,_,_,_,q4_,q5_=>by
  obtain⟨v,r,y,z,e,B,I,u⟩:=q4_;obtain⟨M,L,c,j,q,l,m,a⟩:=q5_;subst e u a;cases q;rw[OT.funM o v y c B l,OTs.funM os r z j I m]
end
mutual
theorem OT.memM:∀(o:O) (v:V) (f:LAd),OT G Hf H o v f->∀a∈f,∃u,H a=aa u/\fW u=ak
 |.fz d,_,_,h,a,ha=>by rw[h.2]at ha;cases ha
 |.lst os,_,_,q3_,b,hb=>by
  obtain⟨a,vs,fs,e,q,r,j⟩:=q3_;subst j
  rcases bG.mp hb with z |z
  .subst z;exact⟨_,q,rfl⟩
  .exact OTs.memM os vs fs r b z
 |.tup os,_,f,⟨a,vs,e,q,r⟩,b,hb=>OTs.memM os vs f r b hb
 |.dic ks os,_,_,q3_,b,hb=>by
  obtain⟨a,vs,fs,e,q,z,r,j⟩:=q3_;subst j
  rcases bG.mp hb with z |z
  .subst z;exact⟨_,q,rfl⟩
  .exact OTs.memM os vs fs r b z
 |.ins c ns os,_,_,q3_,b,hb=>by
  obtain⟨a,dx,vs,fs,e,q,z,r,j⟩:=q3_;subst j
  rcases bG.mp hb with z |z
  .subst z;exact⟨_,q,rfl⟩
  .exact OTs.memM os vs fs r b z
 |.jnk n,_,_,q3_,b,hb=>by
  obtain⟨a,vs,e,q,z,j⟩:=q3_;subst j;rw[aU.mp hb]
  exact⟨_,q,rfl⟩
 |.dT ks os,_,_,q3_,b,hb=>by
  obtain⟨a,vs,fs,e,q,z,r,j⟩:=q3_;subst j
  rcases bG.mp hb with z |z
  .subst z;exact⟨_,q,rfl⟩
  .exact OTs.memM os vs fs r b z
 |.at _ o,v,f,h,a,ha=>OT.memM o v f h.2 a ha
 |.any,_,_,h,a,ha=>by rw[show _=[]from h]at ha;cases ha
theorem OTs.memM:∀(os:List O) (vs:List V) (f:LAd),OTs G Hf H os vs f->∀a∈f,∃u,H a=aa u/\fW u=ak
 | [],_,_,h,a,ha=>by rw[h.2]at ha;cases ha
 |o::os,_,_,q3_,a,ha=>by
  obtain⟨v,r,j,l,e,m,n,c⟩:=q3_;subst c
  rcases bV.mp ha with z |z
  .exact OT.memM o v j m a z
  .exact OTs.memM os r l n a z
end
mutual
theorem OT.repM(s:aG Hf H):∀(o:O) (v:V) (f:LAd),o.kn=ac->OT G Hf H o v f->Rep G H o.toD v
 |.fz d,_,_,_,h=>by rw[O.toD];exact h.1.up s
 |.lst os,_,_,hk,h_=>by obtain⟨a,vs,fs,e,q,r,j⟩:=h_;rw[O.kn]at hk;rw[O.toD];exact⟨a,vs,e,q,OTs.repM s os vs fs hk r⟩
 |.tup os,_,f,hk,h_=>by obtain⟨a,vs,e,q,r⟩:=h_;rw[O.kn]at hk;rw[O.toD];exact⟨a,vs,e,q,OTs.repM s os vs f hk r⟩
 |.dic ks os,_,_,hk,h_=>by obtain⟨a,vs,fs,e,q,z,r,j⟩:=h_;rw[O.kn]at hk;rw[O.toD];exact⟨a,vs,e,q,z,OTs.repM s os vs fs hk r⟩
 |.ins c ns os,_,_,hk,h_=>by obtain⟨a,dx,vs,fs,e,q,z,r,j⟩:=h_;rw[O.kn]at hk;rw[O.toD];exact⟨a,dx,vs,e,q,z,OTs.repM s os vs fs hk r⟩
 |.at _ o,v,f,hk,h=>by rw[O.kn]at hk;rw[O.toD];exact OT.repM s o v f hk h.2
 |.jnk _,_,_,hk,_=>by rw[O.kn]at hk;cases hk
 |.dT ks os,_,_,hk,h_=>by obtain⟨a,vs,fs,e,q,z,r,j⟩:=h_;rw[O.kn]at hk;rw[O.toD];exact⟨a,vs,e,q,z,OTs.repM s os vs fs hk r⟩
 |.any,_,_,hk,_=>by rw[O.kn]at hk;cases hk
theorem OTs.repM(s:aG Hf H):∀(os:List O) (vs:List V) (f:LAd),O.kns os=ac->OTs G Hf H os vs f->aC G H (O.toDs os) vs
 | [],_,_,_,h=>by rw[O.toDs];exact h.1
 |o::os,_,_,hk,h_=>by
  obtain⟨v,r,a,c,e,j,l,m⟩:=h_;rw[O.kns,cx]at hk;rw[O.toDs];exact⟨v,r,e,OT.repM s o v a hk.1 j,OTs.repM s os r c hk.2 l⟩
end
def OT.rep{f:LAd}(h:OT G Hf H o v f)(s:aG Hf H)(a:o.kn=ac):Rep G H o.toD v:=OT.repM s o v f a h
def OTs.fz:∀{ds:LD} {vs:List V},aC G Hf ds vs->OTs G Hf H (ds.map .fz) vs []
 | [],_,h=>⟨h,rfl⟩
 |d::ds,_,⟨v,r,e,h1,h2⟩=>⟨v,r,[],[],e,⟨h1,rfl⟩,OTs.fz h2,rfl⟩
def Ds(ds:LD):O.toDs (ds.map .fz)=ds:=by
 induction ds with
 |nil=>rfl
 |cons d ds a=>rw[gI,O.toDs,O.toD,a]
inductive Sl where
 |no
 |im (d:D)
 |own (xs:LD)
 |ownd (ks:List Key) (xs:LD)
 |obj (c:Str) (ns:LSt) (xs:LD)
 |pin (l:Addr) (xs:LD)
 |pind (l:Addr) (ks:List Key) (xs:LD)
 |pino (l:Addr) (c:Str) (ns:LSt) (xs:LD)
 |deep (o:O)
 |val (u:V)
nonrec abbrev LS:=List Sl
@[reducible]noncomputable def nZ{a:Type}:LS->Option (List a):=λ_=>aa []
@[reducible]noncomputable def kY:LS->Option Bool:=λ_=>aa ac
@[reducible]noncomputable def kN:LS->OD:=λ_=>aa .non
@[reducible]noncomputable def kI(i:Int):LS->OD:=λ_=>aa (.int i)
@[reducible]noncomputable def kSt(x:Str):LS->OD:=λ_=>aa (.str x)
@[reducible]noncomputable def kBl(b:Bool):LS->OD:=λ_=>aa (.bl b)
nonrec abbrev MF1:=LS->OD
nonrec abbrev MF2:=LS->OLD
nonrec abbrev MF4:=LS->Option Bool
abbrev Sl.isOwn:Sl->Bool
 |.own _=>ac
 |.ownd _ _=>ac
 |.obj _ _ _=>ac
 |.pin _ _=>ac
 |.pind _ _ _=>ac
 |.pino _ _ _ _=>ac
 | _=>ak
abbrev Sl.calm:Sl->Bool
 |.no=>ac
 |.im _=>ac
 | _=>ak
abbrev g9(G:Gc)(Hf H:Hp)(l:Addr):Sl->Prop
 |.own ds=>∃vs,H l=aa (.lst vs)/\aC G Hf ds vs
 |.ownd ks ds=>∃vs,H l=aa (.dK (ks.zip vs))/\ks.length=vs.length/\aC G Hf ds vs
 |.obj c ns ds=>∃dx vs,H l=aa (.ins (G.cl c) dx (ns.zip vs))/\ns.length=vs.length/\aC G Hf ds vs
 |.pin a ds=>l=a/\∃vs,H l=aa (.lst vs)/\aC G Hf ds vs
 |.pind a ks ds=>l=a/\∃vs,H l=aa (.dK (ks.zip vs))/\ks.length=vs.length/\aC G Hf ds vs
 |.pino a c ns ds=>l=a/\∃dx vs,H l=aa (.ins (G.cl c) dx (ns.zip vs))/\ns.length=vs.length/\aC G Hf ds vs
 | _=>False
variable{l:Addr}{s:Sl}
def g9.there2(h:g9 G Hf H l s):∃o,H l=aa o/\fW o=ak:=by
 cases s with
 |own ds=>obtain⟨vs,h,_⟩:=h;exact⟨_,h,rfl⟩
 |ownd ks ds=>obtain⟨vs,h,_⟩:=h;exact⟨_,h,rfl⟩
 |obj c ns ds=>obtain⟨dx,vs,h,_⟩:=h;exact⟨_,h,rfl⟩
 |pin a ds=>obtain⟨_,vs,h,_⟩:=h;exact⟨_,h,rfl⟩
 |pind a ks ds=>obtain⟨_,vs,h,_⟩:=h;exact⟨_,h,rfl⟩
 |pino a c ns ds=>obtain⟨_,dx,vs,h,_⟩:=h;exact⟨_,h,rfl⟩
 | _=>exact h.elim
def g9.up(h:g9 G Hf H l s)(f:aG Hf Hf')(e:∀o,H l=aa o->H' l=aa o):g9 G Hf' H' l s:=by
 cases s with
 |own ds=>obtain⟨vs,h,r⟩:=h;exact⟨vs,e _ h,r.up f⟩
 |ownd ks ds=>obtain⟨vs,h,z,r⟩:=h;exact⟨vs,e _ h,z,r.up f⟩
 |obj c ns ds=>obtain⟨dx,vs,h,z,r⟩:=h;exact⟨dx,vs,e _ h,z,r.up f⟩
 |pin a ds=>obtain⟨q,vs,h,r⟩:=h;exact⟨q,vs,e _ h,r.up f⟩
 |pind a ks ds=>obtain⟨q,vs,h,z,r⟩:=h;exact⟨q,vs,e _ h,z,r.up f⟩
 |pino a c ns ds=>obtain⟨q,dx,vs,h,z,r⟩:=h;exact⟨q,dx,vs,e _ h,z,r.up f⟩
 | _=>exact h.elim
abbrev eR(G:Gc)(H0 Hf H:Hp)(v:Option V):Sl->Prop
 |.no=>True
 |.im d=>∃u,v=aa u/\Rep G Hf d u
 |.deep o=>∃u fp,v=aa u/\OT G Hf H o u fp/\fp.Nodup/\∀a∈fp,H0 a=ae/\Hf a=ae
 |.val u=>v=aa u
 |s=>∃l,v=aa (.ref l)/\H0 l=ae/\Hf l=ae/\g9 G Hf H l s
variable{H0:Hp}
def eR.own{v:Option V}(a:s.isOwn=ac)(h:eR G H0 Hf H v s):∃l,v=aa (.ref l)/\H0 l=ae/\Hf l=ae/\g9 G Hf H l s:=by
 cases s <;> first |exact h |cases a
def eR.ofOwn{v:Option V}(a:s.isOwn=ac)(h:∃l,v=aa (.ref l)/\H0 l=ae/\Hf l=ae/\g9 G Hf H l s):eR G H0 Hf H v s:=by
 cases s <;> first |exact h |cases a
abbrev Holds(G:Gc)(Hf H:Hp)(s:Sl)(v:V)(a:Addr):Prop:=match s with
 |.deep o=>∃fp,OT G Hf H o v fp/\a∈fp
 |s=>s.isOwn=ac/\v=.ref a
variable{a:Addr}
def Holds.own(c:s.isOwn=ac):Holds G Hf H s v a↔v=.ref a:=by
 cases s <;> first |exact⟨λh=>h.2,λh=>⟨rfl,h⟩⟩ |nomatch c
def Holds.calm(h:Holds G Hf H s v a)(c:s.calm=ac):False:=by
 cases s <;> first |exact jS h.1 |nomatch c
def eR.back(q:eR G H0 Hf H (aa v) s)(k:∀o fp,s=.deep o->OT G Hf H o v fp->OT G Hf' H' o v fp)(h:Holds G Hf' H' s v a):Holds G Hf H s v a:=by
 cases s with
 |deep o=>
  obtain⟨u,fp,e,r,_⟩:=q;cases e;obtain⟨c,f,ha⟩:=h;have:=OT.funM o v fp c (k o fp rfl r) f;subst this
  exact⟨fp,r,ha⟩
 | _=>exact h
def eR.there(q:eR G H0 Hf H (aa v) s)(h:Holds G Hf H s v a):∃o,H a=aa o/\fW o=ak:=by
 cases c:s.isOwn with
 |true=>
  obtain⟨l,e,_,_,f⟩:=q.own c;cases e;cases ((Holds.own c).mp h)
  exact f.there2
 |false=>
  cases s with
  |deep o=>
   obtain⟨fp,r,ha⟩:=h
   exact OT.memM o v fp r a ha
  | _=>first |exact jS h.1 |nomatch c
structure aB(G:Gc)(Hf0 H0 Hf H:Hp)(σ:St)(U:LS):Prop where
 ext:Ext Hf0 H0 Hf H
 len:σ.length=U.length
 at':∀(i:Nat) (v:Option V) (s:Sl),σ[i]?=aa v->U[i]?=aa s->eR G H0 Hf H v s
 dj:∀(i j:Nat) (s t:Sl) (v w:V) (a:Addr),U[i]?=aa s->U[j]?=aa t->σ[i]?=aa (aa v)->σ[j]?=aa (aa w)->Holds G Hf H s v a->Holds G Hf H t w a->i=j
variable{Hf0:Hp}{U:LS}
def aB.sub(h:aB G Hf0 H0 Hf H σ U):aG Hf H:=h.ext.s
def aB.inj(h:aB G Hf0 H0 Hf H σ U)(i j:Nat)(s t:Sl)(l:Addr)(a:U[i]?=aa s)(b:U[j]?=aa t)(f:s.isOwn=ac)(m:t.isOwn=ac)(c:σ[i]?=aa (aa (.ref l)))(d:σ[j]?=aa (aa (.ref l))):i=j:=
 h.dj i j s t _ _ l a b c d ((Holds.own f).mpr rfl) ((Holds.own m).mpr rfl)
variable{kv:Hp}{ρ':LS}
def aB.re{m:Hp}(h:aB G Hf0 H0 Hf H σ U)(x:Ext m kv Hf' H')(u:ρ'.length=U.length)(ha:∀(i:Nat) (v:Option V) (s:Sl),σ[i]?=aa v->ρ'[i]?=aa s->eR G kv Hf' H' v s)
 (hd:∀(i:Nat) (s:Sl) (v:V) (a:Addr),ρ'[i]?=aa s->σ[i]?=aa (aa v)->Holds G Hf' H' s v a->∃t,U[i]?=aa t/\Holds G Hf H t v a):aB G m kv Hf' H' σ ρ':=
 ⟨x,h.len.trans u.symm,ha,λi j s t v w a b c e f p q=>by
  obtain⟨B,n,y⟩:=hd i s v a b e p;obtain⟨I,r,z⟩:=hd j t w a c f q;exact h.dj i j B I v w a n r e f y z⟩
def aB.step(h:aB G Hf0 H0 Hf H σ U)(e:Ext Hf H Hf' H'):aB G Hf0 H0 Hf' H' σ U:=by
 refine h.re (h.ext.trans e) rfl (λi v s a b=>?_) λi s v a b c d=>⟨s,b,(h.at' i _ s c b).back (λo fp _ r=>r.up e.f e.h) d⟩;have q:=h.at' i v s a b
 cases y:s.isOwn with
 |true=>
  obtain⟨l,j,L,M,I⟩:=q.own y;obtain⟨o,m,B⟩:=I.there2
  exact .ofOwn y ⟨l,j,L,by rw[e.n l o m B];exact M,I.up e.f λo m=>e.h _ _ m⟩
 |false=>
  cases s with
  |no=>trivial
  |im d=>obtain⟨u,j,r⟩:=q;exact⟨u,j,r.up e.f⟩
  |val u=>exact q
  |deep o=>
   obtain⟨u,fp,j,r,n,z⟩:=q;refine⟨u,fp,j,r.up e.f e.h,n,λa ha=>⟨(z a ha).1,?_⟩⟩;obtain⟨T,m,B⟩:=OT.memM o u fp r a ha;rw[e.n a T m B]
   exact(z a ha).2
  | _=>nomatch y
def aB.slot(h:aB G Hf0 H0 Hf H σ U)(e:U[i]?=aa s):∃v,σ[i]?=aa v/\eR G H0 Hf H v s:=by
 have hi:i<σ.length:=by rw[h.len];exact(dh.mp e).1
 exact⟨σ[i],by simp[hi],h.at' i _ s (by simp[hi]) e⟩
def aB.imm(h:aB G Hf0 H0 Hf H σ U)(e:U[i]?=aa (.im d)):∃v,σ[i]?=aa (aa v)/\Rep G Hf d v:=by
 obtain⟨v,c,u,f,r⟩:=h.slot e;subst f;exact⟨u,c,r⟩
def aB.ownAt(j:s.isOwn=ac)(h:aB G Hf0 H0 Hf H σ U)(e:U[i]?=aa s):∃l,σ[i]?=aa (aa (.ref l))/\H0 l=ae/\Hf l=ae/\g9 G Hf H l s:=by
 obtain⟨v,c,q⟩:=h.slot e;obtain⟨l,f,m⟩:=q.own j;rw[f]at c;exact⟨l,c,m⟩
variable{j:Nat}
def cf{f:Type}{l:List f}{x y:f}(h:(l.set i x)[j]?=aa y):(j=i/\y=x/\i<l.length)\/(j≠i/\l[j]?=aa y):=by
 by_cases c:j=i
 .subst c;left;have hi:j<l.length:=by have:=(dh.mp h).1;simpa using this
  rw[fH hi]at h;exact⟨rfl,(cs h).symm,hi⟩
 .right;rw[eN (eE c)]at h;exact⟨c,h⟩
def aB.setIm(h:aB G Hf0 H0 Hf H σ U)(r:Rep G Hf d v):aB G Hf0 H0 Hf H (σ.set i (aa v)) (U.set i (.im d)):=by
 refine⟨h.ext,by simpa using h.len,λj u s a b=>?_,λj k s t u w l a b c m p q=>?_⟩
 .rcases cf b with⟨e,f,_⟩ |⟨e,b⟩
  .subst e f
   rcases cf a with⟨_,f,_⟩ |⟨e,_⟩
   .subst f;exact⟨v,rfl,r⟩
   .exact absurd rfl e
  .rcases cf a with⟨f,_⟩ |⟨_,a⟩
   .exact absurd f e
   .exact h.at' j u s a b
 .rcases cf a with⟨e,f,_⟩ |⟨e,a⟩
  .subst f;exact(p.calm rfl).elim
  .rcases cf b with⟨n,f,_⟩ |⟨n,b⟩
   .subst f;exact(q.calm rfl).elim
   .rcases cf c with⟨f,_⟩ |⟨_,c⟩
    .exact absurd f e
    .rcases cf m with⟨f,_⟩ |⟨_,m⟩
     .exact absurd f n
     .exact h.dj j k s t u w l a b c m p q
variable{u:V}
def aB.setNew(h:aB G Hf0 H0 Hf H σ U)(e:Ext Hf H Hf' H')(I:eR G H0 Hf' H' (aa u) s)(hn:∀a,Holds G Hf' H' s u a->H a=ae):
  aB G Hf0 H0 Hf' H' (σ.set i (aa u)) (U.set i s):=by
 have h':=h.step e
 have no:∀j t w a,U[j]?=aa t->σ[j]?=aa _->Holds G Hf' H' t w a->Holds G Hf' H' s u a->False:=λj t w a b c p q=>by
  obtain⟨o,I,_⟩:=(h.at' j _ t c b).there ((h.at' j _ t c b).back (λo fp _ r=>r.up e.f e.h) p);rw[hn a q]at I;nomatch I
 refine⟨h'.ext,by simpa using h.len,λj w t a b=>?_,λj k t t' v w l a b c n p q=>?_⟩
 .rcases cf b with⟨e,m,_⟩ |⟨e,b⟩
  .subst e m
   rcases cf a with⟨_,m,_⟩ |⟨e,_⟩
   .subst m;exact I
   .exact absurd rfl e
  .rcases cf a with⟨m,_⟩ |⟨_,a⟩
   .exact absurd m e
   .exact h'.at' j w t a b
 .rcases cf a with⟨B,L,_⟩ |⟨B,a⟩
  .rcases cf b with⟨y,z,_⟩ |⟨y,b⟩
   .rw[B,y]
   .rcases cf c with⟨_,m,_⟩ |⟨m,_⟩
    .cases m;rw[L]at p
     rcases cf n with⟨m,_⟩ |⟨_,n⟩
     .exact absurd m y
     .exact(no k t' w l b n q p).elim
    .exact absurd B m
  .rcases cf c with⟨m,_⟩ |⟨_,c⟩
   .exact absurd m B
   .rcases cf b with⟨y,z,_⟩ |⟨y,b⟩
    .rcases cf n with⟨_,m,_⟩ |⟨m,_⟩
     .cases m;rw[z]at q;exact(no j t v l a c p q).elim
     .exact absurd y m
    .rcases cf n with⟨m,_⟩ |⟨_,n⟩
     .exact absurd m y
     .exact h'.dj j k t t' v w l a b c n p q
def aB.setOwn(c:s.isOwn=ac)(h:aB G Hf0 H0 Hf H σ U)(e:Ext Hf H Hf' H')(hn:H l=ae)(f:Hf' l=ae)(m:g9 G Hf' H' l s):
  aB G Hf0 H0 Hf' H' (σ.set i (aa (.ref l))) (U.set i s):=
 h.setNew e (.ofOwn c ⟨l,rfl,h.ext.h.free hn,f,m⟩) λa p=>by cases (Holds.own c).mp p;exact hn
variable{s':Sl}
def aB.chg(h:aB G Hf0 H0 Hf H σ U)(e:U[i]?=aa s)(el:σ[i]?=aa (aa v))(k:∀b u,H b=aa u->Holds G Hf H s v b\/H' b=aa u)(ho:eR G H0 Hf H' (aa v) s')
 (hh:∀a,Holds G Hf H' s' v a->Holds G Hf H s v a\/∀(j:Nat) (t:Sl) (w:V),U[j]?=aa t->σ[j]?=aa (aa w)->Holds G Hf H t w a->False):aB G Hf0 H0 Hf H' σ (U.set i s'):=by
 have q:=h.at' i _ s el e
 have gone:∀b,Holds G Hf H s v b->H0 b=ae/\Hf b=ae:=λb p=>by
  cases hs:s.isOwn with
  |true=>
   obtain⟨l,T,h0,hf,_⟩:=q.own hs;have B:=(Holds.own hs).mp p;cases T;cases B
   exact⟨h0,hf⟩
  |false=>
   cases s with
   |deep o=>
    obtain⟨u,fp,T,r,n,z⟩:=q;cases T;obtain⟨fp',r',ha⟩:=p;have:=OT.funM o v fp fp' r r';subst this
    exact z b ha
   | _=>first |exact jS p.1 |nomatch hs
 have fr:∀j t w,j≠i->U[j]?=aa t->σ[j]?=aa (aa w)->∀o fp,t=.deep o->OT G Hf H o w fp->OT G Hf H' o w fp:=λj t w hj b c o fp et r=>by
  subst et;refine r.frame (aG.refl _) λx u hx hm=>?_
  rcases k x u hx with z |z
  .rcases hm with hm |hm
   .obtain⟨o',m,ht'⟩:=q.there z;rw[hx]at m;cases m;rw[hm]at ht'
    nomatch ht'
   .exact absurd (h.dj j i _ s w v x b e c el ⟨fp,r,hm⟩ z) hj
  .exact z
 refine⟨⟨h.ext.f,λb u e=>?_,λb u e=>?_,h.ext.n⟩,by simpa using h.len,λj u t a b=>?_,λj j' t t' w w' a b c b' c' p p'=>?_⟩
 .rcases k b u (h.ext.h b u e)with z |z
  .rw[(gone b z).1]at e;nomatch e
  .exact z
 .rcases k b u (h.ext.s b u e)with z |z
  .rw[(gone b z).2]at e;nomatch e
  .exact z
 .rcases cf b with⟨e',B,_⟩ |⟨en,b⟩
  .subst e' B;rw[el]at a;cases a;exact ho
  .have q':=h.at' j u t a b
   cases ht:t.isOwn with
   |false=>
    cases t with
    |no=>trivial
    |im d=>exact q'
    |val u=>exact q'
    |deep o=>
     obtain⟨w,fp,T,r,n,z⟩:=q';subst T
     exact⟨w,fp,rfl,fr j _ w en b a o fp rfl r,n,z⟩
    | _=>nomatch ht
   |true=>
    obtain⟨l2,B,e3,e4,q2⟩:=q'.own ht;subst B;refine .ofOwn ht ⟨l2,rfl,e3,e4,q2.up (aG.refl _) λo' m=>?_⟩
    rcases k l2 o' m with z |z
    .exact absurd (h.dj j i t s _ v l2 b e a el ((Holds.own ht).mpr rfl) z) en
    .exact z
 .have I:∀j t w,_[j]?=aa t->σ[j]?=aa (aa w)->Holds G Hf H' t w a->(j=i/\∀j t w,U[j]?=aa t->σ[j]?=aa (aa w)->Holds G Hf H t w a->False)\/∃t0,U[j]?=aa t0/\Holds G Hf H t0 w a:=λj t w b y p=>by
   rcases cf b with⟨e',B,_⟩ |⟨en,b⟩
   .rw[B]at p;rw[e',el]at y;cases y;rw[e']
    rcases hh a p with z |z
    .exact .inr ⟨s,e,z⟩
    .exact .inl ⟨rfl,z⟩
   .exact .inr ⟨t,b,(h.at' j _ t y b).back (fr j t w en b y) p⟩
  rcases I j t w b b' p with⟨z1,z2⟩ |⟨t0,z1,z2⟩
  .rcases I j' t' w' c c' p' with⟨L,M⟩ |⟨t1,L,M⟩
   .rw[z1,L]
   .exact(z2 j' t1 w' L c' M).elim
  .rcases I j' t' w' c c' p' with⟨L,M⟩ |⟨t1,L,M⟩
   .exact(M j t0 w z1 b' z2).elim
   .exact h.dj j j' t0 t1 w w' a z1 L b' c' z2 M
def aB.chgX(h:aB G Hf0 H0 Hf H σ U)(x:Ext Hf H Hf' H1)(e:U[i]?=aa s)(y:σ[i]?=aa (aa v))(k:∀b u,H1 b=aa u->Holds G Hf H s v b\/H' b=aa u)(m:eR G H0 Hf' H' (aa v) s')
 (B:∀a,Holds G Hf' H' s' v a->Holds G Hf H s v a\/H a=ae):aB G Hf0 H0 Hf' H' σ (U.set i s'):=by
 have up:∀b,Holds G Hf H s v b->Holds G Hf' H1 s v b:=λb p=>by
  cases s with
  |deep o=>obtain⟨fp,r,n⟩:=p;exact⟨fp,r.up x.f x.h,n⟩
  | _=>exact p
 refine(h.step x).chg e y (λb u n=>(k b u n).imp_left (up b)) m λa p=>?_
 rcases B a p with z |z
 .exact .inl (up a z)
 .refine .inr λj t w b c q=>?_;obtain⟨o,m,_⟩:=(h.at' j _ t c b).there ((h.at' j _ t c b).back (λo fp _ r=>r.up x.f x.h) q);rw[z]at m
  nomatch m
def aB.mutd{o:HO}(f:s.isOwn=ac)(c:s'.isOwn=ac)(h:aB G Hf0 H0 Hf H σ U)(e:U[i]?=aa s)(n:σ[i]?=aa (aa (.ref l)))(I:g9 G Hf (upd H l o) l s'):
  aB G Hf0 H0 Hf (upd H l o) σ (U.set i s'):=by
 obtain⟨L,m,y,B,q⟩:=h.ownAt f e;rw[n]at m;cases m;refine h.chg e n (λb u z=>?_) (.ofOwn c ⟨l,rfl,y,B,I⟩) λa p=>.inl ((Holds.own f).mpr ((Holds.own c).mp p))
 by_cases r:b=l
 .subst r;exact .inl ((Holds.own f).mpr rfl)
 .exact .inr (by rw[bH r];exact z)
def aB.fixd{o:HO}(T:s.isOwn=ac)(h:aB G Hf0 H0 Hf H σ U)(e:U[i]?=aa s)(B:σ[i]?=aa (aa (.ref l)))(ho:H l=aa o)(hr:Rep G (upd Hf l o) d (.ref l)):
  aB G Hf0 H0 (upd Hf l o) H σ (U.set i (.im d)):=by
 obtain⟨l',f,h0,m,q⟩:=h.ownAt T e;rw[B]at f;cases f;refine h.re (h.ext.fix h0 m ho) (by simp) (λj u t a b=>?_) λj t v a b c p=>?_
 .rcases cf b with⟨e,L,_⟩ |⟨en,b⟩
  .subst e L;rw[B]at a;cases a;exact⟨_,rfl,hr⟩
  .have q:=h.at' j u t a b
   cases I:t.isOwn with
   |false=>
    cases t with
    |no=>trivial
    |im d=>obtain⟨u',f,r⟩:=q;exact⟨u',f,r.up (cM m)⟩
    |val u'=>exact q
    |deep o=>
     obtain⟨w,fp,f,r,n,z⟩:=q;subst f;refine⟨w,fp,rfl,r.up (cM m) (aG.refl _),n,λx hx=>⟨(z x hx).1,?_⟩⟩;rw[bH (λy=>?_)]
     .exact(z x hx).2
     .subst y
      exact en (h.dj j i _ s w _ x b e a B ⟨fp,r,hx⟩ ((Holds.own T).mpr rfl))
    | _=>nomatch I
   |true=>
    obtain⟨l2,e2,e3,e4,q2⟩:=q.own I;subst e2;refine .ofOwn I ⟨l2,rfl,e3,?_,q2.up (cM m) λo' M=>M⟩;rw[bH (λz=>?_)]
    .exact e4
    .subst z;exact en (h.inj j i t s l2 b e I T a B)
 .rcases cf b with⟨_,L,_⟩ |⟨_,b⟩
  .subst L;exact(p.calm rfl).elim
  .exact⟨t,b,(h.at' j _ t c b).back (λo fp _ r=>r.up (cM m) (aG.refl _)) p⟩
def PE.imp{t':TE}(h:PE X e t)(i:∀σ H Q,t' σ H Q->t σ H Q):PE X e t':=λpins s σ H Q I q=>h pins s σ H Q I (i σ H Q q)
variable{t':TT}
def PT.imp{t:TT}(h:PT X e t)(i:∀σ H Q,t' σ H Q->t σ H Q):PT X e t':=λpins s σ H Q I q=>h pins s σ H Q I (i σ H Q q)
def PW.imp{t:TT}(h:PW X e t)(i:∀σ H Q,t' σ H Q->t σ H Q):PW X e t':=λc pins s σ H Q I q=>h c pins s σ H Q I (i σ H Q q)
variable{es:LEx}
def PA.imp{t t':TA}(h:PA X es t)(i:∀σ H Q,t' σ H Q->t σ H Q):PA X es t':=λpos pins s σ H Q I q=>h pos pins s σ H Q I (i σ H Q q)
def PS.imp{st:Stmt}{t t':TS}(h:PS X st t)(i:∀E σ H,t' E σ H->t E σ H):PS X st t':=λpins s σ H E I q=>h pins s σ H E I (i E σ H q)
def PSs.imp{st:List Stmt}{t t':TS}(h:PSs X st t)(i:∀E σ H,t' E σ H->t E σ H):PSs X st t':=λpins s σ H E I q=>h pins s σ H E I (i E σ H q)
def PG.imp{t t':TG}(h:PG X e t)(i:∀v σ H Q,t' v σ H Q->t v σ H Q):PG X e t':=λpins s σ H v u Q I r q=>h pins s σ H v u Q I r (i v σ H Q q)
def PGs.imp{t t':TGs}(h:PGs X es t)(i:∀v σ H Q,t' v σ H Q->t v σ H Q):PGs X es t':=λpins s σ H v u Q I r q=>h pins s σ H v u Q I r (i v σ H Q q)
def PI.imp{t t':TI}(h:PI X tg e t)(i:∀σ H R,t' σ H R->t σ H R):PI X tg e t':=λpins s σ H R I q=>h pins s σ H R I (i σ H R q)
def PTs.imp{t:TT}(h:PTs X df t)(i:∀σ H Q,t' σ H Q->t σ H Q):PTs X df t':=λpins s σ H Q I q=>h pins s σ H Q I (i σ H Q q)
def OpR.imp{f:Value->Value->Sem Value}{r c:R2}(h:OpR X f r)(i:∀x y H Q,c x y H Q->r x y H Q):OpR X f c:=λpins s σ H x y v u Q I m n q=>h pins s σ H x y v u Q I m n (i x y H Q q)
def gr.imp{f:Value}{r c:List V->Hp->VK->Prop}(h:gr X f r)(i:∀xs H Q,c xs H Q->r xs H Q):gr X f c:=λpins s σ H xs us Q I m q=>h pins s σ H xs us Q I m (i xs H Q q)
@[reducible]noncomputable def Gx(c:Str->Addr)(X:Cx):Gc:=⟨X.K,c⟩
inductive tD(G:Gc)(f:MF1)(σ:St)(H:Hp)(Q:VK):Prop
 |mk:∀Hf0 H0 Hf U d,aB G Hf0 H0 Hf H σ U->f U=aa d->(∀v Hf' H',Ext Hf H Hf' H'->Rep G Hf' d v->Q v H')->tD G f σ H Q
inductive tDB(G:Gc)(f:MF1)(σ:St)(H:Hp)(Q:VK):Prop
 |mk:∀Hf0 H0 Hf U d,aB G Hf0 H0 Hf H σ U->f U=aa d->(∀v Hf' H',Ext Hf H Hf' H'->Rep G H' d v->Q v H')->tDB G f σ H Q
inductive tDC(G:Gc)(f:MF2)(σ:St)(H:Hp)(Q:VK):Prop
 |mk:∀Hf0 H0 Hf U ds,aB G Hf0 H0 Hf H σ U->f U=aa ds->(∀a vs Hf' H',Ext Hf H Hf' H'->(SqL G.K H' a vs\/SqT G.K H' a vs)->aC G Hf' ds vs->Q (.ref a) H')->tDC G f σ H Q
inductive tDO(G:Gc)(f:MF2)(σ:St)(H:Hp)(Q:VK):Prop
 |mk:∀Hf0 H0 Hf U ds,aB G Hf0 H0 Hf H σ U->f U=aa ds->(∀l vs Hf' H',Ext Hf H Hf' H'->H l=ae->Hf' l=ae->H' l=aa (.lst vs)->aC G Hf' ds vs->Q (.ref l) H')->tDO G f σ H Q
inductive tDA(G:Gc)(f:MF2)(σ:St)(H:Hp)(Q:List V->Hp->Prop):Prop
 |mk:∀Hf0 H0 Hf U ds,aB G Hf0 H0 Hf H σ U->f U=aa ds->(∀vs Hf' H',Ext Hf H Hf' H'->aC G Hf' ds vs->Q vs H')->tDA G f σ H Q
inductive yw(G:Gc)(f:MF2)(σ:St)(H:Hp)(Q:List V->Hp->Prop):Prop
 |mk:∀Hf0 H0 Hf U ds,aB G Hf0 H0 Hf H σ U->f U=aa ds->(∀vs Hf' H',Ext Hf H Hf' H'->aC G H' ds vs->Q vs H')->yw G f σ H Q
inductive tDT(G:Gc)(f:MF4)(σ:St)(H:Hp)(Q:Bool->Hp->Prop):Prop
 |mk:∀Hf0 H0 Hf U b,aB G Hf0 H0 Hf H σ U->f U=aa b->(∀Hf' H',Ext Hf H Hf' H'->Q b H')->tDT G f σ H Q
abbrev DE(c:Str->Addr)(X:Cx)(e:Expr)(f:MF1):Prop:=PE X e (tD (Gx c X) f)
abbrev DB(c:Str->Addr)(X:Cx)(e:Expr)(f:MF1):Prop:=PE X e (tDB (Gx c X) f)
abbrev DC(c:Str->Addr)(X:Cx)(e:Expr)(f:MF2):Prop:=PE X e (tDC (Gx c X) f)
abbrev DO(c:Str->Addr)(X:Cx)(e:Expr)(f:MF2):Prop:=PE X e (tDO (Gx c X) f)
structure DA(c:Str->Addr)(X:Cx)(es:LEx)(f:MF2):Prop where
 pa:PA X es (tDA (Gx c X) f)
 len:∀U ds,f U=aa ds->ds.length=es.length
structure DAB(c:Str->Addr)(X:Cx)(es:LEx)(f:MF2):Prop where
 pa:PA X es (yw (Gx c X) f)
 len:∀U ds,f U=aa ds->ds.length=es.length
abbrev DT(c:Str->Addr)(X:Cx)(e:Expr)(f:MF4):Prop:=PT X e (tDT (Gx c X) f)
abbrev DW(c:Str->Addr)(X:Cx)(e:Expr)(f:MF4):Prop:=PW X e (tDT (Gx c X) f)
abbrev D.scalar:D->Bool
 |.non=>ac
 |.bl _=>ac
 |.int _=>ac
 |.str _=>ac
 | _=>ak
def Rep.sc(c:d.scalar=ac)(r:Rep G H d v):Rep G H' d v:=by
 cases d <;> first |exact r |cases c
abbrev jY:D->OLD
 |.lst xs=>aa xs
 |.tup xs=>aa xs
 |.kl xs=>aa xs
 |.kt xs=>aa xs
 | _=>ae
def qI(e:jY d=aa ds)(r:Rep G H d v):∃a vs,v=.ref a/\(SqL G.K H a vs\/SqT G.K H a vs)/\aC G H ds vs:=by
 cases d with
 |lst xs=>cases e;obtain⟨a,vs,c,q,r⟩:=r;exact⟨a,vs,c,.inl (SqL.of q),r⟩
 |tup xs=>cases e;obtain⟨a,vs,c,q,r⟩:=r;exact⟨a,vs,c,.inr (SqT.of q),r⟩
 |kl xs=>cases e;obtain⟨a,vs,c,q,r⟩:=r;exact⟨a,vs,c,.inl q,r⟩
 |kt xs=>cases e;obtain⟨a,vs,c,q,r⟩:=r;exact⟨a,vs,c,.inr q,r⟩
 | _=>nomatch e
def uM(s:aG H H')(h:SqL K H a vs\/SqT K H a vs):SqL K H' a vs\/SqT K H' a vs:=h.imp s.seq s.tup
abbrev ax(f:MF2)(U:LS):OD:=(f U).map .lst
abbrev aR(f:MF2)(U:LS):OD:=(f U).map .tup
abbrev bQ(f:MF1)(U:LS):OLD:=(f U).bind jY
variable{c:Str->Addr}{f:MF1}
def DE.db(h:DE c X e f):DB c X e f:=PE.imp h λσ H Q n=>by
 obtain⟨Hf0,H0,Hf,U,d,st,m,k⟩:=n;exact(⟨Hf0,H0,Hf,U,d,st,m,λv Hf' H' x r=>k v Hf' H' x (r.up x.s)⟩)
def DE.dc(h:DE c X e f):DC c X e (bQ f):=PE.imp h λσ H Q z=>by
 obtain⟨Hf0,H0,Hf,U,ds,st,m,k⟩:=z;unfold bQ at m
 cases n:f U with
 |none=>rw[n]at m;nomatch m
 |some d=>
  rw[n]at m;refine⟨Hf0,H0,Hf,U,d,st,n,λv Hf' H' x r=>?_⟩;obtain⟨a,vs,y,q,B⟩:=qI m r;subst y;exact k a vs Hf' H' x (uM x.s q) B
def DO.de{f:MF2}(h:DO c X e f):DE c X e (ax f):=PE.imp h λσ H Q z=>by
 obtain⟨Hf0,H0,Hf,U,d,st,m,k⟩:=z;unfold ax at m
 cases n:f U with
 |none=>rw[n]at m;nomatch m
 |some ds=>
  rw[n]at m;have m:=cs m;subst m;exact⟨Hf0,H0,Hf,U,ds,st,n,λl vs Hf' H' x hn q y r=>k _ _ H' (x.fix hn q y) ⟨l,vs,rfl,bT,r.up (cM q)⟩⟩
def DO.dc{f:MF2}(h:DO c X e f):DC c X e f:=PE.imp h λσ H Q q=>by
 obtain ⟨Hf0,H0,Hf,U,ds,st,m,k⟩:=q;exact (
 ⟨Hf0,H0,Hf,U,ds,st,m,λl vs Hf' H' x hn y n r=>k l vs Hf' H' x (.inl (SqL.of n)) r⟩)
abbrev ag(i:Nat)(U:LS):OD:=match U[i]? with
 |some (.im d)=>aa d
 | _=>ae
abbrev gv(i:Nat)(U:LS):OD:=match U[i]? with
 |some (.im d)=>aa d
 |some (.own xs)=>aa (.lst xs)
 |some (.ownd ks xs)=>aa (.dic ks xs)
 |some (.deep o)=>if o.kn then aa o.toD else ae
 | _=>ae
abbrev aP(i:Nat)(U:LS):OLD:=match U[i]? with
 |some (.im d)=>jY d
 |some (.own xs)=>aa xs
 | _=>ae
def Dt(h:ag i U=aa d):U[i]?=aa (.im d):=by
 unfold ag at h
 cases e:U[i]? with
 |none=>rw[e]at h;nomatch h
 |some s=>rw[e]at h;cases s <;> cases h;rfl
def uN(h:PE X e (dL i)):DE c X e (ag i):=PE.imp h λσ H Q q=>by
 obtain⟨Hf0,H0,Hf,U,d,st,n,k⟩:=q;obtain⟨v,m,r⟩:=st.imm (Dt n);exact⟨v,m,k v Hf H (Ext.refl st.sub) r⟩
def yx(h:PE X e (dL i)):DC c X e (aP i):=PE.imp h λσ H Q z=>by
 obtain⟨Hf0,H0,Hf,U,ds,st,m,k⟩:=z;unfold aP at m
 cases es:U[i]? with
 |none=>rw[es]at m;nomatch m
 |some s=>
  rw[es]at m
  cases s with
  |im d=>
   obtain⟨v,n,r⟩:=st.imm es;obtain⟨a,vs,y,q,B⟩:=qI m r;subst y
   exact⟨_,n,k a vs Hf H (Ext.refl st.sub) (uM st.sub q) B⟩
  |own xs=>
   cases m;obtain⟨l,n,_,_,vs,q,r⟩:=st.ownAt rfl es
   exact⟨_,n,k l vs Hf H (Ext.refl st.sub) (.inl (SqL.of q)) r⟩
  | _=>nomatch m
def Du(h:PE X e (dL i)):DB c X e (gv i):=PE.imp h λσ H Q I=>by
 obtain⟨Hf0,H0,Hf,U,d,st,m,k⟩:=I;unfold gv at m
 cases es:U[i]? with
 |none=>rw[es]at m;nomatch m
 |some s=>
  rw[es]at m
  cases s with
  |im d=>
   cases m;obtain⟨v,n,r⟩:=st.imm es
   exact⟨_,n,k v Hf H (Ext.refl st.sub) (r.up st.sub)⟩
  |own xs=>
   cases m;obtain⟨l,n,_,_,vs,q,r⟩:=st.ownAt rfl es
   exact⟨_,n,k _ Hf H (Ext.refl st.sub) ⟨l,vs,rfl,q,r.up st.sub⟩⟩
  |ownd ks xs=>
   cases m;obtain⟨l,n,_,_,vs,q,z,r⟩:=st.ownAt rfl es
   exact⟨_,n,k _ Hf H (Ext.refl st.sub) ⟨l,vs,rfl,q,z,r.up st.sub⟩⟩
  |deep o=>
   replace m:(if o.kn=ac then aa o.toD else ae)=aa d:=m;split at m
   .rename_i B;cases m;obtain⟨v,n,u,fp,y,r,_⟩:=st.slot es;subst y;exact⟨_,n,k _ Hf H (Ext.refl st.sub) (r.rep st.sub B)⟩
   .nomatch m
  | _=>nomatch m
def uO(h:PE X e (tC v))(r:∀G H,Rep G H d v):DE c X e (λ_=>aa d):=PE.imp h λσ H Q n=>by
 obtain⟨Hf0,H0,Hf,U,q,st,m,k⟩:=n;cases m;exact k v Hf H (Ext.refl st.sub) (r _ _)
def am{i:Int}{j}:DE c X (.Constant (.int i) j pos) (λ_=>aa (.int i)):=uO BQ λ_ _=>rfl
def iw{i:Bool}{j}:DE c X (.Constant (.bool i) j pos) (λ_=>aa (.bl i)):=uO BR λ_ _=>rfl
def aE{i:Str}{j}:DE c X (.Constant (.str i) j pos) (λ_=>aa (.str i)):=uO BS λ_ _=>rfl
def dv(i:Nat)(m:X.N[i]?=aa x:=by rfl)(n:Vis X.env.scope x:=by first |exact bS rfl |exact bp (bS rfl) |exact bp (bp rfl))(hd:NDb x:=by decide)
 (h:NCd x:=by decide):DE c X (.Name x pos) (ag i):=uN (iW m n hd h)
def dvC(i:Nat)(m:X.N[i]?=aa x:=by rfl)(n:Vis X.env.scope x:=by first |exact bS rfl |exact bp (bS rfl) |exact bp (bp rfl))(hd:NDb x:=by decide)
 (h:NCd x:=by decide):DC c X (.Name x pos) (aP i):=yx (iW m n hd h)
def dvB(i:Nat)(m:X.N[i]?=aa x:=by rfl)(n:Vis X.env.scope x:=by first |exact bS rfl |exact bp (bS rfl) |exact bp (bp rfl))(hd:NDb x:=by decide)
 (h:NCd x:=by decide):DB c X (.Name x pos) (gv i):=Du (iW m n hd h)
abbrev af(f:MF1)(g:MF2)(U:LS):OLD:=(f U).bind λd=>(g U).map λds=>d::ds
variable{g:MF2}
def mI(h:af f g U=aa ds):∃d r,f U=aa d/\g U=aa r/\ds=d::r:=by
 unfold af at h
 cases m:f U with
 |none=>rw[m]at h;nomatch h
 |some d=>
  cases n:g U with
  |none=>rw[m,n]at h;nomatch h
  |some r=>rw[m,n]at h;cases h;exact⟨d,r,rfl,rfl,rfl⟩
def aq:DA c X [] nZ:=⟨PA.imp dg λσ H Q n=>by obtain⟨Hf0,H0,Hf,U,ds,st,m,k⟩:=n;cases m;exact k [] Hf H (Ext.refl st.sub) rfl,λU ds h=>by cases h;rfl⟩
def ai(ha:DE c X e f)(q:DA c X es g)(I:StE X e es:=by rfl):DA c X (e::es) (af f g):=by
 refine⟨PA.imp (cj ha q.pa I) λσ H Q L=>?_,λU ds h=>?_⟩
 .obtain⟨Hf0,H0,Hf,U,ds,st,B,k⟩:=L;obtain⟨d,r,n,m,rfl⟩:=mI B;exact⟨Hf0,H0,Hf,U,d,st,n,λv b3 H1 y M=>⟨Hf0,H0,b3,U,r,st.step y,m,λvs b0 H2 z T=>k _ b0 H2 (y.trans z) (.cons (M.up z.f) T)⟩⟩
 .obtain⟨d,r,n,m,rfl⟩:=mI h;simp[q.len U r m]
def cn:DAB c X [] nZ:=⟨PA.imp dg λσ H Q n=>by obtain⟨Hf0,H0,Hf,U,ds,st,m,k⟩:=n;cases m;exact k [] Hf H (Ext.refl st.sub) rfl,λU ds h=>by cases h;rfl⟩
def bX(ha:DB c X e f)(q:DAB c X es g)(I:StE X e es:=by rfl):DAB c X (e::es) (af f g):=by
 refine⟨PA.imp (cj ha q.pa I) λσ H Q L=>?_,λU ds h=>?_⟩
 .obtain⟨Hf0,H0,Hf,U,ds,st,B,k⟩:=L;obtain⟨d,r,n,m,rfl⟩:=mI B;exact⟨Hf0,H0,Hf,U,d,st,n,λv b3 H1 y M=>⟨Hf0,H0,b3,U,r,st.step y,m,λvs b0 H2 z T=>k _ b0 H2 (y.trans z) (.cons (M.up z.h) T)⟩⟩
 .obtain⟨d,r,n,m,rfl⟩:=mI h;simp[q.len U r m]
def aH{f:MF2}(h:DA c X es f)(q:es.length<=1000:=by exact k8 rfl):DO c X (.List es pos) f:=PE.imp (qB h.pa) λσ H Q y=>by
 obtain ⟨Hf0,H0,Hf,U,ds,st,n,k⟩:=y;exact (
 ⟨Hf0,H0,Hf,U,ds,st,n,λvs Hf' H' x r=>⟨by
  rw[<- r.length,h.len U ds n];exact iS (ly q),λp m=>k p vs Hf' _ (x.trans (Ext.tmp x.s m)) (x.h.free m) (x.s.free m) bT r⟩⟩)
variable{k':Nat}
def bc{f:MF2}(h:DA c X es f)(y:es.length<=1000:=by exact k8 rfl):DE c X (.Tuple es k' pos) (aR f):=PE.imp (qA h.pa) λσ H Q z=>by
 obtain⟨Hf0,H0,Hf,U,d,st,m,k⟩:=z;unfold aR at m
 cases n:f U with
 |none=>rw[n]at m;nomatch m
 |some ds=>
  rw[n]at m;have m:=cs m;subst m
  exact⟨Hf0,H0,Hf,U,ds,st,n,λvs Hf' H' x r=>⟨by
   rw[<- r.length,h.len U ds n];exact iS (ly y),λp q=>k _ _ _ (x.trans (Ext.new x.s q)) ⟨p,vs,rfl,bT,r.up (cM (x.s.free q))⟩⟩⟩
abbrev rD(G:Gc)(m:D->D->OD):R2:=λh n H Q=>∃Hf x y d,aG Hf H/\Rep G Hf x h/\Rep G Hf y n/\m x y=aa d/\∀v Hf' H',Ext Hf H Hf' H'->Rep G Hf' d v->Q v H'
nonrec abbrev OpD(c:Str->Addr)(X:Cx)(f:Value->Value->Sem Value)(m:D->D->OD):Prop:=OpR X f (rD (Gx c X) m)
abbrev m2(m:D->D->OD)(f g:MF1)(U:LS):OD:=(f U).bind λx=>(g U).bind λy=>m x y
variable{m:D->D->OD}{g:MF1}
def yy(h:m2 m f g U=aa d):∃x y,f U=aa x/\g U=aa y/\m x y=aa d:=by
 unfold m2 at h
 cases n:f U with
 |none=>rw[n]at h;nomatch h
 |some x=>
  cases q:g U with
  |none=>rw[n,q]at h;nomatch h
  |some y=>rw[n,q]at h;exact⟨x,y,rfl,rfl,h⟩
variable{r:R2}
def two(hr:∀x y H Q,rD (Gx c X) m x y H Q->r x y H Q)(h:tD (Gx c X) (m2 m f g) σ H Q):tOp r (tD (Gx c X) f) (tD (Gx c X) g) σ H Q:=by
 obtain⟨Hf0,H0,Hf,U,d,st,T,k⟩:=h;obtain⟨x,y,I,L,M⟩:=yy T;exact⟨Hf0,H0,Hf,U,x,st,I,λv b3 H1 z r1=>⟨Hf0,H0,b3,U,y,st.step z,L,λu b0 H2 q r2=>hr _ _ _ _ ⟨b0,x,y,d,q.s,r1.up q.f,r2,M,λw n B x3 r3=>k w n B ((z.trans q).trans x3) r3⟩⟩⟩
def yz(hr:∀x y H Q,rD (Gx c X) m x y H Q->r x y H Q)(hs:∀x y d,m x y=aa d->d.scalar=ac)(h:tD (Gx c X) (m2 m f g) σ H Q):tOp r (tDB (Gx c X) f) (tDB (Gx c X) g) σ H Q:=by
 obtain⟨Hf0,H0,Hf,U,d,st,T,k⟩:=h;obtain⟨x,y,L,M,q⟩:=yy T
 exact⟨Hf0,H0,Hf,U,x,st,L,λv b3 H1 z r1=>⟨Hf0,H0,b3,U,y,st.step z,M,λu b0 H2 n r2=>hr _ _ _ _ ⟨H2,x,y,d,aG.refl _,r1.up n.h,r2,q,λw I B x3 r3=>
  k w b0 B ((z.trans n).trans (Ext.grow n.s x3.h)) (r3.sc (hs _ _ _ q))⟩⟩⟩
variable{a:Expr}
def b6{n:Operator}(y:OpD c X (fq n) m)(ha:DE c X a f)(q:DE c X b g):DE c X (.BinOp a n b pos) (m2 m f g):=
 PE.imp (um y ha q) λ_ _ _ h=>two (λ_ _ _ _ h=>h) h
variable{op:CmpOp}
def om(q:OpD c X (du op) m)(z:∀x y d,m x y=aa d->d.scalar=ac)(ha:DB c X a f)(n:DB c X b g)(hm:lh op b=ak:=by first |exact ux _ |rfl):
  DE c X (.Compare a [op] [b] pos) (m2 m f g):=PE.imp (CB q ha n hm) λ_ _ _ h=>yz (λ_ _ _ _ h=>h) z h
abbrev mB(f:MF1)(U:LS):Option Bool:=(f U).bind λd=>match d with
 |.bl b=>aa b
 | _=>ae
def uP{b:Bool}(h:mB f U=aa b):f U=aa (.bl b):=by
 unfold mB at h
 cases e:f U with
 |none=>rw[e]at h;nomatch h
 |some d=>rw[e]at h;cases d <;> cases h;rfl
def bi(z:OpD c X (du op) m)(B:∀x y d,m x y=aa d->d.scalar=ac)(ha:DB c X a f)(q:DB c X b g)(hm:lh op b=ak:=by first |exact ux _ |rfl):
  DT c X (.Compare a [op] [b] pos) (mB (m2 m f g)):=PT.imp (xL z ha q hm) λσ H Q I=>by
 obtain ⟨Hf0,H0,Hf,U,b,st,n,k⟩:=I;exact (
 yz (λ_ _ _ _ h=>h) B ⟨Hf0,H0,Hf,U,.bl b,st,uP n,λv Hf' H' x r=>⟨b,r,k Hf' H' x⟩⟩)
abbrev uQ:D->Option Bool
 |.non=>aa ak
 |.bl b=>aa b
 |.int i=>aa (i != 0)
 |.str x=>if x.length<=16777216 then aa ((x.length:Int) != 0) else ae
 |.lst xs=>aa (!xs.isEmpty)
 |.tup xs=>aa (!xs.isEmpty)
 |.kl xs=>aa (!xs.isEmpty)
 |.kt xs=>aa (!xs.isEmpty)
 |.dic ks _=>aa (!ks.isEmpty)
 | _=>ae
def aC.empty(r:aC G H ds vs):ds.isEmpty=vs.isEmpty:=by
 cases ds with
 |nil=>cases (r);rfl
 |cons d ds=>obtain⟨v,h,e,_⟩:=r;subst e;rfl
def Dv{n q:Type}{ks:List n}{vs:List q}(h:ks.length=vs.length):(ks.zip vs).isEmpty=ks.isEmpty:=by
 cases ks <;> cases vs <;> first |rfl |cases h
def Dw{b:Bool}(e:uQ d=aa b)(r:Rep G H d v):uz G.K v H b:=by
 cases d with
 |non=>cases e;subst r;rfl
 |bl x=>cases e;subst r;rfl
 |int i=>cases e;subst r;rfl
 |str x=>
  subst r;replace e:(if x.length<=16777216 then aa _ else ae)=aa b:=e;split at e
  .rename_i n;cases e;exact⟨by rw[dD];exact n,rfl⟩
  .nomatch e
 |lst xs=>cases e;obtain⟨a,vs,h,q,r⟩:=r;subst h;exact .inl ⟨vs,SqL.of q,by rw[r.empty]⟩
 |tup xs=>cases e;obtain⟨a,vs,h,q,r⟩:=r;subst h;exact .inr (.inl ⟨vs,SqT.of q,by rw[r.empty]⟩)
 |kl xs=>cases e;obtain⟨a,vs,h,q,r⟩:=r;subst h;exact .inl ⟨vs,q,by rw[r.empty]⟩
 |kt xs=>cases e;obtain⟨a,vs,h,q,r⟩:=r;subst h;exact .inr (.inl ⟨vs,q,by rw[r.empty]⟩)
 |dic ks xs=>cases e;obtain⟨a,vs,h,q,l,r⟩:=r;subst h;exact .inr (.inr ⟨_,q,by rw[Dv l]⟩)
 |ins _ _ _=>nomatch e
 |kd _ _=>nomatch e
 |dT _ _=>nomatch e
abbrev fA(f:MF1)(U:LS):Option Bool:=(f U).bind uQ
def ix(ha:DB c X a f)(y:∀h,isTrue a X.env h=(do let v <- h;standAt a.pos;il [v] (truthy v)):=by intro _;rfl):DT c X a (fA f):=
 PT.imp (CI ha y) λσ H Q z=>by
  obtain⟨Hf0,H0,Hf,U,b,st,n,k⟩:=z;unfold fA at n
  cases q:f U with
  |none=>rw[q]at n;nomatch n
  |some d=>
   rw[q]at n;exact⟨Hf0,H0,Hf,U,d,st,q,λv Hf' H' x r=>⟨b,Dw n r,k Hf' H' x⟩⟩
abbrev fc(f g:MF4)(U:LS):Option Bool:=(f U).bind λb=>if b then g U else aa ak
abbrev mOr(f g:MF4)(U:LS):Option Bool:=(f U).bind λb=>if b then aa ac else g U
abbrev iy(f:MF4)(U:LS):Option Bool:=(f U).map not
variable{f:MF4}
def DW.dt(h:DW c X e f):DT c X e f:=PW.pt h
def jy(h:DT c X a f):DW c X (.BoolOp .And [a] pos) f:=xz h
def on(h:DT c X a f):DW c X (.BoolOp .Or [a] pos) f:=BW h
def jz{g:MF4}{bv:LEx}(h:DT c X a f)(h':DW c X (.BoolOp .And (b::bv) pos) g):DW c X (.BoolOp .And (a::b::bv) pos) (fc f g):=PW.imp (xA h h') λσ H Q z=>by
 obtain⟨Hf0,H0,Hf,U,b,st,n,k⟩:=z;unfold fc at n
 cases q:f U with
 |none=>rw[q]at n;nomatch n
 |some x=>
  rw[q]at n;refine⟨Hf0,H0,Hf,U,x,st,q,λb3 H1 y=>?_⟩
  cases x with
  |true=>rw[if_pos rfl];exact⟨Hf0,H0,b3,U,b,st.step y,n,λb0 H2 B=>k b0 H2 (y.trans B)⟩
  |false=>cases n;rw[if_neg cE];exact k b3 H1 y
def mJ{g:MF4}{bv:LEx}(h:DT c X a f)(h':DW c X (.BoolOp .Or (b::bv) pos) g):DW c X (.BoolOp .Or (a::b::bv) pos) (mOr f g):=PW.imp (BX h h') λσ H Q z=>by
 obtain⟨Hf0,H0,Hf,U,b,st,n,k⟩:=z;unfold mOr at n
 cases q:f U with
 |none=>rw[q]at n;nomatch n
 |some x=>
  rw[q]at n;refine⟨Hf0,H0,Hf,U,x,st,q,λb3 H1 y=>?_⟩
  cases x with
  |false=>rw[if_neg cE];exact⟨Hf0,H0,b3,U,b,st.step y,n,λb0 H2 B=>k b0 H2 (y.trans B)⟩
  |true=>cases n;rw[if_pos rfl];exact k b3 H1 y
def lz(h:DT c X a f):DT c X (.UnaryOp .Not a pos) (iy f):=PT.imp (BY h) λσ H Q y=>by
 obtain⟨Hf0,H0,Hf,U,b,st,n,k⟩:=y;unfold iy at n
 cases q:f U with
 |none=>rw[q]at n;nomatch n
 |some x=>
  rw[q]at n;cases n;exact⟨Hf0,H0,Hf,U,x,st,q,λb3 H1 z=>k b3 H1 z⟩
abbrev lA(f g:MF1)(U:LS):OD:=(mB f U).bind λb=>if b then g U else aa (.bl ak)
abbrev vOr(f g:MF1)(U:LS):OD:=(mB f U).bind λb=>if b then aa (.bl ac) else g U
variable{f:MF1}
def qJ{op}(h:DE c X a f):DE c X (.BoolOp op [a] pos) f:=B1 h
def uR{bv:LEx}(h:DE c X a f)(h':DE c X (.BoolOp .And (b::bv) pos) g):DE c X (.BoolOp .And (a::b::bv) pos) (lA f g):=PE.imp (B2 h h') λσ H Q z=>by
 obtain⟨Hf0,H0,Hf,U,d,st,n,k⟩:=z;unfold lA at n
 cases q:mB f U with
 |none=>rw[q]at n;nomatch n
 |some x=>
  rw[q]at n;refine⟨Hf0,H0,Hf,U,.bl x,st,uP q,λv b3 H1 y B=>⟨x,B,?_⟩⟩
  cases x with
  |true=>rw[if_pos rfl];exact⟨Hf0,H0,b3,U,d,st.step y,n,λv b0 H2 L I=>k v b0 H2 (y.trans L) I⟩
  |false=>cases n;rw[if_neg cE];exact k _ b3 H1 y rfl
def Dx{bv:LEx}(h:DE c X a f)(h':DE c X (.BoolOp .Or (b::bv) pos) g):DE c X (.BoolOp .Or (a::b::bv) pos) (vOr f g):=PE.imp (B3 h h') λσ H Q z=>by
 obtain⟨Hf0,H0,Hf,U,d,st,n,k⟩:=z;unfold vOr at n
 cases q:mB f U with
 |none=>rw[q]at n;nomatch n
 |some x=>
  rw[q]at n;refine⟨Hf0,H0,Hf,U,.bl x,st,uP q,λv b3 H1 y B=>⟨x,B,?_⟩⟩
  cases x with
  |false=>rw[if_neg cE];exact⟨Hf0,H0,b3,U,d,st.step y,n,λv b0 H2 L I=>k v b0 H2 (y.trans L) I⟩
  |true=>cases n;rw[if_pos rfl];exact k _ b3 H1 y rfl
noncomputable instance {i j:Int}:Decidable (nY i j):=by unfold nY;infer_instance
noncomputable instance {i j:Int}:Decidable (n6 i j):=by unfold n6;infer_instance
noncomputable instance {i j:Int}:Decidable (n8 i j):=by unfold n8;infer_instance
abbrev dI(C:Int->Int->Prop)[∀i j,Decidable (C i j)](g:Int->Int->D):D->D->OD
 |.int i,.int j=>if C i j then aa (g i j) else ae
 | _,_=>ae
abbrev dI0(g:Int->Int->D):D->D->OD
 |.int i,.int j=>aa (g i j)
 | _,_=>ae
abbrev ce:D->D->OD
 |.int i,.int j=>aa (.int (i+j))
 |.str a,.str b=>if a.length+b.length<=16777216 then aa (.str (a++b)) else ae
 |.lst a,.lst b=>if a.length+b.length<=16777216 then aa (.lst (a++b)) else ae
 | _,_=>ae
@[reducible]noncomputable def gw:D->D->OD:=dI0 λi j=>.int (i-j)
@[reducible]noncomputable def oq:D->D->OD:=dI nY λi j=>.int (i / j)
@[reducible]noncomputable def iz:D->D->OD:=dI (λ_ j=>0<j) λi j=>.int (i % j)
@[reducible]noncomputable def lB:D->D->OD:=dI n6 λi j=>.int (i ^ j.toNat)
@[reducible]noncomputable def dLt:D->D->OD:=dI0 λi j=>.bl (decide (i<j))
@[reducible]noncomputable def dLe:D->D->OD:=dI0 λi j=>.bl (decide (i<=j))
@[reducible]noncomputable def dGt:D->D->OD:=dI0 λi j=>.bl (decide (j<i))
variable{gd:Int->Int->D}
def qK{f:Value->Value->Sem Value}{C:Int->Int->Prop}[∀i j,Decidable (C i j)]{g:Int->Int->V}(h:OpR X f (rI C g))(q:∀G H i j,Rep G H (gd i j) (g i j)):OpD c X f (dI C gd):=by
 rintro pins s σ H vx vy v u Q I L M ⟨Hf,x,y,d,T,z,B,e,k⟩;unfold dI at e;split at e
 .split at e
  .rename_i n;cases e;exact h pins s σ H vx vy v u Q I L M ⟨_,_,z,B,n,k _ Hf H (Ext.refl T) (q _ _ _ _)⟩
  .nomatch e
 .nomatch e
def qN{f:Value->Value->Sem Value}{g:Int->Int->V}(h:OpR X f (rI0 g))(n:∀G H i j,Rep G H (gd i j) (g i j)):OpD c X f (dI0 gd):=by
 rintro pins s σ H T vy v u Q I B L ⟨Hf,x,y,d,M,q,z,e,k⟩;unfold dI0 at e;split at e
 .cases e;exact h pins s σ H T vy v u Q I B L ⟨_,_,q,z,k _ Hf H (Ext.refl M) (n _ _ _ _)⟩
 .nomatch e
def cW:OpD c X (fq .Add) ce:=by
 rintro pins s σ H M T v u Q I B L ⟨Hf,x,y,d,q,h,n,e,k⟩;unfold ce at e;split at e
 .cases e;exact Cp pins s σ H M T v u Q I B L ⟨_,_,h,n,k _ Hf H (Ext.refl q) rfl⟩
 .split at e
  .rename_i z;cases e;exact CJ pins s σ H M T v u Q I B L ⟨_,_,h,n,by rw[dD];exact z,k _ Hf H (Ext.refl q) rfl⟩
  .nomatch e
 .split at e
  .rename_i z;cases e;obtain⟨a,vs,e1,q1,h⟩:=h;obtain⟨b,us,e2,q2,n⟩:=n
   exact yf pins s σ H M T v u Q I B L ⟨a,b,vs,us,e1,e2,q _ _ q1,q _ _ q2,by rw[dD,<- h.length,<- n.length];exact z,
    λp hp=>k _ _ _ (Ext.new q hp) ⟨p,_,rfl,bT,(h.append n).up (cM (q.free hp))⟩⟩
  .nomatch e
 .nomatch e
def jA:OpD c X (fq .Sub) gw:=qN Cq λ_ _ _ _=>rfl
def yA:OpD c X (fq .FloorDiv) oq:=qK Cr λ_ _ _ _=>rfl
def jZ:OpD c X (fq .Mod) iz:=qK Cs λ_ _ _ _=>rfl
def ow:OpD c X (fq .Pow) lB:=qK Ct λ_ _ _ _=>rfl
def ox:OpD c X (du .Lt) dLt:=qN Cy λ_ _ _ _=>rfl
def yB:OpD c X (du .LtE) dLe:=qN Cz λ_ _ _ _=>rfl
def hJ:OpD c X (du .Gt) dGt:=qN CA λ_ _ _ _=>rfl
def uS{g:Int->Int->D}(h:∀i j,(g i j).scalar=ac):∀x y d,dI0 g x y=aa d->d.scalar=ac:=by
 intro x y d e;unfold dI0 at e;split at e
 .cases e;exact h _ _
 .nomatch e
def oy:∀x y d,dLt x y=aa d->d.scalar=ac:=uS λ_ _=>rfl
def yC:∀x y d,dLe x y=aa d->d.scalar=ac:=uS λ_ _=>rfl
def iZ:∀x y d,dGt x y=aa d->d.scalar=ac:=uS λ_ _=>rfl
abbrev eJ:D->OD
 |.int i=>aa (.int (-i))
 | _=>ae
abbrev m1(m:D->OD)(f:MF1)(U:LS):OD:=(f U).bind m
def iA(ha:DE c X a f):DE c X (.UnaryOp .USub a pos) (m1 eJ f):=PE.imp (Co Cu ha) λσ H Q q=>by
 obtain⟨Hf0,H0,Hf,U,d,st,h,k⟩:=q;unfold m1 at h
 cases n:f U with
 |none=>rw[n]at h;nomatch h
 |some y=>
  rw[n]at h
  cases y with
  |int i=>cases h;exact⟨Hf0,H0,Hf,U,.int i,st,n,λv Hf' H' x r=>⟨i,r,k _ Hf' H' x rfl⟩⟩
  | _=>nomatch h
def qO{x:Option Bool}{g:Bool->Bool}:∀d,x.map (λb=>D.bl (g b))=aa d->d.scalar=ac:=by
 intro d e
 cases x with
 |none=>nomatch e
 |some b=>cases e;rfl
abbrev eqF:D->D->Bool
 |.non,.non=>ac
 |.bl a,.bl b=>a==b
 |.int a,.int b=>a==b
 |.str a,.str b=>a==b
 | _,_=>ak
abbrev dS(f:D->D->Option Bool):LD->LD->Option Bool
 | [],[]=>aa ac
 |x::xs,y::ys=>(f x y).bind λb=>(dS f xs ys).map λr=>b && r
 | _,_=>aa ak
abbrev uT:D->D->Bool
 |.bl _,.int _=>ac
 |.int _,.bl _=>ac
 | _,_=>ak
abbrev uU(f:D->D->Option Bool):D->D->Option Bool
 |.lst xs,.lst ys=>if xs.length=ys.length then dS f xs ys else aa ak
 |.tup xs,.tup ys=>if xs.length=ys.length then dS f xs ys else ae
 |x,y=>if x.scalar && y.scalar && !uT x y then aa (eqF x y) else ae
abbrev deq:Nat->D->D->Option Bool
 | 0,_,_=>ae
 |n+1,x,y=>uU (deq n) x y
abbrev dEq(x y:D):OD:=(deq 20 x y).map .bl
abbrev dNe(x y:D):OD:=(deq 20 x y).map λb=>.bl (!b)
def cy:∀x y d,dEq x y=aa d->d.scalar=ac:=λ_ _ d e=>qO d e
def qP:∀x y d,dNe x y=aa d->d.scalar=ac:=λ_ _ d e=>qO d e
variable{x y:D}{xs ys:LD}{b:Bool}
def yD{f:D->D->Option Bool}(h:dS f (x::xs) (y::ys)=aa b):∃n q,f x y=aa n/\dS f xs ys=aa q/\b=(n && q):=by
 unfold dS at h
 cases z:f x y with
 |none=>rw[z]at h;nomatch h
 |some n=>
  cases B:dS f xs ys with
  |none=>rw[z,B]at h;nomatch h
  |some q=>rw[z,B]at h;cases h;exact⟨n,q,rfl,rfl,rfl⟩
def lC{f:D->D->Option Bool}:∀{xs ys:LD} {b:Bool},xs.length=ys.length->dS f xs ys=aa b->∃e:Nat->Bool,(∀j x y,xs[j]?=aa x->ys[j]?=aa y->f x y=aa (e j))/\(di xs.length).all e=b
 | [],[],b,_,h=>by cases h;exact⟨λ_=>ac,λj x y e=>by simp at e,rfl⟩
 |x::xs,y::ys,b,hl,h=>by
  obtain⟨q,T,z,B,rfl⟩:=yD h;obtain⟨e,I,ha⟩:=lC (by simpa using hl) B
  refine⟨λj=>match j with | 0=>q |j+1=>e j,λj L M ex n=>?_,?_⟩
  .cases j with
   |zero=>simp at ex n;subst ex n;exact z
   |succ j=>exact I j L M (by simpa using ex) (by simpa using n)
  .rw[b9,range_succ_eq_map,iR,all_map,<- ha]
   rfl
 | [],_::_,_,hl,_=>by cases hl
 | _::_,[],_,hl,_=>by cases hl
def qQ(s:d.scalar=ac):d=.non\/(∃b,d=.bl b)\/(∃i,d=.int i)\/∃z,d=.str z:=by
 cases d with
 |non=>exact .inl rfl
 |bl b=>exact .inr (.inl ⟨b,rfl⟩)
 |int i=>exact .inr (.inr (.inl ⟨i,rfl⟩))
 |str z=>exact .inr (.inr (.inr ⟨z,rfl⟩))
 | _=>nomatch s
def qR(h:(x.scalar && y.scalar && !uT x y)=ac)(n:Rep G H x v)(q:Rep G H y u):fN v=ac/\fN u=ac/\eqV v u=eqF x y/\ur v u=ac/\decide (v=u)=eqF x y:=by
 rw[cx,cx]at h
 rcases qQ h.1.1 with rfl |⟨a,rfl⟩ |⟨a,rfl⟩ |⟨a,rfl⟩ <;> rcases qQ h.1.2 with rfl |⟨b,rfl⟩ |⟨b,rfl⟩ |⟨b,rfl⟩ <;> first
  |(cases h.2;done)
  |(subst n;subst q;refine⟨rfl,rfl,rfl,rfl,?_⟩;first |exact uv |exact uu |exact uw |rfl)
variable{n:Nat}
def qS(q:¬(∃xs ys,x=.lst xs/\y=.lst ys)/\¬(∃xs ys,x=.tup xs/\y=.tup ys))(h:deq (n+1) x y=aa b):(x.scalar && y.scalar && !uT x y)=ac/\b=eqF x y:=by
 replace h:uU _ x y=aa b:=h;unfold uU at h;split at h
 .exact absurd ⟨_,_,rfl,rfl⟩ q.1
 .exact absurd ⟨_,_,rfl,rfl⟩ q.2
 .split at h
  .rename_i z;cases h;exact⟨z,rfl⟩
  .nomatch h
def yE:∀(n:Nat) {x y:D} {b:Bool} {v:V},deq n x y=aa b->Rep G H x v->Rep G H y v->b=ac:=by
 intro n
 induction n with
 |zero=>intro x y b v h;nomatch h
 |succ n ih=>
  have all:∀(xs ys:LD) vs b,aC G H xs vs->aC G H ys vs->dS (deq n) xs ys=aa b->b=ac:=by
   intro xs
   induction xs with
   |nil=>
    intro ys vs b B z h;cases (B);have:ys=[]:=pZ.mp z.length;subst this
    cases h;rfl
   |cons x xs ihx=>
    intro ys vs b B z h;obtain⟨v,r,e,h1,h2⟩:=B;subst e
    cases ys with
    |nil=>cases (z)
    |cons y ys=>
     obtain⟨v',r',e,T,h2'⟩:=z;cases e;obtain⟨b1,b2,e1,e2,rfl⟩:=yD h;rw[ih e1 h1 T,ihx ys _ b2 h2 h2' e2];rfl
  intro x y b v h B z
  by_cases hl:∃xs ys,x=.lst xs/\y=.lst ys
  .obtain⟨xs,ys,rfl,rfl⟩:=hl;obtain⟨a,vs,e,q,B⟩:=B;obtain⟨a',vs',M,L,z⟩:=z;subst e;cases M;rw[q]at L;cases L;have I:=B.length.trans z.length.symm;replace h:(if xs.length=ys.length then dS _ xs ys else aa ak)=aa b:=h;rw[if_pos I]at h;exact all xs ys vs b B z h
  .by_cases ht:∃xs ys,x=.tup xs/\y=.tup ys
   .obtain⟨xs,ys,rfl,rfl⟩:=ht;obtain⟨a,vs,e,q,B⟩:=B;obtain⟨a',vs',M,L,z⟩:=z;subst e;cases M;rw[q]at L;cases L;replace h:(if xs.length=ys.length then dS _ xs ys else ae)=aa b:=h;rw[if_pos (B.length.trans z.length.symm)]at h;exact all xs ys vs b B z h
   .obtain⟨hs,rfl⟩:=qS ⟨hl,ht⟩ h;obtain⟨_,_,_,_,e⟩:=qR hs B z;rw[<- e];exact decide_eq_true rfl
variable{s:aM}{us:List V}
def mK{its h:LVa}{e:Nat->Bool}(r1:aC G H xs vs)(r2:aC G H ys us)(r:aY vs its)(r':aY us h)
 (he:∀j x y,xs[j]?=aa x->ys[j]?=aa y->deq n x y=aa (e j))
 (ih:∀{x y:D} {b:Bool} {v u:V} {w L:Value},deq n x y=aa b->Rep G H x v->Rep G H y u->bj v w->bj u L->c7 A s w L b):
  ∀j (B:j<its.toArray.size) (I:j<h.toArray.size),c7 A s its.toArray[j] h.toArray[j] (e j):=λj B I=>by
 have q:j<its.length:=by simpa using B
 have z:j<h.length:=by simpa using I
 obtain⟨v,T,rv⟩:=r.at' (i:=j) (u:=its[j]) (by simp[q]);obtain⟨u,M,ru⟩:=r'.at' (i:=j) (u:=h[j]) (by simp[z]);obtain⟨x,ex,rx⟩:=r1.get' T;obtain⟨y,ey,ry⟩:=r2.get' M;exact ih (he j x y ex ey) rx ry rv ru
def yF(I:Inv X pins σ H s):∀(n:Nat) {A:dE} {x y:D} {b:Bool} {v u:V} {w w':Value},A.units+n<cLine->deq n x y=aa b->Rep (Gx c X) H x v->Rep (Gx c X) H y u->bj v w->bj u w'->c7 A s w w' b:=by
 intro n
 induction n with
 |zero=>intro A x y b v u w w' _ h;nomatch h
 |succ n ih=>
  intro A x y b v u w w' hu h r1 r2 rv ru;have eC:∀{x y:D} {b:Bool} {v u:V} {w w':Value},deq n x y=aa b->Rep _ H x v->Rep _ H y u->bj v w->bj u w'->c7 A.in1 s w w' b:=λh a b c d=>ih (by rw[tW];lia) h a b c d
  by_cases hl:∃xs ys,x=.lst xs/\y=.lst ys
  .obtain⟨xs,ys,rfl,rfl⟩:=hl;obtain⟨a,vs,e,q,z⟩:=id r1;obtain⟨a',vs',e',q',B⟩:=id r2;subst e e';cases rv;subst ru
   by_cases M:a=a'
   .subst M;have:=yE _ h (⟨a,vs,rfl,q,z⟩) ⟨a,vs',rfl,q',B⟩;subst this;exact tZ _
   .refine c7.of_refs M ?_;obtain⟨its,rr,pl,hz⟩:=I.list (SqL.of q);obtain⟨eA,T,pl2,hz2⟩:=I.list (SqL.of q');have l1:=rr.length;have l2:=T.length;have l3:=z.length;have l4:=B.length;replace h:(if xs.length=ys.length then dS _ xs ys else aa ak)=aa b:=h;split at h
    .rename_i L;obtain⟨ee,he,ha⟩:=lC L h;have:=SeqAt.RcAt.lists pl.isList pl2.isList (by simp only[size_toArray];lia) (by lia) (mK z B rr T he eC);rw[size_toArray,<- l1,<- l3,ha]at this;exact this
    .rename_i L;cases h;exact SeqAt.RcAt.lists_lengths pl.isList pl2.isList (by simp only[size_toArray,bne_iff_ne];lia) (by lia)
  .by_cases ht:∃xs ys,x=.tup xs/\y=.tup ys
   .obtain⟨xs,ys,rfl,rfl⟩:=ht;obtain⟨a,vs,e,q,z⟩:=id r1;obtain⟨a',vs',e',q',B⟩:=id r2;subst e e';cases rv;subst ru
    by_cases M:a=a'
    .subst M;have:=yE _ h (⟨a,vs,rfl,q,z⟩) ⟨a,vs',rfl,q',B⟩;subst this;exact tZ _
    .refine c7.of_refs M ?_;obtain⟨its,rr,pl,hz⟩:=I.tuple (SqT.of q);obtain⟨eA,T,pl2,hz2⟩:=I.tuple (SqT.of q');have l1:=rr.length;have l2:=T.length;have l3:=z.length;have l4:=B.length;replace h:(if xs.length=ys.length then dS _ xs ys else ae)=aa b:=h;split at h
     .rename_i L;obtain⟨ee,he,ha⟩:=lC L h;have:=SeqAt.RcAt.tuples (pl) (pl2) (by lia) (mK z B rr T he eC);have hsz:its.toArray.size=eA.toArray.size:=by simp only[size_toArray];lia
      rw[<- hsz,Nat.min_self,beq_self_eq_true,Bool.and_true,size_toArray,<- l1,<- l3,ha]at this;exact this
     .nomatch h
   .obtain⟨hs,rfl⟩:=qS ⟨hl,ht⟩ h;obtain⟨f1,f2,e,_,_⟩:=qR hs r1 r2;rw[<- e];exact yb rv ru f1 f2
def cp(hu:X.A.units+64<cLine):OpD c X (du .Eq) dEq:=by
 rintro pins s σ H v u w w' Q I rv ru ⟨Hf,x,y,d,s0,r1,r2,e,k⟩;unfold dEq at e
 cases h:deq 20 x y with
 |none=>rw[h]at e;nomatch e
 |some b=>
  rw[h]at e;cases e;have q0:=k _ Hf H (Ext.refl s0) rfl;have fin:EP X pins σ Q _ s:=⟨.bl b,H,I,rfl,q0⟩;have r1:=r1.up s0;have r2:=r2.up s0;have eC:∀{x y:D} {b:Bool} {v u:V} {w w':Value},deq 19 x y=aa b->Rep _ H x v->Rep (Gx c X) H y u->bj v w->bj u w'->c7 X.A.in1 s w w' b:=λh a b c d=>yF I 19 (by rw[tW];lia) h a b c d
  by_cases hl:∃xs ys,x=.lst xs/\y=.lst ys
  .obtain⟨xs,ys,rfl,rfl⟩:=hl;obtain⟨a,vs,e,q,L⟩:=id r1;obtain⟨a',vs',e',q',M⟩:=id r2;subst e e';cases rv;subst ru;obtain⟨its,rr,pl,hz⟩:=I.list (SqL.of q);obtain⟨eA,B,T,hz2⟩:=I.list (SqL.of q');have l1:=rr.length;have l2:=B.length;have l3:=L.length;have l4:=M.length;replace h:(if xs.length=ys.length then dS _ xs ys else aa ak)=aa b:=h;split at h
   .rename_i z;obtain⟨ee,he,ha⟩:=lC z h;refine SeqAt.eq_listAt pl.isList T.isList (by simp only[size_toArray];lia) (by lia) (mK L M rr B he eC) ?_;rw[size_toArray,<- l1,<- l3,ha];exact fin
   .rename_i z;cases h;exact SeqAt.eq_list_lengthsAt pl.isList T.isList (by simp only[size_toArray,bne_iff_ne];lia) (by lia) fin
  .by_cases ht:∃xs ys,x=.tup xs/\y=.tup ys
   .obtain⟨xs,ys,rfl,rfl⟩:=ht;obtain⟨a,vs,e,q,L⟩:=id r1;obtain⟨a',vs',e',q',M⟩:=id r2;subst e e';cases rv;subst ru;obtain⟨its,rr,pl,hz⟩:=I.tuple (SqT.of q);obtain⟨eA,B,T,hz2⟩:=I.tuple (SqT.of q');have l1:=rr.length;have l2:=B.length;have l3:=L.length;have l4:=M.length;replace h:(if xs.length=ys.length then dS _ xs ys else ae)=aa b:=h;split at h
    .rename_i z;obtain⟨ee,he,ha⟩:=lC z h;refine SeqAt.eq_tupleAt (pl) (T) (by lia) (mK L M rr B he eC) ?_;have hsz:its.toArray.size=eA.toArray.size:=by simp only[size_toArray];lia
     rw[<- hsz,Nat.min_self,beq_self_eq_true,Bool.and_true,size_toArray,<- l1,<- l3,ha];exact fin
    .nomatch h
   .obtain⟨hs,rfl⟩:=qS ⟨hl,ht⟩ h;obtain⟨_,_,_,hsc,e⟩:=qR hs r1 r2;exact Cv pins s σ H v u w w' Q I rv ru ⟨hsc,by rw[e];exact q0⟩
def qT(hu:X.A.units+64<cLine):OpD c X (du .NotEq) dNe:=by
 rintro pins s σ H v u w w' Q I rv ru ⟨Hf,x,y,d,s0,r1,r2,e,k⟩;unfold dNe at e
 cases h:deq 20 x y with
 |none=>rw[h]at e;nomatch e
 |some b=>
  rw[h]at e;cases e;have q0:=k _ Hf H (Ext.refl s0) rfl;have fin:EP X pins σ Q _ s:=⟨.bl (!b),H,I,rfl,q0⟩;have r1:=r1.up s0;have r2:=r2.up s0;have eC:∀{x y:D} {b:Bool} {v u:V} {w w':Value},deq 19 x y=aa b->Rep _ H x v->Rep (Gx c X) H y u->bj v w->bj u w'->c7 X.A.in1 s w w' b:=λh a b c d=>yF I 19 (by rw[tW];lia) h a b c d
  by_cases hl:∃xs ys,x=.lst xs/\y=.lst ys
  .obtain⟨xs,ys,rfl,rfl⟩:=hl;obtain⟨a,vs,e,q,L⟩:=id r1;obtain⟨a',vs',e',q',M⟩:=id r2;subst e e';cases rv;subst ru;obtain⟨its,rr,pl,hz⟩:=I.list (SqL.of q);obtain⟨eA,B,T,hz2⟩:=I.list (SqL.of q');have l1:=rr.length;have l2:=B.length;have l3:=L.length;have l4:=M.length;replace h:(if xs.length=ys.length then dS _ xs ys else aa ak)=aa b:=h;split at h
   .rename_i z;obtain⟨ee,he,ha⟩:=lC z h;refine SeqAt.RcNeAt.lists pl.isList T.isList (by simp only[size_toArray];lia) (by lia) (mK L M rr B he eC) X.prog X.w X.xe _ ?_;rw[size_toArray,<- l1,<- l3,ha];exact fin
   .rename_i z;cases h;exact SeqAt.RcNeAt.lists_lengths pl.isList T.isList (by simp only[size_toArray,bne_iff_ne];lia) (by lia) X.prog X.w X.xe _ fin
  .by_cases ht:∃xs ys,x=.tup xs/\y=.tup ys
   .obtain⟨xs,ys,rfl,rfl⟩:=ht;obtain⟨a,vs,e,q,L⟩:=id r1;obtain⟨a',vs',e',q',M⟩:=id r2;subst e e';cases rv;subst ru;obtain⟨its,rr,pl,hz⟩:=I.tuple (SqT.of q);obtain⟨eA,B,T,hz2⟩:=I.tuple (SqT.of q');have l1:=rr.length;have l2:=B.length;have l3:=L.length;have l4:=M.length;replace h:(if xs.length=ys.length then dS _ xs ys else ae)=aa b:=h;split at h
    .rename_i z;obtain⟨ee,he,ha⟩:=lC z h;refine SeqAt.RcNeAt.tuples (pl) (T) (by lia) (mK L M rr B he eC) X.prog X.w X.xe _ ?_;have hsz:its.toArray.size=eA.toArray.size:=by simp only[size_toArray];lia
     rw[<- hsz,Nat.min_self,beq_self_eq_true,Bool.and_true,size_toArray,<- l1,<- l3,ha];exact fin
    .nomatch h
   .obtain⟨hs,rfl⟩:=qS ⟨hl,ht⟩ h;obtain⟨_,_,_,hsc,e⟩:=qR hs r1 r2;exact Cw pins s σ H v u w w' Q I rv ru ⟨hsc,by rw[e];exact q0⟩
abbrev eqX:D->D->Bool
 |.non,.non=>ac
 |.bl a,.bl b=>a==b
 |.bl a,.int b=>(if a then 1 else 0)==b
 |.int a,.bl b=>a==(if b then 1 else 0)
 |.int a,.int b=>a==b
 |.str a,.str b=>a==b
 | _,_=>ak
abbrev inD(x y:D):Option Bool:=(jY y).bind λds=>if x.scalar && ds.all D.scalar then aa (ds.any λd=>eqX d x) else ae
abbrev dIn(x y:D):OD:=(inD x y).map .bl
abbrev eS(x y:D):OD:=(inD x y).map λb=>.bl (!b)
def oA:∀x y d,dIn x y=aa d->d.scalar=ac:=λ_ _ d e=>qO d e
def i0:∀x y d,eS x y=aa d->d.scalar=ac:=λ_ _ d e=>qO d e
def Dy(h:x.scalar=ac)(q:y.scalar=ac)(z:Rep G H x v)(B:Rep G H y u):fN v=ac/\fN u=ac/\eqV v u=eqX x y:=by
 rcases qQ h with rfl |⟨a,rfl⟩ |⟨a,rfl⟩ |⟨a,rfl⟩ <;> rcases qQ q with rfl |⟨b,rfl⟩ |⟨b,rfl⟩ |⟨b,rfl⟩ <;> (subst z;subst B;exact⟨rfl,rfl,rfl⟩)
def yG{G:Gc}{H:Hp}{x:D}{v:V}(z:x.scalar=ac)(r:Rep G H x v):∀{ds:LD} {vs:List V},ds.all D.scalar=ac->aC G H ds vs->vs.all fN=ac/\inV v vs=ds.any λd=>eqX d x
 | [],_,_,h=>by cases (h);exact⟨rfl,rfl⟩
 |d::ds,_,ha,q3_=>by
  obtain⟨u,r',e,L,M⟩:=q3_;subst e;rw[iR,cx]at ha;obtain⟨B,T,e⟩:=Dy ha.1 z L r;obtain⟨I,q⟩:=yG z r ha.2 M;refine⟨by rw[iR,B,I];rfl,?_⟩;unfold inV at q ⊢;rw[k7,k7,e,q]
def yH(e:inD x y=aa b)(z:Rep G H x v)(M:Rep G H y u):∃p vs,u=.ref p/\(SqL G.K H p vs\/SqT G.K H p vs)/\fN v=ac/\vs.all fN=ac/\inV v vs=b:=by
 unfold inD at e
 cases es:jY y with
 |none=>rw[es]at e;nomatch e
 |some ds=>
  rw[es]at e;replace e:(if _=ac then aa _ else ae)=aa b:=e;split at e
  .rename_i h;cases e;rw[cx]at h;obtain⟨a,vs,B,q,r⟩:=qI es M;obtain⟨I,L⟩:=yG h.1 z h.2 r
   have f:fN v=ac:=by cases x <;> first |(subst z;rfl) |(cases h.1)
   exact⟨a,vs,B,q,f,I,L⟩
  .nomatch e
def oB:OpD c X (du .In) dIn:=by
 rintro pins s σ H v u w w' Q I rv ru ⟨Hf,x,y,d,z,r1,r2,e,k⟩;unfold dIn at e
 cases h:inD x y with
 |none=>rw[h]at e;nomatch e
 |some b=>
  rw[h]at e;cases e;obtain⟨p,vs,B,q,M,T,L⟩:=yH h (r1.up z) (r2.up z);refine C4 pins s σ H v u w w' Q I rv ru ⟨p,vs,B,q,M,T,?_⟩;rw[if_neg cE,L];exact k _ Hf H (Ext.refl z) rfl
def i3:OpD c X (du .NotIn) eS:=by
 rintro pins s σ H v u w w' Q I rv ru ⟨Hf,x,y,d,z,r1,r2,e,k⟩;unfold eS at e
 cases h:inD x y with
 |none=>rw[h]at e;nomatch e
 |some b=>
  rw[h]at e;cases e;obtain⟨p,vs,B,q,M,T,L⟩:=yH h (r1.up z) (r2.up z);refine C5 pins s σ H v u w w' Q I rv ru ⟨p,vs,B,q,M,T,?_⟩;rw[if_pos rfl,L];exact k _ Hf H (Ext.refl z) rfl
def uV{i:Int}(h:atI ds i=aa d)(r:aC G H ds vs):∃v,atI vs i=aa v/\Rep G H d v:=by
 unfold atI at h ⊢;rw[<- r.length]
 cases e:ixN ds.length i with
 |none=>rw[e]at h;nomatch h
 |some j=>
  rw[e]at h;exact r.get h
abbrev ixD(ds:LD):D->OD
 |.int k=>atI ds k
 | _=>ae
abbrev mIx(f:MF2)(g:MF1)(U:LS):OD:=(f U).bind λds=>(g U).bind λi=>ixD ds i
variable{b:Expr}
def bf{f:MF2}(ha:DC c X a f)(hb:DE c X b g)(hs:uE b:=by exact λ_ _=>rfl):DE c X (.Subscript a b pos) (mIx f g):=
 PE.imp (xW (xZ.or x6) ha hb hs) λσ H Q q_=>by
  obtain⟨Hf0,H0,Hf,U,d,st,z,k⟩:=q_;unfold mIx at z
  cases I:f U with
  |none=>rw[I]at z;nomatch z
  |some ds=>
   cases M:g U with
   |none=>rw[I,M]at z;nomatch z
   |some i=>
    rw[I,M]at z
    cases i with
    |int n=>
     refine⟨Hf0,H0,Hf,U,ds,st,I,λl vs b3 H1 x1 q r=>⟨Hf0,H0,b3,U,.int n,st.step x1,M,λu b0 H2 L r2=>?_⟩⟩;cases (r2);obtain⟨v,T,rv⟩:=uV z r;have B:=k v b0 H2 (x1.trans L) (rv.up L.f)
     rcases q with q |q
     .exact .inl ⟨l,vs,n,v,rfl,rfl,L.h.seq q,T,B⟩
     .exact .inr ⟨l,vs,n,v,rfl,rfl,L.h.tup q,T,B⟩
    | _=>nomatch z
abbrev jB(xs:LD)(lo hi:Option Int):LD:=(xs.drop (HT.sIx xs.length 0 lo)).take (HT.sIx xs.length xs.length hi-HT.sIx xs.length 0 lo)
abbrev lsD:D->OLD
 |.lst xs=>aa xs
 |.kl xs=>aa xs
 | _=>ae
def jC(e:lsD d=aa ds)(r:Rep G H d v):∃a vs,v=.ref a/\SqL G.K H a vs/\aC G H ds vs:=by
 cases d with
 |lst xs=>cases e;obtain⟨a,vs,h,q,r⟩:=r;exact⟨a,vs,h,SqL.of q,r⟩
 |kl xs=>cases e;obtain⟨a,vs,h,q,r⟩:=r;exact⟨a,vs,h,q,r⟩
 | _=>nomatch e
inductive yI(G:Gc)(f:LS->Option (Option Int))(σ:St)(H:Hp)(Q:Option Int->Hp->Prop):Prop
 |mk:∀Hf0 H0 Hf U i,aB G Hf0 H0 Hf H σ U->f U=aa i->(∀Hf' H',Ext Hf H Hf' H'->Q i H')->yI G f σ H Q
abbrev DPt(c:Str->Addr)(X:Cx)(e:Option Expr)(f:LS->Option (Option Int)):Prop:=PO X e (yI (Gx c X) f)
def j4:DPt c X ae (λ_=>aa ae):=λpins s σ H Q I q=>by
 obtain⟨Hf0,H0,Hf,U,i,st,h,k⟩:=q;exact(qE pins s σ H Q I (by cases h;exact k Hf H (Ext.refl st.sub)))
abbrev mPt(f:MF1)(U:LS):Option (Option Int):=(f U).bind λd=>match d with
 |.int i=>aa (aa i)
 | _=>ae
def i4(h:DE c X e f):DPt c X (aa e) (mPt f):=λpins s σ H Q I B=>by
 obtain⟨Hf0,H0,Hf,U,i,st,q,k⟩:=B
 exact (uB h pins s σ H Q I (by
 unfold mPt at q
 cases z:f U with
 |none=>rw[z]at q;nomatch q
 |some d=>
  rw[z]at q
  cases d with
  |int n=>cases q;exact⟨Hf0,H0,Hf,U,.int n,st,z,λv Hf' H' x r=>⟨n,r,k Hf' H' x⟩⟩
  | _=>nomatch q))
abbrev mSl(f:MF1)(l h:LS->Option (Option Int))(U:LS):OLD:=(f U).bind λd=>(lsD d).bind λds=>(l U).bind λlo=>(h U).map λhi=>jB ds lo hi
def yJ(r:aC G H ds vs)(lo hi:Option Int):aC G H (jB ds lo hi) (mD vs lo hi):=by
 unfold jB mD;rw[r.length];exact(r.drop _).take _
variable{p2:Pos}
def lD{l h:LS->Option (Option Int)}{lo hi:Option Expr}(ha:DE c X e f)(hl:DPt c X lo l)(hh:DPt c X hi h):DO c X (.Subscript e (.Slice lo hi ae p2) pos) (mSl f l h):=
 PE.imp (uD ya ha hl hh) λσ H Q q_=>by
  obtain⟨Hf0,H0,Hf,U,rs,st,z,k⟩:=q_;unfold mSl at z
  cases B:f U with
  |none=>rw[B]at z;nomatch z
  |some d=>
   cases I:lsD d with
   |none=>rw[B]at z;replace z:(lsD d).bind _=_:=z;rw[I]at z;nomatch z
   |some ds=>
    cases L:l U with
    |none=>rw[B]at z;replace z:(lsD d).bind _=_:=z;rw[I,L]at z;nomatch z
    |some lo'=>
     cases e4:h U with
     |none=>rw[B]at z;replace z:(lsD d).bind _=_:=z;rw[I,L,e4]at z;nomatch z
     |some hi'=>
      rw[B]at z;replace z:(lsD d).bind _=_:=z;rw[I,L,e4]at z;cases z;refine⟨Hf0,H0,Hf,U,d,st,B,λv b3 H1 M r1=>⟨Hf0,H0,b3,U,lo',st.step M,L,λb0 H2 x2=>⟨Hf0,H0,b0,U,hi',(st.step M).step x2,e4,λT H3 x3=>?_⟩⟩⟩;obtain⟨a,vs,ea,q,r⟩:=jC I r1;subst ea;have x:=(M.trans x2).trans x3;have y:=(x2.trans x3);exact⟨a,vs,rfl,(M.s.trans y.h).seq q,λp hp=>(k p _ T _ (x.trans (Ext.tmp x.s hp)) (x.h.free hp) (x.s.free hp) bT (yJ (r.up y.f) _ _))⟩
abbrev rCD(G:Gc)(m:LD->OD):List V->Hp->VK->Prop:=λvs H Q=>∃Hf ds d,aG Hf H/\aC G Hf ds vs/\m ds=aa d/\∀v Hf' H',Ext Hf H Hf' H'->Rep G Hf' d v->Q v H'
nonrec abbrev mL(c:Str->Addr)(X:Cx)(f:Value)(m:LD->OD):Prop:=gr X f (rCD (Gx c X) m)
abbrev aQ(m:LD->OD)(f:MF2)(U:LS):OD:=(f U).bind m
variable{m:LD->OD}{f:MF2}
def yK(h:aQ m f U=aa d):∃ds,f U=aa ds/\m ds=aa d:=by
 unfold aQ at h
 cases e:f U with
 |none=>rw[e]at h;nomatch h
 |some ds=>rw[e]at h;exact⟨ds,rfl,h⟩
variable{p:Pos}{x:Str}
def cD{id:String}(M:mL c X (.builtin id) m)(hs:∀ds d,m ds=aa d->d.scalar=ac)(hg:Gl X x)(hm:X.mg x=ae)(hv:gL x=aa (.builtin id))(ha:DAB c X (e::es) f)(hn:x ≠ "__name__":=by decide)(q:NDb x:=by decide)
 (T:StE X e es:=by rfl)(z:BkE X pos es:=by rfl):
  DE c X (.Call (.Name x p) (e::es) [] pos) (aQ m f):=PE.imp (mC M hg hm hv ha.pa hn q T z) λσ H Q q_=>by
 obtain⟨Hf0,H0,Hf,U,d,st,L,k⟩:=q_;obtain⟨ds,I,B⟩:=yK L;exact⟨Hf0,H0,Hf,U,ds,st,I,λvs Hf' H' x r=>⟨H',ds,d,aG.refl _,r,B,λv b0 H2 x2 r2=>k v Hf' H2 (x.trans (Ext.grow x.s x2.h)) (r2.sc (hs _ _ B))⟩⟩
abbrev bL:LD->OD
 | [.lst xs]=>aa (.int xs.length)
 | [.tup xs]=>aa (.int xs.length)
 | [.kl xs]=>aa (.int xs.length)
 | [.kt xs]=>aa (.int xs.length)
 | [.str x]=>if x.length<=16777216 then aa (.int x.length) else ae
 | _=>ae
def aC.one(r:aC G H [d] vs):∃v,vs=[v]/\Rep G H d v:=by
 obtain⟨v,z,e,h,q⟩:=r;cases (q);exact⟨v,e,h⟩
def aC.two{B:D}(r:aC G H [d,B] vs):∃v z,vs=[v,z]/\Rep G H d v/\Rep G H B z:=by
 obtain⟨v,L,e,h,q⟩:=r;obtain⟨z,I,h'⟩:=q.one;subst I;exact⟨v,z,e,h,h'⟩
def yL(e:bL ds=aa d):∃q,ds=[q]/\((∃xs,jY q=aa xs/\d=.int xs.length)\/∃x,q=.str x/\x.length<=16777216/\d=.int x.length):=by
 cases ds with
 |nil=>nomatch e
 |cons q ds=>
  cases ds with
  |cons _ _=>cases q <;> nomatch e
  |nil=>
   refine⟨q,rfl,?_⟩
   cases q with
   |lst xs=>cases e;exact .inl ⟨xs,rfl,rfl⟩
   |tup xs=>cases e;exact .inl ⟨xs,rfl,rfl⟩
   |kl xs=>cases e;exact .inl ⟨xs,rfl,rfl⟩
   |kt xs=>cases e;exact .inl ⟨xs,rfl,rfl⟩
   |str x=>
    replace e:(if x.length<=16777216 then aa _ else ae)=aa d:=e
    by_cases h:x.length<=16777216
    .rw[if_pos h]at e;cases e;exact .inr ⟨x,rfl,h,rfl⟩
    .rw[if_neg h]at e;nomatch e
   | _=>nomatch e
def cH:mL c X (.builtin "len") bL:=by
 rintro pins s σ H vs us Q I rv ⟨Hf,ds,d,T,r,e,k⟩
 have sq:∀h xs,ds=[h]->jY h=aa xs->d=.int xs.length->wpAny _ X.A _ _ X.xe s:=λh xs B es e0=>by
  subst B e0;obtain⟨v,z,M⟩:=r.one;subst z;obtain⟨a,ws,L,q,rs⟩:=qI es M;subst L;refine C6 pins s σ H _ us Q I rv ⟨a,ws,rfl,uM T q,?_⟩;rw[<- rs.length];exact k _ Hf H (Ext.refl T) rfl
 obtain⟨h,B,⟨xs,z,L⟩ |⟨x,rfl,hl,rfl⟩⟩:=yL e
 .exact sq h xs B z L
 .subst B;obtain⟨v,z,M⟩:=r.one;subst z;exact C7 pins s σ H _ us Q I rv ⟨_,by rw[show v=V.str _ from M],by rw[dD];exact hl,k _ Hf H (Ext.refl T) rfl⟩
def cI:∀ds d,bL ds=aa d->d.scalar=ac:=by
 intro ds d e
 obtain⟨h,z,⟨xs,q,rfl⟩ |⟨x,rfl,B,rfl⟩⟩:=yL e <;> rfl
def qU(hx:gL x=aa (.type "list"))(T:Gl X x)(hm:X.mg x=ae)(ha:DC c X e f)(L:aX [e] X.env=(ak,eval e X.env)::aX [] X.env:=by rfl)(hn:x ≠ "__name__":=by decide)(z:NDb x:=by decide)
 (I:(eG pos (aX [] X.env)).any (·.1)=ak:=by rfl):DO c X (.Call (.Name x p) [e] [] pos) f:=
 PE.imp (CV C8 T hm hx (cj ha dg L) hn z L I) λσ H Q q_=>by
 obtain⟨Hf0,H0,Hf,U,ds,st,M,k⟩:=q_
 exact (
  ⟨Hf0,H0,Hf,U,ds,st,M,λa vs Hf' H' x q r=>⟨a,vs,rfl,q,λl B=>k l vs Hf' _ (x.trans (Ext.tmp x.s B)) (x.h.free B) (x.s.free B) bT r⟩⟩)
abbrev tyN:D->Option String
 |.non=>aa "NoneType"
 |.bl _=>aa "bool"
 |.int _=>aa "int"
 |.str _=>aa "str"
 |.lst _=>aa "list"
 |.tup _=>aa "tuple"
 |.dic _ _=>aa "dict"
 | _=>ae
abbrev uW(T:String)(d:D):OD:=(tyN d).map λt=>.bl (t==T || (t == "bool" && T == "int"))
def Dz{t:String}(e:tyN d=aa t)(r:Rep G H d v):gs G.K H v (.type t):=by
 cases d with
 |non=>cases e;subst r;exact .non
 |bl b=>cases e;subst r;exact .bl b
 |int i=>cases e;subst r;exact .int i
 |str x=>cases e;subst r;exact .str x
 |lst xs=>cases e;obtain⟨a,vs,h,q,r⟩:=r;subst h;exact .lst q
 |tup xs=>cases e;obtain⟨a,vs,h,q,r⟩:=r;subst h;exact .tup q
 |dic ks xs=>cases e;obtain⟨a,vs,h,q,l,r⟩:=r;subst h;exact .dK q
 | _=>nomatch e
abbrev lE(K:bu)(T:String):Prop:=∀t∈["NoneType","bool","int","str","list","tuple","dict"],ip K (.type t) (.type T)=aa (t==T || (t == "bool" && T == "int"))
def DD{t:String}(e:tyN d=aa t):t∈["NoneType","bool","int","str","list","tuple","dict"]:=by
 cases d <;> first |(cases e;decide) |cases e
abbrev mM(T:String)(f:MF1)(U:LS):OD:=(f U).bind (uW T)
def qV{f:MF1}{T:String}{q:Pos}{y:Str}(hk:lE X.K T)(hg:Gl X "isinstance")(hm:X.mg "isinstance"=ae)(hy:gL y=aa (.type T))(L:Gl X y)(M:X.mg y=ae)(ha:DB c X e f)
 (hs:aX [e,.Name y q] X.env=(ak,eval e X.env)::aX [.Name y q] X.env:=by rfl)(hs2:aX [.Name y q] X.env=(ak,eval (.Name y q) X.env)::aX [] X.env:=by rfl)
 (hn:y ≠ "__name__":=by decide)(I:(y==("__debug__":Str))=ak:=by decide)(hX:(eG pos (aX [.Name y q] X.env)).any (·.1)=ak:=by rfl):
  DE c X (.Call (.Name "isinstance" p) [e,.Name y q] [] pos) (mM T f):=
 PE.imp (mC Dm hg hm qb (cj ha (cj (xy (v:=.ty T) L M hy rfl hn I) dg hs2) hs) (by decide) (by decide) hs hX) λσ H Q q_=>by
  obtain⟨Hf0,H0,Hf,U,d,st,h,k⟩:=q_;unfold mM at h
  cases B:f U with
  |none=>rw[B]at h;nomatch h
  |some x=>
   rw[B]at h;replace h:uW T x=aa d:=h;unfold uW at h
   cases z:tyN x with
   |none=>rw[z]at h;nomatch h
   |some t=>
    rw[z]at h;cases h;exact⟨Hf0,H0,Hf,U,x,st,B,λv Hf' H' x1 r=>⟨v,T,.type t,_,rfl,Dz z r,hk t (DD z),k _ Hf' H' x1 rfl⟩⟩
inductive tDG(G:Gc)(g:D->LS->Option LS)(v:V)(σ:St)(H:Hp)(Q:St->Hp->Prop):Prop
 |mk:∀Hf0 H0 Hf U d ρ',aB G Hf0 H0 Hf H σ U->Rep G Hf d v->g d U=aa ρ'->(∀σ',aB G Hf0 H0 Hf H σ' ρ'->Q σ' H)->tDG G g v σ H Q
inductive yM(G:Gc)(g:LD->LS->Option LS)(vs:List V)(σ:St)(H:Hp)(Q:St->Hp->Prop):Prop
 |mk:∀Hf0 H0 Hf U ds ρ',aB G Hf0 H0 Hf H σ U->aC G Hf ds vs->g ds U=aa ρ'->(∀σ',aB G Hf0 H0 Hf H σ' ρ'->Q σ' H)->yM G g vs σ H Q
structure DG(c:Str->Addr)(X:Cx)(tg:Expr)(k:Nat)(g:D->LS->Option LS):Prop where
 pg:PG X tg (tDG (Gx c X) g)
 len:∀d U ρ',g d U=aa ρ'->ρ'.length=U.length
 keep:∀d U ρ' i,g d U=aa ρ'->k<=i->ρ'[i]?=U[i]?
structure DGs(c:Str->Addr)(X:Cx)(tg:LEx)(k:Nat)(g:LD->LS->Option LS):Prop where
 pg:PGs X tg (yM (Gx c X) g)
 len:∀d U ρ',g d U=aa ρ'->ρ'.length=U.length
 keep:∀d U ρ' i,g d U=aa ρ'->k<=i->ρ'[i]?=U[i]?
 many:∀ds U ρ',g ds U=aa ρ'->ds.length=tg.length
abbrev aO(i:Nat)(d:D)(U:LS):Option LS:=aa (U.set i (.im d))
def yN(h:PG X e (jw i))(L:i<k):DG c X e k (aO i):=
 ⟨PG.imp h λv σ H Q B=>by obtain⟨Hf0,H0,Hf,U,d,ρ',st,r,z,q⟩:=B;cases z;exact q _ (st.setIm r),λd U ρ' h=>by cases h;simp,λd U ρ' j h I=>by
  cases h;rw[eN (by lia)]⟩
def cz(i k:Nat)(h:X.N.Nodup)(z:i<k:=by decide)(hi:X.N[i]?=aa x:=by rfl)(B:Loc X.env.scope x:=by first |exact bS rfl |exact bp rfl)(q:LcF X x:=by first |exact .inl rfl |exact .inr rfl):DG c X (.Name x pos) k (aO i):=
 yN (qr h hi B q) z
abbrev cQ(ds:LD)(U:LS):Option LS:=match ds with
 | []=>aa U
 | _=>ae
abbrev br(g:D->LS->Option LS)(h:LD->LS->Option LS)(ds:LD)(U:LS):Option LS:=match ds with
 |d::ds=>(g d U).bind λρ1=>h ds ρ1
 | []=>ae
def dF:DGs c X [] k cQ:=by
 refine⟨PGs.imp xD λvs σ H Q B=>?_,λd U ρ' h=>?_,λd U ρ' i h _=>?_,λd U ρ' h=>?_⟩
 .obtain⟨Hf0,H0,Hf,U,ds,ρ',st,r,z,q⟩:=B
  cases ds with
  |nil=>cases z;exact⟨r,q _ st⟩
  |cons d ds=>nomatch z
 .cases d with
  |nil=>cases h;rfl
  |cons a b=>nomatch h
 .cases d with
  |nil=>cases h;rfl
  |cons a b=>nomatch h
 .cases d with
  |nil=>cases h;rfl
  |cons a b=>nomatch h
variable{h:LD->LS->Option LS}
def qW{g:D->LS->Option LS}(e:br g h ds U=aa ρ'):∃d r ρ1,ds=d::r/\g d U=aa ρ1/\h r ρ1=aa ρ':=by
 cases ds with
 |nil=>nomatch e
 |cons d r=>
  replace e:(g d U).bind _=_:=e
  cases q:g d U with
  |none=>rw[q]at e;nomatch e
  |some ρ1=>rw[q]at e;exact⟨d,r,ρ1,rfl,q,e⟩
def bR{g:D->LS->Option LS}(L:DG c X e k g)(I:DGs c X es k h)(hs:(gM (e::es) X.env).map (·.2)=io e X.env::(gM es X.env).map (·.2):=by rfl):DGs c X (e::es) k (br g h):=by
 refine⟨PGs.imp (uj L.pg I.pg hs) λvs σ H Q q_=>?_,λd U ρ' h=>?_,λd U ρ' i h hi=>?_,λd U ρ' h=>?_⟩
 .obtain⟨Hf0,H0,Hf,U,ds,ρ',st,r,T,q⟩:=q_;obtain⟨d,dr,ρ1,rfl,B,z⟩:=qW T;obtain⟨v,vr,ev,rv,rr⟩:=r;exact⟨v,vr,ev,Hf0,H0,Hf,U,d,ρ1,st,rv,B,λσ1 M=>⟨Hf0,H0,Hf,ρ1,dr,ρ',M,rr,z,q⟩⟩
 .obtain⟨d,dr,ρ1,rfl,B,z⟩:=qW h;rw[I.len _ _ _ z,L.len _ _ _ B]
 .obtain⟨d,dr,ρ1,rfl,B,z⟩:=qW h;rw[I.keep _ _ _ _ z hi,L.keep _ _ _ _ B hi]
 .obtain⟨d,dr,ρ1,rfl,B,z⟩:=qW h;rw[b9,b9,I.many _ _ _ z]
abbrev tpD:D->OLD
 |.tup xs=>aa xs
 |.kt xs=>aa xs
 | _=>ae
def yO(e:tpD d=aa ds)(r:Rep G H d v):∃a vs,v=.ref a/\SqT G.K H a vs/\aC G H ds vs:=by
 cases d with
 |tup xs=>cases e;obtain⟨a,vs,z,q,r⟩:=r;exact⟨a,vs,z,SqT.of q,r⟩
 |kt xs=>cases e;obtain⟨a,vs,z,q,r⟩:=r;exact⟨a,vs,z,q,r⟩
 | _=>nomatch e
abbrev cJ(g:LD->LS->Option LS)(d:D)(U:LS):Option LS:=(tpD d).bind λds=>g ds U
def uX{g:LD->LS->Option LS}(h:cJ g d U=aa ρ'):∃ds,tpD d=aa ds/\g ds U=aa ρ':=by
 unfold cJ at h
 cases e:tpD d with
 |none=>rw[e]at h;nomatch h
 |some ds=>rw[e]at h;exact⟨ds,rfl,h⟩
variable{kk:Nat}
def dG{g:LD->LS->Option LS}(hc:X.calm=ac)(h:DGs c X es k g)(hn:(gM es X.env).length=es.length:=by rfl)(I:(gM es X.env).findIdx? (·.1)=ae:=by rfl):DG c X (.Tuple es kk pos) k (cJ g):=by
 refine⟨PG.imp (xF hc h.pg hn I) λv σ H Q q_=>?_,λd U ρ' h'=>?_,λd U ρ' i h' hi=>?_⟩
 .obtain⟨Hf0,H0,Hf,U,d,ρ',st,r,T,q⟩:=q_;obtain⟨ds,B,z⟩:=uX T;obtain⟨a,vs,M,qa,L⟩:=yO B r;exact⟨a,vs,M,st.sub.tup qa,by rw[<- L.length];exact h.many _ _ _ z,Hf0,H0,Hf,U,ds,ρ',st,L,z,q⟩
 .obtain⟨ds,B,z⟩:=uX h';exact h.len _ _ _ z
 .obtain⟨ds,B,z⟩:=uX h';exact h.keep _ _ _ _ z hi
abbrev lF(G:Gc)(Hf:Hp)(J:It)(ds:LD):Prop:=∀Hf' H',aG Hf Hf'->aG Hf' H'->∀i:Nat,
 (∀d,ds[i]?=aa d->J.go i H'/\∀x H2,J.yld i H' x H2->∃b0,Ext Hf' H' b0 H2/\Rep G b0 d x)/\(i=ds.length->J.stop i H')
abbrev qX(G:Gc)(Hf H:Hp)(J:It)(ds:LD):Prop:=∀Hf' H',Ext Hf H Hf' H'->∀i:Nat,
 (∀d,ds[i]?=aa d->J.go i H'/\∀x H2,J.yld i H' x H2->∃b0,Ext Hf' H' b0 H2/\Rep G b0 d x)/\(i=ds.length->J.stop i H')
def lF.toE(h:lF G Hf J ds):qX G Hf H J ds:=λHf' H' x i=>h Hf' H' x.f x.s i
inductive tDI(G:Gc)(f:MF2)(σ:St)(H:Hp)(R:It->Hp->Prop):Prop
 |mk:∀Hf0 H0 Hf U ds,aB G Hf0 H0 Hf H σ U->f U=aa ds->(∀J Hf' H',Ext Hf H Hf' H'->lF G Hf' J ds->R J H')->tDI G f σ H R
inductive uY(G:Gc)(f:MF2)(σ:St)(H:Hp)(R:It->Hp->Prop):Prop
 |mk:∀Hf0 H0 Hf U ds,aB G Hf0 H0 Hf H σ U->f U=aa ds->(∀J Hf' H',Ext Hf H Hf' H'->qX G Hf' H' J ds->R J H')->uY G f σ H R
abbrev DI(c:Str->Addr)(X:Cx)(tg iter:Expr)(f:MF2):Prop:=PI X tg iter (tDI (Gx c X) f)
abbrev DIe(c:Str->Addr)(X:Cx)(tg iter:Expr)(f:MF2):Prop:=PI X tg iter (uY (Gx c X) f)
def DI.de(h:DI c X tg e f):DIe c X tg e f:=PI.imp h λσ H R z=>by
 obtain⟨Hf0,H0,Hf,U,ds,st,q,k⟩:=z;exact(⟨Hf0,H0,Hf,U,ds,st,q,λJ Hf' H' x i=>k J Hf' H' x i.toE⟩)
def DF(q:SqL G.K H l vs)(r:aC G Hf ds vs):qX G Hf H (Itl G.K l) ds:=λHf' H' B i=>by
 have z:=B.h.seq q;refine⟨λd M=>?_,λT=>⟨vs,z,by rw[<- r.length,T];exact bC _⟩⟩;obtain⟨v,I,rv⟩:=r.get M;refine⟨⟨vs,v,z,I⟩,λx H2 ⟨L,y⟩=>?_⟩;subst L;have:=y vs z;rw[I]at this;cases this;exact⟨Hf',Ext.refl B.s,rv.up B.f⟩
def DH(q:SqT G.K Hf l vs)(r:aC G Hf ds vs):lF G Hf (Itt G.K l) ds:=λHf' H' f s i=>by
 have z:=(f.trans s).tup q;refine⟨λd L=>?_,λM=>⟨vs,z,by rw[<- r.length,M];exact bC _⟩⟩;obtain⟨v,B,T⟩:=r.get L;refine⟨⟨vs,v,z,B⟩,λx H2 ⟨I,y⟩=>?_⟩;subst I;have:=y vs z;rw[B]at this;cases this;exact⟨Hf',Ext.refl s,T.up f⟩
def cX{f:MF1}(h:DE c X e f):DI c X tg e (bQ f):=λpins s σ H R I q_=>by
 obtain⟨Hf0,H0,Hf,U,ds,st,z,k⟩:=q_;unfold bQ at z
 cases B:f U with
 |none=>rw[B]at z;nomatch z
 |some d=>
  rw[B]at z
  cases L:lsD d with
  |some T=>
   have:T=ds:=by cases d <;> first |(cases L;done) |(cases L;cases z;rfl)
   subst this;refine qu h pins s σ H R I ⟨Hf0,H0,Hf,U,d,st,B,λv Hf' H' x r=>?_⟩;obtain⟨a,vs,ea,q,M⟩:=jC L r
   exact⟨a,ea,⟨vs,x.s.seq q⟩,k _ Hf' H' x λb0 H2 f2 s2 i=>by
    have q':=(f2.trans s2).seq q;refine⟨λd ed=>?_,λei=>⟨vs,q',by rw[<- M.length,ei];exact bC _⟩⟩;obtain⟨v,ev,rv⟩:=M.get ed;refine⟨⟨vs,v,q',ev⟩,λx H3 ⟨e3,y⟩=>?_⟩;subst e3;have:=y vs q';rw[ev]at this;cases this
    exact⟨b0,Ext.refl s2,rv.up f2⟩⟩
  |none=>
   have e3:tpD d=aa ds:=by cases d <;> first |(cases L;done) |(cases z;done) |(cases z;rfl)
   refine Ch h pins s σ H R I ⟨Hf0,H0,Hf,U,d,st,B,λv Hf' H' x r=>?_⟩;obtain⟨a,vs,ea,q,M⟩:=yO e3 r;exact⟨a,ea,⟨vs,x.s.tup q⟩,k _ Hf' H' x (DH q M)⟩
def DJ(h:PE X e (dL i)):DIe c X tg e (aP i):=λpins s σ H R I L=>by
 obtain⟨Hf0,H0,Hf,U,ds,st,z,k⟩:=L
 cases es:U[i]? with
 |none=>unfold aP at z;rw[es]at z;nomatch z
 |some sl=>
  cases sl with
  |im d=>
   refine DI.de (cX (uN h)) pins s σ H R I ⟨Hf0,H0,Hf,U,ds,st,?_,k⟩;unfold aP at z;rw[es]at z;unfold bQ ag;rw[es]
   exact z
  |own xs=>
   unfold aP at z;rw[es]at z;cases z;obtain⟨l,B,_,_,vs,q,r⟩:=st.ownAt rfl es
   exact qu h pins s σ H R I ⟨_,B,l,rfl,⟨vs,SqL.of q⟩,k _ Hf H (Ext.refl st.sub) (DF (SqL.of q) r)⟩
  | _=>unfold aP at z;rw[es]at z;nomatch z
def uZ(i:Nat)(z:X.N[i]?=aa x:=by rfl)(B:Vis X.env.scope x:=by first |exact bS rfl |exact bp (bS rfl) |exact bp (bp rfl))(hd:NDb x:=by decide)
 (q:NCd x:=by decide):DIe c X tg (.Name x pos) (aP i):=DJ (iW z B hd q)
abbrev rng(lo:Int)(n:Nat):LD:=(di n).map λ(i:Nat)=>.int (lo+i)
def yP{lo:Int}:lF G Hf (Itr lo n) (rng lo n):=λHf' H' f s i=>by
 refine⟨λd q=>?_,λz=>?_⟩
 .unfold rng at q;rw[fm]at q
  cases e:(di n)[i]? with
  |none=>rw[e]at q;nomatch q
  |some j=>
   rw[e]at q;obtain⟨hi,B⟩:=dh.mp e;rw[eD]at hi;rw[List.getElem_range]at B;subst B;cases q;exact⟨hi,λx H2 ⟨I,y⟩=>by subst I;exact⟨Hf',Ext.refl s,y⟩⟩
 .unfold rng at z;rw[aW,eD]at z;exact Nat.le_of_eq z.symm
abbrev j6:LD->OLD
 | [.int j]=>if -(2 ^ 62)<=j/\j<2 ^ 62 then aa (rng 0 j.toNat) else ae
 | [.int i,.int j]=>if -(2 ^ 62)<=i/\i<2 ^ 62/\-(2 ^ 62)<=j/\j<2 ^ 62 then aa (rng i (j-i).toNat) else ae
 | _=>ae
abbrev gR(f:MF2)(U:LS):OLD:=(f U).bind j6
def qY(M:Gl X "range")(hm:X.mg "range"=ae)(ha:DA c X [a] f)(hs:aX [a] X.env=[(ak,eval a X.env)]:=by rfl):DI c X tg (.Call (.Name "range" p) [a] [] pos) (gR f):=
 PI.imp (xI M hm ha.pa hs) λσ H R q_=>by
  obtain⟨Hf0,H0,Hf,U,ds,st,q,k⟩:=q_;unfold gR at q
  cases z:f U with
  |none=>rw[z]at q;nomatch q
  |some B=>
   rw[z]at q;replace q:j6 B=aa ds:=q;have T:=ha.len U B z;refine⟨Hf0,H0,Hf,U,B,st,z,λvs Hf' H' x r=>?_⟩;unfold j6 at q;split at q
   .split at q
    .rename_i j I;cases q;obtain⟨v,L,rv⟩:=r.one;cases (rv);exact⟨j,L,I.1,I.2,k _ Hf' H' x yP⟩
    .nomatch q
   .nomatch T
   .nomatch q
abbrev u4:LD->OLD
 | [x,y]=>(lsD x).bind λxs=>(lsD y).map λys=>List.zipWith (λa b=>.tup [a,b]) xs ys
 | _=>ae
abbrev oC(f:MF2)(U:LS):OLD:=(f U).bind u4
def DK(hg:Gl X "zip")(hm:X.mg "zip"=ae)(ha:DA c X [a,b] f)(hs:aX [a,b] X.env=[(ak,eval a X.env),(ak,eval b X.env)]:=by rfl)(hs2:aX [b] X.env=[(ak,eval b X.env)]:=by rfl):
  DI c X (.Tuple hI kx tpos) (.Call (.Name "zip" p) [a,b] [] pos) (oC f):=
 PI.imp (Dr hg hm ha.pa hs hs2) λσ H R q_=>by
  obtain⟨Hf0,H0,Hf,U,ds,st,q,k⟩:=q_;unfold oC at q
  cases e1:f U with
  |none=>rw[e1]at q;nomatch q
  |some as=>
   rw[e1]at q;replace q:u4 as=aa ds:=q;refine⟨Hf0,H0,Hf,U,as,st,e1,λvs Hf' H' x r=>?_⟩;unfold u4 at q;split at q
   .rename_i dx dy
    cases ex:lsD dx with
    |none=>rw[ex]at q;nomatch q
    |some xs=>
     rw[ex]at q
     cases ey:lsD dy with
     |none=>rw[ey]at q;nomatch q
     |some ys=>
      rw[ey]at q;cases q;obtain⟨v,v',ev,rv,rv'⟩:=r.two;obtain⟨l1,w1,el1,q1,r1⟩:=jC ex rv;obtain⟨l2,w2,el2,q2,r2⟩:=jC ey rv';subst el1 el2;refine⟨l1,l2,ev,⟨w1,x.s.seq q1⟩,⟨w2,x.s.seq q2⟩,k _ Hf' H' x λb0 H2 M s2 i=>?_⟩;have g1:=(M.trans s2).seq q1;have g2:=(M.trans s2).seq q2;have h1:=r1.length;have h2:=r2.length;refine⟨λd B=>?_,λei=>⟨w1,w2,g1,g2,?_⟩⟩
      .rw[List.getElem?_zipWith]at B
       cases T:xs[i]? with
       |none=>rw[T]at B;nomatch B
       |some x'=>
        cases hy:ys[i]? with
        |none=>rw[T,hy]at B;nomatch B
        |some y'=>
         rw[T,hy]at B;cases B;obtain⟨u1,I,ru1⟩:=r1.get T;obtain⟨u2,L,ru2⟩:=r2.get hy;refine⟨⟨w1,w2,u1,u2,g1,g2,I,L⟩,λz H3 ⟨pp,z1,z2,ez,hp,eh,y1,y2⟩=>?_⟩;subst ez eh;have a1:=y1 w1 g1;have a2:=y2 w2 g2;rw[I]at a1;cases a1;rw[L]at a2;cases a2;exact⟨upd b0 pp _,Ext.new s2 hp,pp,_,rfl,bT,.cons (ru1.up (M.trans (cM (s2.free hp)))) (.cons (ru2.up (M.trans (cM (s2.free hp)))) .nil)⟩
      .rw[length_zipWith]at ei
       by_cases hh:xs.length<=ys.length
       .exact .inl (by lia)
       .exact .inr (by lia)
   .nomatch q
abbrev cR(k:Nat)(js:LN)(U:LS):LS:=mh k .no++js.map λj=>(U[j]?).getD .no
def aB.weak(h:aB G Hf0 H0 Hf H σ U)(z:ρ'.length=U.length)(q:∀(i:Nat) (s:Sl),ρ'[i]?=aa s->s=.no\/U[i]?=aa s):aB G Hf0 H0 Hf H σ ρ':=by
 refine h.re h.ext z (λi v s a b=>?_) λi s v a b c p=>?_
 .rcases q i s b with e |e
  .subst e;trivial
  .exact h.at' i v s a e
 .rcases q i s b with e |e
  .subst e;exact(p.calm rfl).elim
  .exact⟨s,e,p⟩
def j7{q:Type}{x:q}{l:List q}{y:q}(h:(mh k x++l)[i]?=aa y):(i<k/\y=x)\/(k<=i/\l[i-k]?=aa y):=by
 by_cases hi:i<k
 .left;rw[nN (by simpa using hi),tO,if_pos hi]at h;exact⟨hi,(cs h).symm⟩
 .right;rw[me (by simpa using tU hi),jU]at h;exact⟨tU hi,h⟩
def mO{q z:Type}{f:q->z}{l:List q}{y:z}(h:(l.map f)[i]?=aa y):∃x,l[i]?=aa x/\y=f x:=by
 rw[fm]at h
 cases e:l[i]? with
 |none=>rw[e]at h;nomatch h
 |some x=>rw[e]at h;exact⟨x,rfl,(cs h).symm⟩
def DL(h:js.Nodup){x:Nat}(a:js[i]?=aa x)(b:js[j]?=aa x):i=j:=by
 obtain⟨B,q⟩:=dh.mp a;obtain⟨I,z⟩:=dh.mp b;exact(tT h).mp (q.trans z.symm)
def aB.comp(k:Nat)(h:aB G Hf0 H0 Hf H σ U)(hj:js.Nodup):aB G Hf0 H0 Hf H (gu k js σ) (cR k js U):=by
 have own:∀i s,(cR k js U)[i]?=aa s->s.calm=ak->∃j,k<=i/\js[i-k]?=aa j/\U[j]?=aa s:=λi s a T=>by
  rcases j7 a with⟨_,e⟩ |⟨hi,a⟩
  .subst e;nomatch T
  .obtain⟨j,B,es⟩:=mO a
   cases e:U[j]? with
   |none=>rw[e]at es;subst es;nomatch T
   |some t=>rw[e]at es;replace es:s=t:=es;subst es;exact⟨j,hi,B,e⟩
 have val:∀i v j,(gu k js σ)[i]?=aa v->k<=i->js[i-k]?=aa j->v=(σ[j]?).getD ae:=λi v j a hi B=>by
  rcases j7 a with⟨hi',_⟩ |⟨_,a⟩
  .omega
  .obtain⟨j',I,es⟩:=mO a;rw[B]at I;cases I;exact es
 refine⟨h.ext,by simp[gu,cR],λi v s a b=>?_,λi j s t y z l a b c d p q=>?_⟩
 .rcases j7 b with⟨_,e⟩ |⟨hi,b⟩
  .subst e;trivial
  .obtain⟨j,B,es⟩:=mO b;have ev:=val i v j a hi B
   cases e:U[j]? with
   |none=>rw[e]at es;subst es;trivial
   |some t=>
    rw[e]at es;subst es;obtain⟨u,eu,q⟩:=h.slot e;rw[eu]at ev;subst ev;exact q
 .have T:s.calm=ak:=by
   cases hc:s.calm with
   |true=>exact(p.calm hc).elim
   |false=>rfl
  have ht:t.calm=ak:=by
   cases hc:t.calm with
   |true=>exact(q.calm hc).elim
   |false=>rfl
  obtain⟨i',hi,ei,e1⟩:=own i s a T;obtain⟨j',hj',B,e2⟩:=own j t b ht;have v1:=val i _ i' c hi ei;have v2:=val j _ j' d hj' B;obtain⟨u1,L,_⟩:=h.slot e1;obtain⟨u2,M,_⟩:=h.slot e2;rw[L]at v1;rw[M]at v2;subst v1 v2;have:=h.dj i' j' s t y z l e1 e2 L M p q;subst this;have:=DL hj ei B;lia
abbrev gS(h:D->Option OD):LD->OLD
 | []=>aa []
 |d::ds=>(h d).bind λo=>(gS h ds).map λr=>match o with
  |some y=>y::r
  |none=>r
def DM{h:D->Option OD}{r:LD}(e:gS h (d::ds)=aa r):∃o q,h d=aa o/\gS h ds=aa q/\r=(match o with |some y=>y::q |none=>q):=by
 unfold gS at e
 cases z:h d with
 |none=>rw[z]at e;nomatch e
 |some o=>
  cases B:gS h ds with
  |none=>rw[z,B]at e;nomatch e
  |some q=>
   rw[z,B]at e;cases e;refine⟨o,q,rfl,rfl,?_⟩
   cases o <;> rfl
abbrev jD(g:D->LS->Option LS)(z:MF4)(q:MF1)(U:LS)(d:D):Option OD:=(g d U).bind λρ1=>(z ρ1).bind λb=>if b then (q ρ1).map aa else aa ae
abbrev b7(k:Nat)(js:LN)(fi:MF2)(g:D->LS->Option LS)(z:MF4)(q:MF1)(U:LS):OLD:=
 (fi U).bind λds=>if ds.length<=16777216 then gS (jD g z q (cR k js U)) ds else ae
def j8{q:Type}{l:List q}(h:i<l.length):∃x,l[i]?=aa x/\l.drop i=x::l.drop (i+1):=⟨l[i],by simp[h],(drop_eq_getElem_cons h)⟩
abbrev DTs(c:Str->Addr)(X:Cx)(df:LEx)(f:MF4):Prop:=PTs X df (tDT (Gx c X) f)
def dU:DTs c X [] kY:=PTs.imp Dk λσ H Q z=>by
 obtain⟨Hf0,H0,Hf,U,b,st,q,k⟩:=z;exact(by cases q;exact k Hf H (Ext.refl st.sub))
def u5{f:MF4}(h:DT c X e f):DTs c X [e] f:=yo h
variable{g:D->LS->Option LS}{ft:MF4}{fe:MF1}{rs:LD}
def DN(hj:js.Nodup)(hk:∀d U ρ' i,g d U=aa ρ'->k<=i->ρ'[i]?=U[i]?)(d8:∀d U ρ',g d U=aa ρ'->ρ'.length=U.length){ti:TI}(st:aB G Hf0 H0 Hf H σ U)
 (hti:∀R:It->Hp->Prop,(∀J b3 H1,Ext Hf H b3 H1->qX G b3 H1 J ds->R J H1)->ti σ H R)(hz:ds.length<=16777216)(ef:gS (jD g ft fe (cR k js U)) ds=aa rs)
 (kq:∀l vs Hf' H',Ext Hf H Hf' H'->H l=ae->Hf' l=ae->H' l=aa (.lst vs)->aC G Hf' rs vs->Q (.ref l) H'):mF k js ti (tDG G g) (tDT G ft) (tD G fe) σ H Q:=by
 refine hti _ λJ b3 H1 x1 it=>?_
 refine⟨λi m ys σ' H'=>m=ds.length-i/\i<=ds.length/\∃Hf' I bv,Ext b3 H1 Hf' H'/\aB G Hf0 H0 Hf' H' σ' _/\aC G Hf' I ys/\gS _ (ds.drop i)=aa bv/\rs=I++bv/\I.length<=i,
  ⟨ds.length,rfl,gl _,b3,[],rs,Ext.refl x1.s,(st.step x1).comp k hj,rfl,ef,rfl,bC _⟩,?_⟩
 rintro i m ys σ' H' ⟨rfl,hi,Hf',I,bv,x2,st2,ra,ec,er,hal⟩;have hys:ys.length<=bE:=by rw[dD,<- ra.length];lia
 obtain⟨ou,it2⟩:=it Hf' H' x2 i
 by_cases M:i<ds.length
 .obtain⟨d,ed,ky⟩:=j8 M;obtain⟨go,yl⟩:=ou d ed
  refine .inr ⟨go,hys,λys' gg H2=>ds.length-_=ds.length-_/\i+1<=ds.length/\∃Hf' I bv,Ext b3 H1 Hf' H2/\aB G Hf0 H0 Hf' H2 gg _/\aC G Hf' I ys'/\gS _ _=aa bv/\rs=I++bv/\I.length<=i+1,
   λys' gg H2 w=>⟨ds.length-(i+1),by lia,w⟩,λx H2 y=>?_⟩
  obtain⟨b0,x3,rx⟩:=yl x H2 y;rw[ky]at ec;obtain⟨o,r',q,ec',B⟩:=DM ec;unfold jD at q
  cases eg:g d _ with
  |none=>rw[eg]at q;nomatch q
  |some ρ1=>
   rw[eg]at q;replace q:(ft ρ1).bind _=_:=q
   cases et:ft ρ1 with
   |none=>rw[et]at q;nomatch q
   |some b=>
    rw[et]at q;refine⟨Hf0,H0,b0,cR k js U,d,ρ1,st2.step x3,rx,eg,λhY L=>⟨Hf0,H0,b0,ρ1,b,L,et,λT H4 x4=>?_⟩⟩
    have back:∀{z H5:Hp},aB G Hf0 H0 z H5 hY ρ1->aB G Hf0 H0 z H5 hY _:=λ{z H5} s5=>s5.weak (d8 _ _ _ eg).symm λj s hs=>by
     rcases j7 hs with⟨_,e⟩ |⟨hj',_⟩
     .exact .inl e
     .exact .inr (by rw[hk _ _ _ _ eg hj'];exact hs)
    cases b with
    |true=>
     cases ee:fe ρ1 with
     |none=>rw[ee]at q;nomatch q
     |some y'=>
      rw[ee]at q;cases q;refine⟨Hf0,H0,T,ρ1,y',L.step x4,ee,λv z H5 x5 r5=>?_⟩;have x:=(x3.trans x4).trans x5;refine⟨rfl,M,z,I++[y'],r',x2.trans x,back ((L.step x4).step x5),(ra.up x.f).append (.cons r5 .nil),ec',?_,by rw[bh,fS];lia⟩;rw[er,B,ik]
      rfl
    |false=>
     cases q;have x:=x3.trans x4;exact⟨rfl,M,T,I,r',x2.trans x,back (L.step x4),ra.up x.f,ec',by rw[er,B],by lia⟩
 .have ei:i=ds.length:=by lia
  subst ei;refine .inl ⟨it2 rfl,hys,λl h1 h2=>?_⟩;rw[kZ (bC _)]at ec;cases ec;rw[cV]at er;subst er;have x:=x1.trans x2;exact kq l ys Hf' _ (x.trans (Ext.tmp x.s h2)) (x.h.free h2) (x.s.free h2) bT ra
variable{fi:MF2}
def u6(M:js.Nodup)(T:∀d U ρ' i,g d U=aa ρ'->k<=i->ρ'[i]?=U[i]?)(B:∀d U ρ',g d U=aa ρ'->ρ'.length=U.length)(h:tDO G (b7 k js fi g ft fe) σ H Q):
  mF k js (uY G fi) (tDG G g) (tDT G ft) (tD G fe) σ H Q:=by
 obtain⟨Hf0,H0,Hf,U,rs,st,z,kq⟩:=h;unfold b7 at z
 cases I:fi U with
 |none=>rw[I]at z;nomatch z
 |some ds=>
  rw[I]at z;replace z:(if ds.length<=16777216 then gS _ ds else ae)=aa rs:=z
  by_cases L:ds.length<=16777216
  .rw[if_pos L]at z;exact DN M T B st (λR q=>⟨Hf0,H0,Hf,U,ds,st,I,λJ b3 H1 x1 it=>q J b3 H1 x1 it⟩) L z kq
  .rw[if_neg L]at z
   nomatch z
def gT(k:Nat)(js:LN)(Nc:LSt)(B:X.calm=ac)(hi:DIe c X tg iter fi)(q:∀cl C ex al bo,DG c (X.comp scope Nc cl C ex al bo) tg k g)(T:∀cl C ex al bo,DTs c (X.comp scope Nc cl C ex al bo) df ft)
 (I:∀cl C ex al bo,DE c (X.comp scope Nc cl C ex al bo) c4 fe)(z:iX scope X.env.scope.names X.N Nc k js=ac:=by rfl)(M:∀x,gK iter X.env x=pure x:=by intro _;rfl)(L:js.Nodup:=by decide):
  DO c X (.ListComp c4 [⟨tg,iter,df,0⟩] scope pos) (b7 k js fi g ft fe):=
 PE.imp (yu (tt:=tDT (Gx c X) ft) (te:=tD (Gx c X) fe) k js Nc B hi (λcl C ex al bo=>(q cl C ex al bo).pg) T I z M) λσ H Q h=>
  u6 L (q [] 0 [] X.s₀ X.H₀).keep (q [] 0 [] X.s₀ X.H₀).len h
def dvc(i:Nat)(z:Nc[i]?=aa x:=by rfl)(B:Vis scope x:=by first |exact bS rfl |exact bp (bS rfl) |exact bp (bp rfl))(hd:NDb x:=by decide)
 (q:NCd x:=by decide):DE c (X.comp scope Nc cl C ex al bo) (.Name x pos) (ag i):=uN (pvc i z B hd q)
def j9(i:Nat)(z:Nc[i]?=aa x:=by rfl)(B:Vis scope x:=by first |exact bS rfl |exact bp (bS rfl) |exact bp (bp rfl))(hd:NDb x:=by decide)
 (q:NCd x:=by decide):DC c (X.comp scope Nc cl C ex al bo) (.Name x pos) (aP i):=yx (pvc i z B hd q)
def dgc(i k:Nat)(z:i<k:=by decide)(q:Nc.Nodup:=by decide +kernel)(hi:Nc[i]?=aa x:=by rfl)(B:scope.names.lookup x=aa .local:=by rfl):DG c (X.comp scope Nc cl C ex al bo) (.Name x pos) k (aO i):=
 yN (pgc i q hi B) z
inductive Fl where
 |nx (U:LS)
 |bk (U:LS)
 |ct (U:LS)
 |rt (d:D)
 |rtO (ds:LD)
 |rtS (d:D) (U:LS)
 |rtT (o:O)
nonrec abbrev MF3:=LS->Option Fl
abbrev qZ(G:Gc)(Hf0 H0 Hf:Hp)(E:iV):Fl->Prop
 |.nx ρ'=>∀σ' Hf' H',aG Hf Hf'->aB G Hf0 H0 Hf' H' σ' ρ'->E.nx σ' H'
 |.bk ρ'=>∀σ' Hf' H',aG Hf Hf'->aB G Hf0 H0 Hf' H' σ' ρ'->E.bk σ' H'
 |.ct ρ'=>∀σ' Hf' H',aG Hf Hf'->aB G Hf0 H0 Hf' H' σ' ρ'->E.ct σ' H'
 |.rt d=>∀v Hf' H',Ext Hf0 H0 Hf' H'->Rep G Hf' d v->E.rt v H'
 |.rtO ds=>∀l vs Hf' H',Ext Hf0 H0 Hf' H'->H0 l=ae->Hf' l=ae->H' l=aa (.lst vs)->aC G Hf' ds vs->E.rt (.ref l) H'
 |.rtS d U=>∀v σ' Hf' H',aB G Hf0 H0 Hf' H' σ' U->Rep G Hf' d v->E.rt v H'
 |.rtT o=>∀u fp Hf' H',Ext Hf0 H0 Hf' H'->OT G Hf' H' o u fp->fp.Nodup->(∀a∈fp,H0 a=ae/\Hf' a=ae)->E.rt u H'
inductive tDS(G:Gc)(F:MF3)(E:iV)(σ:St)(H:Hp):Prop
 |mk:∀Hf0 H0 Hf U o,aB G Hf0 H0 Hf H σ U->F U=aa o->qZ G Hf0 H0 Hf E o->tDS G F E σ H
abbrev DS(c:Str->Addr)(X:Cx)(st:Stmt)(F:MF3):Prop:=PS X st (tDS (Gx c X) F)
abbrev DSs(c:Str->Addr)(X:Cx)(st:List Stmt)(F:MF3):Prop:=PSs X st (tDS (Gx c X) F)
abbrev bz(U:LS):Option Fl:=aa (.nx U)
abbrev ay(F F':MF3)(U:LS):Option Fl:=(F U).bind λo=>match o with
 |.nx ρ'=>F' ρ'
 |o=>aa o
abbrev bA(t:MF4)(F F':MF3)(U:LS):Option Fl:=(t U).bind λb=>if b then F U else F' U
abbrev cN(i:Nat)(f:MF1)(U:LS):Option Fl:=(f U).map λd=>.nx (U.set i (.im d))
abbrev dM(i:Nat)(f:MF2)(U:LS):Option Fl:=(f U).map λd=>.nx (U.set i (.own d))
abbrev ff(f:MF1)(U:LS):Option Fl:=(f U).map .rt
abbrev oD(f:MF2)(U:LS):Option Fl:=(f U).map .rtO
abbrev jE(i:Nat)(U:LS):Option Fl:=match U[i]? with
 |some (.im d)=>aa (.rt d)
 |some (.own xs)=>aa (.rtO xs)
 | _=>ae
abbrev c8(f:MF1)(U:LS):Option Fl:=(f U).map λ_=>.nx U
abbrev hU(g:D->LS->Option LS)(F:MF3):LD->MF3
 | [],U=>aa (.nx U)
 |d::ds,U=>(g d U).bind λρ1=>(F ρ1).bind λo=>match o with
  |.nx q=>hU g F ds q
  |.ct q=>hU g F ds q
  |.bk q=>aa (.nx q)
  |.rt d=>aa (.rt d)
  |.rtO d=>aa (.rtO d)
  |.rtS d q=>aa (.rtS d q)
  |.rtT o=>aa (.rtT o)
abbrev fO(fi:MF2)(g:D->LS->Option LS)(F:MF3)(U:LS):Option Fl:=(fi U).bind λds=>hU g F ds U
abbrev u7(i:Nat)(U:LS):LS:=match U[i]? with
 |some (.own xs)=>U.set i (.im (.lst xs))
 |some (.ownd ks xs)=>U.set i (.im (.dic ks xs))
 |some (.obj c ns xs)=>U.set i (.im (.ins c ns xs))
 | _=>U
abbrev fX(i:Nat)(F:MF3)(U:LS):Option Fl:=F (u7 i U)
abbrev i5(i:Nat)(f:MF1)(U:LS):Option Fl:=(f U).bind λd=>match U[i]? with
 |some (.own xs)=>if xs.length<16777216 then aa (.nx (U.set i (.own (xs++[d])))) else ae
 | _=>ae
abbrev mP(f:MF1)(U:LS):OLD:=(f U).bind λd=>match d with
 |.lst xs=>aa xs
 | _=>ae
abbrev mQ(i:Nat)(f:MF2)(U:LS):Option Fl:=(f U).bind λds=>match U[i]? with
 |some (.own xs)=>if xs.length+ds.length<=16777216 then aa (.nx (U.set i (.own (xs++ds)))) else ae
 | _=>ae
def bK:DSs c X [] bz:=PSs.imp B7 λE σ H z=>by
 obtain⟨Hf0,H0,Hf,U,o,B,q,k⟩:=z;exact(by cases q;exact k σ Hf H (aG.refl _) B)
def qZ.up{E:iV}{o:Fl}(h:qZ G Hf0 H0 Hf E o)(s:aG Hf Hf'):qZ G Hf0 H0 Hf' E o:=by
 cases o with
 |nx U=>exact λσ' b0 H2 s2 q=>h σ' b0 H2 (s.trans s2) q
 |bk U=>exact λσ' b0 H2 s2 q=>h σ' b0 H2 (s.trans s2) q
 |ct U=>exact λσ' b0 H2 s2 q=>h σ' b0 H2 (s.trans s2) q
 |rt d=>exact h
 |rtO d=>exact h
 |rtS d U=>exact h
 |rtT o=>exact h
variable{st:Stmt}{sts:List Stmt}{F F':MF3}
def aA(L:DS c X st F)(M:DSs c X sts F'):DSs c X (st::sts) (ay F F'):=PSs.imp (ud L M) λE σ H T=>by
 obtain⟨Hf0,H0,Hf,U,o,so,q,k⟩:=T;unfold ay at q
 cases z:F U with
 |none=>rw[z]at q;nomatch q
 |some I=>
  rw[z]at q;refine⟨Hf0,H0,Hf,U,I,so,z,?_⟩
  cases I with
  |nx ρ1=>exact λσ1 b3 H1 s1 B=>⟨Hf0,H0,b3,ρ1,o,B,q,k.up s1⟩
  |bk ρ1=>cases q;exact k
  |ct ρ1=>cases q;exact k
  |rt d=>cases q;exact k
  |rtO d=>cases q;exact k
  |rtS d ρ1=>cases q;exact k
  |rtT o'=>cases q;exact k
def aI(q:DS c X st F):DSs c X [st] F:=ue q
variable{a b:List Stmt}{cd:Expr}
def bM{t:MF4}(M:DT c X cd t)(ha:DSs c X a F)(L:DSs c X b F'):DS c X (.If cd a b pos) (bA t F F'):=PS.imp (uf M ha L) λE σ H T=>by
 obtain⟨Hf0,H0,Hf,U,o,I,q,k⟩:=T;unfold bA at q
 cases B:t U with
 |none=>rw[B]at q;nomatch q
 |some x=>
  rw[B]at q;refine⟨Hf0,H0,Hf,U,x,I,B,λb3 H1 z=>?_⟩
  cases x with
  |true=>rw[if_pos rfl];exact⟨Hf0,H0,b3,U,o,I.step z,q,k.up z.f⟩
  |false=>rw[if_neg cE];exact⟨Hf0,H0,b3,U,o,I.step z,q,k.up z.f⟩
def yQ{f:MF1}(I:PS X st (ls te (jw i)))(hi:∀σ H Q,tD (Gx c X) f σ H Q->te σ H Q):DS c X st (cN i f):=PS.imp I λE σ H L=>by
 obtain⟨Hf0,H0,Hf,U,o,B,q,k⟩:=L;unfold cN at q
 cases z:f U with
 |none=>rw[z]at q;nomatch q
 |some d=>
  rw[z]at q;cases q;exact hi _ _ _ ⟨Hf0,H0,Hf,U,d,B,z,λv Hf' H' x r=>k _ Hf' H' x.f ((B.step x).setIm r)⟩
def yR(M:PS X st (ls te (jw i)))(hi:∀σ H Q,tDO (Gx c X) f σ H Q->te σ H Q):DS c X st (dM i f):=PS.imp M λE σ H T=>by
 obtain⟨Hf0,H0,Hf,U,o,B,q,k⟩:=T;unfold dM at q
 cases z:f U with
 |none=>rw[z]at q;nomatch q
 |some d=>
  rw[z]at q;cases q;exact hi _ _ _ ⟨Hf0,H0,Hf,U,d,B,z,λl vs Hf' H' x hn I L r=>k _ Hf' H' x.f (B.setOwn rfl x hn I ⟨vs,L,r⟩)⟩
def fY(i:Nat){f:MF1}(q:X.N.Nodup)(z:DE c X e f)(hi:X.N[i]?=aa x:=by rfl)(L:Loc X.env.scope x:=by first |exact bS rfl |exact bp rfl)(I:fJ e (aa (.Name x b4)) pos.line X.env=pure ak:=by rfl)(B:LcF X x:=by first |exact .inl rfl |exact .inr rfl):
  DS c X (.Assign [.Name x b4] e pos) (cN i f):=yQ (lu q hi L z I B) λ_ _ _ h=>h
def gU(i:Nat)(q:X.N.Nodup)(z:DO c X e f)(hi:X.N[i]?=aa x:=by rfl)(L:Loc X.env.scope x:=by first |exact bS rfl |exact bp rfl)(I:fJ e (aa (.Name x b4)) pos.line X.env=pure ak:=by rfl)(B:LcF X x:=by first |exact .inl rfl |exact .inr rfl):
  DS c X (.Assign [.Name x b4] e pos) (dM i f):=yR (lu q hi L z I B) λ_ _ _ h=>h
def DP(h:tD G (ax f) σ H Q):tDO G f σ H Q:=by
 obtain⟨Hf0,H0,Hf,U,d,st,q,k⟩:=h;unfold ax at q
 cases z:f U with
 |none=>rw[z]at q;nomatch q
 |some ds=>
  rw[z]at q;have q:=cs q;subst q;exact⟨Hf0,H0,Hf,U,ds,st,z,λl vs Hf' H' x hn B I r=>k _ _ H' (x.fix hn B I) ⟨l,vs,rfl,bT,r.up (cM B)⟩⟩
def yS(i:Nat)(k:Nat)(js:LN)(Nc:LSt)(L:X.N.Nodup)(M:X.calm=ac)(hi:DIe c X tg iter fi)
 (q:∀cl C ex al bo,DG c (X.comp scope Nc cl C ex al bo) tg k g)(ht:∀cl C ex al bo,DTs c (X.comp scope Nc cl C ex al bo) df ft)(T:∀cl C ex al bo,DE c (X.comp scope Nc cl C ex al bo) c4 fe)
 (z:X.N[i]?=aa x:=by rfl)(hx:Loc X.env.scope x:=by first |exact bS rfl |exact bp rfl)
 (B:fJ (.ListComp c4 [⟨tg,iter,df,0⟩] scope pos) (aa (.Name x b4)) d9.line X.env=pure ac:=by rfl)
 (I:iX scope X.env.scope.names X.N Nc k js=ac:=by rfl)(hs:∀x,gK iter X.env x=pure x:=by intro _;rfl)(hj:js.Nodup:=by decide)
 (hf:LcF X x:=by first |exact .inl rfl |exact .inr rfl):
  DS c X (.Assign [.Name x b4] (.ListComp c4 [⟨tg,iter,df,0⟩] scope pos) d9) (dM i (b7 k js fi g ft fe)):=
 yR (qG (tt:=tDT (Gx c X) ft) (te:=tD (Gx c X) fe) k js Nc L z hx M hi (λcl C ex al bo=>(q cl C ex al bo).pg) ht T B I hs hf) λσ H Q h=>u6 hj (q [] 0 [] X.s₀ X.H₀).keep (q [] 0 [] X.s₀ X.H₀).len h
def lG(i:Nat)(k:Nat)(js:LN)(Nc:LSt)(L:X.N.Nodup)(M:X.calm=ac)(hi:DIe c X tg iter fi)
 (q:∀cl C ex al bo,DG c (X.comp scope Nc cl C ex al bo) tg k g)(ht:∀cl C ex al bo,DTs c (X.comp scope Nc cl C ex al bo) df ft)(T:∀cl C ex al bo,DE c (X.comp scope Nc cl C ex al bo) c4 fe)
 (z:X.N[i]?=aa x:=by rfl)(hx:Loc X.env.scope x:=by first |exact bS rfl |exact bp rfl)
 (B:fJ (.ListComp c4 [⟨tg,iter,df,0⟩] scope pos) (aa (.Name x b4)) d9.line X.env=pure ac:=by rfl)
 (I:iX scope X.env.scope.names X.N Nc k js=ac:=by rfl)(hs:∀x,gK iter X.env x=pure x:=by intro _;rfl)(hj:js.Nodup:=by decide)
 (hf:LcF X x:=by first |exact .inl rfl |exact .inr rfl):
  DS c X (.Assign [.Name x b4] (.ListComp c4 [⟨tg,iter,df,0⟩] scope pos) d9) (cN i (ax (b7 k js fi g ft fe))):=
 yQ (qG (tt:=tDT (Gx c X) ft) (te:=tD (Gx c X) fe) k js Nc L z hx M hi (λcl C ex al bo=>(q cl C ex al bo).pg) ht T B I hs hf) λσ H Q h=>u6 hj (q [] 0 [] X.s₀ X.H₀).keep (q [] 0 [] X.s₀ X.H₀).len (DP h)
def gV{f:MF1}(I:DE c X e f):DS c X (.Return (aa e) pos) (ff f):=PS.imp (mw I) λE σ H L=>by
 obtain⟨Hf0,H0,Hf,U,o,B,q,k⟩:=L;unfold ff at q
 cases z:f U with
 |none=>rw[z]at q;nomatch q
 |some d=>
  rw[z]at q;cases q;exact⟨Hf0,H0,Hf,U,d,B,z,λv Hf' H' x r=>k v Hf' H' (B.ext.trans x) r⟩
abbrev cg(f:MF1)(U:LS):Option Fl:=(f U).map λd=>.rtS d U
def cA{f:MF1}(I:DE c X e f):DS c X (.Return (aa e) pos) (cg f):=PS.imp (mw I) λE σ H L=>by
 obtain⟨Hf0,H0,Hf,U,o,B,q,k⟩:=L;unfold cg at q
 cases z:f U with
 |none=>rw[z]at q;nomatch q
 |some d=>
  rw[z]at q;cases q;exact⟨Hf0,H0,Hf,U,d,B,z,λv Hf' H' x r=>k v σ Hf' H' (B.step x) r⟩
def DQ(I:DO c X e f):DS c X (.Return (aa e) pos) (oD f):=PS.imp (mw I) λE σ H T=>by
 obtain⟨Hf0,H0,Hf,U,o,B,q,k⟩:=T;unfold oD at q
 cases z:f U with
 |none=>rw[z]at q;nomatch q
 |some d=>
  rw[z]at q;cases q;exact⟨Hf0,H0,Hf,U,d,B,z,λl vs Hf' H' x hn L M r=>k l vs Hf' H' (B.ext.trans x) (B.ext.h.free hn) L M r⟩
def DR(M:PE X e (dL i)):DS c X (.Return (aa e) pos) (jE i):=PS.imp (mw M) λE σ H q_=>by
 obtain⟨Hf0,H0,Hf,U,o,B,z,k⟩:=q_;unfold jE at z
 cases es:U[i]? with
 |none=>rw[es]at z;nomatch z
 |some s=>
  rw[es]at z
  cases s with
  |im d=>
   cases z;obtain⟨v,I,r⟩:=B.imm es
   exact⟨_,I,k v Hf H B.ext r⟩
  |own xs=>
   cases z;obtain⟨l,I,L,T,vs,q,r⟩:=B.ownAt rfl es
   exact⟨_,I,k l vs Hf H B.ext L T q r⟩
  | _=>nomatch z
def rf(i:Nat)(z:X.N[i]?=aa x:=by rfl)(B:Vis X.env.scope x:=by first |exact bS rfl |exact bp (bS rfl) |exact bp (bp rfl))(hd:NDb x:=by decide)
 (q:NCd x:=by decide):DS c X (.Return (aa (.Name x p)) pos) (jE i):=DR (iW z B hd q)
variable{f:MF1}
def gx(I:DE c X e f)(L:fJ e ae pos.line X.env=pure ak:=by rfl):DS c X (.Expr e pos) (c8 f):=PS.imp (dR I L) λE σ H M=>by
 obtain⟨Hf0,H0,Hf,U,o,B,q,k⟩:=M;unfold c8 at q
 cases z:f U with
 |none=>rw[z]at q;nomatch q
 |some d=>
  rw[z]at q;cases q;exact⟨Hf0,H0,Hf,U,d,B,z,λv Hf' H' x r=>k σ Hf' H' x.f (B.step x)⟩
def iB(hp:PassesOwn (model X.prog X.w) X.A X.env X.xe)(hc:X.calm=ac)(hi:DI c X tg iter fi)(hg:DG c X tg kk g)(hb:DSs c X a F)(hs:∀x,gK iter X.env x=pure x:=by intro _;rfl):
  DS c X (.For tg iter a [] pos) (fO fi g F):=PS.imp (qy hp hc hi hg.pg hb hs) λE σ H q_=>by
 obtain⟨Hf0,H0,Hf,U,o,so,T,k⟩:=q_;unfold fO at T
 cases e1:fi U with
 |none=>rw[e1]at T;nomatch T
 |some ds=>
  rw[e1]at T;refine⟨Hf0,H0,Hf,U,ds,so,e1,λJ b3 H1 x1 it=>?_⟩;refine⟨λi m σ' H'=>m=ds.length-i/\i<=ds.length/\∃Hf' ρ',aB _ Hf0 H0 Hf' H' σ' ρ'/\aG b3 Hf'/\hU g F (ds.drop i) ρ'=aa o,⟨ds.length,rfl,gl _,b3,U,so.step x1,aG.refl _,T⟩,?_⟩;rintro i m σ' H' ⟨rfl,hi',Hf',ρ',L,s1,em⟩;obtain⟨ou,it2⟩:=it Hf' H' s1 L.sub i
  by_cases I:i<ds.length
  .obtain⟨d,ed,ky⟩:=j8 I;obtain⟨go,yl⟩:=ou d ed;rw[ky]at em;unfold hU at em;refine .inr ⟨go,λgg H2=>ds.length-_=ds.length-_/\i+1<=ds.length/\∃Hf' ρ',aB _ Hf0 H0 Hf' H2 gg ρ'/\aG b3 Hf'/\hU g F _ ρ'=aa o,λgg H2 w=>⟨ds.length-(i+1),by lia,w⟩,λx H2 y=>?_⟩;obtain⟨b0,x2,rx⟩:=yl x H2 y
   cases eg:g d ρ' with
   |none=>rw[eg]at em;nomatch em
   |some ρ1=>
    rw[eg]at em;replace em:(F ρ1).bind _=_:=em
    cases eF:F ρ1 with
    |none=>rw[eF]at em;nomatch em
    |some o1=>
     rw[eF]at em;refine⟨Hf0,H0,b0,ρ',d,ρ1,L.step x2,rx,eg,λhY so3=>⟨Hf0,H0,b0,ρ1,o1,so3,eF,?_⟩⟩;have sf:=s1.trans x2.f
     cases o1 with
     |nx B=>exact λM q H4 s4 z=>⟨rfl,I,q,B,z,sf.trans s4,em⟩
     |ct B=>exact λM q H4 s4 z=>⟨rfl,I,q,B,z,sf.trans s4,em⟩
     |bk B=>cases em;exact λM q H4 s4 z=>k M q H4 ((x1.f.trans sf).trans s4) z
     |rt d=>cases em;exact k
     |rtO d=>cases em;exact k
     |rtS d B=>cases em;exact k
     |rtT o'=>cases em;exact k
  .have ei:i=ds.length:=by lia
   subst ei;rw[kZ (bC _)]at em;cases em;exact .inl ⟨it2 rfl,k σ' Hf' H' (x1.f.trans s1) L⟩
def DU{E:iV}(h:tDS G (fX i F) E σ H):tDS G F E σ H:=by
 obtain⟨Hf0,H0,Hf,U,o,I,L,k⟩:=h;unfold fX u7 at L;split at L
 .rename_i xs es;obtain⟨l,M,T,B,vs,q,r⟩:=I.ownAt rfl es;exact⟨Hf0,H0,_,_,o,I.fixd (d:=.lst xs) rfl es M q ⟨l,vs,rfl,bT,r.up (cM B)⟩,L,k.up (cM B)⟩
 .rename_i ks xs es;obtain⟨l,M,T,B,vs,q,z,r⟩:=I.ownAt rfl es;exact⟨Hf0,H0,_,_,o,I.fixd (d:=.dic ks xs) rfl es M q ⟨l,vs,rfl,bT,z,r.up (cM B)⟩,L,k.up (cM B)⟩
 .rename_i c' ns xs es;obtain⟨l,M,T,B,dx,vs,q,z,r⟩:=I.ownAt rfl es;exact⟨Hf0,H0,_,_,o,I.fixd (d:=.ins c' ns xs) rfl es M q ⟨l,dx,vs,rfl,bT,z,r.up (cM B)⟩,L,k.up (cM B)⟩
 .exact⟨Hf0,H0,Hf,U,o,I,L,k⟩
def iC(i:Nat)(h:DS c X st F):DS c X st (fX i F):=PS.imp h λ_ _ _=>DU
def oE(h:PS X st (lr (tBM X.K "list" oj (dL i) (mz (tD (Gx c X) f) my)))):DS c X st (i5 i f):=PS.imp h λE σ H T=>by
 obtain⟨Hf0,H0,Hf,U,o,I,z,k⟩:=T;unfold i5 at z
 cases B:f U with
 |none=>rw[B]at z;nomatch z
 |some d=>
  rw[B]at z;split at z
  .rename_i xs es;split at z
   .rename_i M;cases z;obtain⟨l,L,h0,hf,vs,q,r⟩:=I.ownAt rfl es;refine⟨_,L,.inl ⟨rfl,_,SqL.of q⟩,Hf0,H0,Hf,U,d,I,B,λv Hf' H' x r'=>?_⟩;refine⟨l,vs,v,rfl,rfl,(x.h _ _ q),by rw[dD,<- r.length];exact M,k σ Hf' _ x.f ((I.step x).mutd rfl rfl es L ⟨vs++[v],bT,(r.up x.f).append (.cons r' .nil)⟩)⟩
   .nomatch z
  .nomatch z
def DV(h:PS X st (lr (tBM X.K "list" ye (dL i) (mz (tD (Gx c X) f) my)))):DS c X st (mQ i (mP f)):=PS.imp h λE σ H q_=>by
 obtain⟨Hf0,H0,Hf,U,o,I,z,k⟩:=q_;unfold mQ mP at z
 cases B:f U with
 |none=>rw[B]at z;nomatch z
 |some d=>
  rw[B]at z
  cases d with
  |lst ds=>
   replace z:(match U[i]? with |some (.own xs)=>if xs.length+ds.length<=16777216 then aa _ else ae | _=>ae)=aa o:=z
   split at z
   .rename_i xs es;split at z
    .rename_i hl;cases z;obtain⟨l,L,h0,hf,vs,q,r⟩:=I.ownAt rfl es;refine⟨_,L,.inl ⟨rfl,_,SqL.of q⟩,Hf0,H0,Hf,U,.lst ds,I,B,λv Hf' H' x r'=>?_⟩;obtain⟨a,us,T,qa,M⟩:=r';subst T;refine⟨l,a,vs,us,rfl,rfl,(x.h _ _ q),x.s _ _ qa,by rw[dD,<- r.length,<- M.length];exact hl,k σ Hf' _ x.f ((I.step x).mutd rfl rfl es L ⟨vs++us,bT,(r.up x.f).append M⟩)⟩
    .nomatch z
   .nomatch z
  | _=>nomatch z
abbrev yT:Fl->OD
 |.rt d=>aa d
 |.rtO ds=>aa (.lst ds)
 |.rtS d _=>aa d
 |.nx _=>aa .non
 | _=>ae
abbrev fg(n:Nat)(ds:LD):LS:=ds.map .im++mh (n-ds.length) .no
abbrev dW(n:Nat)(F:MF3)(ds:LD):OD:=(F (fg n ds)).bind yT
abbrev spD(G:Gc)(n:Nat)(m:LD->OD):Sp:=λvs H Q _=>∃Hf ds d,aG Hf H/\aC G Hf ds vs/\ds.length=n/\m ds=aa d/\∀v Hf' H',Ext Hf H Hf' H'->Rep G Hf' d v->Q v H'
def aB.start(L:aG Hf H)(r:aC G Hf ds vs):aB G Hf H Hf H (start N vs) (fg N.length ds):=by
 have im:∀i (s:Sl),(fg N.length ds)[i]?=aa s->s=.no\/∃d,ds[i]?=aa d/\s=.im d:=λi s b=>by
  unfold fg at b
  by_cases hi:i<ds.length
  .rw[nN (by simpa using hi)]at b;obtain⟨d,z,es⟩:=mO b;exact .inr ⟨d,z,es⟩
  .rw[me (by simpa using tU hi)]at b;obtain⟨_,e⟩:=dh.mp b;rw[List.getElem_replicate]at e;exact .inl e.symm
 refine⟨Ext.refl L,by simp[L2.start,fg,r.length],λi v s a b=>?_,λi j s t v w l a b c d p q=>?_⟩
 .rcases im i s b with e |⟨d,z,es⟩
  .subst e;trivial
  .subst es;obtain⟨u,B,I⟩:=r.get z;refine⟨u,?_,I⟩;unfold L2.start at a;rw[nN (by simpa using ((dh.mp B).1)),fm,B]at a;exact(cs a).symm
 .rcases im i s a with e |⟨d,z,es⟩
  .subst e;exact(p.calm rfl).elim
  .subst es;exact(p.calm rfl).elim
variable{mg:MGT}{base:Heap}{n_:Nat}{qual:Str}{f:Addr}{fd:fu}{ps:LSt}
def fP(Fn:Fun K x qual st f fd)(S:bZ N ps (bq st))
 (h:∀(cdv:Value) (A:dE) (outer:List Env) (s:aM) (H:Hp) (E:XK),cG k (A.deeper (gm qual (bq st) s.heap.objs.size f cdv))->DSs c (gQ CX0 P w K mg base N qual (bq st) f cdv A outer s H E).nox (ir st) F)(I:N.length=n_:=by rfl):
  e8 P w K mg base CX0 (k+1) f fd ps (spD ⟨K,c⟩ ps.length (dW n_ F)):=by
 subst I;refine Fn.ok S (λvs H Q E L=>by obtain⟨Hf,ds,d,s0,r,q,_⟩:=L;rw[<- r.length];exact q) λcdv A outer s H vs Q E hr L=>?_;obtain⟨Hf,ds,d,s0,r,q,e,z⟩:=L;refine⟨_,h cdv A outer s H E hr,?_⟩;unfold dW at e
 cases B:F _ with
 |none=>rw[B]at e;nomatch e
 |some o=>
  rw[B]at e;refine⟨Hf,H,Hf,_,o,aB.start s0 r,B,?_⟩
  cases o with
  |nx U=>cases e;exact λσ' Hf' H' _ M=>z _ Hf' H' M.ext rfl
  |bk U=>nomatch e
  |ct U=>nomatch e
  |rt d=>cases e;exact z
  |rtO rs=>cases e;exact λl vs Hf' H' x hn T q r=>z _ _ H' (x.fix hn T q) ⟨l,vs,rfl,bT,r.up (cM T)⟩
  |rtS d U=>cases e;exact λv σ' Hf' H' M r=>z v Hf' H' M.ext r
  |rtT o=>nomatch e
variable{fa:MF2}{k0:Nat}
def cS(pk:Pk X.prog X.w X.K X.mg X.base CX0 k x (f,fd) ps (spD (Gx c X) ps.length m))(I:cG k0 X.A)(ha:DA c X (e::es) fa)(hl:(e::es).length=ps.length:=by rfl)(q:NDb x:=by decide)(he:StE X e es:=by rfl)(B:BkE X pos es:=by rfl)(z:k<=k0:=by decide)(hg:Gl X x:=by first |rfl |exact glc rfl):
  DE c X (.Call (.Name x p) (e::es) [] pos) (aQ m fa):=PE.imp (jX pk.ok (I.mono z) hg pk.g pk.kp pk.b .nil lx ha.pa q he B) λσ H Q q_=>by
 obtain⟨Hf0,H0,Hf,U,d,st,T,kq⟩:=q_;obtain⟨ds,L,M⟩:=yK T;refine⟨Hf0,H0,Hf,U,ds,st,L,λvs Hf' H' x r=>?_⟩;rw[cV];exact⟨Hf',ds,d,x.s,r,(ha.len U ds L).trans hl,M,λv b0 H2 x2 r2=>kq v b0 H2 (x.trans x2) r2⟩
abbrev mR(m:LD->OD)(f:MF2)(U:LS):OD:=(f U).bind λds=>(m ds).bind λd=>if d.scalar then aa d else ae
def yU(pk:Pk X.prog X.w X.K X.mg X.base CX0 k x (f,fd) ps (spD (Gx c X) ps.length m))(T:cG k0 X.A)(ha:DAB c X (e::es) fa)(hl:(e::es).length=ps.length:=by rfl)(I:NDb x:=by decide)(he:StE X e es:=by rfl)(M:BkE X pos es:=by rfl)(L:k<=k0:=by decide)(hg:Gl X x:=by first |rfl |exact glc rfl):
  DE c X (.Call (.Name x p) (e::es) [] pos) (mR m fa):=PE.imp (jX pk.ok (T.mono L) hg pk.g pk.kp pk.b .nil lx ha.pa I he M) λσ H Q q_=>by
 obtain⟨Hf0,H0,Hf,U,d,st,q,kq⟩:=q_;unfold mR at q
 cases z:fa U with
 |none=>rw[z]at q;nomatch q
 |some ds=>
  rw[z]at q;replace q:(m ds).bind _=_:=q
  cases B:m ds with
  |none=>rw[B]at q;nomatch q
  |some d'=>
   rw[B]at q;replace q:(if d'.scalar=ac then aa d' else ae)=aa d:=q;split at q
   .rename_i hs;cases q;refine⟨Hf0,H0,Hf,U,ds,st,z,λvs Hf' H' x r=>?_⟩;rw[cV];exact⟨H',ds,_,aG.refl _,r,(ha.len U ds z).trans hl,B,λv b0 H2 x2 r2=>kq v Hf' H2 (x.trans (Ext.grow x.s x2.h)) (r2.sc hs)⟩
   .nomatch q
def DY{f:MF1}(h:f U=aa d):cN i f U=aa (.nx (U.set i (.im d))):=by
 unfold cN;rw[h];rfl
def D0{f:MF2}{d:LD}(h:f U=aa d):dM i f U=aa (.nx (U.set i (.own d))):=by
 unfold dM;rw[h];rfl
def D1{f:MF1}(h:f U=aa d):ff f U=aa (.rt d):=by
 unfold ff;rw[h];rfl
def bx{f:MF2}(h:f U=aa ds)(h':m ds=aa d):aQ m f U=aa d:=by
 unfold aQ;rw[h];exact h'
def u8{z:Type}{h:D->Option OD}(f:z->D)(p:z->Bool)(q:z->D):∀(xs:List z),(∀x∈xs,h (f x)=aa (if p x then aa (q x) else ae))->gS h (xs.map f)=aa ((xs.filter p).map q)
 | [],_=>rfl
 |x::xs,hh=>by
  rw[gI];unfold gS;rw[hh x bP,u8 f p q xs λy I=>hh y (cF _ I)]
  cases B:p x with
  |true=>rw[filter_cons_of_pos B];rfl
  |false=>rw[filter_cons_of_neg (by rw[B];exact cE)];rfl
def D2{z:Type}{h:D->Option OD}(f:z->D)(q:z->D)(xs:List z)(B:∀x∈xs,h (f x)=aa (aa (q x))):gS h (xs.map f)=aa (xs.map q):=by
 have:=u8 f (λ_=>ac) q xs λx I=>(B x I).trans rfl;rw[this,filter_eq_self.mpr λ_ _=>rfl]
def u9{z:Type}(xs:List z)(f:z->D)(p:z->Bool)(q:z->D)
 (hi:fi U=aa (xs.map f))(I:xs.length<=16777216)(B:∀x∈xs,jD g ft fe (cR k js U) (f x)=aa (if p x then aa (q x) else ae)):b7 k js fi g ft fe U=aa ((xs.filter p).map q):=by
 unfold b7;rw[hi];show(if (xs.map f).length<=16777216 then _ else ae)=_;rw[aW,if_pos I];exact u8 f p q xs B
def oF{z:Type}(xs:List z)(f:z->D)(q:z->D)
 (hi:fi U=aa (xs.map f))(I:xs.length<=16777216)(B:∀x∈xs,jD g ft fe (cR k js U) (f x)=aa (aa (q x))):b7 k js fi g ft fe U=aa (xs.map q):=by
 unfold b7;rw[hi];show(if (xs.map f).length<=16777216 then _ else ae)=_;rw[aW,if_pos I];exact D2 f q xs B
def yV(lo:Int)(n:Nat):rng lo n=(di n).map λ(i:Nat)=>D.int (lo+i):=rfl
abbrev fB:Nat->D->Prop
 | 0,_=>False
 |n+1,d=>match d with
  |.lst xs=>∀x∈xs,fB n x
  |.tup xs=>∀x∈xs,fB n x
  |d=>d.scalar=ac
def va{f:D->D->Option Bool}:∀(xs:LD),(∀x∈xs,f x x=aa ac)->dS f xs xs=aa ac
 | [],_=>rfl
 |x::xs,h=>by
  unfold dS;rw[h x bP,va xs λy q=>h y (cF _ q)];rfl
def rg:∀(n:Nat) (d:D),fB n d->deq n d d=aa ac
 | 0,_,h=>h.elim
 |n+1,d,h=>by
  cases d with
  |lst xs=>
   show(if xs.length=xs.length then dS _ xs xs else aa ak)=_;rw[if_pos rfl]
   exact va xs λx q=>rg n x (h x q)
  |tup xs=>
   show(if xs.length=xs.length then dS _ xs xs else ae)=_;rw[if_pos rfl]
   exact va xs λx q=>rg n x (h x q)
  |non=>rfl
  |bl b=>show aa (b==b)=_;rw[beq_self_eq_true]
  |int b=>show aa (b==b)=_;rw[beq_self_eq_true]
  |str b=>show aa (b==b)=_;rw[beq_self_eq_true]
  | _=>cases h
def D3(h:fB 20 d):dEq d d=aa (.bl ac):=by
 unfold dEq;rw[rg 20 d h];rfl
def D4(h:fB 20 d):dNe d d=aa (.bl ak):=by
 unfold dNe;rw[rg 20 d h];rfl
def cY(i j:Int):dEq (.int i) (.int j)=aa (.bl (i==j)):=rfl
def yW(i j:Int):dNe (.int i) (.int j)=aa (.bl (!(i==j))):=rfl
variable{f:MF1}
def aF{m:D->D->OD}{g:MF1}{x:D}(q:f U=aa x)(z:g U=aa y)(B:m x y=aa d):m2 m f g U=aa d:=by
 unfold m2;rw[q,z];exact B
variable{b:Bool}
def aV(h:f U=aa (.bl b)):mB f U=aa b:=by
 unfold mB;rw[h];rfl
def iD(h:f U=aa d)(h':uQ d=aa b):fA f U=aa b:=by
 unfold fA;rw[h];exact h'
variable{f:MF4}
def ka(h:f U=aa b):iy f U=aa (!b):=by
 unfold iy;rw[h];rfl
variable{g:MF4}
def D5{r:Option Bool}(h:f U=aa ac)(h':g U=r):fc f g U=r:=by
 unfold fc;rw[h];exact h'
def D6(h:f U=aa ak):fc f g U=aa ak:=by
 unfold fc;rw[h];rfl
def D7(h:f U=aa ac):mOr f g U=aa ac:=by
 unfold mOr;rw[h];rfl
def D8{r:Option Bool}(h:f U=aa ak)(h':g U=r):mOr f g U=r:=by
 unfold mOr;rw[h];exact h'
variable{a:Bool}
def jF(h:f U=aa a)(h':g U=aa b):fc f g U=aa (a && b):=by
 cases a with
 |true=>exact D5 h h'
 |false=>exact D6 h
def lH(h:f U=aa a)(h':g U=aa b):mOr f g U=aa (a || b):=by
 cases a with
 |true=>exact D7 h
 |false=>exact D8 h h'
variable{f:MF1}
def rh{g:MF1}(h:f U=aa (.bl a))(h':g U=aa (.bl b)):lA f g U=aa (.bl (a && b)):=by
 unfold lA;rw[aV h]
 cases a with
 |true=>exact h'
 |false=>rfl
def yX{g:MF1}(h:f U=aa (.bl a))(h':g U=aa (.bl b)):vOr f g U=aa (.bl (a || b)):=by
 unfold vOr;rw[aV h]
 cases a with
 |true=>rfl
 |false=>exact h'
def aj{g:MF2}(h:f U=aa d)(h':g U=aa ds):af f g U=aa (d::ds):=by
 unfold af;rw[h,h'];rfl
variable{f:MF2}
def bI(h:f U=aa ds):aR f U=aa (.tup ds):=by
 unfold aR;rw[h];rfl
def bn(h:f U=aa ds):ax f U=aa (.lst ds):=by
 unfold ax;rw[h];rfl
def aZ{g:MF1}{i:Int}{r:OD}(h:f U=aa ds)(h':g U=aa (.int i))(q:atI ds i=r):mIx f g U=r:=by
 unfold mIx;rw[h,h'];exact q
variable{j:Int}
def rj{C:Int->Int->Prop}[∀i j,Decidable (C i j)]{g:Int->Int->D}{i:Int}(h:C i j):dI C g (.int i) (.int j)=aa (g i j):=by
 show(if C i j then aa _ else ae)=_;rw[if_pos h]
variable{f:MF1}
def D9(h:f U=aa d)(h':U[i]?=aa (.own xs))(q:xs.length<16777216):i5 i f U=aa (.nx (U.set i (.own (xs++[d])))):=by
 unfold i5;rw[h,h'];show(if xs.length<16777216 then _ else ae)=_;rw[if_pos q]
def Ea(h:f U=aa d):c8 f U=aa (.nx U):=by
 unfold c8;rw[h];rfl
variable{ρ1:LS}
def kc{g:D->LS->Option LS}(q:g d U=aa ρ1)(z:ft ρ1=aa b)(B:b=ac->fe ρ1=aa y):jD g ft fe U d=aa (if b then aa y else ae):=by
 unfold jD;rw[q];show(ft ρ1).bind _=_;rw[z]
 cases b with
 |true=>rw[B rfl];rfl
 |false=>rfl
def lI{g:D->LS->Option LS}(q:g d U=aa ρ1)(z:ft ρ1=aa ac)(B:fe ρ1=aa y):jD g ft fe U d=aa (aa y):=kc q z λ_=>B
def dz(h:f U=aa d)(h':jY d=aa ds):bQ f U=aa ds:=by
 unfold bQ;rw[h];exact h'
def Eb{f:MF2}{n:Int}(h:f U=aa [.int n])(z:0<=n)(q:n<2 ^ 62):gR f U=aa ((di n.toNat).map λ(i:Nat)=>D.int i):=by
 unfold gR;rw[h];show(if -_<=n/\n<2 ^ 62 then aa _ else ae)=_;rw[if_pos ⟨by lia,q⟩,yV]
 congr 1
 refine map_congr_left λi _=>?_;rw[Int.zero_add]
def yY:∀{bs:List Bool} {us:LVa},aY (bs.map V.bl) us->us=bs.map lq
 | [],_,.nil=>rfl
 |b::bs,_,.cons r t=>by
  rw[yY t];cases (r);rfl
def Ec(bs:List Bool):((di bs.length).all λi=>(bs[i]?).getD ac)=bs.all id:=by
 rw[jT,all_eq_true,all_eq_true];constructor
 .intro h b z;obtain⟨i,hi,e⟩:=List.getElem_of_mem z;have:=h i (ml.mpr hi);simp only[eM hi,e]at this;exact this
 .intro h i hi;have q:=ml.mp hi;simp only[eM q];exact h _ (mf q)
def Ed{h:Heap}{o:Obj}(q:∀b x,b∉[h.objs.size]->(h.push o).get? b=aa x->h'.get? b=aa x):∀b x,h.get? b=aa x->h'.get? b=aa x:=
 λb x e=>q b x (λhm=>by rw[aU.mp hm]at e;exact jn _ (cb e)) (eH _ e)
def Ee(hc:X.calm=ac):gr X (.builtin "all") (λxs H Q=>∃(p:Addr) (bs:List Bool),xs=[.ref p]/\SqL X.K H p (bs.map V.bl)/\Q (.bl (bs.all id)) H):=by
 intro pins s σ H xs us Q I r h;obtain⟨l,bs,rfl,hq,q⟩:=h;obtain⟨u,rfl,rx⟩:=og r;subst rx;obtain⟨its,r',pl,hz⟩:=I.list hq;have e:=yY r';subst e;have B:=pl.isList;have L:l<s.heap.objs.size:=by obtain⟨_,e,_⟩:=B;exact cb e
 refine call_all_walk (wpAny_pyIter_list B ?_)
 refine⟨s.heap.objs.size,_,_,(bs.map lq).toArray.size,_,_,λi=>(bs[i]?).getD ac,rfl,Walks.list (A:=X.A.in1) (I.ok.hd hc) _ l (dC L) (bs.map lq).toArray,
  ⟨⟨_,fV _ rfl,rfl,rfl⟩,B.push _⟩,λi v s' Q' E' T M=>?_,λh' tk hk=>?_⟩
 .have z:(bs.map lq)[i]?=aa v:=by simpa using T
  obtain⟨b,e,rfl⟩:=mO z;simp only[e]at M;exact mq M
 .have e:((di (bs.map lq).toArray.size).all λi=>(bs[i]?).getD ac)=bs.all id:=by
   rw[size_toArray,aW];exact Ec bs
  rw[e];exact⟨.bl _,H,I.kept (Ed hk),rfl,q⟩
abbrev iE:LD->Option (List Bool)
 | []=>aa []
 |.bl b::ds=>(iE ds).map λr=>b::r
 | _=>ae
def yZ:∀{ds:LD} {bs:List Bool},iE ds=aa bs->ds=bs.map D.bl
 | [],_,e=>by cases e;rfl
 |.bl b::ds,_,e=>by
  unfold iE at e
  cases es:iE ds with
  |none=>rw[es]at e;cases e
  |some r=>rw[es]at e;cases e;rw[yZ es];rfl
 |.int _::_,_,e=>by cases e
 |.non::_,_,e=>by cases e
 |.str _::_,_,e=>by cases e
 |.lst _::_,_,e=>by cases e
 |.tup _::_,_,e=>by cases e
 |.kl _::_,_,e=>by cases e
 |.kt _::_,_,e=>by cases e
 |.dic _ _::_,_,e=>by cases e
 |.ins _ _ _::_,_,e=>by cases e
def aC.bls{G:Gc}{H:Hp}:∀{bs:List Bool} {vs:List V},aC G H (bs.map D.bl) vs->vs=bs.map V.bl
 | [],_,h=>h
 |b::bs,_,q2_=>by
  obtain⟨v,r,e,q,z⟩:=q2_;subst e;rw[aC.bls z,show v=V.bl b from q];rfl
abbrev rk:LD->OD
 | [d]=>(lsD d).bind λds=>(iE ds).map λbs=>.bl (bs.all id)
 | _=>ae
def y0{f:List Bool->D}(e:(match ds with | [d]=>(lsD d).bind λds=>(iE ds).map f | _=>ae)=aa d):∃q xs bs,ds=[q]/\lsD q=aa xs/\xs=bs.map D.bl/\d=f bs:=by
 split at e
 .rename_i q
  cases z:lsD q with
  |none=>rw[z]at e;nomatch e
  |some xs=>
   rw[z]at e;replace e:(iE xs).map f=aa d:=e
   cases B:iE xs with
   |none=>rw[B]at e;nomatch e
   |some bs=>rw[B]at e;cases e;exact⟨q,xs,bs,rfl,z,yZ B,rfl⟩
 .nomatch e
def Ef(T:X.calm=ac):mL c X (.builtin "all") rk:=by
 rintro pins s σ H vs us Q I rv ⟨Hf,ds,d,z,r,e,k⟩;obtain⟨d0,xs,bs,rfl,B,rfl,rfl⟩:=y0 e;obtain⟨v,M,r1⟩:=r.one;subst M;obtain⟨a,ws,L,q,rs⟩:=jC B r1;subst L;refine Ee T pins s σ H _ us Q I rv ⟨a,bs,rfl,?_,k _ Hf H (Ext.refl z) rfl⟩;rw[<- rs.bls];exact z.seq q
def Eg:∀ds d,rk ds=aa d->d.scalar=ac:=λds d e=>by
 obtain⟨q,xs,bs,rfl,z,rfl,rfl⟩:=y0 e;rfl
abbrev Ite(K:bu)(l:Addr):It:=
  ⟨λi H=> ∃xs x, SqL K H l xs/\xs[i]? = aa x,
   λi H v H'=> ∃p x, v = .ref p/\H p = ae/\H' = upd H p (.tup [.int i, x])/\(∀xs, SqL K H l xs->xs[i]? = aa x),
   λi H=> ∃xs, SqL K H l xs/\xs.length<=i⟩
def Eh(e it l:Addr)(ne:e≠it):
  jx P w K (.Tuple hI kx pos) (Ite K l) [e,it] e (λi h=>(∃old,IsEnum h e it (i:Int) old)/\h.IsListIter it l i) where
 mem:=by simp
 obj:=λi h st b hb=>by
  obtain⟨⟨old,he⟩,⟨o1,e1,_,d1⟩⟩:=st;simp only[bG,bJ,or_false]at hb
  rcases hb with rfl |rfl
  .exact⟨_,he,λv q=>by nomatch q⟩
  .exact⟨o1,e1,λv q=>by rw[d1]at q;nomatch q⟩
 keep:=λi h h' st k=>by
  obtain⟨⟨old,he⟩,h1⟩:=st;exact⟨⟨old,k e (by simp) _ he⟩,h1.at λo q=>k it (by simp) o q⟩
 item:=by
  intro X hP hw hK hc i pins s σ H E I hf st hg;subst hP hw hK;obtain⟨⟨old,he⟩,h1⟩:=st;obtain⟨xs,x,q1,hx⟩:=hg;obtain⟨its1,r1,p1,z1⟩:=I.list q1;obtain⟨u1,e1,ru1⟩:=r1.get hx;refine wpAny_pyNext_enum_item he h1 p1.isList (by simpa using e1) ne λh' a1 a3 a5 a6 a7=>⟨_,rfl,?_⟩;refine wpAny_letOwnedTupleGo_enum a1 λh'' b1 b2=>?_
  have lt:∀b∈[e,it],b<s.heap.objs.size:=λb hb=>by
   simp only[bG,bJ,or_false]at hb
   rcases hb with rfl |rfl
   .exact cb he
   .obtain⟨o,e,_⟩:=h1;exact cb e
  have kk:∀b o,b∉[e,it]->s.heap.get? b=aa o->h''.get? b=aa o:=λb o hb e=>by
   simp only[bG,bJ,or_false,not_or]at hb;obtain⟨n1,n2⟩:=hb;exact(b2.2 b n1).trans (a7 b o n1 n2 e)
  have fr:=I.hok.fresh (bC _)
  have I2:Inv X pins σ (upd H s.heap.objs.size (.tup [.int i,x])) {s with heap:=h'',toks:=s.toks+1}:=
   (I.turnedMany kk hf).track (I.fpOk (bC _) fr) ⟨(by show 2<=bE;decide),_,.cons ⟨s.toks,rfl⟩ (.cons ru1 .nil),⟨_,((b2.2 _ (nO (lt e (by simp)))).trans a5),rfl,_,rfl⟩⟩
  refine⟨.ref s.heap.objs.size,_,I2,rfl,⟨_,x,rfl,fr,rfl,λc0 h=>by rw[I.list_inj h q1];exact hx⟩,⟨⟨u1,?_⟩,(a3.at λo q=>(b2.2 it (eE ne)).trans q)⟩,λb hb=>?_⟩
  .have:((i+1:Nat):Int)=i+1:=by push_cast;rfl
   rw[this];exact b1
  .rw[bH (dC (lt b hb))];exact(hf b hb).1
 done:=by
  intro X hP hw hK hc i pins s σ H E I hf st hg;subst hP hw hK;obtain⟨⟨old,he⟩,h1⟩:=st;obtain⟨xs,q1,kT⟩:=hg;obtain⟨its1,r1,p1,z1⟩:=I.list q1;have l1':=r1.length;refine wpAny_pyNext_enum_end (I.ok.hd hc) he h1 p1.isList (by simp;lia) λh' kk=>⟨rfl,I.turnedMany (λb o hb q=>?_) hf⟩;simp only[bG,bJ,or_false,not_or]at hb;exact kk b o hb.2 q
 self:=λ_ _ _ _ _ st h=>by obtain⟨⟨old,he⟩,_⟩:=st;exact wpAny_pyIter_enum he h
abbrev Ei(K:bu)(ta:TA):TI:=λσ H R=>ta σ H λvs H1=>∃l,vs=[.ref l]/\(∃xs,SqL K H1 l xs)/\R (Ite K l) H1
variable{a:Expr}
def Ej(hg:Gl X "enumerate")(hm:X.mg "enumerate"=ae)(ha:PA X [a] ta)(hs:aX [a] X.env=[(ak,eval a X.env)]:=by rfl):
  PI X (.Tuple hI kx tpos) (.Call (.Name "enumerate" p) [a] [] pos) (Ei X.K ta):=by
 intro pins s σ H R I h;refine Call_ (jv I hg hm boot_enumerate (mn (thn (ha pos pins s σ H _ I h) λus s1 ⟨vs,H1,B,r1,q1⟩=>?_) (by rw[hs];rfl) (by rfl)));obtain⟨l,e,⟨xs,h1⟩,q⟩:=q1;subst e;obtain⟨u,rfl,ru⟩:=og r1;subst ru;obtain⟨T,r1,p1,z1⟩:=B.list h1;refine call_enumerate_list p1.isList λh' L a4 a6 a7=>?_;refine wpAny_pyIter_enum L ?_;refine⟨_,_,_,_,H1,rfl,(B.kept a7),Eh _ _ _ (Nat.succ_ne_self _),⟨⟨_,L⟩,a4⟩,λb M=>?_,q⟩;simp only[bG,bJ,or_false]at M
 have z:s1.heap.objs.size<=b:=by
  rcases M with rfl |rfl
  .exact k9 _ _
  .exact bC _
 exact B.fpOk z (B.hok.fresh z)
abbrev lJ:Nat->LD->LD
 | _,[]=>[]
 |i,x::xs=>.tup [.int i,x]::lJ (i+1) xs
def y3:∀(i:Nat) (xs:LD),(lJ i xs).length=xs.length
 | _,[]=>rfl
 |i,x::xs=>by rw[lJ,b9,b9,y3]
def vb:∀(k:Nat) (xs:LD) (i:Nat),(lJ k xs)[i]?=(xs[i]?).map λx=>.tup [.int (k+i:Nat),x]
 | _,[],_=>rfl
 |k,x::xs,0=>rfl
 |k,x::xs,i+1=>by rw[lJ,tP,tP,vb _ xs i,show k+1+i=k+(i+1) by lia]
abbrev vc:LD->OLD
 | [x]=>(lsD x).map (lJ 0)
 | _=>ae
abbrev oG(f:MF2)(U:LS):OLD:=(f U).bind vc
def Ek{f:MF2}(hg:Gl X "enumerate")(hm:X.mg "enumerate"=ae)(ha:DA c X [a] f)(hs:aX [a] X.env=[(ak,eval a X.env)]:=by rfl):
  DI c X (.Tuple hI kx tpos) (.Call (.Name "enumerate" p) [a] [] pos) (oG f):=
 PI.imp (Ej hg hm ha.pa hs) λσ H R q_=>by
  obtain⟨Hf0,H0,Hf,U,ds,st,q,k⟩:=q_;unfold oG at q
  cases M:f U with
  |none=>rw[M]at q;nomatch q
  |some as=>
   rw[M]at q;replace q:vc as=aa ds:=q;refine⟨Hf0,H0,Hf,U,as,st,M,λvs Hf' H' x r=>?_⟩;unfold vc at q;split at q
   .rename_i dx
    cases ex:lsD dx with
    |none=>rw[ex]at q;nomatch q
    |some xs=>
     rw[ex]at q;cases q;obtain⟨v,ev,rv⟩:=r.one;obtain⟨l1,L,T,q1,r1⟩:=jC ex rv;subst T;refine⟨l1,ev,⟨L,x.s.seq q1⟩,k _ Hf' H' x λb0 H2 f2 s2 i=>?_⟩;have g1:=(f2.trans s2).seq q1;have h1:=r1.length;refine⟨λd B=>?_,λei=>⟨L,g1,by rw[y3]at ei;lia⟩⟩;rw[vb]at B
     cases hx:xs[i]? with
     |none=>rw[hx]at B;nomatch B
     |some x'=>
      rw[hx]at B;cases B;obtain⟨u1,I,ru1⟩:=r1.get hx;refine⟨⟨L,u1,g1,I⟩,λz H3 ⟨pp,z1,ez,hp,eh,y1⟩=>?_⟩;subst ez eh;have a1:=y1 L g1;rw[I]at a1;cases a1;exact⟨upd b0 pp _,Ext.new s2 hp,pp,_,rfl,bT,.cons (by rw[Nat.zero_add];rfl) (.cons (ru1.up (f2.trans (cM (s2.free hp)))) .nil)⟩
   .nomatch q
abbrev lK(i:Nat)(q z:MF1)(U:LS):Option Fl:=(z U).bind λd=>(q U).bind λx=>match x with
 | .int k=>(match U[i]? with
  |some (.own xs)=>(ixN xs.length k).map λj=>.nx (U.set i (.own (xs.set j d)))
  | _=>ae)
 | _=>ae
variable{fk fv:MF1}
def El(hp:PS X st (ls (tD (Gx c X) fv) (uk (dL i) (tD (Gx c X) fk) uF))):DS c X st (lK i fk fv):=PS.imp hp λE σ H q_=>by
 obtain⟨Hf0,H0,Hf,U,o,so,z,k⟩:=q_;unfold lK at z
 cases M:fv U with
 |none=>rw[M]at z;nomatch z
 |some d=>
  rw[M]at z
  cases T:fk U with
  |none=>rw[T]at z;nomatch z
  |some x=>
   rw[T]at z
   obtain⟨I,rfl⟩:∃I,x=.int I:=by cases x <;> first |exact⟨_,rfl⟩ |nomatch z
   replace z:(match U[i]? with |some (.own xs)=>(ixN xs.length I).map λj=>Fl.nx _ | _=>ae)=aa o:=z
   split at z
   .rename_i xs es
    cases ej:ixN xs.length I with
    |none=>rw[ej]at z;nomatch z
    |some j=>
     rw[ej]at z;cases z;refine⟨Hf0,H0,Hf,U,d,so,M,λv b3 H1 x1 r1=>?_⟩;have B:=so.step x1;obtain⟨l,el,h0,hf,vs,q,r⟩:=B.ownAt rfl es;refine⟨_,el,Hf0,H0,b3,U,.int I,B,T,λy b0 H2 L r2=>?_⟩;exact⟨l,vs,I,j,rfl,r2,(L.h _ _ q),by rw[<- r.length];exact ej,(k σ b0 _ (x1.f.trans L.f) ((B.step L).mutd rfl rfl es el ⟨vs.set j v,bT,(r.up L.f).set j (r1.up L.f)⟩))⟩
   .nomatch z
variable{i' value:Expr}
def Em(B:PE X e (dL i))(z:DE c X i' fk)(L:DE c X value fv)(I:qf [.Subscript e i' b4] value pos.line X.env=pure ak:=by rfl)(M:qg [.Subscript e i' b4] value X.env=pure ae:=by rfl)
 (q:(gM [.Subscript e i' b4] X.env).map (·.2)=[io (.Subscript e i' b4) X.env]:=by rfl)
 (ha:∀ v,io (.Subscript e i' b4) X.env v=(do
   let ov <- il [v] (eval e X.env)
   let iv <- il [v,ov] (eval i' X.env)
   standAt b4
   il [v,ov,iv] (setItem ov iv v)
   release [v,ov,iv] []):=by intro _;rfl):
  DS c X (.Assign [.Subscript e i' b4] value pos) (lK i fk fv):=El (ul L (xG B z x8 ha) I M q)
abbrev i6(f g:MF1)(U:LS):OLD:=(f U).bind λx=>(g U).bind λy=>match x,y with
 |.lst a,.lst b=>if a.length+b.length<=16777216 then aa (a++b) else ae
 | _,_=>ae
def En{g:MF1}(h:i6 f g U=aa ds):∃a b,f U=aa (.lst a)/\g U=aa (.lst b)/\a.length+b.length<=16777216/\ds=a++b:=by
 unfold i6 at h
 cases q:f U with
 |none=>rw[q]at h;nomatch h
 |some x=>
  cases z:g U with
  |none=>rw[q,z]at h;nomatch h
  |some y=>
   rw[q,z,aJ,aJ]at h;split at h
   .split at h
    .rename_i a b B;cases h;exact⟨a,b,rfl,rfl,B,rfl⟩
    .nomatch h
   .nomatch h
def vd{b:Expr}{g:MF1}(ha:DE c X a f)(hb:DE c X b g):DO c X (.BinOp a .Add b pos) (i6 f g):=PE.imp (um yf ha hb) λσ H Q q_=>by
 obtain⟨Hf0,H0,Hf,U,ds,st,M,k⟩:=q_;obtain⟨xs,ys,I,L,hl,rfl⟩:=En M;refine⟨Hf0,H0,Hf,U,_,st,I,λv b3 H1 B r1=>⟨Hf0,H0,b3,U,_,st.step B,L,λu b0 H2 q r2=>?_⟩⟩;obtain⟨l,vs,T,q1,s1⟩:=r1.up q.f;obtain⟨m,us,em,q2,s2⟩:=r2;subst T em;have x:=B.trans q;exact⟨l,m,vs,us,rfl,rfl,q.s _ _ q1,q.s _ _ q2,by rw[dD,<- s1.length,<- s2.length];exact hl,λp z=>k p _ b0 _ (x.trans (Ext.tmp x.s z)) (x.h.free z) (x.s.free z) bT (s1.append s2)⟩
abbrev wp(F:MF3)(U:LS)(K:Fl->Prop):Prop:=∃o,F U=aa o/\K o
abbrev y4(F:MF3)(K:Fl->Prop):Fl->Prop
 |.nx U=>wp F U K
 |o=>K o
abbrev rl(J:LS->Prop)(K:Fl->Prop):Fl->Prop
 |.nx U=>J U
 |.ct U=>J U
 |.bk U=>K (.nx U)
 |o=>K o
abbrev oH(Q:D->Prop)(o:Fl):Prop:=∃d,yT o=aa d/\Q d
variable{K:Fl->Prop}
def az(h:wp F U (y4 F' K)):wp (ay F F') U K:=by
 obtain⟨o,e,k⟩:=h;unfold wp ay;rw[e]
 cases o with
 |nx ρ'=>exact k
 | _=>exact⟨_,rfl,k⟩
def bD(h:K (.nx U)):wp bz U K:=⟨_,rfl,h⟩
def dH(h:f U=aa d)(k:K (.nx (U.set i (.im d)))):wp (cN i f) U K:=⟨_,DY h,k⟩
def fh{f:MF2}{d:LD}(h:f U=aa d)(k:K (.nx (U.set i (.own d)))):wp (dM i f) U K:=⟨_,D0 h,k⟩
def i7(h:f U=aa d)(k:K (.rt d)):wp (ff f) U K:=⟨_,D1 h,k⟩
def Eo{f:MF2}{d:LD}(h:f U=aa d)(k:K (.rtO d)):wp (oD f) U K:=⟨_,by unfold oD;rw[h];rfl,k⟩
def Ep{o:Fl}(h:F U=aa o)(k:K o):wp F U K:=⟨_,h,k⟩
def bw{t:MF4}(h:t U=aa b)(z:b=ac->wp F U K)(q:b=ak->wp F' U K):wp (bA t F F') U K:=by
 unfold wp bA;rw[h]
 cases b with
 |true=>exact z rfl
 |false=>exact q rfl
def iF(e:u7 i U=ρ')(h:wp F ρ' K):wp (fX i F) U K:=by
 subst e;exact h
def oI(h:f U=aa d)(h':U[i]?=aa (.own xs))(q:xs.length<16777216)(k:K (.nx (U.set i (.own (xs++[d]))))):wp (i5 i f) U K:=⟨_,D9 h h' q,k⟩
def iG(h:f U=aa d)(k:K (.nx U)):wp (c8 f) U K:=⟨_,Ea h,k⟩
def Er{k:Int}(I:fv U=aa d)(B:fk U=aa (.int k))(h':U[i]?=aa (.own xs))(q:0<=k)(z:k<xs.length):lK i fk fv U=aa (.nx (U.set i (.own (xs.set k.toNat d)))):=by
 have e:ixN xs.length k=aa k.toNat:=by
  unfold ixN;rw[if_pos q,if_pos z]
 unfold lK;rw[I,aJ,B,aJ,h'];show(ixN xs.length k).map _=_;rw[e];rfl
def Es{k:Int}(L:fv U=aa d)(I:fk U=aa (.int k))(h':U[i]?=aa (.own xs))(z:0<=k)(B:k<xs.length)(q:K (.nx (U.set i (.own (xs.set k.toNat d))))):wp (lK i fk fv) U K:=⟨_,Er L I h' z B,q⟩
def y6{L:Type}{g:D->LS->Option LS}{F:MF3}{K:Fl->Prop}(f:L->D)(I:List L->LS->Prop):∀(post pre:List L) (U:LS),I pre U ->
  (∀z x B U,pre++post=z++x::B->I z U->∃ρ1,g (f x) U=aa ρ1/\wp F ρ1 (rl (I (z++[x])) K))->(∀ρ',I (pre++post) ρ'->K (.nx ρ'))->wp (hU g F (post.map f)) U K
 | [],pre,U,h,_,hk=>⟨_,rfl,hk U (by rw[cV];exact h)⟩
 |x::post,pre,U,h,hs,hk=>by
  obtain⟨ρ1,M,o,T,k2⟩:=hs pre x post U rfl h;unfold wp;rw[gI];unfold hU;rw[M,aJ,T,aJ]
  have go:=λq h2=>
   y6 f I post (pre++[x]) q h2 (by rw[ik];exact hs) (by rw[ik];exact hk)
  cases o with
  |nx q=>exact go q k2
  |ct q=>exact go q k2
  |bk q=>exact⟨_,rfl,k2⟩
  |rt d=>exact⟨_,rfl,k2⟩
  |rtO d=>exact⟨_,rfl,k2⟩
  |rtS d q=>exact⟨_,rfl,k2⟩
  |rtT o=>exact⟨_,rfl,k2⟩
def fZ{q:Type}{g:D->LS->Option LS}(xs:List q)(f:q->D)(I:List q->LS->Prop)(hi:fi U=aa (xs.map f))(z:I [] U)
 (L:∀pre x post U,xs=pre++x::post->I pre U->∃ρ1,g (f x) U=aa ρ1/\wp F ρ1 (rl (I (pre++[x])) K))(B:∀ρ',I xs ρ'->K (.nx ρ')):wp (fO fi g F) U K:=by
 obtain⟨o,e,k⟩:=y6 f I xs [] U z L B;refine⟨o,?_,k⟩;unfold fO;rw[hi];exact e
variable{Q:D->Prop}
def y7(h:wp F (fg n ds) (oH Q)):∃d,dW n F ds=aa d/\Q d:=by
 obtain⟨o,e,d,z,q⟩:=h;refine⟨d,?_,q⟩
 unfold dW
 rw[e];exact z
def f6{r:D}(h:wp F (fg n ds) (oH λd=>d=r)):dW n F ds=aa r:=by
 obtain⟨d,e,q⟩:=y7 h;rw[e,q]
def jG(h:Q d):oH Q (.rt d):=⟨d,rfl,h⟩
def y8{d:LD}(h:Q (.lst d)):oH Q (.rtO d):=⟨.lst d,rfl,h⟩
def ve{f:MF2}(h:f U=aa ds)(h':m ds=aa d)(q:d.scalar=ac):mR m f U=aa d:=by
 unfold mR;rw[h,aJ,h',aJ,if_pos q]
variable{i:Int}
def ke(h:0<j):iz (.int i) (.int j)=aa (.int (i % j)):=rj h
def vf(h:nY i j):oq (.int i) (.int j)=aa (.int (i / j)):=rj h
def rm(h:n6 i j):lB (.int i) (.int j)=aa (.int (i ^ j.toNat)):=rj h
def gy:ce (.int i) (.int j)=aa (.int (i+j)):=rfl
def iH:gw (.int i) (.int j)=aa (.int (i-j)):=rfl
def oJ:dLt (.int i) (.int j)=aa (.bl (decide (i<j))):=rfl
def vg:dLe (.int i) (.int j)=aa (.bl (decide (i<=j))):=rfl
def kf:dGt (.int i) (.int j)=aa (.bl (decide (j<i))):=rfl
def c9{q:Type}(xs:List q)(f:q->D):bL [.lst (xs.map f)]=aa (.int xs.length):=by
 show aa _=_;rw[aW]
def y9{q:Type}(xs:List q)(f:q->D):bL [.kl (xs.map f)]=aa (.int xs.length):=by
 show aa _=_;rw[aW]
def Et{q:Type}(f:q->D)(xs:List q)(lo hi:Option Int):jB (xs.map f) lo hi=((xs.drop (HT.sIx xs.length 0 lo)).take (HT.sIx xs.length xs.length hi-HT.sIx xs.length 0 lo)).map f:=by
 unfold jB;rw[aW,map_take,map_drop]
variable{lo hi:Option Int}
def rn{q:Type}{l h:LS->Option (Option Int)}{g:q->D}{xs:List q}(e:f U=aa (.lst (xs.map g)))(z:l U=aa lo)(B:h U=aa hi):mSl f l h U=aa (((xs.drop (HT.sIx xs.length 0 lo)).take (HT.sIx xs.length xs.length hi-HT.sIx xs.length 0 lo)).map g):=by
 unfold mSl;rw[e,aJ];show(l U).bind _=_;rw[z,aJ,B,<- Et];rfl
def Eu{q:Type}(g:q->D)(d:q):∀(xs:List q),lJ 0 (xs.map g)=(di xs.length).map λi=>D.tup [.int (i:Nat),g (xs.getD i d)]:=λxs=>by
 refine mi λi=>?_;rw[vb,fm,fm]
 by_cases h:i<xs.length
 .rw[eM h,List.getElem?_range h,Nat.zero_add];simp[h]
 .rw[tQ (by lia),tQ (by rw[eD];lia)];rfl
abbrev kJ(J:LS->Prop)(o:Fl):Prop:=∃ρ',o=.nx ρ'/\J ρ'
def k_J{J:LS->Prop}(h:J U):kJ J (.nx U):=⟨U,rfl,h⟩
def lL{S:MF3}(J:LS->Prop)(h:wp S U (kJ J))(k:∀ρ',J ρ'->wp F ρ' K):wp (ay S F) U K:=by
 apply az;obtain⟨o,e,ρ',rfl,j⟩:=h;exact⟨_,e,k ρ' j⟩
def za{i:Nat}{d:LD}(h:U[i]?=aa (.own d))(k:K (.rtO d)):wp (jE i) U K:=⟨_,by unfold jE;rw[h],k⟩
abbrev D.flat:D->Bool
 |.tup xs=>xs.all D.scalar
 |d=>d.scalar
abbrev mS(Hf H:Hp):Hp:=λa=>match H a with
 |some (.tup vs)=>aa (.tup vs)
 | _=>Hf a
def vh{a:Addr}(h:H a=aa (.tup vs)):mS Hf H a=aa (.tup vs):=by
 unfold mS;rw[h]
def vi{a:Addr}(h:∀vs,H a≠aa (.tup vs)):mS Hf H a=Hf a:=by
 unfold mS;split
 .rename_i vs e;exact absurd e (h vs)
 .rfl
def Ev(s:aG Hf H)(g:aG H H'):Ext Hf H (mS Hf H') H':=by
 refine⟨λb u e=>?_,g,λb u e=>?_,λl o e t=>vi λvs q=>?_⟩
 .have z:=g b u (s b u e)
  cases u with
  |tup vs=>exact vh z
  | _=>
   rw[vi (λvs q=>by rw[z]at q;nomatch q)];exact e
 .by_cases h:∃vs,H' b=aa (.tup vs)
  .obtain⟨vs,h⟩:=h;rw[vh h]at e;rw[h];exact e
  .rw[vi (λvs q=>h ⟨vs,q⟩)]at e;exact g b u (s b u e)
 .rw[g l o e]at q;cases q
  nomatch t
def aC.sc{G:Gc}{H H':Hp}:∀{ds:LD} {vs:List V},ds.all D.scalar=ac->aC G H ds vs->aC G H' ds vs
 | [],_,_,h=>h
 |d::ds,_,hs,q3_=>by
  obtain⟨v,r,e,q,z⟩:=q3_;rw[iR,cx]at hs;exact⟨v,r,e,q.sc hs.1,aC.sc hs.2 z⟩
def Rep.flat(z:d.flat=ac)(r:Rep G H d v):Rep G (mS Hf H) d v:=by
 cases d with
 |tup xs=>
  obtain⟨a,vs,e,h,q⟩:=r
  exact⟨a,vs,e,vh h,q.sc z⟩
 |non=>exact r.sc z
 |bl _=>exact r.sc z
 |int _=>exact r.sc z
 |str _=>exact r.sc z
 |lst _=>nomatch z
 |kl _=>nomatch z
 |kt _=>nomatch z
 |dic _ _=>nomatch z
 |ins _ _ _=>nomatch z
 |kd _ _=>nomatch z
 |dT _ _=>nomatch z
abbrev i8(m:LD->OD)(f:MF2)(U:LS):OD:=(f U).bind λds=>(m ds).bind λd=>if d.flat then aa d else ae
variable{f:Addr}
def rp(pk:Pk X.prog X.w X.K X.mg X.base CX0 k x (f,fd) ps (spD (Gx c X) ps.length m))(T:cG k0 X.A)(ha:DAB c X (e::es) fa)(hl:(e::es).length=ps.length:=by rfl)(I:NDb x:=by decide)(he:StE X e es:=by rfl)(M:BkE X pos es:=by rfl)(L:k<=k0:=by decide)(hg:Gl X x:=by first |rfl |exact glc rfl):
  DE c X (.Call (.Name x p) (e::es) [] pos) (i8 m fa):=PE.imp (jX pk.ok (T.mono L) hg pk.g pk.kp pk.b .nil lx ha.pa I he M) λσ H Q q_=>by
 obtain⟨Hf0,H0,Hf,U,d,st,q,kq⟩:=q_;unfold i8 at q
 cases z:fa U with
 |none=>rw[z]at q;nomatch q
 |some ds=>
  rw[z]at q;replace q:(m ds).bind _=_:=q
  cases B:m ds with
  |none=>rw[B]at q;nomatch q
  |some d'=>
   rw[B]at q;replace q:(if d'.flat=ac then aa d' else ae)=aa d:=q;split at q
   .rename_i hs;cases q;refine⟨Hf0,H0,Hf,U,ds,st,z,λvs Hf' H' x r=>?_⟩;rw[cV];exact⟨H',ds,_,aG.refl _,r,(ha.len U ds z).trans hl,B,λv b0 H2 x2 r2=>kq v _ H2 (x.trans (Ev x.s x2.h)) ((r2.up x2.s).flat hs)⟩
   .nomatch q
abbrev mT(m q:D->D->OD)(f g h:MF1)(U:LS):OD:=(f U).bind λx=>(g U).bind λy=>(m x y).bind λz=>match z with
 |.bl ac=>(h U).bind λw=>q y w
 |.bl ak=>aa (.bl ak)
 | _=>ae
variable{m m':D->D->OD}{f g h:MF1}
def Ew(e:mT m m' f g h U=aa d):∃x y b,f U=aa x/\g U=aa y/\m x y=aa (.bl b)/\(b=ak->d=.bl ak)/\(b=ac->∃w,h U=aa w/\m' y w=aa d):=by
 unfold mT at e
 cases I:f U with
 |none=>rw[I]at e;nomatch e
 |some x=>
  cases L:g U with
  |none=>rw[I,L]at e;nomatch e
  |some y=>
   rw[I,L,aJ,aJ]at e
   cases B:m x y with
   |none=>rw[B]at e;nomatch e
   |some z=>
    rw[B,aJ]at e
    cases z with
    |bl b=>
     cases b with
     |false=>
      exact⟨x,y,ak,rfl,rfl,B,λ_=>(cs e).symm,λq=>by nomatch q⟩
     |true=>
      cases M:h U with
      |none=>rw[M]at e;nomatch e
      |some w=>rw[M]at e;exact⟨x,y,ac,rfl,rfl,B,λq=>(by nomatch q),λ_=>⟨w,rfl,e⟩⟩
    | _=>nomatch e
def Ey{b c':Expr}{B:CmpOp}(ho:OpD c X (du op) m)(hs:∀x y d,m x y=aa d->d.scalar=ac)(ho':OpD c X (du B) m')(hs':∀x y d,m' x y=aa d->d.scalar=ac)(ha:DB c X a f)(hb:DB c X b g)(hc:DB c X c' h)
 (hm:lastMarks [op,B] [b,c']=ak:=by with_unfolding_all rfl):DE c X (.Compare a [op,B] [b,c'] pos) (mT m m' f g h):=PE.imp (CF ho ho' ha hb hc hm) λσ H Q q_=>by
 obtain⟨Hf0,H0,Hf,U,d,st,ef,k⟩:=q_;obtain⟨x,y,b',e1,e2,e3,eF,eT⟩:=Ew ef;refine⟨Hf0,H0,Hf,U,x,st,e1,λv b3 H1 M r1=>⟨Hf0,H0,b3,U,y,st.step M,e2,λu b0 H2 L r2=>⟨H2,x,y,.bl b',aG.refl _,r1.up L.h,r2,e3,λz Hf3 H3 x3 r3=>⟨b',r3,?_⟩⟩⟩⟩;have I:=Ext.grow L.s x3.h
 cases b' with
 |false=>
  exact k _ b0 H3 ((M.trans L).trans I) (by rw[eF rfl];rfl)
 |true=>
  obtain⟨w,e4,e5⟩:=eT rfl;exact⟨Hf0,H0,b0,U,w,((st.step (M.trans L)).step I),e4,λw' T H4 x4 r4=>⟨H4,y,w,d,aG.refl _,r2.up (x3.h.trans x4.h),r4,e5,λq Hf5 H5 x5 r5=>k _ T H5 (((M.trans L).trans I).trans (x4.trans (Ext.grow x4.s x5.h))) (r5.sc (hs' _ _ _ e5))⟩⟩
def Ez{x w:D}{q:Bool}(z:f U=aa x)(B:g U=aa y)(I:m x y=aa (.bl b))(L:h U=aa w)(M:m' y w=aa (.bl q)):mT m m' f g h U=aa (.bl (b && q)):=by
 unfold mT;rw[z,aJ,B,aJ,I,aJ]
 cases b with
 |false=>rfl
 |true=>
  rw[L];exact M
def zb{k:Int}(h:k.natAbs<2 ^ n):qh k<=n:=by
 unfold qh;split
 .exact gl _
 .rename_i q;have:k.natAbs≠0:=λz=>q (by rw[Int.natAbs_eq_zero.mp z];rfl);exact(Nat.log2_lt this).mpr h
abbrev kg(i j:Int):Prop:=n8 i j\/(i.natAbs<2 ^ 200/\j.natAbs<2 ^ 200)
def kg.ok(h:kg i j):IntMulOk i j:=by
 rcases h with h |⟨h1,h2⟩
 .exact h.ok
 .have a:=zb h1;have b:=zb h2;unfold IntMulOk
  have:Builtin.Int.intTooBig (qh i+qh j)=ak:=by
   have c:400<=bitsLine:=by decide
   exact decide_eq_false (by lia)
  rw[this,Bool.and_false];exact cE
noncomputable instance {i j:Int}:Decidable (kg i j):=by unfold kg;infer_instance
@[reducible]noncomputable def i9:D->D->OD:=dI kg λi j=>.int (i*j)
def EA:OpR X (fq .Mult) (rI kg λi j=>.int (i*j)):=opI λ_ _ _ _ _ _ _ z q=>mul_int q z.ok
def mU:OpD c X (fq .Mult) i9:=qK EA λ_ _ _ _=>rfl
def lM(h:kg i j):i9 (.int i) (.int j)=aa (.int (i*j)):=rj h
abbrev dN(H:Hp)(l:Addr):Hp:=λa=>if a=l then ae else H a
def rq:dN H l l=ae:=by unfold dN;rw[if_pos rfl]
def oK{a:Addr}(h:a≠l):dN H l a=H a:=by unfold dN;rw[if_neg h]
def zc:aG (dN H l) H:=λa o e=>by
 by_cases h:a=l
 .subst h;rw[rq]at e;nomatch e
 .rw[oK h]at e;exact e
def vj{F:Hp}(s:aG F H)(h:F l=ae):aG F (dN H l):=λa o e=>by
 rw[oK (g8 e h)];exact s a o e
inductive tDX(G:Gc)(f:LS->Option (D×LS))(σ:St)(H:Hp)(Q:VK):Prop
 |mk:∀Hf0 H0 Hf U d ρ',aB G Hf0 H0 Hf H σ U->f U=aa (d,ρ')->(∀v Hf' H',aG Hf Hf'->aB G Hf0 H0 Hf' H' σ ρ'->Rep G Hf' d v->Q v H')->tDX G f σ H Q
abbrev DX(c:Str->Addr)(X:Cx)(e:Expr)(f:LS->Option (D×LS)):Prop:=PE X e (tDX (Gx c X) f)
inductive rA(G:Gc)(f:LS->Option (LD×LS))(σ:St)(H:Hp)(R:It->Hp->Prop):Prop
 |mk:∀Hf0 H0 Hf U ds ρ',aB G Hf0 H0 Hf H σ U->f U=aa (ds,ρ')->(∀J Hf' H',aG Hf Hf'->aB G Hf0 H0 Hf' H' σ ρ'->lF G Hf' J ds->R J H')->rA G f σ H R
abbrev DXi(c:Str->Addr)(X:Cx)(tg iter:Expr)(f:LS->Option (LD×LS)):Prop:=PI X tg iter (rA (Gx c X) f)
abbrev mV(f:LS->Option (D×LS))(U:LS):Option (LD×LS):=(f U).bind λp=>match p.1 with
 |.lst xs=>aa (xs,p.2)
 | _=>ae
abbrev kh(fi:LS->Option (LD×LS))(g:D->LS->Option LS)(F:MF3)(U:LS):Option Fl:=(fi U).bind λp=>hU g F p.1 p.2
def zd{f:LS->Option (D×LS)}(h:DX c X e f):DXi c X tg e (mV f):=λpins s σ H R I q_=>by
 obtain⟨Hf0,H0,Hf,U,ds,ρ',st,z,k⟩:=q_;unfold mV at z
 cases L:f U with
 |none=>rw[L]at z;nomatch z
 |some p=>
  obtain⟨d,ρ1⟩:=p;rw[L,aJ]at z;split at z
  .rename_i xs hd;cases z;subst hd;refine qu h pins s σ H R I ⟨Hf0,H0,Hf,U,_,_,st,L,λv Hf' H' f1 B r=>?_⟩;obtain⟨a,vs,ea,q,rs⟩:=r;refine⟨a,ea,⟨vs,SqL.of (B.sub _ _ q)⟩,k _ Hf' H' f1 B λb0 H2 f2 s2 i=>?_⟩;have M:SqL X.K H2 a vs:=SqL.of (s2 _ _ (f2 _ _ q));refine⟨λd ed=>?_,λei=>⟨vs,M,by rw[<- rs.length,ei];exact bC _⟩⟩;obtain⟨v,T,rv⟩:=rs.get ed;refine⟨⟨vs,v,M,T⟩,λx H3 ⟨e3,y⟩=>?_⟩;subst e3;have:=y vs M;rw[T]at this;cases this;exact⟨b0,Ext.refl s2,rv.up f2⟩
  .nomatch z
def rB{fi:LS->Option (LD×LS)}{g:D->LS->Option LS}{a:List Stmt}(hp:PassesOwn (model X.prog X.w) X.A X.env X.xe)(hc:X.calm=ac)(hi:DXi c X tg iter fi)(hg:DG c X tg kk g)(hb:DSs c X a F)(hs:∀x,gK iter X.env x=pure x:=by intro _;rfl):
  DS c X (.For tg iter a [] pos) (kh fi g F):=PS.imp (qy hp hc hi hg.pg hb hs) λE σ H q_=>by
 obtain⟨Hf0,H0,Hf,U,o,so,T,k⟩:=q_;unfold kh at T
 cases e1:fi U with
 |none=>rw[e1]at T;nomatch T
 |some pp=>
  obtain⟨ds,ρn⟩:=pp;rw[e1]at T;refine⟨Hf0,H0,Hf,U,ds,ρn,so,e1,λJ b3 H1 f1 so1 it=>?_⟩;refine⟨λi m σ' H'=>m=ds.length-i/\i<=ds.length/\∃Hf' ρ',aB _ Hf0 H0 Hf' H' σ' ρ'/\aG b3 Hf'/\hU g F (ds.drop i) ρ'=aa o,⟨ds.length,rfl,gl _,b3,ρn,so1,aG.refl _,T⟩,?_⟩;rintro i m σ' H' ⟨rfl,hi',Hf',ρ',L,s1,em⟩;obtain⟨ou,it2⟩:=it Hf' H' s1 L.sub i
  by_cases I:i<ds.length
  .obtain⟨d,ed,ky⟩:=j8 I;obtain⟨go,yl⟩:=ou d ed;rw[ky]at em;unfold hU at em;refine .inr ⟨go,λgg H2=>ds.length-_=ds.length-_/\i+1<=ds.length/\∃Hf' ρ',aB _ Hf0 H0 Hf' H2 gg ρ'/\aG b3 Hf'/\hU g F _ ρ'=aa o,λgg H2 w=>⟨ds.length-(i+1),by lia,w⟩,λx H2 y=>?_⟩;obtain⟨b0,x2,rx⟩:=yl x H2 y
   cases eg:g d ρ' with
   |none=>rw[eg]at em;nomatch em
   |some ρ1=>
    rw[eg]at em;replace em:(F ρ1).bind _=_:=em
    cases eF:F ρ1 with
    |none=>rw[eF]at em;nomatch em
    |some o1=>
     rw[eF]at em;refine⟨Hf0,H0,b0,ρ',d,ρ1,L.step x2,rx,eg,λhY so3=>⟨Hf0,H0,b0,ρ1,o1,so3,eF,?_⟩⟩;have sf:=s1.trans x2.f
     cases o1 with
     |nx B=>exact λM q H4 s4 z=>⟨rfl,I,q,B,z,sf.trans s4,em⟩
     |ct B=>exact λM q H4 s4 z=>⟨rfl,I,q,B,z,sf.trans s4,em⟩
     |bk B=>cases em;exact λM q H4 s4 z=>k M q H4 ((f1.trans sf).trans s4) z
     |rt d=>cases em;exact k
     |rtO d=>cases em;exact k
     |rtS d B=>cases em;exact k
     |rtT o'=>cases em;exact k
  .have ei:i=ds.length:=by lia
   subst ei;rw[kZ (bC _)]at em;cases em;exact .inl ⟨it2 rfl,k σ' Hf' H' (f1.trans s1) L⟩
def rC{fi:LS->Option (LD×LS)}{g:D->LS->Option LS}(h:fi U=aa (ds,ρ'))(k:wp (fO (λ_=>aa ds) g F) ρ' K):wp (kh fi g F) U K:=by
 obtain⟨o,e,q⟩:=k;exact⟨o,by unfold kh;rw[h];exact e,q⟩
abbrev oM:LD->OD
 | [.int a,.int b]=>aa (.int (if b<a then b else a))
 | _=>ae
def ze(hc:X.calm=ac):mL c X (.builtin "min") oM:=by
 rintro pins s σ H vs us Q I rv ⟨Hf,ds,d,s0,r,e,k⟩;unfold oM at e;split at e
 .rename_i a b;cases e;obtain⟨v1,vs1,rfl,L,v2,vs2,rfl,M,T⟩:=r;cases (T);cases (L);cases (M)
  cases rv with
  |cons r1 B=>
   cases B with
   |cons r2 B=>
    cases B;obtain⟨t,rfl⟩:=r1;obtain⟨u,rfl⟩:=r2;refine PySem.min_two_ints (I.ok.hd hc) λh' tk z=>?_;refine⟨.int _,H,I.kept z,?_,k _ Hf H (Ext.refl s0) rfl⟩
    by_cases q:b<a
    .rw[if_pos q,if_pos q];exact⟨u,rfl⟩
    .rw[if_neg q,if_neg q];exact⟨t,rfl⟩
 .nomatch e
abbrev spM(G:Gc)(M n:Nat)(m:Addr->LD->LD->LD->Option (LD×D)):Sp:=λvs H Q _=>∃Hf q z xs ys d l us I L,vs=I++.ref l::L/\aG Hf H/\Hf l=ae/\H l=aa (.lst us)/\aC G Hf q I/\aC G Hf z L/\aC G Hf xs us/\q.length=M/\q.length+1+z.length=n/\m l q z xs=aa (ys,d) /\
 ∀v Hf' H' B,Ext Hf (dN H l) Hf' H'->Hf' l=ae->H' l=aa (.lst B)->aC G Hf' ys B->Rep G Hf' d v->Q v H'
abbrev vk(N:Nat)(l:Addr)(q z xs:LD):LS:=(fg N (q++.non::z)).set q.length (.pin l xs)
open Classical in
abbrev iI(l:Addr)(i:Nat)(U:LS):OLD:=match U[i]? with
 |some (.pin l' ys)=>if l'=l then aa ys else ae
 | _=>ae
variable{i:Nat}
def zf(h:iI l i U=aa ys):U[i]?=aa (.pin l ys):=by
 unfold iI at h;split at h
 .rename_i z B e;split at h
  .rename_i q;cases h;rw[e,q]
  .nomatch h
 .nomatch h
abbrev dX(N:Nat)(F:MF3)(l:Addr)(q z xs:LD):Option (LD×D):=(F (vk N l q z xs)).bind λo=>match o with
 |.nx U=>(iI l q.length U).map λys=>(ys,.non)
 |.rtS d U=>(iI l q.length U).map λys=>(ys,d)
 | _=>ae
variable{vs0 vs1:List V}
def EB:(L2.start N (vs0++.non::vs1)).set vs0.length (aa (.ref l))=L2.start N (vs0++.ref l::vs1):=by
 unfold L2.start;simp[set_append]
variable{hB ds1:LD}
def aB.startM(B:aG Hf H)(q:Hf l=ae)(I:H l=aa (.lst us))(z:aC G Hf hB vs0)(L:aC G Hf ds1 vs1)(M:aC G Hf xs us):
  aB G Hf (dN H l) Hf H (L2.start N (vs0++.ref l::vs1)) (vk N.length l hB ds1 xs):=by
 have:=(aB.start (N:=N) (vj B q) (z.append (.cons (d:=.non) rfl L))).setOwn (i:=hB.length) (s:=.pin l xs) rfl (Ext.grow (vj B q) zc) rq q ⟨rfl,us,I,M⟩;rw[z.length,EB,<- z.length]at this;exact this
variable{K:bu}
def fD{f:Addr}{n0:Nat}(Fn:Fun K x qual st f fd)(S:bZ N ps (bq st))
 (h:∀(cdv:Value) (A:dE) (outer:List Env) (s:aM) (H:Hp) (E:XK),cG k (A.deeper (gm qual (bq st) s.heap.objs.size f cdv))->DSs c (gQ CX0 P w K mg base N qual (bq st) f cdv A outer s H E).nox (ir st) F)(hn_:N.length=n_:=by rfl):
  e8 P w K mg base CX0 (k+1) f fd ps (spM ⟨K,c⟩ n0 ps.length (dX n_ F)):=by
 subst hn_;refine Fn.ok S (λvs H Q E q_=>by obtain⟨Hf,hB,ds1,xs,ys,d,l,us,vs0,vs1,ev,s0,hf,hu,r0,r1,rx,hn,hl,_⟩:=q_;rw[ev,bh,b9,<- r0.length,<- r1.length];lia) λcdv A outer s H vs Q E hr q_=>?_;obtain⟨Hf,hB,ds1,xs,ys,d,l,us,vs0,vs1,ev,s0,hf,hu,r0,r1,rx,hn,hl,e,kq⟩:=q_;refine⟨_,h cdv A outer s H E hr,?_⟩;subst ev;unfold dX at e
 cases eF:F _ with
 |none=>rw[eF]at e;nomatch e
 |some o=>
  rw[eF,aJ]at e;refine⟨Hf,dN H l,Hf,_,o,aB.startM s0 hf hu r0 r1 rx,eF,?_⟩
  cases o with
  |nx U=>
   replace e:(iI l hB.length U).map _=aa _:=e
   cases q:iI l hB.length U with
   |none=>rw[q]at e;nomatch e
   |some zs=>
    rw[q]at e;cases e;intro σ' Hf' H' _ M;obtain⟨l',e1,h0,z,T,L,B,I⟩:=M.ownAt rfl (zf q);subst T
    exact kq .non Hf' H' L M.ext z B I rfl
  |rtS d' U=>
   replace e:(iI l hB.length U).map _=aa _:=e
   cases q:iI l hB.length U with
   |none=>rw[q]at e;nomatch e
   |some zs=>
    rw[q]at e;cases e;intro v σ' Hf' H' M r;obtain⟨l',e1,h0,z,T,L,B,I⟩:=M.ownAt rfl (zf q);subst T
    exact kq v Hf' H' L M.ext z B I r
  | _=>nomatch e
variable{s:Sl}
def aB.giveS(I:s.isOwn=ac)(h:aB G Hf0 H0 Hf H σ U)(e:U[i]?=aa s)(z:σ[i]?=aa (aa (.ref l))):aB G Hf0 H0 Hf (dN H l) σ (U.set i .no):=by
 refine h.chg e z (λb u B=>?_) trivial λa p=>(p.calm rfl).elim
 by_cases q:b=l
 .subst q;exact .inl ((Holds.own I).mpr rfl)
 .exact .inr (by rw[oK q];exact B)
def aB.back(T:s.isOwn=ac)(z:s'.isOwn=ac)(h:aB G Hf0 H0 Hf H σ U)(e:U[i]?=aa s)(q:σ[i]?=aa (aa (.ref l)))(x:Ext Hf (dN H l) Hf' H')(L:Hf' l=ae)(M:g9 G Hf' H' l s'):aB G Hf0 H0 Hf' H' σ (U.set i s'):=by
 have:=(h.giveS T e q).setOwn (i:=i) z x rq L M;rw[set_set]at this
 have I:σ.set i (aa (.ref l))=σ:=by
  apply mi;intro j
  by_cases B:i=j
  .subst B;rw[fH (dh.mp q).1,q]
  .rw[eN B]
 rw[I]at this;exact this
open Classical in
abbrev rE(i:Nat)(U:LS):OLD:=match U[i]? with
 |some (.pin _ xs)=>aa xs
 | _=>ae
def zg(i:Nat)(L:X.N[i]?=aa x:=by rfl)(M:Vis X.env.scope x:=by first |exact bS rfl |exact bp (bS rfl) |exact bp (bp rfl))(hd:NDb x:=by decide)
 (B:NCd x:=by decide):DC c X (.Name x pos) (rE i):=PE.imp (iW L M hd B) λσ H Q q_=>by
 obtain⟨Hf0,H0,Hf,U,d,st,z,k⟩:=q_;unfold rE at z;split at z
 .rename_i l xs es;cases z;obtain⟨T,I,_,_,_,vs,q,r⟩:=st.ownAt rfl es;exact⟨_,I,k T vs Hf H (Ext.refl st.sub) (.inl (SqL.of q)) r⟩
 .nomatch z
def cB{K:Fl->Prop}(h:f U=aa d)(k:K (.rtS d U)):wp (cg f) U K:=⟨_,by unfold cg;rw[h];rfl,k⟩
def EC(h:U[i]?=aa (.pin l ys)):iI l i U=aa ys:=by
 unfold iI;rw[h];exact if_pos rfl
def fE{N:Nat}(h:F (vk N l hB ds1 xs)=aa (.rtS d U))(h':U[hB.length]?=aa (.pin l ys)):dX N F l hB ds1 xs=aa (ys,d):=by
 unfold dX;rw[h,aJ];show(iI l hB.length U).map _=_;rw[EC h'];rfl
abbrev Fre(B Hf:Hp)(fp:LAd):Prop:=fp.Nodup/\∀a∈fp,B a=ae/\Hf a=ae
variable{B:Hp}
def Fre.nil:Fre B Hf []:=⟨.nil,λ_ h=>nomatch h⟩
def Fre.one(h:B l=ae)(h':Hf l=ae):Fre B Hf [l]:=⟨gj.mpr ⟨bJ,g7⟩,λa ha=>by rw[aU.mp ha];exact⟨h,h'⟩⟩
def Fre.imp{q:Hp}(h:Fre B Hf fp)(k:∀a,B a=ae->q a=ae):Fre q Hf fp:=⟨h.1,λa ha=>⟨k a (h.2 a ha).1,(h.2 a ha).2⟩⟩
abbrev bsH(b:Bool)(H0 H:Hp):Hp:=bif b then H else H0
variable{a:Addr}
def ED(s:aG H H')(h:bsH b H0 H' a=ae):bsH b H0 H a=ae:=by
 cases b with
 |true=>exact s.free h
 |false=>exact h
def zh(s:aG H0 H)(h:H a=ae):bsH b H0 H a=ae:=by
 cases b with
 |true=>exact h
 |false=>exact s.free h
inductive tDZ(G:Gc)(b:Bool)(f:LS->Option O)(σ:St)(H:Hp)(Q:VK):Prop
 |mk:∀Hf0 H0 Hf U o,aB G Hf0 H0 Hf H σ U->f U=aa o->(∀u fp Hf' H',Ext Hf H Hf' H'->OT G Hf' H' o u fp->Fre (bsH b H0 H) Hf' fp->Q u H')->tDZ G b f σ H Q
abbrev DZ(c:Str->Addr)(X:Cx)(b:Bool)(e:Expr)(f:LS->Option O):Prop:=PE X e (tDZ (Gx c X) b f)
inductive zi(G:Gc)(b:Bool)(f:MF2)(g:LS->Option O)(σ:St)(H:Hp)(Q:List V->Hp->Prop):Prop
 |mk:∀Hf0 H0 Hf U ds o,aB G Hf0 H0 Hf H σ U->f U=aa ds->g U=aa o->(∀vs u fp Hf' H',Ext Hf H Hf' H'->aC G Hf' ds vs->OT G Hf' H' o u fp->Fre (bsH b H0 H) Hf' fp->Q (vs++[u]) H')->zi G b f g σ H Q
structure DAZ(c:Str->Addr)(X:Cx)(b:Bool)(es:LEx)(f:MF2)(g:LS->Option O):Prop where
 pa:PA X es (zi (Gx c X) b f g)
 len:∀U ds,f U=aa ds->ds.length+1=es.length
abbrev rF(f:MF1)(U:LS):Option O:=(f U).map .fz
abbrev lN(f:MF2)(U:LS):Option O:=(f U).map λds=>.lst (ds.map .fz)
abbrev rG(i:Nat)(U:LS):Option O:=match U[i]? with
 |some (.im d)=>aa (.fz d)
 |some (.own xs)=>aa (.lst (xs.map .fz))
 |some (.deep o)=>aa o
 | _=>ae
abbrev mW(f:MF2)(g:LS->Option O)(U:LS):Option O:=(f U).bind λds=>(g U).map λo=>.tup (ds.map .fz++[o])
def OTs.snoc{G:Gc}{Hf H:Hp}{o:O}{u:V}{fp:LAd}(h:OT G Hf H o u fp):∀{ds:LD} {vs:List V},aC G Hf ds vs->OTs G Hf H (ds.map .fz++[o]) (vs++[u]) fp
 | [],_,r=>by cases (r);exact⟨u,[],fp,[],rfl,h,⟨rfl,rfl⟩,(cV _).symm⟩
 |d::ds,_,⟨v,r,e,h1,h2⟩=>by subst e;exact⟨v,r++[u],[],fp,rfl,⟨h1,rfl⟩,OTs.snoc h h2,rfl⟩
def EE(h:DE c X e f):DZ c X b e (rF f):=PE.imp h λσ H Q I=>by
 obtain⟨Hf0,H0,Hf,U,t,st,q,k⟩:=I;unfold rF at q
 cases z:f U with
 |none=>rw[z]at q;nomatch q
 |some d=>
  rw[z]at q;cases q;exact⟨Hf0,H0,Hf,U,d,st,z,λv Hf' H' x r=>k v [] Hf' H' x ⟨r,rfl⟩ .nil⟩
def rH{f:MF2}(h:DO c X e f):DZ c X b e (lN f):=PE.imp h λσ H Q M=>by
 obtain⟨Hf0,H0,Hf,U,t,st,q,k⟩:=M;unfold lN at q
 cases z:f U with
 |none=>rw[z]at q;nomatch q
 |some ds=>
  rw[z]at q;cases q;exact⟨Hf0,H0,Hf,U,ds,st,z,λl vs Hf' H' x hn I L r=>k _ [l] Hf' H' x ⟨l,vs,[],rfl,L,OTs.fz r,rfl⟩ (.one (zh st.ext.h hn) I)⟩
def EF(h:PE X e (dL i)):DZ c X ak e (rG i):=PE.imp h λσ H Q q_=>by
 obtain⟨Hf0,H0,Hf,U,t,st,I,k⟩:=q_;unfold rG at I
 cases es:U[i]? with
 |none=>rw[es]at I;nomatch I
 |some s=>
  rw[es]at I
  cases s with
  |im d=>
   cases I;obtain⟨v,L,r⟩:=st.imm es
   exact⟨_,L,k v [] Hf H (Ext.refl st.sub) ⟨r,rfl⟩ .nil⟩
  |own xs=>
   cases I;obtain⟨l,L,T,hf,vs,q,r⟩:=st.ownAt rfl es
   exact⟨_,L,k _ [l] Hf H (Ext.refl st.sub) ⟨l,vs,[],rfl,q,OTs.fz r,rfl⟩ (.one T hf)⟩
  |deep o=>
   cases I;obtain⟨v,L,u,fp,M,r,n,z⟩:=st.slot es;subst M
   exact⟨_,L,k u fp Hf H (Ext.refl st.sub) r ⟨n,z⟩⟩
  | _=>nomatch I
def EG(i:Nat)(z:X.N[i]?=aa x:=by rfl)(I:Vis X.env.scope x:=by first |exact bS rfl |exact bp (bS rfl) |exact bp (bp rfl))(hd:NDb x:=by decide)
 (q:NCd x:=by decide):DZ c X ak (.Name x pos) (rG i):=EF (iW z I hd q)
variable{g:LS->Option O}
def zj(h:DZ c X b e g)(L:aX [e] X.env=[(ak,eval e X.env)]:=by rfl):DAZ c X b [e] nZ g:=
 ⟨PA.imp (cj h dg L) λσ H Q M=>by
  obtain⟨Hf0,H0,Hf,U,ds,o,st,q,I,k⟩:=M;cases q;exact⟨Hf0,H0,Hf,U,o,st,I,λu fp Hf' H' x r z=>k [] u fp Hf' H' x rfl r z⟩,λU ds h=>by cases h;rfl⟩
def zk{fs:MF2}(h:DE c X e f)(M:DAZ c X b es fs g)(hs:StE X e es:=by rfl):DAZ c X b (e::es) (af f fs) g:=by
 refine⟨PA.imp (cj h M.pa hs) λσ H Q q_=>?_,λU ds h=>?_⟩
 .obtain⟨Hf0,H0,Hf,U,ds,o,st,ef,eg,k⟩:=q_;obtain⟨d,r,L,q,rfl⟩:=mI ef;exact⟨Hf0,H0,Hf,U,d,st,L,λv b3 H1 I r1=>⟨Hf0,H0,b3,U,r,o,st.step I,q,eg,λvs u fp b0 H2 T r2 r3 z=>k _ u fp b0 H2 (I.trans T) (.cons (r1.up T.f) r2) r3 (z.imp λa ha=>ED I.h ha)⟩⟩
 .obtain⟨d,r,L,q,rfl⟩:=mI h;simp[<- M.len U r q]
def zl{f:MF2}(h:DAZ c X b es f g)(T:es.length<=1000:=by exact k8 rfl):DZ c X b (.Tuple es k' pos) (mW f g):=PE.imp (qA h.pa) λσ H Q q_=>by
 obtain⟨Hf0,H0,Hf,U,t,st,q,k⟩:=q_;unfold mW at q
 cases I:f U with
 |none=>rw[I]at q;nomatch q
 |some ds=>
  rw[I,aJ]at q
  cases L:g U with
  |none=>rw[L]at q;nomatch q
  |some o=>
   rw[L]at q;cases q;refine⟨Hf0,H0,Hf,U,ds,o,st,I,L,λvs u fp Hf' H' x r ro z=>⟨?_,λp M=>(k _ fp Hf' _ (x.trans (Ext.tmp x.s M)) ⟨p,_,rfl,bT,OTs.snoc (ro.up (aG.refl _) (cM M)) r⟩ z)⟩⟩;rw[bh,<- r.length,fS,h.len U ds I];exact iS (ly T)
variable{o:Expr}
abbrev zB(f:LS->Option O)(U:LS):OD:=(f U).bind λo=>if o.kn then aa o.toD else ae
def DZ.db{f:LS->Option O}(h:DZ c X ac e f):DB c X e (zB f):=PE.imp h λσ H Q L=>by
 obtain⟨Hf0,H0,Hf,U,d,st,q,k⟩:=L;unfold zB at q
 cases z:f U with
 |none=>rw[z]at q;nomatch q
 |some o=>
  rw[z,aJ]at q;split at q
  .rename_i I;cases q;exact⟨Hf0,H0,Hf,U,o,st,z,λu fp Hf' H' x r _=>k u Hf' H' x (r.rep x.s I)⟩
  .nomatch q
abbrev zm:Fl->Option O
 |.rt d=>aa (.fz d)
 |.rtO ds=>aa (.lst (ds.map .fz))
 |.rtT o=>aa o
 | _=>ae
abbrev vm(n:Nat)(F:MF3)(ds:LD):Option O:=(F (fg n ds)).bind zm
abbrev spT(G:Gc)(n:Nat)(m:LD->Option O):Sp:=λvs H Q _=>∃Hf ds o,aG Hf H/\aC G Hf ds vs/\ds.length=n/\m ds=aa o/\∀u fp Hf' H',Ext Hf H Hf' H'->OT G Hf' H' o u fp->Fre H Hf' fp->Q u H'
def EH{f:Addr}(Fn:Fun K x qual st f fd)(S:bZ N ps (bq st))
 (h:∀(cdv:Value) (A:dE) (outer:List Env) (s:aM) (H:Hp) (E:XK),cG k (A.deeper (gm qual (bq st) s.heap.objs.size f cdv))->DSs c (gQ CX0 P w K mg base N qual (bq st) f cdv A outer s H E).nox (ir st) F)(L:N.length=n_:=by rfl):
  e8 P w K mg base CX0 (k+1) f fd ps (spT ⟨K,c⟩ ps.length (vm n_ F)):=by
 subst L;refine Fn.ok S (λvs H Q E T=>by obtain⟨Hf,ds,d,s0,r,q,_⟩:=T;rw[<- r.length];exact q) λcdv A outer s H vs Q E hr T=>?_;obtain⟨Hf,ds,t,s0,r,q,e,M⟩:=T;refine⟨_,h cdv A outer s H E hr,?_⟩;unfold vm at e
 cases I:F _ with
 |none=>rw[I]at e;nomatch e
 |some o=>
  rw[I]at e;refine⟨Hf,H,Hf,_,o,aB.start s0 r,I,?_⟩
  cases o with
  |rt d=>cases e;exact λv Hf' H' x r=>M v [] Hf' H' x ⟨r,rfl⟩ .nil
  |rtO rs=>cases e;exact λl vs Hf' H' x hn hf q r=>M _ [l] Hf' H' x ⟨l,vs,[],rfl,q,OTs.fz r,rfl⟩ (.one hn hf)
  |rtT o=>cases e;exact λu fp Hf' H' x r n z=>M u fp Hf' H' x r ⟨n,z⟩
  | _=>nomatch e
mutual
noncomputable def O.flat:O->Bool
 |.fz d=>d.flat
 |.lst os=>O.flats os
 |.tup os=>O.flats os
 |.dic _ os=>O.flats os
 |.ins _ _ os=>O.flats os
 |.dT _ os=>O.flats os
 |.at _ o=>o.flat
 |.jnk _=>ac
 |.any=>ac
noncomputable def O.flats:List O->Bool
 | []=>ac
 |o::os=>o.flat && O.flats os
end
abbrev lO(m:LD->Option O)(f:MF2)(U:LS):Option O:=(f U).bind m
variable{f:Addr}
def zn{m:LD->Option O}(pk:Pk X.prog X.w X.K X.mg X.base CX0 k x (f,fd) ps (spT (Gx c X) ps.length m))(hr0:cG k0 X.A)(ha:DA c X (e::es) fa)(hl:(e::es).length=ps.length:=by rfl)(L:NDb x:=by decide)(he:StE X e es:=by rfl)(T:BkE X pos es:=by rfl)(M:k<=k0:=by decide)(hg:Gl X x:=by first |rfl |exact glc rfl):
  DZ c X b (.Call (.Name x p) (e::es) [] pos) (lO m fa):=PE.imp (jX pk.ok (hr0.mono M) hg pk.g pk.kp pk.b .nil lx ha.pa L he T) λσ H Q q_=>by
 obtain⟨Hf0,H0,Hf,U,o,st,q,kq⟩:=q_;unfold lO at q
 cases I:fa U with
 |none=>rw[I]at q;nomatch q
 |some ds=>
  rw[I,aJ]at q;refine⟨Hf0,H0,Hf,U,ds,st,I,λvs Hf' H' x r=>?_⟩;rw[cV];exact⟨Hf',ds,o,x.s,r,(ha.len U ds I).trans hl,q,λu fp b0 H2 x2 r2 z=>kq u fp b0 H2 (x.trans x2) r2 (z.imp λa h=>zh st.ext.h (x.h.free h))⟩
abbrev lP(i:Nat)(f:LS->Option O)(U:LS):Option Fl:=(f U).map λo=>.nx (U.set i (.deep o))
variable{f:LS->Option O}
def vn(i:Nat)(T:X.N.Nodup)(he:DZ c X ac e f)(hi:X.N[i]?=aa x:=by rfl)(hx:Loc X.env.scope x:=by first |exact bS rfl |exact bp rfl)(hs:fJ e (aa (.Name x b4)) pos.line X.env=pure ak:=by rfl)(hf:LcF X x:=by first |exact .inl rfl |exact .inr rfl):
  DS c X (.Assign [.Name x b4] e pos) (lP i f):=PS.imp (lu T hi hx he hs hf) λE σ H q_=>by
 obtain⟨Hf0,H0,Hf,U,o,M,q,k⟩:=q_;unfold lP at q
 cases I:f U with
 |none=>rw[I]at q;nomatch q
 |some t=>
  rw[I]at q;cases q;refine⟨Hf0,H0,Hf,U,t,M,I,λu fp Hf' H' x r z=>k _ Hf' H' x.f (M.setNew x ⟨u,fp,rfl,r,z.1,λa ha=>⟨M.ext.h.free (z.2 a ha).1,(z.2 a ha).2⟩⟩ λa p=>?_)⟩;obtain⟨L,r',ha⟩:=p;have:=OT.funM t u fp L r r';subst this;exact(z.2 a ha).1
abbrev oN(f:LS->Option O)(U:LS):Option Fl:=(f U).map .rtT
def EI(M:DZ c X ak e f):DS c X (.Return (aa e) pos) (oN f):=PS.imp (mw M) λE σ H T=>by
 obtain⟨Hf0,H0,Hf,U,o,L,q,k⟩:=T;unfold oN at q
 cases I:f U with
 |none=>rw[I]at q;nomatch q
 |some t=>
  rw[I]at q;cases q;exact⟨Hf0,H0,Hf,U,t,L,I,λu fp Hf' H' x r z=>k u fp Hf' H' (L.ext.trans x) r z.1 z.2⟩
variable{o:O}{K:Fl->Prop}
def zo(h:f U=aa o)(k:K (.nx (U.set i (.deep o)))):wp (lP i f) U K:=⟨_,by unfold lP;rw[h];rfl,k⟩
def EJ(h:f U=aa o)(k:K (.rtT o)):wp (oN f) U K:=⟨_,by unfold oN;rw[h];rfl,k⟩
def OTs.length{G:Gc}{Hf H:Hp}:∀{os:List O} {vs:List V} {fp:LAd},OTs G Hf H os vs fp->os.length=vs.length
 | [],_,_,h=>by rw[h.1];rfl
 |o::os,_,_,⟨v,r,f1,f2,e,h1,h2,ef⟩=>by subst e;simp[OTs.length h2]
def OTs.append{G:Gc}{Hf H:Hp}:∀{os ps:List O} {vs us:List V} {f g:LAd},OTs G Hf H os vs f->OTs G Hf H ps us g->OTs G Hf H (os++ps) (vs++us) (f++g)
 | [],_,_,_,_,_,h,t=>by obtain⟨a,b⟩:=h;subst a b;exact t
 |o::os,_,_,_,_,_,⟨v,r,f1,f2,e,h1,h2,ef⟩,t=>by subst e ef;exact⟨v,r++_,f1,f2++_,rfl,h1,OTs.append h2 t,ik _ _ _⟩
def OTs.one{f:LAd}(h:OT G Hf H o v f):OTs G Hf H [o] [v] f:=⟨v,[],f,[],rfl,h,⟨rfl,rfl⟩,(cV _).symm⟩
def Fre.step{fs:LAd}(z:Fre B Hf fs)(m:∀a∈fs,∃u,H a=aa u/\fW u=ak)(x:Ext Hf H Hf' H'):Fre B Hf' fs:=⟨z.1,λa ha=>⟨(z.2 a ha).1,by
 obtain⟨u,I,q⟩:=m a ha;rw[x.n a u I q];exact(z.2 a ha).2⟩⟩
abbrev ki(i:Nat)(f:LS->Option O)(U:LS):Option Fl:=(f U).bind λo=>match U[i]? with
 |some (.deep (.lst os))=>if os.length<16777216 then aa (.nx (U.set i (.deep (.lst (os++[o]))))) else ae
 | _=>ae
def vo(h:PS X st (lr (tBM X.K "list" oj (dL i) (mz (tDZ (Gx c X) ac f) my)))):DS c X st (ki i f):=PS.imp h λE σ H q_=>by
 obtain⟨Hf0,H0,Hf,U,o,so,L,k⟩:=q_;unfold ki at L
 cases e1:f U with
 |none=>rw[e1]at L;nomatch L
 |some t=>
  rw[e1,aJ]at L;split at L
  .rename_i os es;split at L
   .rename_i hl;cases L;obtain⟨v,e2,u,fp,e3,r,n,z⟩:=so.slot es;subst e3;obtain⟨l,vs,fs,el,q,rs,efp⟩:=id r;subst el efp;refine⟨_,e2,.inl ⟨rfl,_,SqL.of q⟩,Hf0,H0,Hf,U,t,so,e1,λw M Hf' H' x r' y=>?_⟩;have y:Fre H Hf' M:=y;have q':=x.h _ _ q
    have lg:l∉M:=λhg=>by
     have:=(y.2 l hg).1;rw[q]at this
     nomatch this
    have lf:=(gj.mp n).1;have mem:=OTs.memM os vs fs rs
    have dis:∀a∈fs,a∈M->False:=λa ha hg=>by
     obtain⟨u,hu,_⟩:=mem a ha;rw[(y.2 a hg).1]at hu
     nomatch hu
    have o1:OTs _ Hf' (upd H' l (.lst (vs++[w]))) os vs fs:=OTs.frameM x.f os vs fs rs λb u I hm=>by
     rw[bH]
     .exact x.h b u I
     .intro e;subst e;rw[q]at I;cases I
      rcases hm with hm |hm
      .nomatch hm
      .exact lf hm
    have o2:OT _ Hf' (upd H' l (.lst (vs++[w]))) t w M:=r'.frame (aG.refl _) λb u I hm=>by
     rw[bH]
     .exact I
     .intro e;subst e;rw[q']at I;cases I
      rcases hm with hm |hm
      .nomatch hm
      .exact lg hm
    have zz:=Fre.step ⟨n,z⟩ (λa ha=>by
     rcases bG.mp ha with e |e
     .subst e;exact⟨_,q,rfl⟩
     .exact mem a e) x
    refine⟨l,vs,w,rfl,rfl,q',by rw[dD,<- rs.length];exact hl,k σ Hf' _ x.f (so.chgX x es e2 (λb u I=>?_) ⟨.ref l,l::_,rfl,⟨l,vs++[w],fs++M,rfl,bT,o1.append (.one o2),rfl⟩,?_,?_⟩ λa p=>?_)⟩
    .by_cases T:b=l
     .subst T;exact .inl ⟨_,r,bP⟩
     .exact .inr (by rw[bH T];exact I)
    .refine gj.mpr ⟨λhm=>(bV.mp hm).elim lf lg,mj.mpr ⟨(gj.mp n).2,y.1,λa ha b I e=>by subst e;exact dis a ha I⟩⟩
    .intro a ha
     rcases bG.mp ha with e |e
     .subst e;exact zz.2 a bP
     .rcases bV.mp e with e |e
      .exact zz.2 a (cF _ e)
      .exact⟨so.ext.h.free (y.2 a e).1,(y.2 a e).2⟩
    .obtain⟨fp',r2,ha⟩:=p;obtain⟨l2,vs2,fs2,el2,q2,rs2,ef2⟩:=r2;cases el2;rw[bT]at q2;cases q2;have:=OTs.funM _ _ _ _ (o1.append (.one o2)) rs2;subst ef2;subst this
     rcases bG.mp ha with e |e
     .subst e;exact .inl ⟨_,r,bP⟩
     .rcases bV.mp e with e |e
      .exact .inl ⟨_,r,cF _ e⟩
      .exact .inr (y.2 a e).1
   .nomatch L
  .nomatch L
variable{os:List O}
def zp(h:f U=aa o)(h':U[i]?=aa (.deep (.lst os)))(q:os.length<16777216)(k:K (.nx (U.set i (.deep (.lst (os++[o])))))):wp (ki i f) U K:=⟨_,by unfold ki;rw[h,aJ,h'];exact if_pos q,k⟩
abbrev O.appd(o:O)(d:D):Option O:=match o with
 |.lst xs=>if xs.length<16777216 then aa (.lst (xs++[.fz d])) else ae
 |.jnk n=>if n<16777216 then aa (.jnk (n+1)) else ae
 | _=>ae
variable{o':O}
def EK{fk:LAd}(h:o.appd d=aa o')(r:OT G Hf H o v fk):∃l us,v=.ref l/\H l=aa (.lst us)/\us.length<16777216/\l∈fk /\
  ∀Hf' H' w,fk.Nodup->aG Hf Hf'->(∀b u,b≠l->H b=aa u->H' b=aa u)->H' l=aa (.lst (us++[w]))->Rep G Hf' d w->OT G Hf' H' o' v fk:=by
 cases o with
 |lst xs=>
  replace h:(if xs.length<16777216 then aa _ else ae)=aa o':=h;split at h
  .rename_i hl;cases h;obtain⟨l,us,fs,e,q,rs,L⟩:=r;subst e L;refine⟨l,us,rfl,q,by rw[<- rs.length];exact hl,bP,λHf' H' w n f k2 T I=>?_⟩
   have o1:=OTs.frameM f xs us fs rs λb u M hm=>k2 b u (λz=>by
    subst z;rw[q]at M;cases M
    rcases hm with hm |hm
    .nomatch hm
    .exact(gj.mp n).1 hm) M
   have o2:=o1.append (.one (o:=.fz d) ⟨I,rfl⟩);rw[cV]at o2;exact⟨l,us++[w],fs,rfl,T,o2,rfl⟩
  .nomatch h
 |jnk n=>
  replace h:(if n<16777216 then aa _ else ae)=aa o':=h;split at h
  .rename_i hl;cases h;obtain⟨l,us,e,q,z,L⟩:=r;subst e L;exact⟨l,us,rfl,q,by lia,bP,λHf' H' w _ f k2 T I=>⟨l,us++[w],rfl,T,by rw[bh,fS];lia,rfl⟩⟩
  .nomatch h
 | _=>nomatch h
def eR.gone(q:eR G H0 Hf H (aa v) s)(p:Holds G Hf H s v a):H0 a=ae/\Hf a=ae:=by
 cases M:s.isOwn with
 |true=>
  obtain⟨l,I,T,hf,_⟩:=q.own M;cases I;cases ((Holds.own M).mp p)
  exact⟨T,hf⟩
 |false=>
  cases s with
  |deep o=>
   obtain⟨u,fp,I,r,n,z⟩:=q;cases I;obtain⟨L,r',ha⟩:=p;have:=OT.funM o v fp L r r';subst this
   exact z a ha
  | _=>first |exact jS p.1 |nomatch M
abbrev kj(G:Gc)(Hf H:Hp)(σ:St)(U:LS)(a:Addr):Prop:=∀(k:Nat) (t:Sl) (w:V),U[k]?=aa t->σ[k]?=aa (aa w)->Holds G Hf H t w a->False
abbrev prom(H0 H:Hp)(S:LAd):Hp:=λa=>if a∈S then H a else match H a with
 |some (.tup vs)=>aa (.tup vs)
 | _=>H0 a
variable{S:LAd}
def EL(h:a∈S):prom H0 H S a=H a:=by unfold prom;rw[if_pos h]
def vp(h:H a=aa (.tup vs)):prom H0 H S a=aa (.tup vs):=by
 unfold prom;split
 .exact h
 .rw[h]
def vq(h:a∉S)(h':∀vs,H a≠aa (.tup vs)):prom H0 H S a=H0 a:=by
 unfold prom;rw[if_neg h];split
 .rename_i vs e;exact absurd e (h' vs)
 .rfl
def EM(s:aG H0 H)(S:LAd):aG (prom H0 H S) H:=λa o e=>by
 unfold prom at e;split at e
 .exact e
 .split at e
  .rename_i vs h;rw[h];exact e
  .exact s a o e
def EN(s:aG H0 H)(S:LAd):aG H0 (prom H0 H S):=λa o e=>by
 have q:=s a o e;unfold prom;split
 .exact q
 .split
  .rename_i vs h;rw[h]at q;exact q
  .exact e
def Ext.less(x:Ext Hf0 kv Hf' H')(s:aG H0 kv):Ext Hf0 H0 Hf' H':=⟨x.f,s.trans x.h,x.s,λl o e t=>x.n l o (s l o e) t⟩
def aB.less(h:aB G Hf0 kv Hf H σ U)(s:aG H0 kv):aB G Hf0 H0 Hf H σ U:=by
 refine h.re (h.ext.less s) rfl (λi v t a b=>?_) λi t v a b c p=>⟨t,b,p⟩;have q:=h.at' i v t a b
 cases L:t.isOwn with
 |true=>
  obtain⟨l,I,M,T,e4⟩:=q.own L
  exact .ofOwn L ⟨l,I,s.free M,T,e4⟩
 |false=>
  cases t with
  |no=>trivial
  |im d=>exact q
  |val u=>exact q
  |deep o=>
   obtain⟨u,fp,I,r,n,z⟩:=q
   exact⟨u,fp,I,r,n,λa ha=>⟨s.free (z a ha).1,(z a ha).2⟩⟩
  | _=>nomatch L
def aB.prom(h:aB G Hf0 H0 Hf H σ U)(S:LAd)(M:∀a∈S,Hf a=ae/\kj G Hf H σ U a):aB G Hf0 (prom H0 H S) Hf H σ U:=by
 have up:∀a o,H a=aa o->fW o=ak->(a∈S->False)->H0 a=ae->L2.prom H0 H S a=ae:=λa o e t ns e0=>by
  rw[vq (λz=>ns z) (λvs q=>by rw[e]at q;cases q;nomatch t)];exact e0
 refine h.re ⟨h.ext.f,EM h.ext.h S,h.ext.s,λl o e t=>?_⟩ rfl (λi v t a b=>?_) λi t v a b c p=>⟨t,b,p⟩
 .by_cases I:l∈S
  .rw[(M l I).1];exact(h.ext.f.free (M l I).1).symm
  .rw[vq I (λvs q=>by rw[vp q]at e;cases e;nomatch t)]at e;exact h.ext.n l o e t
 .have q:=h.at' i v t a b
  cases T:t.isOwn with
  |true=>
   obtain⟨l,e1,e2,e3,e4⟩:=q.own T;obtain⟨o,ho,L⟩:=e4.there2;subst e1
   exact .ofOwn T ⟨l,rfl,up l o ho L (λI=>(M l I).2 i t _ b a ((Holds.own T).mpr rfl)) e2,e3,e4⟩
  |false=>
   cases t with
   |no=>trivial
   |im d=>exact q
   |val u=>exact q
   |deep o=>
    obtain⟨u,fp,e1,r,n,z⟩:=q;subst e1;refine⟨u,fp,rfl,r,n,λx hx=>⟨?_,(z x hx).2⟩⟩;obtain⟨oo,ho,L⟩:=OT.memM o u fp r x hx
    exact up x oo ho L (λI=>(M x I).2 i _ u b a ⟨fp,r,hx⟩) (z x hx).1
   | _=>nomatch T
def aB.free(h:aB G Hf0 H0 Hf H σ U){o:HO}(e:H0 a=aa o):kj G Hf H σ U a:=λk t w b c p=>by
 rw[((h.at' k _ t c b).gone p).1]at e
 nomatch e
variable{j:Nat}
def aB.hand(h:aB G Hf0 H0 Hf H σ U)(ho:eR G H0 Hf H (aa u) s)(hn:∀a,Holds G Hf H s u a->kj G Hf H σ U a):aB G Hf0 H0 Hf H (σ.set j (aa u)) (U.set j s):=by
 refine⟨h.ext,by simpa using h.len,λi w t a b=>?_,λi k t t' v w l a b c I p q=>?_⟩
 .rcases cf b with⟨e,z,_⟩ |⟨e,b⟩
  .subst e z
   rcases cf a with⟨_,z,_⟩ |⟨e,_⟩
   .subst z;exact ho
   .exact absurd rfl e
  .rcases cf a with⟨z,_⟩ |⟨_,a⟩
   .exact absurd z e
   .exact h.at' i w t a b
 .rcases cf a with⟨T,e1',_⟩ |⟨T,a⟩
  .rcases cf b with⟨L,M,_⟩ |⟨L,b⟩
   .rw[T,L]
   .rcases cf c with⟨_,z,_⟩ |⟨z,_⟩
    .cases z;rw[e1']at p
     rcases cf I with⟨z,_⟩ |⟨_,I⟩
     .exact absurd z L
     .exact(hn l p k t' w b I q).elim
    .exact absurd T z
  .rcases cf c with⟨z,_⟩ |⟨_,c⟩
   .exact absurd z T
   .rcases cf b with⟨L,M,_⟩ |⟨L,b⟩
    .rcases cf I with⟨_,z,_⟩ |⟨z,_⟩
     .cases z;rw[M]at q;exact(hn l q i t v a c p).elim
     .exact absurd L z
    .rcases cf I with⟨z,_⟩ |⟨_,I⟩
     .exact absurd z L
     .exact h.dj i k t t' v w l a b c I p q
def aB.take(h:aB G Hf0 H0 Hf H σ U)(z:σ[i]?=aa (aa u)):aB G Hf0 H0 Hf H σ (U.set i (.val u)):=by
 refine h.re h.ext (by simp) (λj w s a b=>?_) λj s v a b c d=>?_
 .rcases cf b with⟨e,q,_⟩ |⟨e,b⟩
  .subst e q;rw[z]at a;cases a;rfl
  .exact h.at' j w s a b
 .rcases cf b with⟨e,q,_⟩ |⟨e,b⟩
  .subst q;exact jS d.1
  .exact⟨s,b,d⟩
abbrev O.isFz:O->Bool
 |.fz _=>ac
 | _=>ak
def OTs.allFz{G:Gc}{Hf H:Hp}:∀{os:List O} {vs:List V} {f:LAd},os.all O.isFz=ac->OTs G Hf H os vs f->f=[]/\∀Hf' H',aG Hf Hf'->OTs G Hf' H' os vs []
 | [],_,_,_,h=>⟨h.2,λ_ _ _=>⟨h.1,rfl⟩⟩
 |o::os,_,_,hs,q4_=>by
  obtain⟨v,r,M,T,e,I,L,z⟩:=q4_;rw[iR,cx]at hs;obtain⟨a,b⟩:=OTs.allFz hs.2 L
  cases o with
  |fz d=>
   obtain⟨c,q⟩:=I;subst a q z e
   exact⟨rfl,λHf' H' s=>⟨v,r,[],[],rfl,⟨c.up s,rfl⟩,b Hf' H' s,rfl⟩⟩
  | _=>exact jS hs.1
def OTs.jnkAt{G:Gc}{Hf H:Hp}{os:List O}(n:Nat):∀{ps:List O} {vs:List V} {fp:LAd} {k:Nat},OTs G Hf H ps vs fp->ps[k]?=aa (.lst os)->(ps.set k (.fz .non)).all O.isFz=ac ->
  ∃L us fs,vs[k]?=aa (.ref L)/\H L=aa (.lst us)/\OTs G Hf H os us fs/\fp=L::fs/\∀Hf' H',aG Hf Hf'->H' L=aa (.lst us)->us.length<=n->OTs G Hf' H' (ps.set k (.jnk n)) vs [L]
 | [],_,_,_,_,e,_=>by simp at e
 |o::ps,_,_,0,q4_,e',hs=>by
  obtain⟨v,r,f1,f2,e,T,h2,z⟩:=q4_;cases e';rw[set_cons_zero,iR,cx]at hs;obtain⟨a,b⟩:=OTs.allFz hs.2 h2;obtain⟨L,us,fs,el,q,rs,I⟩:=T;subst a z e el I
  exact⟨L,us,fs,rfl,q,rs,cV _,λHf' H' s q' hz=>⟨_,r,[L],[],rfl,⟨L,us,rfl,q',hz,rfl⟩,b Hf' H' s,rfl⟩⟩
 |o::ps,_,_,k+1,q4_,e',hs=>by
  obtain⟨v,r,f1,f2,e,T,h2,z⟩:=q4_;rw[set_cons_succ,iR,cx]at hs;obtain⟨L,us,fs,a,q,rs,M,b⟩:=OTs.jnkAt n h2 e' hs.2
  cases o with
  |fz d=>
   obtain⟨c,c'⟩:=T;subst c' z e M
   exact⟨L,us,fs,by rw[tP];exact a,q,rs,rfl,λHf' H' s q' hz=>⟨v,r,[],[L],rfl,⟨c.up s,rfl⟩,b Hf' H' s q' hz,rfl⟩⟩
  | _=>exact jS hs.1
abbrev oO(i:Nat)(kk:Option Nat)(U:LS):Option (List O×Sl):=match kk with
 |none=>match U[i]? with
  |some (.deep (.lst os))=>aa (os,.deep (.jnk os.length))
  | _=>ae
 |some k=>match U[i]? with
  |some (.deep (.tup ps))=>match ps[k]? with
   |some (.lst os)=>if (ps.set k (.fz .non)).all O.isFz then aa (os,.deep (.tup (ps.set k (.jnk os.length)))) else ae
   | _=>ae
  | _=>ae
abbrev zq(K:bu)(i:Nat):Option Nat->TE
 |none=>dL i
 |some k=>tOp (λx y H Q=>xX K x y H Q\/xY K x y H Q) (dL i) (tC (.int k))
def EO{kk:Option Nat}(so:aB G Hf0 H0 Hf H σ U)(h:oO i kk U=aa (os,s')):∃(u:V) (L:Addr) (us:List V) (fs:LAd),σ[i]?=aa (aa u)/\H L=aa (.lst us)/\OTs G Hf H os us fs/\(L::fs).Nodup/\(∀a∈L::fs,H0 a=ae/\Hf a=ae) /\
  (∀a∈L::fs,∃s,U[i]?=aa s/\Holds G Hf H s u a)/\(∀Q:VK,Q (.ref L) H->zq G.K i kk σ H Q) /\
  ∀Hf' H',aG Hf Hf'->aG Hf' H'->(∀b vs,H b=aa (.tup vs)->H' b=aa (.tup vs))->H' L=aa (.lst us)->∀kv,kv L=ae->Hf' L=ae->eR G kv Hf' H' (aa u) s'/\∀a,Holds G Hf' H' s' u a->a=L:=by
 unfold oO at h
 cases kk with
 |none=>
  dsimp only at h;split at h
  .rename_i os' es;cases h;obtain⟨v,I,u,fp,e2,r,n,z⟩:=so.slot es;subst e2;obtain⟨L,us,fs,el,q,rs,M⟩:=id r;subst el M;refine⟨_,L,us,fs,I,q,rs,n,z,λa ha=>⟨_,es,_,r,ha⟩,λQ k=>⟨_,I,k⟩,λHf' H' f s' tp q' kv h0 hf=>⟨⟨_,[L],rfl,⟨L,us,rfl,q',by rw[rs.length];exact bC _,rfl⟩,gj.mpr ⟨bJ,g7⟩,λa ha=>by rw[aU.mp ha];exact⟨h0,hf⟩⟩,λa p=>?_⟩⟩;obtain⟨fp,⟨L2,us2,e,_,_,M⟩,ha⟩:=p;cases e;subst M;exact aU.mp ha
  .nomatch h
 |some k=>
  dsimp only at h;split at h
  .rename_i ps es;split at h
   .rename_i os' ek;split at h
    .rename_i T;cases h;obtain⟨v,I,u,fp,e2,r,n,z⟩:=so.slot es;subst e2;obtain⟨p,vs,ep,hp,rs⟩:=id r;subst ep;obtain⟨L,us,fs,ev,q,ro,M,new⟩:=OTs.jnkAt os.length rs ek T;subst M
     have hi:atI vs k=aa (.ref L):=by
      have hk:=(dh.mp ev).1;unfold atI ixN;rw[if_pos (Int.natCast_nonneg k),if_pos (by lia)]
      simpa using ev
     refine⟨_,L,us,fs,I,q,ro,n,z,λa ha=>⟨_,es,_,r,ha⟩,λQ kq=>⟨_,I,.inr ⟨p,vs,k,_,rfl,rfl,SqT.of hp,hi,kq⟩⟩,λHf' H' f s' tp q' kv h0 hf=>?_⟩;have nw:OT G Hf' H' (.tup _) _ [L]:=⟨p,vs,rfl,tp p vs hp,new Hf' H' f q' (by rw[ro.length];exact bC _)⟩;refine⟨⟨_,[L],rfl,nw,gj.mpr ⟨bJ,g7⟩,λa ha=>by rw[aU.mp ha];exact⟨h0,hf⟩⟩,λa p=>?_⟩;obtain⟨fp,r2,ha⟩:=p;have:=OT.funM _ _ _ _ nw r2;subst this;exact aU.mp ha
    .nomatch h
   .nomatch h
  .nomatch h
abbrev mY(ks:LN)(U:LS):LS:=ks.foldl (λr k=>r.set k .no) U
def zt:∀(ks:LN) (U:LS),(mY ks U).length=U.length
 | [],_=>rfl
 |k::ks,U=>by
  show(mY ks _).length=_;rw[zt ks,gk]
def zu:∀(ks:LN) (U:LS) (m:Nat) (s:Sl),(mY ks U)[m]?=aa s->s=.no\/(m∉ks/\U[m]?=aa s)
 | [],_,_,_,h=>.inr ⟨bJ,h⟩
 |k::ks,U,m,s,h=>by
  rcases zu ks _ m s h with e |⟨a,e⟩
  .exact .inl e
  .rcases cf e with⟨_,q,_⟩ |⟨ne,e⟩
   .exact .inl q
   .exact .inr ⟨λz=>(bG.mp z).elim ne a,e⟩
abbrev iJ(ks:LN)(a b:LS):Prop:=a.length=b.length/\∀m,m∉ks->a[m]?=b[m]?
def iJ.refl(ks:LN)(a:LS):iJ ks a a:=⟨rfl,λ_ _=>rfl⟩
abbrev zw:D->OD
 |.bl b=>aa (.int (if b then 1 else 0))
 | _=>ae
abbrev mZ(f:MF1)(U:LS):OD:=(f U).bind zw
abbrev EQ(te:TE):TE:=λσ H Q=>te σ H λx H1=>∃b,x=.bl b/\Q (.int (if b then 1 else 0)) H1
def ER:gL "int"=aa (.type "int"):=by decide +kernel
def ES(hg:Gl X "int")(hm:X.mg "int"=ae)(he:PE X e te)(L:aX [e] X.env=(ak,eval e X.env)::aX [] X.env:=by rfl)(z:(eG pos (aX [] X.env)).any (·.1)=ak:=by rfl):
  PE X (.Call (.Name "int" p) [e] [] pos) (EQ te):=by
 intro pins s σ H Q I h;refine lc (jv I hg hm ER ?_);refine mn ?_ L z;rw[L];refine qi (thn (he pins s σ H _ I h) λu s1 q_=>?_);obtain⟨x,H1,M,r1,b,T,q⟩:=q_;subst T;subst r1;exact c6 (call_int_bool ⟨.int _,H1,M.tok _,⟨_,rfl⟩,q⟩)
def ET{f:MF1}(M:Gl X "int")(hm:X.mg "int"=ae)(ha:DE c X e f)(L:aX [e] X.env=(ak,eval e X.env)::aX [] X.env:=by rfl)(I:(eG pos (aX [] X.env)).any (·.1)=ak:=by rfl):DE c X (.Call (.Name "int" p) [e] [] pos) (mZ f):=
 PE.imp (ES M hm ha L I) λσ H Q T=>by
  obtain⟨Hf0,H0,Hf,U,d0,st,q,k⟩:=T;unfold mZ at q
  cases z:f U with
  |none=>rw[z]at q;nomatch q
  |some d=>
   rw[z,aJ]at q;unfold zw at q;split at q
   .rename_i b;cases q;refine⟨Hf0,H0,Hf,U,_,st,z,λv Hf' H' x r=>⟨b,r,k _ Hf' H' x rfl⟩⟩
   .nomatch q
abbrev m3(i:Nat)(fk fv:MF1)(U:LS):Option Fl:=(fv U).bind λd=>(fk U).bind λx=>match x with
 | .int k=>(match U[i]? with
  |some (.pin l xs)=>(ixN xs.length k).map λj=>.nx (U.set i (.pin l (xs.set j d)))
  | _=>ae)
 | _=>ae
def EU(hp:PS X st (ls (tD (Gx c X) fv) (uk (dL i) (tD (Gx c X) fk) uF))):DS c X st (m3 i fk fv):=PS.imp hp λE σ H q_=>by
 obtain⟨Hf0,H0,Hf,U,o,so,z,k⟩:=q_;unfold m3 at z
 cases T:fv U with
 |none=>rw[T]at z;nomatch z
 |some d=>
  rw[T]at z
  cases e2:fk U with
  |none=>rw[e2]at z;nomatch z
  |some x=>
   rw[e2]at z
   obtain⟨L,rfl⟩:∃L,x=.int L:=by cases x <;> first |exact⟨_,rfl⟩ |nomatch z
   replace z:(match U[i]? with |some (.pin l xs)=>(ixN xs.length L).map λj=>Fl.nx _ | _=>ae)=aa o:=z
   split at z
   .rename_i l0 xs es
    cases ej:ixN xs.length L with
    |none=>rw[ej]at z;nomatch z
    |some j=>
     rw[ej]at z;cases z;refine⟨Hf0,H0,Hf,U,d,so,T,λv b3 H1 x1 r1=>?_⟩;have I:=so.step x1;obtain⟨l,el,h0,hf,eq,vs,q,r⟩:=I.ownAt rfl es;subst eq;refine⟨_,el,Hf0,H0,b3,U,.int L,I,e2,λy b0 H2 M r2=>?_⟩;exact⟨l,vs,L,j,rfl,r2,(M.h _ _ q),by rw[<- r.length];exact ej,(k σ b0 _ (x1.f.trans M.f) ((I.step M).mutd rfl rfl es el ⟨rfl,vs.set j v,bT,(r.up M.f).set j (r1.up M.f)⟩))⟩
   .nomatch z
def EV(I:PE X e (dL i))(z:DE c X i' fk)(M:DE c X value fv)(L:qf [.Subscript e i' b4] value pos.line X.env=pure ak:=by rfl)(T:qg [.Subscript e i' b4] value X.env=pure ae:=by rfl)
 (q:(gM [.Subscript e i' b4] X.env).map (·.2)=[io (.Subscript e i' b4) X.env]:=by rfl)
 (ha:∀ v,io (.Subscript e i' b4) X.env v=(do
   let ov <- il [v] (eval e X.env)
   let iv <- il [v,ov] (eval i' X.env)
   standAt b4
   il [v,ov,iv] (setItem ov iv v)
   release [v,ov,iv] []):=by intro _;rfl):
  DS c X (.Assign [.Subscript e i' b4] value pos) (m3 i fk fv):=EU (ul M (xG I z x8 ha) L T q)
def EW{k:Int}(M:fv U=aa d)(L:fk U=aa (.int k))(h':U[i]?=aa (.pin l xs))(z:0<=k)(I:k<xs.length)(q:K (.nx (U.set i (.pin l (xs.set k.toNat d))))):wp (m3 i fk fv) U K:=⟨_,by
 unfold m3;rw[M,aJ,L,aJ,h'];show(ixN xs.length k).map _=_;unfold ixN;rw[if_pos z,if_pos I];rfl,q⟩
@[reducible]noncomputable def Xe:=LS->Option (D×LS)
@[reducible]noncomputable def Xa:=LS->Option (LD×LS)
@[reducible]noncomputable def Xt:=LS->Option (Bool×LS)
abbrev mX(f:MF1):Xe:=λU=>(f U).map λd=>(d,U)
abbrev mX2(m:D->D->OD)(f g:Xe):Xe:=λU=>(f U).bind λp=>(g p.2).bind λq=>(m p.1 q.1).map λd=>(d,q.2)
abbrev aw:Xa:=λU=>aa ([],U)
abbrev ao(f:Xe)(g:Xa):Xa:=λU=>(f U).bind λp=>(g p.2).map λq=>(p.1::q.1,q.2)
abbrev dA(f:Xa):Xe:=λU=>(f U).map λp=>(.tup p.1,p.2)
abbrev jH(f:Xa):Xe:=λU=>(f U).map λp=>(.lst p.1,p.2)
abbrev km(m:LD->OD)(f:Xa):Xe:=λU=>(f U).bind λp=>(m p.1).map λd=>(d,p.2)
def EX{f:MF1}(h:mX f U=aa (d,ρ')):f U=aa d/\ρ'=U:=by
 unfold mX at h
 cases e:f U with
 |none=>rw[e]at h;nomatch h
 |some q=>rw[e]at h;cases h;exact⟨rfl,rfl⟩
def rJ{f g:Xe}(h:mX2 m f g U=aa (d,ρ')):∃x y ρ1,f U=aa (x,ρ1)/\g ρ1=aa (y,ρ')/\m x y=aa d:=by
 unfold mX2 at h
 cases M:f U with
 |none=>rw[M]at h;nomatch h
 |some p=>
  rw[M,aJ]at h
  cases I:g p.2 with
  |none=>rw[I]at h;nomatch h
  |some q=>
   rw[I,aJ]at h
   cases L:m p.1 q.1 with
   |none=>rw[L]at h;nomatch h
   |some z=>rw[L]at h;cases h;exact⟨p.1,q.1,p.2,rfl,I,L⟩
def zx{f:Xe}{g:Xa}(h:ao f g U=aa (ds,ρ')):∃d r ρ1,f U=aa (d,ρ1)/\g ρ1=aa (r,ρ')/\ds=d::r:=by
 unfold ao at h
 cases I:f U with
 |none=>rw[I]at h;nomatch h
 |some p=>
  rw[I,aJ]at h
  cases z:g p.2 with
  |none=>rw[z]at h;nomatch h
  |some q=>rw[z]at h;cases h;exact⟨p.1,q.1,p.2,rfl,z,rfl⟩
inductive vv(G:Gc)(f:Xa)(σ:St)(H:Hp)(Q:List V->Hp->Prop):Prop
 |mk:∀Hf0 H0 Hf U ds ρ',aB G Hf0 H0 Hf H σ U->f U=aa (ds,ρ')->(∀vs Hf' H',aG Hf Hf'->aB G Hf0 H0 Hf' H' σ ρ'->aC G Hf' ds vs->Q vs H')->vv G f σ H Q
structure DAX(c:Str->Addr)(X:Cx)(es:LEx)(f:Xa):Prop where
 pa:PA X es (vv (Gx c X) f)
 len:∀U ds ρ',f U=aa (ds,ρ')->ds.length=es.length
inductive oP(G:Gc)(f:Xt)(σ:St)(H:Hp)(Q:Bool->Hp->Prop):Prop
 |mk:∀Hf0 H0 Hf U b ρ',aB G Hf0 H0 Hf H σ U->f U=aa (b,ρ')->(∀Hf' H',aG Hf Hf'->aB G Hf0 H0 Hf' H' σ ρ'->Q b H')->oP G f σ H Q
abbrev DTX(c:Str->Addr)(X:Cx)(e:Expr)(f:Xt):Prop:=PT X e (oP (Gx c X) f)
def DE.dx{f:MF1}(h:DE c X e f):DX c X e (mX f):=PE.imp h λσ H Q I=>by
 obtain⟨Hf0,H0,Hf,U,d,ρ',st,z,k⟩:=I;obtain⟨q,rfl⟩:=EX z;exact⟨Hf0,H0,Hf,_,d,st,q,λv Hf' H' x r=>k v Hf' H' x.f (st.step x) r⟩
variable{a b:Expr}
def f7{op:Operator}{f g:Xe}(ho:OpD c X (fq op) m)(ha:DX c X a f)(hb:DX c X b g):DX c X (.BinOp a op b pos) (mX2 m f g):=PE.imp (um ho ha hb) λσ H Q q_=>by
 obtain⟨Hf0,H0,Hf,U,d,ρ',st,ef,k⟩:=q_;obtain⟨x,y,ρ1,e1,e2,e3⟩:=rJ ef;exact⟨Hf0,H0,Hf,U,x,ρ1,st,e1,λv b3 H1 f1 I r1=>⟨Hf0,H0,b3,ρ1,y,ρ',I,e2,λu b0 H2 L q r2=>⟨b0,x,y,d,q.sub,r1.up L,r2,e3,λw z T M r3=>k w z T ((f1.trans L).trans M.f) (q.step M) r3⟩⟩⟩
def aD:DAX c X [] aw:=⟨PA.imp dg λσ H Q z=>by obtain⟨Hf0,H0,Hf,U,ds,ρ',st,q,k⟩:=z;cases q;exact k [] Hf H (aG.refl _) st rfl,λU ds ρ' h=>by cases h;rfl⟩
def ar{f:Xe}{g:Xa}(ha:DX c X e f)(T:DAX c X es g)(hs:StE X e es:=by rfl):DAX c X (e::es) (ao f g):=by
 refine⟨PA.imp (cj ha T.pa hs) λσ H Q q_=>?_,λU ds ρ' h=>?_⟩
 .obtain⟨Hf0,H0,Hf,U,ds,ρ',st,ef,k⟩:=q_;obtain⟨d,r,ρ1,L,q,rfl⟩:=zx ef;exact⟨Hf0,H0,Hf,U,d,ρ1,st,L,λv b3 H1 f1 z r1=>⟨Hf0,H0,b3,ρ1,r,ρ',z,q,λvs b0 H2 M I r2=>k _ b0 H2 (f1.trans M) I (.cons (r1.up M) r2)⟩⟩
 .obtain⟨d,r,ρ1,L,q,rfl⟩:=zx h;simp[T.len ρ1 r ρ' q]
def eL{f:Xa}(h:DAX c X es f)(hz:es.length<=1000:=by exact k8 rfl):DX c X (.Tuple es k' pos) (dA f):=PE.imp (qA h.pa) λσ H Q q_=>by
 obtain⟨Hf0,H0,Hf,U,d,ρ',st,I,k⟩:=q_;unfold dA at I
 cases L:f U with
 |none=>rw[L]at I;nomatch I
 |some q=>
  obtain⟨ds,ρ1⟩:=q;rw[L]at I;cases I;refine⟨Hf0,H0,Hf,U,ds,_,st,L,λvs Hf' H' T z r=>⟨?_,λq M=>(k _ _ _ (T.trans (cM (z.sub.free M))) (z.step (Ext.new z.sub M)) ⟨q,vs,rfl,bT,r.up (cM (z.sub.free M))⟩)⟩⟩;rw[<- r.length,h.len U ds _ L];exact iS (ly hz)
def oQ{f:Xa}(h:DAX c X es f)(hz:es.length<=1000:=by exact k8 rfl):DX c X (.List es pos) (jH f):=PE.imp (qB h.pa) λσ H Q q_=>by
 obtain⟨Hf0,H0,Hf,U,d,ρ',st,I,k⟩:=q_;unfold jH at I
 cases L:f U with
 |none=>rw[L]at I;nomatch I
 |some q=>
  obtain⟨ds,ρ1⟩:=q;rw[L]at I;cases I;refine⟨Hf0,H0,Hf,U,ds,_,st,L,λvs Hf' H' T z r=>⟨?_,λq M=>(k _ _ _ (T.trans (cM (z.sub.free M))) (z.step (Ext.new z.sub M)) ⟨q,vs,rfl,bT,r.up (cM (z.sub.free M))⟩)⟩⟩;rw[<- r.length,h.len U ds _ L];exact iS (ly hz)
inductive tMX(G:Gc)(i:Nat)(f:Xa)(σ:St)(H:Hp)(Q:List V->Hp->Prop):Prop
 |mk:∀Hf0 H0 Hf U ds ρ' l,aB G Hf0 H0 Hf H σ U->σ[i]?=aa (aa (.ref l))->f U=aa (ds,ρ')->(∀vs Hf' H',aG Hf Hf'->aB G Hf0 H0 Hf' H' σ ρ'->aC G Hf' ds vs->Q (.ref l::vs) H')->tMX G i f σ H Q
structure DMX(c:Str->Addr)(X:Cx)(es:LEx)(i:Nat)(f:Xa):Prop where
 pa:PA X es (tMX (Gx c X) i f)
 len:∀U ds ρ',f U=aa (ds,ρ')->ds.length+1=es.length
abbrev aN(i:Nat)(m:Addr->LD->LD->LD->Option (LD×D))(f:Xa):Xe:=λU=>match U[i]? with
 |some (.pin _ _)=>(f U).bind λp=>match p.2[i]? with
  |some (.pin l xs)=>(m l [] p.1 xs).map λq=>(q.2,p.2.set i (.pin l q.1))
  | _=>ae
 | _=>ae
open Classical in
abbrev ko(i:Nat)(m:Addr->LD->LD->LD->Option (LD×D))(f:Xa):Xe:=λU=>match U[i]? with
 |some (.own _)=>(f U).bind λp=>match p.2[i]? with
  |some (.own xs)=>if h:∃q,∀l,m l [] p.1 xs=aa q then aa (h.choose.2,p.2.set i (.own h.choose.1)) else ae
  | _=>ae
 | _=>ae
def aS(i:Nat){g:Xa}(I:DAX c X es g)(hN:X.N[i]?=aa x:=by rfl)(hv:Vis X.env.scope x:=by first |exact bS rfl |exact bp (bS rfl) |exact bp (bp rfl))(hd:NDb x:=by decide)
 (q:NCd x:=by decide)(hs:aX (.Name x pos::es) X.env=(ak,eval (.Name x pos) X.env)::aX es X.env:=by rfl):DMX c X (.Name x pos::es) i g:=
 ⟨PA.imp (cj (iW hN hv hd q) I.pa hs) λσ H Q ⟨Hf0,H0,Hf,U,ds,ρ',l,st,M,L,k⟩=>⟨_,M,Hf0,H0,Hf,U,ds,ρ',st,L,λvs Hf' H' T z r=>k vs Hf' H' T z r⟩,λU ds ρ' h=>by
  rw[b9,I.len U ds ρ' h]⟩
variable{f:Addr}{fa:Xa}
def aT{m:Addr->LD->LD->LD->Option (LD×D)}(pk:Pk X.prog X.w X.K X.mg X.base CX0 k x (f,fd) ps (spM (Gx c X) 0 ps.length m))(hr0:cG k0 X.A)(ha:DMX c X (e::es) i fa)(hl:(e::es).length=ps.length:=by rfl)(hO:NDb x:=by decide)(he:StE X e es:=by rfl)(hX:BkE X pos es:=by rfl)(hk0:k<=k0:=by decide)(hg:Gl X x:=by first |rfl |exact glc rfl):
  DX c X (.Call (.Name x p) (e::es) [] pos) (aN i m fa):=PE.imp (jX pk.ok (hr0.mono hk0) hg pk.g pk.kp pk.b .nil lx ha.pa hO he hX) λσ H Q q_=>by
 obtain⟨Hf0,H0,Hf,U,d,ρ',st,z,kq⟩:=q_;unfold aN at z;split at z
 .rename_i l0 xs0 eo0
  cases M:fa U with
  |none=>rw[M]at z;nomatch z
  |some pp=>
   obtain⟨ds,ρ1⟩:=pp;rw[M,aJ]at z;split at z
   .rename_i l xs eo
    cases e2:m l [] ds xs with
    |none=>rw[e2]at z;nomatch z
    |some q=>
     rw[e2]at z;cases z;obtain⟨l1,el,_,_,_,_,_,_⟩:=st.ownAt rfl eo0;refine⟨Hf0,H0,Hf,U,ds,ρ1,l1,st,el,M,λvs Hf' H' f1 I r=>?_⟩;rw[cV];obtain⟨l2,L,h02,hf2,eq2,us2,hu2,rx2⟩:=I.ownAt rfl eo;subst eq2;rw[el]at L;cases L
     have hn:0+1+ds.length=ps.length:=by
      have:=(ha.len U ds _ M).trans hl;lia
     exact⟨Hf',[],ds,xs,q.1,q.2,l1,us2,[],vs,rfl,I.sub,hf2,hu2,rfl,r,rx2,rfl,hn,e2,λv T H3 us3 x3 hf3 hu3 rx3 r3=>kq v T H3 (f1.trans x3.f) (I.back rfl rfl eo el x3 hf3 ⟨rfl,us3,hu3,rx3⟩) r3⟩
   .nomatch z
 .nomatch z
def rK{m:Addr->LD->LD->LD->Option (LD×D)}(pk:Pk X.prog X.w X.K X.mg X.base CX0 k x (f,fd) ps (spM (Gx c X) 0 ps.length m))(hr0:cG k0 X.A)(ha:DMX c X (e::es) i fa)(hl:(e::es).length=ps.length:=by rfl)(hO:NDb x:=by decide)(he:StE X e es:=by rfl)(hX:BkE X pos es:=by rfl)(hk0:k<=k0:=by decide)(hg:Gl X x:=by first |rfl |exact glc rfl):
  DX c X (.Call (.Name x p) (e::es) [] pos) (ko i m fa):=PE.imp (jX pk.ok (hr0.mono hk0) hg pk.g pk.kp pk.b .nil lx ha.pa hO he hX) λσ H Q q_=>by
 obtain⟨Hf0,H0,Hf,U,d,ρ',st,z,kq⟩:=q_;unfold ko at z;split at z
 .rename_i xs0 eo0
  cases M:fa U with
  |none=>rw[M]at z;nomatch z
  |some pp=>
   obtain⟨ds,ρ1⟩:=pp;rw[M,aJ]at z;split at z
   .rename_i xs eo;split at z
    .rename_i hq;have e2:=hq.choose_spec;generalize hq.choose=q at z e2;cases z;obtain⟨l1,el,_,_,_,_,_⟩:=st.ownAt rfl eo0;refine⟨Hf0,H0,Hf,U,ds,ρ1,l1,st,el,M,λvs Hf' H' f1 I r=>?_⟩;rw[cV];obtain⟨l2,L,h02,hf2,us2,hu2,rx2⟩:=I.ownAt rfl eo;rw[el]at L;cases L
     have hn:0+1+ds.length=ps.length:=by
      have:=(ha.len U ds _ M).trans hl;lia
     exact⟨Hf',[],ds,xs,q.1,q.2,l1,us2,[],vs,rfl,I.sub,hf2,hu2,rfl,r,rx2,rfl,hn,e2 l1,λv T H3 us3 x3 hf3 hu3 rx3 r3=>kq v T H3 (f1.trans x3.f) (I.back rfl rfl eo el x3 hf3 ⟨us3,hu3,rx3⟩) r3⟩
    .nomatch z
   .nomatch z
 .nomatch z
abbrev bU(i:Nat)(f:Xe)(U:LS):Option Fl:=(f U).map λp=>.nx (p.2.set i (.im p.1))
abbrev fF(f:Xe)(U:LS):Option Fl:=(f U).map λp=>.rtS p.1 p.2
abbrev jc(i:Nat)(f:Xe)(U:LS):Option Fl:=match U[i]? with
 |some (.own _)=>(f U).bind λp=>match p.2[i]? with
  |some (.own xs)=>if xs.length<16777216 then aa (.nx (p.2.set i (.own (xs++[p.1])))) else ae
  | _=>ae
 | _=>ae
abbrev rL:D->D->OD
 |.int i,.int j=>aa (.int (i+j))
 |.str a,.str b=>if a.length+b.length<=16777216 then aa (.str (a++b)) else ae
 | _,_=>ae
abbrev oR(i:Nat)(f:Xe)(U:LS):Option Fl:=match U[i]? with
 |some (.im x)=>(f U).bind λp=>(rL x p.1).map λz=>.nx (p.2.set i (.im z))
 | _=>ae
abbrev jI(t:Xt)(F F':MF3)(U:LS):Option Fl:=(t U).bind λp=>if p.1 then F p.2 else F' p.2
variable{f:Xe}
def cr(i:Nat)(L:X.N.Nodup)(M:DX c X e f)(hi:X.N[i]?=aa x:=by rfl)(hx:Loc X.env.scope x:=by first |exact bS rfl |exact bp rfl)(hs:fJ e (aa (.Name x b4)) pos.line X.env=pure ak:=by rfl)(T:LcF X x:=by first |exact .inl rfl |exact .inr rfl):
  DS c X (.Assign [.Name x b4] e pos) (bU i f):=PS.imp (lu L hi hx M hs T) λE σ H q_=>by
 obtain⟨Hf0,H0,Hf,U,o,so,q,k⟩:=q_;unfold bU at q
 cases z:f U with
 |none=>rw[z]at q;nomatch q
 |some p=>
  rw[z]at q;cases q;exact⟨Hf0,H0,Hf,U,p.1,p.2,so,z,λv Hf' H' s I r=>k _ Hf' H' s (I.setIm r)⟩
def gW(L:DX c X e f):DS c X (.Return (aa e) pos) (fF f):=PS.imp (mw L) λE σ H M=>by
 obtain⟨Hf0,H0,Hf,U,o,T,q,k⟩:=M;unfold fF at q
 cases z:f U with
 |none=>rw[z]at q;nomatch q
 |some p=>
  rw[z]at q;cases q;exact⟨Hf0,H0,Hf,U,p.1,p.2,T,z,λv Hf' H' s I r=>k v σ Hf' H' I r⟩
def oS(h:PS X st (lr (tBM X.K "list" oj (dL i) (mz (tDX (Gx c X) f) my)))):DS c X st (jc i f):=PS.imp h λE σ H q_=>by
 obtain⟨Hf0,H0,Hf,U,o,so,z,k⟩:=q_;unfold jc at z;split at z
 .rename_i xs0 T
  cases L:f U with
  |none=>rw[L]at z;nomatch z
  |some p=>
   rw[L,aJ]at z;split at z
   .rename_i xs es;split at z
    .rename_i hl;cases z;obtain⟨l,M,h0,hf,vs0,q0,r0⟩:=so.ownAt rfl T;refine⟨_,M,.inl ⟨rfl,_,SqL.of q0⟩,Hf0,H0,Hf,U,p.1,p.2,so,L,λv Hf' H' s I r'=>?_⟩;obtain⟨l2,e3,h02,hf2,vs,q,r⟩:=I.ownAt rfl es;rw[M]at e3;cases e3;exact⟨l,vs,v,rfl,rfl,q,by rw[dD,<- r.length];exact hl,k σ Hf' _ s (I.mutd rfl rfl es M ⟨vs++[v],bT,r.append (.cons r' .nil)⟩)⟩
    .nomatch z
   .nomatch z
 .nomatch z
def EY:PIp X .Add (rD (Gx c X) rL):=λpins s σ H x y v u Q I M T q_=>by
 obtain⟨Hf,dx,q,d,s0,z,L,e,k⟩:=q_
 exact (by
 cases dx with
 |int i=>
  cases q with
  |int j=>
   subst z;subst L;cases e
   exact Cb pins s σ H _ _ v u Q I M T ⟨_,_,rfl,rfl,k _ Hf H (Ext.refl s0) rfl⟩
  | _=>nomatch e
 |str a=>
  cases q with
  |str b=>
   subst z;subst L;replace e:(if _ then aa _ else ae)=aa d:=e;split at e
   .rename_i hl;cases e;exact CK pins s σ H _ _ v u Q I M T ⟨_,_,rfl,rfl,by rw[dD];exact hl,k _ Hf H (Ext.refl s0) rfl⟩
   .nomatch e
  | _=>nomatch e
 | _=>nomatch e)
def EZ(i:Nat)(hN:X.N.Nodup)(he:DX c X e f)(hi:X.N[i]?=aa x:=by rfl)(hx:Loc X.env.scope x:=by first |exact bS rfl |exact bp rfl)(hf:LcF X x:=by first |exact .inl rfl |exact .inr rfl):
  DS c X (.AugAssign (.Name x b4) .Add e pos) (oR i f):=PS.imp (xH hN hi hx he (EY) hf) λE σ H q_=>by
 obtain⟨Hf0,H0,Hf,U,o,so,q,k⟩:=q_;unfold oR at q;split at q
 .rename_i d es
  cases L:f U with
  |none=>rw[L]at q;nomatch q
  |some p=>
   rw[L,aJ]at q
   cases M:rL d p.1 with
   |none=>rw[M]at q;nomatch q
   |some z=>
    rw[M]at q;cases q;obtain⟨v,ev,w,ew,T⟩:=so.slot es;subst ew;exact⟨_,ev,Hf0,H0,Hf,U,p.1,p.2,so,L,λu Hf' H' s I r=>⟨Hf',d,p.1,z,I.sub,T.up s,r,M,λy b0 H2 x2 r2=>k _ b0 H2 (s.trans x2.f) ((I.step x2).setIm r2)⟩⟩
 .nomatch q
variable{as:List Stmt}
def oU{bs:List Stmt}{t:Xt}(M:DTX c X e t)(ha:DSs c X as F)(L:DSs c X bs F'):DS c X (.If e as bs pos) (jI t F F'):=PS.imp (uf M ha L) λE σ H T=>by
 obtain⟨Hf0,H0,Hf,U,o,so,q,k⟩:=T;unfold jI at q
 cases I:t U with
 |none=>rw[I]at q;nomatch q
 |some x=>
  obtain⟨b,ρ1⟩:=x;rw[I,aJ]at q;refine⟨Hf0,H0,Hf,U,b,ρ1,so,I,λb3 H1 s1 z=>?_⟩
  cases b with
  |true=>rw[if_pos rfl];exact⟨Hf0,H0,b3,ρ1,o,z,q,k.up s1⟩
  |false=>rw[if_neg cE];exact⟨Hf0,H0,b3,ρ1,o,z,q,k.up s1⟩
abbrev mBX(f:Xe):Xt:=λU=>(f U).bind λp=>match p.1 with
 |.bl b=>aa (b,p.2)
 | _=>ae
abbrev mTX(f:MF4):Xt:=λU=>(f U).map λb=>(b,U)
abbrev jJ(f g:Xt):Xt:=λU=>(f U).bind λp=>if p.1 then g p.2 else aa (ak,p.2)
abbrev DWX(c:Str->Addr)(X:Cx)(e:Expr)(f:Xt):Prop:=PW X e (oP (Gx c X) f)
abbrev m4:D->D->OD
 |.str z,.int i=>if 0<=i/\i<2 ^ 63/\i<(z.length:Int) then (z.cps[i.toNat]?).map λch=>.str ⟨#[ch]⟩ else ae
 | _,_=>ae
abbrev cO(x y:D):OD:=match x with
 |.lst ds=>ixD ds y
 |.tup ds=>ixD ds y
 | _=>ae
abbrev jd(f:Xa):Xa:=λU=>(f U).bind λp=>(j6 p.1).map λds=>(ds,p.2)
def DT.dtx{f:MF4}(h:DT c X e f):DTX c X e (mTX f):=PT.imp h λσ H Q I=>by
 obtain⟨Hf0,H0,Hf,U,L,ρ',st,q,k⟩:=I;unfold mTX at q
 cases z:f U with
 |none=>rw[z]at q;nomatch q
 |some x=>
  rw[z]at q;cases q;exact⟨Hf0,H0,Hf,U,_,st,z,λHf' H' x=>k Hf' H' x.f (st.step x)⟩
def m5{g:Xe}(ho:OpD c X (du op) m)(ha:DX c X a f)(hb:DX c X b g)(hm:lh op b=ak:=by first |exact ux _ |rfl):
  DTX c X (.Compare a [op] [b] pos) (mBX (mX2 m f g)):=PT.imp (xL ho ha hb hm) λσ H Q q_=>by
 obtain⟨Hf0,H0,Hf,U,bb,ρ',st,z,k⟩:=q_;unfold mBX at z
 cases M:mX2 m f g U with
 |none=>rw[M]at z;nomatch z
 |some q=>
  obtain⟨d,b5⟩:=q;rw[M,aJ]at z;obtain⟨x,y,ρ1,e1,e2,e3⟩:=rJ M
  cases d <;> first |(cases z;done) |skip
  cases z;exact⟨Hf0,H0,Hf,U,x,ρ1,st,e1,λv b3 H1 f1 T r1=>⟨Hf0,H0,b3,ρ1,y,_,T,e2,λu b0 H2 f2 I r2=>⟨b0,x,y,_,I.sub,r1.up f2,r2,e3,λw L H3 x3 r3=>⟨_,r3,k L H3 ((f1.trans f2).trans x3.f) (I.step x3)⟩⟩⟩⟩
variable{f:Xt}
def DWX.dtx(h:DWX c X e f):DTX c X e f:=PW.pt h
def zy(h:DTX c X a f):DWX c X (.BoolOp .And [a] pos) f:=xz h
def zA{g:Xt}{bv:LEx}(h:DTX c X a f)(h':DWX c X (.BoolOp .And (b::bv) pos) g):DWX c X (.BoolOp .And (a::b::bv) pos) (jJ f g):=PW.imp (xA h h') λσ H Q T=>by
 obtain⟨Hf0,H0,Hf,U,M,ρ',st,q,k⟩:=T;unfold jJ at q
 cases I:f U with
 |none=>rw[I]at q;nomatch q
 |some x=>
  obtain⟨x,ρ1⟩:=x;rw[I,aJ]at q;refine⟨Hf0,H0,Hf,U,x,ρ1,st,I,λb3 H1 s1 z=>?_⟩
  cases x with
  |true=>rw[if_pos rfl];exact⟨Hf0,H0,b3,ρ1,M,ρ',z,q,λb0 H2 s2 L=>k b0 H2 (s1.trans s2) L⟩
  |false=>cases q;rw[if_neg cE];exact k b3 H1 s1 z
def E1{x:D}(h:m4 x y=aa d):∃z i ch,x=.str z/\y=.int i/\0<=i/\i<2 ^ 63/\i<(z.length:Int)/\z.cps[i.toNat]?=aa ch/\d=.str ⟨#[ch]⟩:=by
 unfold m4 at h;split at h
 .rename_i z i;split at h
  .rename_i q
   cases e:z.cps[i.toNat]? with
   |none=>rw[e]at h;nomatch h
   |some ch=>rw[e]at h;cases h;exact⟨z,i,ch,rfl,rfl,q.1,q.2.1,q.2.2,e,rfl⟩
  .nomatch h
 .nomatch h
def zC{f g:Xe}(ha:DX c X a f)(hb:DX c X b g)(hs:xN b:=by exact λ_ _=>rfl):DX c X (.Subscript a b pos) (mX2 m4 f g):=PE.imp (CL ha hb hs) λσ H Q q_=>by
 obtain⟨Hf0,H0,Hf,U,d,ρ',st,ef,k⟩:=q_;obtain⟨x,y,ρ1,L,M,T⟩:=rJ ef;obtain⟨z,i,ch,rfl,rfl,h0,h1,h2,h3,rfl⟩:=E1 T;exact⟨Hf0,H0,Hf,U,_,ρ1,st,L,λv b3 H1 f1 q r1=>⟨Hf0,H0,b3,ρ1,_,ρ',q,M,λu b0 H2 f2 I r2=>⟨z,i,ch,r1,r2,h0,h1,h2,h3,k _ b0 H2 (f1.trans f2) I rfl⟩⟩⟩
def dO{f g:Xe}(ha:DX c X a f)(hb:DX c X b g)(hs:uE b:=by exact λ_ _=>rfl):DX c X (.Subscript a b pos) (mX2 cO f g):=PE.imp (xW (xZ.or x6) ha hb hs) λσ H Q q_=>by
 obtain⟨Hf0,H0,Hf,U,d,ρ',st,ef,k⟩:=q_;obtain⟨x,y,ρ1,e1,e2,I⟩:=rJ ef;refine⟨Hf0,H0,Hf,U,x,ρ1,st,e1,λv b3 H1 f1 gp L=>⟨Hf0,H0,b3,ρ1,y,ρ',gp,e2,λu b0 H2 f2 z r2=>?_⟩⟩;have L:=L.up f2;unfold cO at I;split at I
 .rename_i ds
  cases y <;> first |(cases I;done) |skip
  rename_i n;cases (r2);obtain⟨l,vs,M,q,r⟩:=L;subst M;obtain⟨v,T,rv⟩:=uV I r;exact .inl ⟨l,vs,n,v,rfl,rfl,SqL.of (z.sub _ _ q),T,k v b0 H2 (f1.trans f2) z rv⟩
 .rename_i ds
  cases y <;> first |(cases I;done) |skip
  rename_i n;cases (r2);obtain⟨l,vs,M,q,r⟩:=L;subst M;obtain⟨v,T,rv⟩:=uV I r;exact .inr ⟨l,vs,n,v,rfl,rfl,SqT.of (z.sub _ _ q),T,k v b0 H2 (f1.trans f2) z rv⟩
 .nomatch I
def oV{f:Xa}(hg:Gl X "range")(hm:X.mg "range"=ae)(ha:DAX c X [a] f)(hs:aX [a] X.env=[(ak,eval a X.env)]:=by rfl):DXi c X tg (.Call (.Name "range" p) [a] [] pos) (jd f):=
 PI.imp (xI hg hm ha.pa hs) λσ H R q_=>by
  obtain⟨Hf0,H0,Hf,U,ds,ρ',st,I,k⟩:=q_;unfold jd at I
  cases L:f U with
  |none=>rw[L]at I;nomatch I
  |some q=>
   obtain⟨as,ρ1⟩:=q;rw[L,aJ]at I
   cases z:j6 as with
   |none=>rw[z]at I;nomatch I
   |some ds'=>
    rw[z]at I;cases I;have hl:=ha.len U as _ L;refine⟨Hf0,H0,Hf,U,as,_,st,L,λvs Hf' H' s1 M r=>?_⟩;unfold j6 at z;split at z
    .split at z
     .rename_i j T;cases z;obtain⟨v,ev,rv⟩:=r.one;cases (rv);exact⟨j,ev,T.1,T.2,k _ Hf' H' s1 M yP⟩
     .nomatch z
    .nomatch hl
    .nomatch z
open PySem.Builtin PySem.Builtin.Str in
def zD{g:Str}(z:Gl X x)(hm:∃t,X.mg x=aa (.str g t))(hd:NDb x:=by decide):DE c X (.Name x pos) (λ_=>aa (.str g)):=by
 obtain⟨t,hm⟩:=hm
 exact PE.imp (nX z hm (v:=.str g) ⟨t,rfl⟩ hd) λσ H Q I=>by
  obtain⟨Hf0,H0,Hf,U,d,st,q,k⟩:=I;cases q;exact k _ Hf H (Ext.refl st.sub) rfl
abbrev Its(x:Str):It:=⟨λi _=>i<x.length,λi H v H'=>H'=H/\∃ch,x.cps[i]?=aa ch/\v=.str ⟨#[ch]⟩,λi _=>x.length<=i⟩
variable{K:bu}
def E2(it:Addr)(x:Str)(t:Tok):jx P w K tg (Its x) [it] it (λi h=>h.IsStrIter it "str_ascii_iterator" x t i) where
 mem:=aU.mpr rfl
 obj:=λi h ⟨o,e,oc,od⟩ b hb=>by
  cases aU.mp hb;exact⟨o,e,λv z=>by rw[od]at z;nomatch z⟩
 keep:=λi h h' ⟨o,e,r⟩ k=>⟨o,k it (aU.mpr rfl) o e,r⟩
 item:=by
  intro X eP ew eK cm i pins s σ H E I hf st hg;obtain⟨f0,f1,f2,f3,f4,f5⟩:=hf it (aU.mpr rfl);have hx:=Array.getElem?_eq_getElem hg;refine wpAny_pyNext_ascii_item st hx λh' pA sb=>?_
  have I1:Inv X pins σ H {s with heap:=h',toks:=s.toks+1}:=I.turned (λb o hb e=>(sb.2 b hb).trans e) f0 f1 f3 f4 f5
  obtain⟨o,e,oc,od⟩:=id pA;exact⟨_,rfl,qt e oc od (by decide) ⟨.str ⟨#[x.cps[i]]⟩,H,I1,⟨_,rfl⟩,⟨rfl,_,hx,rfl⟩,pA,λb hb=>(hf b hb).1⟩⟩
 done:=by
  intro X eP ew eK cm i pins s σ H E I hf st hg;obtain⟨f0,f1,f2,f3,f4,f5⟩:=hf it (aU.mpr rfl);exact wpAny_pyNext_ascii_end (I.ok.hd cm) st (Array.getElem?_eq_none hg) λh' eb=>⟨rfl,I.turned (λb o hb e=>eb b o hb e) f0 f1 f3 f4 f5⟩
 self:=λ_ _ _ _ _ st h=>wpAny_pyIter_striter_ascii st h
abbrev m6(f:MF1)(U:LS):OLD:=(f U).bind λd=>match d with
 |.str x=>if x.cps.all (· < 128)=ac then aa (x.cps.toList.map λch=>.str ⟨#[ch]⟩) else ae
 | _=>ae
def E3:lF G Hf (Its x) (x.cps.toList.map λch=>D.str ⟨#[ch]⟩):=λHf' H' f s i=>by
 refine⟨λd q=>?_,λz=>?_⟩
 .rw[fm]at q
  cases e:x.cps.toList[i]? with
  |none=>rw[e]at q;nomatch q
  |some ch=>
   rw[e]at q;cases q;have hi:i<x.cps.size:=by simpa using (dh.mp e).1
   refine⟨hi,λv H2 ⟨L,T,I,M⟩=>?_⟩;subst L M;rw[<- Array.getElem?_toList,e]at I;cases I;exact⟨Hf',Ext.refl s,rfl⟩
 .rw[aW,tL]at z;exact Nat.le_of_eq z.symm
def E4{l:Expr}{M:TE}(hl:PE X l M):PI X tg l (λσ H R=>M σ H λx H1=>∃z,x=.str z/\z.cps.all (· < 128)=ac/\R (Its z) H1):=by
 intro pins s σ H R I h;refine thn (hl pins s σ H _ I h) λv s1 q_=>?_;obtain⟨x,H1,L,r1,z,T,as,q⟩:=q_;subst T;obtain⟨t,rfl⟩:=r1;refine wpAny_pyIter_ascii as ?_;refine⟨s1.heap.objs.size,_,_,_,H1,rfl,L.kept λb o e=>eH _ e,E2 _ z t,⟨_,fV _ rfl,rfl,rfl⟩,λb hb=>?_,q⟩;cases aU.mp hb;exact L.fpOk Nat.le.refl (L.hok.fresh Nat.le.refl)
def E5{f:MF1}(h:DE c X e f):DI c X tg e (m6 f):=PI.imp (E4 h) λσ H R I=>by
 obtain⟨Hf0,H0,Hf,U,ds,st,q,k⟩:=I;unfold m6 at q
 cases z:f U with
 |none=>rw[z]at q;nomatch q
 |some d=>
  rw[z,aJ]at q
  cases d <;> first |(cases q;done) |skip
  rename_i x;replace q:(if x.cps.all (· < 128)=ac then aa _ else ae)=aa ds:=q;split at q
  .rename_i as;cases q;exact⟨Hf0,H0,Hf,U,_,st,z,λv b3 H1 M L=>⟨x,L,as,k _ b3 H1 M E3⟩⟩
  .nomatch q
abbrev inS(y x:Str):Bool:=!(BG.Str.occurrences x y 0 x.length 1).isEmpty
abbrev m7(y x:D):OD:=match y,x with
 |.str y,.str x=>aa (.bl (inS y x))
 | _,_=>ae
def E6:∀x y d,m7 x y=aa d->d.scalar=ac:=λx y d e=>by
 unfold m7 at e;split at e
 .cases e;rfl
 .nomatch e
def E7:OpD c X (du .In) m7:=by
 rintro pins s σ H vx vy v u Q I L M ⟨Hf,x,y,d,T,q,z,e,k⟩;unfold m7 at e;split at e
 .rename_i y x;cases e;cases (q);cases (z);obtain⟨t,rfl⟩:=L;obtain⟨t',rfl⟩:=M;exact PyProof.Rows.in_str ⟨.bl _,H,I,rfl,k _ Hf H (Ext.refl T) rfl⟩
 .nomatch e
abbrev E8:V->Option Int->Option Int->Hp->VK->Prop:=λx lo hi H Q=>∃z,x=.str z/\z.length<=bE/\Q (.str (gN z lo hi)) H
def E9:SlR X E8:=by
 rintro pins s σ H x v vl vu lo hi sl Q I rx hs pl pu ⟨z,rfl,hz,q⟩;obtain⟨t,rfl⟩:=rx;refine⟨"str",_,F.slot_str_getitem.lookup,typeIs_str _ _ _,?_⟩
 have L:∀t' k,EP X pins σ Q _ {s with toks:=k}:=λt' k=>⟨.str _,H,I.tok k,⟨t',rfl⟩,q⟩
 obtain⟨o,T,M,hd⟩:=hs
 cases pl with
 |none=>
  cases pu with
  |none=>exact qc (l:=ae) (u:=ae) (st:=ae) ⟨o,T,M,hd⟩ rfl (qd ⟨dq (qq z _ _) hz,L⟩)
  |int i ti=>exact qc (l:=ae) (u:=aa (i,ti)) (st:=ae) ⟨o,T,M,hd⟩ rfl (qd ⟨dq (qq z _ _) hz,L⟩)
 |int j tj=>
  cases pu with
  |none=>exact qc (l:=aa (j,tj)) (u:=ae) (st:=ae) ⟨o,T,M,hd⟩ rfl (qd ⟨dq (qq z _ _) hz,L⟩)
  |int i ti=>exact qc (l:=aa (j,tj)) (u:=aa (i,ti)) (st:=ae) ⟨o,T,M,hd⟩ rfl (qd ⟨dq (qq z _ _) hz,L⟩)
abbrev rM(d:D)(lo hi:Option Int):OD:=match d with
 |.str z=>if z.length<=16777216 then aa (.str (gN z lo hi)) else ae
 | _=>ae
def Fa{r:D}(h:rM d lo hi=aa r):∃z,d=.str z/\z.length<=bE/\r=.str (gN z lo hi):=by
 unfold rM at h;split at h
 .split at h
  .rename_i q;cases h;exact⟨_,rfl,by rw[dD];exact q,rfl⟩
  .nomatch h
 .nomatch h
abbrev m8(f:MF1)(l h:LS->Option (Option Int))(U:LS):OD:=(f U).bind λd=>(l U).bind λlo=>(h U).bind λhi=>rM d lo hi
def zE{f:MF1}{l h:LS->Option (Option Int)}{lo hi:Option Expr}(ha:DE c X e f)(hl:DPt c X lo l)(hh:DPt c X hi h):DE c X (.Subscript e (.Slice lo hi ae p2) pos) (m8 f l h):=
 PE.imp (uD E9 ha hl hh) λσ H Q q_=>by
  obtain⟨Hf0,H0,Hf,U,r,st,q,k⟩:=q_;unfold m8 at q
  cases L:f U with
  |none=>rw[L]at q;nomatch q
  |some d=>
   rw[L,aJ]at q
   cases M:l U with
   |none=>rw[M]at q;nomatch q
   |some lo'=>
    rw[M,aJ]at q
    cases T:h U with
    |none=>rw[T]at q;nomatch q
    |some hi'=>
     rw[T,aJ]at q;obtain⟨z,rfl,hz,rfl⟩:=Fa q;exact⟨Hf0,H0,Hf,U,_,st,L,λv b3 H1 x1 r1=>⟨Hf0,H0,b3,U,lo',st.step x1,M,λb0 H2 x2=>⟨Hf0,H0,b0,U,hi',(st.step x1).step x2,T,λI H3 x3=>⟨z,r1,hz,k _ I H3 ((x1.trans x2).trans x3) rfl⟩⟩⟩⟩
def lQ:DS c X st (λ_=>ae):=λpins s σ H E I z=>by
 obtain⟨Hf0,H0,Hf,U,o,L,q,k⟩:=z
 nomatch q
variable{t:Nat}
def zF(z:js[t]?=aa j)(q:U[j]?=aa s):(cR k js U)[k+t]?=aa s:=by
 unfold cR;rw[me (by rw[jU];exact k9 _ _),jU,Nat.add_sub_cancel_left,fm,z];show aa ((U[j]?).getD .no)=_;rw[q];rfl
variable{jp:Nat}
def aB.compP(k:Nat)(h:aB G Hf0 H0 Hf H σ U)(hj:js.Nodup)(I:U[jp]?=aa (.pin l xs))(hc:∀j∈js,j=jp\/((U[j]?).getD .no).calm=ac):
  aB G Hf (dN H l) Hf H (gu k js σ) (cR k js U):=by
 obtain⟨l',el,h0,hf,M,us,hu,rx⟩:=h.ownAt rfl I;subst M;have st:=h.comp k hj;refine st.re (Ext.grow (vj h.sub hf) zc) rfl (λi v s a b=>?_) λi s v a b c d=>⟨s,b,d⟩;have q:=st.at' i v s a b
 rcases j7 b with⟨_,e⟩ |⟨_,b⟩
 .subst e;trivial
 .obtain⟨j,ej,es⟩:=mO b
  rcases hc j (p7 ej)with e |e
  .subst e;rw[I]at es;subst es;obtain⟨l2,L,_,z,T,w⟩:=q;subst T;exact⟨_,L,rq,z,rfl,w⟩
  .rw[<- es]at e
   cases s with
   |no=>trivial
   |im d=>exact q
   | _=>nomatch e
section
variable(k:Nat)(js:LN)(jp t:Nat)(g:D->LS->Option LS)(fe:Xe)(U:LS)(l:Addr)
open Classical in
abbrev jK(d:D)(xs:LD):Option (D×LD):=(g d (cR k js (U.set jp (.pin l xs)))).bind λρ1=>(fe ρ1).bind λq=>match q.2[k+t]? with
 |some (.pin _ c0)=>if ∀i,k<=i->q.2[i]?=(cR k js (U.set jp (.pin l c0)))[i]? then aa (q.1,c0) else ae
 | _=>ae
abbrev f8:LD->LD->Option (LD×LD)
 | [],xs=>aa ([],xs)
 |d::ds,xs=>(jK k js jp t g fe U l d xs).bind λy=>(f8 ds y.2).map λr=>(y.1::r.1,r.2)
end
abbrev je(k:Nat)(js:LN)(jp t:Nat)(fi:Xa)(g:D->LS->Option LS)(fe:Xe):Xe:=λU=>(fi U).bind λp=>match p.2[jp]? with
 |some (.pin l xs)=>if p.1.length<=16777216/\js[t]?=aa jp/\(js.all λj=>j==jp || ((p.2[j]?).getD .no).calm)=ac then (f8 k js jp t g fe p.2 l p.1 xs).map λq=>(.lst q.1,p.2.set jp (.pin l q.2)) else ae
 | _=>ae
variable{g:D->LS->Option LS}{fe:Xe}{c0:LD}
def Fb(h:jK k js jp t g fe U l d xs=aa (y,c0)):∃ρ1 z,g d (cR k js (U.set jp (.pin l xs)))=aa ρ1/\fe ρ1=aa (y,z)/\(∃L,z[k+t]?=aa (.pin L c0))/\∀i,k<=i->z[i]?=(cR k js (U.set jp (.pin l c0)))[i]?:=by
 unfold jK at h
 cases M:g d _ with
 |none=>rw[M]at h;nomatch h
 |some ρ1=>
  rw[M,aJ]at h
  cases I:fe ρ1 with
  |none=>rw[I]at h;nomatch h
  |some q=>
   rw[I,aJ]at h;split at h
   .rename_i L zs T;split at h
    .rename_i hi;cases h;exact⟨ρ1,q.2,rfl,I,⟨L,T⟩,hi⟩
    .nomatch h
   .nomatch h
def Fc(h:f8 k js jp t g fe U l (d::ds) xs=aa (rs,ys)):∃y c0 r,jK k js jp t g fe U l d xs=aa (y,c0)/\f8 k js jp t g fe U l ds c0=aa (r,ys)/\rs=y::r:=by
 unfold f8 at h
 cases z:jK k js jp t g fe U l d xs with
 |none=>rw[z]at h;nomatch h
 |some y=>
  rw[z,aJ]at h
  cases q:f8 k js jp t g fe U l ds y.2 with
  |none=>rw[q]at h;nomatch h
  |some r=>rw[q]at h;cases h;exact⟨y.1,y.2,r.1,rfl,q,rfl⟩
def rN(h:U[jp]?=aa s):(U.set jp s')[jp]?=aa s':=fH (dh.mp h).1
variable{fi:Xa}
def zG(hj:js.Nodup)(hk:∀d U ρ' i,g d U=aa ρ'->k<=i->ρ'[i]?=U[i]?)(d8:∀d U ρ',g d U=aa ρ'->ρ'.length=U.length){Q:VK}(h:tDX G (je k js jp t fi g fe) σ H Q):
  mF k js (rA G fi) (tDG G g) (tDT G λ_=>aa ac) (tDX G fe) σ H Q:=by
 obtain⟨Hf0,H0,Hf,ρ0,d0,ρ',st,I,kq⟩:=h;unfold je at I
 cases e1:fi ρ0 with
 |none=>rw[e1]at I;nomatch I
 |some p=>
  obtain⟨ds,U⟩:=p;rw[e1,aJ]at I;dsimp only at I;split at I
  .rename_i l xs ep;split at I
   .rename_i hz;obtain⟨hz,ht,hcm⟩:=hz
    cases e2:f8 k js jp t g fe U l ds xs with
    |none=>rw[e2]at I;nomatch I
    |some q=>
     obtain⟨rs,zs⟩:=q;rw[e2]at I;cases I;refine⟨Hf0,H0,Hf,ρ0,ds,U,st,e1,λJ b3 H1 f1 gp it=>?_⟩
     have hcm':=λj T=>by
      have:=all_eq_true.mp hcm j T;rw[fG]at this;exact this.imp beq_iff_eq.mp id
     have M:U.set jp (.pin l xs)=U:=by
      apply mi;intro i
      by_cases hi:jp=i
      .subst hi;rw[rN ep,ep]
      .rw[eN hi]
     have st0:aB G b3 (dN H1 l) b3 H1 (gu k js σ) (cR k js (U.set jp (.pin l xs))):=by rw[M];exact gp.compP k hj ep hcm'
     obtain⟨l9,el9,_,hf9,e9,_⟩:=gp.ownAt rfl ep;subst e9
     refine⟨λi m ys σ' H'=>m=ds.length-i/\i<=ds.length/\∃Hf' as c0 bv,aB G b3 _ Hf' H' σ' (cR k js (U.set jp (.pin l9 c0)))/\aC G Hf' as ys/\f8 k js jp t g fe U l9 (ds.drop i) c0=aa (bv,zs)/\rs=as++bv/\as.length<=i,
      ⟨ds.length,rfl,gl _,b3,[],xs,rs,st0,rfl,e2,rfl,bC _⟩,?_⟩
     rintro i m ys σ' H' ⟨rfl,hi,Hf',as,c0,bv,z,ra,ec,er,hal⟩;have hys:ys.length<=bE:=by rw[dD,<- ra.length];lia
     obtain⟨ou,it2⟩:=it Hf' H' z.ext.f z.sub i
     by_cases hlt:i<ds.length
     .obtain⟨d,ed,ky⟩:=j8 hlt;obtain⟨go,yl⟩:=ou d ed
      refine .inr ⟨go,hys,λys' gg H2=>ds.length-_=ds.length-_/\i+1<=ds.length/\∃Hf' as c0 bv,aB G b3 _ Hf' H2 gg _/\aC G Hf' as ys'/\f8 k js jp t g fe U l9 _ c0=aa _/\rs=as++bv/\as.length<=i+1,
       λys' gg H2 w=>⟨ds.length-(i+1),by lia,w⟩,λx H2 y=>?_⟩
      obtain⟨b0,x3,rx⟩:=yl x H2 y;rw[ky]at ec;obtain⟨y',xs2,r',et,ec',L⟩:=Fc ec;obtain⟨ρ1,b5,eg,ee,⟨l',ex⟩,hag⟩:=Fb et;refine⟨b3,dN H1 l9,b0,_,d,ρ1,z.step x3,rx,eg,λhY kF=>⟨b3,dN H1 l9,b0,ρ1,ac,kF,rfl,λHf4 H4 x4=>yi ⟨b3,dN H1 l9,Hf4,ρ1,y',b5,kF.step x4,ee,λv Hf5 H5 f5 st5 r5=>?_⟩⟩⟩
      have hl2:(cR k js (U.set jp (.pin l9 xs2))).length=b5.length:=by
       rw[<- st5.len,kF.len,d8 _ _ _ eg];unfold cR;rw[bh,bh,aW,aW]
      refine⟨rfl,hlt,Hf5,as++[y'],xs2,r',st5.weak hl2 λj s hs=>?_,(ra.up ((x3.f.trans x4.f).trans f5)).append (.cons r5 .nil),ec',by rw[er,L,ik];rfl,by rw[bh,fS];lia⟩
      rcases j7 hs with⟨_,e⟩ |⟨T,_⟩
      .exact .inl e
      .exact .inr (by rw[hag j T];exact hs)
     .have ei:i=ds.length:=by lia
      subst ei;refine .inl ⟨it2 rfl,hys,λD h1 h2=>?_⟩;rw[kZ (bC _)]at ec;cases ec;rw[cV]at er;subst er;obtain⟨l3,el3,h03,hf3,e3,us3,hu3,rx3⟩:=z.ownAt rfl (zF ht (rN ep));subst e3;have xn:=Ext.new (o:=.lst ys) z.sub h2;exact kq _ _ _ (f1.trans (z.ext.f.trans xn.f)) ((gp.back (s':=.pin l3 zs) rfl rfl ep el9 z.ext hf3 ⟨rfl,us3,hu3,rx3⟩).step xn) ⟨D,ys,rfl,bT,ra.up xn.f⟩
   .nomatch I
  .nomatch I
def Fd(k:Nat)(js:LN)(jp t:Nat)(Nc:LSt)(I:X.calm=ac)(hi:DXi c X tg iter fi)(q:∀cl C ex al bo,DG c (X.comp scope Nc cl C ex al bo) tg k g)
 (L:∀cl C ex al bo,DX c (X.comp scope Nc cl C ex al bo) c4 fe)(z:iX scope X.env.scope.names X.N Nc k js=ac:=by rfl)(T:∀x,gK iter X.env x=pure x:=by intro _;rfl)(M:js.Nodup:=by decide):
  DX c X (.ListComp c4 [⟨tg,iter,[],0⟩] scope pos) (je k js jp t fi g fe):=
 PE.imp (yu (tt:=tDT (Gx c X) λ_=>aa ac) (te:=tDX (Gx c X) fe) k js Nc I hi (λcl C ex al bo=>(q cl C ex al bo).pg) (λcl C ex al bo=>dU) L z T) λσ H Q h=>
  zG M (q [] 0 [] X.s₀ X.H₀).keep (q [] 0 [] X.s₀ X.H₀).len h
abbrev rO:LD->OD
 | [.int a]=>aa (.int (if a<0 then -a else a))
 | _=>ae
abbrev kr:LD->Option LSt
 | []=>aa []
 |.str x::ds=>(kr ds).map (x::·)
 | _=>ae
def zH:∀{ds:LD} {q:LSt},kr ds=aa q->ds=q.map D.str
 | [],q,h=>by cases h;rfl
 |d::ds,q,h=>by
  cases d with
  |str x=>
   have h:(kr ds).map _=aa q:=h
   cases e:kr ds with
   |none=>rw[e]at h;cases h
   |some ys=>rw[e]at h;cases h;rw[zH e];rfl
  | _=>cases h
def vw{m:LD->OD}{f:Xa}{id:String}(hc:mL c X (.builtin id) m)(hg:Gl X x)(hm:X.mg x=ae)(hv:gL x=aa (.builtin id))(ha:DAX c X (e::es) f)(hn:x ≠ "__name__":=by decide)(hO:NDb x:=by decide)
 (he:StE X e es:=by rfl)(hX:BkE X pos es:=by rfl):
  DX c X (.Call (.Name x p) (e::es) [] pos) (km m f):=PE.imp (mC hc hg hm hv ha.pa hn hO he hX) λσ H Q q_=>by
 obtain⟨Hf0,H0,Hf,U,d,ρ',st,I,kq⟩:=q_;unfold km at I
 cases M:f U with
 |none=>rw[M]at I;nomatch I
 |some q=>
  obtain⟨ds,ρ1⟩:=q;rw[M,aJ]at I
  cases T:m ds with
  |none=>rw[T]at I;nomatch I
  |some z=>
   rw[T]at I;cases I;exact⟨Hf0,H0,Hf,U,ds,_,st,M,λvs Hf' H' f1 L r=>⟨Hf',ds,_,L.sub,r,T,λv b0 H2 x2 r2=>kq v b0 H2 (f1.trans x2.f) (L.step x2) r2⟩⟩
def Fe:mL c X (.builtin "abs") rO:=by
 rintro pins s σ H vs us Q I T ⟨Hf,ds,d,s0,r,e,k⟩;unfold rO at e;split at e
 .rename_i a;cases e;obtain⟨v1,vs1,rfl,q,z⟩:=r;cases (z);cases (q)
  cases T with
  |cons L M=>
   cases M;obtain⟨t,rfl⟩:=L;exact call_abs_int λu tk=>⟨.int _,H,I.tok tk,⟨u,rfl⟩,k _ Hf H (Ext.refl s0) rfl⟩
 .nomatch e
abbrev vz:D->Option Str
 |.str z=>if z.length<=16777216 then aa z else ae
 |.int i=>if i.natAbs.log2<1920 then aa (ToString.toString i) else ae
 | _=>ae
abbrev hV(out:Str)(q:LSt):Str:=q.foldl (·++·) out
def vA:∀(q:LSt) (out:Str),out.length<=(hV out q).length
 | [],_=>bC _
 |z::q,out=>by
  have:=vA q (out++z);rw[Str.length_append]at this;show out.length<=(hV (out++z) q).length;lia
abbrev DFs(c:Str->Addr)(X:Cx)(es:LEx)(f:LS->Option LSt):Prop:=∀(pins:PNS) (s:aM) (σ:St) (H:Hp) (Q:VK) (out:Str),Inv X pins σ H s ->
 (∃Hf0 H0 Hf U q,aB (Gx c X) Hf0 H0 Hf H σ U/\f U=aa q/\(hV out q).length<=16777216/\∀Hf' H',Ext Hf H Hf' H'->Q (.str (hV out q)) H')->wpAny (model X.prog X.w) X.A (joinParts out (evalEach es X.env)) (EP X pins σ Q) X.xe s
abbrev mFc(x:Str)(g:LS->Option LSt)(U:LS):Option LSt:=(g U).map (x::·)
abbrev mFv(f:MF1)(g:LS->Option LSt)(U:LS):Option LSt:=(f U).bind λd=>(vz d).bind λz=>(g U).map (z::·)
abbrev mFs(f:LS->Option LSt)(U:LS):OD:=(f U).bind λq=>if (hV ln q).length<=16777216 then aa (.str (hV ln q)) else ae
def vB:DFs c X [] nZ:=λpins s σ H Q out I L=>by
 obtain⟨Hf0,H0,Hf,U,M,st,q,z,k⟩:=L
 exact (by
 cases q;exact joinParts_nil ⟨.str out,H,I.tok _,⟨_,rfl⟩,k Hf H (Ext.refl st.sub)⟩ (by rw[dD];exact z))
variable{g:LS->Option LSt}
def lR(M:DFs c X es g):DFs c X (.Constant (.str x) j pos::es) (mFc x g):=λpins s σ H Q out I q_=>by
 obtain⟨Hf0,H0,Hf,U,zs,st,q,T,k⟩:=q_
 exact (by
 unfold mFc at q
 cases z:g U with
 |none=>rw[z]at q;nomatch q
 |some ys=>
  rw[z]at q;cases q;have h1:=vA ys (out++x);have L:(hV (out++x) ys).length<=16777216:=T;exact joinParts_cons (Calls.Constant_str ⟨by rw[dD];lia,(M pins _ σ H Q _ (I.tok _) ⟨Hf0,H0,Hf,U,ys,st,z,L,k⟩)⟩))
variable{s:aM}
def Ff{z:Str}{u:Value}{Q:PRS}(e:vz d=aa z)(r:Rep G Hf d v)(L:bj v u)(k:∀t tk,Q (.str z t) {s with toks:=tk}):wpAny (model prog w) A (formatField u ln) Q E s:=by
 cases d with
 |str y=>
  replace e:(if y.length<=16777216 then aa y else ae)=aa z:=e;split at e
  .rename_i M;have I:=cs e;subst I;subst r;obtain⟨t,q⟩:=L;subst q;exact formatField_str k (by rw[dD];exact M)
  .nomatch e
 |int n=>
  replace e:(if n.natAbs.log2<1920 then aa _ else ae)=aa z:=e;split at e
  .rename_i hn;have I:=cs e;subst I;subst r;obtain⟨t,q⟩:=L;subst q;exact formatField_int_small hn (k _ _)
  .nomatch e
 | _=>nomatch e
def rP{f:MF1}(he:DE c X e f)(hr:DFs c X es g):DFs c X (.FormattedValue e (-1) ae pos::es) (mFv f g):=λpins s σ H Q out I q_=>by
 obtain⟨Hf0,H0,Hf,U,zs,st,q,hz,k⟩:=q_
 exact (by
 unfold mFv at q
 cases L:f U with
 |none=>rw[L]at q;nomatch q
 |some d=>
  rw[L,aJ]at q
  cases M:vz d with
  |none=>rw[M]at q;nomatch q
  |some z=>
   rw[M,aJ]at q
   cases T:g U with
   |none=>rw[T]at q;nomatch q
   |some ys=>
    rw[T]at q;cases q;have h1:=vA ys (out++z);have h2:(hV (out++z) ys).length<=16777216:=hz;have h3:(out++z).length<=bE:=by rw[dD];lia
    refine joinParts_cons (FormattedValue_plain ?_);exact thn (he pins s σ H (λv H'=>∃Hf',Ext Hf H Hf' H'/\Rep _ Hf' d v) I ⟨Hf0,H0,Hf,U,d,st,L,λv Hf' H' x r=>⟨Hf',x,r⟩⟩) λu s1 ⟨v,H1,I1,r1,b3,x1,rd⟩=>(Ff M rd r1 λt tk=>⟨h3,hr pins _ σ H1 Q _ (I1.tok tk) ⟨Hf0,H0,b3,U,ys,st.step x1,T,h2,λHf' H' x=>k Hf' H' (x1.trans x)⟩⟩))
def vC{f:LS->Option LSt}(h:DFs c X (a::b::es) f):DE c X (.JoinedStr (a::b::es) pos) (mFs f):=λpins s σ H Q I M=>by
 obtain⟨Hf0,H0,Hf,U,d,st,q,k⟩:=M
 exact (by
 unfold mFs at q
 cases z:f U with
 |none=>rw[z]at q;nomatch q
 |some T=>
  rw[z,aJ]at q;split at q
  .rename_i L;cases q;exact JoinedStr_many (h pins s σ H Q ln I ⟨Hf0,H0,Hf,U,T,st,z,L,λHf' H' x=>k _ Hf' H' x rfl⟩)
  .nomatch q)
def rQ(i:Nat){g:Xa}(I:DAX c (X.comp scope Nc cl C ex al bo) es g)(hN:Nc[i]?=aa x:=by rfl)(hv:Vis scope x:=by first |exact bS rfl |exact bp (bS rfl) |exact bp (bp rfl))(hd:NDb x:=by decide)
 (q:NCd x:=by decide)(hs:aX (.Name x pos::es) (X.comp scope Nc cl C ex al bo).env=(ak,eval (.Name x pos) (X.comp scope Nc cl C ex al bo).env)::aX es (X.comp scope Nc cl C ex al bo).env:=by rfl):DMX c (X.comp scope Nc cl C ex al bo) (.Name x pos::es) i g:=
 ⟨PA.imp (cj (pvc i hN hv hd q) I.pa hs) λσ H Q ⟨Hf0,H0,Hf,U,ds,ρ',l,st,M,L,k⟩=>⟨_,M,Hf0,H0,Hf,U,ds,ρ',st,L,λvs Hf' H' T z r=>k vs Hf' H' T z r⟩,λU ds ρ' h=>by
  rw[b9,I.len U ds ρ' h]⟩
variable{Ar:dE}{Ex:PRS}
def Fg{q:Model}{st:aM}{x y:Value}{T id:String}{Q:PRS}(z:st.TypeIs x T)(L:st.TypeIs y T)(sl:Slot T (dunderI "add") id)(I:isSeqSlot (aa (.builtin id))=ac)
 (M:fillsNumberSlot (.type T) "add"=pure ak)(go:wpAny q Ar (call (.builtin id) [x,y]) Q Ex st):wpAny q Ar (inplaceOp .Add x y) Q Ex st:=by
 have no:fillsInplaceSlot (.type T) "add" ac=pure ak:=by
  simp only[fillsInplaceSlot,sl.lookup,pure_bind,I];rfl
 apply jo;exact bW (wpAny_typeOf z (bW (wpAny_of_eq no ((bW (wpAny_binaryOp1_none z L M (bW (wpAny_of_eq (PySem.seqSlot_of sl.lookup I) (bW (wpAny_rule go)))))):wpAny q Ar _ Q Ex st))))
abbrev Fh:TIp:=λx y H Q=>∃l b xs q,x=.ref l/\y=.ref b/\H l=aa (.lst xs)/\H b=aa (.lst q)/\xs.length+q.length<=bE/\Q (.ref l) (upd H l (.lst (xs++q)))
def Fi:PIp X .Add Fh:=by
 rintro pins s σ H _ _ v u Q I rx ry ⟨l,b,xs,zs,rfl,rfl,T,h2,hz,q⟩;subst rx;subst ry;obtain⟨_,its,n,r,hl,e⟩:=I.lstM T;obtain⟨_,z,n2,r2,hl2,M⟩:=I.lstM h2;have L:its.toArray.size+z.toArray.size<=bE:=by simp only[size_toArray];lia
 refine Fg ⟨_,e,rfl⟩ ⟨_,M,rfl⟩ F.slot_list_iadd (by decide +kernel) noFill_list_add (call_meets F.slot_list_iadd ⟨_,e,rfl⟩ F.entry_list_iadd (F.args_list_iadd_2 _ _)
  (AutoSeq1.list___iadd___list_list_0 l its.toArray n b z.toArray n2 (by rw[yd L];simp) (by simp only[size_toArray];lia) (by lia)) ⟨e,M,.ref l,_,I.lset T e (by simp) (r.append r2) (by rw[bh];lia),rfl,q⟩)
abbrev oW(i:Nat)(f:Xe)(U:LS):Option Fl:=match U[i]? with
 |some (.own _)=>(f U).bind λp=>match p.2[i]?,p.1 with
  |some (.own xs),.lst ys=>if xs.length+ys.length<=16777216 then aa (.nx (p.2.set i (.own (xs++ys)))) else ae
  | _,_=>ae
 | _=>ae
def Fj(i:Nat){f:Xe}(hN:X.N.Nodup)(he:DX c X e f)(hi:X.N[i]?=aa x:=by rfl)(hx:Loc X.env.scope x:=by first |exact bS rfl |exact bp rfl)(hf:LcF X x:=by first |exact .inl rfl |exact .inr rfl):
  DS c X (.AugAssign (.Name x b4) .Add e pos) (oW i f):=PS.imp (xH hN hi hx he Fi hf) λE σ H q_=>by
 obtain⟨Hf0,H0,Hf,U,o,so,z,k⟩:=q_;unfold oW at z;split at z
 .rename_i xs0 es0
  cases M:f U with
  |none=>rw[M]at z;nomatch z
  |some p=>
   rw[M,aJ]at z;split at z
   .rename_i xs ys es ed;split at z
    .rename_i hl;cases z;obtain⟨l,L,h0,hf,vs0,q0,r0⟩:=so.ownAt rfl es0;obtain⟨d,ρ1⟩:=p;subst ed;refine⟨_,L,Hf0,H0,Hf,U,_,ρ1,so,M,λv Hf' H' s I r'=>?_⟩;obtain⟨l2,e3,h02,hf2,vs,q,r⟩:=I.ownAt rfl es;rw[L]at e3;cases e3;obtain⟨b,zs,rfl,hb,rz⟩:=r';refine⟨l,b,vs,zs,rfl,rfl,q,I.sub _ _ hb,by rw[dD,<- r.length,<- rz.length];exact hl,?_⟩
     have T:σ.set i (aa (.ref l))=σ:=by
      apply mi;intro j
      by_cases hj:j=i
      .subst hj;rw[fH ((dh.mp L).1),L]
      .rw[eN (eE hj)]
     show E.nx _ _;rw[T];exact k σ Hf' _ s (I.mutd rfl rfl es L ⟨vs++zs,bT,r.append rz⟩)
    .nomatch z
   .nomatch z
 .nomatch z
variable{g:D->LS->Option LS}
def Fk(i:Nat)(k:Nat)(js:LN)(jp t:Nat)(Nc:LSt)(hN:X.N.Nodup)(hc:X.calm=ac)(hi:DXi c X tg iter fi)(I:∀cl C ex al bo,DG c (X.comp scope Nc cl C ex al bo) tg k g)
 (he:∀cl C ex al bo,DX c (X.comp scope Nc cl C ex al bo) c4 fe)(L:X.N[i]?=aa x:=by rfl)(hx:Loc X.env.scope x:=by first |exact bS rfl |exact bp rfl)
 (M:fJ (.ListComp c4 [⟨tg,iter,[],0⟩] scope pos) (aa (.Name x b4)) d9.line X.env=pure ac:=by rfl)(ck:iX scope X.env.scope.names X.N Nc k js=ac:=by rfl)(hs:∀x,gK iter X.env x=pure x:=by intro _;rfl)
 (hf:LcF X x:=by first |exact .inl rfl |exact .inr rfl)(hj:js.Nodup:=by decide):
  DS c X (.Assign [.Name x b4] (.ListComp c4 [⟨tg,iter,[],0⟩] scope pos) d9) (bU i (je k js jp t fi g fe)):=
 PS.imp (qG (tt:=tDT (Gx c X) λ_=>aa ac) (te:=tDX (Gx c X) fe) k js Nc hN L hx hc hi (λcl C ex al bo=>(I cl C ex al bo).pg) (λcl C ex al bo=>dU) he M ck hs hf) λE σ H q_=>by
  obtain⟨Hf0,H0,Hf,U,o,so,q,kk⟩:=q_;unfold bU at q
  cases z:je k js jp t fi g fe U with
  |none=>rw[z]at q;nomatch q
  |some p=>
   rw[z]at q;cases q;exact zG hj (I [] 0 [] X.s₀ X.H₀).keep (I [] 0 [] X.s₀ X.H₀).len ⟨Hf0,H0,Hf,U,p.1,p.2,so,z,λv Hf' H' s T r=>kk _ Hf' H' s (T.setIm r)⟩
abbrev CX1(P:dJ)(w:World):CXT:=λouter H s E e s'=>∃a cls q H' B,e=.ref a/\qo B outer a cls q s'.heap/\s'.os=s.os/\iT s'.gens/\Un (frs outer) [] H H' s.heap s'.heap/\HOk P w H' s'.heap /\
 (∀b,H' b≠ae->B.get? b≠ae)/\(∀b o,s.heap.get? b=aa o->b∉frs outer->B.get? b≠ae)/\E cls ae H'
variable{h:Heap}{a:Addr}
def fM.obj{o:HO}(x:fM P w H h a o):∃u,h.get? a=aa u:=by
 cases o with
 |lst xs=>obtain⟨_,_,_,_,e⟩:=x;exact⟨_,e⟩
 |tup xs=>obtain⟨_,_,_,o,e,_⟩:=x;exact⟨_,e⟩
 |dK kvs=>obtain⟨_,_,_,_,o,_,_,e,_⟩:=x;exact⟨_,e⟩
 |dT kvs=>obtain⟨_,_,_,_,o,_,_,e,_⟩:=x;exact⟨_,e⟩
 |set S n=>obtain⟨o,_,_,_,e,_⟩:=x;exact⟨_,e⟩
 |ins C dx fs=>obtain⟨_,_,_,e,_⟩:=x;exact⟨_,e⟩
 |own y=>obtain⟨_,e⟩:=x;exact⟨_,e⟩
 |xd fs=>obtain⟨_,⟨_,_,_,e,_⟩,_⟩:=x;exact⟨_,e⟩
 |rng lo hi=>obtain⟨_,_,_,e⟩:=x;exact⟨_,e⟩
 |frz o u=>exact⟨_,x.1⟩
 |tbl ps=>exact⟨_,x⟩
 |met f y=>exact⟨_,x⟩
 |ext φ=>exact x.2.1
variable{E:XK}{cls:Value}
def zI{G:LAd}{a0:Value}(J:Inv X pins σ H s)(hex:X.ex=[])(hst:∀b∈frs X.stack,b∈G)(mu:∀b∈G,H b=ae)
 (M:∀b∈G,∀o,X.s₀.heap.get? b=aa o->b∈X.fs)(hfl:qo (ms s.heap G) X.outer a cls a0 h')(hup:s.heap.UpToSlots h')(hE:E cls ae H):
  CX1 X.prog X.w X.outer X.H₀ X.s₀ E (.ref a) {s with heap:=h'}:=by
 have stay:=λb o e n=>hfl.1 b o (nS _ e n)
 have frame:=λb o e L=>by
  refine hup b o e λvs hv=>?_;obtain⟨_,o',ho',hd⟩:=J.funs.mem L;rw[e]at ho';cases ho';exact hd vs hv
 have L:=J.base;rw[hex]at L;have ne:∀b:Addr,b∉([]:LAd):=λb h=>by nomatch h
 refine⟨a,cls,a0,H,_,rfl,hfl,J.os,J.bare,⟨λb o e n T _=>(stay b o (L.keep b o e n T (ne b)) λI=>T (M b I o e)),λb o e n T _=>?_,L.free,λb o e _=>?_,L.tups,L.frzs,L.tbls⟩,λb o e=>?_,λb hb'=>?_,λb o e T=>?_,hE⟩
 .obtain⟨sl,h1⟩:=L.slot b o e n T (ne b);obtain⟨sl2,h2⟩:=frame b _ h1 T;exact⟨sl2,h2⟩
 .obtain⟨o',h1⟩:=L.there b o e (ne b)
  by_cases I:b∈G
  .obtain⟨sl,h2⟩:=frame b o' h1 (M b I o e);exact⟨_,h2⟩
  .exact⟨o',stay b o' h1 I⟩
 .refine(J.hok b o e).stay (λc u hc hu=>stay c u hu λI=>?_) (λ_ q=>q) λ_ _ q=>q
  rcases hc with rfl |hc
  .rw[mu _ I]at e;nomatch e
  .rw[mu _ I]at hc;nomatch hc
 .cases eb:H b with
  |none=>exact absurd eb hb'
  |some o=>
   obtain⟨u,hu⟩:=(J.hok b o eb).obj;rw[nS _ hu λI=>by rw[mu _ I]at eb;cases eb];exact λz=>by nomatch z
 .obtain⟨o',h1⟩:=L.there b o e (ne b);rw[nS _ h1 λI=>T (M b I o e)];exact λz=>by nomatch z
def rR{base h:Heap}{as:LAd}:∀{l:List Env},h.FunFrames base l->(∀b∈frs l,b∈as)->h.FunFrames (ms h as) l
 | [],_,_=>trivial
 |env::l,⟨hk,⟨L,o,hf,_,ho,hd⟩,hr⟩,eC=>⟨hk,⟨L,o,hf,mr _ (eC L (by unfold frs;rw[k6,hf];exact bP)),ho,hd⟩,rR hr λb q=>eC b (by unfold frs;rw[k6,hf];exact cF _ q)⟩
def Inv.stkNew(J:Inv X pins σ H s):∀b∈frs X.stack,∀o,X.s₀.heap.get? b=aa o->b∈X.fs:=λb q o e=>by
 rcases bG.mp (J.stkSub b q)with rfl |h
 .exact absurd (cb e) (Nat.not_lt.mpr J.ok.above)
 .exact h
variable{M:Model}
def Fm{e:Addr}{args:LVa}{Q:Unit->aM->Prop}(J:Inv X pins σ H s)(hex:X.ex=[])(L:X.stack=X.env::X.outer)(hf:X.env.frame=aa X.env.locals)(T:Heap.MadeExcOf s.heap h e cls args)(hE:E cls ae H)
 (hQ:∀s',CX1 X.prog X.w X.outer X.H₀ X.s₀ E (.ref e) s'->Q () s'):wpAny M X.A (leaving X.env (.ref e)) Q Ex {s with heap:=h}:=by
 have I:=J.ok.frames;rw[L]at I;refine wpAny_leaves_madeW I hf (λb o q=>W.of_hideAll _ q) (by rw[<- L];exact rR J.stack λb z=>z) T λh' t f1 f2 f3 f4=>hQ _ ?_;have:=zI J hex (λb z=>z) J.stkFree J.stkNew f1 ((Heap.UpToSlots.of_keeps T.keeps).trans f4) hE;exact this
def Fo{e:Value}{s':aM}{Q:Unit->aM->Prop}(I:Inv X pins σ H s)(hex:X.ex=[])(hs:X.stack=X.env::X.outer)(hf:X.env.frame=aa X.env.locals)(h:CX1 X.prog X.w X.stack H s E e s')
 (hQ:∀s'',CX1 X.prog X.w X.outer X.H₀ X.s₀ E e s''->Q () s''):wpAny M X.A (leaving X.env e) Q Ex s':=by
 obtain⟨a,cls,a0,H',B,rfl,fl,os,bare,un,hok,kB,kS,hE⟩:=h;have J:=I.call' os un hok bare λb z=>by nomatch z
 obtain⟨f1,f2,f3,oe,vs,T,oT,ts,t1,t2,t3,t4,t5,t6,t7,t8,t9⟩:=fl;have fr:=J.ok.frames;rw[hs]at fr
 have inS:∀b o,X.s₀.heap.get? b=aa o->b∉X.fs->B.get? b≠ae:=λb o e n=>by
  obtain⟨o',h1⟩:=I.base.there b o e (by rw[hex];exact λz=>by nomatch z);exact kS b o' h1 λhm=>n (I.stkNew b hm o e)
 have hG:∀b∈frs X.stack++[a,T],H' b=ae:=λb L=>by
  rcases bV.1 L with L |L
  .exact J.stkFree b L
  .cases q:H' b with
   |none=>rfl
   |some o=>
    have:=kB b (by rw[q];exact λz=>by nomatch z)
    rcases bG.1 L with rfl |L
    .exact absurd f2 this
    .rw[aU.1 L]at this;exact absurd t5 this
 have hN:∀b∈frs X.stack++[a,T],∀o,X.s₀.heap.get? b=aa o->b∈X.fs:=λb L o e=>by
  rcases bV.1 L with L |L
  .exact J.stkNew b L o e
  .by_cases n:b∈X.fs
   .exact n
   .have:=inS b o e n
    rcases bG.1 L with rfl |L
    .exact absurd f2 this
    .rw[aU.1 L]at this;exact absurd t5 this
 have hfl:qo (ms s'.heap (frs X.stack++[a,T])) (X.env::X.outer) a cls a0 s'.heap:=
  ⟨λb o q=>W.of_hideAll _ q,mr _ (by simp),by rw[<- hs];exact rR f3 λb L=>iQ _ L,oe,vs,T,oT,ts,t1,t2,t3,t4,mr _ (by simp),t6,t7,t8,t9⟩
 exact wpAny_leaves_onW fr hf hfl λh' x1 x2=>hQ _ (zI J hex (λb L=>iQ _ L) hG hN x1 x2 hE)
@[reducible]noncomputable def Fp:LVa:=[.type "ValueError",.type "Exception",.type "BaseException",.type "object"]
@[reducible]noncomputable def f9(K:bu)(C:Addr):Bool:=W.excIn K C Fp "ValueError.__new__"
variable{nid:String}
def vD{z:LVa}(I:K.In h)(q:W.excIn K C z nid=ac):
  ∃L N nm T bs hd sn sub ab col dd k0 k1 k2 k3 k5 mN,h.get? C=aa (excClassObj nm T C N bs L hd sn sub ab col dd k0 k1 k2 k3 k5 nid)/\h.Ns N mN/\mN "__init__"=ae/\OwnTail h z L:=by
 unfold W.excIn at q;split at q
 .rename_i dd cd sl ho;split at q
  .rename_i C' L k0 k1 k2 k3 n k5 hm hs;simp only[cx,beq_iff_eq,Bool.not_eq_true']at q;obtain⟨⟨⟨⟨⟨q1,q2⟩,q3⟩,q4⟩,q5⟩,q6⟩:=q;subst q1 q2
   cases cd with
   |mk nm bs mro ns T hd sn sub ab col del=>
    subst hm q3
    have es:sl=#[k0,k1,k2,k3,aa (.builtin n),k5]:=by
     cases sl with
     |mk l=>dsimp only at hs;rw[hs]
    subst es;exact⟨L,ns,nm,T,bs,hd,sn,sub,ab,col,dd,k0,k1,k2,k3,k5,_,I _ _ ho,.of_isNs (W.isNs_of_in I q5),W.nsMap_none_of_in I q5 q6,W.tail_of_in I q4⟩
  .nomatch q
 .nomatch q
abbrev vE(X:Cx)(C:Addr)(q:Hp->Prop):Prop:=∀(pins:PNS) (σ:St) (H:Hp) (s:aM) (h:Heap) (a:Addr) (us:LVa),Inv X pins σ H s->Heap.MadeExcOf s.heap h a (.ref C) us->q H->X.xe (.ref a) {s with heap:=h}
variable{np c3:Pos}{t:TA}
def Fq{Wx:Hp->Prop}(hC:f9 X.K C=ac)(hc:X.calm=ac)(hw:vE X C Wx)(hg:Gl X x)(hm:X.mg x=aa (.ref C))(ha:PA X (e::es) t)
 (he:StE X e es:=by rfl)(hX:(eG c3 (aX es X.env)).any (·.1)=ak:=by rfl)(hO:NDb x:=by decide):
  PS X (.Raise (aa (.Call (.Name x np) (e::es) [] c3)) ae pos) (λ_ σ H=>t σ H λvs H'=>vs.length<=bE/\Wx H'):=by
 intro pins s σ H D I h;obtain⟨bm,N,nm,qn,bs,hd,sn,sub,ab,col,dd,k0,k1,k2,k3,k5,mN,h1,h2,h3,T⟩:=vD I.ok.mod.kin hC
 refine wpAny_Raise_call_subT (nm:=nm) (q:=qn) (N:=N) (bs:=bs) (hdct:=hd) (sn:=sn) (sub:=sub) (ab:=ab) (col:=col) (dd:=dd) (k0:=k0) (k1:=k1) (k2:=k2) (k3:=k3) (k5:=k5)
  tY (T.hasType tY.hasBase) (I.ok.hd hc) (by rw[he];show(ak || (eG c3 _).any (·.1))=ak;rw[hX];rfl) h3 (nW I hg hm ⟨rfl,?_⟩ hO)
 rw[he];have z:=ha c3 pins s σ H _ I h;rw[he]at z;refine Calls.evalArgs_plain (thn z λus s2 q_=>?_);obtain⟨vs,H2,L,r2,hz,q⟩:=q_;refine⟨rfl,by rw[<- r2.length];exact hz,L.bk _ _ h1,h2.keeps L.bk,T.keeps L.bk,λh' a hx=>hw pins σ H2 s2 h' a us L hx q⟩
variable{cdv:Value}{outer:List Env}
def ku{f:Addr}:
  lw (CX1 P w) (gQ (CX1 P w) P w K mg base N qual scope f cdv A outer s H E) E:=λpins σ H' s1 e s' I h=>Fo I rfl rfl rfl h λz q=>q
def rS{f:Addr}:
  vE (gQ (CX1 P w) P w K mg base N qual scope f cdv A outer s H E) C (λH'=>E (.ref C) ae H'):=λpins σ H' s1 h a us I z q=>Fm I rfl rfl rfl z q λs' q=>q
abbrev tR(G:Gc)(C:Addr)(E:XK)(r:LS->Bool)(σ:St)(H:Hp):Prop:=∃Hf0 H0 Hf U,aB G Hf0 H0 Hf H σ U/\r U=ac/\∀Hf' H',Ext Hf0 H0 Hf' H'->E (.ref C) ae H'
abbrev RX(c:Str->Addr)(X:Cx)(C:Addr)(E:XK)(e:Expr)(r:LS->Bool):Prop:=PE X e λσ H _=>tR (Gx c X) C E r σ H
abbrev RA(c:Str->Addr)(X:Cx)(C:Addr)(E:XK)(es:LEx)(r:LS->Bool):Prop:=PA X es λσ H _=>tR (Gx c X) C E r σ H
abbrev RS(c:Str->Addr)(X:Cx)(C:Addr)(E:XK)(st:Stmt)(r:LS->Bool):Prop:=PS X st λ_ σ H=>tR (Gx c X) C E r σ H
abbrev RSs(c:Str->Addr)(X:Cx)(C:Addr)(E:XK)(st:List Stmt)(r:LS->Bool):Prop:=PSs X st λ_ σ H=>tR (Gx c X) C E r σ H
@[reducible]noncomputable def rNo:LS->Bool:=λ_=>ak
def rT(h:tR G C E rNo σ H):False:=by
 obtain⟨_,_,_,_,_,e,_⟩:=h;cases e
abbrev vF(q:LS->Bool)(f:Xe)(z:LS->Bool)(U:LS):Bool:=q U || match f U with
 |some p=>z p.2
 |none=>ak
abbrev gz(q:LS->Bool)(F:MF3)(z:LS->Bool)(U:LS):Bool:=q U || match F U with
 |some (.nx ρ')=>z ρ'
 | _=>ak
abbrev rIf(t:Xt)(q z:LS->Bool)(U:LS):Bool:=match t U with
 |some (ac,ρ')=>q ρ'
 |some (ak,ρ')=>z ρ'
 |none=>ak
abbrev rOf{q:Type}(f:LS->Option q)(U:LS):Bool:=(f U).isSome
def PE.orR{t t':TE}(h:PE X e t)(h':PE X e t'):PE X e λσ H Q=>t σ H Q\/t' σ H Q:=λpins s σ H Q I q=>q.elim (h pins s σ H Q I) (h' pins s σ H Q I)
def PA.orR{t':TA}(h:PA X es t)(h':PA X es t'):PA X es λσ H Q=>t σ H Q\/t' σ H Q:=λpos pins s σ H Q I q=>q.elim (h pos pins s σ H Q I) (h' pos pins s σ H Q I)
def PS.orR{t t':TS}(h:PS X st t)(h':PS X st t'):PS X st λD σ H=>t D σ H\/t' D σ H:=λpins s σ H D I q=>q.elim (h pins s σ H D I) (h' pins s σ H D I)
def Fs:RX c X C E e rNo:=λ_ _ _ _ _ _ q=>(rT q).elim
def jf:RA c X C E es rNo:=λ_ _ _ _ _ _ _ q=>(rT q).elim
def rV:RS c X C E st rNo:=λ_ _ _ _ _ _ q=>(rT q).elim
def rW{bv:List Stmt}:RSs c X C E bv rNo:=λ_ _ _ _ _ _ q=>(rT q).elim
variable{r1 r2:LS->Bool}
def Ft{f:Xe}(hf:DX c X e f)(h1:RX c X C E e r1)(h2:RA c X C E es r2)(hs:StE X e es:=by rfl):RA c X C E (e::es) (vF r1 f r2):=PA.imp (cj (PE.orR hf h1) h2 hs) λσ H Q q=>by
 obtain⟨Hf0,H0,Hf,U,T,z,k⟩:=q
 rcases pX.mp z with z |z
 .exact .inr ⟨Hf0,H0,Hf,U,T,z,k⟩
 .cases I:f U with
  |none=>rw[I]at z;nomatch z
  |some p=>
   rw[I]at z;exact .inl ⟨Hf0,H0,Hf,U,p.1,p.2,T,I,λv Hf' H' s L rr=>⟨Hf0,H0,Hf',p.2,L,z,k⟩⟩
variable{r:LS->Bool}
def jL(h:RX c X C E e r)(z:fJ e ae pos.line X.env=pure ak:=by rfl):RS c X C E (.Expr e pos) r:=PS.imp (dR h z) λD σ H q=>q
def Fu(i:Nat)(z:X.N.Nodup)(h:RX c X C E e r)(hi:X.N[i]?=aa x:=by rfl)(T:Loc X.env.scope x:=by first |exact bS rfl |exact bp rfl)(L:fJ e (aa (.Name x b4)) pos.line X.env=pure ak:=by rfl)(I:LcF X x:=by first |exact .inl rfl |exact .inr rfl):
  RS c X C E (.Assign [.Name x b4] e pos) r:=PS.imp (lu z hi T h L I) λD σ H q=>q
variable{ra rb:LS->Bool}
def m9{bs:List Stmt}{t:Xt}(hc:DTX c X cd t)(ha:RSs c X C E as ra)(hb:RSs c X C E bs rb):RS c X C E (.If cd as bs pos) (rIf t ra rb):=PS.imp (uf hc ha hb) λD σ H q=>by
 obtain⟨Hf0,H0,Hf,U,so,z,k⟩:=q;unfold rIf at z
 cases L:t U with
 |none=>rw[L]at z;nomatch z
 |some p=>
  obtain⟨T,ρ'⟩:=p;rw[L]at z;refine⟨Hf0,H0,Hf,U,T,ρ',so,L,λHf' H' s I=>?_⟩
  cases T with
  |true=>rw[if_pos rfl];exact⟨Hf0,H0,Hf',ρ',I,z,k⟩
  |false=>rw[if_neg (by decide)];exact⟨Hf0,H0,Hf',ρ',I,z,k⟩
def kw{bv:List Stmt}(hF:DS c X st F)(h1:RS c X C E st r1)(h2:RSs c X C E bv r2):RSs c X C E (st::bv) (gz r1 F r2):=PSs.imp (ud (PS.orR hF h1) h2) λD σ H q=>by
 obtain⟨Hf0,H0,Hf,U,L,z,k⟩:=q
 rcases pX.mp z with z |z
 .exact .inr ⟨Hf0,H0,Hf,U,L,z,k⟩
 .split at z
  .rename_i ρ' T;exact .inl ⟨Hf0,H0,Hf,U,.nx ρ',L,T,λσ' Hf' H' s I=>⟨Hf0,H0,Hf',ρ',I,z,k⟩⟩
  .nomatch z
def rX{fa:MF2}(hC:f9 X.K C=ac)(hc:X.calm=ac)(hw:vE X C λH=>E (.ref C) ae H)(hg:Gl X x)(hm:X.mg x=aa (.ref C))(ha:DA c X (e::es) fa)(hz:(e::es).length<=1000:=by exact k8 rfl)
 (he:StE X e es:=by rfl)(T:(eG c3 (aX es X.env)).any (·.1)=ak:=by rfl)(L:NDb x:=by decide):
  RS c X C E (.Raise (aa (.Call (.Name x np) (e::es) [] c3)) ae pos) (rOf fa):=PS.imp (Fq hC hc hw hg hm ha.pa he T L) λD σ H q=>by
 obtain⟨Hf0,H0,Hf,U,so,I,k⟩:=q;unfold rOf at I
 cases z:fa U with
 |none=>rw[z]at I;nomatch I
 |some ds=>
  refine⟨Hf0,H0,Hf,U,ds,so,z,λvs Hf' H' x rr=>⟨?_,k Hf' H' (so.ext.trans x)⟩⟩;rw[<- rr.length,ha.len U ds z];exact iS (ly hz)
abbrev spR(G:Gc)(n:Nat)(C:Addr)(r:LD->Bool):Sp:=λvs H _ E=>∃Hf ds,aG Hf H/\aC G Hf ds vs/\ds.length=n/\r ds=ac/\∀Hf' H',Ext Hf H Hf' H'->E (.ref C) ae H'
variable{f:Addr}
def Fun.okX{sp:Sp}(F:Fun K x qual st f fd)(S:bZ N ps (bq st))(len:∀vs H Q E,sp vs H Q E->vs.length=ps.length)
 (q:∀ (cdv:Value) (A:dE) (outer:List Env) (s:aM) (H:Hp) (vs:List V) (Q:VK) (E:XK),cG k (A.deeper (gm qual (bq st) s.heap.objs.size f cdv))->sp vs H Q E ->
   ∃t,PSs (gQ (CX1 P w) P w K mg base N qual (bq st) f cdv A outer s H E) (ir st) t/\t {nx:=λ_ H'=>Q .non H',rt:=Q} (start N vs) H):e8 P w K mg base (CX1 P w) (k+1) f fd ps sp:=by
 obtain⟨oc,od,kV,doc,pm,an,cdv,ct,osl,rfl,T,z⟩:=F.ex;exact xT T z S len λA outer s H vs Q E L I=>q cdv A outer s H vs Q E L I
def lS(T:Fun K x qual st f fd)(S:bZ N ps (bq st))
 (h:∀(cdv:Value) (A:dE) (outer:List Env) (s:aM) (H:Hp) (E:XK),cG k (A.deeper (gm qual (bq st) s.heap.objs.size f cdv))->RSs c (gQ (CX1 P w) P w K mg base N qual (bq st) f cdv A outer s H E) C E (ir st) r)(q:N.length=n_:=by rfl):
  e8 P w K mg base (CX1 P w) (k+1) f fd ps (spR ⟨K,c⟩ ps.length C λds=>r (fg n_ ds)):=by
 subst q;refine Fun.okX T S (λvs H Q E z=>by obtain⟨Hf,ds,L,I,hn,_⟩:=z;rw[<- I.length];exact hn) λcdv A outer s H vs Q E hr z=>?_;obtain⟨Hf,ds,L,I,hn,e,kq⟩:=z;exact⟨_,h cdv A outer s H E hr,⟨Hf,H,Hf,_,aB.start L I,e,kq⟩⟩
abbrev fQ(ra:LS->Bool)(r:LD->Bool)(fa:Xa)(U:LS):Bool:=ra U || match fa U with
 |some p=>r p.1
 |none=>ak
def jg{r:LD->Bool}(pk:Pk X.prog X.w X.K X.mg X.base (CX1 X.prog X.w) k x (f,fd) ps (spR (Gx c X) ps.length C r))(hp:lw (CX1 X.prog X.w) X E)(hr0:cG k0 X.A)(ha:DAX c X (e::es) fa)(hra:RA c X C E (e::es) ra)(hl:(e::es).length=ps.length:=by rfl)(T:NDb x:=by decide)(he:StE X e es:=by rfl)(hX:BkE X pos es:=by rfl)(hk0:k<=k0:=by decide)(hg:Gl X x:=by first |rfl |exact glc rfl):
  RX c X C E (.Call (.Name x p) (e::es) [] pos) (fQ ra r fa):=PE.imp (jX pk.ok (hr0.mono hk0) hg pk.g pk.kp pk.b .nil hp (PA.orR ha.pa hra) T he hX) λσ H Q q_=>by
 obtain⟨Hf0,H0,Hf,U,so,z,kq⟩:=q_
 rcases pX.mp z with z |z
 .exact .inr ⟨Hf0,H0,Hf,U,so,z,kq⟩
 .cases L:fa U with
  |none=>rw[L]at z;nomatch z
  |some q=>
   obtain⟨ds,ρ1⟩:=q;rw[L]at z;refine .inl ⟨Hf0,H0,Hf,U,ds,ρ1,so,L,λvs Hf' H' f1 I rr=>?_⟩;rw[cV];exact⟨Hf',ds,I.sub,rr,(ha.len U ds _ L).trans hl,z,λb0 H2 x2=>kq b0 H2 (I.ext.trans x2)⟩
variable{g:Array GenState}{d:Drawn}{tk:Nat}{os:OsState}{nm qn nm2 qn2:Str}{N C2 N2:Addr}{bm bs2 bm2 sub sub2:LVa}{hd hd2 ab ab2:Bool}{sn sn2:LSt}{col col2:Option Bool}{dd dd2:Option Addr}{k0 k1 k2 k3 k5 j0 j1 j2 j3 j5:Option Value}{oe:Obj}{Q:Bool->aM->Prop}
def Fv{bs:LVa}(hC:h.get? C=aa (excClassObj nm qn C N bs bm hd sn sub ab col dd k0 k1 k2 k3 k5 nid))(q:h.get? C2=aa (excClassObj nm2 qn2 C2 N2 bs2 bm2 hd2 sn2 sub2 ab2 col2 dd2 j0 j1 j2 j3 j5 nid))(he:h.get? a=aa oe)(z:oe.cls=.ref C)
 (T:bm2.contains (.type "BaseException")=ac)(I:(jq C::bm).contains (.ref C2)=ac)(hq:Q ac ⟨h,g,d,tk,os⟩):wpAny M Ar (excMatches (.ref a) (.ref C2)) Q Ex ⟨h,g,d,tk,os⟩:=by
 have L:(jq C2::bm2).contains (.type "BaseException")=ac:=by rw[contains_cons,T,Bool.or_true]
 have nt:=tc_notTuple
 repeat (first |(with_reducible refine wpAny_loadPart_at he ?_;rw[z]) |(with_reducible refine wpAny_isSubtype_exc q ?_;rw[L]) |(with_reducible refine wpAny_isSubtype_exc hC ?_;rw[I]) |(with_reducible refine wpAny_loadPart_at q ?_) |wp_step)
 exact hq
def zJ{G:LAd}(J:Inv X pins σ H s)(hex:X.ex=[])(mu:∀b∈G,H b=ae)(T:∀b∈G,∀o,X.s₀.heap.get? b=aa o->b∈X.fs)(k4:∀p∈X.pn++pins,p.1∉G)
 (hk:(ms s.heap G).StaysIn h')(hup:s.heap.UpToSlots h'):Inv X pins σ H {s with heap:=h'}:=by
 have stay:=λb o e n=>hk b o (nS _ e n)
 have frame:=λb o e L=>by
  refine hup b o e λvs hv=>?_;obtain⟨_,o',ho',hd⟩:=J.funs.mem L;rw[e]at ho';cases ho';exact hd vs hv
 have I:∀c v,s.heap.IsCell c v->h'.IsCell c v:=λc v q_=>by
  obtain⟨o,ho,hd⟩:=q_;obtain⟨sl,e⟩:=hup c o ho λvs q=>by rw[hd]at q;nomatch q
  exact⟨_,e,hd⟩
 have L:=J.base;have ne:∀b:Addr,b∉X.ex:=λb h=>by rw[hex]at h;nomatch h
 refine⟨J.ok,J.os,J.bare,⟨λb o e n hf _=>(stay b o (L.keep b o e n hf (ne b)) λhG=>hf (T b hG o e)),λb o e n hf _=>?_,L.free,λb o e _=>?_,L.tups,L.frzs,L.tbls⟩,?_,λx c e=>?_,J.free,J.freeC,λp hp=>?_,λb o e=>?_,J.len⟩
 .obtain⟨sl,h1⟩:=L.slot b o e n hf (ne b);obtain⟨sl2,h2⟩:=frame b _ h1 hf;exact⟨sl2,h2⟩
 .obtain⟨o',h1⟩:=L.there b o e (ne b)
  by_cases hG:b∈G
  .obtain⟨sl,h2⟩:=frame b o' h1 (T b hG o e);exact⟨_,h2⟩
  .exact⟨o',stay b o' h1 hG⟩
 .obtain⟨m,hn,hl⟩:=J.loc;refine⟨m,hup.ns hn,λi x v e1 e2 e3=>?_⟩;obtain⟨u,r,l⟩:=hl i x v e1 e2 e3;refine⟨u,r,?_⟩
  rcases l with l |⟨k,c,e,z⟩
  .exact .inl l
  .exact .inr ⟨k,c,e,I c _ z⟩
 .obtain⟨v,z⟩:=J.cell x c e;exact⟨v,I c v z⟩
 .obtain⟨e,n,ne',nf,d⟩:=J.pin p hp;exact⟨stay p.1 p.2 e (k4 p hp),n,ne',nf,d⟩
 .refine(J.hok b o e).stay (λc u hc hu=>stay c u hu λhG=>?_) (λ_ q=>q) λ_ _ q=>q
  rcases hc with rfl |hc
  .rw[mu _ hG]at e;nomatch e
  .rw[mu _ hG]at hc;nomatch hc
variable{n:Str}
def Fw{v:Option Value}{m:MGT}(I:Inv X pins σ H s)(hN:X.N.Nodup)(hi:X.N[i]?=aa n)(hm:s.heap.Ns X.env.locals m)(hl:∀(j:Nat) (x:Str) (v:V),X.N[j]?=aa x->σ[j]?=aa (aa v)->Vis X.env.scope x->∃u,bj v u/\xu X.env s.heap m x u)
 (hn:h'.Ns X.env.locals λx=>if x=n then v else m x)(hs:Heap.SameBut X.env.locals s.heap h'):Inv X pins (σ.set i ae) H {s with heap:=h',toks:=tk}:=by
 have keep:∀b o,b≠X.env.locals->s.heap.get? b=aa o->h'.get? b=aa o:=λb o T e=>(hs.2 b T).trans e;have neL:∀b o,X.s₀.heap.get? b=aa o->b≠X.env.locals:=λb o e=>dC (fI (cb e) I.ok.above);have nT:∀b u,H b=aa u->b≠X.env.locals:=λb u e z=>by rw[z,I.free]at e;nomatch e
 have L:∀x c,X.env.cells.lookup x=aa c->∀v,s.heap.IsCell c v->h'.IsCell c v:=λx c e v ⟨o,ho,hd⟩=>⟨o,keep c o (I.cne x c e) ho,hd⟩;have T:=I.base;refine⟨I.ok,I.os,I.bare,⟨λb o e q hf hx=>keep b o (neL b o e) (T.keep b o e q hf hx),λb o e q hf hx=>?_,T.free,λb o e hx=>?_,T.tups,T.frzs,T.tbls⟩,⟨_,hn,λj x w e1 e2 e3=>?_⟩,λx c e=>?_,I.free,I.freeC,λp hp=>?_,λb o e=>?_,by rw[gk];exact I.len⟩
 .obtain⟨sl,h1⟩:=T.slot b o e q hf hx;exact⟨sl,keep b _ (neL b o e) h1⟩
 .obtain⟨o',h1⟩:=T.there b o e hx;exact⟨o',keep b o' (neL b o e) h1⟩
 .have hj:j≠i:=λz=>by
   subst z
   by_cases hs':j<σ.length
   .rw[fH hs']at e2;nomatch e2
   .rw[tQ (by rw[gk];lia)]at e2;nomatch e2
  rw[eN (eE hj)]at e2;obtain⟨u,r,l⟩:=hl j x w e1 e2 e3;refine⟨u,r,?_⟩
  rcases l with⟨k,l⟩ |⟨k,c,e,z⟩
  .have hx:x≠n:=λz=>by
    subst z;obtain⟨hj1,ej⟩:=dh.mp e1;obtain⟨hi1,ei⟩:=dh.mp hi;exact hj ((tT hN).mp (ej.trans ei.symm))
   exact .inl ⟨k,by show(if x=n then v else m x)=_;rw[if_neg hx];exact l⟩
  .exact .inr ⟨k,c,e,L x c e _ z⟩
 .obtain⟨v,z⟩:=I.cell x c e;exact⟨v,L x c e v z⟩
 .obtain⟨e,q,ne',nf,d⟩:=I.pin p hp;exact⟨keep p.1 p.2 ne' e,q,ne',nf,d⟩
 .refine(I.hok b o e).stay (λc u hc hu=>keep c u ?_ hu) (λ_ q=>q) λ_ _ q=>q
  rcases hc with rfl |hc
  .exact nT _ o e
  .exact nT c _ hc
variable{Q:Unit->aM->Prop}
def Fx(I:Inv X pins σ H s)(hN:X.N.Nodup)(hi:X.N[i]?=aa n)(hl:X.env.kindOf n=aa .local)(hx:Loc X.env.scope n)(hf:X.fn n=ac\/X.env.scope.names.lookup n=aa .local)(h:∀s',Inv X pins (σ.set i ae) H s'->Q () s'):
  wpAny M Ar (do bindName X.env n .none;unbindBehindTheSuite X.env n pos) Q Ex s:=by
 have q:(X.env.scope.kind==.class || (X.env.scope.kind==.module && X.env.locals != X.env.globals))=ak:=by rw[I.ok.kind];rfl
 refine bW (wpAny_bindName (nV I hN hi hx (v:=.non) rfl (λs1 I1=>?_) hf));obtain⟨m,hm,z⟩:=id I1.loc;have L:i<σ.length:=by rw[I.len];exact(dh.mp hi).1
 have T:(m n).isSome=ac:=by
  obtain⟨u,_,l⟩:=z i n .non hi (fH L) (by rcases hx with k |k;exact .inl k;exact .inr (.inl k))
  rcases l with⟨_,e⟩ |⟨k,_⟩
  .rw[e];rfl
  .rw[hl]at k
   rcases k with k |k <;> nomatch k
 refine wpAny_onRaise ?_;refine bW (wpAny_point (bW ?_));unfold deleteName;simp only[hl,q];refine bW (wpAny_nsDel_keeps hm λh' v hn hs=>?_);rw[T];refine c6 (wpAny_point (h _ ?_));have:=Fw (tk:=s1.toks) I1 hN hi hm z hn hs;rw[set_set]at this;exact this
abbrev jM(a:Addr)(C:Addr):HO:=.ext λh=>∃o,h.get? a=aa o/\o.cls=.ref C
abbrev oX(K:bu)(C:Addr)(v:Value):Bool:=match K.lookup C with
 | some o=>(match o.data with
  |.cls cd=>cd.mro.contains v
  | _=>ak)
 |none=>ak
@[reducible]noncomputable def Cx.hand(X:Cx)(a:Addr):Cx:={X with A:=X.A.mark (aa (.ref a)),calm:=ak,xe:=λ_ _=>False}
def zK(a:Addr)(I:Inv X pins σ H s):Inv (X.hand a) pins σ H s:=
 ⟨⟨I.ok.mod,I.ok.kind,I.ok.glob,I.ok.blt,I.ok.above,I.ok.inj,I.ok.has,I.ok.cab,(λz=>by nomatch z),I.ok.frames,I.ok.stk,I.ok.exf,I.ok.bs,I.ok.bsz,I.ok.noex,I.ok.exfs,I.ok.funs,I.ok.frf⟩,I.os,I.bare,I.base,I.loc,I.cell,I.free,I.freeC,I.pin,I.hok,I.len⟩
def Fy(ok:X.Ok)(I:Inv (X.hand a) pins σ H s):Inv X pins σ H s:=⟨ok,I.os,I.bare,I.base,I.loc,I.cell,I.free,I.freeC,I.pin,I.hok,I.len⟩
def Fz(I:Inv X pins σ H s)(hH:H a=ae)(ho:∃o,s.heap.get? a=aa o/\o.cls=.ref C)(h0:∀o,X.s₀.heap.get? a≠aa o)(hL:a≠X.env.locals)(hc:∀x c,X.env.cells.lookup x=aa c->c≠a)(hp:∀p∈X.pn++pins,p.1≠a):Inv X pins σ (upd H a (jM a C)) s:=by
 have ne:∀b u,H b=aa u->b≠a:=λb u e z=>by rw[z,hH]at e;nomatch e
 have up:∀b u,H b=aa u->upd H a (jM a C) b=aa u:=λb u e=>by rw[bH (ne b u e)];exact e
 have no:∀b,b≠a->H b=ae->upd H a (jM a C) b=ae:=λb L e=>by rw[bH L];exact e
 have L:=I.base;refine⟨I.ok,I.os,I.bare,⟨L.keep,L.slot,λb o e q hx=>no b (λz=>h0 o (by rw[<- z];exact e)) (L.free b o e q hx),L.there,λb xs e=>up b _ (L.tups b xs e),λb o u e=>up b _ (L.frzs b o u e),λb ps e=>?_⟩,I.loc,I.cell,no _ (eE hL) I.free,λx c e=>no c (hc x c e) (I.freeC x c e),λp T=>?_,λb o e=>?_,I.len⟩
 .obtain⟨more,h1⟩:=L.tbls b ps e;exact⟨more,up b _ h1⟩
 .obtain⟨e,q,r⟩:=I.pin p T;exact⟨e,no _ (hp p T) q,r⟩
 .by_cases z:b=a
  .subst z;rw[bT]at e;cases e;obtain⟨ob,h1,h2⟩:=ho;exact⟨⟨ob,h1,h2⟩,⟨ob,h1⟩,λh1' h2' ⟨o',g1,g2⟩ k=>⟨o',k o' g1,g2⟩⟩
  .rw[bH z]at e;exact(I.hok b o e).stay (λ_ u _ hu=>hu) (λc q=>up c _ q) λc xs q=>up c _ q
variable{e:Value}{s':aM}{x2:Str}{hpos:Pos}{b₀:Stmt}{suite:List Stmt}
def FA{E0:XK}{D:iV}{na:Hp->Prop}(I:Inv X pins σ H s)(hex:X.ex=[])(hs:X.stack=X.env::X.outer)(hf:X.env.frame=aa X.env.locals)(h:CX1 X.prog X.w X.stack H s E0 e s')(hE:∀cls dx H',E0 cls dx H'->cls=.ref C/\na H')
 (hC:f9 X.K C=ac)(hC2:f9 X.K C2=ac)(hm:oX X.K C (.ref C2)=ac)(hg:Gl X x2)(hm2:X.mg x2=aa (.ref C2))(hN:X.N.Nodup)(hi:X.N[i]?=aa n)(hl:X.env.kindOf n=aa .local)(hx:Loc X.env.scope n)(hfn:X.fn n=ac\/X.env.scope.names.lookup n=aa .local)(hno:∀x,X.env.cells.lookup x=ae)
 {t:TS}(hps:∀a,PSs (X.hand a) (b₀::suite) t)(k:∀a H',na H'->H' a=ae->t {nx:=λσ' H''=>D.nx (σ'.set i ae) H'',rt:=λ_ _=>False} (σ.set i (aa (.ref a))) (upd H' a (jM a C)))
 (hO:(x2==("__debug__":Str))=ak:=by decide):
  wpAny (model X.prog X.w) X.A (noteFrame e X.env) (λ_ al=>wpAny (model X.prog X.w) X.A (setFlight e ae) (λ_ s₃=>wpAny (model X.prog X.w) X.A (handleBy e X.env [.ExceptHandler (aa (.Name x2 np)) (aa n) (b₀::suite) hpos]) (SP X pins D) X.xe s₃) X.xe al) X.xe s':=by
 obtain⟨a,cls,a0,H',B,rfl,fl,os,bare,un,hok,kB,kS,hE'⟩:=h;obtain⟨rfl,hgood⟩:=hE _ _ _ hE';have J:=I.call' os un hok bare λb z=>by nomatch z
 obtain⟨f1,f2,f3,oe,vs,T,oT,ts,t1,t2,t3,t4,t5,t6,t7,t8,t9⟩:=fl;have fr:=J.ok.frames;rw[hs]at fr
 have inS:∀b o,X.s₀.heap.get? b=aa o->b∉X.fs->B.get? b≠ae:=λb o e n=>by
  obtain⟨o',h1⟩:=I.base.there b o e (by rw[hex];exact λz=>by nomatch z);exact kS b o' h1 λhm=>n (I.stkNew b hm o e)
 have two:∀b∈[a,T],B.get? b=ae:=λb L=>by
  rcases bG.1 L with rfl |L
  .exact f2
  .rw[aU.1 L];exact t5
 have mu:∀b∈frs X.stack++_,H' b=ae:=λb L=>by
  rcases bV.1 L with L |L
  .exact J.stkFree b L
  .cases q:H' b with
   |none=>rfl
   |some o=>exact absurd (two b L) (kB b (by rw[q];exact λz=>by nomatch z))
 have hnew:∀b∈frs X.stack++_,∀o,X.s₀.heap.get? b=aa o->b∈X.fs:=λb L o e=>by
  rcases bV.1 L with L |L
  .exact J.stkNew b L o e
  .by_cases n:b∈X.fs
   .exact n
   .exact absurd (two b L) (inS b o e n)
 have k4:∀p∈X.pn++pins,p.1∉frs X.stack++_:=λp hp L=>by
  obtain⟨e,q,ne',nf,_⟩:=I.pin p hp;have nst:=λz=>(bG.mp (I.stkSub _ z)).elim ne' nf
  rcases bV.1 L with L |L
  .exact nst L
  .exact absurd (two _ L) (kS _ _ e nst)
 have afr:a∉frs X.stack:=λz=>by
  obtain⟨_,o,ho,hd⟩:=J.stack.mem z;rw[t1]at ho;cases ho;exact hd vs t3
 have hfl:qo (ms s'.heap (frs X.stack++[a,T])) (X.env::X.outer) a _ a0 s'.heap:=
  ⟨λb o q=>W.of_hideAll _ q,mr _ (by simp),by rw[<- hs];exact rR f3 λb L=>iQ _ L,oe,vs,T,oT,ts,t1,t2,t3,t4,mr _ (by simp),t6,t7,t8,t9⟩
 refine wpAny_looks_onW fr hf hfl λh4 held4 up4=>?_;refine wpAny_landsW held4 λh5 fl5 up5=>?_;have J5:=zJ J hex mu hnew k4 fl5.1 (up4.trans up5);obtain⟨bm,N,nm,qn,bs,hd,sn,sub,ab,col,dd,k0,k1,k2,k3,k5,mN,c1,_,_,Tl⟩:=vD J5.kIn hC;obtain⟨bm2,N2,nm2,qn2,bs2,hd2,sn2,sub2,ab2,col2,dd2,j0,j1,j2,j3,j5,mN2,d1,_,_,Tl2⟩:=vD J5.kIn hC2
 have eC:(jq C::bm).contains (.ref C2)=ac:=by
  unfold oX at hm;split at hm
  .rename_i o ho;have:=J5.kIn _ _ ho;rw[c1]at this;cases this;exact hm
  .nomatch hm
 obtain⟨ob,hob,hobc⟩:=fl5.there;refine wpAny_handleBy_cons (codeAny_handlers_test (nW (zK a J5) hg hm2 ?_ hO)) (by intro q;nomatch q);refine Fv c1 d1 hob hobc (Tl2.hasType tY.hasBase) eC ?_;refine codeAny_handlers_suite_as (lands_againW fl5 λh6 fl6 up6=>?_);have J6:=zJ J hex mu hnew k4 fl6.1 ((up4.trans up5).trans up6);obtain⟨ob6,hob6,hobc6⟩:=fl6.there;have aL:a≠X.env.locals:=λz=>afr (by rw[hs];unfold frs;rw[k6,hf,z];exact bP)
 have J7:=Fz J6 (mu a (by simp)) ⟨ob6,hob6,hobc6⟩ (λo e=>by
  have:=hnew a (by simp) o e;exact afr (by rw[hs];unfold frs;rw[k6,hf];exact cF _ this)) aL (λx c e=>by rw[hno x]at e;nomatch e) λp hp z=>k4 p hp (by rw[z];simp)
 refine nV J7 hN hi hx (v:=.ref a) rfl (λs8 J8=>?_) hfn;refine e7 (hps a pins s8 _ _ _ (zK a J8) (k a H' hgood (mu a (by simp)))) (λfl9 s9 q9=>?_) λ_ _ z=>z.elim
 cases fl9 with
 |next=>
  obtain⟨σ9,H9,J9,n9⟩:=q9
  exact Fx (Fy J6.ok J9) hN hi hl hx hfn λs10 J10=>⟨_,_,J10,n9⟩
 |ret u=>obtain⟨_,_,_,_,_,z⟩:=q9;exact z.elim
 |brk=>obtain⟨_,_,_,z⟩:=q9;exact z.elim
 |cont=>obtain⟨_,_,_,z⟩:=q9;exact z.elim
end L2
namespace L2
open List
open PySem PySem.Spec PyProof.Rows PySem.Builtin.ObjectAttr
structure kz(K:bu)(C:Addr):Prop where
 ga:jr K (.ref C) "__getattribute__"=aa (aa (.builtin "BaseException.__getattribute__"))
 hook:jr K (.ref C) "__getattr__"=aa ae
 bex:iq K C (.type "BaseException")=aa ac
 cls:(W.clsIn K C).isSome=ac
 has:jr K (.ref C) "__class__"=aa (aa (.builtin "object.__class__"))
 spec:W.specialIn K (.builtin "object.__class__") "__get__"=aa (aa (.builtin "getset_descriptor.__get__"))
 takes:W.takesIn K (.builtin "object.__class__")=aa ac
 mro:iq K C (.type "object")=aa ac
abbrev AtC(a C:Addr)(h:Heap):Prop:=∃o,h.get? a=aa o/\o.cls=.ref C
variable{C a:Addr}{M:Model}{h:Heap}
def oY(p:AtC a C h):W.Looks M h (typeOf (.ref a)) (.ref C):=by
 obtain⟨o,b,c⟩:=p;exact c▸(W.Looks.ld b).andThen .now
variable{K:bu}{name:Str}{v g:Value}
def FB{x:Addr}(b:K.In h)(ha:jr K (.ref C) name=aa (aa v))(c:W.specialIn K v "__get__"=aa (aa g))(d:W.takesIn K v=aa ac):W.Looks M h (find (.ref x) (.ref C) name) (.bind g v):=by
 exact(W.looks_findIn b ha).andThen ((W.looks_specialIn b c).andThen ((show W.Looks M h _ (aa _)from(W.looks_takesIn b d).andThen .now).andThen (W.Looks.tag .now)))
variable{prog:dJ}{w:World}{Ar:dE}{Ex:PRS}{s:aM}
def FC{nm:Value}{Q:Unit->aM->Prop}(c:K.In s.heap)(p:AtC a C s.heap)(d:iq K C (.type "BaseException")=aa ac)(h:Q () s):
  wpAny (model prog w) Ar (checkBuiltinCall "BaseException.__getattribute__" ⟨[.ref a,nm],[]⟩) Q Ex s:=by
 cases s with
 |mk i f dd tt j=>
  have l:=oY (M:=model prog w) p;have m:=W.looks_mroIn (M:=model prog w) c d;have e:builtinKind "BaseException.__getattribute__"=aa .slot:=by decide +kernel
  have b:splitId "BaseException.__getattribute__"=aa ("BaseException","__getattribute__"):=by decide +kernel
  simp only[checkBuiltinCall,e,b]
  .unfold isInstance
   repeat lk
   repeat (first |exact h |wp_step)
def FD{tk:Tok}{P:PRS}(d:K.In s.heap)(p:AtC a C s.heap)(c:W.Looks (model prog w) s.heap (find (.ref a) (.ref C) name) (.bind g v))
 (h:wpAny (model prog w) Ar (call g [v,.ref a,.ref C]) P Ex s):
  wpAny (model prog w) Ar (Builtin.«object.__getattribute__» ⟨[.ref a,.str name tk],[]⟩) (λb s'=>match b with |.done (.ret v)=>P v s' | _=>False) Ex s:=by
 cases s with
 |mk f e dd tt i=>
  exact bW (c6 (bW (c6 (bW ((oY p).at (bW (c.at (bW (jo (e7 h (λu s' z=>c6 z) λ_ _ z=>z))))))))))
variable{Q:Option Value->aM->Prop}
def FE(T:kz K C)(e:K.In s.heap)(p:AtC a C s.heap)
 (h:∀d,wpAny (model prog w) d (Builtin.«object.__getattribute__» ⟨[.ref a,.str name s.toks],[]⟩) (λb s'=>match b with |.done (.ret v)=>wpAny (model prog w) Ar (handedOut v) (λv c=>Q (aa v) c) (λ_ _=>False) s' | _=>False) (λ_ _=>False) {s with toks:=s.toks+1}):
  wpAny (model prog w) Ar (getAttr? (.ref a) name) Q Ex s:=by
 cases s with
 |mk j i dd tt l=>
  refine bW (wpAny_mkText (bW (wpAny_attempt (jo (bW ((oY p).at (bW ((W.looks_findIn e T.ga).at ?_))))))));refine bW ?_;refine(W.looks_findIn e T.hook).at ?_;refine bW (wpAny_attempt (jo ?_));refine bW (c6 (wpAny_call (tV F.excAttr_ValueError.ga.plain F.entry_bexc_ga (FC e p T.bex ?_))));refine e7 (h _) (λb s' z=>?_) λ_ _ z=>z.elim
  rcases b with(_ | _ | _ | _) | _ <;> first |exact e7 z (λv c f=>c6 f) (λ_ _ z=>z.elim) |exact z.elim
variable{R:Result->aM->Prop}
def FF{c:Value}(b:K.In s.heap)(p:AtC a C s.heap)(hm:iq K C (.type "object")=aa ac)
 (h:R (.ok (.ret (.ref C))) s):iU (model prog w) Ar (.call (.builtin "getset_descriptor.__get__") ⟨[.builtin "object.__class__",.ref a,c],[]⟩) R s:=by
 have d:=oY (M:=model prog w) p;have e:=W.looks_mroIn (M:=model prog w) b hm;refine tV W.KF.slot_gs.plain W.KF.entry_gs (W.KF.slot_gs.check _ _ _ _ _ _ _ _ W.KF.type_class (W.KF.args_gs _ _ _) ?_);refine bW (c6 ?_);unfold Builtin.Getset_descriptor.descrGetter Builtin.Getset_descriptor.descrCheckInstance Builtin.Getset_descriptor.descrNameAndClass isInstance;simp only[W.KF.owner_class]
 repeat lk
 refine⟨Code.quiet_builtin _ (by decide +kernel),qe W.KF.entry_class ?_⟩
 repeat lk
 exact h
def FG(T:kz K C)(b:K.In s.heap)(p:AtC a C s.heap)(h:Q (aa (.ref C)) {s with toks:=s.toks+1}):wpAny (model prog w) Ar (getAttr? (.ref a) "__class__") Q Ex s:=by
 have d:W.Looks (model prog w) s.heap (find (.ref a) _ "__class__") _:=FB b T.has T.spec T.takes;exact FE T b p λc=>FD b p d (wpAny_call (FF b p T.mro (W.handed_on rfl h)))
def vG(T:kz K C):W.KitX K (.ref a) (.ref C) (AtC a C) where
 ty:=λ_ _ _ p=>oY p
 it:=λ_ _ X _=>by
  have hcD:=T.cls;unfold W.clsIn at hcD;split at hcD
  .rename_i c' d' cd' sl' ho;intro A' Q' E' s' k q;exact bW (wpAny_loadPart (k _ _ (X _ _ ho)) (c6 q))
  .nomatch hcD
 ne:=λh tp dd its n sl X htp=>by
  have hcD:=T.cls;refine tM.mpr λq=>?_;have e:=jq.inj (beq_iff_eq.mp q);subst e;unfold W.clsIn at hcD;split at hcD
  .rename_i c' d' cd' sl' ho;cases ((X _ _ ho).symm.trans htp)
  .nomatch hcD
 ca:=λX p k=>FG T X p k
open PySem.Spec PyProof.Rows
section
variable{X:Cx}
def vH{a:Addr}:(jq a)≠.builtin "__main__.__loader__#opaque":=λz=>by cases z
def FH:gr X (.builtin "isinstance") (λxs H Q=>∃a C T b,xs=[.ref a,.ref T]/\H a=aa (jM a C)/\kz X.K C/\ip X.K (.ref C) (.ref T)=aa b/\Q (.bl b) H):=by
 intro pins s σ H xs us Q I r h;obtain⟨a,C,T,b,rfl,d,c,e,q⟩:=h;obtain⟨u,j,rfl,i,f⟩:=mx r;cases (i);cases (f);exact gO (vG c) I.kIn (I.hok _ _ d).1 e vH λtk=>⟨.bl b,H,I.tok tk,rfl,q⟩
def FI:gr X (.builtin "isinstance") (λxs H Q=>∃a C T b,xs=[.ref a,.ty T]/\H a=aa (jM a C)/\kz X.K C/\ip X.K (.ref C) (.type T)=aa b/\Q (.bl b) H):=by
 intro pins s σ H xs us Q I r h;obtain⟨a,C,T,b,rfl,d,c,e,q⟩:=h;obtain⟨u,j,rfl,i,f⟩:=mx r;cases (i);cases (f);exact gO (vG c) I.kIn (I.hok _ _ d).1 e vH λtk=>⟨.bl b,H,I.tok tk,rfl,q⟩
def zM:∀{ds:LAd} {us:LVa},aY (ds.map V.ref) us->us=ds.map jq
 | [],_,.nil=>rfl
 | _::_,_,.cons r t=>by rw[zM t];cases (r);rfl
def FJ:gr X (.builtin "isinstance") (λxs H Q=>∃(a C d:Addr) (ds:LAd) (b:Bool),xs=[.ref a,.ref d]/\H a=aa (jM a C)/\H d=aa (.tup (ds.map V.ref))/\kz X.K C/\W.kitAny X.K (.ref C) (ds.map jq)=aa b/\Q (.bl b) H):=by
 intro pins s σ H xs us Q I r h;obtain⟨a,C,d,ds,b,rfl,j,l,f,e,q⟩:=h;obtain⟨u,y,rfl,x,p⟩:=mx r;cases (x);cases (p);obtain⟨_,its,t,o,c,i,n,hd⟩:=I.hok _ _ l;obtain rfl:=zM t;obtain⟨oc,od,m,os⟩:=o;cases (i);cases (hd);exact W.kia_tup (vG f) I.kIn (I.hok _ _ j).1 c e vH λtk=>⟨.bl b,H,I.tok tk,rfl,q⟩
inductive tH(i:Nat)(C:Addr)(b:Bool)(σ:St)(H:Hp)(Q:VK):Prop
 |mk:∀a,σ[i]?=aa (aa (.ref a))->H a=aa (jM a C)->(∀H',aG H H'->Q (.bl b) H')->tH i C b σ H Q
inductive tHs(i:Nat)(C:Addr)(bs:List Bool)(σ:St)(H:Hp)(Q:List V->Hp->Prop):Prop
 |mk:∀a,σ[i]?=aa (aa (.ref a))->H a=aa (jM a C)->(∀H',aG H H'->Q (bs.map V.bl) H')->tHs i C bs σ H Q
variable{e:Expr}{es:LEx}{i:Nat}{C A B Z:Addr}{b:Bool}{bs:List Bool}{n:Str}{p q q1 q2 q3 q4 pos:Pos}{x y z:Str}{T:String}
def FK:PA X [] (tHs i C []):=PA.imp dg λσ H Q h=>by
 obtain⟨a,_,_,k⟩:=h;exact k H (aG.refl _)
def vI(j:PE X e (tH i C b))(l:PA X es (tHs i C bs))(m:StE X e es:=by rfl):PA X (e::es) (tHs i C (b::bs)):=PA.imp (cj j l m) λσ H Q h=>by
 obtain⟨a,c,d,k⟩:=h;exact⟨a,c,d,λo s1=>⟨a,c,s1 _ _ d,λf s2=>k f (s1.trans s2)⟩⟩
variable(T0:kz X.K C)(hg:Gl X "isinstance")(hm:X.mg "isinstance"=ae)(hv:PE X (.Name n q) (dL i))
include T0 hg hm hv
def FL(d:Gl X x)(f:X.mg x=aa (.ref A))(t:ip X.K (.ref C) (.ref A)=aa b)(c:NDb x:=by decide)
 (m:aX [.Name n q,.Name x q1] X.env=(ak,eval (.Name n q) X.env)::aX [.Name x q1] X.env:=by rfl)(l:aX [.Name x q1] X.env=(ak,eval (.Name x q1) X.env)::aX [] X.env:=by rfl)
 (j:(eG pos (aX [.Name x q1] X.env)).any (·.1)=ak:=by rfl):PE X (.Call (.Name "isinstance" p) [.Name n q,.Name x q1] [] pos) (tH i C b):=
 PE.imp (mC FH hg hm qb (cj hv (cj (nX (v:=.ref A) d f rfl c) dg l) m) (by decide) (by decide) m j) λσ H Q h=>by
  obtain⟨a,o,r,k⟩:=h;exact⟨.ref a,o,a,C,A,b,rfl,r,T0,t,k H (aG.refl _)⟩
def FM(f:Gl X x)(j:X.mg x=ae)(c:gL x=aa (.type T))(E:ip X.K (.ref C) (.type T)=aa b)(l:x ≠ "__name__":=by decide)(d:NDb x:=by decide)
 (r:aX [.Name n q,.Name x q1] X.env=(ak,eval (.Name n q) X.env)::aX [.Name x q1] X.env:=by rfl)(o:aX [.Name x q1] X.env=(ak,eval (.Name x q1) X.env)::aX [] X.env:=by rfl)
 (m:(eG pos (aX [.Name x q1] X.env)).any (·.1)=ak:=by rfl):PE X (.Call (.Name "isinstance" p) [.Name n q,.Name x q1] [] pos) (tH i C b):=
 PE.imp (mC FI hg hm qb (cj hv (cj (xy (v:=.ty T) f j c rfl l d) dg o) r) (by decide) (by decide) r m) λσ H Q h=>by
  obtain⟨a,t,u,k⟩:=h;exact⟨.ref a,t,a,C,T,b,rfl,u,T0,E,k H (aG.refl _)⟩
def FN{c:Nat}(m:Gl X x)(t:X.mg x=aa (.ref A))(o:Gl X y)(u:X.mg y=aa (.ref B))(r:Gl X z)(E:X.mg z=aa (.ref Z))(N:W.kitAny X.K (.ref C) [.ref A,.ref B,.ref Z]=aa b)
 (f:NDb x:=by decide)(j:(y==("__debug__":Str))=ak:=by decide)(l:(z==("__debug__":Str))=ak:=by decide)
 (J:aX [.Name n q,.Tuple [.Name x q1,.Name y q2,.Name z q3] c q4] X.env=(ak,eval (.Name n q) X.env)::aX [.Tuple [.Name x q1,.Name y q2,.Name z q3] c q4] X.env:=by rfl)
 (I:aX [.Tuple [.Name x q1,.Name y q2,.Name z q3] c q4] X.env=(ak,eval (.Tuple [.Name x q1,.Name y q2,.Name z q3] c q4) X.env)::aX [] X.env:=by rfl)
 (U:aX [.Name x q1,.Name y q2,.Name z q3] X.env=(ak,eval (.Name x q1) X.env)::aX [.Name y q2,.Name z q3] X.env:=by rfl)(Y:aX [.Name y q2,.Name z q3] X.env=(ak,eval (.Name y q2) X.env)::aX [.Name z q3] X.env:=by rfl)
 (t3:aX [.Name z q3] X.env=(ak,eval (.Name z q3) X.env)::aX [] X.env:=by rfl)
 (G:(eG pos (aX [.Tuple [.Name x q1,.Name y q2,.Name z q3] c q4] X.env)).any (·.1)=ak:=by rfl):PE X (.Call (.Name "isinstance" p) [.Name n q,.Tuple [.Name x q1,.Name y q2,.Name z q3] c q4] [] pos) (tH i C b):=
 PE.imp (mC FJ hg hm qb (cj hv (cj (qA (cj (nX (v:=.ref A) m t rfl f) (cj (nX (v:=.ref B) o u rfl j) (cj (nX (v:=.ref Z) r E rfl l) dg t3) Y) U)) dg I) J) (by decide) (by decide) J G) λσ H Q h=>by
  obtain⟨a,L,d,k⟩:=h;refine⟨.ref a,L,(show 3<=bE by decide),λtp hn=>⟨a,C,tp,[A,B,Z],b,rfl,?_,bT,T0,N,k _ (cM hn)⟩⟩;rw[bH (λz=>by rw[z,hn]at d;nomatch d)];exact d
end
variable{X:Cx}{pins:PNS}{xe:PRS}{σ:St}{H:Hp}
def FO{b:PNS}(I:Inv (X.to (X.pn++pins) xe) b σ H s):Inv X pins σ H s:=
 ⟨⟨I.ok.mod,I.ok.kind,I.ok.glob,I.ok.blt,I.ok.above,I.ok.inj,I.ok.has,I.ok.cab,I.ok.hd,I.ok.frames,I.ok.stk,I.ok.exf,I.ok.bs,I.ok.bsz,I.ok.noex,I.ok.exfs,I.ok.funs,I.ok.frf⟩,I.os,I.bare,I.base,I.loc,I.cell,I.free,I.freeC,λp c=>I.pin p (iQ _ c),I.hok,I.len⟩
def FP(I:Inv X pins σ H s):Inv (X.to (X.pn++pins) xe) [] σ H s:=
 ⟨⟨I.ok.mod,I.ok.kind,I.ok.glob,I.ok.blt,I.ok.above,I.ok.inj,I.ok.has,I.ok.cab,I.ok.hd,I.ok.frames,I.ok.stk,I.ok.exf,I.ok.bs,I.ok.bsz,I.ok.noex,I.ok.exfs,I.ok.funs,I.ok.frf⟩,I.os,I.bare,I.base,I.loc,I.cell,I.free,I.freeC,λp b=>I.pin p (by rw[cV]at b;exact b),I.hok,I.len⟩
abbrev Sl.bare:Sl->Sl
 |.im d=>.im d
 | _=>.no
variable{Hf0 H0 Hf:Hp}{U:LS}
def aB.bare{G:Gc}(h:aB G Hf0 H0 Hf H σ U):aB G Hf H Hf H σ (U.map Sl.bare):=by
 refine h.re (Ext.refl h.sub) (by simp) (λi v s a b=>?_) λi s v a b c d=>?_
 .rw[fm]at b;obtain⟨e,f,rfl⟩:=lb.mp b;have q:=h.at' i v e a f
  cases e <;> first |exact q |trivial
 .rw[fm]at b;obtain⟨e,f,rfl⟩:=lb.mp b
  exact(d.calm (by cases e <;> rfl)).elim
abbrev rY(r:LS->Bool)(j:Nat)(bs:List Bool)(U:LS):Option Fl:=if r (U.map Sl.bare) then aa (.nx ((mh U.length Sl.no).set j (.im (.lst (bs.map D.bl))))) else ae
def zN{G:Gc}{H:Hp}:∀bs:List Bool,aC G H (bs.map D.bl) (bs.map V.bl)
 | []=>rfl
 |b::bs=>⟨.bl b,_,rfl,rfl,zN bs⟩
variable{c:Str->Addr}{C2:Addr}{es:LEx}{r:LS->Bool}{i j:Nat}{n y x2:Str}{np hpos pos yp lp ap:Pos}{st:Stmt}
def FQ{bs:List Bool}(hr:∀(E:XK) pn xe,lw (CX1 X.prog X.w) (X.to pn xe) E->RS c (X.to pn xe) C E st r)(hh:∀a,PA (X.hand a) es (tHs i C bs))(hex:X.ex=[])(hs:X.stack=X.env::X.outer)(hf:X.env.frame=aa X.env.locals)
 (hC:f9 X.K C=ac)(hC2:f9 X.K C2=ac)(hm:oX X.K C (.ref C2)=ac)(hg:Gl X x2)(hm2:X.mg x2=aa (.ref C2))(hN:X.N.Nodup)(hi:X.N[i]?=aa n)(hj:X.N[j]?=aa y)(hl:X.env.kindOf n=aa .local)(hx:Loc X.env.scope n)(hfn:X.fn n=ac\/X.env.scope.names.lookup n=aa .local)
 (hy:Loc X.env.scope y)(hfy:X.fn y=ac\/X.env.scope.names.lookup y=aa .local)(hno:∀x,X.env.cells.lookup x=ae)(hij:i≠j)(hb:bs.length<=bE)
 (hsy:fJ (.List es lp) (aa (.Name y yp)) ap.line X.env=pure ak:=by rfl)(hO:(x2==("__debug__":Str))=ak:=by decide):
  DS c X (.Try [st] [.ExceptHandler (aa (.Name x2 np)) (aa n) [.Assign [.Name y yp] (.List es lp) ap] hpos] [] [] pos) (rY r j bs):=by
 intro pins s σ H D I h;obtain⟨Hf0,H0,Hf,U,o,t,Y,k⟩:=h;unfold rY at Y;split at Y
 case isFalse=>nomatch Y
 case isTrue er=>
 cases Y;refine wpAny_Try_except ?_
 let xe:Value->aM->Prop:=λp B=>wpAny (model X.prog X.w) X.A (noteFrame p X.env) (λ_ G=>wpAny (model X.prog X.w) X.A (setFlight p ae) (λ_ J=>wpAny (model X.prog X.w) X.A (handleBy p X.env [.ExceptHandler (aa (.Name x2 np)) (aa n) [.Assign [.Name y yp] (.List es lp) ap] hpos]) (SP X pins D) X.xe J) X.xe G) X.xe B
 let E0:XK:=λcls _ H'=>cls=.ref C/\∃Hf',Ext Hf H Hf' H'
 have hp:lw (CX1 X.prog X.w) (X.to (X.pn++pins) xe) E0:=by
  intro pr σ' H' s1 p s' e hx1;refine FA (FO e) hex hs hf hx1 (λcls dx H'' z=>z) hC hC2 hm hg hm2 hN hi hl hx hfn hno (λa=>ue (lu hN hj hy (qB (hh a)) hsy hfy)) (λa H'' b hn=>?_) hO;obtain⟨Hf',ex⟩:=b;have hiL:i<σ'.length:=by rw[e.len];exact(dh.mp hi).1
  have d:j<σ'.length:=by rw[e.len];exact(dh.mp hj).1
  refine⟨a,by rw[fH hiL],bT,λH3 s3=>⟨by simpa using hb,λl hl3=>?_⟩⟩;have x0:=ex.trans (Ext.grow ex.s ((cM hn).trans s3));have xn:=Ext.new (o:=HO.lst (bs.map V.bl)) x0.s hl3;refine k _ _ _ (x0.f.trans xn.f) ⟨t.ext.trans (x0.trans xn),?_,?_,?_⟩
  .have:=t.len;have l2:=I.len;have l3:σ'.length=X.N.length:=e.len;simp only[gk,jU];lia
  .intro i' v' s' a' L
   by_cases q:i'=j
   .subst q;rw[fH (by rw[jU,<- t.len,I.len,<- e.len];exact d)]at L;cases L;rw[eN hij,fH (by simpa using d)]at a';cases a';exact⟨_,rfl,l,_,rfl,bT,zN bs⟩
   .rw[eN (eE q)]at L;have:=eq_of_mem_replicate (p7 L);subst this;trivial
  .intro i1 i2 s1 s2 v1 v2 a' T b2 c1 c2 d1 d2;refine(d1.calm ?_).elim
   by_cases q:i1=j
   .subst q;rw[fH (by rw[jU,<- t.len,I.len,<- e.len];exact d)]at T;cases T;rfl
   .rw[eN (eE q)]at T;have:=eq_of_mem_replicate (p7 T);subst this;rfl
 refine e7 (ue (hr E0 _ xe hp) [] s σ H {nx:=λ_ _=>False,rt:=λ_ _=>False} (FP I) ⟨Hf,H,Hf,U.map Sl.bare,t.bare,er,λHf' H' x=>⟨rfl,Hf',x⟩⟩) (λf s1 m=>?_) λp s1 m=>m
 cases f with
 |next=>obtain⟨_,_,_,z⟩:=m;exact z.elim
 |ret u=>obtain⟨_,_,_,_,_,z⟩:=m;exact z.elim
 |brk=>obtain⟨_,_,_,z⟩:=m;exact z.elim
 |cont=>obtain⟨_,_,_,z⟩:=m;exact z.elim
variable{E:XK}
def eU{bv:List Stmt}(h:RS c X C E st r):RSs c X C E (st::bv) r:=PSs.imp (ud h (u:=λ_ _ _=>False) λ_ _ _ _ _ _ q=>q.elim) λD σ H q=>q
variable{e:Expr}
def FR(h:RX c X C E e r)(b:StE X e es:=by rfl):RA c X C E (e::es) r:=PA.imp (cj h (t:=λ_ _ _=>False) (λ_ _ _ _ _ _ _ q=>q.elim) b) λσ H Q q=>q
abbrev zO:V->List V->Hp->VK->Prop:=λx vs H Q=>∃l xs y i,x=.ref l/\vs=[.int i,y]/\H l=aa (.lst xs)/\0<=i/\i<=xs.length/\xs.length<16777216/\Q .non (upd H l (.lst (xs.take i.toNat++y::xs.drop i.toNat)))
def zP:∀{xs:List V} {us:LVa} (n:Nat),aY xs us->aY (xs.take n) (us.take n)
 | _,_,0,_=>.nil
 | _,_,_+1,.nil=>.nil
 | _,_,n+1,.cons r t=>.cons r (zP n t)
def zQ:∀{xs:List V} {us:LVa} (n:Nat),aY xs us->aY (xs.drop n) (us.drop n)
 | _,_,0,h=>h
 | _,_,_+1,.nil=>.nil
 | _,_,n+1,.cons _ t=>zQ n t
def rZ:MtM X "list.insert" zO:=by
 intro pins s σ H x vs v us Q I A u h;obtain⟨l,xs,y,i,rfl,rfl,d,J,hi,L,q⟩:=h;subst A;obtain⟨N,G,rfl,p,B⟩:=mx u;obtain⟨t,rfl⟩:=p;obtain⟨z,its,n,r,o,e⟩:=I.lstM d
 have b:xp i=ac:=by
  unfold xp;rw[cx,decide_eq_true_eq,decide_eq_true_eq];lia
 refine call_meets F.slot_list_insert ⟨_,e,rfl⟩ F.entry_list_insert (F.args_list_insert_3 _ _ _) (PySem.AutoSeq1.list_insert_list_int_val_1 l its.toArray n i t G (by rw[b];exact λz=>by nomatch z) (by rw[size_toArray,<- o];exact z)) ⟨e,?_⟩;refine⟨.non,_,I.lset d e ?_ ((zP _ r).append (.cons B (zQ _ r))) ?_,rfl,q⟩
 .have f:¬i<0:=by lia
  have m:min i.toNat its.toArray.size=i.toNat:=by rw[size_toArray];lia
  simp only[if_neg f,m];simp[jl]
 .rw[bh,b9,eY,gi,dD];lia
abbrev kA(i:Nat)(f:Xa)(U:LS):Option Fl:=match U[i]? with
 |some (.own _)=>(f U).bind λp=>match p.2[i]?,p.1 with
  |some (.own xs),[.int n,d]=>if 0<=n/\n<=xs.length/\xs.length<16777216 then aa (.nx (p.2.set i (.own (xs.take n.toNat++d::xs.drop n.toNat)))) else ae
  | _,_=>ae
 | _=>ae
def zR{G:Gc}{H:Hp}:∀{ds:LD} {vs:List V} (n:Nat),aC G H ds vs->aC G H (ds.take n) (vs.take n)
 | _,_,0,_=>by rw[take_zero,take_zero];rfl
 | [],_,_+1,h=>by cases (h);rfl
 |d::ds,_,n+1,⟨v,r,e,h1,h2⟩=>by subst e;exact⟨v,_,rfl,h1,zR n h2⟩
def zS{G:Gc}{H:Hp}:∀{ds:LD} {vs:List V} (n:Nat),aC G H ds vs->aC G H (ds.drop n) (vs.drop n)
 | _,_,0,h=>h
 | [],_,_+1,h=>by cases (h);rfl
 |d::ds,_,n+1,⟨v,r,e,h1,h2⟩=>by subst e;exact zS n h2
def r6{f:Xa}(h:PS X st (lr (tBM X.K "list" zO (dL i) (vv (Gx c X) f)))):DS c X st (kA i f):=PS.imp h λE σ H q_=>by
 obtain⟨Hf0,H0,Hf,U,o,Y,b,k⟩:=q_;unfold kA at b;split at b
 .rename_i xs0 z
  cases t:f U with
  |none=>rw[t]at b;nomatch b
  |some p=>
   rw[t,aJ]at b;split at b
   .rename_i xs n d es x;split at b
    .rename_i hl;cases b;obtain⟨l,u,h0,hf,vs0,q0,r0⟩:=Y.ownAt rfl z;refine⟨_,u,.inl ⟨rfl,_,SqL.of q0⟩,Hf0,H0,Hf,U,p.1,p.2,Y,t,λvs1 Hf' H' s m T=>?_⟩;rw[x]at T;obtain⟨v1,r1,A,I,v2,r2,B,J,G⟩:=T;cases (I);cases (G);subst B;subst A;obtain⟨l2,L,h02,hf2,vs,q,r⟩:=m.ownAt rfl es;rw[u]at L;cases L;have N:=r.length;refine⟨l,vs,v2,n,rfl,rfl,q,hl.1,by lia,by lia,k σ Hf' _ s (m.mutd rfl rfl es u ⟨_,bT,(zR _ r).append ⟨v2,_,rfl,J,zS _ r⟩⟩)⟩
    .nomatch b
   .nomatch b
 .nomatch b
def FS:gL "ValueError"=aa (.type "ValueError"):=by decide +kernel
def FT(h:iq K C v=aa ac):oX K C v=ac:=by
 unfold iq W.clsIn at h;unfold oX
 cases e:K.lookup C with
 |none=>rw[e]at h;nomatch h
 |some o=>
  rw[e]at h;obtain⟨oc,od,b,sl⟩:=o
  cases b with
  |cls d=>
   rw[aJ]at h;split at h
   .nomatch h
   .exact cs h
  | _=>nomatch h
variable{sts:List Stmt}
def PSs.orR{t t':TS}(h:PSs X sts t)(h':PSs X sts t'):PSs X sts λD σ H=>t D σ H\/t' D σ H:=λpins s σ H D I q=>q.elim (h pins s σ H D I) (h' pins s σ H D I)
abbrev gb(g:D->LS->Option LS)(F:MF3)(r:LS->Bool):LD->LS->Bool
 | [],_=>ak
 |d::ds,U=>match g d U with
  |some ρ1=>r ρ1 || match F ρ1 with
   |some (.nx b5)=>gb g F r ds b5
   |some (.ct b5)=>gb g F r ds b5
   | _=>ak
  |none=>ak
abbrev lT(fi:MF2)(g:D->LS->Option LS)(F:MF3)(r:LS->Bool)(U:LS):Bool:=match fi U with
 |some ds=>gb g F r ds U
 |none=>ak
variable{tg iter:Expr}{a:List Stmt}{F:MF3}
def r9{fi:MF2}{g:D->LS->Option LS}{kk:Nat}(hp:PassesOwn (model X.prog X.w) X.A X.env X.xe)(hc:X.calm=ac)(hi:DI c X tg iter fi)(hg:DG c X tg kk g)(hF:DSs c X a F)(hr:RSs c X C E a r)(hs:∀x,gK iter X.env x=pure x:=by intro _;rfl):
  RS c X C E (.For tg iter a [] pos) (lT fi g F r):=PS.imp (qy hp hc hi hg.pg (PSs.orR hF hr) hs) λE' σ H q=>by
 obtain⟨Hf0,H0,Hf,U,so,N,k⟩:=q;unfold lT at N;split at N
 .rename_i ds e1;refine⟨Hf0,H0,Hf,U,ds,so,e1,λJ o H1 x1 it=>?_⟩;refine⟨λi m σ' H'=>m=ds.length-i/\i<=ds.length/\∃Hf' ρ',aB _ Hf0 H0 Hf' H' σ' ρ'/\aG o Hf'/\gb g F r (ds.drop i) ρ'=ac,⟨ds.length,rfl,gl _,o,U,so.step x1,aG.refl _,N⟩,?_⟩;rintro i m σ' H' ⟨rfl,hi',Hf',ρ',G,s1,em⟩;obtain⟨ou,it2⟩:=it Hf' H' s1 G.sub i
  have t:i<ds.length:=by
   rcases p9 i ds.length with z |z
   .exact z
   .rw[kZ z]at em;nomatch em
  obtain⟨d,ed,Y⟩:=j8 t;obtain⟨go,yl⟩:=ou d ed;rw[Y]at em;unfold gb at em;refine .inr ⟨go,λI L=>ds.length-(i+1)=ds.length-(i+1)/\i+1<=ds.length/\∃Hf' ρ',aB _ Hf0 H0 Hf' L I ρ'/\aG o Hf'/\gb g F r (ds.drop (i+1)) ρ'=ac,λI L w=>⟨ds.length-(i+1),by lia,w⟩,λx L y=>?_⟩;obtain⟨l,x2,rx⟩:=yl x L y;split at em
  .rename_i ρ1 eg;refine⟨Hf0,H0,l,ρ',d,ρ1,G.step x2,rx,eg,λhY u=>?_⟩
   rcases pX.mp em with em |em
   .exact .inr ⟨Hf0,H0,l,ρ1,u,em,k⟩
   .split at em
    .rename_i b T;exact .inl ⟨Hf0,H0,l,ρ1,.nx b,u,T,λσ4 p H4 s4 B=>⟨rfl,t,p,b,B,(s1.trans x2.f).trans s4,em⟩⟩
    .rename_i b T;exact .inl ⟨Hf0,H0,l,ρ1,.ct b,u,T,λσ4 p H4 s4 B=>⟨rfl,t,p,b,B,(s1.trans x2.f).trans s4,em⟩⟩
    .nomatch em
  .nomatch em
 .nomatch N
set_option maxRecDepth 100000
abbrev jN(σ:LSt)(x:Str):LSt:=if σ.any (·==x) then σ else σ++[x]
abbrev dP(val:Nat->Str):Nat->LSt
 | 0=>[]
 |i+1=>jN (dP val i) (val i)
def se(val:Nat->Str):∀i,(dP val i).length<=i
 | 0=>bC _
 |i+1=>by
  have b:=se val i;show(jN (dP val i) (val i)).length<=_;unfold jN;split
  .omega
  .rw[bh,fS];lia
def zU(σ:LSt)(v k:Str):(jN σ v).any (·==k)=(σ.any (·==k) || decide (k=v)):=by
 unfold jN;rw[jT];split
 .rename_i h;rw[fG,decide_eq_true_eq];exact⟨.inl,λz=>z.elim id λe=>e▸h⟩
 .rw[any_append,fG,fG,decide_eq_true_eq,k7,any_nil,Bool.or_false,beq_iff_eq];exact or_congr_right eq_comm
def zV(σ:LSt)(v:Str):(jN σ v).length=if σ.any (·==v) then σ.length else σ.length+1:=by
 unfold jN
 split <;> simp
variable{P:dJ}{n:Nat}
def FU{a:Addr}{S b:Str->Bool}{d:Nat}(q:h.SetOf (strKind P w) a S n)(e:∀k,S k=b k)(f:n=d):h.SetOf (strKind P w) a b d:=by
 obtain rfl:=funext e;subst f;exact q
variable{A:dE}{I:Addr}{fp wr:LAd}{G:Array GenState->Array GenState->Prop}{Pv:Nat->Value->Prop}
def FV{St:Nat->aM->Prop}(W:WalksS P w A.in1 I fp wr G n Pv St)(S:Addr)(u:S∉fp)(val:Nat->Str)(N:∀i v,Pv i v->∃t,v=.str (val i) t)(hb:n+1<scanBound):
  ∀(k i:Nat) (s:aM),n-i=k->i<=n->St i s->s.heap.SetOf (strKind P w) S (λj=>(dP val i).any (·==j)) (dP val i).length ->
   (∀s',Moved (S::wr) G s s'->s'.heap.SetOf (strKind P w) S (λj=>(dP val n).any (·==j)) (dP val n).length->R (.ok (.ret .none)) s') ->
   iU (model P w) A (.builtin "set.update.loop" ⟨[.ref S,.ref I],[]⟩) R s:=by
 have T:=λh=>u (W.sub _ h);have sub:∀b∈wr,b∈S::wr:=λb h=>cF _ h;have stay:∀{s s':aM} {Z:Str->Bool} {m:Nat},Moved wr G s s'->s.heap.SetOf (strKind P w) S Z m->s'.heap.SetOf (strKind P w) S Z m:=λm ⟨o,es,z,t,L,r⟩=>⟨o,es,z,t,m.heap S o T L,r⟩;intro k
 induction k with
 |zero=>
  intro i s J hi st q d;obtain rfl:i=n:=by lia
  refine qe F.entry_set_update_loop ?_
  exact bW (W.done s _ _ st λs' m=>(c6 (d s' (m.mono sub) (stay m q))))
 |succ k Y=>
  intro i s J hi st q d;have lt:i<n:=by lia
  refine qe F.entry_set_update_loop ?_;refine bW (W.item i s _ _ lt st λv s' B p m=>?_);obtain⟨t,rfl⟩:=N i v B;have is:(strKind P w).is (val i) (.str (val i) t)=ac:=PySem.W.isStrOf_self (val i) t;refine bW (jo ?_);refine jo (bW ((strKind P w).pyHash is ?_));have l:(dP val i).length+1<scanBound:=by have:=se val i;lia
  have q1:=stay m q
  refine wpAny_setAddHashed_of (knd:=strKind P w) (s:={s' with toks:=s'.toks+1}) is rfl q1 l λh' x q2=>?_
  have q3:h'.SetOf (strKind P w) S (λj=>(dP val (i+1)).any (·==j)) (dP val (i+1)).length:=FU q2 (λj=>(zU _ _ _).symm) (zV _ _).symm;refine c6 ⟨plainId_quiet F.plain_set_update_loop _,Y _ _ (by lia) lt (W.frame _ s' _ _ p (Nat.le_succ _) λb f o e=>?_) q3 λs2 m2 q4=>?_⟩
  .rw[x.2 b λh=>u (by rw[<- h];exact f)];exact e
  .refine d s2 (Moved.trans W.gtrans ((m.mono sub).then_heap (Nat.le_succ _) λb o f e=>?_) m2) q4;rw[x.2 b λh=>f (by rw[h];exact bP)];exact e
abbrev vJ(vs:LVa)(xs:LSt):Prop:=vs.length=xs.length/\∀(i:Nat) (v:Value),vs[i]?=aa v->∃t,v=.str (xs.getD i "") t
@[reducible]noncomputable def jh(b:Bool):Obj:={cls:=.type "set",dict:=ae,data:=.set #[] 0 (.fresh 0 0 b)}
def FW(h:Heap)(b:Bool):(h.push (jh b)).SetOf (strKind P w) h.objs.size (λ_=>ak) 0:=
 ⟨_,#[],0,_,fV _ rfl,⟨rfl,rfl,rfl⟩,rfl,λe d=>by simp at d,λk=>by simp,by decide,rfl,rfl⟩
variable{E:PRS}{l:Addr}{xs:LSt}
set_option maxHeartbeats 8000000 in
def FX{items:Array Value}{Q:PRS}(hh:A.handled=ae)(hl:s.heap.IsList l items)(hi:vJ items.toList xs)(hb:items.size+1<scanBound)
 (h:∀ (h':Heap) (tk:Nat),h'.SetOf (strKind P w) s.heap.objs.size (λj=>(dP (λi=>xs.getD i "") items.size).any (·==j)) (dP (λi=>xs.getD i "") items.size).length ->
   (∀b o,b<s.heap.objs.size->s.heap.get? b=aa o->h'.get? b=aa o)->Q (.ref s.heap.objs.size) {s with heap:=h',toks:=tk}):
  wpAny (model P w) A (call (.type "set") [.ref l]) Q E s:=by
 obtain⟨c,tl,hmro⟩:=jW.mro;have hmade:=jW.made;have hsub:=jW.sub;refine wpAny_call (codeAny_of_tree (c6 ⟨Code.quiet_builtin _ (by decide +kernel),qe F.entry_type_call ?_⟩));rw[dE.under_plain (weight_type_call_type "set" [.ref l] []) rfl];have h1:=jW.notType;have h2:=jW.canCreate;have hct:=F.typeCall_set_1 (.ref l)
 repeat (any_goals (first |assumption |wp_step))
 refine nR (code_set_new_1 (.ref l) (E:=E) (Q₁:=λob m=>∃d,ob=.ref s.heap.objs.size/\m={s with heap:=s.heap.push (jh d)}) λd=>⟨d,rfl,rfl⟩) λr m hr=>?_
 cases r with
 |error e=>exact hr
 |ok fl=>
  cases fl with
  |ret ob=>
   obtain⟨d,rfl,rfl⟩:=hr;have g0:(s.heap.push (jh d)).get? s.heap.objs.size=aa (jh d):=fV _ rfl
   have hT:aM.TypeIs {s with heap:=s.heap.push (jh d)} (.ref s.heap.objs.size) "set":=⟨_,g0,rfl⟩
   have hli:=jW.init.lookup;have hbi:=jW.init.bind (.ref s.heap.objs.size)
   repeat (any_goals (first |assumption |wp_step))
   refine nR (tV (R:=wants (λr p=>r=.none/\∃ h' tk,p={ s with heap:=h',toks:=tk } /\
     h'.SetOf (strKind P w) s.heap.objs.size (λj=>(dP (λi=>xs.getD i "") items.size).any (·==j)) (dP (λi=>xs.getD i "") items.size).length /\
     (∀b o,b<s.heap.objs.size->s.heap.get? b=aa o->h'.get? b=aa o)) E) jW.init.plain F.entry_set_init (check_set_init_1 hT ?_)) λN p f=>?_
   .obtain⟨⟨oc,od,odt,os⟩,J,x,nl,z⟩:=hl;simp only at x z;subst x z;have L:(s.heap.push (jh d)).get? l=aa {cls:=.type "list",dict:=od,data:=.seq items nl,slots:=os}:=eH _ J;have k1:=F.sub_list_set;have k2:=F.sub_list_frozenset;have k3:(Value.type "list" == Value.type "dict")=ak:=by decide
    have B:(s.heap.push (jh d)).IsList l items:=⟨_,L,rfl,nl,rfl⟩;unfold Builtin.«set.__init__» noKeywords Builtin.Frozenset.updateFrom;generalize T:pyIter=PI
    wp_walk
    subst T;refine wpAny_pyIter_list B (bW (wpAny_runValue ?_));have lt:l<s.heap.objs.size:=cb J;have hh3:A.in1.in1.in1.handled=ae:=by simp[hh]
    have ne1:l≠(s.heap.push (jh d)).objs.size:=by rw[qm];exact dC (Nat.lt_succ_of_lt lt)
    have nin:s.heap.objs.size∉[(s.heap.push (jh d)).objs.size,l]:=by
     rw[qm];simp only[bG,bJ,or_false,not_or];exact⟨dC (Nat.lt_succ_self _),nO lt⟩
    have hv:∀(i:Nat) (v:Value),items[i]?=aa v->∃t,v=.str ((λi=>xs.getD i "") i) t:=λi v hv=>hi.2 i v (by rw[Array.getElem?_toList];exact hv);refine FV ((Walks.list hh3 _ l ne1 items).toS) s.heap.objs.size nin (λi=>xs.getD i "") hv hb (items.size-0) 0 _ (by lia) (gl _) ⟨⟨_,fV _ rfl,rfl,rfl⟩,(B.push _)⟩ ?hS0 ?hR
    case hS0=>
     obtain⟨o,es,ep,t,ho,r⟩:=FW (P:=P) (w:=w) s.heap d;exact⟨o,es,ep,t,eH _ ho,r⟩
    case hR=>
     intro s' hm Y;obtain⟨h',g',d',tk',os'⟩:=s';have eg:g'=s.gens:=hm.gens;have ed:d'=s.drawn:=hm.drawn;have eo:os'=s.os:=hm.os;subst eg ed eo;show wpAny _ _ _ _ _ _;refine c6 ?_;show wpAny _ _ (ret Value.none) _ _ _;refine c6 ⟨rfl,h',tk',rfl,Y,λb o u e=>?_⟩;have n2:b≠(s.heap.push (jh d)).objs.size:=by rw[qm];exact dC (Nat.lt_succ_of_lt u)
     refine hm.heap b o ?_ (eH _ (eH _ e));simp only[bG,bJ,or_false,not_or];exact⟨dC u,n2⟩
   .cases N with
    |error e=>exact f
    |ok q=>
     cases q with
     |ret r=>
      obtain⟨rfl,h',tk,rfl,q',kk⟩:=f
      repeat (any_goals (first |assumption |wp_step))
      exact h _ _ q' kk
     | _=>exact f.elim
  | _=>exact hr.elim
abbrev iK(xs:LSt):Nat:=(dP (λi=>xs.getD i "") xs.length).length
def zW:∀{xs:LSt} {vs:LVa},aY (xs.map V.str) vs->vJ vs xs
 | [],_,.nil=>⟨rfl,λi v h=>by simp at h⟩
 |x::xs,_,.cons r h=>by
  obtain⟨b,d⟩:=zW h;refine⟨by simp[b],λi v e=>?_⟩
  cases i with
  |zero=>
   obtain⟨t,rfl⟩:=r;cases e
   exact⟨t,rfl⟩
  |succ i=>exact d i v e
abbrev FY(K:bu)(te:TE):TE:=λσ H Q=>te σ H λx b=>∃l xs,x=.ref l/\SqL K b l (xs.map V.str)/\xs.length<4000/\Q (.int (iK xs:Nat)) b
variable{te:TE}{p p2 fy:Pos}
def FZ(hc:X.calm=ac)(m:Gl X "len")(z:X.mg "len"=ae)(t:Gl X "set")(B:X.mg "set"=ae)(he:PE X e te)
 (T:aX [.Call (.Name "set" p2) [e] [] fy] X.env=(ak,eval (.Call (.Name "set" p2) [e] [] fy) X.env)::aX [] X.env:=by rfl)(Y:aX [e] X.env=(ak,eval e X.env)::aX [] X.env:=by rfl)
 (J:(eG pos (aX [] X.env)).any (·.1)=ak:=by rfl)(d:(eG fy (aX [] X.env)).any (·.1)=ak:=by rfl):
  PE X (.Call (.Name "len" p) [.Call (.Name "set" p2) [e] [] fy] [] pos) (FY X.K te):=by
 intro pins s σ H Q I h;refine lc (jv I m z cC ?_);refine xo ?_ T J;rw[T];refine qi (lc (jv I t B boot_set ?_));refine mn ?_ Y d;rw[Y];refine qi (thn (he pins s σ H _ I h) λu s1 q_=>?_);obtain⟨x,H1,f,r1,l,xs,rfl,hq,hb,q⟩:=q_;cases r1;refine c6 ?_;obtain⟨its,rr,pl,hz⟩:=f.list hq;have ii:vJ its xs:=zW rr;have zz:its.toArray.size=xs.length:=by rw[size_toArray,ii.1]
 refine FX (items:=its.toArray) (xs:=xs) (f.ok.hd hc) pl.isList (by simpa using ii) (by rw[zz];unfold scanBound;lia) λh' tk qs keep=>?_;rw[zz]at qs;refine c6 ?_;obtain⟨o,N,ep,tb,ho,hex,hd,_,_,L,hf,hn⟩:=qs
 refine call_len_set (s:={s1 with heap:=h',toks:=tk}) ho hex hd hf (by unfold scanBound at L;lia) ?_
 refine⟨.int (iK xs:Nat),H1,f.kept λb u g=>keep b u (cb g) g,?_,q⟩;rw[hn];exact⟨_,rfl⟩
def zX:∀(xs:LSt),kr (xs.map D.str)=aa xs
 | []=>rfl
 |x::xs=>by show(kr _).map _=_;rw[zX xs];rfl
def zY{G:Gc}{H:Hp}:∀{xs:LSt} {vs:List V},aC G H (xs.map D.str) vs->vs=xs.map V.str
 | [],_,r=>r
 |x::xs,_,r=>by
  obtain⟨v,vs,rfl,b,d⟩:=r;rw[zY d,show v=V.str x from b];rfl
abbrev kC(f:MF1)(U:LS):OD:=(f U).bind λd=>(lsD d).bind λds=>(kr ds).bind λxs=>if xs.length<4000 then aa (.int (iK xs:Nat)) else ae
variable{f:MF1}
def F0(h:f U=aa (.lst (xs.map D.str)))(b:xs.length<4000):kC f U=aa (.int (iK xs:Nat)):=by
 unfold kC;rw[h];show((kr (xs.map D.str)).bind λxs=>if xs.length<4000 then aa (D.int (iK xs:Nat)) else ae)=_;rw[zX];exact if_pos b
def zZ(hc:X.calm=ac)(o:Gl X "len")(u:X.mg "len"=ae)(t:Gl X "set")(z:X.mg "set"=ae)(ha:DE c X e f)
 (Y:aX [.Call (.Name "set" p2) [e] [] fy] X.env=(ak,eval (.Call (.Name "set" p2) [e] [] fy) X.env)::aX [] X.env:=by rfl)(h2:aX [e] X.env=(ak,eval e X.env)::aX [] X.env:=by rfl)
 (B:(eG pos (aX [] X.env)).any (·.1)=ak:=by rfl)(m:(eG fy (aX [] X.env)).any (·.1)=ak:=by rfl):DE c X (.Call (.Name "len" p) [.Call (.Name "set" p2) [e] [] fy] [] pos) (kC f):=
 PE.imp (FZ hc o u t z ha Y h2 B m) λσ H Q q_=>by
  obtain⟨Hf0,H0,Hf,U,ds,st,b,k⟩:=q_;unfold kC at b;obtain⟨d,L,b⟩:=fo.mp b;obtain⟨xs,N,b⟩:=fo.mp b;obtain⟨ts,T,b⟩:=fo.mp b;split at b
  .rename_i hl;cases b;refine⟨Hf0,H0,Hf,U,d,st,L,λv Hf' H' x r=>?_⟩;obtain⟨l,vs,rfl,q,J⟩:=jC N r;rw[zH T]at J;obtain rfl:=zY J;exact⟨l,ts,rfl,x.s.seq q,hl,k _ Hf' _ x rfl⟩
  .nomatch b
def z3(val:Nat->Str):∀i k,k∈dP val i↔∃j,j<i/\val j=k
 | 0,k=>⟨(λh=>nomatch h),λ⟨j,h,_⟩=>absurd h (Nat.not_lt_zero _)⟩
 |i+1,k=>by
  have m:=z3 val i k;have e:=zU (dP val i) (val i) k;have any:∀(σ:LSt),σ.any (·==k)=ac↔k∈σ:=λσ=>by simp[any_eq_true]
  rw[<- any];show(jN (dP val i) (val i)).any (·==k)=ac↔_;rw[e,fG,any,m,decide_eq_true_eq];constructor
  .rintro(⟨j,d,b⟩ |rfl)
   .exact⟨j,by lia,b⟩
   .exact⟨i,by lia,rfl⟩
  .rintro⟨j,d,b⟩
   rcases p9 j i with h |h
   .exact .inl ⟨j,h,b⟩
   .obtain rfl:j=i:=by lia
    exact .inr b.symm
def z4(val:Nat->Str):∀i,(dP val i).length=i↔∀j k,j<k->k<i->val j≠val k
 | 0=>⟨λ_ j k _ h=>by lia,λ_=>rfl⟩
 |i+1=>by
  have o:=z4 val i;have q:=se val i;show(jN (dP val i) (val i)).length=i+1↔_;rw[zV];have any:(dP val i).any (·==val i)=ac↔∃j,j<i/\val j=val i:=by rw[<- z3];simp[any_eq_true]
  by_cases h:(dP val i).any (·==val i)=ac
  .rw[if_pos h];obtain⟨j,b,d⟩:=any.mp h;exact⟨λe=>by lia,λg=>absurd d (g j i b (by lia))⟩
  .rw[if_neg h];constructor
   .intro e j k b d m
    rcases p9 k i with h4 |h4
    .exact o.mp (by lia) j k b h4 m
    .obtain rfl:k=i:=by lia
     exact h (any.mpr ⟨j,b,m⟩)
   .intro g;rw[o.mpr λj k b d=>g j k b (by lia)]
def F1(xs:LSt):iK xs<=xs.length:=se _ _
def F2(xs:LSt):iK xs=xs.length↔xs.Nodup:=by
 unfold iK;rw[z4,tS,pairwise_iff_getElem];constructor
 .intro h i j hi d b e;refine h i j b d ?_;show xs.getD i ""=xs.getD j "";rw[ij,ij,eM hi,eM d];exact congrArg (λz=>(aa z).getD ("":Str)) e
 .intro h i j b d e;have hi:i<xs.length:=by lia
  refine h i j hi d b ?_;have e:xs.getD i ""=xs.getD j "":=e;rw[ij,ij,eM hi,eM d]at e;exact e
abbrev nc(b m:Nat)(o:O)(U:LS):Option LS:=match o with
 |.tup [.fz d,o2]=>aa ((U.set b (.im d)).set m (.deep o2))
 | _=>ae
variable{ja jb:Nat}{o:O}{ρ':LS}
def F3(h:nc ja jb o U=aa ρ'):∃d b,o=.tup [.fz d,b]/\ρ'=(U.set ja (.im d)).set jb (.deep b):=by
 unfold nc at h;split at h
 .exact⟨_,_,rfl,(cs h).symm⟩
 .nomatch h
abbrev hZ(ja jb:Nat)(F:MF3):List O->MF3
 | [],U=>aa (.nx U)
 |o::os,U=>(nc ja jb o U).bind λρ1=>(F ρ1).bind λx=>match x with
  |.nx b=>hZ ja jb F os b
  |.ct b=>hZ ja jb F os b
  |.rt d=>aa (.rt d)
  | _=>ae
open Classical in
abbrev oZ(i:Nat)(kk:Option Nat)(ja jb:Nat)(ks:LN)(F:MF3)(U:LS):Option Fl:=(oO i kk U).bind λz=>
 if (∀u,∃b,hZ ja jb F z.1 (U.set i (.val u))=aa (.nx b)/\iJ ks b (U.set i (.val u)))/\i∉ks then aa (.nx ((mY ks U).set i z.2))
 else if h:∃d,∀u,hZ ja jb F z.1 (U.set i (.val u))=aa (.rt d) then aa (.rt (choose h)) else ae
def z5{ja jb:Nat}{ks:LN}{F:MF3}{d:LS}:∀{os:List O} (_:∀o∈os,∀ρ1,iJ ks ρ1 d->∃m b,nc ja jb o ρ1=aa m/\F m=aa (.nx b)/\iJ ks b d) (ρ1:LS),iJ ks ρ1 d->∃b,hZ ja jb F os ρ1=aa (.nx b)/\iJ ks b d
 | [],_,ρ1,l=>⟨ρ1,rfl,l⟩
 |o::os,h,ρ1,l=>by
  obtain⟨m,b,u,e,z⟩:=h o bP ρ1 l;obtain⟨q,t,B⟩:=z5 (λo' x=>h o' (cF _ x)) b z;refine⟨q,?_,B⟩;unfold hZ;rw[u,aJ,e];exact t
variable{kk:Option Nat}{K:Fl->Prop}
def F4{ks:LN}{os:List O}{s':Sl}(h:oO i kk U=aa (os,s'))(hi:i∉ks)
 (m:∀u,∀o∈os,∀ρ1,iJ ks ρ1 (U.set i (.val u))->∃d b,nc ja jb o ρ1=aa d/\F d=aa (.nx b)/\iJ ks b (U.set i (.val u)))(k:K (.nx ((mY ks U).set i s'))):wp (oZ i kk ja jb ks F) U K:=by
 refine⟨_,?_,k⟩;unfold oZ;rw[h,aJ,if_pos ⟨λu=>z5 (m u) _ (iJ.refl _ _),hi⟩]
variable{G:Gc}{d:D}
def F5{a:Addr}{v:V}(h:kj G Hf H σ U a):kj G Hf H (σ.set j (aa v)) (U.set j (.im d)) a:=λk t w b c p=>by
 rcases cf b with⟨_,m,_⟩ |⟨ne,b⟩
 .subst m;exact(p.calm rfl).elim
 .rw[eN (eE ne)]at c;exact h k t w b c p
variable{body:List Stmt}
def F6(ks:LN)(hp:PassesOwn (model X.prog X.w) X.A X.env X.xe)(hc:X.calm=ac)(hi:PE X iter (zq X.K i kk))(hg:PG X tg (xE X.K 2 (uh (jw ja) (uh (jw jb) xC))))(hb:DSs c X body F)(hs:∀x,gK iter X.env x=pure x:=by intro _;rfl):
  DS c X (.For tg iter body [] pos) (oZ i kk ja jb ks F):=PS.imp (qy hp hc (qu hi) hg hb hs) λE σ H q_=>by
 obtain⟨Hf0,H0,Hf,U,o,so,ef,k⟩:=q_;unfold oZ at ef
 cases e1:oO i kk U with
 |none=>rw[e1]at ef;nomatch ef
 |some z=>
  obtain⟨os,s'⟩:=z;rw[e1,aJ]at ef;obtain⟨u,L,us,fs,eu,qL,ro,nd,z0,hold,src,fin⟩:=EO so e1;have d8:=ro.length;have iu:i<U.length:=by rw[<- so.len];exact(dh.mp eu).1
  have fr0:∀a∈L::fs,kj _ Hf H σ (U.set i (.val u)) a:=λa ha kk2 t w b cc p=>by
   obtain⟨s,es,hs⟩:=hold a ha
   rcases cf b with⟨_,e',_⟩ |⟨ne,b⟩
   .subst e';exact jS p.1
   .exact ne (so.dj kk2 i t s w u a b es cc eu p hs)
  obtain⟨oz,ez,kT⟩:∃oz,hZ ja jb F os _=aa oz/\((∃ρe,oz=.nx ρe/\iJ ks ρe (U.set i (.val u))/\i∉ks/\o=.nx ((mY ks U).set i s'))\/∃d,oz=.rt d/\o=.rt d):=by
   split at ef
   .rename_i h;cases ef;obtain⟨N,a,b⟩:=h.1 u;exact⟨_,a,.inl ⟨_,rfl,b,h.2,rfl⟩⟩
   .split at ef
    .rename_i h;cases ef;exact⟨_,Classical.choose_spec h u,.inr ⟨_,rfl,rfl⟩⟩
    .nomatch ef
  refine src _ ⟨L,rfl,⟨us,SqL.of qL⟩,?_⟩
  refine⟨λt m σ' H'=>m=os.length-t/\t<=os.length/\∃Hf' ρ' fr,aB _ Hf0 H0 Hf' H' σ' ρ'/\aG Hf Hf'/\OTs _ Hf' H' (os.drop t) (us.drop t) fr/\(L::fr).Nodup/\(∀a∈L::fr,H0 a=ae/\Hf' a=ae/\kj _ Hf' H' σ' ρ' a)/\H' L=aa _/\(∀b vs,H b=aa (.tup vs)->H' b=aa (.tup vs))/\hZ ja jb F (os.drop t) ρ'=aa oz,
   ⟨os.length,rfl,gl _,Hf,U.set i _,fs,so.take eu,aG.refl _,ro,nd,λa ha=>⟨(z0 a ha).1,(z0 a ha).2,fr0 a ha⟩,qL,λ_ _ h=>h,ez⟩,?_⟩
  rintro t m σ' H' ⟨rfl,ht,Hf',ρ',fr,so',sf,rr,nr,zr,qL',tp,em⟩
  by_cases hlt:t<os.length
  .obtain⟨ot,eo,ky⟩:=j8 hlt;obtain⟨ut,eut,eur⟩:=j8 (l:=us) (i:=t) (by lia)
   refine .inr ⟨⟨us,ut,SqL.of qL',eut⟩,λgg H2=>os.length-_=os.length-_/\t+1<=os.length/\∃Hf' ρ' fr,aB _ Hf0 H0 Hf' H2 gg ρ'/\aG Hf Hf'/\OTs _ Hf' H2 _ _ fr/\(L::fr).Nodup/\_/\H2 L=aa _/\_/\hZ ja jb F _ ρ'=aa oz,
    λgg H2 w=>⟨os.length-(t+1),by lia,w⟩,λx H2 y=>?_⟩
   obtain⟨e2,y⟩:=y;subst e2;have:=y us (SqL.of qL');rw[eut]at this;cases this;rw[ky,eur]at rr;obtain⟨v,r,f1,f2,ev,h1,h2,efr⟩:=rr
   injection ev with ev1 ev2
   subst ev1 ev2 efr;rw[ky]at em;unfold hZ at em;have nL:=gj.mp nr;have n12:=mj.mp nL.2
   have S2:∀a∈L::f2,a∈L::(f1++f2):=λa ha=>by
    rcases bG.mp ha with e |e
    .subst e;exact bP
    .exact cF _ (gH _ e)
   cases eB:nc ja jb ot ρ' with
   |none=>rw[eB]at em;nomatch em
   |some ρb=>
   rw[eB,aJ]at em;obtain⟨dd,o2,rfl,rfl⟩:=F3 eB;obtain⟨p,xs2,ep,hpt,rs2⟩:=id h1;obtain⟨x1,r1,g1,g2,e1x,⟨rx1,eg1⟩,⟨y1,r1',g3,g4,e2x,hy,⟨er,eg4⟩,eg3⟩,eg⟩:=rs2;subst ep e1x e2x er eg1 eg4;rw[cV]at eg3;subst eg3;rw[nil_append]at eg;subst eg
   have f1z:∀a∈f1,L2.prom H0 H2 (L::f2) a=ae/\Hf' a=ae:=λa ha=>by
    have hz:=zr a (cF _ (iQ _ ha));obtain⟨oo,ho,hto⟩:=(OT.memM o2 _ f1 hy) a ha;rw[vq (λhm=>?_) (λvs q=>by rw[ho]at q;cases q;nomatch hto)]
    .exact⟨hz.1,hz.2.1⟩
    .rcases bG.mp hm with e |e
     .subst e;exact nL.1 (iQ _ ha)
     .exact n12.2.2 a ha a e rfl
   have sb:=((so'.prom _ λa ha=>⟨(zr a (S2 a ha)).2.1,(zr a (S2 a ha)).2.2⟩).setIm (i:=ja) rx1).hand (j:=jb) (s:=.deep o2) ⟨_,f1,rfl,hy,n12.1,f1z⟩ λa p=>by
    obtain⟨fp,r2,ha⟩:=p;have:=OT.funM o2 _ _ _ hy r2;subst this;exact F5 (zr a (cF _ (iQ _ ha))).2.2
   have pm:=EN so'.ext.h (L::f2)
   cases eF:F _ with
   |none=>rw[eF]at em;nomatch em
   |some o1=>
    rw[eF,aJ]at em;refine⟨p,_,rfl,SqT.of hpt,rfl,_,_,rfl,_,_,rfl,rfl,Hf0,_,Hf',_,o1,sb,eF,?_⟩
    have go:∀N,hZ ja jb F (os.drop (t+1)) N=aa oz->∀T J Y,aG Hf' J->aB (Gx c X) Hf0 (L2.prom H0 H2 (L::f2)) J Y T N->os.length-_=os.length-(t+1)/\t+1<=os.length/\∃Hf' ρ' fr,aB (Gx c X) Hf0 H0 Hf' Y T ρ'/\aG Hf Hf'/\OTs (Gx c X) Hf' Y (os.drop (t+1)) (us.drop (t+1)) fr/\(L::fr).Nodup/\(∀a∈L::fr,H0 a=ae/\Hf' a=ae/\kj (Gx c X) Hf' Y T ρ' a)/\Y L=aa (.lst us)/\(∀b vs,H b=aa (.tup vs)->Y b=aa (.tup vs))/\hZ ja jb F (os.drop (t+1)) ρ'=aa oz:=λN em2 T J Y s4 B=>by
     have inP:∀a u,a∈L::f2->H2 a=aa u->L2.prom H0 H2 (L::f2) a=aa u:=λa u ha e=>by rw[EL ha];exact e
     have there:∀a∈L::f2,∃u,H2 a=aa u/\fW u=ak:=λa ha=>by
      rcases bG.mp ha with e |e
      .subst e;exact⟨_,qL',rfl⟩
      .exact OTs.memM _ _ f2 h2 a e
     refine⟨rfl,hlt,J,N,f2,B.less pm,sf.trans s4,OTs.frameM s4 _ _ f2 h2 (λb w hb hm=>?_),gj.mpr ⟨λh=>nL.1 (gH _ h),n12.2.1⟩,λa ha=>?_,B.ext.h L _ (inP L _ bP qL'),λb vs hb=>B.ext.h b _ (vp (tp b vs hb)),em2⟩
     .rcases hm with hm |hm
      .cases w with
       |tup vs=>exact B.ext.h b _ (vp hb)
       | _=>nomatch hm
      .exact B.ext.h b w (inP b w (cF _ hm) hb)
     .have hz:=zr a (S2 a ha);obtain⟨w,hw,htw⟩:=there a ha;have pw:=inP a w ha hw;refine⟨hz.1,?_,B.free pw⟩;rw[B.ext.n a w pw htw];exact so'.ext.f.free hz.2.1
    cases o1 with
    |nx N=>exact λT J Y s4 B=>go N em T J Y s4 B
    |ct N=>exact λT J Y s4 B=>go N em T J Y s4 B
    |rt d=>
     cases em
     rcases kT with⟨ρe,e,_⟩ |⟨d',e,eo⟩
     .cases e
     .cases e;subst eo
      exact λv J Y x4 r4=>k v J Y (x4.less pm) r4
    | _=>nomatch em
  .have et:t=os.length:=by lia
   subst et;rw[kZ (bC _)]at em
   rcases kT with⟨ρe,e,lk,hik,eo⟩ |⟨d',e,eo⟩
   .subst e
    have em:ρ'=ρe:=by injection em with em;injection em
    subst em eo;refine .inl ⟨⟨us,SqL.of qL',by rw[<- d8];exact bC _⟩,?_⟩;obtain⟨v',ev',qv⟩:=so'.slot (i:=i) (s:=.val u) (by rw[lk.2 i hik,fH iu]);subst qv;have zL:=zr L bP;obtain⟨okL,onlyL⟩:=fin Hf' H' sf so'.sub tp qL' H0 zL.1 zL.2.1;have res:=so'.hand (j:=i) okL λa p=>by rw[onlyL a p];exact zL.2.2
    have e3:σ'.set i (aa u)=σ':=by
     apply mi;intro jj
     by_cases hj:i=jj
     .subst hj;rw[fH (dh.mp ev').1,ev']
     .rw[eN hj]
    rw[e3]at res;refine k σ' Hf' H' sf (res.weak (by rw[gk,gk,zt,lk.1,gk]) λm s hm=>?_)
    rcases cf hm with⟨e5,e6,_⟩ |⟨ne,hm⟩
    .subst e5 e6;exact .inr (fH (by rw[lk.1,gk];exact iu))
    .rcases zu ks U m s hm with e |⟨nk,e⟩
     .exact .inl e
     .exact .inr (by rw[eN (eE ne),lk.2 m nk,eN (eE ne)];exact e)
   .subst e;nomatch em
abbrev o0(i:Nat)(f:MF1)(U:LS):Option Fl:=(f U).bind λd=>match U[i]? with
 |some (.deep o)=>(o.appd d).map λo'=>.nx (U.set i (.deep o'))
 | _=>ae
def F7(h:PS X st (lr (tBM X.K "list" oj (dL i) (mz (tD (Gx c X) f) my)))):DS c X st (o0 i f):=PS.imp h λE σ H q_=>by
 obtain⟨Hf0,H0,Hf,U,o,B,m,kq⟩:=q_;unfold o0 at m;obtain⟨d,T,m⟩:=fo.mp m;split at m
 .rename_i ok es;obtain⟨o',ea,m⟩:=lb.mp m;subst m;obtain⟨v,L,u,fp,Y,r,n,z⟩:=B.slot es;subst Y;obtain⟨l,us,el,N,hz,lm,next⟩:=EK ea r;subst el;refine⟨_,L,.inl ⟨rfl,_,SqL.of N⟩,Hf0,H0,Hf,U,d,B,T,λJ Hf' H' x r'=>?_⟩;have k2:∀b u,b≠l->H b=aa u->upd H' l (.lst (us++[J])) b=aa u:=λb u t e=>by rw[bH t];exact x.h b u e
  have new:=next Hf' _ J n x.f k2 bT r';refine⟨l,us,J,rfl,rfl,(x.h _ _ N),by rw[dD];exact hz,kq σ Hf' _ x.f (B.chgX x es L (λb u t=>?_) ⟨_,fp,rfl,new,n,λa ha=>?_⟩ λa pp=>?_)⟩
  .by_cases q:b=l
   .subst q;exact .inl ⟨_,r,lm⟩
   .exact .inr (by rw[bH q];exact t)
  .refine⟨(z a ha).1,?_⟩;obtain⟨u,hu,ht⟩:=(OT.memM ok _ fp r) a ha;rw[x.n a u hu ht];exact(z a ha).2
  .obtain⟨fp',r2,ha⟩:=pp;have:=OT.funM _ _ _ _ new r2;subst this;exact .inl ⟨fp,r,ha⟩
 .nomatch m
def F8{o':O}(h:f U=aa d)(h':U[i]?=aa (.deep o))(ha:o.appd d=aa o')(q:K (.nx (U.set i (.deep o')))):wp (o0 i f) U K:=
 ⟨_,by unfold o0;rw[h,aJ,h'];show(o.appd d).map _=_;rw[ha];rfl,q⟩
variable{a:Expr}
abbrev vK(K:bu):V->Option Int->Hp->VK->Prop:=λx st H Q=>∃a xs,x=.ref a/\SqL K H a xs/\(st=aa 1\/st=aa (-1))/\∀p,H p=ae->Q (.ref p) (upd H p (.lst (if st=aa 1 then xs else xs.reverse)))
def F9(items:Array Value):slicePick items ae ae (aa 1)=slicePick items ae ae ae:=rfl
variable{b:Expr}{tb:TO}
def Ga(he:PE X a te)(hb:PO X (aa b) tb):PE X (.Subscript a (.Slice ae ae (aa b) p2) pos) (λσ H Q=>te σ H λx z=>tb σ z λst m=>vK X.K x st m Q):=by
 intro pins s σ H Q I h;refine Subscript_ (thn (he pins s σ H _ I h) λv s1 J=>?_);obtain⟨x,z,I1,r1,q1⟩:=J;refine wpAny_Slice (thn (qE pins s1 σ z (λo H'=>o=ae/\tb σ H' λst m=>vK X.K x st m Q) I1 ⟨rfl,q1⟩) λvl s2 ⟨l,m,I2,pl,el,q2⟩=>thn (qE pins s2 σ m (λo H'=>o=ae/\tb σ H' λst m=>vK X.K x st m Q) I2 ⟨rfl,q2⟩) λvu s3 ⟨u,H3,I3,pu,eu,q3⟩=>thn (hb pins s3 σ H3 _ I3 q3) λvt s4 J=>?_);obtain⟨t,H4,I4,pt,q4⟩:=J;subst el eu
 have B:Inv X pins σ H4 {s4 with heap:=s4.heap.push {cls:=.type "slice",data:=.fields #[vl,vu,vt]}}:=I4.kept λb ob q=>eH _ q
 obtain⟨a,xs,rfl,hx,T,q⟩:=q4;cases r1;obtain⟨its,r,L,Y⟩:=B.list hx;have N:=r.length;refine tail_any L.isList.typeIs slot_list_getitem.lookup ?_ (by with_unfolding_all rfl)
 refine wpAny_getItem_list_slice L.isList (xr ..) pl pu pt (by rcases T with rfl |rfl <;> decide) ?_ (by rw[size_toArray];lia)
 refine⟨.ref _,_,B.laid (λb ob q=>eH _ q) (bC _) ?_,rfl,q _ (B.hok.fresh (bC _))⟩
 rcases T with rfl |rfl
 .rw[if_pos rfl,F9,x9,HT.sIx_none,HT.sIx_none,drop_zero,Nat.sub_zero,take_length];exact⟨Y,its,0,r,fV _ rfl⟩
 .rw[if_neg (by decide),W.krv_pick];exact⟨by rw[length_reverse];exact Y,its.reverse,0,r.reverse,fV _ rfl⟩
abbrev sh(f g:Xe):Xe:=λU=>(f U).bind λp=>(g p.2).bind λq=>(lsD p.1).bind λds=>match q.1 with
 |.int i=>if i=1\/i=-1 then aa (.lst (if i=1 then ds else ds.reverse),q.2) else ae
 | _=>ae
variable{f g:Xe}
def Gb(ha:DX c X a f)(hb:DX c X b g):DX c X (.Subscript a (.Slice ae ae (aa b) p2) pos) (sh f g):=
 PE.imp (Ga ha (uB hb)) λσ H Q q_=>by
  obtain⟨Hf0,H0,Hf,U,r,ρ',st,N,k⟩:=q_;unfold sh at N;obtain⟨⟨d,ρ1⟩,e1,B⟩:=fo.mp N;obtain⟨⟨y,b5⟩,e2,J⟩:=fo.mp B;obtain⟨ds,e3,m⟩:=fo.mp J;clear N B J;dsimp only at e2 e3 m;split at m
  .rename_i i;split at m
   .rename_i hi;cases m;refine⟨Hf0,H0,Hf,U,_,ρ1,st,e1,λv L H1 f1 gp r1=>⟨Hf0,H0,L,ρ1,_,_,gp,e2,λu b0 H2 T t r2=>⟨i,r2,?_⟩⟩⟩;obtain⟨a,vs,rfl,q,r⟩:=jC e3 r1;refine⟨a,vs,rfl,(T.trans t.sub).seq q,hi.imp (congrArg aa) (congrArg aa),λp hp=>?_⟩;have x:=(Ext.tmp (o:=.lst (if aa i=aa 1 then vs else vs.reverse)) t.sub hp).fix hp (t.sub.free hp) bT;refine k _ _ _ ((f1.trans T).trans x.f) (t.step x) ⟨p,_,rfl,bT,?_⟩;have r3:=(r.up T).up x.f
    by_cases Y:i=1
    .subst Y;rw[if_pos rfl,if_pos rfl];exact r3
    .have h2:¬aa i=aa 1:=λz=>Y (cs z);rw[if_neg h2]at r3;rw[if_neg Y,if_neg h2];exact r3.reverse
   .nomatch m
  .nomatch m
abbrev Sl.frz:Sl->Sl
 |.im d=>.im d
 |.own xs=>.im (.lst xs)
 |.deep o=>if o.kn then .im o.toD else .no
 | _=>.no
abbrev kD(H0 Hf H:Hp):Hp:=λa=>if (H0 a).isNone || ((H a).map fW).getD ak then H a else Hf a
def z6{a:Addr}{u:HO}(e:H a=aa u)(h:fW u=ac\/H0 a=ae):kD H0 Hf H a=aa u:=by
 unfold kD;rw[if_pos,e]
 rcases h with h |h
 .rw[e,fG];exact .inr h
 .rw[h];rfl
def aB.freeze(h:aB G Hf0 H0 Hf H σ U):aB G Hf0 H0 (kD H0 Hf H) H σ (U.map Sl.frz):=by
 have s1:aG Hf (kD H0 Hf H):=λa u e=>by
  unfold kD;split
  .exact h.sub a u e
  .exact e
 have s2:aG (kD H0 Hf H) H:=λa u e=>by
  unfold kD at e;split at e
  .exact e
  .exact h.sub a u e
 refine h.re ⟨h.ext.f.trans s1,h.ext.h,s2,λl o e t=>?_⟩ (by simp) (λi v s a b=>?_) λi s v a b c p=>?_
 .rw[<- h.ext.n l o e t];unfold kD;refine if_neg λz=>?_;rw[e,h.ext.h l o e]at z;rw[fG]at z
  rcases z with z |z
  .nomatch z
  .rw[show((aa o).map fW).getD ak=fW o from rfl,t]at z;nomatch z
 .rw[fm]at b;obtain⟨m,B,rfl⟩:=lb.mp b;have q:=h.at' i v m a B
  cases m with
  |im d=>exact q.imp λu z=>⟨z.1,z.2.up s1⟩
  |own xs=>
   obtain⟨l,e,J,T,vs,N,r⟩:=q
   exact⟨_,e,l,vs,rfl,z6 N (.inr J),r.up s1⟩
  |deep o=>
   show eR G H0 _ H v (if o.kn then Sl.im o.toD else .no)
   by_cases x:o.kn=ac
   .rw[if_pos x];obtain⟨u,fp,e,r,n,z⟩:=q;exact⟨u,e,(OT.frameM s1 o u fp r λb w L hm=>z6 L (hm.imp_right λy=>(z b y).1)).rep (aG.refl _) x⟩
   .rw[if_neg x];trivial
  | _=>trivial
 .rw[fm]at b;obtain⟨m,B,rfl⟩:=lb.mp b;refine(p.calm ?_).elim
  cases m with
  |deep o=>show(if o.kn then Sl.im o.toD else .no).calm=ac;split <;> rfl
  | _=>rfl
abbrev iL(r:LS->Bool)(U:LS):Bool:=r (U.map Sl.frz)
variable{E:XK}
def z7(h:RS c X C E st r):RS c X C E st (iL r):=PS.imp h λu σ H q=>by
 obtain⟨Hf0,H0,Hf,U,t,m,k⟩:=q;exact⟨Hf0,H0,_,_,t.freeze,m,k⟩
variable{ra:LS->Bool}{x:Str}{f:Addr}
def Gd(B:Gl X x)(hm:X.mg x=aa (.ref f))(J:W.keepIn X.K (.ref f)=ac)(u:RA c X C E (e::es) ra)
 (m:NDb x:=by decide)(z:StE X e es:=by rfl)(t:BkE X pos es:=by rfl):
  RX c X C E (.Call (.Name x p) (e::es) [] pos) ra:=by
 intro pins s σ H Q I h;refine lc (nW I B hm ?_ m);exact W.callWith_K (h₀:=X.base) I.ok.mod.kin J (thn (u pos pins s σ H (λ_ _=>False) I h) λus s1 ⟨vs,L,N,r,q⟩=>q.elim) z t
section
variable(k:Nat)(js:LN)(jp t:Nat)(g:D->LS->Option LS)(tt:Xt)(fe:Xe)(U:LS)(l:Addr)
open Classical in
abbrev ng(m:LS)(y:OD):Option (OD×LD):=match m[k+t]? with
 |some (.pin _ c0)=>if ∀i,k<=i->m[i]?=(cR k js (U.set jp (.pin l c0)))[i]? then aa (y,c0) else ae
 | _=>ae
abbrev nh(d:D)(xs:LD):Option (OD×LD):=(g d (cR k js (U.set jp (.pin l xs)))).bind λρ1=>(tt ρ1).bind λb=>match b.1 with
 |true=>(fe b.2).bind λq=>ng k js jp t U l q.2 (aa q.1)
 |false=>ng k js jp t U l b.2 ae
abbrev h7:LD->LD->Option (LD×LD)
 | [],xs=>aa ([],xs)
 |d::ds,xs=>(nh k js jp t g tt fe U l d xs).bind λy=>(h7 ds y.2).map λr=>(y.1.toList++r.1,r.2)
end
abbrev lU(k:Nat)(js:LN)(m t:Nat)(fi:Xa)(g:D->LS->Option LS)(tt:Xt)(u:Xe):Xe:=λU=>(fi U).bind λp=>match p.2[m]? with
 |some (.pin l xs)=>if p.1.length<=16777216/\js[t]?=aa m/\(js.all λj=>j==m || ((p.2[j]?).getD .no).calm)=ac then (h7 k js m t g tt u p.2 l p.1 xs).map λq=>(.lst q.1,p.2.set m (.pin l q.2)) else ae
 | _=>ae
variable{k jp t:Nat}{js:LN}{b5:LS}{c0:LD}
def z8{y q:OD}(h:ng k js jp t U l b5 y=aa (q,c0)):q=y/\(∃m,b5[k+t]?=aa (.pin m c0))/\∀i,k<=i->b5[i]?=(cR k js (U.set jp (.pin l c0)))[i]?:=by
 unfold ng at h;split at h
 .rename_i m z u;split at h
  .rename_i hi;cases h;exact⟨rfl,⟨m,u⟩,hi⟩
  .nomatch h
 .nomatch h
variable{g:D->LS->Option LS}{tt:Xt}{fe:Xe}{xs:LD}
def Ge{y:OD}(h:nh k js jp t g tt fe U l d xs = aa (y, c0)):∃ρ1 b b5, g d (cR k js (U.set jp (.pin l xs))) = aa ρ1/\tt ρ1 = aa (b, b5) /\
    ((b = ac/\∃ q m, fe b5 = aa (q, m)/\y = aa q/\(∃ J, m[k + t]? = aa (.pin J c0))/\∀ i, k<=i->m[i]? = (cR k js (U.set jp (.pin l c0)))[i]?) \/
     (b = ak/\y = ae/\(∃J, b5[k+t]? = aa (.pin J c0))/\∀i, k<=i->b5[i]? = (cR k js (U.set jp (.pin l c0)))[i]?)):= by
  unfold nh at h;obtain⟨ρ1, L, h⟩:= fo.mp h;obtain⟨⟨b, b5⟩, N, h⟩:= fo.mp h;refine⟨ρ1, b, b5, L, N, ?_⟩
  cases b with
  |true=>
    obtain⟨⟨q, m⟩, T, h⟩:= fo.mp h;obtain⟨u, z, B⟩:= z8 h
    exact .inl ⟨rfl, q, m, T, u, z, B⟩
  |false=>
    obtain⟨u, z, B⟩:= z8 h;exact .inr ⟨rfl, u, z, B⟩
variable{ds ys:LD}
def Gf{m:LD}(h:h7 k js jp t g tt fe U l (d::ds) xs=aa (m,ys)):∃y c0 r,nh k js jp t g tt fe U l d xs=aa (y,c0)/\h7 k js jp t g tt fe U l ds c0=aa (r,ys)/\m=y.toList++r:=by
 unfold h7 at h;obtain⟨⟨y,c0⟩,q,h⟩:=fo.mp h;obtain⟨⟨r,z⟩,u,h⟩:=lb.mp h;cases h;exact⟨y,c0,r,q,u,rfl⟩
variable{fi:Xa}
def Gg(hj:js.Nodup)(hk:∀d U ρ' i,g d U=aa ρ'->k<=i->ρ'[i]?=U[i]?)(d8:∀d U ρ',g d U=aa ρ'->ρ'.length=U.length){Q:VK}(h:tDX G (lU k js jp t fi g tt fe) σ H Q):
  mF k js (rA G fi) (tDG G g) (oP G tt) (tDX G fe) σ H Q:=by
 obtain⟨Hf0,H0,Hf,ρ0,d0,ρ',st,z,kq⟩:=h;unfold lU at z
 cases e1:fi ρ0 with
 |none=>rw[e1]at z;nomatch z
 |some p=>
  obtain⟨ds,U⟩:=p;rw[e1,aJ]at z;dsimp only at z;split at z
  .rename_i l xs ep;split at z
   .rename_i hz;obtain⟨hz,ht,hcm⟩:=hz
    cases e2:h7 k js jp t g tt fe U l ds xs with
    |none=>rw[e2]at z;nomatch z
    |some q=>
     obtain⟨rs,zs⟩:=q;rw[e2]at z;cases z;refine⟨Hf0,H0,Hf,ρ0,ds,U,st,e1,λJ u H1 f1 gp it=>?_⟩
     have hcm':=λj N=>by
      have:=all_eq_true.mp hcm j N;rw[fG]at this;exact this.imp beq_iff_eq.mp id
     have eself:U.set jp (.pin l xs)=U:=by
      apply mi;intro i
      by_cases hi:jp=i
      .subst hi;rw[rN ep,ep]
      .rw[eN hi]
     have st0:aB G u (dN H1 l) u H1 (gu k js σ) (cR k js (U.set jp (.pin l xs))):=by rw[eself];exact gp.compP k hj ep hcm'
     obtain⟨l9,el9,_,hf9,e9,_⟩:=gp.ownAt rfl ep;subst e9
     refine⟨λi m ys σ' H'=>m=ds.length-i/\i<=ds.length/\∃Hf' T c0 bv,aB G u _ Hf' H' σ' (cR k js (U.set jp (.pin l9 c0)))/\aC G Hf' T ys/\h7 k js jp t g tt fe U l9 (ds.drop i) c0=aa (bv,zs)/\rs=T++bv/\T.length<=i,
      ⟨ds.length,rfl,gl _,u,[],xs,rs,st0,rfl,e2,rfl,bC _⟩,?_⟩
     rintro i m ys σ' H' ⟨rfl,hi,Hf',T,c0,bv,B,ra,ec,er,hal⟩;have hys:ys.length<=bE:=by rw[dD,<- ra.length];lia
     obtain⟨ou,it2⟩:=it Hf' H' B.ext.f B.sub i
     by_cases hlt:i<ds.length
     .obtain⟨d,ed,ky⟩:=j8 hlt;obtain⟨go,yl⟩:=ou d ed
      refine .inr ⟨go,hys,λys' gg H2=>ds.length-_=ds.length-_/\i+1<=ds.length/\∃Hf' T c0 bv,aB G u _ Hf' H2 gg _/\aC G Hf' T ys'/\h7 k js jp t g tt fe U l9 _ c0=aa _/\rs=T++bv/\T.length<=i+1,
       λys' gg H2 w=>⟨ds.length-(i+1),by lia,w⟩,λx H2 y=>?_⟩
      obtain⟨b0,x3,rx⟩:=yl x H2 y;rw[ky]at ec;obtain⟨y',xs2,r',et,ec',L⟩:=Gf ec;obtain⟨ρ1,b,b5,eg,et,z⟩:=Ge et;refine⟨u,dN H1 l9,b0,_,d,ρ1,B.step x3,rx,eg,λhY kF=>⟨u,dN H1 l9,b0,ρ1,b,b5,kF,et,λHf4 H4 f4 st4=>?_⟩⟩
      have hl2:∀{ρ9:LS} {Hf9 H9:Hp},aB G u (dN H1 l9) Hf9 H9 hY ρ9->(cR k js (U.set jp (.pin l9 xs2))).length=ρ9.length:=λY=>by
       rw[<- Y.len,kF.len,d8 _ _ _ eg];unfold cR;rw[bh,bh,aW,aW]
      rcases z with⟨rfl,y2,ρ3,ee,rfl,⟨l',ex⟩,hag⟩ |⟨rfl,rfl,⟨l',ex⟩,hag⟩
      .refine yi ⟨u,dN H1 l9,Hf4,b5,y2,ρ3,st4,ee,λv Hf5 H5 f5 Y r5=>?_⟩;refine⟨rfl,hlt,Hf5,T++[y2],xs2,r',Y.weak (hl2 Y) λj s hs=>?_,(ra.up ((x3.f.trans f4).trans f5)).append (.cons r5 .nil),ec',by rw[er,L,ik];rfl,by rw[bh,fS];lia⟩
       rcases j7 hs with⟨_,e⟩ |⟨N,_⟩
       .exact .inl e
       .exact .inr (by rw[hag j N];exact hs)
      .rw[if_neg (by decide)];refine⟨rfl,hlt,Hf4,T,xs2,r',st4.weak (hl2 st4) λj s hs=>?_,ra.up (x3.f.trans f4),ec',by rw[er,L];rfl,by lia⟩
       rcases j7 hs with⟨_,e⟩ |⟨N,_⟩
       .exact .inl e
       .exact .inr (by rw[hag j N];exact hs)
     .have ei:i=ds.length:=by lia
      subst ei;refine .inl ⟨it2 rfl,hys,λD h1 h2=>?_⟩;rw[kZ (bC _)]at ec;cases ec;rw[cV]at er;subst er;obtain⟨l3,el3,h03,hf3,e3,us3,hu3,rx3⟩:=B.ownAt rfl (zF ht (rN ep));subst e3;have xn:=Ext.new (o:=.lst ys) B.sub h2;exact kq _ _ _ (f1.trans (B.ext.f.trans xn.f)) ((gp.back (s':=.pin l3 zs) rfl rfl ep el9 B.ext hf3 ⟨rfl,us3,hu3,rx3⟩).step xn) ⟨D,ys,rfl,bT,ra.up xn.f⟩
   .nomatch z
  .nomatch z
abbrev lV(g:D->LS->Option LS)(f:Xe)(U:LS):Option Fl:=(f U).bind λp=>(g p.1 p.2).map .nx
def vL{f:Xe}(L:DX c X e f)(N:DG c X tg k g)(T:qf [tg] e pos.line X.env=pure ak:=by rfl)(Y:qg [tg] e X.env=pure ae:=by rfl)
 (J:(gM [tg] X.env).map (·.2)=[io tg X.env]:=by rfl):DS c X (.Assign [tg] e pos) (lV g f):=PS.imp (ul L N.pg T Y J) λE σ H q_=>by
 obtain⟨Hf0,H0,Hf,U,o,so,m,kq⟩:=q_;unfold lV at m;obtain⟨p,u,m⟩:=fo.mp m;obtain⟨ρ',z,m⟩:=lb.mp m;subst m;exact⟨Hf0,H0,Hf,U,p.1,p.2,so,u,λv Hf' H' B st r=>⟨Hf0,H0,Hf',p.2,p.1,ρ',st,r,z,λσ' q=>kq σ' Hf' H' B q⟩⟩
variable{ρ1:LS}
def vM{f:Xe}(h:f U=aa (d,ρ1))(h':g d ρ1=aa ρ')(k:K (.nx ρ')):wp (lV g f) U K:=⟨_,by unfold lV;rw[h,aJ,h'];rfl,k⟩
open Classical in
abbrev o3(m:Addr->LD->LD->LD->Option (LD×D))(f g:MF2)(U:LS):OD:=(f U).bind λxs=>(g U).bind λds=>if h:∃q,∀l,m l [] ds xs=aa q then aa h.choose.2 else ae
variable{m:Addr->LD->LD->LD->Option (LD×D)}
def Gh{f g:MF2}{q:LD×D}(z:f U=aa xs)(B:g U=aa ds)(h:∀l,m l [] ds xs=aa q):o3 m f g U=aa q.2:=by
 unfold o3;have u:∃q,∀l,m l [] ds xs=aa q:=⟨q,h⟩;rw[z,aJ,B,aJ,dif_pos u];have:=u.choose_spec 0;rw[h 0]at this;rw[<- cs this]
def Gi{B J q L:Hp}{o:HO}(T:J l=ae)(x:Ext B (upd J l o) q L)(N:q l=ae):Ext B J q (dN L l):=by
 have ne:∀{a u},J a=aa u->a≠l:=λe z=>by rw[z,T]at e;nomatch e
 refine⟨x.f,λa u e=>?_,λa u e=>?_,λa u e t=>x.n a u (by rw[bH (ne e)];exact e) t⟩
 .rw[oK (ne e)];exact x.h a u (by rw[bH (ne e)];exact e)
 .rw[oK λz=>by rw[z,N]at e;nomatch e];exact x.s a u e
variable{fd:fu}{ps:LSt}{as:LEx}{fa fb:MF2}
def Gj{k0:Nat}(pk:Pk X.prog X.w X.K X.mg X.base CX0 k x (f,fd) ps (spM (Gx c X) 0 ps.length m))(hr0:cG k0 X.A)(ha:DA c X es fa)(J:DA c X (a::as) fb)(hl:2+as.length=ps.length:=by rfl)(hz:es.length<=1000:=by exact k8 rfl)(hO:NDb x:=by decide)(he:aX (.List es lp::a::as) X.env=(ak,eval (.List es lp) X.env)::aX (a::as) X.env:=by rfl)(hX:(eG pos (aX (a::as) X.env)).any (·.1)=ak:=by rfl)(hk0:k<=k0:=by decide)(hg:Gl X x:=by first |rfl |exact glc rfl):
  DE c X (.Call (.Name x p) (.List es lp::a::as) [] pos) (o3 m fa fb):=PE.imp (jX pk.ok (hr0.mono hk0) hg pk.g pk.kp pk.b .nil lx (cj (qB ha.pa) J.pa he) hO he hX) λσ H Q q_=>by
 obtain⟨Hf0,H0,Hf,U,d,st,u,kq⟩:=q_;unfold o3 at u;obtain⟨xs,e1,u⟩:=fo.mp u;obtain⟨ds,e2,u⟩:=fo.mp u;split at u
 .rename_i hq;cases u;have hs:=hq.choose_spec;generalize hq.choose=q at hs kq;refine⟨Hf0,H0,Hf,U,xs,st,e1,λvs T H1 N r1=>⟨?_,λl z=>?_⟩⟩
  .rw[<- r1.length,ha.len U xs e1];exact iS (ly hz)
  .refine⟨Hf0,H0,T,U,ds,(st.step N).step (Ext.tmp (o:=.lst vs) N.s z),e2,λvs2 B H2 x2 r2=>?_⟩;have L:B l=ae:=(x2.n l _ bT rfl).trans (N.s.free z);have hn:0+1+ds.length=ps.length:=by rw[J.len U ds e2,b9,<- hl];lia
   dsimp only;rw[cV];exact⟨B,[],ds,xs,q.1,q.2,l,vs,[],vs2,rfl,x2.s,L,x2.h l _ bT,rfl,r2,r1.up x2.f,rfl,hn,hs l,λv Y H3 us3 x3 hf3 hu3 rx3 r3=>kq v Y H3 ((N.trans (Gi z x2 L)).trans x3) r3⟩
 .nomatch u
abbrev o4(i:Nat)(f g:Xe)(U:LS):Option Fl:=(f U).bind λp=>(g p.2).bind λq=>(lsD p.1).bind λds=>match q.1 with
 |.int j=>aa (.nx (q.2.set i (.own (jB ds ae (aa j)))))
 | _=>ae
def Gk{f g:Xe}{j:Int}(h:f U=aa (.lst ds,ρ1))(q:g ρ1=aa (.int j,b5))(k:K (.nx (b5.set i (.own (jB ds ae (aa j)))))):wp (o4 i f g) U K:=
 ⟨_,by unfold o4;rw[h,aJ,q];rfl,k⟩
variable{f g:Xe}{b4 p':Pos}
def Gm(i:Nat)(hN:X.N.Nodup)(ha:DX c X a f)(hb:DX c X b g)(hi:X.N[i]?=aa x:=by rfl)(hx:Loc X.env.scope x:=by first |exact bS rfl |exact bp rfl)(hs:fJ (.Subscript a (.Slice ae (aa b) ae p2) pos) (aa (.Name x b4)) p'.line X.env=pure ak:=by rfl)(hf:LcF X x:=by first |exact .inl rfl |exact .inr rfl):
  DS c X (.Assign [.Name x b4] (.Subscript a (.Slice ae (aa b) ae p2) pos) p') (o4 i f g):=PS.imp (lu hN hi hx (uD ya ha qE (uB hb)) hs hf) λE σ H q_=>by
 obtain⟨Hf0,H0,Hf,U,o,so,Y,k⟩:=q_;unfold o4 at Y;obtain⟨⟨d,ρ1⟩,e1,J⟩:=fo.mp Y;obtain⟨⟨y,b5⟩,e2,L⟩:=fo.mp J;obtain⟨ds,e3,z⟩:=fo.mp L;clear Y J L;dsimp only at e2 e3 z;split at z
 .rename_i j;cases z;refine⟨Hf0,H0,Hf,U,_,ρ1,so,e1,λv T H1 f1 gp r1=>⟨Hf0,H0,T,ρ1,_,_,gp,e2,λu b0 H2 f2 B r2=>⟨j,r2,?_⟩⟩⟩;obtain⟨a,vs,rfl,q,r⟩:=jC e3 r1;refine⟨a,vs,rfl,(f2.trans B.sub).seq q,λp hp=>?_⟩;have x:=Ext.tmp (o:=.lst (mD vs ae (aa j))) B.sub hp;exact k _ _ _ (f1.trans f2) (B.setOwn (s:=.own (jB ds ae (aa j))) rfl x hp (B.sub.free hp) ⟨_,bT,yJ (r.up f2) _ _⟩)
 .nomatch z
variable{c4 cd:Expr}{scope:Scope}{d9:Pos}{g:D->LS->Option LS}
def Gn(i:Nat)(k:Nat)(js:LN)(jp t:Nat)(Nc:LSt)(hN:X.N.Nodup)(hc:X.calm=ac)(hi:DXi c X tg iter fi)(J:∀cl C ex u q,DG c (X.comp scope Nc cl C ex u q) tg k g)
 (ht:∀cl C ex u q,DTX c (X.comp scope Nc cl C ex u q) cd tt)(he:∀cl C ex u q,DX c (X.comp scope Nc cl C ex u q) c4 fe)(L:X.N[i]?=aa x:=by rfl)(hx:Loc X.env.scope x:=by first |exact bS rfl |exact bp rfl)
 (T:fJ (.ListComp c4 [⟨tg,iter,[cd],0⟩] scope pos) (aa (.Name x b4)) d9.line X.env=pure ac:=by rfl)(ck:iX scope X.env.scope.names X.N Nc k js=ac:=by rfl)(hs:∀x,gK iter X.env x=pure x:=by intro _;rfl)
 (hf:LcF X x:=by first |exact .inl rfl |exact .inr rfl)(hj:js.Nodup:=by decide):
  DS c X (.Assign [.Name x b4] (.ListComp c4 [⟨tg,iter,[cd],0⟩] scope pos) d9) (bU i (lU k js jp t fi g tt fe)):=
 PS.imp (qG (tt:=oP (Gx c X) tt) (te:=tDX (Gx c X) fe) k js Nc hN L hx hc hi (λcl C ex u q=>(J cl C ex u q).pg) (λcl C ex u q=>yo (ht cl C ex u q)) he T ck hs hf) λE σ H q_=>by
  obtain⟨Hf0,H0,Hf,U,o,so,z,kk⟩:=q_;unfold bU at z
  cases B:lU k js jp t fi g tt fe U with
  |none=>rw[B]at z;nomatch z
  |some p=>
   rw[B]at z;cases z;exact Gg hj (J [] 0 [] X.s₀ X.H₀).keep (J [] 0 [] X.s₀ X.H₀).len ⟨Hf0,H0,Hf,U,p.1,p.2,so,B,λv Hf' H' s Y r=>kk _ Hf' H' s (Y.setIm r)⟩
def DE.pe{f:MF1}(h:DE c X e f):PE X e (tD (Gx c X) f):=h
def DX.pe(h:DX c X e f):PE X e (tDX (Gx c X) f):=h
end L2
namespace N_k82
open List
open PySem PySem.Spec PyProof.Rows L2
local macro_rules | `(tactic| walk_at "sc")=>`(tactic| exact ⟨rfl,rfl,rfl,by decide +kernel,rfl,by decide +kernel,by decide +kernel⟩)
abbrev top(i:Nat):Stmt:=PySem.Challenge.pw_standstill_k82_bad_names.main.body.getD i (.Pass ⟨0,0,0,0⟩)
@[reducible]noncomputable def vN:=top 9
@[reducible]noncomputable def vO:=top 10
@[reducible]noncomputable def s_2:=top 12
@[reducible]noncomputable def s_6:=top 13
@[reducible]noncomputable def s_4:=top 14
@[reducible]noncomputable def s_3:=top 15
@[reducible]noncomputable def s_1:=top 16
@[reducible]noncomputable def s_5:=top 17
@[reducible]noncomputable def vP:=top 18
@[reducible]noncomputable def vQ:=top 19
@[reducible]noncomputable def vR:=top 20
@[reducible]noncomputable def vS:=top 28
@[reducible]noncomputable def z9:=top 29
@[reducible]noncomputable def s_0:=top 44
@[reducible]noncomputable def vT:=top 45
@[reducible]noncomputable def vU:=top 46
@[reducible]noncomputable def s_8:=top 47
@[reducible]noncomputable def vV:=top 48
@[reducible]noncomputable def vW:=top 49
@[reducible]noncomputable def vX:=top 50
@[reducible]noncomputable def s_9:=top 51
@[reducible]noncomputable def vY:=top 52
@[reducible]noncomputable def vZ:=top 53
@[reducible]noncomputable def v3:=top 54
@[reducible]noncomputable def v4:=top 55
@[reducible]noncomputable def v5:=top 56
@[reducible]noncomputable def v6:=top 57
@[reducible]noncomputable def v7:=top 58
@[reducible]noncomputable def v8:=top 59
@[reducible]noncomputable def v9:=top 60
@[reducible]noncomputable def wa:=top 61
@[reducible]noncomputable def wb:=top 62
@[reducible]noncomputable def wc:=top 63
@[reducible]noncomputable def wd:=top 64
@[reducible]noncomputable def we:=top 65
@[reducible]noncomputable def s_7:=top 66
def Go:bZ ["word","signs","most"] ["word","signs","most"] (bq vN):=by walk_at "sc"
def Gp:bZ ["word"] ["word"] (bq vO):=by walk_at "sc"
def ni:bZ ["rows","kinds","row"] ["rows"] (bq s_2):=by walk_at "sc"
def si:bZ ["row","kinds","name"] ["row","kinds"] (bq s_6):=by walk_at "sc"
def Aa:bZ ["words"] ["words"] (bq s_4):=by walk_at "sc"
def nj:bZ ["row","kinds","args","over"] ["row","kinds"] (bq s_3):=by walk_at "sc"
def kE:bZ ["pairs","outer","kinds","variable","kind","told"] ["pairs","outer","kinds"] (bq s_1):=by walk_at "sc"
def nq:bZ ["args","pairs","told","arg"] ["args","pairs"] (bq s_5):=by walk_at "sc"
def Ab:bZ ["row","found"] ["row"] (bq vP):=by walk_at "sc"
def Gq:bZ ["part"] ["part"] (bq vQ):=by walk_at "sc"
def sj:bZ ["items","args","thing","worth"] ["items"] (bq vR):=by walk_at "sc"
def Ac:bZ ["rows","rules","places"] ["rows"] (bq vS):=by walk_at "sc"
def Gr:bZ ["_law_state","_law_many"] ["_law_state","_law_many"] (bq s_0):=by walk_at "sc"
def o5:bZ ["_law_script","_law_many","_law_seeds_here","_law_at","_law_cell","_law_seed"] ["_law_script","_law_many"] (bq vT):=by walk_at "sc"
def sk:bZ ["_law_state","_law_many","_law_span","_law_word","_law_k"] ["_law_state","_law_many","_law_span"] (bq vU):=by walk_at "sc"
def o6:bZ ["_law_state","_law_kept","_law_span","_law_word"] ["_law_state"] (bq s_8):=by walk_at "sc"
def Ad:bZ ["_law_state","_law_great"] ["_law_state"] (bq vV):=by walk_at "sc"
def Ae:bZ ["_law_state","_law_number_here"] ["_law_state"] (bq vW):=by walk_at "sc"
def jO:bZ ["_law_state","_law_places","_law_k","_law_name_here","_law_heads","_law_kinds","_law_some"] ["_law_state"] (bq vX):=by walk_at "sc"
def o7:bZ ["_law_state","_law_lay_here","_law_known","_law_name_here","_law_many","_law_args","_law_k"] ["_law_state","_law_lay_here","_law_known"] (bq s_9):=by walk_at "sc"
def sm:bZ ["_law_state","_law_kinds","_law_taken","_law_most","_law_pairs_here","_law_k","_law_variable_here"] ["_law_state","_law_kinds","_law_taken","_law_most"] (bq vY):=by walk_at "sc"
def nu:bZ ["_law_state","_law_lay_here","_law_known","_law_kinds","_law_many","_law_over","_law_inner","_law_some","_law_k","_law_worth"] ["_law_state","_law_lay_here","_law_known","_law_kinds","_law_many"] (bq vZ):=by walk_at "sc"
def lW:bZ ["_law_state","_law_lay_here","_law_known","_law_kinds","_law_way","_law_one","_law_sides","_law_other","_law_some","_law_over"] ["_law_state","_law_lay_here","_law_known","_law_kinds"] (bq v3):=by walk_at "sc"
def Gs:bZ ["_law_state","_law_lay_here","_law_known","_law_kinds"] ["_law_state","_law_lay_here","_law_known","_law_kinds"] (bq v4):=by walk_at "sc"
def lX:bZ ["_law_state","_law_lay_here","_law_kinds","_law_pairs_here","_law_known","_law_body_here","_law_way","_law_some","_law_over"] ["_law_state","_law_lay_here","_law_kinds"] (bq v5):=by walk_at "sc"
def jP:bZ ["_law_seeds_here","_law_state","_law_lay_here","_law_first","_law_rows_here","_law_k","_law_told","_law_name_here","_law_names"] ["_law_seeds_here"] (bq v6):=by walk_at "sc"
def Gu:bZ ["_law_rows_here"] ["_law_rows_here"] (bq v7):=by walk_at "sc"
def wf:bZ ["_law_state","_law_ahead","_law_later","_law_some"] ["_law_state","_law_ahead","_law_later"] (bq v8):=by walk_at "sc"
def sr:bZ ["_law_state","_law_ahead","_law_later","_law_most","_law_lost","_law_one","_law_way"] ["_law_state","_law_ahead","_law_later","_law_most"] (bq v9):=by walk_at "sc"
def su:bZ ["_law_state","_law_unbound","_law_good","_law_way","_law_thing_here","_law_some"] ["_law_state","_law_unbound","_law_good"] (bq wa):=by walk_at "sc"
def kG:bZ ["_law_state","_law_ahead","_law_unbound","_law_part_here","_law_thing_here","_law_way","_law_word","_law_over","_law_body_here"] ["_law_state","_law_ahead"] (bq wb):=by walk_at "sc"
def kH:bZ ["_law_state","_law_ahead","_law_later","_law_way","_law_names","_law_pairs_here","_law_pair","_law_some","_law_part_here","_law_kind"] ["_law_state","_law_ahead","_law_later"] (bq wc):=by walk_at "sc"
def wg:bZ ["_law_rows_here","_law_by_kinds","_law_found","e"] ["_law_rows_here","_law_by_kinds"] (bq wd):=by walk_at "sc"
def wj:bZ ["_law_found","_law_due_here","_law_one","_law_other"] ["_law_found","_law_due_here"] (bq we):=by walk_at "sc"
def gA:bZ ["_law_script","_law_many","_law_seeds_here","_law_rows_here","_law_due_here","_law_found","_law_state","_law_at","_law_name_here","_law_names","_law_ahead","_law_later","_law_bad_here"] ["_law_script"] (bq s_7):=by walk_at "sc"
set_option genInjectivity false
set_option genSizeOf false
structure Wa where
(e_32 e_22 e_2 e_6 e_4 e_3 e_1 e_5 e_31 e_34 e_23 e_28 e_35 e_0 e_24 e_19 e_8 e_17 e_11 e_12 e_9 e_20 e_13 e_14 e_33 e_18 e_10 e_25 e_29 e_21 e_26 e_15 e_16 e_27 e_30 e_7:Addr×fu)
 (cl:Str->Addr)
 (C_BadName C_NoRow C_NoThing C_StillError C_Wide:Addr)
structure Wd(K:bu)(mg:MGT)(a:Wa):Prop where
 e_32:Df K mg "is_made_of" vN ["word","signs","most"] a.e_32
 e_22:Df K mg "is_variable" vO ["word"] a.e_22
 e_2:Df K mg "kinds_of" s_2 ["rows"] a.e_2
 e_6:Df K mg "must_be_new" s_6 ["row","kinds"] a.e_6
 e_4:Df K mg "must_be_unlike" s_4 ["words"] a.e_4
 e_3:Df K mg "must_be_known" s_3 ["row","kinds"] a.e_3
 e_1:Df K mg "must_be_pairs" s_1 ["pairs","outer","kinds"] a.e_1
 e_5:Df K mg "must_be_told" s_5 ["args","pairs"] a.e_5
 e_31:Df K mg "uses" vP ["row"] a.e_31
 e_34:Df K mg "part_uses" vQ ["part"] a.e_34
 e_23:Df K mg "args_of" vR ["items"] a.e_23
 e_28:Df K mg "plain_of" vS ["rows"] a.e_28
 e_35:Df K mg "rules_of" z9 ["rows","kinds"] a.e_35
 e_0:Df K mg "_law_next" s_0 ["_law_state","_law_many"] a.e_0
 e_24:Df K mg "_law_seeds" vT ["_law_script","_law_many"] a.e_24
 e_19:Df K mg "_law_small" vU ["_law_state","_law_many","_law_span"] a.e_19
 e_8:Df K mg "_law_name" s_8 ["_law_state"] a.e_8
 e_17:Df K mg "_law_variable" vV ["_law_state"] a.e_17
 e_11:Df K mg "_law_number" vW ["_law_state"] a.e_11
 e_12:Df K mg "_law_lay" vX ["_law_state"] a.e_12
 e_9:Df K mg "_law_thing" s_9 ["_law_state","_law_lay_here","_law_known"] a.e_9
 e_20:Df K mg "_law_pairs" vY ["_law_state","_law_kinds","_law_taken","_law_most"] a.e_20
 e_13:Df K mg "_law_items" vZ ["_law_state","_law_lay_here","_law_known","_law_kinds","_law_many"] a.e_13
 e_14:Df K mg "_law_part" v3 ["_law_state","_law_lay_here","_law_known","_law_kinds"] a.e_14
 e_33:Df K mg "_law_body" v4 ["_law_state","_law_lay_here","_law_known","_law_kinds"] a.e_33
 e_18:Df K mg "_law_row" v5 ["_law_state","_law_lay_here","_law_kinds"] a.e_18
 e_10:Df K mg "_law_rows" v6 ["_law_seeds_here"] a.e_10
 e_25:Df K mg "_law_due" v7 ["_law_rows_here"] a.e_25
 e_29:Df K mg "_law_untold" v8 ["_law_state","_law_ahead","_law_later"] a.e_29
 e_21:Df K mg "_law_bad_pairs" v9 ["_law_state","_law_ahead","_law_later","_law_most"] a.e_21
 e_26:Df K mg "_law_bad_part" wa ["_law_state","_law_unbound","_law_good"] a.e_26
 e_15:Df K mg "_law_bad_bound" wb ["_law_state","_law_ahead"] a.e_15
 e_16:Df K mg "_law_bad" wc ["_law_state","_law_ahead","_law_later"] a.e_16
 e_27:Df K mg "_law_refused" wd ["_law_rows_here","_law_by_kinds"] a.e_27
 e_30:Df K mg "_law_right" we ["_law_found","_law_due_here"] a.e_30
 e_7:Df K mg "law" s_7 ["_law_script"] a.e_7
 g_BadName:mg "BadName"=aa (.ref a.C_BadName)
 g_NoRow:mg "NoRow"=aa (.ref a.C_NoRow)
 g_NoThing:mg "NoThing"=aa (.ref a.C_NoThing)
 g_StillError:mg "StillError"=aa (.ref a.C_StillError)
 g_Wide:mg "Wide"=aa (.ref a.C_Wide)
 x_BadName:f9 K a.C_BadName=ac
 x_StillError:f9 K a.C_StillError=ac
 ec_BadName:kz K a.C_BadName
 mr_StillError:iq K a.C_BadName (.ref a.C_StillError)=aa ac
 ke_BadName:ip K (.ref a.C_BadName) (.ref a.C_BadName)=aa ac
 kv_ValueError:ip K (.ref a.C_BadName) (.type "ValueError")=aa ac
 km_NoRow_Wide_NoThing:W.kitAny K (.ref a.C_BadName) [.ref a.C_NoRow,.ref a.C_Wide,.ref a.C_NoThing]=aa ak
 g_SMALL:∃t,mg "SMALL"=aa (.str "abcdefghijklmnopqrstuvwxyz" t)
 g_GREAT:∃t,mg "GREAT"=aa (.str "ABCDEFGHIJKLMNOPQRSTUVWXYZ" t)
 z_ValueError:mg "ValueError"=ae
 z_abs:mg "abs"=ae
 z_all:mg "all"=ae
 z_any:mg "any"=ae
 z_dict:mg "dict"=ae
 z_enumerate:mg "enumerate"=ae
 z_int:mg "int"=ae
 z_isinstance:mg "isinstance"=ae
 z_len:mg "len"=ae
 z_list:mg "list"=ae
 z_min:mg "min"=ae
 z_range:mg "range"=ae
 z_set:mg "set"=ae
 z_str:mg "str"=ae
 z_tuple:mg "tuple"=ae
 z_zip:mg "zip"=ae
 is_list:lE K "list"
 is_str:lE K "str"
 is_tuple:lE K "tuple"
set_option genInjectivity true
set_option genSizeOf true
nonrec abbrev qM(P:dJ)(w:World)(K:bu)(mg:MGT)(base:Heap)(a:Wa)(k:Nat)(x:Str)(e:Addr×fu)(ps:LSt)(b:Nat)(m:Addr->LD->LD->LD->Option (LD×D)):Prop:=Pk P w K mg base CX0 k x e ps (spM ⟨K,a.cl⟩ b ps.length m)
nonrec abbrev qD(P:dJ)(w:World)(K:bu)(mg:MGT)(base:Heap)(a:Wa)(k:Nat)(x:Str)(e:Addr×fu)(ps:LSt)(m:LD->OD):Prop:=Pk P w K mg base CX0 k x e ps (spD ⟨K,a.cl⟩ ps.length m)
abbrev b_0:MF3:=
 (ay (m3 0 (kI 0) (m2 iz (m2 ce (m2 i9 (mIx (rE 0) (kI 0)) (kI 1181783497276652981)) (kI 12345678910987)) (m2 gw (m2 lB (kI 2) (kI 61)) (kI 1))))
  (cg (m2 iz (m2 oq (mIx (rE 0) (kI 0)) (kI 65537)) (ag 1))))
abbrev m_0:=dX 2 b_0
abbrev o8:MF3:=
 (ay (bU 3 (aN 0 m_0 (ao (mX (kI 5)) aw)))
  (ay (bU 4 (dA (ao (mX (kSt "a")) (ao (mX2 ce (mX2 ce (mX2 cO (mX (ax (af (ax (af (kSt "b") nZ)) (af (ax nZ) nZ)))) (aN 0 m_0 (ao (mX (kI 2)) aw))) (mX (ax (af (ag 1) nZ)))) (mX2 cO (mX (ax (af (ax (af (kSt "c") nZ)) (af (ax nZ) nZ)))) (aN 0 m_0 (ao (mX (kI 2)) aw)))) aw))))
  (ay (bA (mB (m2 dEq (ag 3) (kI 0))) (cg (aR (af (kSt "is") (af (ag 4) nZ)))) bz)
  (ay (bA (mB (m2 dEq (ag 3) (kI 1))) (cg (aR (af (kSt "not") (af (ag 4) nZ)))) bz)
  (ay (bA (mB (m2 dEq (ag 3) (kI 2))) (cg (aR (af (kSt "unlike") (af (ag 1) (af (kSt "a") nZ))))) bz)
  (ay (bA (mB (m2 dEq (ag 3) (kI 3))) (cg (aR (af (kSt "unlike") (af (kSt "a") (af (ag 1) nZ))))) bz)
  (ay (dM 5 (af (aR (af (aR (af (kSt "a") (af (ax nZ) nZ))) (af (kI 1) nZ))) (af (aR (af (aR (af (kSt "b") (af (ax (af (ag 2) nZ)) nZ))) (af (kI 1) nZ))) nZ)))
  (ay (kA 5 (ao (aN 0 m_0 (ao (mX (kI 3)) aw)) (ao (mX (aR (af (ag 4) (af (kI 2) nZ)))) aw)))
  (fX 5 (fF (dA (ao (mX2 cO (mX (ax (af (kSt "least") (af (kSt "most") nZ)))) (aN 0 m_0 (ao (mX (kI 2)) aw))) (ao (mX (kI 1)) (ao (mX (ag 5)) (ao (mX (ax nZ)) aw)))))))))))))))
abbrev wk:=dX 6 o8
abbrev sv:MF3:=
 (ay (cN 3 (kSt ""))
  (ay (fO (gR (af (ag 1) nZ)) (aO 4) (oR 3 (mX2 m4 (mX (kSt "abcdefghijklmnopqrstuvwxyz")) (aN 0 m_0 (ao (mX (ag 2)) aw)))))
  (cg (ag 3))))
abbrev o9:=dX 5 sv
abbrev pb:MF3:=
 (ay (bU 1 (mX2 m4 (mX (kSt "ABCDEFGHIJKLMNOPQRSTUVWXYZ")) (aN 0 m_0 (ao (mX2 cO (mX (ax (af (kI 26) (af (kI 2) nZ)))) (aN 0 m_0 (ao (mX (kI 2)) aw))) aw))))
  (fF (mX2 ce (mX (ag 1)) (aN 0 o9 (ao (aN 0 m_0 (ao (mX (kI 8)) aw)) (ao (mX2 cO (mX (ax (af (kI 26) (af (kI 2) nZ)))) (aN 0 m_0 (ao (mX (kI 2)) aw))) aw))))))
abbrev nv:=dX 2 pb
abbrev pc:MF3:=
 (ay (bU 2 (aN 0 nv aw))
  (ay (bU 3 (aN 0 wk (ao (mX (ag 2)) (ao (mX (kSt "a")) aw))))
  (ay (cN 4 (aR (af (kSt "a") (af (ax (af (ag 2) nZ)) nZ))))
  (ay (bU 5 (aN 0 m_0 (ao (mX (kI 7)) aw)))
  (ay (bA (mOr (mB (m2 dEq (ag 5) (kI 0))) (fc (mB (m2 dEq (aQ bL (af (ag 1) nZ)) (kI 0))) (mB (m2 dGt (ag 5) (kI 2))))) (cg (aR (af (kSt "rule") (af (ag 4) (af (ax (af (aR (af (kSt "is") (af (aR (af (kSt "b") (af (ax nZ) nZ))) nZ))) nZ)) (af (ax nZ) nZ)))))) bz)
  (ay (bA (mB (m2 dEq (ag 5) (kI 1))) (cg (aR (af (kSt "choose") (af (kI 0) (af (kI 1) (af (ax (af (aR (af (aR (af (kSt "b") (af (ax nZ) nZ))) (af (kI 1) nZ))) (af (aR (af (ag 4) (af (kI 1) nZ))) nZ))) (af (ax nZ) (af (ax nZ) (af (ax nZ) nZ))))))))) bz)
  (ay (bA (mB (m2 dEq (ag 5) (kI 2))) (ay (bU 6 (mX2 cO (mX (ax (af (kSt "never") (af (kSt "rule") (af (kSt "may") nZ))))) (aN 0 m_0 (ao (mX (kI 3)) aw))))
  (ay (bA (mB (m2 dEq (ag 6) (kSt "never"))) (cg (aR (af (ag 6) (af (ax (af (aR (af (kSt "is") (af (aR (af (kSt "b") (af (ax nZ) nZ))) nZ))) (af (ag 3) nZ))) (af (ax nZ) nZ))))) bz)
  (cg (aR (af (ag 6) (af (aR (af (kSt "a") (af (ax nZ) nZ))) (af (ax (af (aR (af (kSt "is") (af (aR (af (kSt "b") (af (ax nZ) nZ))) nZ))) (af (ag 3) nZ))) (af (ax nZ) nZ)))))))) bz)
  (ay (bU 7 (jH (ao (dA (ao (mX (ag 2)) (ao (mX2 cO (mX (ag 1)) (aN 0 m_0 (ao (mX (aQ bL (af (ag 1) nZ))) aw))) aw))) aw)))
  (ay (bA (mB (m2 dEq (ag 5) (kI 3))) (cg (aR (af (kSt "may") (af (ag 4) (af (ax (af (aR (af (kSt "least") (af (kI 1) (af (ax (af (aR (af (aR (af (kSt "b") (af (ax (af (ag 2) nZ)) nZ))) (af (kI 1) nZ))) nZ)) (af (ag 7) nZ))))) nZ)) (af (ax nZ) nZ)))))) bz)
  (ay (bA (mB (m2 dGt (ag 5) (kI 4))) (ay (dM 8 (af (aR (af (kSt "least") (af (kI 1) (af (ax (af (aR (af (aR (af (kSt "b") (af (ax (af (ag 2) nZ)) nZ))) (af (kI 1) nZ))) nZ)) (af (ag 7) nZ))))) nZ))
  (ay (kA 8 (ao (aN 0 m_0 (ao (mX (kI 2)) aw)) (ao (mX (mIx (af (aR (af (kSt "is") (af (ag 4) nZ))) (af (aR (af (kSt "most") (af (kI 1) (af (ax (af (aR (af (ag 4) (af (kI 1) nZ))) nZ)) (af (ax nZ) nZ))))) nZ)) (m2 gw (ag 5) (kI 5)))) aw)))
  (fX 8 (cg (aR (af (kSt "may") (af (aR (af (kSt "a") (af (ax nZ) nZ))) (af (ag 8) (af (ax nZ) nZ))))))))) bz)
  (cg (aR (af (kSt "choose") (af (kI 0) (af (kI 1) (af (ax (af (aR (af (ag 4) (af (kI 1) nZ))) nZ)) (af (ag 7) (af (ax (af (ag 3) nZ)) (af (ax nZ) nZ)))))))))))))))))))
abbrev wl:=dX 9 pc
abbrev b_8:MF3:=
 (ay (dM 1 (af (kSt "kind") (af (kSt "rule") (af (kSt "may") (af (kSt "choose") (af (kSt "never") (af (kSt "if") (af (kSt "and") (af (kSt "not") nZ)))))))))
  (ay (oW 1 (mX (ax (af (kSt "unlike") (af (kSt "least") (af (kSt "most") (af (kSt "of") (af (kSt "to") (af (kSt "over") (af (kSt "in") (af (kSt "for") nZ)))))))))))
  (ay (bU 2 (mX2 cO (mX (ax (af (kI 26) (af (kI 2) nZ)))) (aN 0 m_0 (ao (mX (kI 2)) aw))))
  (ay (bU 3 (aN 0 o9 (ao (mX2 ce (mX (kI 1)) (aN 0 m_0 (ao (mX (kI 8)) aw))) (ao (mX (ag 2)) aw))))
  (ay (fX 1 (bA (mB (m2 dIn (ag 3) (ag 1))) (cg (m2 ce (kSt "z") (ag 3))) bz))
  (cg (ag 3)))))))
abbrev m_8:=dX 4 b_8
abbrev pd:MF3:=
 (ay (bU 3 (jH (ao (aN 0 m_8 aw) (ao (mX (kSt "za")) (ao (mX (kSt "zb")) (ao (mX (kSt "zc")) (ao (mX (kSt "zd")) aw)))))))
  (ay (jI (jJ (mTX (mB (m2 dGt (aQ bL (af (ag 2) nZ)) (kI 0)))) (mBX (mX2 dEq (aN 0 m_0 (ao (mX (kI 2)) aw)) (mX (kI 0))))) (bU 3 (mX2 ce (jH (ao (mX2 cO (mX (ag 2)) (aN 0 m_0 (ao (mX (aQ bL (af (ag 2) nZ))) aw))) aw)) (mX (ag 3)))) bz)
  (cg (mIx (b7 1 [1] (bQ (ag 3)) (aO 0) (mB (m2 eS (ag 0) (ag 1))) (ag 0)) (kI 0)))))
abbrev wm:=dX 4 pd
abbrev pf:MF3:=
 (ay (bU 4 (dA (ao (mX (kSt "Bb")) (ao (aN 0 wm (ao (mX (ag 1)) (ao (mX (ag 2)) aw))) aw))))
  (ay (bA (mB (m2 dEq (aQ bL (af (ag 1) nZ)) (kI 0))) (cg (ax (af (ag 4) nZ))) bz)
  (ay (bU 5 (dA (ao (mX (kSt "Aa")) (ao (mX2 cO (mX (ag 1)) (aN 0 m_0 (ao (mX (aQ bL (af (ag 1) nZ))) aw))) aw))))
  (ay (bU 6 (aN 0 m_0 (ao (mX (kI 5)) aw)))
  (ay (bA (fc (mB (m2 dEq (ag 6) (kI 0))) (mB (m2 dEq (ag 3) (kI 3)))) (cg (ax (af (ag 5) (af (aR (af (kSt "Bb") (af (mIx (aP 5) (kI 1)) nZ))) (af (ag 5) nZ))))) bz)
  (ay (bA (mB (m2 dLt (ag 6) (kI 2))) (cg (ax (af (ag 5) (af (ag 5) nZ)))) bz)
  (cg (mIx (af (ax (af (ag 4) nZ)) (af (ax (af (ag 4) (af (ag 5) nZ))) (af (ax (af (ag 5) (af (ag 4) nZ))) nZ))) (m2 gw (ag 6) (kI 2))))))))))
abbrev sw:=dX 7 pf
abbrev ph:MF3:=
 (ay (bU 3 (aN 0 m_0 (ao (mX (kI 6)) aw)))
  (ay (bA (fc (mB (m2 dEq (ag 3) (kI 0))) (mB (m2 dGt (aQ bL (af (ag 1) nZ)) (kI 0)))) (fF (dA (ao (mX (kSt "kind")) (ao (mX2 cO (mX (ag 1)) (aN 0 m_0 (ao (mX (aQ bL (af (ag 1) nZ))) aw))) (ao (mX (ax (af (kSt "a") nZ))) aw))))) bz)
  (ay (bA (mB (m2 dLt (ag 3) (kI 2))) (ay (o4 4 (mX (ax (af (kSt "a") (af (kSt "b") (af (kSt "c") nZ))))) (aN 0 m_0 (ao (mX (kI 4)) aw)))
  (ay (kA 4 (ao (aN 0 m_0 (ao (mX (m2 ce (aQ bL (af (gv 4) nZ)) (kI 1))) aw)) (ao (mX (kSt "d")) aw)))
  (fX 4 (cg (aR (af (kSt "kind") (af (kSt "zzzzzzzz") (af (ax (i6 (ax (af (kSt "d") nZ)) (ag 4))) nZ)))))))) bz)
  (ay (bA (mB (m2 dEq (ag 3) (kI 2))) (fF (dA (ao (mX (kSt "rule")) (ao (mX (aR (af (kSt "a") (af (ax nZ) nZ)))) (ao (mX (ax nZ)) (ao (aN 0 sw (ao (mX (ag 1)) (ao (mX (ag 2)) (ao (mX (kI 3)) aw)))) aw)))))) bz)
  (ay (bA (mB (m2 dEq (ag 3) (kI 3))) (ay (bU 5 (aN 0 sw (ao (mX (ag 1)) (ao (mX (ag 2)) (ao (mX (kI 2)) aw)))))
  (ay (jI (mBX (mX2 dEq (aN 0 m_0 (ao (mX (kI 2)) aw)) (mX (kI 0)))) (cg (aR (af (kSt "never") (af (ax (af (aR (af (kSt "least") (af (kI 1) (af (ax (af (aR (af (aR (af (kSt "a") (af (ax nZ) nZ))) (af (kI 1) nZ))) nZ)) (af (ag 5) nZ))))) nZ)) (af (ax nZ) nZ))))) bz)
  (cg (aR (af (kSt "choose") (af (kI 0) (af (kI 1) (af (ax (af (aR (af (aR (af (kSt "a") (af (ax nZ) nZ))) (af (kI 1) nZ))) nZ)) (af (ag 5) (af (ax nZ) (af (ax nZ) nZ))))))))))) bz)
  (ay (bA (fc (mB (m2 dEq (ag 3) (kI 4))) (mB (m2 dGt (aQ bL (af (ag 1) nZ)) (kI 0)))) (ay (bU 6 (dA (ao (aN 0 nv aw) (ao (mX2 cO (mX (ag 1)) (aN 0 m_0 (ao (mX (aQ bL (af (ag 1) nZ))) aw))) aw))))
  (ay (cN 7 (ax (af (aR (af (aR (af (kSt "a") (af (ax (af (mIx (aP 6) (kI 0)) nZ)) nZ))) (af (kI 1) nZ))) nZ)))
  (ay (bU 8 (dA (ao (mX2 cO (mX (ax (af (kSt "least") (af (kSt "most") nZ)))) (aN 0 m_0 (ao (mX (kI 2)) aw))) (ao (mX (kI 1)) (ao (mX (ag 7)) (ao (mX (ax (af (ag 6) nZ))) aw))))))
  (ay (bU 9 (aN 0 m_0 (ao (mX (kI 5)) aw)))
  (ay (bA (mB (m2 dEq (ag 9) (kI 0))) (cg (aR (af (kSt "never") (af (ax (af (ag 8) nZ)) (af (ax (af (ag 6) nZ)) nZ))))) bz)
  (ay (bA (mB (m2 dEq (ag 9) (kI 4))) (cg (aR (af (kSt "choose") (af (kI 0) (af (kI 1) (af (ax (af (aR (af (aR (af (kSt "b") (af (ax nZ) nZ))) (af (kI 1) nZ))) nZ)) (af (ax nZ) (af (ax (af (ag 8) nZ)) (af (ax (af (ag 6) nZ)) nZ))))))))) bz)
  (ay (bA (mB (m2 dEq (ag 9) (kI 1))) (fF (dA (ao (mX2 cO (mX (ax (af (kSt "rule") (af (kSt "may") nZ)))) (aN 0 m_0 (ao (mX (kI 2)) aw))) (ao (mX (aR (af (kSt "b") (af (ax nZ) nZ)))) (ao (mX (ax (af (ag 8) nZ))) (ao (mX (ax (af (ag 6) nZ))) aw)))))) bz)
  (cg (aR (af (kSt "choose") (af (kI 0) (af (kI 1) (af (ag 7) (af (ax (af (ag 6) nZ)) (af (ax nZ) (af (ax (af (ag 6) nZ)) nZ)))))))))))))))) bz)
  (fF (aN 0 wl (ao (mX (ag 1)) aw)))))))))
abbrev wn:=dX 10 ph
abbrev wo:MF3:=
 (oD (b7 1 [] (bQ (ag 0)) (aO 0) (mB (m2 dEq (mIx (aP 0) (kI 0)) (kSt "kind"))) (aR (af (mIx (aP 0) (kI 1)) (af (mIx (aP 0) (kI 2)) nZ)))))
abbrev ny:=dW 1 wo
abbrev b_4:MF3:=
 (bA (mB (m2 dLt (kC (ag 0)) (aQ bL (af (ag 0) nZ)))) (λ_=>ae) bz)
abbrev m_4:=dW 1 b_4
abbrev pi:LS->Bool:=
 (rIf (mTX (mB (m2 dLt (kC (ag 0)) (aQ bL (af (ag 0) nZ))))) (rOf (af (kSt "a name or a variable is told twice") nZ)) rNo)
abbrev r_4:LD->Bool:=λds=>pi (fg 1 ds)
abbrev b_1:MF3:=
 (ay (c8 (aQ m_4 (af (ax (b7 2 [] (bQ (m2 ce (ag 1) (ag 0))) (cJ (br (aO 0) (br (aO 1) cQ))) kY (ag 0))) nZ)))
  (ay (cN 5 (ax (b7 2 [] (bQ (ag 2)) (cJ (br (aO 0) (br (aO 1) cQ))) kY (ag 0))))
  (fO (bQ (ag 0)) (cJ (br (aO 3) (br (aO 4) cQ))) (bA (mB (m2 eS (ag 4) (ag 5))) (λ_=>ae) bz))))
abbrev m_1:=dW 6 b_1
abbrev sx:LS->Bool:=
 (gz (fQ rNo r_4 (ao (mX (ax (b7 2 [] (bQ (m2 ce (ag 1) (ag 0))) (cJ (br (aO 0) (br (aO 1) cQ))) kY (ag 0)))) aw)) (c8 (aQ m_4 (af (ax (b7 2 [] (bQ (m2 ce (ag 1) (ag 0))) (cJ (br (aO 0) (br (aO 1) cQ))) kY (ag 0))) nZ)))
  (gz rNo (cN 5 (ax (b7 2 [] (bQ (ag 2)) (cJ (br (aO 0) (br (aO 1) cQ))) kY (ag 0))))
  (lT (bQ (ag 0)) (cJ (br (aO 3) (br (aO 4) cQ))) (bA (mB (m2 eS (ag 4) (ag 5))) (λ_=>ae) bz) (rIf (mTX (mB (m2 eS (ag 4) (ag 5)))) (rOf (af (mFs (mFc "the kind " (mFv (ag 4) (mFc " of " (mFv (ag 3) (mFc " isn't told ahead" nZ)))))) nZ)) rNo))))
abbrev r_1:LD->Bool:=λds=>sx (fg 6 ds)
abbrev wq:MF3:=
 (ff (lA (mT dLe dLe (kI 1) (aQ bL (af (ag 0) nZ)) (ag 2)) (aQ rk (af (ax (b7 1 [1] (m6 (ag 0)) (aO 0) kY (m2 m7 (ag 0) (ag 1)))) nZ))))
abbrev sy:=dW 3 wq
abbrev wt:MF3:=
 (ff (lA (aQ sy (af (m8 (ag 0) (λ_=>aa ae) (mPt (kI 1))) (af (kSt "ABCDEFGHIJKLMNOPQRSTUVWXYZ") (af (kI 1) nZ)))) (vOr (m2 dEq (aQ bL (af (ag 0) nZ)) (kI 1)) (aQ sy (af (m8 (ag 0) (mPt (kI 1)) (λ_=>aa ae)) (af (kSt "abcdefghijklmnopqrstuvwxyz") (af (kI 7) nZ)))))))
abbrev lY:=dW 1 wt
abbrev b_5:MF3:=
 (ay (cN 2 (ax (b7 2 [] (bQ (ag 1)) (cJ (br (aO 0) (br (aO 1) cQ))) kY (ag 0))))
  (fO (bQ (ag 0)) (aO 3) (bA (fc (fA (aQ lY (af (ag 3) nZ))) (mB (m2 eS (ag 3) (ag 2)))) (λ_=>ae) bz)))
abbrev m_5:=dW 4 b_5
abbrev sA:LS->Bool:=
 (gz rNo (cN 2 (ax (b7 2 [] (bQ (ag 1)) (cJ (br (aO 0) (br (aO 1) cQ))) kY (ag 0))))
  (lT (bQ (ag 0)) (aO 3) (bA (fc (fA (aQ lY (af (ag 3) nZ))) (mB (m2 eS (ag 3) (ag 2)))) (λ_=>ae) bz) (rIf (mTX (fc (fA (aQ lY (af (ag 3) nZ))) (mB (m2 eS (ag 3) (ag 2))))) (rOf (af (mFs (mFc "the variable " (mFv (ag 3) (mFc " isn't told" nZ)))) nZ)) rNo)))
abbrev r_5:LD->Bool:=λds=>sA (fg 4 ds)
abbrev wu:MF3:=
 (ay (dM 1 nZ)
  (ay (fO (bQ (ag 0)) (cJ (br (aO 2) (br (aO 3) cQ))) (mQ 1 (mP (mIx (aP 2) (kI 1)))))
  (jE 1)))
abbrev sB:=dW 4 wu
abbrev wv:MF3:=
 (ay (bA (mB (m2 dEq (mIx (aP 0) (kI 0)) (kSt "unlike"))) (ff (aR (af (ax (af (mIx (aP 0) (kI 1)) (af (mIx (aP 0) (kI 2)) nZ))) (af (ax nZ) nZ)))) bz)
  (ay (bA (mB (m2 dIn (mIx (aP 0) (kI 0)) (aR (af (kSt "least") (af (kSt "most") nZ))))) (ff (aR (af (aQ sB (af (mIx (aP 0) (kI 2)) nZ)) (af (mIx (aP 0) (kI 3)) nZ)))) bz)
  (ff (aR (af (mIx (bQ (mIx (aP 0) (kI 1))) (kI 1)) (af (ax nZ) nZ))))))
abbrev sC:=dW 1 wv
abbrev ww:MF3:=
 (ay (dM 1 (b7 1 [] (bQ (mIx (aP 0) (m1 eJ (kI 2)))) (aO 0) kY (aQ sC (af (ag 0) nZ))))
  (ay (bA (mB (m2 dEq (mIx (aP 0) (kI 0)) (kSt "choose"))) (i5 1 (aR (af (aQ sB (af (mIx (aP 0) (kI 3)) nZ)) (af (mIx (aP 0) (kI 4)) nZ)))) (bA (mB (m2 dNe (mIx (aP 0) (kI 0)) (kSt "never"))) (i5 1 (aR (af (mIx (bQ (mIx (aP 0) (kI 1))) (kI 1)) (af (ax nZ) nZ)))) bz))
  (jE 1)))
abbrev sD:=dW 2 ww
abbrev b_3:MF3:=
 (ay (c8 (aQ m_1 (af (mIx (aP 0) (m1 eJ (kI 1))) (af (ax nZ) (af (ag 1) nZ)))))
  (fO (bQ (aQ sD (af (ag 0) nZ))) (cJ (br (aO 2) (br (aO 3) cQ))) (ay (c8 (aQ m_1 (af (ag 3) (af (mIx (aP 0) (m1 eJ (kI 1))) (af (ag 1) nZ)))))
  (c8 (aQ m_5 (af (ag 2) (af (m2 ce (mIx (aP 0) (m1 eJ (kI 1))) (ag 3)) nZ)))))))
abbrev m_3:=dW 4 b_3
abbrev sE:LS->Bool:=
 (gz (fQ rNo r_1 (ao (mX (mIx (aP 0) (m1 eJ (kI 1)))) (ao (mX (ax nZ)) (ao (mX (ag 1)) aw)))) (c8 (aQ m_1 (af (mIx (aP 0) (m1 eJ (kI 1))) (af (ax nZ) (af (ag 1) nZ)))))
  (lT (bQ (aQ sD (af (ag 0) nZ))) (cJ (br (aO 2) (br (aO 3) cQ))) (ay (c8 (aQ m_1 (af (ag 3) (af (mIx (aP 0) (m1 eJ (kI 1))) (af (ag 1) nZ)))))
  (c8 (aQ m_5 (af (ag 2) (af (m2 ce (mIx (aP 0) (m1 eJ (kI 1))) (ag 3)) nZ))))) (gz (fQ rNo r_1 (ao (mX (ag 3)) (ao (mX (mIx (aP 0) (m1 eJ (kI 1)))) (ao (mX (ag 1)) aw)))) (c8 (aQ m_1 (af (ag 3) (af (mIx (aP 0) (m1 eJ (kI 1))) (af (ag 1) nZ)))))
  (fQ rNo r_5 (ao (mX (ag 2)) (ao (mX (m2 ce (mIx (aP 0) (m1 eJ (kI 1))) (ag 3))) aw))))))
abbrev r_3:LD->Bool:=λds=>sE (fg 4 ds)
abbrev b_6:MF3:=
 (ay (cN 2 (mIx (aP 0) (kI 1)))
  (ay (bA (mB (m2 dIn (ag 2) (ax (b7 2 [] (bQ (ag 1)) (cJ (br (aO 0) (br (aO 1) cQ))) kY (ag 0))))) (λ_=>ae) bz)
  (c8 (aQ m_4 (af (mIx (aP 0) (kI 2)) nZ)))))
abbrev m_6:=dW 3 b_6
abbrev sF:LS->Bool:=
 (gz rNo (cN 2 (mIx (aP 0) (kI 1)))
  (gz (rIf (mTX (mB (m2 dIn (ag 2) (ax (b7 2 [] (bQ (ag 1)) (cJ (br (aO 0) (br (aO 1) cQ))) kY (ag 0)))))) (rOf (af (mFs (mFc "the kind " (mFv (ag 2) (mFc " is told twice" nZ)))) nZ)) rNo) (bA (mB (m2 dIn (ag 2) (ax (b7 2 [] (bQ (ag 1)) (cJ (br (aO 0) (br (aO 1) cQ))) kY (ag 0))))) (λ_=>ae) bz)
  (fQ rNo r_4 (ao (mX (mIx (aP 0) (kI 2))) aw))))
abbrev r_6:LD->Bool:=λds=>sF (fg 3 ds)
abbrev b_2:MF3:=
 (ay (lP 1 (lN nZ))
  (ay (fO (bQ (ag 0)) (aO 2) (bA (mB (m2 dEq (mIx (aP 2) (kI 0)) (kSt "kind"))) (ay (c8 (i8 m_6 (af (ag 2) (af (gv 1) nZ))))
  (ki 1 (mW (af (mIx (aP 2) (kI 1)) nZ) (lN (bQ (mIx (aP 2) (kI 2))))))) (c8 (i8 m_3 (af (ag 2) (af (gv 1) nZ))))))
  (oN (rG 1))))
abbrev nz(a:LD):Option O:=vm 3 b_2 a
abbrev sG:LS->Bool:=
 (gz rNo (lP 1 (lN nZ))
  (lT (bQ (ag 0)) (aO 2) (bA (mB (m2 dEq (mIx (aP 2) (kI 0)) (kSt "kind"))) (ay (c8 (i8 m_6 (af (ag 2) (af (gv 1) nZ))))
  (ki 1 (mW (af (mIx (aP 2) (kI 1)) nZ) (lN (bQ (mIx (aP 2) (kI 2))))))) (c8 (i8 m_3 (af (ag 2) (af (gv 1) nZ))))) (rIf (mTX (mB (m2 dEq (mIx (aP 2) (kI 0)) (kSt "kind")))) (iL (fQ rNo r_6 (ao (mX (ag 2)) (ao (mX (ag 1)) aw)))) (iL (fQ rNo r_3 (ao (mX (ag 2)) (ao (mX (ag 1)) aw)))))))
abbrev r_2:LD->Bool:=λds=>sG (fg 3 ds)
abbrev pj:LS->Bool:=
 (vF rNo (mX (ag 0)) (fQ rNo r_2 (ao (mX (ag 0)) aw)))
abbrev sH:LD->Bool:=λds=>pj (fg 3 ds)
abbrev sI:MF3:=
 (ay (cN 2 (ax nZ))
  (ay (rY (rIf (mTX (fA (ag 1))) (fQ rNo r_2 (ao (mX (ag 0)) aw)) (fQ rNo sH (ao (mX (ag 0)) aw))) 2 [ac,ac,ak])
  (ff (m2 dEq (ag 2) (ax (af (kBl ac) (af (kBl ac) (af (kBl ak) nZ))))))))
abbrev sJ:=dW 4 sI
abbrev wx:MF3:=
 (ay (bA (mOr (iy (fA (mM "list" (ag 0)))) (mB (m2 dNe (aQ bL (af (ag 0) nZ)) (aQ bL (af (ag 1) nZ))))) (ff (kBl ak)) bz)
  (ay (fO (oC (af (ag 0) (af (ag 1) nZ))) (cJ (br (aO 2) (br (aO 3) cQ))) (ay (bA (mOr (iy (fA (mM "tuple" (ag 2)))) (mOr (mB (m2 dNe (aQ bL (af (ag 2) nZ)) (kI 2))) (iy (fA (mM "str" (mIx (aP 2) (kI 0))))))) (ff (kBl ak)) bz)
  (bA (mOr (iy (fA (mM "list" (mIx (aP 2) (kI 1))))) (mB (m2 dNe (ag 2) (ag 3)))) (ff (kBl ak)) bz)))
  (ff (kBl ac))))
abbrev sK:=dW 4 wx
abbrev pq:MF3:=
 (ay (dM 1 nZ)
  (ay (kh (jd (ao (mX2 ce (mX (kI 1)) (aN 0 m_0 (ao (mX (kI 3)) aw))) aw)) (aO 2) (ay (bU 3 (aN 0 m_8 aw))
  (bA (mB (m2 eS (ag 3) (gv 1))) (i5 1 (ag 3)) bz)))
  (ay (bU 4 (je 1 [0] 0 0 (mV (mX (ax (af (kI 3) (af (kI 2) (af (kI 2) (af (kI 1) nZ))))))) (aO 0) (dA (ao (aN 1 m_8 aw) (ao (km oM (ao (mX (ag 0)) (ao (aN 1 m_0 (ao (mX (kI 4)) aw)) aw))) aw)))))
  (ay (dM 5 nZ)
  (ay (kh (jd (ao (aN 0 m_0 (ao (mX (kI 4)) aw)) aw)) (aO 2) (ay (bU 3 (aN 0 m_8 aw))
  (ay (fX 1 (bU 6 (lU 1 [0] 0 0 (mV (mX (ag 1))) (aO 0) (mBX (mX2 dGt (aN 1 m_0 (ao (mX (kI 4)) aw)) (mX (kI 0)))) (mX (ag 0)))))
  (bA (fc (mB (m2 dGt (aQ bL (af (ag 6) nZ)) (kI 0))) (mB (m2 eS (ag 3) (ax (b7 1 [] (aP 5) (aO 0) kY (mIx (aP 0) (kI 0))))))) (jc 5 (dA (ao (mX (ag 3)) (ao (sh (mX (ag 6)) (mX2 gw (mX (kI 1)) (mX2 i9 (mX (kI 2)) (aN 0 m_0 (ao (mX (kI 2)) aw))))) aw)))) bz))))
  (fX 5 (fX 1 (cg (aR (af (ag 4) (af (ag 1) (af (ag 5) nZ))))))))))))
abbrev wy:=dX 7 pq
abbrev px:MF3:=
 (ay (bU 1 (mX2 gw (aN 0 m_0 (ao (mX (kI 9)) aw)) (mX (kI 2))))
  (ay (jI (mBX (mX2 dEq (aN 0 m_0 (ao (mX (kI 4)) aw)) (mX (kI 0)))) (fF (mX2 ce (mX (m2 i9 (ag 1) (m2 lB (kI 10) (kI 20)))) (aN 0 m_0 (ao (mX (m2 lB (kI 10) (kI 10))) aw)))) bz)
  (cg (ag 1))))
abbrev lZ:=dX 2 px
abbrev py:MF3:=
 (ay (dM 4 nZ)
  (ay (kh (jd (ao (mX2 i9 (km oM (ao (mX (ag 3)) (ao (mX2 ce (mX2 oq (aN 0 m_0 (ao (mX (kI 6)) aw)) (mX (kI 2))) (aN 0 m_0 (ao (mX (kI 2)) aw))) aw))) (mX (mZ (m2 dGt (aQ bL (af (ag 1) nZ)) (kI 0))))) aw)) (aO 5) (ay (bU 6 (aN 0 nv aw))
  (bA (mB (m2 eS (ag 6) (ax (i6 (ag 2) (ax (b7 1 [] (aP 4) (aO 0) kY (mIx (aP 0) (kI 0)))))))) (jc 4 (dA (ao (mX (ag 6)) (ao (mX2 cO (mX2 cO (mX (ag 1)) (aN 0 m_0 (ao (mX (aQ bL (af (ag 1) nZ))) aw))) (mX (kI 0))) aw)))) bz)))
  (fX 4 (cg (ag 4)))))
abbrev sL:=dX 7 py
abbrev b_9:MF3:=
 (ay (lV (cJ (br (aO 3) (br (aO 4) cQ))) (mX2 cO (mX (mIx (aP 1) (kI 0))) (aN 0 m_0 (ao (mX (kI 4)) aw))))
  (ay (dM 5 nZ)
  (ay (fO (gR (af (ag 4) nZ)) (aO 6) (jI (jJ (mTX (mB (m2 dGt (aQ bL (af (ag 2) nZ)) (kI 0)))) (mBX (mX2 dGt (aN 0 m_0 (ao (mX (kI 4)) aw)) (mX (kI 0))))) (jc 5 (mX2 cO (mX (ag 2)) (aN 0 m_0 (ao (mX (aQ bL (af (ag 2) nZ))) aw)))) (jc 5 (mX2 cO (mX (mIx (aP 1) (kI 1))) (aN 0 m_0 (ao (mX (aQ bL (af (mIx (aP 1) (kI 1)) nZ))) aw))))))
  (fX 5 (cg (aR (af (ag 3) (af (ag 5) nZ))))))))
abbrev m_9:=dX 7 b_9
abbrev pz:MF3:=
 (ay (bU 5 (aN 0 sL (ao (mX (ag 3)) (ao (mX (ag 2)) (ao (mX (kI 2)) aw)))))
  (ay (cN 6 (ax (i6 (ag 2) (ax (b7 1 [] (bQ (ag 5)) (aO 0) kY (mIx (aP 0) (kI 0)))))))
  (ay (dM 7 nZ)
  (ay (kh (jd (ao (mX2 ce (mX (kI 1)) (aN 0 m_0 (ao (mX (ag 4)) aw))) aw)) (aO 8) (ay (bU 9 (mX2 cO (jH (ao (mX (kI 1)) (ao (km rO (ao (aN 0 lZ aw) aw)) aw))) (aN 0 m_0 (ao (mX (kI 2)) aw))))
  (jc 7 (dA (ao (aN 0 m_9 (ao (mX (ag 1)) (ao (mX (ag 6)) aw))) (ao (mX (ag 9)) aw))))))
  (fX 7 (cg (aR (af (ag 7) (af (ag 5) nZ)))))))))
abbrev pB:=dX 10 pz
abbrev pE:MF3:=
 (ay (bU 4 (aN 0 m_0 (ao (mX (kI 6)) aw)))
  (ay (bA (fc (mB (m2 dEq (ag 4) (kI 0))) (mB (m2 dGt (aQ bL (af (ag 2) nZ)) (kI 0)))) (ay (bU 5 (mX2 cO (mX (ag 2)) (aN 0 m_0 (ao (mX (aQ bL (af (ag 2) nZ))) aw))))
  (ay (cN 6 (m2 ce (ag 2) (mIx (aP 1) (kI 1))))
  (ay (bU 7 (mX2 cO (mX (ag 6)) (aN 0 m_0 (ao (mX (aQ bL (af (ag 6) nZ))) aw))))
  (ay (jI (mBX (mX2 dEq (aN 0 m_0 (ao (mX (kI 2)) aw)) (mX (kI 0)))) (cg (aR (af (kSt "unlike") (af (ag 7) (af (ag 5) nZ))))) bz)
  (cg (aR (af (kSt "unlike") (af (ag 5) (af (ag 7) nZ))))))))) bz)
  (ay (bA (mB (m2 dLt (ag 4) (kI 3))) (ay (lV (cJ (br (aO 8) (br (aO 9) cQ))) (aN 0 pB (ao (mX (ag 1)) (ao (mX (ag 2)) (ao (mX (ag 3)) (ao (mX (kI 2)) aw))))))
  (fF (dA (ao (mX (mIx (af (kSt "least") (af (kSt "most") nZ)) (m2 iz (ag 4) (kI 2)))) (ao (aN 0 lZ aw) (ao (mX (ag 8)) (ao (mX (ag 9)) aw))))))) bz)
  (fF (dA (ao (mX (mIx (af (kSt "is") (af (kSt "not") (af (kSt "is") nZ))) (m2 gw (ag 4) (kI 3)))) (ao (aN 0 m_9 (ao (mX (ag 1)) (ao (mX (ag 2)) aw))) aw)))))))
abbrev pG:=dX 10 pE
abbrev pH:MF3:=
 (fF (je 1 [0,1,2,3] 0 0 (jd (ao (aN 0 m_0 (ao (mX (kI 4)) aw)) aw)) (aO 0) (aN 1 pG (ao (mX (ag 2)) (ao (mX (ag 3)) (ao (mX (ag 4)) aw))))))
abbrev wz:=dX 4 pH
abbrev pI:MF3:=
 (ay (bU 3 (aN 0 sL (ao (mX (ag 2)) (ao (mX (ax nZ)) (ao (mX (kI 3)) aw)))))
  (ay (cN 4 (ax (b7 1 [] (bQ (ag 3)) (aO 0) kY (mIx (aP 0) (kI 0)))))
  (ay (bU 5 (aN 0 wz (ao (mX (ag 1)) (ao (mX (ag 4)) (ao (mX (ag 2)) aw)))))
  (ay (bU 6 (aN 0 m_0 (ao (mX (kI 4)) aw)))
  (ay (bA (mB (m2 dEq (ag 6) (kI 0))) (fF (dA (ao (mX (kSt "never")) (ao (mX2 ce (mX (ag 5)) (jH (ao (dA (ao (mX (kSt "is")) (ao (aN 0 m_9 (ao (mX (ag 1)) (ao (mX (ag 4)) aw))) aw))) aw))) (ao (mX (ag 3)) aw))))) bz)
  (ay (bA (mB (m2 dEq (ag 6) (kI 1))) (ay (lV (cJ (br (aO 7) (br (aO 8) cQ))) (aN 0 pB (ao (mX (ag 1)) (ao (mX (ag 4)) (ao (mX (ag 2)) (ao (mX (kI 3)) aw))))))
  (fF (dA (ao (mX (kSt "choose")) (ao (aN 0 lZ aw) (ao (aN 0 lZ aw) (ao (mX (ag 7)) (ao (mX (ag 8)) (ao (mX (ag 5)) (ao (mX (ag 3)) aw)))))))))) bz)
  (fF (dA (ao (mX (mIx (af (kSt "may") (af (kSt "rule") nZ)) (m2 gw (ag 6) (kI 2)))) (ao (aN 0 m_9 (ao (mX (ag 1)) (ao (mX (ag 4)) aw))) (ao (mX (ag 5)) (ao (mX (ag 3)) aw))))))))))))
abbrev wA:=dX 9 pI
abbrev wB:MF3:=
 (ay (dM 1 (af (mIx (aP 0) (kI 0)) nZ))
  (ay (bU 2 (ko 1 wy aw))
  (ay (bU 3 (ko 1 m_0 (ao (mX (kI 4)) aw)))
  (ay (dM 4 nZ)
  (ay (fO (gR (af (m2 gw (aQ bL (af (ag 0) nZ)) (kI 1)) nZ)) (aO 5) (ay (cN 6 (aQ bL (af (ax (b7 1 [] (aP 4) (aO 0) (mB (m2 dEq (mIx (aP 0) (kI 0)) (kSt "kind"))) (ag 0))) nZ)))
  (ay (fO (bQ (ax (mSl (mIx (aP 2) (kI 2)) (mPt (ag 6)) (mPt (m2 ce (ag 3) (ag 5)))))) (cJ (br (aO 7) (br (aO 8) cQ))) (i5 4 (aR (af (kSt "kind") (af (ag 7) (af (ax (aP 8)) nZ))))))
  (i5 4 (o3 wA (af (mIx (aP 0) (m2 ce (ag 5) (kI 1))) nZ) (af (ag 2) (af (ax (mSl (mIx (aP 2) (kI 2)) (λ_=>aa ae) (mPt (m2 ce (ag 3) (ag 5))))) nZ)))))))
  (jE 4))))))
abbrev nA:=dW 9 wB
abbrev sM:MF3:=
 (ay (dM 2 (b7 1 [] (gR (af (ag 1) nZ)) (aO 0) kY (m2 ce (m2 i9 (ag 0) (kI 7368787)) (kI 1000003))))
  (ay (fO (oG (af (ag 0) nZ)) (cJ (br (aO 3) (br (aO 4) cQ))) (ay (cN 5 (m2 ce (m2 i9 (mIx (aP 2) (m2 iz (ag 3) (ag 1))) (kI 1000003)) (m2 iz (ag 4) (m2 lB (kI 10) (kI 30)))))
  (lK 2 (m2 iz (ag 3) (ag 1)) (m2 iz (m2 ce (ag 5) (ag 3)) (m2 gw (m2 lB (kI 2) (kI 61)) (kI 1))))))
  (jE 2)))
abbrev wC:=dW 6 sM
abbrev b_7:MF3:=
 (ay (cN 1 (kI 0))
  (ay (bA (mB (m2 dGt (aQ bL (af (ag 0) nZ)) (kI 0))) (cN 1 (m2 iz (mIx (aP 0) (kI 0)) (kI 5))) bz)
  (ay (cN 2 (aQ wC (af (ag 0) (af (m2 ce (ag 1) (kI 2)) nZ))))
  (ay (cN 3 (aQ nA (af (ax (mSl (ag 2) (mPt (kI 1)) (λ_=>aa ae))) nZ)))
  (ay (cN 4 (aQ ny (af (aQ nA (af (ax (mSl (ag 2) (mPt (kI 1)) (λ_=>aa ae))) nZ)) nZ)))
  (ay (lP 5 (lO nz (af (ag 3) nZ)))
  (ay (bA (iy (fA (mR sK (af (gv 5) (af (ag 4) nZ))))) (ff (kBl ak)) bz)
  (ay (dM 6 (af (mIx (aP 2) (kI 0)) nZ))
  (ay (bU 7 (ko 6 m_0 (ao (mX (m2 ce (aQ bL (af (ag 3) nZ)) (kI 1))) aw)))
  (ay (cN 10 (ax (b7 2 [] (bQ (aQ ny (af (ax (mSl (ag 3) (λ_=>aa ae) (mPt (ag 7)))) nZ))) (cJ (br (aO 0) (br (aO 1) cQ))) kY (ag 0))))
  (ay (cN 11 (ax (b7 2 [] (bQ (aQ ny (af (ax (mSl (ag 3) (mPt (ag 7)) (λ_=>aa ae))) nZ))) (cJ (br (aO 0) (br (aO 1) cQ))) kY (ag 0))))
  (ay (dM 12 (aP 3))
  (ay (kA 12 (ao (mX (ag 7)) (ao (ko 6 wn (ao (mX (ag 10)) (ao (mX (ag 11)) aw))) aw)))
  (ay (fX 12 (bA (mOr (iy (fA (aQ sJ (af (ag 12) (af (kBl ac) nZ))))) (iy (fA (aQ sJ (af (ag 12) (af (kBl ak) nZ)))))) (ff (kBl ak)) bz))
  (ay (oZ 5 ae 8 9 [8,9] (ki 9 (rF (kSt "x"))))
  (ay (o0 5 (aR (af (kSt "x") (af (ax nZ) nZ))))
  (ff (lA (mR sK (af (zB (lO nz (af (ag 3) nZ))) (af (ag 4) nZ))) (m2 dEq (ag 3) (aQ nA (af (ax (mSl (ag 2) (mPt (kI 1)) (λ_=>aa ae))) nZ)))))))))))))))))))))
abbrev m_7:=dW 13 b_7
seal DSs DS DX DE DO
variable{P:dJ}{w:World}{K:bu}{mg:MGT}{base:Heap}{a:Wa}
def bB(W:Wd K mg a):qM P w K mg base a 1 "_law_next" a.e_0 ["_law_state","_law_many"] 0 m_0:=by
 refine W.e_0.pk (fD (F:=b_0) W.e_0.F Gr λ_ _ _ _ _ _ b=>?_);unfold b_0;exact (aA (EV (pv 0) am (b6 jZ (b6 cW (b6 mU (bf (zg 0) am) am) am) (b6 jA (b6 ow am am) am)))
 (aI (cA (b6 jZ (b6 yA (bf (zg 0) am) am) (dv 1)))))
def Gv(W:Wd K mg a):qM P w K mg base a 2 "_law_bad_part" a.e_26 ["_law_state","_law_unbound","_law_good"] 0 wk:=by
 refine W.e_26.pk (fD (F:=o8) W.e_26.F su λ_ _ _ _ _ _ b=>?_);have c:=b.units;unfold o8;exact (aA (cr 3 su.nd (aT (bB W) b (aS 0 (ar (DE.dx am) aD))))
 (aA (cr 4 su.nd (eL (ar (DE.dx aE) (ar (f7 cW (f7 cW (dO (DE.dx (DO.de (aH (ai (DO.de (aH (ai aE aq))) (ai (DO.de (aH aq)) aq))))) (aT (bB W) b (aS 0 (ar (DE.dx am) aD)))) (DE.dx (DO.de (aH (ai (dv 1) aq))))) (dO (DE.dx (DO.de (aH (ai (DO.de (aH (ai aE aq))) (ai (DO.de (aH aq)) aq))))) (aT (bB W) b (aS 0 (ar (DE.dx am) aD))))) aD))))
 (aA (bM (bi (cp c) cy (DE.db (dv 3)) (DE.db am)) (aI (cA (bc (ai aE (ai (dv 4) aq))))) bK)
 (aA (bM (bi (cp c) cy (DE.db (dv 3)) (DE.db am)) (aI (cA (bc (ai aE (ai (dv 4) aq))))) bK)
 (aA (bM (bi (cp c) cy (DE.db (dv 3)) (DE.db am)) (aI (cA (bc (ai aE (ai (dv 1) (ai aE aq)))))) bK)
 (aA (bM (bi (cp c) cy (DE.db (dv 3)) (DE.db am)) (aI (cA (bc (ai aE (ai aE (ai (dv 1) aq)))))) bK)
 (aA (gU 5 su.nd (aH (ai (bc (ai (bc (ai aE (ai (DO.de (aH aq)) aq))) (ai am aq))) (ai (bc (ai (bc (ai aE (ai (DO.de (aH (ai (dv 2) aq))) aq))) (ai am aq))) aq))))
 (aA (r6 (dR (eQ eO qj qk rZ (pv 5) (DAX.pa (ar (aT (bB W) b (aS 0 (ar (DE.dx am) aD))) (ar (DE.dx (bc (ai (dv 4) (ai am aq)))) aD))))))
 (aI (iC 5 (gW (eL (ar (dO (DE.dx (DO.de (aH (ai aE (ai aE aq))))) (aT (bB W) b (aS 0 (ar (DE.dx am) aD)))) (ar (DE.dx am) (ar (DE.dx (dv 5)) (ar (DE.dx (DO.de (aH aq))) aD))))))))))))))))
def Af(W:Wd K mg a):qM P w K mg base a 2 "_law_small" a.e_19 ["_law_state","_law_many","_law_span"] 0 o9:=by
 refine W.e_19.pk (fD (F:=sv) W.e_19.F sk λ_ _ _ _ _ _ b=>?_);unfold sv;exact (aA (fY 3 sk.nd aE)
 (aA (iB fK rfl (qY rfl W.z_range (ai (dv 1) aq)) (cz 4 5 sk.nd) (aI (EZ 3 sk.nd (zC (DE.dx aE) (aT (bB W) b (aS 0 (ar (DE.dx (dv 2)) aD)))))))
 (aI (cA (dv 3)))))
def wD(W:Wd K mg a):qM P w K mg base a 3 "_law_variable" a.e_17 ["_law_state"] 0 nv:=by
 refine W.e_17.pk (fD (F:=pb) W.e_17.F Ad λ_ _ _ _ _ _ b=>?_);unfold pb;exact (aA (cr 1 Ad.nd (zC (DE.dx aE) (aT (bB W) b (aS 0 (ar (dO (DE.dx (DO.de (aH (ai am (ai am aq))))) (aT (bB W) b (aS 0 (ar (DE.dx am) aD)))) aD)))))
 (aI (gW (f7 cW (DE.dx (dv 1)) (aT (Af W) b (aS 0 (ar (aT (bB W) b (aS 0 (ar (DE.dx am) aD))) (ar (dO (DE.dx (DO.de (aH (ai am (ai am aq))))) (aT (bB W) b (aS 0 (ar (DE.dx am) aD)))) aD))))))))
def Gw(W:Wd K mg a):qM P w K mg base a 4 "_law_bad_bound" a.e_15 ["_law_state","_law_ahead"] 0 wl:=by
 refine W.e_15.pk (fD (F:=pc) W.e_15.F kG λ_ _ _ _ _ _ b=>?_);have c:=b.units;unfold pc;exact (aA (cr 2 kG.nd (aT (wD W) b (aS 0 aD)))
 (aA (cr 3 kG.nd (aT (Gv W) b (aS 0 (ar (DE.dx (dv 2)) (ar (DE.dx aE) aD)))))
 (aA (fY 4 kG.nd (bc (ai aE (ai (DO.de (aH (ai (dv 2) aq))) aq))))
 (aA (cr 5 kG.nd (aT (bB W) b (aS 0 (ar (DE.dx am) aD))))
 (aA (bM (DW.dt (mJ (bi (cp c) cy (DE.db (dv 5)) (DE.db am)) (on (DW.dt (jz (bi (cp c) cy (DE.db (cD cH cI rfl W.z_len cC (bX (DE.db (dv 1)) cn))) (DE.db am)) (jy (bi hJ iZ (DE.db (dv 5)) (DE.db am)))))))) (aI (cA (bc (ai aE (ai (dv 4) (ai (DO.de (aH (ai (bc (ai aE (ai (bc (ai aE (ai (DO.de (aH aq)) aq))) aq))) aq))) (ai (DO.de (aH aq)) aq))))))) bK)
 (aA (bM (bi (cp c) cy (DE.db (dv 5)) (DE.db am)) (aI (cA (bc (ai aE (ai am (ai am (ai (DO.de (aH (ai (bc (ai (bc (ai aE (ai (DO.de (aH aq)) aq))) (ai am aq))) (ai (bc (ai (dv 4) (ai am aq))) aq)))) (ai (DO.de (aH aq)) (ai (DO.de (aH aq)) (ai (DO.de (aH aq)) aq)))))))))) bK)
 (aA (bM (bi (cp c) cy (DE.db (dv 5)) (DE.db am)) (aA (cr 6 kG.nd (dO (DE.dx (DO.de (aH (ai aE (ai aE (ai aE aq)))))) (aT (bB W) b (aS 0 (ar (DE.dx am) aD)))))
 (aA (bM (bi (cp c) cy (DE.db (dv 6)) (DE.db aE)) (aI (cA (bc (ai (dv 6) (ai (DO.de (aH (ai (bc (ai aE (ai (bc (ai aE (ai (DO.de (aH aq)) aq))) aq))) (ai (dv 3) aq)))) (ai (DO.de (aH aq)) aq)))))) bK)
 (aI (cA (bc (ai (dv 6) (ai (bc (ai aE (ai (DO.de (aH aq)) aq))) (ai (DO.de (aH (ai (bc (ai aE (ai (bc (ai aE (ai (DO.de (aH aq)) aq))) aq))) (ai (dv 3) aq)))) (ai (DO.de (aH aq)) aq))))))))) bK)
 (aA (cr 7 kG.nd (oQ (ar (eL (ar (DE.dx (dv 2)) (ar (dO (DE.dx (dv 1)) (aT (bB W) b (aS 0 (ar (DE.dx (cD cH cI rfl W.z_len cC (bX (DE.db (dv 1)) cn))) aD)))) aD))) aD)))
 (aA (bM (bi (cp c) cy (DE.db (dv 5)) (DE.db am)) (aI (cA (bc (ai aE (ai (dv 4) (ai (DO.de (aH (ai (bc (ai aE (ai am (ai (DO.de (aH (ai (bc (ai (bc (ai aE (ai (DO.de (aH (ai (dv 2) aq))) aq))) (ai am aq))) aq))) (ai (dv 7) aq))))) aq))) (ai (DO.de (aH aq)) aq))))))) bK)
 (aA (bM (bi hJ iZ (DE.db (dv 5)) (DE.db am)) (aA (gU 8 kG.nd (aH (ai (bc (ai aE (ai am (ai (DO.de (aH (ai (bc (ai (bc (ai aE (ai (DO.de (aH (ai (dv 2) aq))) aq))) (ai am aq))) aq))) (ai (dv 7) aq))))) aq)))
 (aA (r6 (dR (eQ eO qj qk rZ (pv 8) (DAX.pa (ar (aT (bB W) b (aS 0 (ar (DE.dx am) aD))) (ar (DE.dx (bf (DO.dc (aH (ai (bc (ai aE (ai (dv 4) aq))) (ai (bc (ai aE (ai am (ai (DO.de (aH (ai (bc (ai (dv 4) (ai am aq))) aq))) (ai (DO.de (aH aq)) aq))))) aq)))) (b6 jA (dv 5) am))) aD))))))
 (aI (iC 8 (cA (bc (ai aE (ai (bc (ai aE (ai (DO.de (aH aq)) aq))) (ai (dv 8) (ai (DO.de (aH aq)) aq)))))))))) bK)
 (aI (cA (bc (ai aE (ai am (ai am (ai (DO.de (aH (ai (bc (ai (dv 4) (ai am aq))) aq))) (ai (dv 7) (ai (DO.de (aH (ai (dv 3) aq))) (ai (DO.de (aH aq)) aq))))))))))))))))))))
def sN(W:Wd K mg a):qM P w K mg base a 3 "_law_name" a.e_8 ["_law_state"] 0 m_8:=by
 refine W.e_8.pk (fD (F:=b_8) W.e_8.F o6 λ_ _ _ _ _ _ b=>?_);unfold b_8;exact (aA (gU 1 o6.nd (aH (ai aE (ai aE (ai aE (ai aE (ai aE (ai aE (ai aE (ai aE aq))))))))))
 (aA (Fj 1 o6.nd (DE.dx (DO.de (aH (ai aE (ai aE (ai aE (ai aE (ai aE (ai aE (ai aE (ai aE aq))))))))))))
 (aA (cr 2 o6.nd (dO (DE.dx (DO.de (aH (ai am (ai am aq))))) (aT (bB W) b (aS 0 (ar (DE.dx am) aD)))))
 (aA (cr 3 o6.nd (aT (Af W) b (aS 0 (ar (f7 cW (DE.dx am) (aT (bB W) b (aS 0 (ar (DE.dx am) aD)))) (ar (DE.dx (dv 2)) aD)))))
 (aA (iC 1 (bM (bi oB oA (DE.db (dv 3)) (DE.db (dv 1))) (aI (cA (b6 cW aE (dv 3)))) bK))
 (aI (cA (dv 3))))))))
def Gy(W:Wd K mg a):qM P w K mg base a 4 "_law_untold" a.e_29 ["_law_state","_law_ahead","_law_later"] 0 wm:=by
 refine W.e_29.pk (fD (F:=pd) W.e_29.F wf λ_ _ _ _ _ _ b=>?_);have c:=b.units;unfold pd;exact (aA (cr 3 wf.nd (oQ (ar (aT (sN W) b (aS 0 aD)) (ar (DE.dx aE) (ar (DE.dx aE) (ar (DE.dx aE) (ar (DE.dx aE) aD)))))))
 (aA (oU (DWX.dtx (zA (DT.dtx (bi hJ iZ (DE.db (cD cH cI rfl W.z_len cC (bX (DE.db (dv 2)) cn))) (DE.db am))) (zy (m5 (cp c) (aT (bB W) b (aS 0 (ar (DE.dx am) aD))) (DE.dx am))))) (aI (cr 3 wf.nd (f7 cW (oQ (ar (dO (DE.dx (dv 2)) (aT (bB W) b (aS 0 (ar (DE.dx (cD cH cI rfl W.z_len cC (bX (DE.db (dv 2)) cn))) aD)))) aD)) (DE.dx (dv 3))))) bK)
 (aI (cA (bf (DO.dc (gT 1 [1] ["_law_name_here","_law_ahead"] rfl (DI.de (cX (dv 3))) (λ_ _ _ _ _=>(dgc 0 1)) (λ_ _ _ _ _=>(u5 (bi i3 i0 (DE.db (dvc 0)) (DE.db (dvc 1))))) (λ_ _ _ _ _=>(dvc 0)))) am)))))
def Ag(W:Wd K mg a):qM P w K mg base a 5 "_law_bad_pairs" a.e_21 ["_law_state","_law_ahead","_law_later","_law_most"] 0 sw:=by
 refine W.e_21.pk (fD (F:=pf) W.e_21.F sr λ_ _ _ _ _ _ b=>?_);have c:=b.units;unfold pf;exact (aA (cr 4 sr.nd (eL (ar (DE.dx aE) (ar (aT (Gy W) b (aS 0 (ar (DE.dx (dv 1)) (ar (DE.dx (dv 2)) aD)))) aD))))
 (aA (bM (bi (cp c) cy (DE.db (cD cH cI rfl W.z_len cC (bX (DE.db (dv 1)) cn))) (DE.db am)) (aI (cA (DO.de (aH (ai (dv 4) aq))))) bK)
 (aA (cr 5 sr.nd (eL (ar (DE.dx aE) (ar (dO (DE.dx (dv 1)) (aT (bB W) b (aS 0 (ar (DE.dx (cD cH cI rfl W.z_len cC (bX (DE.db (dv 1)) cn))) aD)))) aD))))
 (aA (cr 6 sr.nd (aT (bB W) b (aS 0 (ar (DE.dx am) aD))))
 (aA (bM (DW.dt (jz (bi (cp c) cy (DE.db (dv 6)) (DE.db am)) (jy (bi (cp c) cy (DE.db (dv 3)) (DE.db am))))) (aI (cA (DO.de (aH (ai (dv 5) (ai (bc (ai aE (ai (bf (dvC 5) am) aq))) (ai (dv 5) aq))))))) bK)
 (aA (bM (bi ox oy (DE.db (dv 6)) (DE.db am)) (aI (cA (DO.de (aH (ai (dv 5) (ai (dv 5) aq)))))) bK)
 (aI (cA (bf (DO.dc (aH (ai (DO.de (aH (ai (dv 4) aq))) (ai (DO.de (aH (ai (dv 4) (ai (dv 5) aq)))) (ai (DO.de (aH (ai (dv 5) (ai (dv 4) aq)))) aq))))) (b6 jA (dv 6) am))))))))))
def Gz(W:Wd K mg a):qM P w K mg base a 6 "_law_bad" a.e_16 ["_law_state","_law_ahead","_law_later"] 0 wn:=by
 refine W.e_16.pk (fD (F:=ph) W.e_16.F kH λ_ _ _ _ _ _ b=>?_);have c:=b.units;unfold ph;exact (aA (cr 3 kH.nd (aT (bB W) b (aS 0 (ar (DE.dx am) aD))))
 (aA (bM (DW.dt (jz (bi (cp c) cy (DE.db (dv 3)) (DE.db am)) (jy (bi hJ iZ (DE.db (cD cH cI rfl W.z_len cC (bX (DE.db (dv 1)) cn))) (DE.db am))))) (aI (gW (eL (ar (DE.dx aE) (ar (dO (DE.dx (dv 1)) (aT (bB W) b (aS 0 (ar (DE.dx (cD cH cI rfl W.z_len cC (bX (DE.db (dv 1)) cn))) aD)))) (ar (DE.dx (DO.de (aH (ai aE aq)))) aD)))))) bK)
 (aA (bM (bi ox oy (DE.db (dv 3)) (DE.db am)) (aA (Gm 4 kH.nd (DE.dx (DO.de (aH (ai aE (ai aE (ai aE aq)))))) (aT (bB W) b (aS 0 (ar (DE.dx am) aD))))
 (aA (r6 (dR (eQ eO qj qk rZ (pv 4) (DAX.pa (ar (aT (bB W) b (aS 0 (ar (DE.dx (b6 cW (cD cH cI rfl W.z_len cC (bX (dvB 4) cn)) am)) aD))) (ar (DE.dx aE) aD))))))
 (aI (iC 4 (cA (bc (ai aE (ai aE (ai (DO.de (vd (DO.de (aH (ai aE aq))) (dv 4))) aq))))))))) bK)
 (aA (bM (bi (cp c) cy (DE.db (dv 3)) (DE.db am)) (aI (gW (eL (ar (DE.dx aE) (ar (DE.dx (bc (ai aE (ai (DO.de (aH aq)) aq)))) (ar (DE.dx (DO.de (aH aq))) (ar (aT (Ag W) b (aS 0 (ar (DE.dx (dv 1)) (ar (DE.dx (dv 2)) (ar (DE.dx am) aD))))) aD))))))) bK)
 (aA (bM (bi (cp c) cy (DE.db (dv 3)) (DE.db am)) (aA (cr 5 kH.nd (aT (Ag W) b (aS 0 (ar (DE.dx (dv 1)) (ar (DE.dx (dv 2)) (ar (DE.dx am) aD))))))
 (aA (oU (m5 (cp c) (aT (bB W) b (aS 0 (ar (DE.dx am) aD))) (DE.dx am)) (aI (cA (bc (ai aE (ai (DO.de (aH (ai (bc (ai aE (ai am (ai (DO.de (aH (ai (bc (ai (bc (ai aE (ai (DO.de (aH aq)) aq))) (ai am aq))) aq))) (ai (dv 5) aq))))) aq))) (ai (DO.de (aH aq)) aq)))))) bK)
 (aI (cA (bc (ai aE (ai am (ai am (ai (DO.de (aH (ai (bc (ai (bc (ai aE (ai (DO.de (aH aq)) aq))) (ai am aq))) aq))) (ai (dv 5) (ai (DO.de (aH aq)) (ai (DO.de (aH aq)) aq)))))))))))) bK)
 (aA (bM (DW.dt (jz (bi (cp c) cy (DE.db (dv 3)) (DE.db am)) (jy (bi hJ iZ (DE.db (cD cH cI rfl W.z_len cC (bX (DE.db (dv 1)) cn))) (DE.db am))))) (aA (cr 6 kH.nd (eL (ar (aT (wD W) b (aS 0 aD)) (ar (dO (DE.dx (dv 1)) (aT (bB W) b (aS 0 (ar (DE.dx (cD cH cI rfl W.z_len cC (bX (DE.db (dv 1)) cn))) aD)))) aD))))
 (aA (fY 7 kH.nd (DO.de (aH (ai (bc (ai (bc (ai aE (ai (DO.de (aH (ai (bf (dvC 6) am) aq))) aq))) (ai am aq))) aq))))
 (aA (cr 8 kH.nd (eL (ar (dO (DE.dx (DO.de (aH (ai aE (ai aE aq))))) (aT (bB W) b (aS 0 (ar (DE.dx am) aD)))) (ar (DE.dx am) (ar (DE.dx (dv 7)) (ar (DE.dx (DO.de (aH (ai (dv 6) aq)))) aD))))))
 (aA (cr 9 kH.nd (aT (bB W) b (aS 0 (ar (DE.dx am) aD))))
 (aA (bM (bi (cp c) cy (DE.db (dv 9)) (DE.db am)) (aI (cA (bc (ai aE (ai (DO.de (aH (ai (dv 8) aq))) (ai (DO.de (aH (ai (dv 6) aq))) aq)))))) bK)
 (aA (bM (bi (cp c) cy (DE.db (dv 9)) (DE.db am)) (aI (cA (bc (ai aE (ai am (ai am (ai (DO.de (aH (ai (bc (ai (bc (ai aE (ai (DO.de (aH aq)) aq))) (ai am aq))) aq))) (ai (DO.de (aH aq)) (ai (DO.de (aH (ai (dv 8) aq))) (ai (DO.de (aH (ai (dv 6) aq))) aq)))))))))) bK)
 (aA (bM (bi (cp c) cy (DE.db (dv 9)) (DE.db am)) (aI (gW (eL (ar (dO (DE.dx (DO.de (aH (ai aE (ai aE aq))))) (aT (bB W) b (aS 0 (ar (DE.dx am) aD)))) (ar (DE.dx (bc (ai aE (ai (DO.de (aH aq)) aq)))) (ar (DE.dx (DO.de (aH (ai (dv 8) aq)))) (ar (DE.dx (DO.de (aH (ai (dv 6) aq)))) aD))))))) bK)
 (aI (cA (bc (ai aE (ai am (ai am (ai (dv 7) (ai (DO.de (aH (ai (dv 6) aq))) (ai (DO.de (aH aq)) (ai (DO.de (aH (ai (dv 6) aq))) aq))))))))))))))))) bK)
 (aI (gW (aT (Gw W) b (aS 0 (ar (DE.dx (dv 1)) aD)))))))))))
def wE(W:Wd K mg a):qD P w K mg base a 1 "_law_due" a.e_25 ["_law_rows_here"] ny:=by
 refine W.e_25.pk (fP (F:=wo) W.e_25.F Gu λ_ _ _ _ _ _ b=>?_);have c:=b.units;unfold wo;exact(aI (DQ (gT 1 [] ["_law_row_here"] rfl (DI.de (cX (dv 0))) (λ_ _ _ _ _=>(dgc 0 1)) (λ_ _ _ _ _=>(u5 (bi (cp c) cy (DE.db (bf (j9 0) am)) (DE.db aE)))) (λ_ _ _ _ _=>(bc (ai (bf (j9 0) am) (ai (bf (j9 0) am) aq)))))))
def wF(W:Wd K mg a):qD P w K mg base a 1 "must_be_unlike" a.e_4 ["words"] m_4:=by
 refine W.e_4.pk (fP (F:=b_4) W.e_4.F Aa λ_ _ _ _ _ _ b=>?_);unfold b_4;exact(aI (bM (bi ox oy (DE.db (zZ rfl rfl W.z_len rfl W.z_set (dv 0))) (DE.db (cD cH cI rfl W.z_len cC (bX (DE.db (dv 0)) cn)))) (aI lQ) bK))
variable{C:Addr}
def Ah(W:Wd K mg a)(c:f9 K C=ac)(b:mg "BadName"=aa (.ref C)):Pk P w K mg base (CX1 P w) 1 "must_be_unlike" a.e_4 ["words"] (spR ⟨K,a.cl⟩ ["words"].length C r_4):=by
 refine W.e_4.pk (lS (r:=pi) W.e_4.F Aa λ_ _ _ _ _ _ d=>?_);unfold pi;exact(eU (m9 (DT.dtx (bi ox oy (DE.db (zZ rfl rfl W.z_len rfl W.z_set (dv 0))) (DE.db (cD cH cI rfl W.z_len cC (bX (DE.db (dv 0)) cn))))) (eU (rX c rfl rS rfl b (ai aE aq))) rW))
def pJ(W:Wd K mg a):qD P w K mg base a 2 "must_be_pairs" a.e_1 ["pairs","outer","kinds"] m_1:=by
 refine W.e_1.pk (fP (F:=b_1) W.e_1.F kE λ_ _ _ _ _ _ b=>?_);unfold b_1;exact (aA (gx (cS (wF W) b (ai (DO.de (gT 2 [] ["variable","kind"] rfl (DI.de (cX (b6 cW (dv 1) (dv 0)))) (λ_ _ _ _ _=>(dG rfl (bR (dgc 0 2) (bR (dgc 1 2) dF)))) (λ_ _ _ _ _=>dU) (λ_ _ _ _ _=>(dvc 0)))) aq)))
 (aA (lG 5 2 [] ["kind","names"] kE.nd rfl (DI.de (cX (dv 2))) (λ_ _ _ _ _=>(dG rfl (bR (dgc 0 2) (bR (dgc 1 2) dF)))) (λ_ _ _ _ _=>dU) (λ_ _ _ _ _=>(dvc 0)))
 (aI (iB fK rfl (cX (dv 0)) (dG rfl (bR (cz 3 6 kE.nd) (bR (cz 4 6 kE.nd) dF))) (aI (bM (bi i3 i0 (DE.db (dv 4)) (DE.db (dv 5))) (aI lQ) bK))))))
def Ai(W:Wd K mg a)(c:f9 K C=ac)(b:mg "BadName"=aa (.ref C)):Pk P w K mg base (CX1 P w) 2 "must_be_pairs" a.e_1 ["pairs","outer","kinds"] (spR ⟨K,a.cl⟩ ["pairs","outer","kinds"].length C r_1):=by
 refine W.e_1.pk (lS (r:=sx) W.e_1.F kE λ_ _ _ _ _ _ d=>?_);unfold sx;exact (kw (gx (cS (wF W) d (ai (DO.de (gT 2 [] ["variable","kind"] rfl (DI.de (cX (b6 cW (dv 1) (dv 0)))) (λ_ _ _ _ _=>(dG rfl (bR (dgc 0 2) (bR (dgc 1 2) dF)))) (λ_ _ _ _ _=>dU) (λ_ _ _ _ _=>(dvc 0)))) aq))) (jL (jg (Ah W c b) ku d (ar (DE.dx (DO.de (gT 2 [] ["variable","kind"] rfl (DI.de (cX (b6 cW (dv 1) (dv 0)))) (λ_ _ _ _ _=>(dG rfl (bR (dgc 0 2) (bR (dgc 1 2) dF)))) (λ_ _ _ _ _=>dU) (λ_ _ _ _ _=>(dvc 0))))) aD) jf))
 (kw (lG 5 2 [] ["kind","names"] kE.nd rfl (DI.de (cX (dv 2))) (λ_ _ _ _ _=>(dG rfl (bR (dgc 0 2) (bR (dgc 1 2) dF)))) (λ_ _ _ _ _=>dU) (λ_ _ _ _ _=>(dvc 0))) rV
 (eU (r9 qp rfl (cX (dv 0)) (dG rfl (bR (cz 3 6 kE.nd) (bR (cz 4 6 kE.nd) dF))) (aI (bM (bi i3 i0 (DE.db (dv 4)) (DE.db (dv 5))) (aI lQ) bK)) (eU (m9 (DT.dtx (bi i3 i0 (DE.db (dv 4)) (DE.db (dv 5)))) (eU (rX c rfl rS rfl b (ai (vC (lR (rP (dv 4) (lR (rP (dv 3) (lR vB)))))) aq))) rW))))))
def Aj(W:Wd K mg a):qD P w K mg base a 1 "is_made_of" a.e_32 ["word","signs","most"] sy:=by
 refine W.e_32.pk (fP (F:=wq) W.e_32.F Go λ_ _ _ _ _ _ b=>?_);unfold wq;exact(aI (gV (uR (Ey yB yC yB yC (DE.db am) (DE.db (cD cH cI rfl W.z_len cC (bX (DE.db (dv 0)) cn))) (DE.db (dv 2))) (qJ (cD (Ef rfl) Eg rfl W.z_all boot_all (bX (DE.db (DO.de (gT 1 [1] ["sign","signs"] rfl (DI.de (E5 (dv 0))) (λ_ _ _ _ _=>(dgc 0 1)) (λ_ _ _ _ _=>dU) (λ_ _ _ _ _=>(om E7 E6 (DE.db (dvc 0)) (DE.db (dvc 1))))))) cn))))))
def wG(W:Wd K mg a):qD P w K mg base a 2 "is_variable" a.e_22 ["word"] lY:=by
 refine W.e_22.pk (fP (F:=wt) W.e_22.F Gp λ_ _ _ _ _ _ b=>?_);have c:=b.units;unfold wt;exact(aI (gV (uR (cS (Aj W) b (ai (zE (dv 0) j4 (i4 am)) (ai (zD rfl W.g_GREAT) (ai am aq)))) (qJ (Dx (om (cp c) cy (DE.db (cD cH cI rfl W.z_len cC (bX (DE.db (dv 0)) cn))) (DE.db am)) (qJ (cS (Aj W) b (ai (zE (dv 0) (i4 am) j4) (ai (zD rfl W.g_SMALL) (ai am aq))))))))))
def Ak(W:Wd K mg a):qD P w K mg base a 3 "must_be_told" a.e_5 ["args","pairs"] m_5:=by
 refine W.e_5.pk (fP (F:=b_5) W.e_5.F nq λ_ _ _ _ _ _ b=>?_);unfold b_5;exact (aA (lG 2 2 [] ["variable","kind"] nq.nd rfl (DI.de (cX (dv 1))) (λ_ _ _ _ _=>(dG rfl (bR (dgc 0 2) (bR (dgc 1 2) dF)))) (λ_ _ _ _ _=>dU) (λ_ _ _ _ _=>(dvc 0)))
 (aI (iB fK rfl (cX (dv 0)) (cz 3 4 nq.nd) (aI (bM (DW.dt (jz (ix (DE.db (cS (wG W) b (ai (dv 3) aq)))) (jy (bi i3 i0 (DE.db (dv 3)) (DE.db (dv 2)))))) (aI lQ) bK)))))
def GA(W:Wd K mg a)(d:f9 K C=ac)(c:mg "BadName"=aa (.ref C)):Pk P w K mg base (CX1 P w) 3 "must_be_told" a.e_5 ["args","pairs"] (spR ⟨K,a.cl⟩ ["args","pairs"].length C r_5):=by
 refine W.e_5.pk (lS (r:=sA) W.e_5.F nq λ_ _ _ _ _ _ b=>?_);unfold sA;exact (kw (lG 2 2 [] ["variable","kind"] nq.nd rfl (DI.de (cX (dv 1))) (λ_ _ _ _ _=>(dG rfl (bR (dgc 0 2) (bR (dgc 1 2) dF)))) (λ_ _ _ _ _=>dU) (λ_ _ _ _ _=>(dvc 0))) rV
 (eU (r9 qp rfl (cX (dv 0)) (cz 3 4 nq.nd) (aI (bM (DW.dt (jz (ix (DE.db (cS (wG W) b (ai (dv 3) aq)))) (jy (bi i3 i0 (DE.db (dv 3)) (DE.db (dv 2)))))) (aI lQ) bK)) (eU (m9 (DT.dtx (DW.dt (jz (ix (DE.db (cS (wG W) b (ai (dv 3) aq)))) (jy (bi i3 i0 (DE.db (dv 3)) (DE.db (dv 2))))))) (eU (rX d rfl rS rfl c (ai (vC (lR (rP (dv 3) (lR vB)))) aq))) rW)))))
def Al(W:Wd K mg a):qD P w K mg base a 1 "args_of" a.e_23 ["items"] sB:=by
 refine W.e_23.pk (fP (F:=wu) W.e_23.F sj λ_ _ _ _ _ _ b=>?_);unfold wu;exact (aA (gU 1 sj.nd (aH aq))
 (aA (iB fK rfl (cX (dv 0)) (dG rfl (bR (cz 2 4 sj.nd) (bR (cz 3 4 sj.nd) dF))) (aI (DV (dR (eQ eO PySem.F.slot_list_extend PySem.F.type_list_extend Da (pv 1) (cj (DE.pe (bf (dvC 2) am)) dg))))))
 (aI (rf 1))))
def GB(W:Wd K mg a):qD P w K mg base a 2 "part_uses" a.e_34 ["part"] sC:=by
 refine W.e_34.pk (fP (F:=wv) W.e_34.F Gq λ_ _ _ _ _ _ b=>?_);have c:=b.units;unfold wv;exact (aA (bM (bi (cp c) cy (DE.db (bf (dvC 0) am)) (DE.db aE)) (aI (gV (bc (ai (DO.de (aH (ai (bf (dvC 0) am) (ai (bf (dvC 0) am) aq)))) (ai (DO.de (aH aq)) aq))))) bK)
 (aA (bM (bi oB oA (DE.db (bf (dvC 0) am)) (DE.db (bc (ai aE (ai aE aq))))) (aI (gV (bc (ai (cS (Al W) b (ai (bf (dvC 0) am) aq)) (ai (bf (dvC 0) am) aq))))) bK)
 (aI (gV (bc (ai (bf (DE.dc (bf (dvC 0) am)) am) (ai (DO.de (aH aq)) aq)))))))
def Am(W:Wd K mg a):qD P w K mg base a 3 "uses" a.e_31 ["row"] sD:=by
 refine W.e_31.pk (fP (F:=ww) W.e_31.F Ab λ_ _ _ _ _ _ b=>?_);have c:=b.units;unfold ww;exact (aA (yS 1 1 [] ["part"] Ab.nd rfl (DI.de (cX (bf (dvC 0) (iA am)))) (λ_ _ _ _ _=>(dgc 0 1)) (λ_ _ _ _ _=>dU) (λ_ _ _ _ _=>(cS (GB W) b (ai (dvc 0) aq))))
 (aA (bM (bi (cp c) cy (DE.db (bf (dvC 0) am)) (DE.db aE)) (aI (oE (dR (eQ eO gn gq gt (pv 1) (cj (DE.pe (bc (ai (cS (Al W) b (ai (bf (dvC 0) am) aq)) (ai (bf (dvC 0) am) aq)))) dg))))) (aI (bM (bi (qT c) qP (DE.db (bf (dvC 0) am)) (DE.db aE)) (aI (oE (dR (eQ eO gn gq gt (pv 1) (cj (DE.pe (bc (ai (bf (DE.dc (bf (dvC 0) am)) am) (ai (DO.de (aH aq)) aq)))) dg))))) bK)))
 (aI (rf 1))))
def An(W:Wd K mg a):qD P w K mg base a 4 "must_be_known" a.e_3 ["row","kinds"] m_3:=by
 refine W.e_3.pk (fP (F:=b_3) W.e_3.F nj λ_ _ _ _ _ _ b=>?_);unfold b_3;exact (aA (gx (cS (pJ W) b (ai (bf (dvC 0) (iA am)) (ai (DO.de (aH aq)) (ai (dv 1) aq)))))
 (aI (iB fK rfl (cX (cS (Am W) b (ai (dv 0) aq))) (dG rfl (bR (cz 2 4 nj.nd) (bR (cz 3 4 nj.nd) dF))) (aA (gx (cS (pJ W) b (ai (dv 3) (ai (bf (dvC 0) (iA am)) (ai (dv 1) aq)))))
 (aI (gx (cS (Ak W) b (ai (dv 2) (ai (b6 cW (bf (dvC 0) (iA am)) (dv 3)) aq)))))))))
def GC(W:Wd K mg a)(d:f9 K C=ac)(c:mg "BadName"=aa (.ref C)):Pk P w K mg base (CX1 P w) 4 "must_be_known" a.e_3 ["row","kinds"] (spR ⟨K,a.cl⟩ ["row","kinds"].length C r_3):=by
 refine W.e_3.pk (lS (r:=sE) W.e_3.F nj λ_ _ _ _ _ _ b=>?_);unfold sE;exact (kw (gx (cS (pJ W) b (ai (bf (dvC 0) (iA am)) (ai (DO.de (aH aq)) (ai (dv 1) aq))))) (jL (jg (Ai W d c) ku b (ar (DE.dx (bf (dvC 0) (iA am))) (ar (DE.dx (DO.de (aH aq))) (ar (DE.dx (dv 1)) aD))) jf))
 (eU (r9 qp rfl (cX (cS (Am W) b (ai (dv 0) aq))) (dG rfl (bR (cz 2 4 nj.nd) (bR (cz 3 4 nj.nd) dF))) (aA (gx (cS (pJ W) b (ai (dv 3) (ai (bf (dvC 0) (iA am)) (ai (dv 1) aq)))))
 (aI (gx (cS (Ak W) b (ai (dv 2) (ai (b6 cW (bf (dvC 0) (iA am)) (dv 3)) aq)))))) (kw (gx (cS (pJ W) b (ai (dv 3) (ai (bf (dvC 0) (iA am)) (ai (dv 1) aq))))) (jL (jg (Ai W d c) ku b (ar (DE.dx (dv 3)) (ar (DE.dx (bf (dvC 0) (iA am))) (ar (DE.dx (dv 1)) aD))) jf))
 (eU (jL (jg (GA W d c) ku b (ar (DE.dx (dv 2)) (ar (DE.dx (b6 cW (bf (dvC 0) (iA am)) (dv 3))) aD)) jf)))))))
def Ao(W:Wd K mg a):qD P w K mg base a 2 "must_be_new" a.e_6 ["row","kinds"] m_6:=by
 refine W.e_6.pk (fP (F:=b_6) W.e_6.F si λ_ _ _ _ _ _ b=>?_);unfold b_6;exact (aA (fY 2 si.nd (bf (dvC 0) am))
 (aA (bM (bi oB oA (DE.db (dv 2)) (DE.db (DO.de (gT 2 [] ["kind","names"] rfl (DI.de (cX (dv 1))) (λ_ _ _ _ _=>(dG rfl (bR (dgc 0 2) (bR (dgc 1 2) dF)))) (λ_ _ _ _ _=>dU) (λ_ _ _ _ _=>(dvc 0)))))) (aI lQ) bK)
 (aI (gx (cS (wF W) b (ai (bf (dvC 0) am) aq))))))
def GD(W:Wd K mg a)(c:f9 K C=ac)(b:mg "BadName"=aa (.ref C)):Pk P w K mg base (CX1 P w) 2 "must_be_new" a.e_6 ["row","kinds"] (spR ⟨K,a.cl⟩ ["row","kinds"].length C r_6):=by
 refine W.e_6.pk (lS (r:=sF) W.e_6.F si λ_ _ _ _ _ _ d=>?_);unfold sF;exact (kw (fY 2 si.nd (bf (dvC 0) am)) rV
 (kw (bM (bi oB oA (DE.db (dv 2)) (DE.db (DO.de (gT 2 [] ["kind","names"] rfl (DI.de (cX (dv 1))) (λ_ _ _ _ _=>(dG rfl (bR (dgc 0 2) (bR (dgc 1 2) dF)))) (λ_ _ _ _ _=>dU) (λ_ _ _ _ _=>(dvc 0)))))) (aI lQ) bK) (m9 (DT.dtx (bi oB oA (DE.db (dv 2)) (DE.db (DO.de (gT 2 [] ["kind","names"] rfl (DI.de (cX (dv 1))) (λ_ _ _ _ _=>(dG rfl (bR (dgc 0 2) (bR (dgc 1 2) dF)))) (λ_ _ _ _ _=>dU) (λ_ _ _ _ _=>(dvc 0))))))) (eU (rX c rfl rS rfl b (ai (vC (lR (rP (dv 2) (lR vB)))) aq))) rW)
 (eU (jL (jg (Ah W c b) ku d (ar (DE.dx (bf (dvC 0) am)) aD) jf)))))
def Ap(W:Wd K mg a):Pk P w K mg base CX0 5 "kinds_of" a.e_2 ["rows"] (spT ⟨K,a.cl⟩ ["rows"].length nz):=by
 refine W.e_2.pk (EH (F:=b_2) W.e_2.F ni λ_ _ _ _ _ _ b=>?_);have c:=b.units;unfold b_2;exact (aA (vn 1 ni.nd (rH (aH aq)))
 (aA (iB fK rfl (cX (dv 0)) (cz 2 3 ni.nd) (aI (bM (bi (cp c) cy (DE.db (bf (dvC 2) am)) (DE.db aE)) (aA (gx (rp (Ao W) b (bX (DE.db (dv 2)) (bX (dvB 1) cn))))
 (aI (vo (dR (eQ eO gn gq gt (pv 1) (cj (zl (zk (bf (dvC 2) am) (zj (rH (qU mo rfl W.z_list (DE.dc (bf (dvC 2) am))))))) dg)))))) (aI (gx (rp (An W) b (bX (DE.db (dv 2)) (bX (dvB 1) cn))))))))
 (aI (EI (EG 1)))))
def Aq(W:Wd K mg a)(d:f9 K C=ac)(c:mg "BadName"=aa (.ref C)):Pk P w K mg base (CX1 P w) 5 "kinds_of" a.e_2 ["rows"] (spR ⟨K,a.cl⟩ ["rows"].length C r_2):=by
 refine W.e_2.pk (lS (r:=sG) W.e_2.F ni λ_ _ _ _ _ _ b=>?_);have e:=b.units;unfold sG;exact (kw (vn 1 ni.nd (rH (aH aq))) rV
 (eU (r9 qp rfl (cX (dv 0)) (cz 2 3 ni.nd) (aI (bM (bi (cp e) cy (DE.db (bf (dvC 2) am)) (DE.db aE)) (aA (gx (rp (Ao W) b (bX (DE.db (dv 2)) (bX (dvB 1) cn))))
 (aI (vo (dR (eQ eO gn gq gt (pv 1) (cj (zl (zk (bf (dvC 2) am) (zj (rH (qU mo rfl W.z_list (DE.dc (bf (dvC 2) am))))))) dg)))))) (aI (gx (rp (An W) b (bX (DE.db (dv 2)) (bX (dvB 1) cn))))))) (eU (m9 (DT.dtx (bi (cp e) cy (DE.db (bf (dvC 2) am)) (DE.db aE))) (eU (z7 (jL (jg (GD W d c) ku b (ar (DE.dx (dv 2)) (ar (DE.dx (dv 1)) aD)) jf)))) (eU (z7 (jL (jg (GC W d c) ku b (ar (DE.dx (dv 2)) (ar (DE.dx (dv 1)) aD)) jf)))))))))
def GE(W:Wd K mg a)(c:f9 K C=ac)(b:mg "BadName"=aa (.ref C)):Pk P w K mg base (CX1 P w) 6 "plain_of" a.e_28 ["rows"] (spR ⟨K,a.cl⟩ ["rows"].length C sH):=by
 refine W.e_28.pk (lS (r:=pj) W.e_28.F Ac λ_ _ _ _ _ _ d=>?_);unfold pj;exact(eU (Fu 1 Ac.nd (Gd rfl W.e_35.g W.e_35.F.kp (Ft (DE.dx (dv 0)) Fs (FR (jg (Aq W c b) ku d (ar (DE.dx (dv 0)) aD) jf))))))
def As(W:Wd K mg a):qD P w K mg base a 7 "_law_refused" a.e_27 ["_law_rows_here","_law_by_kinds"] sJ:=by
 refine W.e_27.pk (fP (F:=sI) W.e_27.F wg λ_ _ _ _ _ _ b=>?_);have d:=b.units;unfold sI;exact (aA (fY 2 wg.nd (DO.de (aH aq)))
 (aA (FQ (λE pn xe c=>(m9 (DT.dtx (ix (DE.db (dv 1)))) (eU (jL (jg (Aq W W.x_BadName W.g_BadName) c b (ar (DE.dx (dv 0)) aD) jf))) (eU (jL (jg (GE W W.x_BadName W.g_BadName) c b (ar (DE.dx (dv 0)) aD) jf))))) (λ_=>(vI (FL W.ec_BadName rfl W.z_isinstance (pv 3) rfl W.g_BadName W.ke_BadName) (vI (FM W.ec_BadName rfl W.z_isinstance (pv 3) rfl W.z_ValueError FS W.kv_ValueError) (vI (by refine FN W.ec_BadName ?_ W.z_isinstance (pv 3) ?_ W.g_NoRow ?_ W.g_Wide ?_ W.g_NoThing W.km_NoRow_Wide_NoThing <;> rfl) FK)))) rfl rfl rfl W.x_BadName W.x_StillError (FT W.mr_StillError) rfl W.g_StillError wg.nd rfl rfl rfl (by first | exact bS rfl | exact bp rfl) (by first | exact bS rfl | exact bp rfl) (by first | exact bS rfl | exact bp rfl) (by first | exact bS rfl | exact bp rfl) (λ_=>rfl) (by decide) (by decide))
 (aI (gV (om (cp d) cy (DE.db (dv 2)) (DE.db (DO.de (aH (ai iw (ai iw (ai iw aq)))))))))))
def At(W:Wd K mg a):qD P w K mg base a 1 "_law_right" a.e_30 ["_law_found","_law_due_here"] sK:=by
 refine W.e_30.pk (fP (F:=wx) W.e_30.F wj λ_ _ _ _ _ _ c=>?_);have b:=c.units;unfold wx;exact (aA (bM (DW.dt (mJ (lz (ix (DE.db (qV (T:="list") W.is_list rfl W.z_isinstance mo rfl W.z_list (DE.db (dv 0)))))) (on (bi (qT b) qP (DE.db (cD cH cI rfl W.z_len cC (bX (DE.db (dv 0)) cn))) (DE.db (cD cH cI rfl W.z_len cC (bX (DE.db (dv 1)) cn))))))) (aI (gV iw)) bK)
 (aA (iB fK rfl (DK rfl W.z_zip (ai (dv 0) (ai (dv 1) aq))) (dG rfl (bR (cz 2 4 wj.nd) (bR (cz 3 4 wj.nd) dF))) (aA (bM (DW.dt (mJ (lz (ix (DE.db (qV (T:="tuple") W.is_tuple rfl W.z_isinstance boot_tuple rfl W.z_tuple (DE.db (dv 2)))))) (mJ (bi (qT b) qP (DE.db (cD cH cI rfl W.z_len cC (bX (DE.db (dv 2)) cn))) (DE.db am)) (on (lz (ix (DE.db (qV (T:="str") W.is_str rfl W.z_isinstance boot_str rfl W.z_str (DE.db (bf (dvC 2) am)))))))))) (aI (gV iw)) bK)
 (aI (bM (DW.dt (mJ (lz (ix (DE.db (qV (T:="list") W.is_list rfl W.z_isinstance mo rfl W.z_list (DE.db (bf (dvC 2) am)))))) (on (bi (qT b) qP (DE.db (dv 2)) (DE.db (dv 3)))))) (aI (gV iw)) bK))))
 (aI (gV iw))))
def GF(W:Wd K mg a):qM P w K mg base a 4 "_law_lay" a.e_12 ["_law_state"] 0 wy:=by
 refine W.e_12.pk (fD (F:=pq) W.e_12.F jO λ_ _ _ _ _ _ b=>?_);unfold pq;exact (aA (gU 1 jO.nd (aH aq))
 (aA (rB fK rfl (oV rfl W.z_range (ar (f7 cW (DE.dx am) (aT (bB W) b (aS 0 (ar (DE.dx am) aD)))) aD)) (cz 2 7 jO.nd) (aA (cr 3 jO.nd (aT (sN W) b (aS 0 aD)))
 (aI (bM (bi i3 i0 (DE.db (dv 3)) (dvB 1)) (aI (oE (dR (eQ eO gn gq gt (pv 1) (cj (DE.pe (dv 3)) dg))))) bK))))
 (aA (Fk 4 1 [0] 0 0 ["_law_most","_law_state"] jO.nd rfl (zd (DE.dx (DO.de (aH (ai am (ai am (ai am (ai am aq)))))))) (λ_ _ _ _ _=>(dgc 0 1)) (λ_ _ _ _ _=>(eL (ar (aT (sN W) b (rQ 1 aD)) (ar (vw (ze rfl) (glc rfl) W.z_min boot_min (ar (DE.dx (dvc 0)) (ar (aT (bB W) b (rQ 1 (ar (DE.dx am) aD))) aD))) aD)))))
 (aA (gU 5 jO.nd (aH aq))
 (aA (rB fK rfl (oV rfl W.z_range (ar (aT (bB W) b (aS 0 (ar (DE.dx am) aD))) aD)) (cz 2 7 jO.nd) (aA (cr 3 jO.nd (aT (sN W) b (aS 0 aD)))
 (aA (iC 1 (Gn 6 1 [0] 0 0 ["_law_place","_law_state"] jO.nd rfl (zd (DE.dx (dv 1))) (λ_ _ _ _ _=>(dgc 0 1)) (λ_ _ _ _ _=>(m5 hJ (aT (bB W) b (rQ 1 (ar (DE.dx am) aD))) (DE.dx am))) (λ_ _ _ _ _=>(DE.dx (dvc 0)))))
 (aI (bM (DW.dt (jz (bi hJ iZ (DE.db (cD cH cI rfl W.z_len cC (bX (DE.db (dv 6)) cn))) (DE.db am)) (jy (bi i3 i0 (DE.db (dv 3)) (DE.db (DO.de (gT 1 [] ["_law_kind"] rfl (uZ 5) (λ_ _ _ _ _=>(dgc 0 1)) (λ_ _ _ _ _=>dU) (λ_ _ _ _ _=>(bf (j9 0) am))))))))) (aI (oS (dR (eQ eO gn gq gt (pv 5) (cj (DX.pe (eL (ar (DE.dx (dv 3)) (ar (Gb (DE.dx (dv 6)) (f7 jA (DE.dx am) (f7 mU (DE.dx am) (aT (bB W) b (aS 0 (ar (DE.dx am) aD)))))) aD)))) dg))))) bK)))))
 (aI (iC 5 (iC 1 (cA (bc (ai (dv 4) (ai (dv 1) (ai (dv 5) aq)))))))))))))
def sO(W:Wd K mg a):qM P w K mg base a 2 "_law_number" a.e_11 ["_law_state"] 0 lZ:=by
 refine W.e_11.pk (fD (F:=px) W.e_11.F Ae λ_ _ _ _ _ _ b=>?_);have c:=b.units;unfold px;exact (aA (cr 1 Ae.nd (f7 jA (aT (bB W) b (aS 0 (ar (DE.dx am) aD))) (DE.dx am)))
 (aA (oU (m5 (cp c) (aT (bB W) b (aS 0 (ar (DE.dx am) aD))) (DE.dx am)) (aI (gW (f7 cW (DE.dx (b6 mU (dv 1) (b6 ow am am))) (aT (bB W) b (aS 0 (ar (DE.dx (b6 ow am am)) aD)))))) bK)
 (aI (cA (dv 1)))))
def Au(W:Wd K mg a):qM P w K mg base a 4 "_law_pairs" a.e_20 ["_law_state","_law_kinds","_law_taken","_law_most"] 0 sL:=by
 refine W.e_20.pk (fD (F:=py) W.e_20.F sm λ_ _ _ _ _ _ b=>?_);unfold py;exact (aA (gU 4 sm.nd (aH aq))
 (aA (rB fK rfl (oV rfl W.z_range (ar (f7 mU (vw (ze rfl) rfl W.z_min boot_min (ar (DE.dx (dv 3)) (ar (f7 cW (f7 yA (aT (bB W) b (aS 0 (ar (DE.dx am) aD))) (DE.dx am)) (aT (bB W) b (aS 0 (ar (DE.dx am) aD)))) aD))) (DE.dx (ET rfl W.z_int (om hJ iZ (DE.db (cD cH cI rfl W.z_len cC (bX (DE.db (dv 1)) cn))) (DE.db am))))) aD)) (cz 5 7 sm.nd) (aA (cr 6 sm.nd (aT (wD W) b (aS 0 aD)))
 (aI (bM (bi i3 i0 (DE.db (dv 6)) (DE.db (DO.de (vd (dv 2) (DO.de (gT 1 [] ["_law_pair"] rfl (uZ 4) (λ_ _ _ _ _=>(dgc 0 1)) (λ_ _ _ _ _=>dU) (λ_ _ _ _ _=>(bf (j9 0) am)))))))) (aI (oS (dR (eQ eO gn gq gt (pv 4) (cj (DX.pe (eL (ar (DE.dx (dv 6)) (ar (dO (dO (DE.dx (dv 1)) (aT (bB W) b (aS 0 (ar (DE.dx (cD cH cI rfl W.z_len cC (bX (DE.db (dv 1)) cn))) aD)))) (DE.dx am)) aD)))) dg))))) bK))))
 (aI (iC 4 (cA (dv 4))))))
def sP(W:Wd K mg a):qM P w K mg base a 2 "_law_thing" a.e_9 ["_law_state","_law_lay_here","_law_known"] 0 m_9:=by
 refine W.e_9.pk (fD (F:=b_9) W.e_9.F o7 λ_ _ _ _ _ _ b=>?_);unfold b_9;exact (aA (vL (dO (DE.dx (bf (dvC 1) am)) (aT (bB W) b (aS 0 (ar (DE.dx am) aD)))) (dG rfl (bR (cz 3 7 o7.nd) (bR (cz 4 7 o7.nd) dF))))
 (aA (gU 5 o7.nd (aH aq))
 (aA (iB fK rfl (qY rfl W.z_range (ai (dv 4) aq)) (cz 6 7 o7.nd) (aI (oU (DWX.dtx (zA (DT.dtx (bi hJ iZ (DE.db (cD cH cI rfl W.z_len cC (bX (DE.db (dv 2)) cn))) (DE.db am))) (zy (m5 hJ (aT (bB W) b (aS 0 (ar (DE.dx am) aD))) (DE.dx am))))) (aI (oS (dR (eQ eO gn gq gt (pv 5) (cj (DX.pe (dO (DE.dx (dv 2)) (aT (bB W) b (aS 0 (ar (DE.dx (cD cH cI rfl W.z_len cC (bX (DE.db (dv 2)) cn))) aD))))) dg))))) (aI (oS (dR (eQ eO gn gq gt (pv 5) (cj (DX.pe (dO (DE.dx (bf (dvC 1) am)) (aT (bB W) b (aS 0 (ar (DE.dx (cD cH cI rfl W.z_len cC (bX (DE.db (bf (dvC 1) am)) cn))) aD))))) dg))))))))
 (aI (iC 5 (cA (bc (ai (dv 3) (ai (dv 5) aq)))))))))
def Av(W:Wd K mg a):qM P w K mg base a 5 "_law_items" a.e_13 ["_law_state","_law_lay_here","_law_known","_law_kinds","_law_many"] 0 pB:=by
 refine W.e_13.pk (fD (F:=pz) W.e_13.F nu λ_ _ _ _ _ _ b=>?_);unfold pz;exact (aA (cr 5 nu.nd (aT (Au W) b (aS 0 (ar (DE.dx (dv 3)) (ar (DE.dx (dv 2)) (ar (DE.dx am) aD))))))
 (aA (fY 6 nu.nd (DO.de (vd (dv 2) (DO.de (gT 1 [] ["_law_pair"] rfl (DI.de (cX (dv 5))) (λ_ _ _ _ _=>(dgc 0 1)) (λ_ _ _ _ _=>dU) (λ_ _ _ _ _=>(bf (j9 0) am)))))))
 (aA (gU 7 nu.nd (aH aq))
 (aA (rB fK rfl (oV rfl W.z_range (ar (f7 cW (DE.dx am) (aT (bB W) b (aS 0 (ar (DE.dx (dv 4)) aD)))) aD)) (cz 8 10 nu.nd) (aA (cr 9 nu.nd (dO (oQ (ar (DE.dx am) (ar (vw Fe rfl W.z_abs boot_abs (ar (aT (sO W) b (aS 0 aD)) aD)) aD))) (aT (bB W) b (aS 0 (ar (DE.dx am) aD)))))
 (aI (oS (dR (eQ eO gn gq gt (pv 7) (cj (DX.pe (eL (ar (aT (sP W) b (aS 0 (ar (DE.dx (dv 1)) (ar (DE.dx (dv 6)) aD)))) (ar (DE.dx (dv 9)) aD)))) dg)))))))
 (aI (iC 7 (cA (bc (ai (dv 7) (ai (dv 5) aq))))))))))
def GG(W:Wd K mg a):qM P w K mg base a 6 "_law_part" a.e_14 ["_law_state","_law_lay_here","_law_known","_law_kinds"] 0 pG:=by
 refine W.e_14.pk (fD (F:=pE) W.e_14.F lW λ_ _ _ _ _ _ b=>?_);have c:=b.units;unfold pE;exact (aA (cr 4 lW.nd (aT (bB W) b (aS 0 (ar (DE.dx am) aD))))
 (aA (bM (DW.dt (jz (bi (cp c) cy (DE.db (dv 4)) (DE.db am)) (jy (bi hJ iZ (DE.db (cD cH cI rfl W.z_len cC (bX (DE.db (dv 2)) cn))) (DE.db am))))) (aA (cr 5 lW.nd (dO (DE.dx (dv 2)) (aT (bB W) b (aS 0 (ar (DE.dx (cD cH cI rfl W.z_len cC (bX (DE.db (dv 2)) cn))) aD)))))
 (aA (fY 6 lW.nd (b6 cW (dv 2) (bf (dvC 1) am)))
 (aA (cr 7 lW.nd (dO (DE.dx (dv 6)) (aT (bB W) b (aS 0 (ar (DE.dx (cD cH cI rfl W.z_len cC (bX (DE.db (dv 6)) cn))) aD)))))
 (aA (oU (m5 (cp c) (aT (bB W) b (aS 0 (ar (DE.dx am) aD))) (DE.dx am)) (aI (cA (bc (ai aE (ai (dv 7) (ai (dv 5) aq)))))) bK)
 (aI (cA (bc (ai aE (ai (dv 5) (ai (dv 7) aq)))))))))) bK)
 (aA (bM (bi ox oy (DE.db (dv 4)) (DE.db am)) (aA (vL (aT (Av W) b (aS 0 (ar (DE.dx (dv 1)) (ar (DE.dx (dv 2)) (ar (DE.dx (dv 3)) (ar (DE.dx am) aD)))))) (dG rfl (bR (cz 8 10 lW.nd) (bR (cz 9 10 lW.nd) dF))))
 (aI (gW (eL (ar (DE.dx (bf (DO.dc (aH (ai aE (ai aE aq)))) (b6 jZ (dv 4) am))) (ar (aT (sO W) b (aS 0 aD)) (ar (DE.dx (dv 8)) (ar (DE.dx (dv 9)) aD)))))))) bK)
 (aI (gW (eL (ar (DE.dx (bf (DO.dc (aH (ai aE (ai aE (ai aE aq))))) (b6 jA (dv 4) am))) (ar (aT (sP W) b (aS 0 (ar (DE.dx (dv 1)) (ar (DE.dx (dv 2)) aD)))) aD))))))))
def GH(W:Wd K mg a):qM P w K mg base a 7 "_law_body" a.e_33 ["_law_state","_law_lay_here","_law_known","_law_kinds"] 0 wz:=by
 refine W.e_33.pk (fD (F:=pH) W.e_33.F Gs λ_ _ _ _ _ _ b=>?_);unfold pH;exact(aI (gW (Fd 1 [0,1,2,3] 0 0 ["_law_k","_law_state","_law_lay_here","_law_known","_law_kinds"] rfl (oV rfl W.z_range (ar (aT (bB W) b (aS 0 (ar (DE.dx am) aD))) aD)) (λ_ _ _ _ _=>(dgc 0 1)) (λ_ _ _ _ _=>(aT (GG W) b (rQ 1 (ar (DE.dx (dvc 2)) (ar (DE.dx (dvc 3)) (ar (DE.dx (dvc 4)) aD)))))))))
def GI(W:Wd K mg a):qM P w K mg base a 8 "_law_row" a.e_18 ["_law_state","_law_lay_here","_law_kinds"] 0 wA:=by
 refine W.e_18.pk (fD (F:=pI) W.e_18.F lX λ_ _ _ _ _ _ b=>?_);have c:=b.units;unfold pI;exact (aA (cr 3 lX.nd (aT (Au W) b (aS 0 (ar (DE.dx (dv 2)) (ar (DE.dx (DO.de (aH aq))) (ar (DE.dx am) aD))))))
 (aA (lG 4 1 [] ["_law_pair"] lX.nd rfl (DI.de (cX (dv 3))) (λ_ _ _ _ _=>(dgc 0 1)) (λ_ _ _ _ _=>dU) (λ_ _ _ _ _=>(bf (j9 0) am)))
 (aA (cr 5 lX.nd (aT (GH W) b (aS 0 (ar (DE.dx (dv 1)) (ar (DE.dx (dv 4)) (ar (DE.dx (dv 2)) aD))))))
 (aA (cr 6 lX.nd (aT (bB W) b (aS 0 (ar (DE.dx am) aD))))
 (aA (bM (bi (cp c) cy (DE.db (dv 6)) (DE.db am)) (aI (gW (eL (ar (DE.dx aE) (ar (f7 cW (DE.dx (dv 5)) (oQ (ar (eL (ar (DE.dx aE) (ar (aT (sP W) b (aS 0 (ar (DE.dx (dv 1)) (ar (DE.dx (dv 4)) aD)))) aD))) aD))) (ar (DE.dx (dv 3)) aD)))))) bK)
 (aA (bM (bi (cp c) cy (DE.db (dv 6)) (DE.db am)) (aA (vL (aT (Av W) b (aS 0 (ar (DE.dx (dv 1)) (ar (DE.dx (dv 4)) (ar (DE.dx (dv 2)) (ar (DE.dx am) aD)))))) (dG rfl (bR (cz 7 9 lX.nd) (bR (cz 8 9 lX.nd) dF))))
 (aI (gW (eL (ar (DE.dx aE) (ar (aT (sO W) b (aS 0 aD)) (ar (aT (sO W) b (aS 0 aD)) (ar (DE.dx (dv 7)) (ar (DE.dx (dv 8)) (ar (DE.dx (dv 5)) (ar (DE.dx (dv 3)) aD))))))))))) bK)
 (aI (gW (eL (ar (DE.dx (bf (DO.dc (aH (ai aE (ai aE aq)))) (b6 jA (dv 6) am))) (ar (aT (sP W) b (aS 0 (ar (DE.dx (dv 1)) (ar (DE.dx (dv 4)) aD)))) (ar (DE.dx (dv 5)) (ar (DE.dx (dv 3)) aD)))))))))))))
def wH(W:Wd K mg a):qD P w K mg base a 9 "_law_rows" a.e_10 ["_law_seeds_here"] nA:=by
 refine W.e_10.pk (fP (F:=wB) W.e_10.F jP λ_ _ _ _ _ _ d=>?_);have e:=d.units;unfold wB;exact (aA (gU 1 jP.nd (aH (ai (bf (dvC 0) am) aq)))
 (aA (cr 2 jP.nd (rK (GF W) d (aS 1 aD)))
 (aA (cr 3 jP.nd (rK (bB W) d (aS 1 (ar (DE.dx am) aD))))
 (aA (gU 4 jP.nd (aH aq))
 (aA (iB fK rfl (qY rfl W.z_range (ai (b6 jA (cD cH cI rfl W.z_len cC (bX (DE.db (dv 0)) cn)) am) aq)) (cz 5 9 jP.nd) (aA (fY 6 jP.nd (cD cH cI rfl W.z_len cC (bX (DE.db (DO.de (gT 1 [] ["_law_row_here"] rfl (uZ 4) (λ_ _ _ _ _=>(dgc 0 1)) (λ_ _ _ _ _=>(u5 (bi (cp e) cy (DE.db (bf (j9 0) am)) (DE.db aE)))) (λ_ _ _ _ _=>(dvc 0))))) cn)))
 (aA (iB fK rfl (cX (DO.de (by refine lD ?a ?b ?c; (case a=>exact (bf (dvC 2) am)); (case b=>exact (i4 (dv 6))); (case c=>exact (i4 (b6 cW (dv 3) (dv 5))))))) (dG rfl (bR (cz 7 9 jP.nd) (bR (cz 8 9 jP.nd) dF))) (aI (oE (dR (eQ eO gn gq gt (pv 4) (cj (DE.pe (bc (ai aE (ai (dv 7) (ai (DO.de (qU mo rfl W.z_list (dvC 8))) aq))))) dg))))))
 (aI (oE (dR (eQ eO gn gq gt (pv 4) (cj (DE.pe (Gj (GI W) d (ai (bf (dvC 0) (b6 cW (dv 5) am)) aq) (ai (dv 2) (ai (DO.de (by refine lD ?a ?b ?c;(case a=>exact(bf (dvC 2) am));(case b=>exact j4);(case c=>exact(i4 (b6 cW (dv 3) (dv 5)))))) aq)))) dg))))))))
 (aI (rf 4)))))))
def GJ(W:Wd K mg a):qD P w K mg base a 1 "_law_seeds" a.e_24 ["_law_script","_law_many"] wC:=by
 refine W.e_24.pk (fP (F:=sM) W.e_24.F o5 λ_ _ _ _ _ _ b=>?_);unfold sM;exact (aA (yS 2 1 [] ["_law_k"] o5.nd rfl (DI.de (qY rfl W.z_range (ai (dv 1) aq))) (λ_ _ _ _ _=>(dgc 0 1)) (λ_ _ _ _ _=>dU) (λ_ _ _ _ _=>(b6 cW (b6 mU (dvc 0) am) am)))
 (aA (iB fK rfl (Ek rfl W.z_enumerate (ai (dv 0) aq)) (dG rfl (bR (cz 3 6 o5.nd) (bR (cz 4 6 o5.nd) dF))) (aA (fY 5 o5.nd (b6 cW (b6 mU (bf (dvC 2) (b6 jZ (dv 3) (dv 1))) am) (b6 jZ (dv 4) (b6 ow am am))))
 (aI (Em (pv 2) (b6 jZ (dv 3) (dv 1)) (b6 jZ (b6 cW (dv 5) (dv 3)) (b6 jA (b6 ow am am) am))))))
 (aI (rf 2))))
def GK(W:Wd K mg a):qD P w K mg base a 10 "law" a.e_7 ["_law_script"] m_7:=by
 refine W.e_7.pk (fP (F:=b_7) W.e_7.F gA λ_ _ _ _ _ _ d=>?_);have e:=d.units;unfold b_7;exact (aA (fY 1 gA.nd am)
 (aA (bM (bi hJ iZ (DE.db (cD cH cI rfl W.z_len cC (bX (DE.db (dv 0)) cn))) (DE.db am)) (aI (fY 1 gA.nd (b6 jZ (bf (dvC 0) am) am))) bK)
 (aA (fY 2 gA.nd (cS (GJ W) d (ai (dv 0) (ai (b6 cW (dv 1) am) aq))))
 (aA (fY 3 gA.nd (cS (wH W) d (ai (DO.de (by refine lD ?a ?b ?c; (case a=>exact (dv 2)); (case b=>exact (i4 am)); (case c=>exact j4))) aq)))
 (aA (fY 4 gA.nd (cS (wE W) d (ai (cS (wH W) d (ai (DO.de (by refine lD ?a ?b ?c; (case a=>exact (dv 2)); (case b=>exact (i4 am)); (case c=>exact j4))) aq)) aq)))
 (aA (vn 5 gA.nd (zn (Ap W) d (ai (dv 3) aq)))
 (aA (bM (lz (ix (DE.db (yU (At W) d (bX (dvB 5) (bX (DE.db (dv 4)) cn)))))) (aI (gV iw)) bK)
 (aA (gU 6 gA.nd (aH (ai (bf (dvC 2) am) aq)))
 (aA (cr 7 gA.nd (rK (bB W) d (aS 6 (ar (DE.dx (b6 cW (cD cH cI rfl W.z_len cC (bX (DE.db (dv 3)) cn)) am)) aD))))
 (aA (lG 10 2 [] ["_law_name_here","_law_names"] gA.nd rfl (DI.de (cX (cS (wE W) d (ai (DO.de (by refine lD ?a ?b ?c; (case a=>exact (dv 3)); (case b=>exact j4); (case c=>exact (i4 (dv 7))))) aq)))) (λ_ _ _ _ _=>(dG rfl (bR (dgc 0 2) (bR (dgc 1 2) dF)))) (λ_ _ _ _ _=>dU) (λ_ _ _ _ _=>(dvc 0)))
 (aA (lG 11 2 [] ["_law_name_here","_law_names"] gA.nd rfl (DI.de (cX (cS (wE W) d (ai (DO.de (by refine lD ?a ?b ?c; (case a=>exact (dv 3)); (case b=>exact (i4 (dv 7))); (case c=>exact j4))) aq)))) (λ_ _ _ _ _=>(dG rfl (bR (dgc 0 2) (bR (dgc 1 2) dF)))) (λ_ _ _ _ _=>dU) (λ_ _ _ _ _=>(dvc 0)))
 (aA (gU 12 gA.nd (qU mo rfl W.z_list (dvC 3)))
 (aA (r6 (dR (eQ eO qj qk rZ (pv 12) (DAX.pa (ar (DE.dx (dv 7)) (ar (rK (Gz W) d (aS 6 (ar (DE.dx (dv 10)) (ar (DE.dx (dv 11)) aD)))) aD))))))
 (aA (iC 12 (bM (DW.dt (mJ (lz (ix (DE.db (cS (As W) d (ai (dv 12) (ai iw aq)))))) (on (lz (ix (DE.db (cS (As W) d (ai (dv 12) (ai iw aq))))))))) (aI (gV iw)) bK))
 (aA (F6 (i:=5) (kk:=ae) [8,9] fK rfl (pv 5) (xF rfl (uj (qr gA.nd (i:=8) rfl (by first | exact bS rfl | exact bp rfl)) (uj (qr gA.nd (i:=9) rfl (by first | exact bS rfl | exact bp rfl)) xD))) (aI (vo (dR (eQ eO gn gq gt (pv 9) (cj (EE aE) dg))))))
 (aA (F7 (dR (eQ eO gn gq gt (pv 5) (cj (DE.pe (bc (ai aE (ai (DO.de (aH aq)) aq)))) dg))))
 (aI (gV (uR (yU (At W) d (bX (DZ.db (zn (Ap W) d (ai (dv 3) aq))) (bX (DE.db (dv 4)) cn))) (qJ (om (cp e) cy (DE.db (dv 3)) (DE.db (cS (wH W) d (ai (DO.de (by refine lD ?a ?b ?c;(case a=>exact(dv 2));(case b=>exact(i4 am));(case c=>exact j4))) aq))))))))))))))))))))))))
local macro_rules | `(tactic| walk_at "evS")=>`(tactic| first | decide | lia | assumption | exact ⟨by decide,by decide⟩ | exact ⟨by lia,by lia⟩ | exact .inl ⟨by decide,by decide⟩ | exact .inr ⟨by decide,by decide⟩ | exact .inl ⟨by lia,by lia⟩ | exact .inr ⟨by lia,by lia⟩ | exact ⟨by decide,by decide,by decide⟩)
local macro_rules | `(tactic| walk_at "evO")=>`(tactic| first | with_reducible exact gy | with_reducible exact iH | with_reducible exact oJ | with_reducible exact kf | with_reducible exact vg | with_reducible exact dGe_eq | with_reducible exact cY _ _ | with_reducible exact yW _ _ | ((with_reducible apply ke); (focus walk_at "evS")) | ((with_reducible apply vf); (focus walk_at "evS")) | ((with_reducible apply dMul_eq); (focus walk_at "evS")) | ((with_reducible apply lM); (focus first | assumption | exact .inl (by walk_at "evS") | exact .inr ⟨by lia,by lia⟩)) | ((with_reducible apply rm); (focus walk_at "evS")) | ((with_reducible apply dShr_eq); (focus walk_at "evS")) | with_reducible exact dEq_str _ _ | with_reducible exact dNe_str _ _ | with_reducible exact dEq_bl _ _ | with_reducible exact dAndB_eq | exact dEq_nil _ _ | exact dNe_nil _ _ | assumption | rfl)
local macro_rules | `(tactic| walk_at "ev")=>`(tactic| first
 | with_reducible assumption
 | ((with_reducible apply aF); (focus walk_at "ev"); (focus walk_at "ev"); (focus walk_at "evO"))
 | ((with_reducible apply aV); (focus walk_at "ev"))
 | ((with_reducible apply iD); (focus walk_at "ev"); (focus first | assumption | rfl))
 | ((with_reducible apply jF); (focus walk_at "ev"); (focus walk_at "ev"))
 | ((with_reducible apply lH); (focus walk_at "ev"); (focus walk_at "ev"))
 | ((with_reducible apply ka); (focus walk_at "ev"))
 | ((with_reducible apply rh); (focus walk_at "ev"); (focus walk_at "ev"))
 | ((with_reducible apply yX); (focus walk_at "ev"); (focus walk_at "ev"))
 | ((with_reducible apply vNot_eq); (focus walk_at "ev"))
 | ((with_reducible apply aj); (focus walk_at "ev"); (focus walk_at "ev"))
 | ((with_reducible apply bI); (focus walk_at "ev"))
 | ((with_reducible apply bn); (focus walk_at "ev"))
 | ((with_reducible apply bx); (focus walk_at "ev"); (focus first | with_reducible assumption | with_reducible exact c9 _ _ | assumption | exact c9 _ _ | exact y9 _ _ | rfl))
 | ((with_reducible apply ve); (focus walk_at "ev"); (focus assumption); (focus rfl))
 | ((with_reducible apply aZ); (focus walk_at "ev"); (focus walk_at "ev"); (focus first | assumption | rfl))
 | ((with_reducible apply sl_kl); (focus walk_at "ev"); (focus rfl); (focus rfl))
 | ((with_reducible apply rn); (focus walk_at "ev"); (focus rfl); (focus rfl))
 | ((with_reducible apply dz); (focus walk_at "ev"); (focus rfl))
 | rfl)
local macro_rules | `(tactic| walk_at "nrm")=>`(tactic| simp only [y4,set_cons_succ,set_cons_zero])
local macro_rules | `(tactic| walk_at "set")=>`(tactic| (apply az; (first | with_reducible apply dH | with_reducible apply fh); (focus walk_at "ev"); walk_at "nrm"))
local macro_rules | `(tactic| walk_at "if0")=>`(tactic| ((with_reducible first | apply bw | apply i7); (focus walk_at "ev")))
open PySem.Builtin PySem.Builtin.Str
@[reducible]noncomputable def tx(l:LN):Str:=⟨l.toArray⟩
def gX(l:LN):(tx l).length=l.length:=by show l.toArray.size=_;simp
def Aw(a b:LN):tx a++tx b=tx (a++b):=by
 apply Str.ext';rw[Str.cps_append];simp
def sQ(z:Str):tx z.cps.toList=z:=by
 apply Str.ext';simp
def wI{a b:LN}(h:tx a=tx b):a=b:=by
 have:=congrArg (λz:Str=>z.cps.toList) h
 simpa using this
variable{U:LS}{d:D}
def au{f:MF1}(h:f U=aa d):mX f U=aa (d,U):=by
 unfold mX;rw[h];rfl
variable{f:Xe}{ρ1 b5:LS}{x:D}
def bY{m:D->D->OD}{g:Xe}{y:D}(b:f U=aa (x,ρ1))(c:g ρ1=aa (y,b5))(e:m x y=aa d):mX2 m f g U=aa (d,b5):=by
 unfold mX2;rw[b,aJ,c,aJ,e];rfl
variable{ds:LD}
def av{g:Xa}(b:f U=aa (d,ρ1))(c:g ρ1=aa (ds,b5)):ao f g U=aa (d::ds,b5):=by
 unfold ao;rw[b,aJ,c];rfl
variable{f:Xa}
def GL{b:LD}(c:f U=aa (b,ρ1))(e:j6 b=aa ds):jd f U=aa (ds,ρ1):=by
 unfold jd;rw[c,aJ,e];rfl
variable{i:Nat}{m:Addr->LD->LD->LD->Option (LD×D)}{l:Addr}{xs0 xs ys:LD}
def eV{h:Addr}(b:U[i]?=aa (.pin h xs0))(c:f U=aa (ds,ρ1))(e:ρ1[i]?=aa (.pin l xs))(g:m l [] ds xs=aa (ys,d)):aN i m f U=aa (d,ρ1.set i (.pin l ys)):=by
 unfold aN;rw[b,c,aJ,e];show(m l [] ds xs).map _=_;rw[g];rfl
open Classical in
def sR(c:U[i]?=aa (.own xs0))(g:f U=aa (ds,ρ1))(j:ρ1[i]?=aa (.own xs))(b:∀l,m l [] ds xs=aa (ys,d)):ko i m f U=aa (d,ρ1.set i (.own ys)):=by
 unfold ko;rw[c];show(f U).bind _=_;rw[g,aJ];dsimp only;rw[j];show(if h:∃q,∀l,m l [] ds xs=aa q then _ else ae)=_;rw[dif_pos ⟨(ys,d),b⟩]
 have e:(⟨(ys,d),b⟩:∃q,∀l,m l [] ds xs=aa q).choose=(ys,d):=by
  have:=(⟨(ys,d),b⟩:∃q,∀l,m l [] ds xs=aa q).choose_spec 0;rw[b 0]at this;exact cs this.symm
 rw[e]
variable{f:Xe}{K:Fl->Prop}
def cq(h:f U=aa (d,ρ1))(k:K (.nx (ρ1.set i (.im d)))):wp (bU i f) U K:=⟨_,by unfold bU;rw[h];rfl,k⟩
def gB(h:f U=aa (d,ρ1))(k:K (.rtS d ρ1)):wp (fF f) U K:=⟨_,by unfold fF;rw[h];rfl,k⟩
def GM{z:D}(b:U[i]?=aa (.im x))(h:f U=aa (d,ρ1))(c:rL x d=aa z)(k:K (.nx (ρ1.set i (.im z)))):wp (oR i f) U K:=⟨_,by
 unfold oR;rw[b];show(f U).bind _=_;rw[h,aJ,c];rfl,k⟩
variable{F:MF3}{b:Bool}
def l5{t:Xt}{F':MF3}(h:t U=aa (b,ρ1))(e:b=ac->wp F ρ1 K)(c:b=ak->wp F' ρ1 K):wp (jI t F F') U K:=by
 unfold wp jI;rw[h]
 cases b with
 |true=>exact e rfl
 |false=>exact c rfl
abbrev nx(s:Int):Int:=(s*1181783497276652981+12345678910987) % (2 ^ 61-1)
abbrev okS(s:Int):Prop:=0<=s/\s<2305843009213693951
def be(s:Int):okS (nx s):=by
 unfold okS nx;lia
abbrev dr(s k:Int):Int:=nx s / 65537 % k
variable{k:Int}
def ba(s:Int)(h:0<k):0<=dr s k/\dr s k<k:=⟨Int.emod_nonneg _ (by lia),tN _ h⟩
def l6(l:Addr)(s k:Int)(h:okS s)(g:0<k):m_0 l [] [.int k] [.int s]=aa ([.int (nx s)],.int (dr s k)):=by
 obtain⟨j,n⟩:=h
 have w:wp b_0 [.pin l [.int s],.im (.int k)] (λo=>o=.rtS (.int (dr s k)) [.pin l [.int (nx s)],.im (.int k)]):=by
  apply az;have c:kg s 1181783497276652981:=.inr ⟨by lia,by decide⟩;exact EW (aF (aF (aF rfl rfl (lM c)) rfl gy) (aF (aF rfl rfl (rm (by decide))) rfl iH) (ke (by decide))) rfl rfl (by decide) (by show _<1;decide) (cB (aF (aF rfl rfl (vf (by have:=be s;unfold okS at this;walk_at "evS"))) rfl (ke g)) rfl)
 obtain⟨o,e,rfl⟩:=w;exact fE e rfl
abbrev smL:LN:=("abcdefghijklmnopqrstuvwxyz":Str).cps.toList
def wJ:smL.length=26:=by decide +kernel
def smT:("abcdefghijklmnopqrstuvwxyz":Str)=tx smL:=(sQ _).symm
abbrev stp(sp:Int)(p:Int×LN):Int×LN:=(nx p.1,p.2++[smL.getD (dr p.1 sp).toNat 0])
abbrev its(sp:Int):Nat->Int×LN->Int×LN
 | 0,p=>p
 |n+1,p=>stp sp (its sp n p)
def wK(sp:Int)(p:Int×LN)(h:okS p.1):∀n,okS (its sp n p).1/\(its sp n p).2.length=p.2.length+n
 | 0=>⟨h,rfl⟩
 |n+1=>by
  obtain⟨a,c⟩:=wK sp p h n;refine⟨be _,?_⟩;show((its sp n p).2++[_]).length=_;rw[bh,c];rfl
def Ax(a b:LN)(h:a.length+b.length<=2000):ce (.str (tx a)) (.str (tx b))=aa (.str (tx (a++b))):=by
 show(if (tx a).length+(tx b).length<=16777216 then aa _ else ae)=_;rw[gX,gX,if_pos (by lia),Aw]
def Ay(c:LN)(v:Int)(h:0<=v/\v<(c.length:Nat))(g:c.length<=1000):m4 (.str (tx c)) (.int v)=aa (.str (tx [c.getD v.toNat 0])):=by
 show(if 0<=v/\v<2 ^ 63/\v<_ then ((tx c).cps[v.toNat]?).map _ else ae)=_;rw[if_pos ⟨h.1,by lia,by rw[gX];exact h.2⟩];have e:v.toNat<c.length:=by lia
 rw[List.getElem?_toArray,eM e,ij,eM e];rfl
def sS(v:Int)(a:0<=v)(b:v<=500):j6 [D.int v]=aa ((di v.toNat).map λ(i:Nat)=>D.int i):=by
 show(if -_<=v/\v<2 ^ 62 then aa _ else ae)=_;rw[if_pos ⟨by lia,by lia⟩,yV];simp
abbrev smP(n sp s:Int):Int×LN:=its sp n.toNat (s,[])
def sU(n sp s:Int)(h:okS s)(hn:0<=n):okS (smP n sp s).1/\((smP n sp s).2.length:Int)=n:=by
 obtain⟨a,c⟩:=wK sp (s,[]) h n.toNat;refine⟨a,?_⟩;unfold smP;rw[c];simp only[jm];lia
def GN(l:Addr)(s n sp:Int)(h:okS s)(hn:0<=n/\n<=500)(g:0<sp/\sp<=26):o9 l [] [.int n,.int sp] [.int s]=aa ([.int (smP n sp s).1],.str (tx (smP n sp s).2)):=by
 have w:wp sv [.pin l [.int s],.im (.int n),.im (.int sp),.no,.no] (λo=>∃a,o=.rtS (.str (tx (smP n sp s).2)) [.pin l [.int (smP n sp s).1],.im (.int n),.im (.int sp),.im (.str (tx (smP n sp s).2)),a]):=by
  apply az;refine dH rfl ?_;show wp _ [.pin l _,.im _,.im _,.im (.str (tx [])),.no] _;apply az;refine fZ (di n.toNat) (λi=>D.int i) (λpre U=>∃a,U=[.pin l [.int (its sp pre.length (s,[])).1],.im _,.im _,.im (.str (tx (its sp pre.length (s,[])).2)),a]) ?_ ⟨_,rfl⟩ ?_ ?_
  .have q:af (ag 1) nZ [.pin l [.int s],.im _,.im (.int sp),.im (.str (tx [])),.no]=aa [.int n]:=rfl;unfold gR;rw[q,aJ,sS n hn.1 hn.2]
  .rintro pre x post U r ⟨a,rfl⟩;refine⟨_,rfl,?_⟩;obtain⟨k1,k3⟩:=(wK sp (s,[]) h) pre.length
   have c:pre.length<n.toNat:=by
    have:=congrArg g6 r;rw[eD,bh,b9]at this;lia
   generalize t:its sp pre.length _=p at k1 k3;have u:=ba p.1 g.1;have j:aN 0 m_0 (ao (mX (ag 2)) aw) _=aa _:=eV (ρ1:=[.pin l _,.im (.int n),.im _,.im (.str (tx p.2)),.im (.int x)]) rfl (av (au rfl) rfl) rfl (l6 l p.1 sp k1 g.1);refine GM (z:=.str (tx (stp sp p).2)) rfl (bY (au (by rw[smT])) j (Ay smL _ (by rw[wJ];lia) (by rw[wJ];decide))) ?_ ?_
   .show(if (tx p.2).length+(tx [_]).length<=16777216 then aa _ else ae)=_;rw[gX,gX,if_pos (by rw[k3];simp only[jm,b9];lia),Aw];rfl
   .refine⟨.im (.int x),?_⟩;rw[bh,show([x]:LN).length=1 from rfl];show _=[Sl.pin l [.int (stp sp _).1],.im _,.im _,.im (.str (tx (stp sp _).2)),.im _];rw[t];rfl
  .rintro U ⟨a,rfl⟩;rw[eD];exact cB rfl ⟨a,rfl⟩
 obtain⟨o,e,a,rfl⟩:=w;exact fE e rfl
def bO(l:Addr)(s k:Int)(r:LS){f:MF1}(c:f (.pin l [.int s]::r)=aa (.int k))(h:okS s)(e:0<k):aN 0 m_0 (ao (mX f) aw) (.pin l [.int s]::r)=aa (.int (dr s k),.pin l [.int (nx s)]::r):=eV (ρ1:=.pin l _::r) rfl (av (au c) rfl) rfl (l6 l s k h e)
abbrev itP{c:Type}(F:Int->Int×c):Nat->Int->Int×List c
 | 0,s=>(s,[])
 |n+1,s=>((itP F n (F s).1).1,(F s).2::(itP F n (F s).1).2)
def l7{e:Type}{F:Int->Int×e}(c:∀s,okS (F s).1):∀n s,okS s->okS (itP F n s).1/\(itP F n s).2.length=n
 | 0,s,h=>⟨h,rfl⟩
 |n+1,s,_=>⟨(l7 c n _ (c s)).1,by show(_::(itP F n (F s).1).2).length=_;rw[b9,(l7 c n _ (c s)).2]⟩
def nB{g:Type}{F:Int->Int×g}{P:g->Prop}(c:∀s,P (F s).2):∀n s,∀x∈(itP F n s).2,P x
 | 0,_,x,h=>(bJ h).elim
 |n+1,s,x,h=>by
  rcases bG.mp (h)with e |e
  .rw[e];exact c s
  .exact nB c n _ x e
abbrev grL:LN:=("ABCDEFGHIJKLMNOPQRSTUVWXYZ":Str).cps.toList
def grT:("ABCDEFGHIJKLMNOPQRSTUVWXYZ":Str)=tx grL:=(sQ _).symm
def wL:grL.length=26:=by decide +kernel
abbrev kpS:LSt:=["kind","rule","may","choose","never","if","and","not","unlike","least","most","of","to","over","in","for"]
abbrev kpW:L2N:=kpS.map λz=>z.cps.toList
abbrev kept(w:LN):Bool:=kpW.any λk=>k==w
def kpD:kpS.map D.str=kpW.map λw=>D.str (tx w):=by
 refine map_congr_left λz _=>?_;show D.str z=D.str (tx z.cps.toList);rw[sQ]
def inK(w:LN):dIn (.str (tx w)) (.lst (kpW.map λw=>D.str (tx w)))=aa (.bl (kept w)):=by
 show Option.map D.bl (if ((D.str (tx w)).scalar && (kpW.map λw=>D.str (tx w)).all D.scalar)=ac then aa _ else ae)=_;rw[if_pos (by rw[all_map];exact(cx _ _).mpr ⟨rfl,all_eq_true.mpr λ_ _=>rfl⟩),any_map];show aa _=_
 congr 2
 refine congrArg _ (funext λk=>?_);show(tx k==tx w)=_;apply jT.mpr;rw[beq_iff_eq,beq_iff_eq];exact⟨wI,λe=>by rw[e]⟩
abbrev wM(c w:LN):Bool:=w.all λx=>decide (x∈c)
abbrev made(w c:LN)(most:Nat):Bool:=(decide (1<=w.length) && decide (w.length<=most)) && wM c w
abbrev bN(w:LN):Bool:=made w smL 8 && !kept w
abbrev sp2(v:Int):Int:=if v=0 then 26 else 2
def nC(v:Int):0<sp2 v/\sp2 v<=26:=by unfold sp2;split <;> decide
def Az(sp:Int)(g:0<sp/\sp<=26)(p:Int×LN)(h:∀x∈p.2,x∈smL):∀n,∀x∈(its sp n p).2,x∈smL
 | 0,x,hx=>h x hx
 |n+1,x,hx=>by
  rcases bV.mp (hx)with e |e
  .exact Az sp g p h n x e
  .have d:=ba (its sp n p).1 g.1;rw[aU]at e;have c:(dr (its sp n p).1 sp).toNat<smL.length:=by rw[wJ];lia
   rw[e,ij,eM c];exact mf c
def AA(n sp s:Int)(e:0<sp/\sp<=26):wM smL (smP n sp s).2=ac:=all_eq_true.mpr λx c=>decide_eq_true (Az sp e _ (λx c=>(bJ c).elim) n.toNat x c)
def GO:∀k∈kpW,bN (122::k)=ac:=by decide +kernel
@[reducible]noncomputable def sT(w:LN):D:=.str (tx w)
def pK{c:Type}{F:Int->Int×c}{toD:c->D}(hm:∀s,okS s->m l [] [] [.int s]=aa ([.int (F s).1],toD (F s).2))(s:Int)(r:LS)(h:okS s):aN 0 m aw (.pin l [.int s]::r)=aa (toD (F s).2,.pin l [.int (F s).1]::r):=eV (ρ1:=.pin l _::r) rfl rfl rfl (hm s h)
variable{fa:Xa}
def AB(l:Addr)(s n sp:Int)(r:LS)(c:U[0]?=aa (.pin l xs))(ha:fa U=aa ([.int n,.int sp],.pin l [.int s]::r))(h:okS s)(hn:0<=n/\n<=500)(e:0<sp/\sp<=26):aN 0 o9 fa U=aa (.str (tx (smP n sp s).2),.pin l [.int (smP n sp s).1]::r):=eV c ha rfl (GN l s n sp h hn e)
def wN(v:Int)(h:0<=v/\v<2):cO (.lst [.int 26,.int 2]) (.int v)=aa (.int (sp2 v)):=by
 have:v=0\/v=1:=by lia
 rcases this with e |e <;> (rw[e];rfl)
def zT:("z":Str)=tx [122]:=by decide +kernel
def bxX{g:Xe}{m:D->D->OD}{ρ':LS}(h:mX2 m f g U=aa (.bl b,ρ')):mBX (mX2 m f g) U=aa (b,ρ'):=by
 unfold mBX;rw[h];rfl
def GP(c:U[i]?=aa (.own xs0))(h:f U=aa (.lst ds,ρ1))(h':ρ1[i]?=aa (.own xs))(e:xs.length+ds.length<=16777216)(k:K (.nx (ρ1.set i (.own (xs++ds))))):wp (oW i f) U K:=⟨_,by
 unfold oW;rw[c];show(f U).bind _=_;rw[h,aJ];dsimp only;rw[h'];show(if xs.length+ds.length<=16777216 then aa (Fl.nx (ρ1.set i (.own (xs++ds)))) else ae)=_;rw[if_pos e],k⟩
abbrev bg(s:Int):Int×LN:=((smP (1+dr (nx s) 8) (sp2 (dr s 2)) (nx (nx s))).1,if kept (smP (1+dr (nx s) 8) (sp2 (dr s 2)) (nx (nx s))).2 then 122::(smP (1+dr (nx s) 8) (sp2 (dr s 2)) (nx (nx s))).2 else (smP (1+dr (nx s) 8) (sp2 (dr s 2)) (nx (nx s))).2)
def l8(s:Int):okS (bg s).1/\bN (bg s).2=ac:=by
 have j:=ba (nx s) (k:=8) (by decide);obtain⟨a,b⟩:=sU (1+dr (nx s) 8) (sp2 (dr s 2)) (nx (nx s)) (be _) (by lia);have h:=AA (1+dr (nx s) 8) (sp2 (dr s 2)) (nx (nx s)) (nC _);unfold bg;generalize smP _ _ _=q at a b h;refine⟨a,?_⟩;dsimp only;split
 .rename_i e;unfold kept at e;obtain⟨k,g,c⟩:=any_eq_true.mp e;rw[beq_iff_eq]at c;subst c;exact GO _ g
 .rename_i e;unfold bN made;rw[h,decide_eq_true (show 1<=q.2.length by lia),decide_eq_true (show q.2.length<=8 by lia),tM.mpr e];rfl
def AC(l:Addr)(s:Int)(t:okS s):m_8 l [] [] [.int s]=aa ([.int (bg s).1],.str (tx (bg s).2)):=by
 have n:=ba s (k:=2) (by decide);have v:=ba (nx s) (k:=8) (by decide);have u:=be s;have j:=be (nx s)
 have w:wp b_8 [.pin l [.int s],.no,.no,.no] (λo=>∃c g h,o=.rtS (.str (tx (bg s).2)) [.pin l [.int (bg s).1],c,g,h]):=by
  unfold b_8 bg;apply az;refine fh rfl ?_;apply az;refine GP rfl (au rfl) rfl (by decide) ?_;show wp _ [.pin l [.int s],.own (kpS.map D.str),.no,.no] _;rw[kpD];apply az;refine cq (bY (au rfl) (bO l s 2 _ rfl t (by decide)) (wN _ n)) ?_;show wp _ [.pin l [.int (nx s)],.own (kpW.map λw=>D.str (tx w)),.im (.int (sp2 (dr s 2))),.no] _;apply az;refine cq (AB l _ _ _ _ rfl (av (bY (au rfl) (bO l _ 8 _ rfl u (by decide)) gy) (av (au rfl) rfl)) j ⟨by lia,by lia⟩ (nC _)) ?_;obtain⟨p,r⟩:=sU (1+dr (nx s) 8) (sp2 (dr s 2)) _ j (by lia);generalize smP _ _ _=q at p r;apply az;refine iF rfl ?_;refine bw (aV (aF rfl rfl (inK q.2))) (λe=>?_) λe=>bD ?_
  .rw[e];exact cB (aF (by rw[zT]) rfl (Ax _ q.2 (by rw[fS];lia))) ⟨_,_,_,rfl⟩
  .rw[e];exact cB rfl ⟨_,_,_,rfl⟩
 obtain⟨o,e,c,g,h,rfl⟩:=w;exact fE e rfl
abbrev bF(s:Int):Int×LN:=
 ((smP (dr (nx (nx s)) 8) (sp2 (dr (nx (nx (nx s))) 2)) (nx (nx (nx (nx s))))).1,grL.getD (dr (nx s) (sp2 (dr s 2))).toNat 0::(smP (dr (nx (nx s)) 8) (sp2 (dr (nx (nx (nx s))) 2)) (nx (nx (nx (nx s))))).2)
abbrev cT(w:LN):Bool:=made (w.take 1) grL 1 && (decide (w.length=1) || made (w.drop 1) smL 7)
def nE(s:Int):okS (bF s).1/\cT (bF s).2=ac:=by
 have j:=nC (dr s 2);have p:=ba (nx s) j.1;have n:=ba (nx (nx s)) (k:=8) (by decide);obtain⟨a,b⟩:=sU _ _ _ (be _) n.1;have c:=AA (dr (nx (nx s)) 8) _ (nx (nx (nx (nx s)))) (nC (dr (nx (nx (nx s))) 2));unfold bF;generalize smP _ _ _=q at a b c;refine⟨a,?_⟩;have h:(dr (nx s) (sp2 (dr s 2))).toNat<grL.length:=by rw[wL];lia
 have g:grL.getD (dr (nx s) (sp2 (dr s 2))).toNat 0∈grL:=by
  rw[ij,eM h];exact mf h
 generalize grL.getD (dr _ _).toNat 0=x at g;show(made [x] grL 1 && (decide _ || made q.2 smL 7))=ac
 have o:made [x] grL 1=ac:=by
  unfold made wM;rw[iR,decide_eq_true g];rfl
 rw[o,Bool.true_and,b9];unfold made;rw[c]
 by_cases e:q.2.length=0
 .rw[decide_eq_true (show q.2.length+1=1 by lia)];rfl
 .rw[decide_eq_true (show 1<=q.2.length by lia),decide_eq_true (show q.2.length<=7 by lia)];simp
def wO(l:Addr)(s:Int)(r:okS s):nv l [] [] [.int s]=aa ([.int (bF s).1],.str (tx (bF s).2)):=by
 have n:=nC (dr s 2);have t:=ba (nx s) n.1;have p:=ba (nx (nx s)) (k:=8) (by decide);have c:=ba (nx (nx (nx s))) (k:=2) (by decide);have h:=nC (dr (nx (nx (nx s))) 2)
 have w:wp pb [.pin l [.int s],.no] (λo=>∃j,o=.rtS (.str (tx (bF s).2)) [.pin l [.int (bF s).1],j]):=by
  unfold pb bF;apply az
  have q:aN 0 m_0 (ao (mX2 cO (mX (ax (af (λ_=>aa _) (af (λ_=>aa _) nZ)))) (aN 0 m_0 (ao (mX (λ_=>aa _)) aw))) aw) _=aa _:=
   eV (ρ1:=[.pin l _,.no]) rfl (av (bY (au rfl) (bO l s 2 _ rfl r (by decide)) (wN _ (ba s (by decide)))) rfl) rfl (l6 l _ _ (be _) n.1)
  refine cq (bY (au (by rw[grT])) q (Ay grL _ (by rw[wL];lia) (by rw[wL];decide))) ?_;generalize grL.getD (dr _ _).toNat 0=x;have g:=be (nx s);generalize nx (nx s)=s2 at *;obtain⟨a,b⟩:=sU _ (sp2 (dr (nx s2) 2)) (nx (nx s2)) (be _) p.1;refine gB (bY (au rfl) (AB l _ _ _ _ rfl (av (bO l s2 8 _ rfl g (by decide)) (av (bY (au rfl) (bO l _ 2 _ rfl (be _) (by decide)) (wN _ c)) rfl)) (be _) ⟨by lia,by lia⟩ h) (Ax [x] _ (by rw[fS];lia))) ⟨_,rfl⟩
 obtain⟨o,e,j,rfl⟩:=w;exact fE e rfl
abbrev ci(s:Int):Int×Int:=if dr (nx s) 4=0 then (nx (nx (nx s)),(dr s 9-2)*10 ^ 20+dr (nx (nx s)) (10 ^ 10)) else (nx (nx s),dr s 9-2)
def sV(s:Int):okS (ci s).1/\-(10 ^ 30)<(ci s).2/\(ci s).2<10 ^ 30:=by
 have e:=ba s (k:=9) (by decide);have c:=ba (nx (nx s)) (k:=10 ^ 10) (by decide);unfold ci;split
 .refine⟨be _,?_⟩;show -(10 ^ 30)<(dr s 9-2)*10 ^ 20+dr (nx (nx s)) (10 ^ 10)/\(dr s 9-2)*10 ^ 20+dr (nx (nx s)) (10 ^ 10)<10 ^ 30;lia
 .refine⟨be _,?_⟩;show -(10 ^ 30)<dr s 9-2/\dr s 9-2<10 ^ 30;lia
def GQ(l:Addr)(s:Int)(n:okS s):lZ l [] [] [.int s]=aa ([.int (ci s).1],.int (ci s).2):=by
 have p:=ba s (k:=9) (by decide);have h:=ba (nx (nx s)) (k:=10 ^ 10) (by decide)
 have w:wp px [.pin l [.int s],.no] (λo=>∃g,o=.rtS (.int (ci s).2) [.pin l [.int (ci s).1],g]):=by
  unfold px ci;apply az;refine cq (bY (bO l s 9 _ rfl n (by decide)) (au rfl) iH) ?_;show wp _ [.pin l [.int (nx s)],.im (.int (dr s 9-2))] _;apply az;refine l5 (bxX (bY (bO l (nx s) 4 _ rfl (be _) (by decide)) (au rfl) (cY _ _))) (λe=>?_) λe=>bD ?_
  .have c:dr (nx s) 4=0:=by simpa using e
   rw[if_pos c];refine gB (bY (au (aF rfl (aF rfl rfl rfl) (lM (j:=10 ^ 20) (.inr ⟨by lia,by decide⟩)))) (bO l (nx (nx s)) (10 ^ 10) _ (aF rfl rfl rfl) (be _) (by decide)) gy) ⟨_,rfl⟩
  .have c:¬dr (nx s) 4=0:=by simpa using e
   rw[if_neg c];exact cB rfl ⟨_,rfl⟩
 obtain⟨o,e,g,rfl⟩:=w;exact fE e rfl
def sW(c:U[i]?=aa (.own xs0))(h:f U=aa (d,ρ1))(e:ρ1[i]?=aa (.own xs))(g:xs.length<16777216)(k:K (.nx (ρ1.set i (.own (xs++[d]))))):wp (jc i f) U K:=⟨_,by
 unfold jc;rw[c,h,aJ,e];exact if_pos g,k⟩
def dY{f:Xa}(h:f U=aa (ds,ρ1)):dA f U=aa (.tup ds,ρ1):=by
 unfold dA;rw[h];rfl
def pL{v:Int}(h:f U=aa (.int v,ρ1))(a:0<=v)(b:v<=500):jd (ao f aw) U=aa ((di v.toNat).map (λ(i:Nat)=>D.int i),ρ1):=GL (av h rfl) (sS v a b)
def wP{m:LD->OD}{f:Xa}(c:f U=aa (ds,ρ1))(e:m ds=aa d):km m f U=aa (d,ρ1):=by
 unfold km;rw[c,aJ,e];rfl
def pM{f:Xa}(h:f U=aa (ds,ρ1)):jH f U=aa (.lst ds,ρ1):=by
 unfold jH;rw[h];rfl
def AD(w:LN)(L:L2N):inD (.str (tx w)) (.lst (L.map sT))=aa (decide (w∈L)):=by
 show(if ((D.str (tx w)).scalar && (L.map sT).all D.scalar)=ac then aa _ else ae)=_;rw[if_pos (by rw[all_map];exact(cx _ _).mpr ⟨rfl,all_eq_true.mpr λ_ _=>rfl⟩),any_map]
 congr 1
 rw[jT,decide_eq_true_eq,any_eq_true];constructor
 .rintro⟨k,c,e⟩;have e:(tx k==tx w)=ac:=e;rw[beq_iff_eq]at e;exact wI e▸c
 .intro h;refine⟨w,h,?_⟩;show(tx w==tx w)=ac;exact beq_iff_eq.mpr rfl
def inW(w:LN)(L:L2N):dIn (.str (tx w)) (.lst (L.map sT))=aa (.bl (decide (w∈L))):=by
 unfold dIn;rw[AD];rfl
def kK(w:LN)(L:L2N):eS (.str (tx w)) (.lst (L.map sT))=aa (.bl (!decide (w∈L))):=by
 unfold eS;rw[AD];rfl
abbrev itN{c:Type}(f:c->c):Nat->c->c
 | 0,p=>p
 |n+1,p=>f (itN f n p)
abbrev itD{c:Type}(F:D->Int->Int×c):LD->Int->Int×List c
 | [],s=>(s,[])
 |d::ds,s=>((itD F ds (F d s).1).1,(F d s).2::(itD F ds (F d s).1).2)
variable{tl:LS}{fi:Xa}{s:Int}
def GR{p:Type}{n:Xe}{F:D->Int->Int×p}{toD:p->D}(t:∀d s,d∈ds->okS s->n [.im d,.pin l [.int s]]=aa (toD (F d s).2,[.im d,.pin l [.int (F d s).1]]))(r:∀d s,okS (F d s).1)(h:okS s)(hi:fi U=aa (ds,.pin l [.int s]::tl))(o:ds.length<=1000):
  je 1 [0] 0 0 fi (aO 0) n U=aa (.lst ((itD F ds s).2.map toD),.pin l [.int (itD F ds s).1]::tl):=by
 have j:∀(e:Sl) d s,d∈ds->okS s->jK 1 [0] 0 0 (aO 0) n (e::tl) l d [.int s]=aa (toD (F d s).2,[.int (F d s).1]):=λe d s hd h=>by
  unfold jK;show(aa [Sl.im d,Sl.pin l [.int s]]).bind _=_;rw[aJ,t d s hd h,aJ];refine if_pos λi hi=>?_
  cases i with
  |zero=>nomatch hi
  |succ i=>rfl
 have g:∀(e:Sl) (c:LD) (s:Int),(∀d∈c,d∈ds)->okS s->f8 1 [0] 0 0 (aO 0) n (e::tl) l c [.int s]=aa ((itD F c s).2.map toD,[.int (itD F c s).1]):=λe c=>by
  induction c with
  |nil=>intro s _ _;rfl
  |cons d c v=>
   intro s o h;unfold f8;rw[j e d s (o d bP) h,aJ,v (F d s).1 (λx u=>o x (cF _ u)) (r d s)];rfl
 unfold je;rw[hi,aJ];show(if ds.length<=16777216/\([0]:LN)[0]?=aa 0/\_=ac then (f8 1 [0] 0 0 _ _ _ l ds _).map λq=>_ else ae)=_;rw[if_pos ⟨by lia,rfl,rfl⟩,g _ ds s (λ_ h=>h) h];rfl
abbrev fiP:L2N->Int->Int×L2N
 | [],s=>(s,[])
 |p::ps,s=>((fiP ps (nx s)).1,if 0<dr s 4 then p::(fiP ps (nx s)).2 else (fiP ps (nx s)).2)
def AE(p:LN)(ps:L2N)(s:Int):fiP (p::ps) s=((fiP ps (nx s)).1,if 0<dr s 4 then p::(fiP ps (nx s)).2 else (fiP ps (nx s)).2):=rfl
def GS{tt:Xt}(n:∀d s,okS s->tt [.im d,.pin l [.int s]]=aa (decide (0<dr s 4),[.im d,.pin l [.int (nx s)]])){ps:L2N}(h:okS s)(hi:fi U=aa (ps.map sT,.pin l [.int s]::tl))(r:ps.length<=1000):
  lU 1 [0] 0 0 fi (aO 0) tt (mX (ag 0)) U=aa (.lst ((fiP ps s).2.map sT),.pin l [.int (fiP ps s).1]::tl):=by
 have e:∀(c:Sl) (d:D) (y:OD) s,ng 1 [0] 0 0 (c::tl) l [.im d,.pin l [.int s]] y=aa (y,[.int s]):=λc d y s=>by
  unfold ng;refine if_pos λi hi=>?_
  cases i with
  |zero=>nomatch hi
  |succ i=>rfl
 have j:∀(c:Sl) d s,okS s->nh 1 [0] 0 0 (aO 0) tt (mX (ag 0)) (c::tl) l d [.int s]=aa (if 0<dr s 4 then aa d else ae,[.int (nx s)]):=λc d s h=>by
  unfold nh;show(aa [Sl.im d,Sl.pin l [.int s]]).bind _=_;rw[aJ,n d s h,aJ]
  by_cases hd:0<dr s 4
  .rw[decide_eq_true hd,if_pos hd];exact e c d _ _
  .rw[decide_eq_false hd,if_neg hd];exact e c d _ _
 have g:∀(c:Sl) (ps:L2N) (s:Int),okS s->h7 1 [0] 0 0 (aO 0) tt (mX (ag 0)) (c::tl) l (ps.map sT) [.int s]=aa ((fiP ps s).2.map sT,[.int (fiP ps s).1]):=λc ps=>by
  induction ps with
  |nil=>intro s _;rfl
  |cons p ps o=>
   intro s h;rw[gI];unfold h7;rw[j c _ s h,aJ];show(h7 1 [0] 0 0 _ _ _ _ l _ [.int (nx s)]).map _=_;rw[o (nx s) (be s)];rw[AE]
   by_cases hd:0<dr s 4
   .rw[if_pos hd,if_pos hd];rfl
   .rw[if_neg hd,if_neg hd];rfl
 unfold lU;rw[hi,aJ];show(if (ps.map sT).length<=16777216/\([0]:LN)[0]?=aa 0/\_=ac then (h7 1 [0] 0 0 _ _ _ _ l _ _).map λq=>_ else ae)=_;rw[if_pos ⟨by rw[aW];lia,rfl,rfl⟩,g _ ps s h];rfl
def AF(ps:L2N):∀s,okS s->okS (fiP ps s).1/\(fiP ps s).2.Sublist ps:=by
 induction ps with
 |nil=>exact λs h=>⟨h,.slnil⟩
 |cons p ps c=>
  intro s h;obtain⟨a,b⟩:=c (nx s) (be s);refine⟨a,?_⟩;rw[AE];dsimp only;split
  .exact b.cons₂ _
  .exact b.cons _
abbrev plS(p:Int×L2N):Int×L2N:=((bg p.1).1,if (bg p.1).2∈p.2 then p.2 else p.2++[(bg p.1).2])
def GT(p:Int×L2N)(g:p.2.Nodup)(j:∀w∈p.2,bN w=ac):okS (plS p).1/\(plS p).2.Nodup/\(∀w∈(plS p).2,bN w=ac)/\p.2.length<=(plS p).2.length/\(plS p).2.length<=p.2.length+1/\0<(plS p).2.length:=by
 obtain⟨a,b⟩:=l8 p.1;unfold plS;refine⟨a,?_⟩;dsimp only;split
 .rename_i h;exact⟨g,j,bC _,by lia,length_pos_of_mem h⟩
 .rename_i h;refine⟨mj.mpr ⟨g,by simp,λx n y o e=>?_⟩,λw c=>?_,by simp,by simp,by simp⟩
  .rw[aU.mp o]at e;rw[e]at n;exact h n
  .rcases bV.mp c with c |c
   .exact j w c
   .rw[aU.mp c];exact b
def pN{c:Type}{f:c->c}{I:Nat->c->Prop}(h:∀n p,I n p->I (n+1) (f p)){p:c}(e:I 0 p):∀n,I n (itN f n p)
 | 0=>e
 |n+1=>h n _ (pN h e n)
abbrev AG(n:Nat)(p:Int×L2N):Prop:=okS p.1/\p.2.Nodup/\(∀w∈p.2,bN w=ac)/\p.2.length<=n/\(0<n->0<p.2.length)
def wQ(h:okS s)(n:Nat):AG n (itN plS n (s,[])):=
 pN (I:=AG) (λn p q=>by
  obtain⟨_,a,b,c,_⟩:=q;obtain⟨e,g,j,r,t,o⟩:=GT p a b;exact⟨e,g,j,by lia,λ_=>o⟩) ⟨h,g7,λ_ z=>(bJ z).elim,bC _,λz=>absurd z (jn _)⟩ n
abbrev hdP(d:D)(s:Int):Int×(LN×Int):=(nx (bg s).1,((bg s).2,match d with
 |.int m=>if dr (bg s).1 4<m then dr (bg s).1 4 else m
 | _=>0))
abbrev ia(s:Int):Int×List (LN×Int):=itD hdP [.int 3,.int 2,.int 2,.int 1] s
@[reducible]noncomputable def nrD(x:LN×Int):D:=.tup [sT x.1,.int x.2]
@[reducible]noncomputable def kdD(x:LN×L2N):D:=.tup [sT x.1,.lst (x.2.map sT)]
abbrev kdS(pl:L2N)(p:Int×List (LN×L2N)):Int×List (LN×L2N):=
 if 0<(fiP pl (bg p.1).1).2.length/\(bg p.1).2∉p.2.map (·.1) then
  (nx (fiP pl (bg p.1).1).1,p.2++[((bg p.1).2,if dr (fiP pl (bg p.1).1).1 2=0 then (fiP pl (bg p.1).1).2 else (fiP pl (bg p.1).1).2.reverse)])
 else ((fiP pl (bg p.1).1).1,p.2)
structure sX(pl:L2N)(ks:List (LN×L2N)):Prop where
 nd:(ks.map (·.1)).Nodup
 nm:∀k∈ks,bN k.1=ac
 ns:∀k∈ks,k.2.Nodup/\k.2≠[]/\∀w∈k.2,w∈pl
variable{pl:L2N}
def GU(r:pl.Nodup){p:Int×List (LN×L2N)}(h:sX pl p.2):okS (kdS pl p).1/\sX pl (kdS pl p).2/\(kdS pl p).2.length<=p.2.length+1:=by
 obtain⟨a,b⟩:=l8 p.1;obtain⟨c,d⟩:=AF pl _ a;unfold kdS;generalize fiP pl (bg p.1).1=f at c d;split
 .rename_i o;refine⟨be _,⟨?_,λk g=>?_,λk g=>?_⟩,by simp⟩
  .rw[cK];refine mj.mpr ⟨h.nd,by simp,λx q y t e=>?_⟩;rw[show y=(bg p.1).2 from aU.mp t]at e;rw[e]at q;exact o.2 q
  .rcases bV.mp g with g |g
   .exact h.nm k g
   .rw[aU.mp g];exact b
  .rcases bV.mp g with g |g
   .exact h.ns k g
   .rw[aU.mp g];have hn:=d.nodup r;have hm:∀w∈f.2,w∈pl:=λw j=>d.subset j;have n:f.2≠[]:=eX.mp o.1;dsimp only;split
    .exact⟨hn,n,hm⟩
    .exact⟨pairwise_reverse.mpr (List.Pairwise.imp eE hn),λz=>n (reverse_eq_nil_iff.mp z),λw j=>hm w (mem_reverse.mp j)⟩
 .exact⟨c,h,by simp⟩
abbrev AH(pl:L2N)(n:Nat)(p:Int×List (LN×L2N)):Prop:=okS p.1/\sX pl p.2/\p.2.length<=n
def AI(c:pl.Nodup)(h:okS s)(n:Nat):AH pl n (itN (kdS pl) n (s,[])):=
 pN (I:=AH pl) (λn p j=>by
  obtain⟨_,a,b⟩:=j;obtain⟨e,g,o⟩:=GU c a;exact⟨e,g,by lia⟩) (p:=(s,[])) ⟨h,⟨g7,λ_ z=>(bJ z).elim,λ_ z=>(bJ z).elim⟩,bC _⟩ n
structure Lay where
 h:List (LN×Int)
 p:L2N
 k:List (LN×L2N)
@[reducible]noncomputable def Lay.toD(y:Lay):D:=.tup [.lst (y.h.map nrD),.lst (y.p.map sT),.lst (y.k.map kdD)]
abbrev gC(s:Int):Int×L2N:=itN plS (1+dr s 3).toNat (nx s,[])
abbrev nF(s:Int)(pl:L2N):Int×List (LN×L2N):=itN (kdS pl) (dr s 4).toNat (nx s,[])
abbrev ib(s:Int):Int×Lay:=((nF (ia (gC s).1).1 (gC s).2).1,⟨(ia (gC s).1).2,(gC s).2,(nF (ia (gC s).1).1 (gC s).2).2⟩)
structure gD(y:Lay):Prop where
 h:y.h.length=4/\∀x∈y.h,bN x.1=ac/\0<=x.2/\x.2<=3
 p:y.p.Nodup/\(∀w∈y.p,bN w=ac)/\0<y.p.length/\y.p.length<=3
 k:sX y.p y.k/\y.k.length<=3
def GV(d:D)(s:Int):okS (hdP d s).1:=be _
def AJ(s:Int):okS (ia s).1/\(ia s).2.length=4/\∀x∈(ia s).2,bN x.1=ac/\0<=x.2/\x.2<=3:=by
 refine⟨be _,rfl,λx c=>?_⟩
 have one:∀(m:Int) s,0<=m/\m<=3->bN (hdP (.int m) s).2.1=ac/\0<=(hdP (.int m) s).2.2/\(hdP (.int m) s).2.2<=3:=λm s hm=>by
  refine⟨(l8 s).2,?_⟩;have d:=ba (bg s).1 (k:=4) (by decide);show 0<=(if dr (bg s).1 4<m then dr (bg s).1 4 else m)/\(if dr (bg s).1 4<m then dr (bg s).1 4 else m)<=3
  split <;> lia
 have c:x∈[(hdP (.int 3) s).2,(hdP (.int 2) (hdP (.int 3) s).1).2,(hdP (.int 2) (hdP (.int 2) (hdP (.int 3) s).1).1).2,(hdP (.int 1) (hdP (.int 2) (hdP (.int 2) (hdP (.int 3) s).1).1).1).2]:=c;simp only[bG,bJ,or_false]at c
 rcases c with rfl |rfl |rfl |rfl
 .exact one 3 _ (by decide)
 .exact one 2 _ (by decide)
 .exact one 2 _ (by decide)
 .exact one 1 _ (by decide)
def AK(s:Int):okS (ib s).1/\gD (ib s).2:=by
 have u:=ba s (k:=3) (by decide);obtain⟨r,c,e,g,h⟩:=wQ (be s) (1+dr s 3).toNat;obtain⟨t,j,n⟩:=AJ (gC s).1;have v:=ba (ia (gC s).1).1 (k:=4) (by decide);obtain⟨o,p,q⟩:=AI c (be (ia (gC s).1).1) (dr (ia (gC s).1).1 4).toNat;exact⟨o,⟨j,n⟩,⟨c,e,h (by lia),dq g (by lia)⟩,p,dq q (by lia)⟩
def wR(l:Addr)(s:Int)(r:LS)(h:okS s):aN 0 m_8 aw (.pin l [.int s]::r)=aa (sT (bg s).2,.pin l [.int (bg s).1]::r):=pK (toD:=sT) (λs h=>AC l s h) s r h
def sY(d:D)(r:LD):atI (d::r) 0=aa d:=by
 unfold atI ixN;rw[if_pos (by decide),if_pos (by rw[b9];lia)];rfl
def sZ{c:Type}{f:c->D}{q:c->LN}{fi:MF2}{L:List c}(h:fi U=aa (L.map f))(g:∀x,∃r,f x=.tup (sT (q x)::r))(j:L.length<=1000:=by lia):b7 1 [] fi (aO 0) kY (mIx (aP 0) (kI 0)) U=aa ((L.map q).map sT):=by
 rw[map_map];refine oF L f (sT ∘ q) h (by lia) λz _=>?_;obtain⟨r,e⟩:=g z;rw[e];exact lI rfl rfl (aZ rfl rfl (sY _ _))
def GW(l:Addr)(s:Int)(hs:okS s):wy l [] [] [.int s]=aa ([.int (ib s).1],(ib s).2.toD):=by
 have d3:=ba s (k:=3) (by decide)
 have w:wp pq [.pin l [.int s],.no,.no,.no,.no,.no,.no] (λo=>∃H j n I J r,o=.rtS (ib s).2.toD [.pin l [.int (ib s).1],H,j,n,I,J,r]):=by
  unfold pq;apply az;refine fh rfl ?_;show wp _ [.pin l [.int s],.own [],.no,.no,.no,.no,.no] _;refine lL (λU=>∃j n,U=[.pin l [.int (gC s).1],.own ((gC s).2.map sT),j,n,.no,.no,.no]) ?_ ?_
  .refine rC (pL (bY (au rfl) (bO l s 3 _ rfl hs (by decide)) gy) (by lia) (by lia)) ?_;refine fZ (di (1+dr s 3).toNat) (λi=>D.int i) (λpre U=>∃j n,U=[.pin l [.int (itN plS pre.length (nx s,[])).1],.own ((itN plS pre.length (nx s,[])).2.map sT),j,n,.no,.no,.no]) rfl ⟨_,_,rfl⟩ ?_ ?_
   .rintro pre x post U E ⟨j,n,rfl⟩;refine⟨_,rfl,?_⟩;obtain⟨k1,k2,k3,A,_⟩:=wQ (be s) pre.length
    have v:pre.length<3:=by
     have:=congrArg g6 E;rw[eD,bh,b9]at this;lia
    rw[bh,show([x]:LN).length=1 from rfl];show wp _ _ λo=>_;generalize G:itN plS pre.length (nx s,[])=p at k1 k2 k3 A;have t:itN plS (pre.length+1) (nx s,[])=plS p:=by rw[<- G];rfl
    rw[t];apply az;refine cq (wR l p.1 _ k1) ?_;show wp _ [.pin l [.int (bg p.1).1],.own (p.2.map sT),.im (.int x),.im (sT (bg p.1).2),.no,.no,.no] _;refine bw (aV (aF rfl rfl (kK _ _))) (λe=>?_) λe=>bD ?_
    .have u:(bg p.1).2∉p.2:=by simpa using e
     refine oI rfl rfl (by rw[aW];lia) ⟨.im (.int x),.im (sT (bg p.1).2),?_⟩;unfold plS;rw[if_neg u,cK];rfl
    .have u:(bg p.1).2∈p.2:=by simpa using e
     refine⟨.im (.int x),.im (sT (bg p.1).2),?_⟩;unfold plS;rw[if_pos u]
   .rintro U ⟨j,n,rfl⟩;rw[eD];exact k_J ⟨j,n,rfl⟩
  rintro _ ⟨j,n,rfl⟩;obtain⟨k1,k2,k3,A,k5⟩:=wQ (be s) (1+dr s 3).toNat;have hA:itN plS (1+dr s 3).toNat (nx s,[])=gC s:=rfl;rw[hA]at k1 k2 k3 A;unfold ib;generalize gC s=c at k1 k2 k3 A;apply az;refine cq (GR (F:=hdP) (toD:=nrD) (ds:=[.int 3,.int 2,.int 2,.int 1]) (λd s hd h=>?_) (λd s=>GV d s) k1 (by unfold mV;rw[au rfl];rfl) (by decide)) ?_
  .obtain⟨m,rfl⟩:∃m,d=.int m:=by
    simp only[bG,bJ,or_false]at hd
    rcases hd with e |e |e |e <;> exact⟨_,e⟩
   have B:=(l8 s).1;refine dY (av (eV (i:=1) (ρ1:=[.im (.int m),.pin l [.int s]]) rfl rfl rfl (AC l s h)) (av (wP (ds:=[.int m,.int (dr (bg s).1 4)]) (av (au rfl) (av (eV (i:=1) (ρ1:=[.im (.int m),.pin l [.int (bg s).1]]) rfl (av (au rfl) rfl) rfl (l6 l _ 4 B (by decide))) rfl)) rfl) rfl))
  obtain⟨Q,h2,h3⟩:=AJ c.1;show wp _ [.pin l [.int (ia c.1).1],.own (c.2.map sT),j,n,.im (.lst ((ia c.1).2.map nrD)),.no,.no] _;generalize ia c.1=g at Q h2 h3;have d4:=ba g.1 (k:=4) (by decide);apply az;refine fh rfl ?_;show wp _ [.pin l [.int g.1],.own (c.2.map sT),j,n,.im (.lst (g.2.map nrD)),.own [],.no] _;refine lL (λU=>∃z j n r,(z=Sl.own (c.2.map sT)\/z=.im (.lst (c.2.map sT)))/\U=[.pin l [.int (nF g.1 c.2).1],z,j,n,.im (.lst (g.2.map nrD)),.own ((nF g.1 c.2).2.map kdD),r]) ?_ ?_
  .refine rC (pL (bO l g.1 4 _ rfl Q (by decide)) (by lia) (by lia)) ?_;refine fZ (di (dr g.1 4).toNat) (λi=>D.int i) (λpre U=>∃z j n r,(z=Sl.own (c.2.map sT)\/z=.im (.lst (c.2.map sT)))/\U=[.pin l [.int (itN (kdS c.2) pre.length (nx g.1,[])).1],z,j,n,.im (.lst (g.2.map nrD)),.own ((itN (kdS c.2) pre.length (nx g.1,[])).2.map kdD),r]) rfl ⟨_,_,_,_,.inl rfl,rfl⟩ ?_ ?_
   .rintro pre x post U E ⟨z,j,n,r,y,rfl⟩;refine⟨_,rfl,?_⟩;obtain⟨T,q2,q3⟩:=AI k2 (be g.1) pre.length
    have v:pre.length<4:=by
     have:=congrArg g6 E;rw[eD,bh,b9]at this;lia
    rw[bh,show([x]:LN).length=1 from rfl];generalize G:itN (kdS c.2) pre.length (nx g.1,[])=p at T q2 q3;have t:itN (kdS c.2) (pre.length+1) (nx g.1,[])=kdS c.2 p:=by rw[<- G];rfl
    rw[t];apply az;refine cq (wR l p.1 _ T) ?_;obtain⟨B,_⟩:=l8 p.1;show wp _ [.pin l [.int (bg p.1).1],z,.im (.int x),.im (sT (bg p.1).2),.im (.lst (g.2.map nrD)),.own (p.2.map kdD),r] _;apply az
    refine iF (ρ':=[.pin l [.int (bg p.1).1],.im (.lst (c.2.map sT)),.im (.int x),.im (sT (bg p.1).2),.im (.lst (g.2.map nrD)),.own (p.2.map kdD),r]) (by rcases y with rfl |rfl <;> rfl) ?_
    obtain⟨M,N⟩:=AF c.2 _ B;refine cq (GS (ps:=c.2) (λd s h=>bxX (bY (eV (i:=1) (ρ1:=[.im d,.pin l [.int s]]) rfl (av (au rfl) rfl) rfl (l6 l s 4 h (by decide))) (au rfl) kf)) B (by unfold mV;rw[au rfl];rfl) (by lia)) ?_;show wp _ [.pin l [.int (fiP c.2 (bg p.1).1).1],.im (.lst (c.2.map sT)),.im (.int x),.im (sT (bg p.1).2),.im (.lst (g.2.map nrD)),.own (p.2.map kdD),.im (.lst ((fiP c.2 (bg p.1).1).2.map sT))] _;have fl:=N.length_le;unfold kdS;generalize fiP c.2 (bg p.1).1=f at M N fl;have Y:b7 1 [] (aP 5) (aO 0) kY (mIx (aP 0) (kI 0)) [.pin l [.int f.1],.im (.lst (c.2.map sT)),.im (.int x),.im (sT (bg p.1).2),.im (.lst (g.2.map nrD)),.own (p.2.map kdD),.im (.lst (f.2.map sT))]=aa ((p.2.map (·.1)).map sT):=sZ (L:=p.2) (f:=kdD) (q:=(·.1)) rfl λz=>⟨_,rfl⟩;have d2:=ba f.1 (k:=2) (by decide);refine bw (jF (aV (aF (bx (aj rfl rfl) (c9 f.2 sT)) rfl kf)) (aV (aF rfl (bn Y) (kK _ _)))) (λe=>?_) λe=>bD ?_
    .rw[cx,decide_eq_true_eq,Bool.not_eq_true',decide_eq_false_iff_not]at e;rw[if_pos ⟨by lia,e.2⟩];refine sW (ρ1:=[.pin l [.int (nx f.1)],.im (.lst (c.2.map sT)),.im (.int x),.im (sT (bg p.1).2),.im (.lst (g.2.map nrD)),.own (p.2.map kdD),.im (.lst (f.2.map sT))]) rfl (dY (av (au rfl) (av (d:=.lst ((if dr f.1 2=0 then f.2 else f.2.reverse).map sT)) ?_ rfl))) rfl (by rw[aW];lia) ⟨.im (.lst (c.2.map sT)),.im (.int x),.im (sT (bg p.1).2),.im (.lst (f.2.map sT)),.inr rfl,?_⟩
     .unfold sh;rw[au rfl,aJ,bY (au rfl) (bY (au rfl) (bO l f.1 2 _ rfl M (by decide)) (lM (.inl (.inl ⟨by decide,by decide⟩)))) iH,aJ]
      rcases(show dr f.1 2=0\/dr f.1 2=1 by lia)with e0 |e0
      .rw[e0];rfl
      .rw[e0];show aa (D.lst ((f.2.map sT).reverse),_)=_;rw[<- map_reverse];rfl
     .rw[cK];rfl
    .have u:¬(0<f.2.length/\(bg p.1).2∉p.2.map (·.1)):=λz=>by
      rw[decide_eq_true (show(0:Int)<(f.2.length:Nat) by lia),decide_eq_false z.2]at e
      nomatch e
     rw[if_neg u];exact⟨_,_,_,_,.inr rfl,rfl⟩
   .rintro U ⟨z,j,n,r,y,rfl⟩;rw[eD];exact k_J ⟨z,j,n,r,y,rfl⟩
  rintro _ ⟨z,j,n,r,y,rfl⟩;refine iF (i:=5) rfl ?_
  refine iF (i:=1) (ρ':=[.pin l [.int (nF g.1 c.2).1],.im (.lst (c.2.map sT)),j,n,.im (.lst (g.2.map nrD)),.im (.lst ((nF g.1 c.2).2.map kdD)),r]) (by rcases y with rfl |rfl <;> rfl) ?_
  exact cB rfl ⟨_,_,_,_,_,_,rfl⟩
 obtain⟨o,e,H,j,n,I,J,r,rfl⟩:=w;exact fE e rfl
@[reducible]noncomputable def Th:=LN×L2N
@[reducible]noncomputable def Ti:=Th×Int
@[reducible]noncomputable def Pr:=LN×LN
@[reducible]noncomputable def cZ(z:Ti):D:=.tup [kdD z.1,.int z.2]
@[reducible]noncomputable def prD(p:Pr):D:=.tup [sT p.1,sT p.2]
inductive Pa where
 |is (t:Th)
 |no (t:Th)
 |un (a b:LN)
 |ct (w:Bool) (n:Int) (its:List Ti) (ov:List Pr)
@[reducible]noncomputable def Pa.toD:Pa->D
 |.is t=>.tup [.str "is",kdD t]
 |.no t=>.tup [.str "not",kdD t]
 |.un a b=>.tup [.str "unlike",sT a,sT b]
 |.ct w n its ov=>.tup [.str (if w then "least" else "most"),.int n,.lst (its.map cZ),.lst (ov.map prD)]
inductive Ro where
 |kind (n:LN) (ns:L2N)
 |rule (b:Bool) (t:Th) (bd:List Pa) (ps:List Pr)
 |choose (lo hi:Int) (its:List Ti) (ov:List Pr) (bd:List Pa) (ps:List Pr)
 |never (bd:List Pa) (ps:List Pr)
@[reducible]noncomputable def Ro.toD:Ro->D
 |.kind n ns=>.tup [.str "kind",sT n,.lst (ns.map sT)]
 |.rule b t bd ps=>.tup [.str (if b then "rule" else "may"),kdD t,.lst (bd.map Pa.toD),.lst (ps.map prD)]
 |.choose lo hi its ov bd ps=>.tup [.str "choose",.int lo,.int hi,.lst (its.map cZ),.lst (ov.map prD),.lst (bd.map Pa.toD),.lst (ps.map prD)]
 |.never bd ps=>.tup [.str "never",.lst (bd.map Pa.toD),.lst (ps.map prD)]
abbrev b8{c:Type}(L:List c)(z:c)(k:Int):c:=L.getD k.toNat z
def gY{e:Type}{L:List e}{z:e}(h:0<=k/\k<(L.length:Nat)):b8 L z k∈L:=by
 have c:k.toNat<L.length:=by lia
 unfold b8;rw[ij,eM c];exact mf c
def GX{c:Type}{L:List c}{z:c}(f:c->D)(h:0<=k/\k<(L.length:Nat)):atI (L.map f) k=aa (f (b8 L z k)):=by
 have e:k.toNat<L.length:=by lia
 unfold atI ixN b8;rw[if_pos h.1,if_pos (by rw[aW];lia),aJ,fm,eM e,ij,eM e];rfl
def ji{c:Type}{L:List c}{z:c}(f:c->D)(h:0<=k/\k<(L.length:Nat)):cO (.lst (L.map f)) (.int k)=aa (f (b8 L z k)):=GX f h
abbrev gc(y:Lay)(kn:L2N)(s:Int):Int×LN:=
 if kn=[] then (nx s,b8 y.p [] (dr s (y.p.length:Nat)))
 else if 0<dr s 4 then (nx (nx s),b8 kn [] (dr (nx s) (kn.length:Nat))) else (nx (nx s),b8 y.p [] (dr (nx s) (y.p.length:Nat)))
abbrev thP(y:Lay)(kn:L2N)(s:Int):Int×Th:=((itP (gc y kn) (b8 y.h ([],0) (dr s 4)).2.toNat (nx s)).1,((b8 y.h ([],0) (dr s 4)).1,(itP (gc y kn) (b8 y.h ([],0) (dr s 4)).2.toNat (nx s)).2))
abbrev prS(ks:List (LN×L2N))(kn:L2N)(p:Int×List Pr):Int×List Pr:=
 if (bF p.1).2∈kn++p.2.map (·.1) then ((bF p.1).1,p.2) else (nx (bF p.1).1,p.2++[((bF p.1).2,(b8 ks ([],[]) (dr (bF p.1).1 (ks.length:Nat))).1)])
abbrev prN(ks:List (LN×L2N))(most s:Int):Nat:=if 0<ks.length then (if dr s 6 / 2+dr (nx s) 2<most then dr s 6 / 2+dr (nx s) 2 else most).toNat else 0
abbrev c5(ks:List (LN×L2N))(kn:L2N)(most s:Int):Int×List Pr:=itN (prS ks kn) (prN ks most s) (nx (nx s),[])
abbrev itS(y:Lay)(kn:L2N)(s:Int):Int×Ti:=((thP y kn (nx (ci s).1)).1,((thP y kn (nx (ci s).1)).2,if dr (ci s).1 2=0 then 1 else ((ci s).2.natAbs:Int)))
@[reducible]noncomputable def vrs(ps:List Pr):L2N:=ps.map (·.1)
abbrev cP(y:Lay)(kn:L2N)(ks:List (LN×L2N))(many s:Int):Int×(List Ti×List Pr):=
 ((itP (itS y (kn++vrs (c5 ks kn 2 s).2)) (1+dr (c5 ks kn 2 s).1 many).toNat (nx (c5 ks kn 2 s).1)).1,((itP (itS y (kn++vrs (c5 ks kn 2 s).2)) (1+dr (c5 ks kn 2 s).1 many).toNat (nx (c5 ks kn 2 s).1)).2,(c5 ks kn 2 s).2))
abbrev unS(y:Lay)(kn:L2N)(s:Int):Int×Pa:=
 (nx (nx (nx s)),if dr (nx (nx s)) 2=0 then .un (b8 (kn++y.p) [] (dr (nx s) ((kn++y.p).length:Nat))) (b8 kn [] (dr s (kn.length:Nat))) else .un (b8 kn [] (dr s (kn.length:Nat))) (b8 (kn++y.p) [] (dr (nx s) ((kn++y.p).length:Nat))))
abbrev ctS(y:Lay)(kn:L2N)(ks:List (LN×L2N))(w:Bool)(s:Int):Int×Pa:=
 ((ci (cP y kn ks 2 s).1).1,.ct w (ci (cP y kn ks 2 s).1).2 (cP y kn ks 2 s).2.1 (cP y kn ks 2 s).2.2)
abbrev eW(y:Lay)(kn:L2N)(ks:List (LN×L2N))(s:Int):Int×Pa:=
 if dr s 6=0/\kn≠[] then unS y kn (nx s)
 else if dr s 6<3 then ctS y kn ks (decide (dr s 6 % 2=0)) (nx s)
 else ((thP y kn (nx s)).1,if dr s 6=4 then .no (thP y kn (nx s)).2 else .is (thP y kn (nx s)).2)
abbrev gE(y:Lay)(kn:L2N)(ks:List (LN×L2N))(s:Int):Int×List Pa:=itP (eW y kn ks) (dr s 4).toNat (nx s)
abbrev pO(y:Lay)(ks:List (LN×L2N))(ps:List Pr)(bd:List Pa)(s:Int):Int×Ro:=
 if dr s 4=0 then ((thP y (vrs ps) (nx s)).1,.never (bd++[.is (thP y (vrs ps) (nx s)).2]) ps)
 else if dr s 4=1 then ((ci (ci (cP y (vrs ps) ks 3 (nx s)).1).1).1,.choose (ci (cP y (vrs ps) ks 3 (nx s)).1).2 (ci (ci (cP y (vrs ps) ks 3 (nx s)).1).1).2 (cP y (vrs ps) ks 3 (nx s)).2.1 (cP y (vrs ps) ks 3 (nx s)).2.2 bd ps)
 else ((thP y (vrs ps) (nx s)).1,.rule (decide (dr s 4=3)) (thP y (vrs ps) (nx s)).2 bd ps)
abbrev ge(y:Lay)(ks:List (LN×L2N))(s:Int):Int×Ro:=pO y ks (c5 ks [] 3 s).2 (gE y (vrs (c5 ks [] 3 s).2) ks (c5 ks [] 3 s).1).2 (gE y (vrs (c5 ks [] 3 s).2) ks (c5 ks [] 3 s).1).1
abbrev gF(vs:L2N)(w:LN):Prop:=w∈vs\/bN w=ac
abbrev iM(vs:L2N)(t:Th):Prop:=∀w∈t.2,gF vs w
structure jQ(ks:L2N)(vs:L2N)(ps:List Pr):Prop where
 nd:(vs++vrs ps).Nodup
 kd:∀p∈ps,p.2∈ks
 vr:∀p∈ps,cT p.1=ac
abbrev PsL(ks:L2N)(vs:L2N)(ps:List Pr):Prop:=jQ ks vs ps/\ps.length<=3
abbrev nG(ks vs:L2N):Pa->Prop
 |.is t=>iM vs t
 |.no t=>iM vs t
 |.un a b=>gF vs a/\gF vs b
 |.ct _ _ its ov=>PsL ks vs ov/\∀z∈its,iM (vs++vrs ov) z.1
abbrev pP(ks:L2N):Ro->Prop
 |.kind _ _=>False
 |.rule _ t bd ps=>PsL ks [] ps/\iM (vrs ps) t/\∀p∈bd,nG ks (vrs ps) p
 |.choose _ _ its ov bd ps=>PsL ks [] ps/\(PsL ks (vrs ps) ov/\∀z∈its,iM (vrs ps++vrs ov) z.1)/\∀p∈bd,nG ks (vrs ps) p
 |.never bd ps=>PsL ks [] ps/\∀p∈bd,nG ks (vrs ps) p
section
variable{y:Lay}(hy:gD y)
include hy
def wS{kn:L2N}(s:Int)(e:kn.length<=1000):okS (gc y kn s).1/\gF kn (gc y kn s).2:=by
 obtain⟨g,c,j,n⟩:=hy.p;have dp:∀s,gF kn (b8 y.p [] (dr s (y.p.length:Nat))):=λs=>.inr (c _ (gY (ba s (by lia))));unfold gc;split
 .exact⟨be _,dp _⟩
 .rename_i h;split
  .exact⟨be _,.inl (gY (ba _ (by have:=eX.mpr h;lia)))⟩
  .exact⟨be _,dp _⟩
def kL{kn:L2N}(s:Int)(c:kn.length<=1000):okS (thP y kn s).1/\iM kn (thP y kn s).2/\(thP y kn s).2.2.length<=3:=by
 obtain⟨j,e⟩:=hy.h;have d:=ba s (k:=4) (by decide);have hm:=e _ (gY (L:=y.h) (z:=([],0)) (k:=dr s 4) (by lia));obtain⟨a,b⟩:=l7 (F:=gc y kn) (λs=>(wS hy s c).1) (b8 y.h ([],0) (dr s 4)).2.toNat (nx s) (be _);refine⟨a,λw g=>nB (F:=gc y kn) (P:=gF kn) (λs=>(wS hy s c).2) _ _ w g,?_⟩;show(itP (gc y kn) _ (nx s)).2.length<=3;rw[b];lia
end
abbrev pQ(ks:L2N)(kn:L2N)(n:Nat)(p:Int×List Pr):Prop:=okS p.1/\jQ ks kn p.2/\p.2.length<=n
variable{ks:List (LN×L2N)}{kn:L2N}
def AL(t:0<ks.length)(n:Nat)(p:Int×List Pr)(h:pQ (ks.map (·.1)) kn n p):pQ (ks.map (·.1)) kn (n+1) (prS ks kn p):=by
 obtain⟨_,g,o⟩:=h;obtain⟨a,b⟩:=nE p.1;unfold prS;split
 .exact⟨a,g,Nat.le_succ_of_le o⟩
 .rename_i hn;refine⟨be _,⟨?_,λq c=>?_,λq c=>?_⟩,by rw[bh,fS];lia⟩
  .show(kn++(p.2++[((bF p.1).2,(b8 ks ([],[]) (dr (bF p.1).1 (ks.length:Nat))).1)]).map (λz=>z.1)).Nodup;rw[cK,<- ik];refine mj.mpr ⟨g.nd,by simp,λx j z r e=>?_⟩;rw[show z=(bF p.1).2 from aU.mp r]at e;rw[e]at j;exact hn j
  .rcases bV.mp c with c |c
   .exact g.kd q c
   .rw[aU.mp c];exact gJ.mpr ⟨_,gY (ba _ (by lia)),rfl⟩
  .rcases bV.mp c with c |c
   .exact g.vr q c
   .rw[aU.mp c];exact b
def AM(ks:List (LN×L2N))(most s:Int)(h:0<=most):prN ks most s<=most.toNat/\prN ks most s<=3/\(ks=[]->prN ks most s=0):=by
 have g:=ba s (k:=6) (by decide);have c:=ba (nx s) (k:=2) (by decide);unfold prN;refine⟨?_,?_,λe=>by rw[e];rfl⟩
 .split
  .split <;> lia
  .omega
 .split
  .split <;> lia
  .omega
def nH(hn:kn.Nodup)(most s:Int)(h:0<=most):okS (c5 ks kn most s).1/\jQ (ks.map (·.1)) kn (c5 ks kn most s).2/\(c5 ks kn most s).2.length<=3:=by
 obtain⟨a,b,c⟩:=AM ks most s h;have e:pQ (ks.map (·.1)) kn 0 (nx (nx s),[]):=⟨be _,⟨by simpa using hn,λ_ z=>(bJ z).elim,λ_ z=>(bJ z).elim⟩,bC _⟩;unfold c5
 by_cases g:0<ks.length
 .obtain⟨o,q,r⟩:=pN (I:=pQ (ks.map (·.1)) kn) (λn p j=>AL g n p j) e (prN ks most s);exact⟨o,q,by lia⟩
 .rw[c (pZ.mp (by lia))];exact⟨e.1,e.2.1,by simp[itN]⟩
section
variable{y:Lay}(hy:gD y)
include hy
def wT{kn:L2N}(s:Int)(c:kn.length<=1000):okS (itS y kn s).1/\iM kn (itS y kn s).2.1:=⟨(kL hy _ c).1,(kL hy _ c).2.1⟩
def nI{kn:L2N}(ks:List (LN×L2N))(hn:kn.Nodup)(p:kn.length<=100){many:Int}(hm:0<many)(s:Int):okS (cP y kn ks many s).1/\jQ (ks.map (·.1)) kn (cP y kn ks many s).2.2/\(∀z∈(cP y kn ks many s).2.1,iM (kn++vrs (cP y kn ks many s).2.2) z.1)/\(cP y kn ks many s).2.2.length<=3/\(cP y kn ks many s).2.1.length<=many.toNat:=by
 obtain⟨h,c,e⟩:=nH (ks:=ks) hn 2 s (by decide);unfold cP;generalize c5 ks kn 2 s=q at h c e;have g:(kn++vrs q.2).length<=1000:=by rw[bh,aW];lia
 obtain⟨j,n⟩:=l7 (F:=itS y (kn++vrs q.2)) (λs=>(wT hy s g).1) (1+dr q.1 many).toNat (nx q.1) (be _);have d:=ba q.1 hm;refine⟨j,c,λz o=>nB (F:=itS y (kn++vrs q.2)) (P:=λz=>iM (kn++vrs q.2) z.1) (λs=>(wT hy s g).2) _ _ z o,e,?_⟩;show(itP (itS y _) _ _).2.length<=_;rw[n];lia
def wU{kn:L2N}(ks:List (LN×L2N))(hn:kn.Nodup)(q:kn.length<=100)(s:Int):okS (eW y kn ks s).1/\nG (ks.map (·.1)) kn (eW y kn ks s).2:=by
 obtain⟨u,r,v,A⟩:=hy.p;unfold eW;split
 .rename_i h;have t:=eX.mpr h.2;have g:∀s,gF kn (b8 kn [] (dr s (kn.length:Nat))):=λs=>.inl (gY (ba _ (by lia)))
  have j:∀s,gF kn (b8 (kn++y.p) [] (dr s ((kn++y.p).length:Nat))):=λs=>by
   rcases bV.mp (gY (L:=kn++y.p) (z:=[]) (ba s (k:=((kn++y.p).length:Nat)) (by rw[bh];lia)))with z |z
   .exact .inl z
   .exact .inr (r _ z)
  refine⟨be _,?_⟩;unfold unS;dsimp only;split
  .exact⟨j _,g _⟩
  .exact⟨g _,j _⟩
 .split
  .obtain⟨e,c,n,o,_⟩:=nI hy ks hn q (many:=2) (by decide) (nx s);exact⟨(sV _).1,⟨c,o⟩,n⟩
  .obtain⟨e,c,_⟩:=kL hy (kn:=kn) (nx s) (by lia);refine⟨e,?_⟩;dsimp only;split
   .exact c
   .exact c
def wV{kn:L2N}(ks:List (LN×L2N))(hn:kn.Nodup)(c:kn.length<=100)(s:Int):okS (gE y kn ks s).1/\(∀p∈(gE y kn ks s).2,nG (ks.map (·.1)) kn p)/\(gE y kn ks s).2.length<=3:=by
 have d:=ba s (k:=4) (by decide);obtain⟨e,g⟩:=l7 (F:=eW y kn ks) (λs=>(wU hy ks hn c s).1) (dr s 4).toNat (nx s) (be _);refine⟨e,nB (F:=eW y kn ks) (λs=>(wU hy ks hn c s).2) _ _,?_⟩;show(itP _ _ _).2.length<=_;rw[g];lia
def GY(ks:List (LN×L2N))(s:Int):okS (ge y ks s).1/\pP (ks.map (·.1)) (ge y ks s).2:=by
 obtain⟨r,c,g⟩:=nH (ks:=ks) (kn:=[]) g7 3 s (by decide);unfold ge;generalize c5 ks [] 3 s=q at r c g;have hn:(vrs q.2).Nodup:=by simpa using c.nd
 have j:(vrs q.2).length<=100:=by rw[aW];lia
 obtain⟨t,h,u⟩:=wV hy ks hn j q.1;generalize gE y (vrs q.2) ks q.1=b at t h u;obtain⟨n,o,_⟩:=kL hy (kn:=vrs q.2) (nx b.1) (by lia);unfold pO;split
 .refine⟨n,⟨c,g⟩,λp e=>?_⟩
  rcases bV.mp e with e |e
  .exact h p e
  .rw[aU.mp e];exact o
 .split
  .obtain⟨B,v,z,A,_⟩:=nI hy ks hn j (many:=3) (by decide) (nx b.1);exact⟨(sV _).1,⟨c,g⟩,⟨⟨v,A⟩,z⟩,h⟩
  .exact⟨n,⟨c,g⟩,o,h⟩
end
variable{g:Xt}
def AN{f:Xt}(h:f U=aa (ac,ρ1))(c:g ρ1=aa (b,b5)):jJ f g U=aa (b,b5):=by
 unfold jJ;rw[h,aJ,if_pos rfl,c]
def AO{f:Xt}(h:f U=aa (ak,ρ1)):jJ f g U=aa (ak,ρ1):=by
 unfold jJ;rw[h,aJ];rfl
def tX1{f:MF4}(h:f U=aa b):mTX f U=aa (b,U):=by
 unfold mTX;rw[h];rfl
def wW{c:Type}(F:Int->Int×c):∀n s,itP F (n+1) s=((F (itP F n s).1).1,(itP F n s).2++[(F (itP F n s).1).2])
 | 0,s=>rfl
 |n+1,s=>by
  show((itP F (n+1) (F s).1).1,(F s).2::(itP F (n+1) (F s).1).2)=_;rw[wW F n (F s).1];rfl
def nJ(n:Nat):dGt (.int (n:Nat)) (.int 0)=aa (.bl (decide (0<n))):=by
 rw[kf]
 congr 2
 exact decide_eq_decide.mpr (by lia)
variable{y:Lay}
def GZ(r:gD y)(l:Addr)(kn:L2N)(Q:kn.length<=1000)(s:Int)(T:okS s):m_9 l [] [y.toD,.lst (kn.map sT)] [.int s]=aa ([.int (thP y kn s).1],kdD (thP y kn s).2):=by
 obtain⟨h1,M⟩:=r.h;obtain⟨p1,p2,I,p4⟩:=r.p;have d:=ba s (k:=4) (by decide);have hm:=M _ (gY (L:=y.h) (z:=([],0)) (k:=dr s 4) (by lia))
 have w:wp b_9 [.pin l [.int s],.im y.toD,.im (.lst (kn.map sT)),.no,.no,.no,.no] (λo=>∃u v A j,o=.rtS (kdD (thP y kn s).2) [.pin l [.int (thP y kn s).1],.im y.toD,.im (.lst (kn.map sT)),u,v,A,j]):=by
  unfold b_9 thP;apply az;refine vM (bY (au (aZ rfl rfl (sY _ _))) (bO l s 4 _ rfl T (by decide)) (ji (z:=([],0)) nrD (by lia))) rfl ?_;generalize b8 y.h ([],0) (dr s 4)=x at hm;show wp _ [.pin l [.int (nx s)],.im y.toD,.im (.lst (kn.map sT)),.im (sT x.1),.im (.int x.2),.no,.no] _;apply az;refine fh rfl ?_;show wp _ [.pin l [.int (nx s)],.im y.toD,.im (.lst (kn.map sT)),.im (sT x.1),.im (.int x.2),.own [],.no] _;refine lL (λU=>∃j,U=[.pin l [.int (itP (gc y kn) x.2.toNat (nx s)).1],.im y.toD,.im (.lst (kn.map sT)),.im (sT x.1),.im (.int x.2),.own ((itP (gc y kn) x.2.toNat (nx s)).2.map sT),j]) ?_ ?_
  .refine fZ (di x.2.toNat) (λi=>D.int i) (λpre U=>∃j,U=[.pin l [.int (itP (gc y kn) pre.length (nx s)).1],.im y.toD,.im (.lst (kn.map sT)),.im (sT x.1),.im (.int x.2),.own ((itP (gc y kn) pre.length (nx s)).2.map sT),j]) ?_ ⟨_,rfl⟩ ?_ ?_
   .unfold gR;rw[aj rfl rfl,aJ,sS x.2 hm.2.1 (by lia)]
   .rintro pre i post U N ⟨j,rfl⟩;refine⟨_,rfl,?_⟩;obtain⟨k1,k2⟩:=l7 (F:=gc y kn) (λs=>(wS r s Q).1) pre.length (nx s) (be _)
    have H:pre.length<4:=by
     have:=congrArg g6 N;rw[eD,bh,b9]at this;lia
    rw[bh,show([i]:LN).length=1 from rfl,wW];generalize itP (gc y kn) pre.length (nx s)=p at k1 k2;show wp _ [.pin l [.int p.1],.im y.toD,.im (.lst (kn.map sT)),.im (sT x.1),.im (.int x.2),.own (p.2.map sT),.im (.int i)] _;have c:mB (m2 dGt (aQ bL (af (ag 2) nZ)) (kI 0)) [.pin l [.int p.1],.im y.toD,.im (.lst (kn.map sT)),.im (sT x.1),.im (.int x.2),.own (p.2.map sT),.im (.int i)]=aa (decide (0<kn.length)):=aV (aF (bx (aj rfl rfl) (c9 kn sT)) rfl (nJ _))
    have q:∀(f:MF1) (L:L2N) t (K:Fl->Prop),okS t->0<L.length->(∀t,f [.pin l [.int t],.im y.toD,.im (.lst (kn.map sT)),.im (sT x.1),.im (.int x.2),.own (p.2.map sT),.im (.int i)]=aa (.lst (L.map sT)))->K (.nx [.pin l [.int (nx t)],.im y.toD,.im (.lst (kn.map sT)),.im (sT x.1),.im (.int x.2),.own ((p.2++[b8 L [] (dr t (L.length:Nat))]).map sT),.im (.int i)])->wp (jc 5 (mX2 cO (mX f) (aN 0 m_0 (ao (mX (aQ bL (af f nZ))) aw)))) [.pin l [.int t],.im y.toD,.im (.lst (kn.map sT)),.im (sT x.1),.im (.int x.2),.own (p.2.map sT),.im (.int i)] K:=λf L t K Y hL E B=>by
     refine sW rfl (bY (au (E t)) (bO l t (L.length:Nat) _ (bx (aj (E t) rfl) (c9 L sT)) Y (by lia)) (ji (z:=[]) sT (ba t (by lia)))) rfl (by rw[aW];lia) ?_;rw[cK]at B;exact B
    unfold gc
    by_cases n:kn=[]
    .rw[if_pos n];have J:decide (0<kn.length)=ak:=by rw[n];rfl
     rw[J]at c;refine l5 (AO (tX1 c)) (λe=>nomatch e) λ_=>?_;exact q _ y.p p.1 _ k1 I (λ_=>aZ rfl rfl rfl) ⟨_,rfl⟩
    .rw[if_neg n];have G:=eX.mpr n;rw[decide_eq_true G]at c;refine l5 (AN (tX1 c) (bxX (bY (bO l p.1 4 _ rfl k1 (by decide)) (au rfl) kf))) (λe=>?_) λe=>?_
     .rw[if_pos (of_decide_eq_true e)];exact q _ kn (nx p.1) _ (be _) G (λ_=>rfl) ⟨_,rfl⟩
     .rw[if_neg (of_decide_eq_false e)];exact q _ y.p (nx p.1) _ (be _) I (λ_=>aZ rfl rfl rfl) ⟨_,rfl⟩
   .rintro U ⟨j,rfl⟩;rw[eD];exact k_J ⟨j,rfl⟩
  rintro _ ⟨j,rfl⟩;refine iF rfl ?_;exact cB rfl ⟨_,_,_,_,rfl⟩
 obtain⟨o,e,u,v,A,j,rfl⟩:=w;exact fE e rfl
variable{f:MF1}
def AQ{g:MF1}{a b:LD}(h:f U=aa (.lst a))(h':g U=aa (.lst b))(c:a.length+b.length<=16777216):i6 f g U=aa (a++b):=by
 unfold i6;rw[h,h'];show(if a.length+b.length<=16777216 then aa _ else ae)=_;rw[if_pos c]
def G0(l:Addr)(s:Int)(r:LS)(h:okS s):aN 0 nv aw (.pin l [.int s]::r)=aa (sT (bF s).2,.pin l [.int (bF s).1]::r):=pK (toD:=sT) (λs h=>wO l s h) s r h
def td(l:Addr)(s:Int)(r:LS)(h:okS s):aN 0 lZ aw (.pin l [.int s]::r)=aa (.int (ci s).2,.pin l [.int (ci s).1]::r):=pK (toD:=D.int) (λs h=>GQ l s h) s r h
def AR(l:Addr)(ks:List (LN×L2N))(kn:L2N)(Q:ks.length<=100)(hk:kn.length<=100)(hn:kn.Nodup)(most:Int)(hm:0<=most/\most<=3)(s:Int)(T:okS s):sL l [] [.lst (ks.map kdD),.lst (kn.map sT),.int most] [.int s]=aa ([.int (c5 ks kn most s).1],.lst ((c5 ks kn most s).2.map prD)):=by
 have d6:=ba s (k:=6) (by decide);have d2:=ba (nx s) (k:=2) (by decide);obtain⟨_,M,u⟩:=AM ks most s hm.1
 have w:wp py [.pin l [.int s],.im (.lst (ks.map kdD)),.im (.lst (kn.map sT)),.im (.int most),.no,.no,.no] (λo=>∃E c j,o=.rtS (.lst ((c5 ks kn most s).2.map prD)) [.pin l [.int (c5 ks kn most s).1],.im (.lst (ks.map kdD)),.im (.lst (kn.map sT)),.im (.int most),E,c,j]):=by
  unfold py;apply az;refine fh rfl ?_;show wp _ [.pin l [.int s],.im (.lst (ks.map kdD)),.im (.lst (kn.map sT)),.im (.int most),.own [],.no,.no] _
  have H:(mX2 i9 (km oM (ao (mX (ag 3)) (ao (mX2 ce (mX2 oq (aN 0 m_0 (ao (mX (kI 6)) aw)) (mX (kI 2))) (aN 0 m_0 (ao (mX (kI 2)) aw))) aw))) (mX (mZ (m2 dGt (aQ bL (af (ag 1) nZ)) (kI 0))))) [.pin l [.int s],.im (.lst (ks.map kdD)),.im (.lst (kn.map sT)),.im (.int most),.own [],.no,.no]=aa (.int (prN ks most s:Nat),[.pin l [.int (nx (nx s))],.im (.lst (ks.map kdD)),.im (.lst (kn.map sT)),.im (.int most),.own [],.no,.no]):=by
   have r:mZ (m2 dGt (aQ bL (af (ag 1) nZ)) (kI 0)) [.pin l [.int (nx (nx s))],.im (.lst (ks.map kdD)),.im (.lst (kn.map sT)),.im (.int most),.own [],.no,.no]=aa (.int (if decide (0<ks.length) then 1 else 0)):=by
    unfold mZ;rw[aF (bx (aj rfl rfl) (c9 ks kdD)) rfl (nJ _)];rfl
   refine bY (wP (ds:=[.int most,.int (dr s 6 / 2+dr (nx s) 2)]) (d:=.int (if dr s 6 / 2+dr (nx s) 2<most then dr s 6 / 2+dr (nx s) 2 else most)) (av (au rfl) (av (bY (bY (bO l s 6 _ rfl T (by decide)) (au rfl) (vf ⟨by decide,by decide⟩)) (bO l (nx s) 2 _ rfl (be _) (by decide)) gy) rfl)) rfl) (au r) ?_
   rw[lM (.inr ⟨by split <;> lia,by split <;> decide⟩)]
   congr 2
   unfold prN
   by_cases h:0<ks.length
   .rw[if_pos h,decide_eq_true h,if_pos rfl,Int.mul_one,Int.toNat_of_nonneg (by split <;> lia)]
   .rw[if_neg h,decide_eq_false h,show(if ak=ac then (1:Int) else 0)=0 from rfl,Int.mul_zero];rfl
  refine lL (λU=>∃c j,U=[.pin l [.int (c5 ks kn most s).1],.im (.lst (ks.map kdD)),.im (.lst (kn.map sT)),.im (.int most),.own ((c5 ks kn most s).2.map prD),c,j]) ?_ ?_
  .refine rC (pL H (by lia) (by lia)) ?_;rw[kX];refine fZ (di (prN ks most s)) (λi=>D.int i) (λpre U=>∃c j,U=[.pin l [.int (itN (prS ks kn) pre.length (nx (nx s),[])).1],.im (.lst (ks.map kdD)),.im (.lst (kn.map sT)),.im (.int most),.own ((itN (prS ks kn) pre.length (nx (nx s),[])).2.map prD),c,j]) rfl ⟨_,_,rfl⟩ ?_ ?_
   .rintro pre i post U N ⟨c,j,rfl⟩;refine⟨_,rfl,?_⟩
    have t:pre.length<prN ks most s:=by
     have:=congrArg g6 N;rw[eD,bh,b9]at this;lia
    have v:0<ks.length:=by
     rcases Nat.eq_zero_or_pos ks.length with z |z
     .rw[u (pZ.mp z)]at t;lia
     .exact z
    obtain⟨k1,k2,k3⟩:=pN (I:=pQ (ks.map (·.1)) kn) (λn p A=>AL v n p A) (p:=(nx (nx s),[])) ⟨be _,⟨by simpa using hn,λ_ z=>(bJ z).elim,λ_ z=>(bJ z).elim⟩,bC _⟩ pre.length;rw[bh,show([i]:LN).length=1 from rfl];show wp _ _ λo=>_;generalize A:itN (prS ks kn) pre.length (nx (nx s),[])=p at k1 k2 k3;have B:itN (prS ks kn) (pre.length+1) (nx (nx s),[])=prS ks kn p:=by rw[<- A];rfl
    rw[B];obtain⟨Y,_⟩:=nE p.1;apply az;refine cq (G0 l p.1 _ k1) ?_;show wp _ [.pin l [.int (bF p.1).1],.im (.lst (ks.map kdD)),.im (.lst (kn.map sT)),.im (.int most),.own (p.2.map prD),.im (.int i),.im (sT (bF p.1).2)] _
    have J:ax (i6 (ag 2) (ax (b7 1 [] (aP 4) (aO 0) kY (mIx (aP 0) (kI 0))))) [.pin l [.int (bF p.1).1],.im (.lst (ks.map kdD)),.im (.lst (kn.map sT)),.im (.int most),.own (p.2.map prD),.im (.int i),.im (sT (bF p.1).2)]=aa (.lst ((kn++vrs p.2).map sT)):=by
     refine bn ((AQ (a:=kn.map sT) (b:=(vrs p.2).map sT) rfl (bn (sZ (L:=p.2) (f:=prD) (q:=(·.1)) rfl λz=>⟨_,rfl⟩)) (by rw[aW,aW,aW];lia)).trans ?_);rw[cK]
    unfold prS;refine bw (aV (aF rfl J (kK _ _))) (λe=>?_) λe=>bD ?_
    .have r:(bF p.1).2∉kn++vrs p.2:=by simpa using e
     rw[if_neg r];have G:=ba (bF p.1).1 (k:=(ks.length:Nat)) (by lia);refine sW rfl (dY (av (au rfl) (av (bY (bY (au rfl) (bO l _ (ks.length:Nat) _ (bx (aj rfl rfl) (c9 ks kdD)) Y (by lia)) (ji (z:=([],[])) kdD G)) (au rfl) rfl) rfl))) rfl (by rw[aW];lia) ⟨.im (.int i),.im (sT (bF p.1).2),?_⟩;rw[cK];rfl
    .have r:(bF p.1).2∈kn++vrs p.2:=by simpa using e
     rw[if_pos r];exact⟨_,_,rfl⟩
   .rintro U ⟨c,j,rfl⟩;rw[eD];exact k_J ⟨c,j,rfl⟩
  rintro _ ⟨c,j,rfl⟩;refine iF rfl ?_;exact cB rfl ⟨_,_,_,rfl⟩
 obtain⟨o,e,E,c,j,rfl⟩:=w;exact fE e rfl
def G1(n:Int):rO [.int n]=aa (.int (n.natAbs:Int)):=by
 show aa (D.int (if n<0 then -n else n))=_
 congr 2
 split <;> lia
variable{r:LS}
def thX(h:gD y)(l:Addr)(kn:L2N)(c:kn.length<=1000)(s:Int)(e:okS s)(ha:fa (.pin l [.int s]::r)=aa ([y.toD,.lst (kn.map sT)],.pin l [.int s]::r)):aN 0 m_9 fa (.pin l [.int s]::r)=aa (kdD (thP y kn s).2,.pin l [.int (thP y kn s).1]::r):=eV rfl ha rfl (GZ h l kn c s e)
def G2(E:gD y)(l:Addr)(kn:L2N)(ks:List (LN×L2N))(t:ks.length<=100)(J:kn.length<=100)(hn:kn.Nodup)(many:Int)(hm:0<many/\many<=3)(s:Int)(M:okS s):
  pB l [] [y.toD,.lst (kn.map sT),.lst (ks.map kdD),.int many] [.int s]=aa ([.int (cP y kn ks many s).1],.tup [.lst ((cP y kn ks many s).2.1.map cZ),.lst ((cP y kn ks many s).2.2.map prD)]):=by
 obtain⟨G,Q,T⟩:=nH (ks:=ks) hn 2 s (by decide)
 have w:wp pz [.pin l [.int s],.im y.toD,.im (.lst (kn.map sT)),.im (.lst (ks.map kdD)),.im (.int many),.no,.no,.no,.no,.no] (λo=>∃u v A h j,o=.rtS (.tup [.lst ((cP y kn ks many s).2.1.map cZ),.lst ((cP y kn ks many s).2.2.map prD)]) [.pin l [.int (cP y kn ks many s).1],.im y.toD,.im (.lst (kn.map sT)),.im (.lst (ks.map kdD)),.im (.int many),u,v,A,h,j]):=by
  unfold pz cP;apply az;refine cq (eV rfl (av (au rfl) (av (au rfl) (av (au rfl) rfl))) rfl (AR l ks kn t J hn 2 (by decide) s M)) ?_;generalize c5 ks kn 2 s=q at G Q T;show wp _ [.pin l [.int q.1],.im y.toD,.im (.lst (kn.map sT)),.im (.lst (ks.map kdD)),.im (.int many),.im (.lst (q.2.map prD)),.no,.no,.no,.no] _;apply az;refine dH (d:=.lst ((kn++vrs q.2).map sT)) (bn ((AQ (a:=kn.map sT) (b:=(vrs q.2).map sT) rfl (bn (sZ (L:=q.2) (f:=prD) (q:=(·.1)) rfl λz=>⟨_,rfl⟩)) (by rw[aW,aW,aW];lia)).trans (by rw[cK]))) ?_;have n:(kn++vrs q.2).length<=1000:=by rw[bh,aW];lia
  generalize kn++vrs q.2=c at n;show wp _ [.pin l [.int q.1],.im y.toD,.im (.lst (kn.map sT)),.im (.lst (ks.map kdD)),.im (.int many),.im (.lst (q.2.map prD)),.im (.lst (c.map sT)),.no,.no,.no] _;apply az;refine fh rfl ?_;show wp _ [.pin l [.int q.1],.im y.toD,.im (.lst (kn.map sT)),.im (.lst (ks.map kdD)),.im (.int many),.im (.lst (q.2.map prD)),.im (.lst (c.map sT)),.own [],.no,.no] _;have dm:=ba q.1 hm.1;refine lL (λU=>∃h j,U=[.pin l [.int (itP (itS y c) (1+dr q.1 many).toNat (nx q.1)).1],.im y.toD,.im (.lst (kn.map sT)),.im (.lst (ks.map kdD)),.im (.int many),.im (.lst (q.2.map prD)),.im (.lst (c.map sT)),.own ((itP (itS y c) (1+dr q.1 many).toNat (nx q.1)).2.map cZ),h,j]) ?_ ?_
  .refine rC (pL (bY (au rfl) (bO l q.1 many _ rfl G hm.1) gy) (by lia) (by lia)) ?_;refine fZ (di (1+dr q.1 many).toNat) (λi=>D.int i) (λpre U=>∃h j,U=[.pin l [.int (itP (itS y c) pre.length (nx q.1)).1],.im y.toD,.im (.lst (kn.map sT)),.im (.lst (ks.map kdD)),.im (.int many),.im (.lst (q.2.map prD)),.im (.lst (c.map sT)),.own ((itP (itS y c) pre.length (nx q.1)).2.map cZ),h,j]) rfl ⟨_,_,rfl⟩ ?_ ?_
   .rintro pre i post U I ⟨h,j,rfl⟩;refine⟨_,rfl,?_⟩;obtain⟨k1,k2⟩:=l7 (F:=itS y c) (λs=>(wT E s n).1) pre.length (nx q.1) (be _)
    have B:pre.length<4:=by
     have:=congrArg g6 I;rw[eD,bh,b9]at this;lia
    rw[bh,show([i]:LN).length=1 from rfl,wW];generalize itP (itS y c) pre.length (nx q.1)=p at k1 k2;obtain⟨N,_⟩:=sV p.1;have Y:=ba (ci p.1).1 (k:=2) (by decide)
    have H:cO (.lst [.int 1,.int ((ci p.1).2.natAbs:Int)]) (.int (dr (ci p.1).1 2))=aa (.int (if dr (ci p.1).1 2=0 then 1 else ((ci p.1).2.natAbs:Int))):=by
     rcases(show dr (ci p.1).1 2=0\/dr (ci p.1).1 2=1 by lia)with e |e
     .rw[e];rfl
     .rw[e];rfl
    apply az;refine cq (bY (pM (av (au rfl) (av (wP (av (td l p.1 _ k1) rfl) (G1 _)) rfl))) (bO l _ 2 _ rfl N (by decide)) H) ?_;show wp _ [.pin l [.int (nx (ci p.1).1)],.im y.toD,.im (.lst (kn.map sT)),.im (.lst (ks.map kdD)),.im (.int many),.im (.lst (q.2.map prD)),.im (.lst (c.map sT)),.own (p.2.map cZ),.im (.int i),.im (.int (if dr (ci p.1).1 2=0 then 1 else ((ci p.1).2.natAbs:Int)))] _;refine sW rfl (dY (av (thX E l c n _ (be _) (av (au rfl) (av (au rfl) rfl))) (av (au rfl) rfl))) rfl (by rw[aW];lia) ⟨.im (.int i),.im (.int (if dr (ci p.1).1 2=0 then 1 else ((ci p.1).2.natAbs:Int))),?_⟩;rw[cK];rfl
   .rintro U ⟨h,j,rfl⟩;rw[eD];exact k_J ⟨h,j,rfl⟩
  rintro _ ⟨h,j,rfl⟩;refine iF rfl ?_;exact cB rfl ⟨_,_,_,_,_,rfl⟩
 obtain⟨o,e,u,v,A,h,j,rfl⟩:=w;exact fE e rfl
def AS(j:gD y)(l:Addr)(kn:L2N)(ks:List (LN×L2N))(c:ks.length<=100)(e:kn.length<=100)(hn:kn.Nodup)(many:Int)(hm:0<many/\many<=3)(s:Int)(h:okS s)(ha:fa (.pin l [.int s]::r)=aa ([y.toD,.lst (kn.map sT),.lst (ks.map kdD),.int many],.pin l [.int s]::r)):
  aN 0 pB fa (.pin l [.int s]::r)=aa (.tup [.lst ((cP y kn ks many s).2.1.map cZ),.lst ((cP y kn ks many s).2.2.map prD)],.pin l [.int (cP y kn ks many s).1]::r):=eV rfl ha rfl (G2 j l kn ks c e hn many hm s h)
def G3(h:gD y)(l:Addr)(kn:L2N)(ks:List (LN×L2N))(n:ks.length<=100)(T:kn.length<=100)(hn:kn.Nodup)(s:Int)(hs:okS s):
  pG l [] [y.toD,.lst (kn.map sT),.lst (ks.map kdD)] [.int s]=aa ([.int (eW y kn ks s).1],(eW y kn ks s).2.toD):=by
 obtain⟨p1,p2,p3,p4⟩:=h.p;have d6:=ba s (k:=6) (by decide);have j:=be s
 have w:wp pE [.pin l [.int s],.im y.toD,.im (.lst (kn.map sT)),.im (.lst (ks.map kdD)),.no,.no,.no,.no,.no,.no] (λo=>∃B E G H I J L M N,o=.rtS (eW y kn ks s).2.toD [.pin l [.int (eW y kn ks s).1],B,E,G,H,I,J,L,M,N]):=by
  unfold pE eW;apply az;refine cq (bO l s 6 _ rfl hs (by decide)) ?_;generalize dr s 6=v at d6;generalize nx s=s1 at j;show wp _ [.pin l [.int s1],.im y.toD,.im (.lst (kn.map sT)),.im (.lst (ks.map kdD)),.im (.int v),.no,.no,.no,.no,.no] _;apply az;refine bw (b:=decide (v=0) && decide (0<kn.length)) (jF (aV (aF rfl rfl (cY v 0))) (aV (aF (bx (aj rfl rfl) (c9 kn sT)) rfl (nJ _)))) (λe=>?_) λe=>bD ?_
  .rw[cx,decide_eq_true_eq,decide_eq_true_eq]at e;have hl:=e.2;rw[if_pos ⟨e.1,eX.mp hl⟩];unfold unS;have dk:=ba s1 (k:=(kn.length:Nat)) (by lia);have n2:=be s1;apply az;refine cq (bY (au rfl) (bO l s1 (kn.length:Nat) _ (bx (aj rfl rfl) (c9 kn sT)) j (by lia)) (ji (z:=[]) sT dk)) ?_;generalize b8 kn [] (dr s1 (kn.length:Nat))=one;generalize nx s1=s2 at n2;show wp _ [.pin l [.int s2],.im y.toD,.im (.lst (kn.map sT)),.im (.lst (ks.map kdD)),.im (.int v),.im (sT one),.no,.no,.no,.no] _;apply az;refine dH (d:=.lst ((kn++y.p).map sT)) (aF rfl (aZ rfl rfl rfl) ?_) ?_
   .show(if (kn.map sT).length+(y.p.map sT).length<=16777216 then aa (D.lst (kn.map sT++y.p.map sT)) else ae)=_;rw[if_pos (by rw[aW,aW];lia),cK]
   have t:0<(kn++y.p).length:=by rw[bh];lia
   generalize kn++y.p=c at t;have ds:=ba s2 (k:=(c.length:Nat)) (by lia);show wp _ [.pin l [.int s2],.im y.toD,.im (.lst (kn.map sT)),.im (.lst (ks.map kdD)),.im (.int v),.im (sT one),.im (.lst (c.map sT)),.no,.no,.no] _;apply az;refine cq (bY (au rfl) (bO l s2 (c.length:Nat) _ (bx (aj rfl rfl) (c9 c sT)) n2 (by lia)) (ji (z:=[]) sT ds)) ?_;generalize b8 c [] (dr s2 (c.length:Nat))=u;have n3:=be s2;generalize nx s2=A at n3;show wp _ [.pin l [.int A],.im y.toD,.im (.lst (kn.map sT)),.im (.lst (ks.map kdD)),.im (.int v),.im (sT one),.im (.lst (c.map sT)),.im (sT u),.no,.no] _;apply az;refine l5 (b:=decide (dr A 2=0)) (bxX (bY (bO l A 2 _ rfl n3 (by decide)) (au rfl) (cY _ _))) (λe=>?_) λe=>bD ?_
   .rw[if_pos (of_decide_eq_true e)];exact cB rfl ⟨_,_,_,_,_,_,_,_,_,rfl⟩
   .rw[if_neg (of_decide_eq_false e)];exact cB rfl ⟨_,_,_,_,_,_,_,_,_,rfl⟩
  have e1:¬(v=0/\kn≠[]):=λz=>by
   rw[decide_eq_true z.1,decide_eq_true (eX.mpr z.2)]at e
   nomatch e
  rw[if_neg e1];apply az;refine bw (b:=decide (v<3)) (aV (aF rfl rfl oJ)) (λe=>?_) λe=>bD ?_
  .have e:=of_decide_eq_true e;rw[if_pos e];unfold ctS;apply az;refine vM (AS h l kn ks n T hn 2 (by decide) s1 j (av (au rfl) (av (au rfl) (av (au rfl) (av (au rfl) rfl))))) rfl ?_;obtain⟨Y,_⟩:=nI h ks hn T (many:=2) (by decide) s1;generalize cP y kn ks 2 s1=q at Y;show wp _ [.pin l [.int q.1],.im y.toD,.im (.lst (kn.map sT)),.im (.lst (ks.map kdD)),.im (.int v),.no,.no,.no,.im (.lst (q.2.1.map cZ)),.im (.lst (q.2.2.map prD))] _;refine gB (d:=Pa.toD (.ct (decide (v % 2=0)) (ci q.1).2 q.2.1 q.2.2)) (dY (av (d:=.str (if decide (v % 2=0) then "least" else "most")) (au (aZ rfl (aF rfl rfl (ke (by decide))) ?_)) (av (td l q.1 _ Y) (av (au rfl) (av (au rfl) rfl))))) ⟨_,_,_,_,_,_,_,_,_,rfl⟩
   rcases(show v % 2=0\/v % 2=1 by lia)with z |z
   .rw[z];rfl
   .rw[z];rfl
  .have e:=of_decide_eq_false e;rw[if_neg e];obtain⟨t1,t2,_⟩:=kL h (kn:=kn) s1 (by lia);have Q:=thX h l kn (by lia) s1 j (r:=[.im y.toD,.im (.lst (kn.map sT)),.im (.lst (ks.map kdD)),.im (.int v),.no,.no,.no,.no,.no]) (fa:=ao (mX (ag 1)) (ao (mX (ag 2)) aw)) (av (au rfl) (av (au rfl) rfl))
   by_cases z:v=4
   .rw[if_pos z];exact gB (d:=Pa.toD (.no (thP y kn s1).2)) (dY (av (d:=.str "not") (au (aZ rfl (aF rfl rfl iH) (by rw[z];rfl))) (av Q rfl))) ⟨_,_,_,_,_,_,_,_,_,rfl⟩
   .rw[if_neg z]
    exact gB (d:=Pa.toD (.is (thP y kn s1).2)) (dY (av (d:=.str "is") (au (aZ rfl (aF rfl rfl iH) (by rcases(show v=3\/v=5 by lia)with z |z <;> (rw[z];rfl)))) (av Q rfl))) ⟨_,_,_,_,_,_,_,_,_,rfl⟩
 obtain⟨o,e,B,E,G,H,I,J,L,M,N,rfl⟩:=w;exact fE e rfl
def G4(v:gD y)(l:Addr)(kn:L2N)(ks:List (LN×L2N))(p:ks.length<=100)(t:kn.length<=100)(hn:kn.Nodup)(s:Int)(z:okS s):
  wz l [] [y.toD,.lst (kn.map sT),.lst (ks.map kdD)] [.int s]=aa ([.int (gE y kn ks s).1],.lst ((gE y kn ks s).2.map Pa.toD)):=by
 have B:=ba s (k:=4) (by decide)
 have n:∀(c:Sl) d s,okS s->jK 1 [0,1,2,3] 0 0 (aO 0) (aN 1 pG (ao (mX (ag 2)) (ao (mX (ag 3)) (ao (mX (ag 4)) aw)))) [c,.im y.toD,.im (.lst (kn.map sT)),.im (.lst (ks.map kdD))] l d [.int s]=aa ((eW y kn ks s).2.toD,[.int (eW y kn ks s).1]):=λc d s h=>by
  unfold jK;show(aa [Sl.im d,Sl.pin l [.int s],.im y.toD,.im (.lst (kn.map sT)),.im (.lst (ks.map kdD))]).bind _=_;rw[aJ,eV (i:=1) (ρ1:=[.im d,.pin l [.int s],.im y.toD,.im (.lst (kn.map sT)),.im (.lst (ks.map kdD))]) rfl (av (au rfl) (av (au rfl) (av (au rfl) rfl))) rfl (G3 v l kn ks p t hn s h),aJ];refine if_pos λi hi=>?_
  cases i with
  |zero=>nomatch hi
  |succ i=>rfl
 have j:∀(c:Sl) (ds:LD) (s:Int),okS s->f8 1 [0,1,2,3] 0 0 (aO 0) (aN 1 pG (ao (mX (ag 2)) (ao (mX (ag 3)) (ao (mX (ag 4)) aw)))) [c,.im y.toD,.im (.lst (kn.map sT)),.im (.lst (ks.map kdD))] l ds [.int s]=aa ((itP (eW y kn ks) ds.length s).2.map Pa.toD,[.int (itP (eW y kn ks) ds.length s).1]):=λc ds=>by
  induction ds with
  |nil=>intro s _;rfl
  |cons d ds A=>
   intro s h;unfold f8;rw[n c d s h,aJ,A _ (wU v ks hn t s).1];rfl
 have w:wp pH [.pin l [.int s],.im y.toD,.im (.lst (kn.map sT)),.im (.lst (ks.map kdD))] (λo=>o=.rtS (.lst ((gE y kn ks s).2.map Pa.toD)) [.pin l [.int (gE y kn ks s).1],.im y.toD,.im (.lst (kn.map sT)),.im (.lst (ks.map kdD))]):=by
  unfold pH gE;refine gB (ρ1:=[.pin l [.int (itP (eW y kn ks) (dr s 4).toNat (nx s)).1],.im y.toD,.im (.lst (kn.map sT)),.im (.lst (ks.map kdD))]) ?_ rfl;unfold je;rw[pL (bO l s 4 _ rfl z (by decide)) (by lia) (by lia),aJ];show(if ((di (dr s 4).toNat).map λ(i:Nat)=>D.int i).length<=16777216/\_[0]?=aa 0/\_=ac then (f8 1 [0,1,2,3] 0 0 _ _ _ l _ _).map λq=>_ else ae)=_;have u:((di (dr s 4).toNat).map λ(i:Nat)=>D.int i).length=(dr s 4).toNat:=by rw[aW,eD]
  rw[if_pos ⟨by rw[u];lia,rfl,rfl⟩,j _ _ (nx s) (be s),u];rfl
 obtain⟨o,e,rfl⟩:=w;exact fE e rfl
def G5(h:gD y)(l:Addr)(ks:List (LN×L2N))(c:ks.length<=100)(s:Int)(hs:okS s):wA l [] [y.toD,.lst (ks.map kdD)] [.int s]=aa ([.int (ge y ks s).1],(ge y ks s).2.toD):=by
 obtain⟨N,Q,q3⟩:=nH (ks:=ks) (kn:=[]) g7 3 s (by decide)
 have w:wp pI [.pin l [.int s],.im y.toD,.im (.lst (ks.map kdD)),.no,.no,.no,.no,.no,.no] (λo=>∃p t u A B E G H,o=.rtS (ge y ks s).2.toD [.pin l [.int (ge y ks s).1],p,t,u,A,B,E,G,H]):=by
  unfold pI ge;apply az;refine cq (eV rfl (av (au rfl) (av (au rfl) (av (au rfl) rfl))) rfl (AR l ks [] c (by decide) g7 3 (by decide) s hs)) ?_;generalize c5 ks [] 3 s=q at N Q q3;have hn:(vrs q.2).Nodup:=by simpa using Q.nd
  have j:(vrs q.2).length<=100:=by rw[aW];lia
  show wp _ [.pin l [.int q.1],.im y.toD,.im (.lst (ks.map kdD)),.im (.lst (q.2.map prD)),.no,.no,.no,.no,.no] _;apply az;refine dH (d:=.lst ((vrs q.2).map sT)) (bn (sZ (L:=q.2) (f:=prD) (q:=(·.1)) rfl λz=>⟨_,rfl⟩)) ?_;show wp _ [.pin l [.int q.1],.im y.toD,.im (.lst (ks.map kdD)),.im (.lst (q.2.map prD)),.im (.lst ((vrs q.2).map sT)),.no,.no,.no,.no] _;apply az;refine cq (eV rfl (av (au rfl) (av (au rfl) (av (au rfl) rfl))) rfl (G4 h l (vrs q.2) ks c j hn q.1 N)) ?_;obtain⟨I,T,Y⟩:=wV h ks hn j q.1;generalize gE y (vrs q.2) ks q.1=b at I T Y;have d4:=ba b.1 (k:=4) (by decide);show wp _ [.pin l [.int b.1],.im y.toD,.im (.lst (ks.map kdD)),.im (.lst (q.2.map prD)),.im (.lst ((vrs q.2).map sT)),.im (.lst (b.2.map Pa.toD)),.no,.no,.no] _;apply az;refine cq (bO l b.1 4 _ rfl I (by decide)) ?_;unfold pO;have n:=be b.1;generalize dr b.1 4=v at d4;generalize nx b.1=s1 at n;show wp _ [.pin l [.int s1],.im y.toD,.im (.lst (ks.map kdD)),.im (.lst (q.2.map prD)),.im (.lst ((vrs q.2).map sT)),.im (.lst (b.2.map Pa.toD)),.im (.int v),.no,.no] _;have J:=thX h l (vrs q.2) (by lia) s1 n (r:=[.im y.toD,.im (.lst (ks.map kdD)),.im (.lst (q.2.map prD)),.im (.lst ((vrs q.2).map sT)),.im (.lst (b.2.map Pa.toD)),.im (.int v),.no,.no]) (fa:=ao (mX (ag 1)) (ao (mX (ag 4)) aw)) (av (au rfl) (av (au rfl) rfl));apply az;refine bw (b:=decide (v=0)) (aV (aF rfl rfl (cY v 0))) (λe=>?_) λe=>bD ?_
  .rw[if_pos (of_decide_eq_true e)];refine gB (d:=Ro.toD (.never (b.2++[.is (thP y (vrs q.2) s1).2]) q.2)) (dY (av (au rfl) (av (bY (au rfl) (pM (av (dY (av (au rfl) (av J rfl))) rfl)) ?_) (av (au rfl) rfl)))) ⟨_,_,_,_,_,_,_,_,rfl⟩;show(if (b.2.map Pa.toD).length+1<=16777216 then aa (D.lst (b.2.map Pa.toD++[Pa.toD (.is (thP y (vrs q.2) s1).2)])) else ae)=_;rw[if_pos (by rw[aW];lia),cK];rfl
  rw[if_neg (of_decide_eq_false e)];have e0:=of_decide_eq_false e;apply az;refine bw (b:=decide (v=1)) (aV (aF rfl rfl (cY v 1))) (λe=>?_) λe=>bD ?_
  .rw[if_pos (of_decide_eq_true e)];apply az;refine vM (AS h l (vrs q.2) ks c j hn 3 (by decide) s1 n (av (au rfl) (av (au rfl) (av (au rfl) (av (au rfl) rfl))))) rfl ?_;obtain⟨M,_⟩:=nI h ks hn j (many:=3) (by decide) s1;generalize cP y (vrs q.2) ks 3 s1=z at M;obtain⟨m1,_⟩:=sV z.1;exact gB (d:=Ro.toD (.choose (ci z.1).2 (ci (ci z.1).1).2 z.2.1 z.2.2 b.2 q.2)) (dY (av (au rfl) (av (td l z.1 _ M) (av (td l _ _ m1) (av (au rfl) (av (au rfl) (av (au rfl) (av (au rfl) rfl)))))))) ⟨_,_,_,_,_,_,_,_,rfl⟩
  .rw[if_neg (of_decide_eq_false e)];have e1:=of_decide_eq_false e;refine gB (d:=Ro.toD (.rule (decide (v=3)) (thP y (vrs q.2) s1).2 b.2 q.2)) (dY (av (d:=.str (if decide (v=3) then "rule" else "may")) (au (aZ rfl (aF rfl rfl iH) ?_)) (av J (av (au rfl) (av (au rfl) rfl))))) ⟨_,_,_,_,_,_,_,_,rfl⟩
   rcases(show v=2\/v=3 by lia)with z |z <;> (rw[z];rfl)
 obtain⟨o,e,p,t,u,A,B,E,G,H,rfl⟩:=w;exact fE e rfl
open NumText PySem.Builtin PySem.Builtin.Str
nonrec abbrev asc(w:LN):Prop:=w.all (· < 128)=ac
variable{w:LN}
def G6(h:asc w):(tx w).cps.all (· < 128)=ac:=by
 simpa using h
def G7(x:Nat)(c:LN):inS ⟨#[x]⟩ (tx c)=decide (x∈c):=StrLaws.found_one _ x
def AT(w:LN)(h:w.length<=1000):bL [.str (tx w)]=aa (.int (w.length:Int)):=by
 show(if (tx w).length<=16777216 then aa _ else ae)=_;rw[gX,if_pos (by lia)]
def G8(h:f U=aa (.str (tx w)))(ha:asc w):m6 f U=aa (w.map λx=>D.str ⟨#[x]⟩):=by
 unfold m6;rw[h,aJ];show(if (tx w).cps.all (· < 128)=ac then aa _ else ae)=_;rw[if_pos (G6 ha)]
def G9(bs:List Bool):rk [.lst (bs.map D.bl)]=aa (.bl (bs.all id)):=by
 have:∀l:List Bool,iE (l.map D.bl)=aa l:=by
  intro l
  induction l with
  |nil=>rfl
  |cons a l c=>rw[gI];unfold iE;rw[c];rfl
 show((iE _).map λbs=>D.bl _)=_;rw[this];rfl
def AU(w c:LN)(most:Nat)(j:w.length<=1000)(ha:asc w):sy [.str (tx w),.str (tx c),.int (most:Int)]=aa (.bl (made w c most)):=by
 apply f6;show wp _ [.im _,.im _,.im _] _;refine i7 ?_ (jG rfl);refine rh ?_ ?_
 .have:=Ez (f:=λ_=>aa (.int 1)) (g:=aQ bL (af (ag 0) nZ)) (h:=ag 2) (U:=[.im _,.im (.str (tx c)),.im (.int most)]) rfl (bx rfl (AT w j)) vg rfl vg;rw[this]
  congr 3 <;> exact decide_eq_decide.mpr (by lia)
 .have e:b7 1 [1] (m6 (ag 0)) (aO 0) kY (m2 m7 (ag 0) (ag 1)) [.im (.str (tx w)),.im (.str (tx c)),.im (.int most)]=aa ((w.map λx=>decide (x∈c)).map D.bl):=by
   rw[map_map];exact oF w _ (λx=>D.bl _) (G8 rfl ha) (by lia) λx _=>lI rfl rfl (aF rfl rfl (show aa _=_ by rw[G7]))
  refine bx (aj (bn e) rfl) ?_;rw[G9,all_map];rfl
def AV(w:LN)(i:Int)(h:0<=i/\i<=w.length):gN (tx w) (aa i) ae=tx (w.drop i.toNat):=by
 have:=StrLaws.sliceText_from (x:=tx w) ⟨h.1,h.2⟩;show StrLaws.sliceText _ _ ae=_;rw[this]
 congr 2
 show(w.drop i.toNat).take _=_;rw[jl (by rw[gi];show _<=(w.length-i).toNat;lia)]
def Ha(w:LN)(i:Int)(h:(w.length:Int)<=i):gN (tx w) (aa i) ae=tx (w.drop i.toNat):=by
 have e:tX (aa i) ae 1 (tx w).length=tX (aa ((tx w).length:Int)) ae 1 (tx w).length:=by
  have p:=gX w;have j:¬i<0:=by lia
  have n:¬(((tx w).length:Nat):Int)<0:=by lia
  have o:min i (((tx w).length:Nat):Int)=((tx w).length:Nat):=by lia
  simp[tX,j,n,o]
 have c:gN (tx w) (aa i) ae=gN (tx w) (aa w.length) ae:=by
  unfold gN;rw[e,gX]
 rw[c,AV w _ ⟨by lia,by lia⟩,p5 (by lia),p5 (by lia)]
def Hb(w:LN)(i:Int)(h:0<=i):gN (tx w) (aa i) ae=tx (w.drop i.toNat):=by
 by_cases hi:i<=w.length
 .exact AV w i ⟨h,hi⟩
 .exact Ha w i (by lia)
def Hc(w:LN)(j:Int)(h:0<=j/\j<=w.length):gN (tx w) ae (aa j)=tx (w.take j.toNat):=by
 have:=StrLaws.sliceText_to (x:=tx w) ⟨h.1,h.2⟩;show StrLaws.sliceText _ ae _=_;rw[this];simp
def Hd(w:LN):gN (tx w) ae (aa 1)=tx (w.take 1):=by
 cases w with
 |nil=>rfl
 |cons a w=>exact Hc _ 1 ⟨by decide,by rw[b9];lia⟩
def He(w:LN)(lo hi:Option Int)(h:w.length<=1000):rM (.str (tx w)) lo hi=aa (.str (gN (tx w) lo hi)):=by
 show(if (tx w).length<=16777216 then aa _ else ae)=_;rw[gX,if_pos (by lia)]
variable{l h:LS->Option (Option Int)}
def AW{lo hi:Option Int}{r:Str}(c:f U=aa (.str (tx w)))(e:l U=aa lo)(j:h U=aa hi)(o:w.length<=1000)(n:gN (tx w) lo hi=r):m8 f l h U=aa (.str r):=by
 unfold m8;rw[c,aJ,e,aJ,j,aJ,He w lo hi o,n]
def AX{a b:LN}(h:asc b)(c:a ⊆ b):asc a:=all_eq_true.mpr λx e=>all_eq_true.mp h x (c e)
def AY(w:LN)(c:w.length<=1000)(ha:asc w):lY [.str (tx w)]=aa (.bl (cT w)):=by
 apply f6;refine i7 (rh ?_ (yX ?_ ?_)) (jG rfl)
 .exact bx (aj (AW rfl rfl rfl c (Hd w)) (aj rfl (aj rfl rfl))) (AU _ grL 1 (by rw[eY];lia) (AX ha (take_subset _ _)))
 .refine aF (bx rfl (AT w c)) rfl ((cY _ _).trans ?_)
  congr 2
  by_cases e:w.length=1
  .rw[e];rfl
  .rw[decide_eq_false e];exact beq_eq_false_iff_ne.mpr (by lia)
 .exact bx (aj (AW rfl rfl rfl c (Hb w 1 (by decide))) (aj rfl (aj rfl rfl))) (AU _ smL 7 (by rw[gi];lia) (AX ha (drop_subset _ _)))
def AZ:∀x∈smL,x<128:=by decide +kernel
def Hg:∀x∈grL,x<128:=by decide +kernel
def ic(h:bN w=ac):w.length<=8/\∀x∈w,x∈smL:=by
 unfold bN made at h;simp only[cx,decide_eq_true_eq]at h;exact⟨h.1.1.2,λx c=>of_decide_eq_true (all_eq_true.mp h.1.2 x c)⟩
def Hh:∀x∈grL,x∉smL:=by decide +kernel
def Hi(h:bN w=ac):cT w=ak:=by
 obtain⟨_,e⟩:=ic h
 have c:1<=w.length:=by
  unfold bN made at h;simp only[cx,decide_eq_true_eq]at h;exact h.1.1.1
 match w,c with
 |x::w,_=>
  rw[tM];intro z;unfold cT made at z;simp only[cx,decide_eq_true_eq]at z;have:=of_decide_eq_true (all_eq_true.mp z.1.2 x (by simp));exact Hh x this (e x bP)
def A0(h:bN w=ac):asc w:=all_eq_true.mpr λx c=>decide_eq_true (AZ x ((ic h).2 x c))
def pR(h:cT w=ac):w.length<=8/\∀x∈w,x∈grL\/x∈smL:=by
 unfold cT made at h;simp only[cx,fG,decide_eq_true_eq]at h;obtain⟨o,c⟩:=h
 match w with
 | []=>exact⟨by simp,λx j=>(bJ j).elim⟩
 |x::w=>
  have j:=of_decide_eq_true (all_eq_true.mp o.2 x (by simp))
  rcases c with c |c
  .have:w=[]:=pZ.mp (by rw[b9]at c;lia);subst this;exact⟨by simp,λz n=>by rw[aU.mp n];exact .inl j⟩
  .have p:w.length<=7:=c.1.2;refine⟨by rw[b9];lia,λz n=>?_⟩
   rcases bG.mp n with e |e
   .rw[e];exact .inl j
   .exact .inr (of_decide_eq_true (all_eq_true.mp c.2 z e))
def A1(h:cT w=ac):asc w:=all_eq_true.mpr λx c=>decide_eq_true (((pR h).2 x c).elim (Hg x) (AZ x))
def Hj(c:L2N):(c.map tx).Nodup↔c.Nodup:=by
 rw[tS,tS,pairwise_map];exact⟨λh=>h.imp λh e=>h (by rw[e]),λh=>h.imp λh e=>h (wI e)⟩
def Hk{c:L2N}(h:f U=aa (.lst (c.map sT)))(e:c.length<4000):kC f U=aa (.int (iK (c.map tx):Nat)):=by
 refine F0 (xs:=c.map tx) ?_ (by rw[aW];exact e);rw[h,map_map];rfl
def Hl(c:L2N):decide (((iK (c.map tx):Nat):Int)<(c.length:Nat))=!decide c.Nodup:=by
 have n:=F1 (c.map tx);have j:=F2 (c.map tx);rw[aW,Hj]at j;rw[aW]at n
 by_cases h:c.Nodup
 .rw[decide_eq_true h,j.mpr h];simp
 .rw[decide_eq_false h];exact decide_eq_true (by have:iK (c.map tx)≠c.length:=λe=>h (j.mp e);lia)
def A2(c:L2N)(e:c.length<4000):mB (m2 dLt (kC (ag 0)) (aQ bL (af (ag 0) nZ))) [.im (.lst (c.map sT))]=aa (!decide c.Nodup):=by
 refine aV (aF (Hk rfl e) (bx (aj rfl rfl) (c9 c sT)) ?_);rw[oJ,Hl]
def wX(c:L2N)(h:c.Nodup)(j:c.length<4000):m_4 [.lst (c.map sT)]=aa .non:=by
 apply f6;refine bw (A2 c j) (λe=>?_) λ_=>bD ⟨_,rfl,rfl⟩;rw[decide_eq_true h]at e
 nomatch e
def A3(c:L2N)(h:¬c.Nodup)(e:c.length<4000):r_4 [.lst (c.map sT)]=ac:=by
 show pi [.im (.lst (c.map sT))]=ac;unfold pi rIf;rw[tX1 (A2 c e),decide_eq_false h];rfl
def kM{c:Type}{f:c->D}{q:c->LN}{fi:MF2}{L:List c}(h:fi U=aa (L.map f))(j:∀x,∃r,f x=.tup [sT (q x),r])(n:L.length<=1000):b7 2 [] fi (cJ (br (aO 0) (br (aO 1) cQ))) kY (ag 0) U=aa ((L.map q).map sT):=by
 rw[map_map];refine oF L f (sT ∘ q) h (by lia) λz _=>?_;obtain⟨r,e⟩:=j z;rw[e];exact lI rfl rfl rfl
def ma{c:Type}(f:c->D)(a b:List c)(h:a.length+b.length<=1000):ce (.lst (a.map f)) (.lst (b.map f))=aa (.lst ((a++b).map f)):=by
 show(if (a.map f).length+(b.map f).length<=16777216 then aa (D.lst (a.map f++b.map f)) else ae)=_;rw[if_pos (by rw[aW,aW];lia),cK]
def tf(ks:List (LN×L2N))(c ps:List Pr)(h:jQ (ks.map (·.1)) (vrs c) ps)(A:c.length+ps.length<=100)(v:ks.length<=1000):m_1 [.lst (ps.map prD),.lst (c.map prD),.lst (ks.map kdD)]=aa .non:=by
 apply f6;show wp _ [.im (.lst (ps.map prD)),.im (.lst (c.map prD)),.im (.lst (ks.map kdD)),.no,.no,.no] _;apply az;have u:vrs (c++ps)=vrs c++vrs ps:=cK;refine iG (bx (aj (bn (kM (L:=c++ps) (f:=prD) (q:=(·.1)) (dz (aF rfl rfl (ma prD c ps (by lia))) rfl) (λz=>⟨_,rfl⟩) (by rw[bh];lia))) rfl) (wX _ (by show(vrs (c++ps)).Nodup;rw[u];exact h.nd) (by rw[aW,bh];lia))) ?_;apply az;refine dH (bn (kM (L:=ks) (f:=kdD) (q:=(·.1)) (dz rfl rfl) (λz=>⟨_,rfl⟩) (by lia))) ?_;show wp _ [.im (.lst (ps.map prD)),.im (.lst (c.map prD)),.im (.lst (ks.map kdD)),.no,.no,.im (.lst ((ks.map (·.1)).map sT))] _;refine fZ ps prD (λ_ U=>∃j n,U=[.im (.lst (ps.map prD)),.im (.lst (c.map prD)),.im (.lst (ks.map kdD)),j,n,.im (.lst ((ks.map (·.1)).map sT))]) (dz rfl rfl) ⟨_,_,rfl⟩ ?_ ?_
 .rintro pre p post U o ⟨j,n,rfl⟩;refine⟨_,rfl,?_⟩;have t:p∈ps:=by rw[o];simp
  refine bw (aV (aF rfl rfl (kK p.2 _))) (λe=>?_) λ_=>bD ⟨_,_,rfl⟩;rw[decide_eq_true (h.kd p t)]at e
  nomatch e
 .rintro U ⟨j,n,rfl⟩;exact⟨_,rfl,rfl⟩
def A4(c:L2N)(ps:List Pr)(h:∀w∈c,gF (vrs ps) w)(o:∀p∈ps,cT p.1=ac)(A:ps.length<=100):m_5 [.lst (c.map sT),.lst (ps.map prD)]=aa .non:=by
 apply f6;show wp _ [.im (.lst (c.map sT)),.im (.lst (ps.map prD)),.no,.no] _;apply az;refine dH (bn (kM (L:=ps) (f:=prD) (q:=(·.1)) (dz rfl rfl) (λz=>⟨_,rfl⟩) (by lia))) ?_;show wp _ [.im (.lst (c.map sT)),.im (.lst (ps.map prD)),.im (.lst ((vrs ps).map sT)),.no] _;refine fZ c sT (λ_ U=>∃j,U=[.im (.lst (c.map sT)),.im (.lst (ps.map prD)),.im (.lst ((vrs ps).map sT)),j]) (dz rfl rfl) ⟨_,rfl⟩ ?_ ?_
 .rintro pre w post U u ⟨j,rfl⟩;refine⟨_,rfl,?_⟩;have t:=h w (by rw[u];simp)
  have v:w.length<=8/\asc w:=by
   rcases t with z |z
   .obtain⟨p,n,rfl⟩:=gJ.mp z;exact⟨(pR (o p n)).1,A1 (o p n)⟩
   .exact⟨(ic z).1,A0 z⟩
  refine bw (b:=cT w && !decide (w∈vrs ps)) (jF (iD (bx (aj rfl rfl) (AY w (by lia) v.2)) rfl) (aV (aF rfl rfl (kK w _)))) (λe=>?_) λ_=>bD ⟨_,rfl⟩
  rcases t with z |z
  .rw[decide_eq_true z,Bool.not_true,Bool.and_false]at e;nomatch e
  .rw[Hi z]at e;nomatch e
 .rintro U ⟨j,rfl⟩;exact⟨_,rfl,rfl⟩
def Hm(h:f U=aa (.lst ds))(h':U[i]?=aa (.own xs))(c:xs.length+ds.length<=16777216):mQ i (mP f) U=aa (.nx (U.set i (.own (xs++ds)))):=by
 unfold mQ mP;rw[h]
 show((match U[i]? with |some (.own xs)=>_ | _=>_):Option Fl)=_
 rw[h'];exact if_pos c
def Ho(h:f U=aa (.lst ds))(h':U[i]?=aa (.own xs))(c:xs.length+ds.length<=16777216)(k:K (.nx (U.set i (.own (xs++ds))))):wp (mQ i (mP f)) U K:=⟨_,Hm h h' c,k⟩
@[reducible]noncomputable def Us:=L2N×List Pr
@[reducible]noncomputable def usD(u:Us):D:=.tup [.lst (u.1.map sT),.lst (u.2.map prD)]
abbrev dQ(its:List Ti):L2N:=its.flatMap λz=>z.1.2
abbrev paU:Pa->Us
 |.is t=>(t.2,[])
 |.no t=>(t.2,[])
 |.un a b=>([a,b],[])
 |.ct _ _ its ov=>(dQ its,ov)
abbrev roU:Ro->List Us
 |.kind _ _=>[]
 |.rule _ t bd _=>bd.map paU++[(t.2,[])]
 |.choose _ _ its ov bd _=>bd.map paU++[(dQ its,ov)]
 |.never bd _=>bd.map paU
abbrev roP:Ro->List Pr
 |.kind _ _=>[]
 |.rule _ _ _ ps=>ps
 |.choose _ _ _ _ _ ps=>ps
 |.never _ ps=>ps
abbrev PaS:Pa->Prop
 |.is t=>t.2.length<=100
 |.no t=>t.2.length<=100
 |.un _ _=>True
 |.ct _ _ its _=>its.length<=100/\∀z∈its,z.1.2.length<=100
abbrev RoS:Ro->Prop
 |.kind _ ns=>ns.length<=100
 |.rule _ t bd _=>t.2.length<=100/\bd.length<=100/\∀p∈bd,PaS p
 |.choose _ _ its _ bd _=>(its.length<=100/\∀z∈its,z.1.2.length<=100)/\bd.length<=100/\∀p∈bd,PaS p
 |.never bd _=>bd.length<=100/\∀p∈bd,PaS p
def Hq{its:List Ti}(h:∀z∈its,z.1.2.length<=100):(dQ its).length<=100*its.length:=by
 unfold dQ
 induction its with
 |nil=>simp
 |cons z its e=>
  rw[flatMap_cons,bh,b9];have j:=h z bP;have n:=e λx c=>h x (cF _ c);lia
def A5(its:List Ti)(p:its.length<=100)(h:∀z∈its,z.1.2.length<=100):sB [.lst (its.map cZ)]=aa (.lst ((dQ its).map sT)):=by
 apply f6;show wp _ [.im (.lst (its.map cZ)),.no,.no,.no] _;apply az;refine fh rfl ?_;show wp _ [.im (.lst (its.map cZ)),.own [],.no,.no] _;apply az;refine fZ its cZ (λpre U=>∃c j,U=[.im (.lst (its.map cZ)),.own ((dQ pre).map sT),c,j]) (dz rfl rfl) ⟨_,_,rfl⟩ ?_ ?_
 .rintro pre z post U n ⟨c,j,rfl⟩;refine⟨_,rfl,?_⟩;have u:=h z (by rw[n];simp);have t:=Hq (its:=pre) λx o=>h x (by rw[n];simp[o])
  have q:pre.length<=100:=by
   have:=congrArg g6 n;rw[bh]at this;lia
  refine Ho (aZ rfl rfl rfl) rfl (by rw[aW,aW];lia) ⟨.im (kdD z.1),.im (.int z.2),?_⟩
  have e:dQ (pre++[z])=dQ pre++z.1.2:=by
   unfold dQ;rw[flatMap_append];simp
  rw[e,cK];rfl
 .rintro U ⟨c,j,rfl⟩;exact⟨_,rfl,_,rfl,rfl⟩
def Hr(p:Pa)(h:PaS p):sC [p.toD]=aa (usD (paU p)):=by
 apply f6;show wp _ [.im p.toD] _
 cases p with
 |is t=>
  apply az;refine bw (b:=ak) (aV (aF (aZ rfl rfl rfl) rfl rfl)) (λe=>nomatch e) λ_=>bD ?_;apply az;refine bw (b:=ak) (aV (aF (aZ rfl rfl rfl) rfl rfl)) (λe=>nomatch e) λ_=>bD ?_
  exact i7 (bI (aj (aZ (dz (aZ rfl rfl rfl) rfl) rfl rfl) (aj rfl rfl))) (jG rfl)
 |no t=>
  apply az;refine bw (b:=ak) (aV (aF (aZ rfl rfl rfl) rfl rfl)) (λe=>nomatch e) λ_=>bD ?_;apply az;refine bw (b:=ak) (aV (aF (aZ rfl rfl rfl) rfl rfl)) (λe=>nomatch e) λ_=>bD ?_
  exact i7 (bI (aj (aZ (dz (aZ rfl rfl rfl) rfl) rfl rfl) (aj rfl rfl))) (jG rfl)
 |un a b=>
  apply az;refine bw (b:=ac) (aV (aF (aZ rfl rfl rfl) rfl rfl)) (λ_=>?_) λe=>nomatch e
  exact i7 (bI (aj (bn (aj (aZ rfl rfl rfl) (aj (aZ rfl rfl rfl) rfl))) (aj rfl rfl))) (jG rfl)
 |ct w n its ov=>
  apply az
  refine bw (b:=ak) (aV (aF (aZ rfl rfl rfl) rfl (by cases w <;> rfl))) (λe=>nomatch e) λ_=>bD ?_
  apply az
  refine bw (b:=ac) (aV (aF (aZ rfl rfl rfl) rfl (by cases w <;> rfl))) (λ_=>?_) λe=>nomatch e
  exact i7 (bI (aj (bx (aj (aZ rfl rfl rfl) rfl) (A5 its h.1 h.2)) (aj (aZ rfl rfl rfl) rfl))) (jG rfl)
def A6(r:Ro)(q:∀n ns,r≠.kind n ns)(h:RoS r):sD [r.toD]=aa (.lst ((roU r).map usD)):=by
 have bd:∀(bd:List Pa) (U:LS) (fi:MF2),fi U=aa (bd.map Pa.toD)->bd.length<=100->(∀p∈bd,PaS p)->b7 1 [] fi (aO 0) kY (aQ sC (af (ag 0) nZ)) U=aa ((bd.map paU).map usD):=λbd U fi j v o=>by
  rw[map_map];exact oF bd Pa.toD (usD ∘ paU) j (by lia) λp u=>lI rfl rfl (bx (aj rfl rfl) (Hr p (o p u)))
 apply f6;show wp _ [.im r.toD,.no] _
 cases r with
 |kind n ns=>exact absurd rfl (q n ns)
 |rule b t c ps=>
  apply az;refine fh (bd c _ _ (dz (aZ rfl rfl rfl) rfl) h.2.1 h.2.2) ?_;apply az
  refine bw (b:=ak) (aV (aF (aZ rfl rfl rfl) rfl (by cases b <;> rfl))) (λe=>nomatch e) λ_=>?_
  refine bw (b:=ac) (aV (aF (aZ rfl rfl rfl) rfl (by cases b <;> rfl))) (λ_=>?_) λe=>nomatch e
  refine oI (bI (aj (aZ (dz (aZ rfl rfl rfl) rfl) rfl rfl) (aj rfl rfl))) rfl (by rw[aW,aW];have:=h.2.1;lia) ⟨_,rfl,_,rfl,?_⟩;show D.lst (_++[_])=_;unfold roU;rw[cK]
  rfl
 |choose lo hi its ov c ps=>
  apply az;refine fh (bd c _ _ (dz (aZ rfl rfl rfl) rfl) h.2.1 h.2.2) ?_;apply az;refine bw (b:=ac) (aV (aF (aZ rfl rfl rfl) rfl rfl)) (λ_=>?_) λe=>nomatch e;refine oI (bI (aj (bx (aj (aZ rfl rfl rfl) rfl) (A5 its h.1.1 h.1.2)) (aj (aZ rfl rfl rfl) rfl))) rfl (by rw[aW,aW];have:=h.2.1;lia) ⟨_,rfl,_,rfl,?_⟩;show D.lst (_++[_])=_;unfold roU;rw[cK]
  rfl
 |never c ps=>
  apply az;refine fh (bd c _ _ (dz (aZ rfl rfl rfl) rfl) h.1 h.2) ?_;apply az;refine bw (b:=ak) (aV (aF (aZ rfl rfl rfl) rfl rfl)) (λe=>nomatch e) λ_=>?_;refine bw (b:=ak) (aV (aF (aZ rfl rfl rfl) rfl rfl)) (λe=>nomatch e) λ_=>bD ⟨_,rfl,_,rfl,rfl⟩
@[reducible]noncomputable def Kd:=LN×L2N
abbrev pS(K vs:L2N)(u:Us):Prop:=PsL K vs u.2/\∀w∈u.1,gF (vs++vrs u.2) w
variable{K vs:L2N}
def nK(h:vs.Nodup):PsL K vs []:=⟨⟨by simpa using h,λ_ z=>(bJ z).elim,λ_ z=>(bJ z).elim⟩,by decide⟩
def thU(c:vs.Nodup){t:Th}(h:iM vs t):pS K vs (t.2,[]):=⟨nK c,λw e=>by simpa using h w e⟩
def itU{its:List Ti}{ov:List Pr}(h:PsL K vs ov/\∀z∈its,iM (vs++vrs ov) z.1):pS K vs (dQ its,ov):=by
 refine⟨h.1,λw c=>?_⟩;obtain⟨z,e,c⟩:=mem_flatMap.mp c;exact h.2 z e w c
def wY(c:vs.Nodup):∀p:Pa,nG K vs p->pS K vs (paU p)
 |.is _,h=>thU c h
 |.no _,h=>thU c h
 |.un a b,h=>⟨nK c,λw j=>by
   rcases bG.mp j with e |e
   .rw[e];show gF (vs++[]) a;rw[cV];exact h.1
   .rw[aU.mp e];show gF (vs++[]) b;rw[cV];exact h.2⟩
 |.ct _ _ _ _,h=>itU h
def Hs:∀r:Ro,pP K r->PsL K [] (roP r)/\∀u∈roU r,pS K (vrs (roP r)) u
 |.rule _ t bd ps,h=>by
  have c:(vrs ps).Nodup:=by simpa using h.1.1.nd
  refine⟨h.1,λu n=>?_⟩
  rcases bV.mp n with e |e
  .obtain⟨p,j,rfl⟩:=gJ.mp e;exact wY c p (h.2.2 p j)
  .rw[aU.mp e];exact thU c h.2.1
 |.choose _ _ its ov bd ps,h=>by
  have c:(vrs ps).Nodup:=by simpa using h.1.1.nd
  refine⟨h.1,λu n=>?_⟩
  rcases bV.mp n with e |e
  .obtain⟨p,j,rfl⟩:=gJ.mp e;exact wY c p (h.2.2 p j)
  .rw[aU.mp e];exact itU h.2.1
 |.never bd ps,h=>by
  have c:(vrs ps).Nodup:=by simpa using h.1.1.nd
  refine⟨h.1,λu n=>?_⟩;obtain⟨p,j,rfl⟩:=gJ.mp n;exact wY c p (h.2 p j)
def jR(r:Ro)(c:∀n ns,r≠.kind n ns)(U:LS):mIx (aP 0) (m1 eJ (kI 1)) (.im r.toD::U)=aa (.lst ((roP r).map prD)):=by
 cases r with
 |kind n ns=>exact absurd rfl (c n ns)
 |rule b t bd ps=>exact aZ rfl rfl rfl
 |choose lo hi its ov bd ps=>exact aZ rfl rfl rfl
 |never bd ps=>exact aZ rfl rfl rfl
def Ht(ks:List Kd)(r:Ro)(h:pP (ks.map (·.1)) r)(B:RoS r)(t:ks.length<=1000):m_3 [r.toD,.lst (ks.map kdD)]=aa .non:=by
 have hn:∀n ns,r≠.kind n ns:=λn ns e=>by subst e;exact h
 obtain⟨o,v⟩:=Hs r h;have H:=o.2;apply f6;show wp _ [.im r.toD,.im (.lst (ks.map kdD)),.no,.no] _;apply az;refine iG (bx (aj (jR r hn _) (aj rfl (aj rfl rfl))) (tf ks [] (roP r) o.1 (by rw[jm];lia) t)) ?_;refine fZ (roU r) usD (λ_ U=>∃c j,U=[.im r.toD,.im (.lst (ks.map kdD)),c,j]) (dz (bx (aj rfl rfl) (A6 r hn B)) rfl) ⟨_,_,rfl⟩ ?_ ?_
 .rintro pre u post U z ⟨c,j,rfl⟩;refine⟨_,rfl,?_⟩;obtain⟨q,G⟩:=v u (by rw[z];simp);have I:=q.2;apply az;refine iG (bx (aj rfl (aj (jR r hn _) (aj rfl rfl))) (tf ks (roP r) u.2 q.1 (by lia) t)) ?_;refine iG (bx (aj rfl (aj (aF (jR r hn _) rfl (ma prD (roP r) u.2 (by lia))) rfl)) (A4 u.1 (roP r++u.2) (λw E=>?_) (λp A=>?_) (by rw[bh];lia))) ⟨_,_,rfl⟩
  .rw[show vrs (roP r++u.2)=vrs (roP r)++vrs u.2 from cK];exact G w E
  .exact(bV.mp A).elim (o.1.vr p) (q.1.vr p)
 .rintro U ⟨c,j,rfl⟩;exact⟨_,rfl,rfl⟩
def wZ(ks:List Kd)(n:LN)(c:Sl)(e:ks.length<=1000):mB (m2 dIn (ag 2) (ax (b7 2 [] (bQ (ag 1)) (cJ (br (aO 0) (br (aO 1) cQ))) kY (ag 0)))) [c,.im (.lst (ks.map kdD)),.im (sT n)]=aa (decide (n∈ks.map (·.1))):=
 aV (aF rfl (bn (kM (L:=ks) (f:=kdD) (q:=(·.1)) (dz rfl rfl) (λz=>⟨_,rfl⟩) e)) (inW n _))
def Hu(ks:List Kd)(n:LN)(ns:L2N)(h:n∉ks.map (·.1))(hn:ns.Nodup)(j:ns.length<4000)(c:ks.length<=1000):m_6 [Ro.toD (.kind n ns),.lst (ks.map kdD)]=aa .non:=by
 apply f6;show wp _ [.im (Ro.toD (.kind n ns)),.im (.lst (ks.map kdD)),.no] _;apply az;refine dH (d:=sT n) (aZ rfl rfl rfl) ?_;show wp _ [.im (Ro.toD (.kind n ns)),.im (.lst (ks.map kdD)),.im (sT n)] _;apply az;refine bw (wZ ks n _ c) (λe=>absurd (of_decide_eq_true e) h) λ_=>bD ?_;exact iG (bx (aj (aZ rfl rfl rfl) rfl) (wX ns hn j)) ⟨_,rfl,rfl⟩
@[reducible]noncomputable def kO(k:Kd):O:=.tup [.fz (sT k.1),.lst ((k.2.map sT).map .fz)]
@[reducible]noncomputable def ksO(ks:List Kd):O:=.lst (ks.map kO)
def A7:∀ds:LD,O.kns (ds.map .fz)=ac
 | []=>rfl
 | _::ds=>by rw[gI,O.kns,A7 ds];rfl
def tm(ks:List Kd):(ksO ks).kn=ac:=by
 rw[O.kn]
 induction ks with
 |nil=>rfl
 |cons k ks c=>rw[gI,O.kns,c];simp only[O.kn,O.kns,A7];rfl
def tq(ks:List Kd):(ksO ks).toD=.lst (ks.map kdD):=by
 rw[O.toD]
 congr 1
 induction ks with
 |nil=>rfl
 |cons k ks c=>rw[gI,O.toDs,c];simp only[O.toD,O.toDs,Ds];rfl
abbrev jk:Ro->List Kd
 |.kind n ns=>[(n,ns)]
 | _=>[]
abbrev aK(c:List Ro):List Kd:=c.flatMap jk
def w4(c:List Ro):(aK c).length<=c.length:=by
 unfold aK
 induction c with
 |nil=>simp
 |cons r c e=>
  rw[flatMap_cons,bh,b9]
  have:(jk r).length<=1:=by cases r <;> simp[jk]
  lia
abbrev tu(ks:List Kd):Ro->Prop
 |.kind n ns=>n∉ks.map (·.1)/\ns.Nodup
 |r=>pP (ks.map (·.1)) r
abbrev rl:MF3:=bA (mB (m2 dEq (mIx (aP 2) (kI 0)) (kSt "kind"))) (ay (c8 (i8 m_6 (af (ag 2) (af (gv 1) nZ))))
  (ki 1 (mW (af (mIx (aP 2) (kI 1)) nZ) (lN (bQ (mIx (aP 2) (kI 2))))))) (c8 (i8 m_3 (af (ag 2) (af (gv 1) nZ))))
def A8(r:Ro)(a b:Sl):mB (m2 dEq (mIx (aP 2) (kI 0)) (kSt "kind")) [a,b,.im r.toD]=aa (match r with |.kind _ _=>ac | _=>ak):=by
 cases r with
 |kind n ns=>exact aV (aF (aZ rfl rfl rfl) rfl rfl)
 |rule b t bd ps=>exact aV (aF (aZ rfl rfl rfl) rfl (by cases b <;> rfl))
 |choose lo hi its ov bd ps=>exact aV (aF (aZ rfl rfl rfl) rfl rfl)
 |never bd ps=>exact aV (aF (aZ rfl rfl rfl) rfl rfl)
def A9(ks:List Kd)(a c:Sl):gv 1 [a,.deep (ksO ks),c]=aa (.lst (ks.map kdD)):=by
 show(if (ksO ks).kn=ac then aa (ksO ks).toD else ae)=_;rw[if_pos (tm ks),tq]
def Ba{m:LD->OD}{f:MF2}(h:f U=aa ds)(e:m ds=aa .non):i8 m f U=aa .non:=by
 unfold i8;rw[h,aJ,e];rfl
def Bb(a:Sl)(ks:List Kd)(r:Ro)(h:tu ks r)(j:RoS r)(c:ks.length<=1000):wp rl [a,.deep (ksO ks),.im r.toD] (λo=>o=.nx [a,.deep (ksO (ks++jk r)),.im r.toD]):=by
 refine bw (A8 r _ _) (λe=>?_) λe=>?_
 .cases r with
  |kind n ns=>
   apply az;refine iG (Ba (aj rfl (aj (A9 ks _ _) rfl)) (Hu ks n ns h.1 h.2 (by have:ns.length<=100:=j;lia) c)) ?_
   refine zp (o:=kO (n,ns)) (by
    unfold mW;rw[aj (d:=sT n) (ds:=[]) (aZ rfl rfl rfl) rfl];rfl) rfl (by rw[aW];lia) ?_
   show Fl.nx [a,.deep (.lst (ks.map kO++[kO (n,ns)])),_]=Fl.nx [a,.deep (.lst ((ks++[(n,ns)]).map kO)),_];rw[cK]
   rfl
  |rule b t bd ps=>nomatch e
  |choose lo hi its ov bd ps=>nomatch e
  |never bd ps=>nomatch e
 .have hn:jk r=[]/\pP (ks.map (·.1)) r:=by
   cases r with
   |kind n ns=>nomatch e
   |rule b t bd ps=>exact⟨rfl,h⟩
   |choose lo hi its ov bd ps=>exact⟨rfl,h⟩
   |never bd ps=>exact⟨rfl,h⟩
  refine iG (Ba (aj rfl (aj (A9 ks _ _) rfl)) (Ht ks r hn.2 j c)) ?_;rw[hn.1,cV]
abbrev na(c:List Ro):Prop:=∀pre r post,c=pre++r::post->tu (aK pre) r/\RoS r
def Bc(pre:List Ro)(r:Ro):aK (pre++[r])=aK pre++jk r:=by
 unfold aK;rw[flatMap_append,flatMap_singleton]
def Hv(c:List Ro)(h:na c)(t:c.length<=1000):nz [.lst (c.map Ro.toD)]=aa (ksO (aK c)):=by
 have w:wp b_2 [.im (.lst (c.map Ro.toD)),.no,.no] (λo=>o=.rtT (ksO (aK c))):=by
  unfold b_2;apply az;refine zo (o:=ksO []) rfl ?_;show wp _ [.im (.lst (c.map Ro.toD)),.deep (ksO []),.no] _;apply az;refine fZ c Ro.toD (λpre U=>∃j,U=[.im (.lst (c.map Ro.toD)),.deep (ksO (aK pre)),j]) (dz rfl rfl) ⟨_,rfl⟩ ?_ ?_
  .rintro pre r post U n ⟨j,rfl⟩;refine⟨_,rfl,?_⟩;obtain⟨p,q⟩:=h pre r post n;have u:pre.length<=c.length:=by rw[n,bh];lia
   have:=w4 pre;obtain⟨o,e,rfl⟩:=Bb (.im (.lst (c.map Ro.toD))) (aK pre) r p q (by lia);exact⟨_,e,_,by rw[Bc]⟩
  .rintro U ⟨j,rfl⟩;exact EJ rfl rfl
 obtain⟨o,e,rfl⟩:=w;show(b_2 _).bind zm=_;rw[show fg 3 [D.lst (c.map Ro.toD)]=[.im (.lst (c.map Ro.toD)),.no,.no]from rfl,e];rfl
def tv{p:Type}{f:p->D}{g:D->LS->Option LS}{F:MF3}{r:LS->Bool}{I:LS->Prop}:∀(L:List p) (U:LS),I U->(∀x∈L,∀U,I U->∃ρ1,g (f x) U=aa ρ1/\(r ρ1=ac\/∃b5,F ρ1=aa (.nx b5)/\I b5))->(∃x∈L,∀U ρ1,I U->g (f x) U=aa ρ1->r ρ1=ac)->gb g F r (L.map f) U=ac
 | [],_,_,_,⟨_,c,_⟩=>(bJ c).elim
 |y::L,U,h,st,q4_=>by
  obtain⟨x,c,o⟩:=q4_;obtain⟨ρ1,n,j⟩:=st y bP U h;rw[gI,gb,n];show(r ρ1 || _)=ac;rw[fG]
  rcases j with j |⟨b5,e2,h2⟩
  .exact .inl j
  .rcases bG.mp c with e |e
   .subst e;exact .inl (o U ρ1 h n)
   .refine .inr ?_;rw[e2];exact tv L b5 h2 (λx c=>st x (cF _ c)) ⟨x,e,o⟩
def Bd{n:Type}{f:n->D}{g:D->LS->Option LS}{F:MF3}{r:LS->Bool}{I:List n->LS->Prop}(b:D)(post:LD):∀(q p:List n) (U:LS),I p U->(∀j x t,p++q=j++x::t->∀U,I j U->∃ρ1 b5,g (f x) U=aa ρ1/\F ρ1=aa (.nx b5)/\I (j++[x]) b5)->(∀U,I (p++q) U->∃ρ1,g b U=aa ρ1/\r ρ1=ac)->gb g F r (q.map f++b::post) U=ac
 | [],p,U,h,_,bd=>by
  obtain⟨ρ1,c,e⟩:=bd U (by rw[cV];exact h);rw[map_nil,nil_append,gb,c];show(r ρ1 || _)=ac
  rw[e,Bool.true_or]
 |x::q,p,U,h,st,bd=>by
  obtain⟨ρ1,b5,c,e,o⟩:=st p x q rfl U h;rw[gI,cons_append,gb,c];show(r ρ1 || _)=ac;rw[fG];refine .inr ?_;rw[e];exact Bd b post q (p++[x]) b5 o (by simpa using st) (by simpa using bd)
variable{r1 r2:LS->Bool}
def rS2(h:F U=aa (.nx ρ1))(c:r2 ρ1=ac):gz r1 F r2 U=ac:=by
 unfold gz;rw[h,fG];exact .inr c
def rS1(h:r1 U=ac):gz r1 F r2 U=ac:=by
 unfold gz;rw[h,Bool.true_or]
def rC1{r:LD->Bool}(h:fa U=aa (ds,ρ1))(c:r ds=ac):fQ rNo r fa U=ac:=by
 unfold fQ;rw[h,fG];exact .inr c
abbrev tw(ks:List Kd)(r:Ro):Prop:=match r with
 |.kind _ _=>r_6 [r.toD,.lst (ks.map kdD)]=ac
 | _=>r_3 [r.toD,.lst (ks.map kdD)]=ac
def Hw(pre:List Ro)(r:Ro)(post:List Ro)(h:na pre)(G:pre.length<=1000)(j:tw (aK pre) r):r_2 [.lst ((pre++r::post).map Ro.toD)]=ac:=by
 show sG [.im (.lst ((pre++r::post).map Ro.toD)),.no,.no]=ac;refine rS2 (ρ1:=[.im (.lst ((pre++r::post).map Ro.toD)),.deep (ksO []),.no]) rfl ?_;show gb _ _ _ ((pre++r::post).map Ro.toD) _=ac;rw[cK,gI];generalize E:Sl.im (D.lst (pre.map Ro.toD++r.toD::post.map Ro.toD))=z;refine Bd (I:=λp U=>∃u,U=[z,.deep (ksO (aK p)),u]) r.toD _ pre [] _ ⟨_,rfl⟩ ?_ ?_
 .rintro p x q v U ⟨u,rfl⟩;obtain⟨A,B⟩:=h p x q v;have H:p.length<=pre.length:=by rw[show pre=p++x::q from v,bh];lia
  have:=w4 p;obtain⟨o,e,rfl⟩:=Bb z (aK p) x A B (by lia);exact⟨_,_,rfl,e,_,by rw[Bc]⟩
 .rintro U ⟨u,rfl⟩;refine⟨_,rfl,?_⟩;show rIf _ _ _ [z,.deep (ksO (aK pre)),.im r.toD]=ac
  have c:List.map Sl.frz [z,.deep (ksO (aK pre)),.im r.toD]=[z,.im (.lst ((aK pre).map kdD)),.im r.toD]:=by
   show[z.frz,if (ksO (aK pre)).kn=ac then Sl.im (ksO (aK pre)).toD else .no,.im r.toD]=_;rw[if_pos (tm _),tq,<- E];rfl
  unfold rIf;rw[tX1 (A8 r _ _)]
  cases r with
  |kind n ns=>
   show iL _ _=ac;unfold iL;rw[c]
   exact rC1 (av (au rfl) (av (au rfl) rfl)) j
  |rule b t bd ps=>
   show iL _ _=ac;unfold iL;rw[c]
   exact rC1 (av (au rfl) (av (au rfl) rfl)) j
  |choose lo hi its ov bd ps=>
   show iL _ _=ac;unfold iL;rw[c]
   exact rC1 (av (au rfl) (av (au rfl) rfl)) j
  |never bd ps=>
   show iL _ _=ac;unfold iL;rw[c];exact rC1 (av (au rfl) (av (au rfl) rfl)) j
def Hx(d:D)(h:r_2 [d]=ac):sH [d]=ac:=by
 show pj [.im d,.no,.no]=ac;unfold pj vF;show(_ || fQ rNo r_2 _ _)=ac;rw[fG];exact .inr (rC1 (av (au rfl) rfl) h)
variable{zs:LSt}
def w5{g:LS->Option LSt}(h:f U=aa (sT w))(e:w.length<=1000)(c:g U=aa zs):mFv f g U=aa (tx w::zs):=by
 unfold mFv;rw[h,aJ];show(if (tx w).length<=16777216 then aa (tx w) else ae).bind _=_;rw[if_pos (by rw[gX];lia),aJ,c];rfl
def pT{x:Str}{g:LS->Option LSt}(c:g U=aa zs):mFc x g U=aa (x::zs):=by
 unfold mFc;rw[c];rfl
def Be{f:LS->Option LSt}(h:f U=aa zs)(c:(hV ln zs).length<=16777216):rOf (af (mFs f) nZ) U=ac:=by
 have e:mFs f U=aa (.str (hV ln zs)):=by unfold mFs;rw[h,aJ,if_pos c]
 unfold rOf;rw[aj e rfl];rfl
def w6:∀(zs:LSt) (o:Str) (n:Nat),(∀z∈zs,z.length<=n)->(hV o zs).length<=o.length+zs.length*n
 | [],o,n,_=>k9 _ _
 |z::zs,o,n,h=>by
  have c:=w6 zs (o++z) n λx e=>h x (cF _ e);have j:=h z bP;rw[Str.length_append]at c;rw[b9,Nat.succ_mul];show(hV (o++z) zs).length<=_;lia
def Bf{a b:Str}(h:f U=aa (sT w))(c:w.length<=1000)(ha:a.length<=1000)(j:b.length<=1000):rOf (af (mFs (mFc a (mFv f (mFc b nZ)))) nZ) U=ac:=by
 refine Be (pT (w5 h c (pT rfl))) ?_;refine dq (w6 _ _ 1000 λz e=>?_) (by show 0+_*1000<=16777216;simp only[b9,jm];decide);simp only[bG,bJ,or_false]at e
 rcases e with rfl |rfl |rfl
 .exact ha
 .rw[gX];exact c
 .exact j
variable{v:LN}
def Bg{e:MF1}{a b c:Str}(h:f U=aa (sT w))(p:e U=aa (sT v))(n:w.length<=1000)(j:v.length<=1000)(ha:a.length<=1000)(q:b.length<=1000)(t:c.length<=1000):rOf (af (mFs (mFc a (mFv f (mFc b (mFv e (mFc c nZ)))))) nZ) U=ac:=by
 refine Be (pT (w5 h n (pT (w5 p j (pT rfl))))) ?_;refine dq (w6 _ _ 1000 λz o=>?_) (by show 0+_*1000<=16777216;simp only[b9,jm];decide);simp only[bG,bJ,or_false]at o
 rcases o with rfl |rfl |rfl |rfl |rfl
 .exact ha
 .rw[gX];exact n
 .exact q
 .rw[gX];exact j
 .exact t
def Bh(ks:List Kd)(n:LN)(ns:L2N)(h:n∈ks.map (·.1)\/¬ns.Nodup)(hn:n.length<=1000)(j:ns.length<4000)(c:ks.length<=1000):r_6 [Ro.toD (.kind n ns),.lst (ks.map kdD)]=ac:=by
 show sF [.im (Ro.toD (.kind n ns)),.im (.lst (ks.map kdD)),.no]=ac;obtain⟨o,e,rfl⟩:wp (cN 2 (mIx (aP 0) (kI 1))) [.im (Ro.toD (.kind n ns)),.im (.lst (ks.map kdD)),.no] (λo=>o=.nx [.im (Ro.toD (.kind n ns)),.im (.lst (ks.map kdD)),.im (sT n)]):=dH (d:=sT n) (aZ rfl rfl rfl) rfl;refine rS2 e ?_
 by_cases hm:n∈ks.map (·.1)
 .refine rS1 ?_;unfold rIf;rw[tX1 (wZ ks n _ c),decide_eq_true hm];exact Bf (w:=n) rfl hn (by decide) (by decide)
 .obtain⟨o,e,rfl⟩:wp (bA (mB (m2 dIn (ag 2) (ax (b7 2 [] (bQ (ag 1)) (cJ (br (aO 0) (br (aO 1) cQ))) kY (ag 0))))) (λ_=>ae) bz) [.im (Ro.toD (.kind n ns)),.im (.lst (ks.map kdD)),.im (sT n)] (λo=>o=.nx [.im (Ro.toD (.kind n ns)),.im (.lst (ks.map kdD)),.im (sT n)]):=bw (wZ ks n _ c) (λe=>absurd (of_decide_eq_true e) hm) λ_=>bD rfl;exact rS2 e (rC1 (av (au (aZ rfl rfl rfl)) rfl) (A3 ns (h.resolve_left hm) j))
def Bi(ks:List Kd)(j ps:List Pr)(h:¬(vrs (j++ps)).Nodup\/∃p∈ps,p.2∉ks.map (·.1))(t:∀p∈ps,p.1.length<=1000/\p.2.length<=1000)(J:j.length+ps.length<=100)(H:ks.length<=1000):r_1 [.lst (ps.map prD),.lst (j.map prD),.lst (ks.map kdD)]=ac:=by
 show sx [.im (.lst (ps.map prD)),.im (.lst (j.map prD)),.im (.lst (ks.map kdD)),.no,.no,.no]=ac;have E:=bn (kM (U:=[.im (.lst (ps.map prD)),.im (.lst (j.map prD)),.im (.lst (ks.map kdD)),.no,.no,.no]) (L:=j++ps) (f:=prD) (q:=(·.1)) (dz (aF (f:=ag 1) (g:=ag 0) rfl rfl (ma prD j ps (by lia))) rfl) (λz=>⟨_,rfl⟩) (by rw[bh];lia));have n:(vrs (j++ps)).length<4000:=by rw[aW,bh];lia
 by_cases hd:(vrs (j++ps)).Nodup
 .obtain⟨p,B,hn⟩:=h.resolve_left (λz=>z hd);obtain⟨o,e,rfl⟩:wp (c8 (aQ m_4 (af (ax (b7 2 [] (bQ (m2 ce (ag 1) (ag 0))) (cJ (br (aO 0) (br (aO 1) cQ))) kY (ag 0))) nZ))) [.im (.lst (ps.map prD)),.im (.lst (j.map prD)),.im (.lst (ks.map kdD)),.no,.no,.no] (λo=>o=.nx [.im (.lst (ps.map prD)),.im (.lst (j.map prD)),.im (.lst (ks.map kdD)),.no,.no,.no]):=iG (bx (aj E rfl) (wX _ hd n)) rfl;refine rS2 e ?_;obtain⟨o,e,rfl⟩:=dH (i:=5) (K:=λo=>o=.nx [.im (.lst (ps.map prD)),.im (.lst (j.map prD)),.im (.lst (ks.map kdD)),.no,.no,.im (.lst ((ks.map (·.1)).map sT))]) (bn (kM (U:=[.im (.lst (ps.map prD)),.im (.lst (j.map prD)),.im (.lst (ks.map kdD)),.no,.no,.no]) (L:=ks) (f:=kdD) (q:=(·.1)) (fi:=bQ (ag 2)) (dz rfl rfl) (λz=>⟨_,rfl⟩) (by lia))) rfl;refine rS2 e ?_;show gb _ _ _ (ps.map prD) _=ac;have tt:∀(q:Pr) (a b c:Sl),mB (m2 eS (ag 4) (ag 5)) [a,b,c,.im (sT q.1),.im (sT q.2),.im (.lst ((ks.map (·.1)).map sT))]=aa (!decide (q.2∈ks.map (·.1))):=λq a b c=>aV (aF rfl rfl (kK q.2 _));refine tv (I:=λU=>∃u A,U=[.im (.lst (ps.map prD)),.im (.lst (j.map prD)),.im (.lst (ks.map kdD)),u,A,.im (.lst ((ks.map (·.1)).map sT))]) ps _ ⟨_,_,rfl⟩ ?_ ⟨p,B,?_⟩
  .rintro q G U ⟨u,A,rfl⟩;refine⟨_,rfl,?_⟩
   by_cases hm:q.2∈ks.map (·.1)
   .obtain⟨o,e,rfl⟩:=bw (F:=λ_=>ae) (F':=bz) (K:=λo=>o=.nx [.im (.lst (ps.map prD)),.im (.lst (j.map prD)),.im (.lst (ks.map kdD)),.im (sT q.1),.im (sT q.2),.im (.lst ((ks.map (·.1)).map sT))]) (tt q _ _ _) (λe=>by rw[decide_eq_true hm]at e;nomatch e) λ_=>bD rfl;exact .inr ⟨_,e,_,_,rfl⟩
   .refine .inl ?_;show rIf _ _ _ [.im (.lst (ps.map prD)),.im (.lst (j.map prD)),.im (.lst (ks.map kdD)),.im (sT q.1),.im (sT q.2),.im (.lst ((ks.map (·.1)).map sT))]=ac;unfold rIf;rw[tX1 (tt q _ _ _),decide_eq_false hm];exact Bg (w:=q.2) (v:=q.1) rfl rfl (t q G).2 (t q G).1 (by decide) (by decide) (by decide)
  .rintro U ρ1 ⟨u,A,rfl⟩ e;replace e:[.im (.lst (ps.map prD)),.im (.lst (j.map prD)),.im (.lst (ks.map kdD)),.im (sT p.1),.im (sT p.2),.im (.lst ((ks.map (·.1)).map sT))]=ρ1:=cs e;subst e;show rIf _ _ _ _=ac;unfold rIf;rw[tX1 (tt p _ _ _),decide_eq_false hn];exact Bg (w:=p.2) (v:=p.1) rfl rfl (t p B).2 (t p B).1 (by decide) (by decide) (by decide)
 .exact rS1 (rC1 (av (au E) rfl) (A3 _ hd n))
def Hy(c:L2N)(ps:List Pr)(h:∃w∈c,cT w=ac/\w∉vrs ps)(ha:∀w∈c,w.length<=100/\asc w)(E:ps.length<=100):r_5 [.lst (c.map sT),.lst (ps.map prD)]=ac:=by
 show sA [.im (.lst (c.map sT)),.im (.lst (ps.map prD)),.no,.no]=ac;obtain⟨o,e,rfl⟩:=dH (i:=2) (K:=λo=>o=.nx [.im (.lst (c.map sT)),.im (.lst (ps.map prD)),.im (.lst ((vrs ps).map sT)),.no]) (bn (kM (U:=[.im (.lst (c.map sT)),.im (.lst (ps.map prD)),.no,.no]) (L:=ps) (f:=prD) (q:=(·.1)) (fi:=bQ (ag 1)) (dz rfl rfl) (λz=>⟨_,rfl⟩) (by lia))) rfl;refine rS2 e ?_;show gb _ _ _ (c.map sT) _=ac
 have tt:∀w∈c,∀a b:Sl,fc (fA (aQ lY (af (ag 3) nZ))) (mB (m2 eS (ag 3) (ag 2))) [a,b,.im (.lst ((vrs ps).map sT)),.im (sT w)]=aa (cT w && !decide (w∈vrs ps)):=λw j a b=>
  jF (iD (bx (aj rfl rfl) (AY w (by have:=(ha w j).1;lia) (ha w j).2)) rfl) (aV (aF rfl rfl (kK w _)))
 have u:∀w∈c,(cT w && !decide (w∈vrs ps))=ac->rIf (mTX (fc (fA (aQ lY (af (ag 3) nZ))) (mB (m2 eS (ag 3) (ag 2))))) (rOf (af (mFs (mFc "the variable " (mFv (ag 3) (mFc " isn't told" nZ)))) nZ)) rNo [.im (.lst (c.map sT)),.im (.lst (ps.map prD)),.im (.lst ((vrs ps).map sT)),.im (sT w)]=ac:=λw j n=>by
  unfold rIf;rw[tX1 (tt w j _ _),n];exact Bf (w:=w) rfl (by have:=(ha w j).1;lia) (by decide) (by decide)
 obtain⟨v,t,A,B⟩:=h;refine tv (I:=λU=>∃p,U=[.im (.lst (c.map sT)),.im (.lst (ps.map prD)),.im (.lst ((vrs ps).map sT)),p]) c _ ⟨_,rfl⟩ ?_ ⟨v,t,?_⟩
 .rintro w j U ⟨p,rfl⟩;refine⟨_,rfl,?_⟩
  cases n:(cT w && !decide (w∈vrs ps))with
  |true=>exact .inl (u w j n)
  |false=>
   obtain⟨o,e,rfl⟩:=bw (F:=λ_=>ae) (F':=bz) (K:=λo=>o=.nx [.im (.lst (c.map sT)),.im (.lst (ps.map prD)),.im (.lst ((vrs ps).map sT)),.im (sT w)]) (tt w j _ _) (λe=>by rw[n]at e;nomatch e) λ_=>bD rfl;exact .inr ⟨_,e,_,rfl⟩
 .rintro U ρ1 ⟨p,rfl⟩ e;replace e:[.im (.lst (c.map sT)),.im (.lst (ps.map prD)),.im (.lst ((vrs ps).map sT)),.im (sT v)]=ρ1:=cs e;subst e;exact u v t (by rw[A,decide_eq_false B];rfl)
abbrev w9(K:L2N)(ps:List Pr)(u:Us):Prop:=(¬(vrs (ps++u.2)).Nodup\/∃p∈u.2,p.2∉K)\/jQ K (vrs ps) u.2/\∃w∈u.1,cT w=ac/\w∉vrs (ps++u.2)
abbrev UsS(u:Us):Prop:=u.2.length<=50/\(∀p∈u.2,p.1.length<=1000/\p.2.length<=1000)/\∀w∈u.1,w.length<=100/\asc w
def Bj(ks:List Kd)(r:Ro)(hn:∀n ns,r≠.kind n ns)(L:RoS r)(j:ks.length<=1000)(A:(roP r).length<=50/\∀p∈roP r,p.1.length<=1000/\p.2.length<=1000)
 (h:(¬(vrs (roP r)).Nodup\/∃p∈roP r,p.2∉ks.map (·.1))\/jQ (ks.map (·.1)) [] (roP r)/\(∀u∈roU r,UsS u/\(pS (ks.map (·.1)) (vrs (roP r)) u\/w9 (ks.map (·.1)) (roP r) u))/\∃u∈roU r,w9 (ks.map (·.1)) (roP r) u):
  r_3 [r.toD,.lst (ks.map kdD)]=ac:=by
 obtain⟨p1,Q⟩:=A;show sE [.im r.toD,.im (.lst (ks.map kdD)),.no,.no]=ac
 rcases h with h |⟨c,z,u0,hu0,hb0⟩
 .exact rS1 (rC1 (av (au (jR r hn _)) (av (au rfl) (av (au rfl) rfl))) (Bi ks [] (roP r) h Q (by rw[jm];lia) j))
 ·obtain ⟨o,e,rfl⟩ : wp (c8 (aQ m_1 (af (mIx (aP 0) (m1 eJ (kI 1))) (af (ax nZ) (af (ag 1) nZ))))) [.im r.toD,.im (.lst (ks.map kdD)),.no,.no] (λo=>o=.nx [.im r.toD,.im (.lst (ks.map kdD)),.no,.no]):=iG (bx (aj (jR r hn _) (aj rfl (aj rfl rfl))) (tf ks [] (roP r) c (by rw [jm]; lia) j)) rfl;refine rS2 e ?_;unfold lT;rw [dz (bx (aj rfl rfl) (A6 r hn L)) rfl];show gb _ _ _ ((roU r).map usD) _=ac;have dp : ∀ u : Us,jQ (ks.map (·.1)) (vrs (roP r)) u.2->u.2.length<=50->wp (c8 (aQ m_1 (af (ag 3) (af (mIx (aP 0) (m1 eJ (kI 1))) (af (ag 1) nZ))))) [.im r.toD,.im (.lst (ks.map kdD)),.im (.lst (u.1.map sT)),.im (.lst (u.2.map prD))] (λo=>o=.nx [.im r.toD,.im (.lst (ks.map kdD)),.im (.lst (u.1.map sT)),.im (.lst (u.2.map prD))]):=λu c z=>iG (bx (aj rfl (aj (jR r hn _) (aj rfl rfl))) (tf ks (roP r) u.2 c (by lia) j)) rfl;have E : ∀ u,UsS u->w9 (ks.map (·.1)) (roP r) u->(gz (fQ rNo r_1 (ao (mX (ag 3)) (ao (mX (mIx (aP 0) (m1 eJ (kI 1)))) (ao (mX (ag 1)) aw)))) (c8 (aQ m_1 (af (ag 3) (af (mIx (aP 0) (m1 eJ (kI 1))) (af (ag 1) nZ)))))
  (fQ rNo r_5 (ao (mX (ag 2)) (ao (mX (m2 ce (mIx (aP 0) (m1 eJ (kI 1))) (ag 3))) aw)))) [.im r.toD,.im (.lst (ks.map kdD)),.im (.lst (u.1.map sT)),.im (.lst (u.2.map prD))]=ac:=by
   rintro u ⟨s1,s2,T⟩ (J |⟨G,H⟩)
   .exact rS1 (rC1 (av (au rfl) (av (au (jR r hn _)) (av (au rfl) rfl))) (Bi ks (roP r) u.2 J s2 (by lia) j))
   .obtain⟨o,e,rfl⟩:=dp u G s1;exact rS2 e (rC1 (av (au rfl) (av (au (aF (jR r hn _) rfl (ma prD (roP r) u.2 (by lia)))) rfl)) (Hy u.1 (roP r++u.2) H T (by rw[bh];lia)))
  refine tv (I:=λU=>∃q t,U=[.im r.toD,.im (.lst (ks.map kdD)),q,t]) (roU r) _ ⟨_,_,rfl⟩ ?_ ⟨u0,hu0,?_⟩
  .rintro u M U ⟨q,t,rfl⟩;refine⟨_,rfl,?_⟩
   obtain⟨us,uo |ub⟩:=z u M
   ·obtain ⟨B,Y⟩:=uo;have l2:=B.2;obtain ⟨o,e,rfl⟩ : wp (ay (c8 (aQ m_1 (af (ag 3) (af (mIx (aP 0) (m1 eJ (kI 1))) (af (ag 1) nZ)))))
  (c8 (aQ m_5 (af (ag 2) (af (m2 ce (mIx (aP 0) (m1 eJ (kI 1))) (ag 3)) nZ))))) [.im r.toD,.im (.lst (ks.map kdD)),.im (.lst (u.1.map sT)),.im (.lst (u.2.map prD))] (λo=>o=.nx [.im r.toD,.im (.lst (ks.map kdD)),.im (.lst (u.1.map sT)),.im (.lst (u.2.map prD))]):=by
     apply az;obtain⟨o,e,rfl⟩:=dp u B.1 us.1;refine⟨_,e,?_⟩;refine iG (bx (aj rfl (aj (aF (jR r hn _) rfl (ma prD (roP r) u.2 (by lia))) rfl)) (A4 u.1 (roP r++u.2) (λw N=>?_) (λp A=>?_) (by rw[bh];lia))) rfl
     .rw[show vrs (roP r++u.2)=vrs (roP r)++vrs u.2 from cK];exact Y w N
     .exact(bV.mp A).elim (c.vr p) (B.1.vr p)
    exact .inr ⟨_,e,_,_,rfl⟩
   .exact .inl (E u us ub)
  .rintro U ρ1 ⟨q,t,rfl⟩ e;replace e:[.im r.toD,.im (.lst (ks.map kdD)),.im (.lst (u0.1.map sT)),.im (.lst (u0.2.map prD))]=ρ1:=cs e;subst e;exact E u0 (z u0 hu0).1 hb0
abbrev isK:Ro->Bool
 |.kind _ _=>ac
 | _=>ak
abbrev kdR:Ro->Kd
 |.kind n ns=>(n,ns)
 | _=>([],[])
def Bk(c:List Ro):(c.filter isK).map (kdD ∘ kdR)=(aK c).map kdD:=by
 unfold aK
 induction c with
 |nil=>rfl
 |cons r c e=>
  rw[flatMap_cons,cK,<- e]
  cases r <;> rfl
def Bl(c:List Ro)(j:c.length<=1000):ny [.lst (c.map Ro.toD)]=aa (.lst ((aK c).map kdD)):=by
 rw[<- Bk];apply f6;show wp _ [.im (.lst (c.map Ro.toD))] _;refine Eo (u9 c Ro.toD isK (kdD ∘ kdR) (dz rfl rfl) (by lia) λr _=>?_) ⟨_,rfl,rfl⟩
 cases r with
 |kind n ns=>exact lI rfl (aV (aF (aZ rfl rfl rfl) rfl rfl)) (bI (aj (aZ rfl rfl rfl) (aj (aZ rfl rfl rfl) rfl)))
 |rule b t bd ps=>exact kc (b:=ak) (y:=.non) rfl (aV (aF (aZ rfl rfl rfl) rfl (by cases b <;> rfl))) λe=>nomatch e
 |choose lo hi its ov bd ps=>exact kc (b:=ak) (y:=.non) rfl (aV (aF (aZ rfl rfl rfl) rfl rfl)) λe=>nomatch e
 |never bd ps=>exact kc (b:=ak) (y:=.non) rfl (aV (aF (aZ rfl rfl rfl) rfl rfl)) λe=>nomatch e
section
variable{y:Lay}(hy:gD y)
include hy
def Bm{kn:L2N}(ks:List (LN×L2N))(hn:kn.Nodup)(o:kn.length<=100)(many s:Int):∀z∈(cP y kn ks many s).2.1,z.1.2.length<=100:=by
 obtain⟨c,e,j⟩:=nH (ks:=ks) hn 2 s (by decide);unfold cP;generalize c5 ks kn 2 s=q at c e j;have n:(kn++vrs q.2).length<=1000:=by rw[bh,aW];lia
 refine nB (F:=itS y (kn++vrs q.2)) (P:=λz=>z.1.2.length<=100) (λs=>?_) _ _;have:=(kL hy (kn:=kn++vrs q.2) (nx (ci s).1) n).2.2;exact dq this (by decide)
def Hz{kn:L2N}(ks:List (LN×L2N))(hn:kn.Nodup)(c:kn.length<=100)(s:Int):PaS (eW y kn ks s).2:=by
 unfold eW;split
 .unfold unS;dsimp only
  split <;> trivial
 .split
  .obtain⟨_,_,_,_,a⟩:=nI hy ks hn c (many:=2) (by decide) (nx s);exact⟨dq a (by decide),Bm hy ks hn c 2 _⟩
  .have:=(kL hy (kn:=kn) (nx s) (by lia)).2.2;dsimp only
   split <;> exact dq this (by decide)
def HA(ks:List (LN×L2N))(s:Int):RoS (ge y ks s).2:=by
 obtain⟨u,o,z⟩:=nH (ks:=ks) (kn:=[]) g7 3 s (by decide);unfold ge;generalize c5 ks [] 3 s=q at u o z;have hn:(vrs q.2).Nodup:=by simpa using o.nd
 have j:(vrs q.2).length<=100:=by rw[aW];lia
 obtain⟨A,B,n⟩:=wV hy ks hn j q.1;have e:∀p∈(gE y (vrs q.2) ks q.1).2,PaS p:=nB (F:=eW y (vrs q.2) ks) (λs=>Hz hy ks hn j s) _ _;generalize gE y (vrs q.2) ks q.1=b at A B n e;have t:=(kL hy (kn:=vrs q.2) (nx b.1) (by lia)).2.2;unfold pO;split
 .refine⟨by rw[bh,fS];lia,λp c=>?_⟩
  rcases bV.mp c with c |c
  .exact e p c
  .rw[aU.mp c];exact dq t (by decide)
 .split
  .obtain⟨_,_,_,_,a⟩:=nI hy ks hn j (many:=3) (by decide) (nx b.1);exact⟨⟨dq a (by decide),Bm hy ks hn j 3 _⟩,dq n (by decide),e⟩
  .exact⟨dq t (by decide),dq n (by decide),e⟩
end
abbrev ie:List Kd->List Ro->Prop
 | _,[]=>True
 |ks,r::rs=>(tu ks r/\RoS r)/\ie (ks++jk r) rs
def xa:∀(a b:List Ro) (ks:List Kd),ie ks a->ie (ks++aK a) b->ie ks (a++b)
 | [],b,ks,_,h=>by simpa[aK]using h
 |r::a,b,ks,h,h2=>⟨h.1,xa a b _ h.2 (by rw[ik];exact h2)⟩
def Bn:∀(pre:List Ro) (r:Ro) (post:List Ro) (ks:List Kd),ie ks (pre++r::post)->tu (ks++aK pre) r/\RoS r
 | [],r,post,ks,h=>by
  have:=h.1;rw[show aK []=[]from rfl,cV]
  exact this
 |x::pre,r,post,ks,h=>by
  have:=Bn pre r post _ h.2;rw[ik]at this;exact this
def Bo{c:List Ro}(h:ie [] c):na c:=λpre r post e=>by
 subst e;exact Bn pre r post [] h
def Bp:∀(a b:List Ro) (ks:List Kd),ie ks (a++b)->ie ks a
 | [],_,_,_=>trivial
 | _::a,b,_,h=>⟨h.1,Bp a b _ h.2⟩
abbrev kP(k:Kd):Ro:=.kind k.1 k.2
def tz(a b:List Ro):aK (a++b)=aK a++aK b:=by
 unfold aK;rw[flatMap_append]
def xb:∀ks:List Kd,aK (ks.map kP)=ks
 | []=>rfl
 |k::ks=>by
  have:=xb ks;unfold aK at this;show[(k.1,k.2)]++(ks.map kP).flatMap jk=_;rw[this];rfl
def Bq:∀(b a:List Kd),((a++b).map (·.1)).Nodup->(∀k∈b,k.2.Nodup/\k.2.length<=100)->ie a (b.map kP)
 | [],_,_,_=>trivial
 |k::b,a,h,h2=>by
  refine⟨⟨⟨λz=>?_,(h2 k bP).1⟩,(h2 k bP).2⟩,?_⟩
  .rw[cK,mj]at h;exact h.2.2 _ z _ bP rfl
  .refine Bq b _ ?_ λx c=>h2 x (cF _ c);show((a++[(k.1,k.2)]++b).map (·.1)).Nodup;rw[ik];exact h
abbrev gf(y:Lay)(f:Int)(ss:List Int):Nat->List Ro
 | 0=>[]
 |n+1=>gf y f ss n++((y.k.take (f+n).toNat).drop (aK (gf y f ss n)).length).map kP++[(ge y (y.k.take (f+n).toNat) (ss.getD (n+1) 0)).2]
def xc(y:Lay)(f:Int)(j:0<=f)(ss:List Int):∀n:Nat,∃m:Nat,m<=(f+n).toNat/\aK (gf y f ss n)=y.k.take m
 | 0=>⟨0,gl _,by rw[take_zero];rfl⟩
 |n+1=>by
  obtain⟨m,hm,e⟩:=xc y f j ss n;refine⟨(f+n).toNat,by lia,?_⟩;rw[gf,tz,tz,xb,e]
  have o:aK [(ge y (y.k.take (f+n).toNat) (ss.getD (n+1) 0)).2]=[]:=by
   have:∀q:Ro,aK [q]=jk q:=λq=>by unfold aK;rw[flatMap_singleton]
   rw[this];unfold ge pO;split
   .rfl
   .split <;> rfl
  rw[o,cV];have c:y.k.take m=(y.k.take (f+n).toNat).take m:=by rw[take_take,jV hm]
  rw[c];generalize y.k.take (f+n).toNat=M;rw[eY]
  by_cases h:m<=M.length
  .rw[jV h,p6]
  .rw[mm (by lia),drop_length,cV,jl (by lia)]
def Br{y:Lay}(p:gD y)(z:∀k∈y.k,k.2.length<=100)(f:Int)(u:0<=f)(ss:List Int):∀n,ie [] (gf y f ss n)
 | 0=>trivial
 |n+1=>by
  obtain⟨m,hm,e⟩:=xc y f u ss n;obtain⟨k1,k2⟩:=p.k;have A:y.k.take m=(y.k.take (f+n).toNat).take m:=by rw[take_take,jV hm]
  have t:aK (gf y f ss n)++(y.k.take (f+n).toNat).drop (aK (gf y f ss n)).length=y.k.take (f+n).toNat:=by
   rw[e,A];generalize y.k.take (f+n).toNat=M;rw[eY]
   by_cases h:m<=M.length
   .rw[jV h,p6]
   .rw[mm (by lia),drop_length,cV,jl (by lia)]
  have j:∀k∈(y.k.take (f+n).toNat).drop (aK (gf y f ss n)).length,k∈y.k:=λk o=>p8 (mem_of_mem_drop o);refine xa _ _ _ (xa _ _ _ (Br p z f u ss n) ?_) ⟨⟨?_,HA p _ _⟩,trivial⟩
  .rw[nil_append];refine Bq _ _ ?_ λk o=>⟨(k1.ns k (j k o)).1,z k (j k o)⟩;rw[t,map_take];exact k1.nd.sublist (take_sublist _ _)
  .rw[nil_append,tz,xb,t];have:=(GY p (y.k.take (f+n).toNat) (ss.getD (n+1) 0)).2;generalize (ge y (y.k.take (f+n).toNat) (ss.getD (n+1) 0)).2=q at this
   cases q with
   |kind a b=>exact this.elim
   |rule a b c d=>exact this
   |choose a b c d e f=>exact this
   |never a b=>exact this
def xf{y:Lay}(c:gD y)(f:Int)(ss:List Int):∀n,(gf y f ss n).length<=4*n
 | 0=>gl _
 |n+1=>by
  have:=xf c f ss n;have e:=c.k.2;rw[gf,bh,bh,aW,gi,eY,fS];lia
def HB{c:Type}{g:c->D}{xs:List c}{a b:Int}(e:f U=aa (.lst (xs.map g)))(j:l U=aa (aa a))(o:h U=aa (aa b))(ha:0<=a)(p:0<=b):mSl f l h U=aa (((xs.take b.toNat).drop a.toNat).map g):=by
 rw[rn e j o];obtain⟨n,rfl⟩:=pY ha;obtain⟨m,rfl⟩:=pY p;rw[HT.sIx_nat,HT.sIx_nat]
 congr 1
 rw[kX,kX,drop_take]
 by_cases hn:n<=xs.length
 .rw[jV hn]
  by_cases hm:m<=xs.length
  .rw[jV hm]
  .rw[mm (by lia),jl (by rw[gi];lia),jl (by rw[gi];lia)]
 .rw[mm (show xs.length<=n by lia),drop_length,p5 (by lia),take_nil,take_nil]
def Bs{c:Type}{g:c->D}{xs:List c}{b:Int}(e:f U=aa (.lst (xs.map g)))(j:l U=aa ae)(n:h U=aa (aa b))(o:0<=b):mSl f l h U=aa ((xs.take b.toNat).map g):=by
 rw[rn e j n];obtain⟨m,rfl⟩:=pY o;rw[HT.sIx_nat,show HT.sIx xs.length 0 ae=0 from rfl,drop_zero,Nat.sub_zero,kX]
 by_cases hm:m<=xs.length
 .rw[jV hm]
 .rw[mm (by lia),jl (by lia),jl (by lia)]
def Bt{c:Type}{g:c->D}{xs:List c}{a:Int}(e:f U=aa (.lst (xs.map g)))(j:l U=aa (aa a))(o:h U=aa ae)(ha:0<=a):mSl f l h U=aa ((xs.drop a.toNat).map g):=by
 rw[rn e j o];obtain⟨n,rfl⟩:=pY ha;rw[HT.sIx_nat,show HT.sIx xs.length xs.length ae=xs.length from rfl,kX]
 by_cases hn:n<=xs.length
 .rw[jV hn,jl (by rw[gi];lia)]
 .rw[mm (by lia),drop_length,p5 (by lia),take_nil]
def HC(c:List Ro):(c.filter isK).length=(aK c).length:=by
 have:=congrArg g6 (Bk c)
 rwa [aW,aW]at this
def HD(r:Ro)(U:LS):jD (aO 0) (mB (m2 dEq (mIx (aP 0) (kI 0)) (kSt "kind"))) (ag 0) (.no::U) r.toD=aa (if isK r then aa r.toD else ae):=by
 cases r with
 |kind n ns=>exact lI rfl (aV (aF (aZ rfl rfl rfl) rfl rfl)) rfl
 |rule b t bd ps=>exact kc (b:=ak) (y:=.non) rfl (aV (aF (aZ rfl rfl rfl) rfl (by cases b <;> rfl))) λe=>nomatch e
 |choose lo hi its ov bd ps=>exact kc (b:=ak) (y:=.non) rfl (aV (aF (aZ rfl rfl rfl) rfl rfl)) λe=>nomatch e
 |never bd ps=>exact kc (b:=ak) (y:=.non) rfl (aV (aF (aZ rfl rfl rfl) rfl rfl)) λe=>nomatch e
abbrev kQ(ss:List Int):List Ro:=gf (ib (ss.getD 0 0)).2 (dr (ib (ss.getD 0 0)).1 4) ss (ss.length-1)
variable{ss:List Int}{n:Nat}
def Bu(h:n<ss.length):atI (ss.map D.int) (n:Int)=aa (.int (ss.getD n 0)):=by
 unfold atI ixN;rw[if_pos (by lia),if_pos (by rw[aW];lia),aJ,fm,kX,eM h,ij,eM h];rfl
def Bv(h:n<ss.length):ss.getD n 0∈ss:=by
 rw[ij,eM h];exact mf h
def HE(c:gD y):∀k∈y.k,k.2.length<=100:=λk e=>by
 have h:=c.k.1.ns k e;have:=xm h.1 (λw j=>h.2.2 w j);have:=c.p.2.2.2;lia
def HF(ss:List Int)(I:0<ss.length)(h5:ss.length<=5)(N:∀s∈ss,okS s):nA [.lst (ss.map D.int)]=aa (.lst ((kQ ss).map Ro.toD)):=by
 apply f6;show wp _ [.im (.lst (ss.map D.int)),.no,.no,.no,.no,.no,.no,.no,.no] _;have G:=N _ (Bv I);apply az;refine fh (d:=[.int (ss.getD 0 0)]) (aj (aZ rfl rfl (Bu I)) rfl) ?_;obtain⟨Q,o⟩:=AK (ss.getD 0 0);apply az;refine cq (sR (xs:=[.int (ss.getD 0 0)]) rfl rfl rfl λl=>GW l _ G) ?_;unfold kQ;generalize ib (ss.getD 0 0)=q at Q o;obtain⟨s1,y⟩:=q;apply az;refine cq (sR (xs:=[.int s1]) rfl (av (au rfl) rfl) rfl λl=>l6 l s1 4 Q (by decide)) ?_;have T:=ba s1 (k:=4) (by decide);show wp _ [.im (.lst (ss.map D.int)),.own [.int (nx s1)],.im y.toD,.im (.int (dr s1 4)),.no,.no,.no,.no,.no] _;dsimp only;generalize dr s1 4=f at T;apply az;refine fh rfl ?_;show wp _ [.im (.lst (ss.map D.int)),.own [.int (nx s1)],.im y.toD,.im (.int f),.own [],.no,.no,.no,.no] _;generalize nx s1=s2;apply az
 have hr:gR (af (m2 gw (aQ bL (af (ag 0) nZ)) (kI 1)) nZ) [.im (.lst (ss.map D.int)),.own [.int s2],.im y.toD,.im (.int f),.own [],.no,.no,.no,.no]=aa ((di (ss.length-1)).map λ(i:Nat)=>D.int i):=by
  have:=Eb (f:=af (m2 gw (aQ bL (af (ag 0) nZ)) (kI 1)) nZ) (U:=[.im (.lst (ss.map D.int)),.own [.int s2],.im y.toD,.im (.int f),.own [],.no,.no,.no,.no]) (n:=(ss.length:Int)-1) (aj (aF (bx (aj rfl rfl) (c9 ss D.int)) rfl iH) rfl) (by lia) (by lia);rw[this,show((ss.length:Int)-1).toNat=ss.length-1 by lia]
 refine fZ (di (ss.length-1)) (λ(i:Nat)=>D.int i) (λpre U=>∃z t c e,U=[.im (.lst (ss.map D.int)),.own [.int s2],.im y.toD,.im (.int f),.own ((gf y f ss pre.length).map Ro.toD),z,t,c,e]) hr ⟨_,_,_,_,rfl⟩ ?_ ?_
 .rintro pre i post U u ⟨z,t,c,e,rfl⟩;refine⟨_,rfl,?_⟩
  have hi:i=pre.length/\pre.length<ss.length-1:=by
   have Y:=congrArg g6 u;rw[eD,bh,b9]at Y;have J:=congrArg (λl:LN=>l[pre.length]?) u;rw[List.getElem?_range (by lia),me (bC _),Nat.sub_self]at J;exact⟨(cs J).symm,by lia⟩
  obtain⟨B,E⟩:=hi;subst B;rw[bh,fS];generalize hn:pre.length=n at E;show wp _ [.im (.lst (ss.map D.int)),.own [.int s2],.im y.toD,.im (.int f),.own ((gf y f ss n).map Ro.toD),.im (.int n),t,c,e] _;have hR:=xf o f ss n;generalize A:gf y f ss n=R at hR;apply az;refine dH (d:=.int ((aK R).length:Nat)) (bx (aj (bn (u9 R Ro.toD isK Ro.toD rfl (by lia) λr _=>HD r _)) rfl) (by rw[c9,HC])) ?_;show wp _ [.im (.lst (ss.map D.int)),.own [.int s2],.im y.toD,.im (.int f),.own (R.map Ro.toD),.im (.int n),.im (.int ((aK R).length:Nat)),c,e] _
  have j:mSl (mIx (aP 2) (kI 2)) (mPt (ag 6)) (mPt (m2 ce (ag 3) (ag 5))) [.im (.lst (ss.map D.int)),.own [.int s2],.im y.toD,.im (.int f),.own (R.map Ro.toD),.im (.int n),.im (.int ((aK R).length:Nat)),c,e]=aa (((y.k.take (f+n).toNat).drop (aK R).length).map kdD):=by
   have:=HB (xs:=y.k) (g:=kdD) (f:=mIx (aP 2) (kI 2)) (l:=mPt (ag 6)) (h:=mPt (m2 ce (ag 3) (ag 5))) (U:=[.im (.lst (ss.map D.int)),.own [.int s2],.im y.toD,.im (.int f),.own (R.map Ro.toD),.im (.int n),.im (.int ((aK R).length:Nat)),c,e]) (a:=((aK R).length:Nat)) (b:=f+n) (aZ rfl rfl rfl) rfl rfl (by lia) (by lia);exact this
  generalize L:(y.k.take (f+n).toNat).drop (aK R).length=M at j
  have hMl:M.length<=3:=by
   rw[<- L,gi,eY];have:y.k.length<=3:=o.k.2;lia
  refine lL (λU=>∃c e,U=[.im (.lst (ss.map D.int)),.own [.int s2],.im y.toD,.im (.int f),.own ((R++M.map kP).map Ro.toD),.im (.int n),.im (.int ((aK R).length:Nat)),c,e]) ?_ ?_
  .refine fZ M kdD (λpre U=>∃c e,U=[.im (.lst (ss.map D.int)),.own [.int s2],.im y.toD,.im (.int f),.own ((R++pre.map kP).map Ro.toD),.im (.int n),.im (.int ((aK R).length:Nat)),c,e]) (dz (bn j) rfl) ⟨_,_,by rw[map_nil,cV]⟩ ?_ ?_
   .rintro p k post U u ⟨c,e,rfl⟩;refine⟨_,rfl,?_⟩
    have hp:p.length<=3:=by
     have:=congrArg g6 u;rw[bh]at this;lia
    refine oI (d:=(kP k).toD) (bI (aj rfl (aj rfl (aj rfl rfl)))) rfl (by rw[aW,bh,aW];lia) ⟨.im (sT k.1),.im (.lst (k.2.map sT)),?_⟩;rw[cK,cK,cK,map_singleton,cK,map_singleton,<- ik];rfl
   .rintro U ⟨c,e,rfl⟩;exact k_J ⟨_,_,rfl⟩
  rintro _ ⟨c,e,rfl⟩;have H:=N _ (Bv (ss:=ss) (n:=n+1) (by lia))
  have htk:(y.k.take (f+n).toNat).length<=100:=by
   rw[eY];have:y.k.length<=3:=o.k.2;lia
  refine oI (d:=(ge y (y.k.take (f+n).toNat) (ss.getD (n+1) 0)).2.toD) (Gh (q:=(_,_)) (aj (aZ rfl (aF rfl rfl gy) ?_) rfl) (aj rfl (aj (bn (Bs (xs:=y.k) (g:=kdD) (b:=f+n) (aZ rfl rfl rfl) rfl rfl (by lia))) rfl)) λl=>G5 o l _ htk _ H) rfl (by rw[aW,bh,aW];lia) ⟨.im (.int n),.im (.int ((aK R).length:Nat)),c,e,?_⟩
  .rw[show(n:Int)+1=((n+1:Nat):Int) by lia];exact Bu (by lia)
  .rw[gf,A,L,cK (l₁:=R++M.map kP)];rfl
 .rintro U ⟨z,t,c,e,rfl⟩;rw[eD];exact za rfl (y8 rfl)
def xg(e:L2N)(n:Nat):fB (n+2) (.lst (e.map sT)):=λx c=>by
 obtain⟨w,_,rfl⟩:=gJ.mp c;rfl
def Bw(ks:List Kd)(t:ks.length<=1000):sK [.lst (ks.map kdD),.lst (ks.map kdD)]=aa (.bl ac):=by
 apply f6;show wp _ [.im (.lst (ks.map kdD)),.im (.lst (ks.map kdD)),.no,.no] _;apply az;refine bw (b:=ak) (lH (a:=ak) (b:=ak) (ka (b:=ac) (iD rfl rfl)) (aV (aF (bx (aj rfl rfl) (c9 ks kdD)) (bx (aj rfl rfl) (c9 ks kdD)) ((yW _ _).trans (by rw[beq_self_eq_true];rfl))))) (λe=>nomatch e) λ_=>bD ?_;apply az
 have p:oC (af (ag 0) (af (ag 1) nZ)) [.im (.lst (ks.map kdD)),.im (.lst (ks.map kdD)),.no,.no]=aa (ks.map λk=>D.tup [kdD k,kdD k]):=by
  unfold oC;rw[aj rfl (aj rfl rfl)];show aa (List.zipWith _ (ks.map kdD) (ks.map kdD))=_;rw[zipWith_map,zipWith_self]
 refine fZ ks (λk=>D.tup [kdD k,kdD k]) (λ_ U=>∃c j,U=[.im (.lst (ks.map kdD)),.im (.lst (ks.map kdD)),c,j]) p ⟨_,_,rfl⟩ ?_ ?_
 .rintro pre k post U q ⟨c,j,rfl⟩;refine⟨_,rfl,?_⟩;apply az;refine bw (b:=ak) (lH (a:=ak) (b:=ak) (ka (b:=ac) (iD rfl rfl)) (lH (a:=ak) (b:=ak) (aV (aF (bx (aj rfl rfl) rfl) rfl rfl)) (ka (b:=ac) (iD rfl rfl)))) (λe=>nomatch e) λ_=>bD ?_;refine bw (b:=ak) (lH (a:=ak) (b:=ak) (ka (b:=ac) (iD rfl rfl)) (aV (aF rfl rfl (D4 (d:=kdD k) (λx o=>?_))))) (λe=>nomatch e) λ_=>bD ⟨_,_,rfl⟩
  rcases bG.mp o with e |e
  .rw[e];rfl
  .rw[aU.mp e];exact xg _ _
 .rintro U ⟨c,j,rfl⟩;exact i7 rfl (jG rfl)
abbrev cw(z:Str):LN:=z.cps.toList
def cwD(z:Str):D.str z=sT (cw z):=by
 show D.str z=D.str (tx z.cps.toList);rw[sQ]
def cwX(z:Str):aa (D.str z)=aa (sT (cw z)):=by rw[cwD]
def tE{f:Xa}{n:Int}{K:Fl->Prop}(c:U[i]?=aa (.own xs0))(h:f U=aa ([.int n,d],ρ1))(h':ρ1[i]?=aa (.own xs))(hn:0<=n/\n<=xs.length/\xs.length<16777216)(k:K (.nx (ρ1.set i (.own (xs.take n.toNat++d::xs.drop n.toNat))))):wp (kA i f) U K:=⟨_,by
 unfold kA;rw[c];dsimp only;rw[h,aJ];dsimp only;rw[h'];exact if_pos hn,k⟩
abbrev kR(c L:L2N):LN:=(L.filter λw=>!decide (w∈c)).headD []
abbrev dZ:L2N:=[cw "za",cw "zb",cw "zc",cw "zd"]
def Bx:dZ.Nodup/\∀w∈dZ,w.length<=8:=by decide +kernel
variable{ah:L2N}
def xh{L:L2N}(ha:ah.length<=3)(o:∀w∈L,w.length<=8):(kR ah (L++dZ)∉ah/\(kR ah (L++dZ)).length<=8)/\∃r,(L++dZ).filter (λw=>!decide (w∈ah))=kR ah (L++dZ)::r:=by
 unfold kR
 cases e:(L++dZ).filter (λw=>!decide (w∈ah))with
 |nil=>
  have p:dZ ⊆ ah:=λw q=>by
   have:=filter_eq_nil_iff.mp e w (bV.mpr (.inr q))
   simpa using this
  have:=xm Bx.1 p;have:dZ.length=4:=rfl
  lia
 |cons n r=>
  have hm:n∈(L++dZ).filter (λw=>!decide (w∈ah)):=by rw[e];exact bP
  obtain⟨c,j⟩:=mem_filter.mp hm;refine⟨⟨by simpa using j,?_⟩,r,rfl⟩
  rcases bV.mp c with z |z
  .exact o n z
  .exact Bx.2 n z
abbrev cU(ah c:L2N)(s:Int):Int×LN:=
 if c≠[] then if dr (bg s).1 2=0 then (nx (nx (bg s).1),kR ah ([b8 c [] (dr (nx (bg s).1) (c.length:Nat)),(bg s).2]++dZ)) else (nx (bg s).1,kR ah ([(bg s).2]++dZ)) else ((bg s).1,kR ah ([(bg s).2]++dZ))
variable{la:L2N}
def xi(ha:ah.length<=3)(c:∀w∈la,bN w=ac)(s:Int):okS (cU ah la s).1/\(cU ah la s).2∉ah/\(cU ah la s).2.length<=8:=by
 obtain⟨a,b⟩:=l8 s;have p:=(ic b).1;have o:=(xh (L:=[(bg s).2]) ha λw j=>by rw[aU.mp j];exact p).1;unfold cU;split
 .rename_i h;split
  .refine⟨be _,(xh (L:=[_,(bg s).2]) ha λw j=>?_).1⟩
   rcases bG.mp j with e |e
   .rw[e];exact(ic (c _ (gY (ba _ (by have:=eX.mpr h;lia))))).1
   .rw[aU.mp e];exact p
  .exact⟨be _,o⟩
 .exact⟨a,o⟩
def HG(l:Addr)(ah la:L2N)(ha:ah.length<=3)(B:∀w∈la,bN w=ac)(s:Int)(Y:okS s):wm l [] [.lst (ah.map sT),.lst (la.map sT)] [.int s]=aa ([.int (cU ah la s).1],sT (cU ah la s).2):=by
 obtain⟨I,J⟩:=l8 s;have H:=(ic J).1
 have c:∀(s':Int) (L:L2N),(∀w∈L,w.length<=8)->L.length<=10->wp (cg (mIx (b7 1 [1] (bQ (ag 3)) (aO 0) (mB (m2 eS (ag 0) (ag 1))) (ag 0)) (kI 0))) [.pin l [.int s'],.im (.lst (ah.map sT)),.im (.lst (la.map sT)),.im (.lst ((L++dZ).map sT))] (λo=>∃p t u,o=.rtS (sT (kR ah (L++dZ))) [.pin l [.int s'],p,t,u]):=λs' L N j=>by
  obtain⟨_,r,T⟩:=xh ha N;refine cB (aZ (u9 (L++dZ) sT (λw=>!decide (w∈ah)) sT (dz rfl rfl) (by rw[bh];show L.length+4<=_;lia) λw _=>?_) rfl (by rw[T];exact sY _ _)) ⟨_,_,_,rfl⟩;refine kc rfl (aV (aF rfl rfl (kK w ah))) λ_=>rfl
 have w:wp pd [.pin l [.int s],.im (.lst (ah.map sT)),.im (.lst (la.map sT)),.no] (λo=>∃p t u,o=.rtS (sT (cU ah la s).2) [.pin l [.int (cU ah la s).1],p,t,u]):=by
  unfold pd cU;apply az;refine cq (d:=.lst (([(bg s).2]++dZ).map sT)) (pM (av (wR l s _ Y) (av (au (cwX "za")) (av (au (cwX "zb")) (av (au (cwX "zc")) (av (au (cwX "zd")) rfl)))))) ?_;show wp _ [.pin l [.int (bg s).1],.im (.lst (ah.map sT)),.im (.lst (la.map sT)),.im (.lst (([(bg s).2]++dZ).map sT))] _;generalize bg s=q at I J H;have A:∀w∈[q.2],w.length<=8:=λw E=>by rw[aU.mp E];exact H
  apply az
  by_cases j:la=[]
  .rw[if_neg (λz=>z j)];subst j;refine l5 (AO (tX1 (aV (aF (bx (aj rfl rfl) (c9 [] sT)) rfl (nJ _))))) (λe=>nomatch e) λ_=>bD ?_;exact c q.1 [q.2] A (by simp)
  .rw[if_pos j];have Q:=eX.mpr j
   have M:jJ (mTX (mB (m2 dGt (aQ bL (af (ag 2) nZ)) (kI 0)))) (mBX (mX2 dEq (aN 0 m_0 (ao (mX (kI 2)) aw)) (mX (kI 0)))) [.pin l [.int q.1],.im (.lst (ah.map sT)),.im (.lst (la.map sT)),.im (.lst (([q.2]++dZ).map sT))]=aa (decide (dr q.1 2=0),[.pin l [.int (nx q.1)],.im (.lst (ah.map sT)),.im (.lst (la.map sT)),.im (.lst (([q.2]++dZ).map sT))]):=
    AN (tX1 (aV (aF (bx (aj rfl rfl) (c9 la sT)) rfl ((nJ _).trans (by rw[decide_eq_true Q]))))) (bxX (bY (bO l q.1 2 _ rfl I (by decide)) (au rfl) (cY _ _)))
   refine l5 M (λe=>?_) λe=>bD ?_
   .rw[if_pos (of_decide_eq_true e)];have G:=ba (nx q.1) (k:=(la.length:Nat)) (by lia);refine cq (d:=.lst (([b8 la [] (dr (nx q.1) (la.length:Nat)),q.2]++dZ).map sT)) (bY (pM (av (bY (au rfl) (bO l (nx q.1) (la.length:Nat) _ (bx (aj rfl rfl) (c9 la sT)) (be _) (by lia)) (ji (z:=[]) sT G)) rfl)) (au rfl) rfl) ?_;refine c _ [_,q.2] (λw E=>?_) (by simp)
    rcases bG.mp E with e |e
    .rw[e];exact(ic (B _ (gY G))).1
    .exact A w e
   .rw[if_neg (of_decide_eq_false e)];exact c _ [q.2] A (by simp)
 obtain⟨o,e,p,t,u,rfl⟩:=w;exact fE e rfl
abbrev bpP(ah la:L2N)(most s:Int):Int×List Pr:=
 if ah=[] then ((cU ah la s).1,[(cw "Bb",(cU ah la s).2)])
 else (nx (nx (cU ah la s).1),
  if dr (nx (cU ah la s).1) 5=0/\most=3 then [(cw "Aa",b8 ah [] (dr (cU ah la s).1 (ah.length:Nat))),(cw "Bb",b8 ah [] (dr (cU ah la s).1 (ah.length:Nat))),(cw "Aa",b8 ah [] (dr (cU ah la s).1 (ah.length:Nat)))]
  else if dr (nx (cU ah la s).1) 5<2 then [(cw "Aa",b8 ah [] (dr (cU ah la s).1 (ah.length:Nat))),(cw "Aa",b8 ah [] (dr (cU ah la s).1 (ah.length:Nat)))]
  else if dr (nx (cU ah la s).1) 5=2 then [(cw "Bb",(cU ah la s).2)]
  else if dr (nx (cU ah la s).1) 5=3 then [(cw "Bb",(cU ah la s).2),(cw "Aa",b8 ah [] (dr (cU ah la s).1 (ah.length:Nat)))]
  else [(cw "Aa",b8 ah [] (dr (cU ah la s).1 (ah.length:Nat))),(cw "Bb",(cU ah la s).2)])
abbrev gG(K:L2N)(ps q:List Pr):Prop:=(¬(vrs (ps++q)).Nodup\/∃p∈q,p.2∉K)/\q.length<=50/\∀p∈q,p.1.length<=1000/\p.2.length<=1000
def tF:(cw "Aa").length<=1000/\(cw "Bb").length<=1000:=by decide +kernel
def By(ha:ah.length<=3)(j:∀w∈ah,bN w=ac)(o:∀w∈la,bN w=ac)(most s:Int):okS (bpP ah la most s).1/\gG ah [] (bpP ah la most s).2:=by
 obtain⟨A,c,G⟩:=xi ha o s;unfold bpP;generalize cU ah la s=u at A c G;split
 .refine⟨A,.inr ⟨_,bP,c⟩,by simp,λp t=>?_⟩;rw[aU.mp t];exact⟨tF.2,by dsimp only;lia⟩
 .rename_i h;have B:=(ic (j _ (gY (L:=ah) (z:=[]) (ba u.1 (k:=(ah.length:Nat)) (by have:=eX.mpr h;lia))))).1;refine⟨be _,?_⟩;dsimp only;generalize b8 ah [] (dr u.1 (ah.length:Nat))=k at B
  have sz:∀q:List Pr,(∀p∈q,p=(cw "Aa",k)\/p=(cw "Bb",k)\/p=(cw "Bb",u.2))->∀p∈q,p.1.length<=1000/\p.2.length<=1000:=λq E p t=>by
   rcases E p t with e |e |e <;> rw[e]
   .exact⟨tF.1,by dsimp only;lia⟩
   .exact⟨tF.2,by dsimp only;lia⟩
   .exact⟨tF.2,by dsimp only;lia⟩
  split
  .exact⟨.inl (by simp[vrs]),by simp,sz _ (by simp)⟩
  .split
   .exact⟨.inl (by simp[vrs]),by simp,sz _ (by simp)⟩
   .split
    .exact⟨.inr ⟨_,bP,c⟩,by simp,sz _ (by simp)⟩
    .split
     .exact⟨.inr ⟨_,bP,c⟩,by simp,sz _ (by simp)⟩
     .exact⟨.inr ⟨(cw "Bb",u.2),by simp,c⟩,by simp,sz _ (by simp)⟩
def Bz(l:Addr)(ah la:L2N)(ha:ah.length<=3)(c:∀w∈la,bN w=ac)(most s:Int)(M:okS s):sw l [] [.lst (ah.map sT),.lst (la.map sT),.int most] [.int s]=aa ([.int (bpP ah la most s).1],.lst ((bpP ah la most s).2.map prD)):=by
 obtain⟨H,N,Q⟩:=xi ha c s
 have w:wp pf [.pin l [.int s],.im (.lst (ah.map sT)),.im (.lst (la.map sT)),.im (.int most),.no,.no,.no] (λo=>∃j p t A B E,o=.rtS (.lst ((bpP ah la most s).2.map prD)) [.pin l [.int (bpP ah la most s).1],j,p,t,A,B,E]):=by
  unfold pf bpP;apply az;refine cq (d:=prD (cw "Bb",(cU ah la s).2)) (dY (av (au (cwX "Bb")) (av (eV (i:=0) rfl (av (au rfl) (av (au rfl) rfl)) rfl (HG l ah la ha c s M)) rfl))) ?_;generalize cU ah la s=u at H N Q;show wp _ [.pin l [.int u.1],.im (.lst (ah.map sT)),.im (.lst (la.map sT)),.im (.int most),.im (prD (cw "Bb",u.2)),.no,.no] _;apply az;refine bw (b:=decide (ah=[])) (aV (aF (bx (aj rfl rfl) (c9 ah sT)) rfl ((cY _ _).trans ?_))) (λe=>?_) λe=>bD ?_
  .cases ah with
   |nil=>rfl
   |cons a r=>rw[decide_eq_false (by simp)];exact congrArg (λb=>aa (D.bl b)) (beq_eq_false_iff_ne.mpr (by rw[b9];lia))
  .rw[if_pos (of_decide_eq_true e)];exact cB (bn (aj rfl rfl)) ⟨_,_,_,_,_,_,rfl⟩
  have h:=of_decide_eq_false e;rw[if_neg h];have T:=eX.mpr h;have I:=ba u.1 (k:=(ah.length:Nat)) (by lia);apply az;refine cq (d:=prD (cw "Aa",b8 ah [] (dr u.1 (ah.length:Nat)))) (dY (av (au (cwX "Aa")) (av (bY (au rfl) (bO l u.1 (ah.length:Nat) _ (bx (aj rfl rfl) (c9 ah sT)) H (by lia)) (ji (z:=[]) sT I)) rfl))) ?_;generalize b8 ah [] (dr u.1 (ah.length:Nat))=k;show wp _ [.pin l [.int (nx u.1)],.im (.lst (ah.map sT)),.im (.lst (la.map sT)),.im (.int most),.im (prD (cw "Bb",u.2)),.im (prD (cw "Aa",k)),.no] _;apply az;refine cq (bO l (nx u.1) 5 _ rfl (be _) (by decide)) ?_;have dv:=ba (nx u.1) (k:=5) (by decide);generalize dr (nx u.1) 5=v at dv;generalize nx (nx u.1)=G;show wp _ [.pin l [.int G],.im (.lst (ah.map sT)),.im (.lst (la.map sT)),.im (.int most),.im (prD (cw "Bb",u.2)),.im (prD (cw "Aa",k)),.im (.int v)] _;apply az;refine bw (b:=decide (v=0) && decide (most=3)) (jF (aV (aF rfl rfl (cY _ _))) (aV (aF rfl rfl (cY _ _)))) (λe=>?_) λe=>bD ?_
  .rw[cx,decide_eq_true_eq,decide_eq_true_eq]at e;rw[if_pos e];exact cB (bn (aj rfl (aj (bI (aj (cwX "Bb") (aj (aZ rfl rfl rfl) rfl))) (aj rfl rfl)))) ⟨_,_,_,_,_,_,rfl⟩
  rw[if_neg (λz=>by rw[decide_eq_true z.1,decide_eq_true z.2]at e;nomatch e)];apply az;refine bw (b:=decide (v<2)) (aV (aF rfl rfl oJ)) (λe=>?_) λe=>bD ?_
  .rw[if_pos (of_decide_eq_true e)];exact cB (bn (aj rfl (aj rfl rfl))) ⟨_,_,_,_,_,_,rfl⟩
  have J:=of_decide_eq_false e;rw[if_neg J]
  have one:∀q:List Pr,atI [D.lst [prD (cw "Bb",u.2)],.lst [prD (cw "Bb",u.2),prD (cw "Aa",k)],.lst [prD (cw "Aa",k),prD (cw "Bb",u.2)]] (v-2)=aa (.lst (q.map prD))->wp (cg (mIx (af (ax (af (ag 4) nZ)) (af (ax (af (ag 4) (af (ag 5) nZ))) (af (ax (af (ag 5) (af (ag 4) nZ))) nZ))) (m2 gw (ag 6) (kI 2)))) [.pin l [.int G],.im (.lst (ah.map sT)),.im (.lst (la.map sT)),.im (.int most),.im (prD (cw "Bb",u.2)),.im (prD (cw "Aa",k)),.im (.int v)] (λo=>∃j p t A B E,o=.rtS (.lst (q.map prD)) [.pin l [.int G],j,p,t,A,B,E]):=λq L=>
   cB (aZ (aj (bn (aj rfl rfl)) (aj (bn (aj rfl (aj rfl rfl))) (aj (bn (aj rfl (aj rfl rfl))) rfl))) (aF rfl rfl iH) L) ⟨_,_,_,_,_,_,rfl⟩
  rcases(show v=2\/v=3\/v=4 by lia)with z |z |z
  .rw[if_pos z];exact one _ (by rw[z];rfl)
  .rw[if_neg (by lia),if_pos z];exact one _ (by rw[z];rfl)
  .rw[if_neg (by lia),if_neg (by lia)];exact one _ (by rw[z];rfl)
 obtain⟨o,e,j,p,t,A,B,E,rfl⟩:=w;exact fE e rfl
abbrev ig(un:LN)(s:Int):Th:=(cw "a",(if dr s 2=0 then [cw "b"] else [])++[un]++(if dr (nx s) 2=0 then [cw "c"] else []))
abbrev fj{c:Type}(L:List c)(k:Int)(x:c):List c:=L.take k.toNat++x::L.drop k.toNat
def xj{c:Type}(f:c->D)(L:List c)(k:Int)(x:c):(L.map f).take k.toNat++f x::(L.map f).drop k.toNat=(fj L k x).map f:=by
 unfold fj;rw[cK,gI,map_take,map_drop]
abbrev kU(un g:LN)(s:Int):List Ti:=fj [((cw "a",[]),1),((cw "b",[g]),1)] (dr (nx (nx s)) 3) (ig un s,2)
abbrev bdP(un g:LN)(s:Int):Int×Pa:=
 if dr s 5=0 then (nx (nx (nx s)),.is (ig un (nx s)))
 else if dr s 5=1 then (nx (nx (nx s)),.no (ig un (nx s)))
 else if dr s 5=2 then (nx (nx (nx s)),.un un (cw "a"))
 else if dr s 5=3 then (nx (nx (nx s)),.un (cw "a") un)
 else (nx (nx (nx (nx (nx s)))),.ct (decide (dr (nx (nx (nx (nx s)))) 2=0)) 1 (kU un g (nx s)) [])
structure HH(un:LN)(p:Pa):Prop where
 s:PaS p
 o:(paU p).2=[]
 a:∀w∈(paU p).1,bN w=ac\/w=un
 u:un∈(paU p).1
def pU:bN (cw "a")=ac/\bN (cw "b")=ac/\bN (cw "c")=ac:=by decide +kernel
def HI(un:LN)(s:Int):(∀w∈(ig un s).2,bN w=ac\/w=un)/\un∈(ig un s).2/\(ig un s).2.length<=100:=by
 obtain⟨_,e,j⟩:=pU;unfold ig;dsimp only;refine⟨λw c=>?_,by simp,?_⟩
 .rcases bV.mp c with c |c
  .rcases bV.mp c with c |c
   .split at c
    .rw[aU.mp c];exact .inl e
    .exact(bJ c).elim
   .exact .inr (aU.mp c)
  .split at c
   .rw[aU.mp c];exact .inl j
   .exact(bJ c).elim
 .rw[bh,bh]
  split <;> split <;> simp
def BA(un g:LN)(u:bN g=ac)(s:Int):okS (bdP un g s).1/\HH un (bdP un g s).2:=by
 obtain⟨ha,_⟩:=pU;obtain⟨p,q,t⟩:=HI un (nx s);unfold bdP;split
 .exact⟨be _,t,rfl,p,q⟩
 .split
  .exact⟨be _,t,rfl,p,q⟩
  .split
   .refine⟨be _,trivial,rfl,λw j=>?_,bP⟩
    rcases bG.mp j with e |e
    .exact .inr e
    .rw[aU.mp e];exact .inl ha
   .split
    .refine⟨be _,trivial,rfl,λw j=>?_,cF _ bP⟩
     rcases bG.mp j with e |e
     .rw[e];exact .inl ha
     .exact .inr (aU.mp e)
    .have hm:∀z∈kU un g (nx s),z=(ig un (nx s),2)\/z=((cw "a",[]),1)\/z=((cw "b",[g]),1):=λz c=>by
      have two:∀z∈[(((cw "a",[]):Th),(1:Int)),((cw "b",[g]),1)],z=((cw "a",[]),1)\/z=((cw "b",[g]),1):=λz c=>by simpa using c
      rcases bV.mp c with c |c
      .exact .inr (two z (p8 c))
      .rcases bG.mp c with e |e
       .exact .inl e
       .exact .inr (two z (mem_of_mem_drop e))
     have o:(ig un (nx s),2)∈kU un g (nx s):=bV.mpr (.inr bP);refine⟨be _,⟨?_,λz c=>?_⟩,rfl,λw j=>?_,mem_flatMap.mpr ⟨_,o,q⟩⟩
     .unfold kU fj;rw[bh,b9,eY,gi];simp only[b9,jm];lia
     .rcases hm z c with e |e |e <;> rw[e]
      .exact t
      .exact gl _
      .show 1<=100;lia
     .obtain⟨z,c,j⟩:=mem_flatMap.mp j
      rcases hm z c with e |e |e <;> rw[e]at j
      .exact p w j
      .exact(bJ j).elim
      .rw[aU.mp j];exact .inl u
def HJ(l:Addr)(un g:LN)(s:Int)(L:okS s):wk l [] [sT un,sT g] [.int s]=aa ([.int (bdP un g s).1],(bdP un g s).2.toD):=by
 have w:wp o8 [.pin l [.int s],.im (sT un),.im (sT g),.no,.no,.no] (λo=>∃c j p q t,o=.rtS (bdP un g s).2.toD [.pin l [.int (bdP un g s).1],c,j,p,q,t]):=by
  unfold o8 bdP;have H:=ba s (k:=5) (by decide);apply az;refine cq (bO l s 5 _ rfl L (by decide)) ?_;have A:=be s;generalize dr s 5=v at H;generalize nx s=s1 at A;show wp _ [.pin l [.int s1],.im (sT un),.im (sT g),.im (.int v),.no,.no] _;have B:=ba s1 (k:=2) (by decide);have E:=ba (nx s1) (k:=2) (by decide)
  have u:∀z:Str,∀k:Int,0<=k/\k<2->cO (.lst [.lst [.str z],.lst []]) (.int k)=aa (.lst ((if k=0 then [cw z] else []).map sT)):=λz k Q=>by
   rcases(show k=0\/k=1 by lia)with e |e
   .subst e;show aa (D.lst [.str z])=aa (D.lst [sT (cw z)]);rw[cwD]
   .subst e;rfl
  apply az
  refine cq (d:=kdD (ig un s1)) (ρ1:=[.pin l [.int (nx (nx s1))],.im (sT un),.im (sT g),.im (.int v),.no,.no]) (dY (av (au (cwX "a")) (av (bY (bY (bY (au rfl) (bO l s1 2 _ rfl A (by decide)) (u "b" _ B)) (au rfl) (ma sT _ [un] (by split <;> simp))) (bY (au rfl) (bO l (nx s1) 2 _ rfl (be _) (by decide)) (u "c" _ E)) (ma sT _ _ (by rw[bh];split <;> split <;> simp))) rfl))) ?_
  show wp _ [.pin l [.int (nx (nx s1))],.im (sT un),.im (sT g),.im (.int v),.im (kdD (ig un s1)),.no] _;generalize J:ig un s1=T;apply az;refine bw (b:=decide (v=0)) (aV (aF rfl rfl (cY _ _))) (λe=>?_) λe=>bD ?_
  .rw[if_pos (of_decide_eq_true e)];exact cB (d:=Pa.toD (.is T)) rfl ⟨_,_,_,_,_,rfl⟩
  rw[if_neg (of_decide_eq_false e)];have Y:=of_decide_eq_false e;apply az;refine bw (b:=decide (v=1)) (aV (aF rfl rfl (cY _ _))) (λe=>?_) λe=>bD ?_
  .rw[if_pos (of_decide_eq_true e)];exact cB (d:=Pa.toD (.no T)) rfl ⟨_,_,_,_,_,rfl⟩
  rw[if_neg (of_decide_eq_false e)];have v1:=of_decide_eq_false e;apply az;refine bw (b:=decide (v=2)) (aV (aF rfl rfl (cY _ _))) (λe=>?_) λe=>bD ?_
  .rw[if_pos (of_decide_eq_true e)];exact cB (d:=Pa.toD (.un un (cw "a"))) (bI (aj rfl (aj rfl (aj (cwX "a") rfl)))) ⟨_,_,_,_,_,rfl⟩
  rw[if_neg (of_decide_eq_false e)];have v2:=of_decide_eq_false e;apply az;refine bw (b:=decide (v=3)) (aV (aF rfl rfl (cY _ _))) (λe=>?_) λe=>bD ?_
  .rw[if_pos (of_decide_eq_true e)];exact cB (d:=Pa.toD (.un (cw "a") un)) (bI (aj rfl (aj (cwX "a") (aj rfl rfl)))) ⟨_,_,_,_,_,rfl⟩
  rw[if_neg (of_decide_eq_false e)];apply az;refine fh (d:=[((cw "a",[]),1),((cw "b",[g]),1)].map cZ) (aj (bI (aj (bI (aj (cwX "a") (aj rfl rfl))) (aj rfl rfl))) (aj (bI (aj (bI (aj (cwX "b") (aj (bn (aj rfl rfl)) rfl))) (aj rfl rfl))) rfl)) ?_;have M:=be (nx s1);have G:=ba (nx (nx s1)) (k:=3) (by decide);show wp _ [.pin l [.int (nx (nx s1))],.im (sT un),.im (sT g),.im (.int v),.im (kdD T),.own ([((cw "a",[]),1),((cw "b",[g]),1)].map cZ)] _;apply az;refine tE (ρ1:=[.pin l [.int (nx (nx (nx s1)))],.im (sT un),.im (sT g),.im (.int v),.im (kdD T),.own ([((cw "a",[]),1),((cw "b",[g]),1)].map cZ)]) (xs:=[((cw "a",[]),1),((cw "b",[g]),1)].map cZ) rfl (av (bO l (nx (nx s1)) 3 _ rfl M (by decide)) (av (au (bI (aj rfl (aj rfl rfl)))) rfl)) rfl ⟨G.1,by show _<=(2:Int);lia,by simp⟩ ?_
  have I:([((cw "a",[]),1),((cw "b",[g]),1)].map cZ).take (dr (nx (nx s1)) 3).toNat++.tup [kdD T,.int 2]::([((cw "a",[]),1),((cw "b",[g]),1)].map cZ).drop (dr (nx (nx s1)) 3).toNat=(kU un g s1).map cZ:=by
   have:=xj cZ [((cw "a",[]),1),((cw "b",[g]),1)] (dr (nx (nx s1)) 3) (T,2);unfold kU;rw[J];exact this
  rw[I];refine iF (ρ':=[.pin l [.int (nx (nx (nx s1)))],.im (sT un),.im (sT g),.im (.int v),.im (kdD T),.im (.lst ((kU un g s1).map cZ))]) rfl ?_;have N:=ba (nx (nx (nx s1))) (k:=2) (by decide);refine gB (d:=Pa.toD (.ct (decide (dr (nx (nx (nx s1))) 2=0)) 1 (kU un g s1) [])) (dY (av (d:=.str (if decide (dr (nx (nx (nx s1))) 2=0) then "least" else "most")) (bY (au rfl) (bO l (nx (nx (nx s1))) 2 _ rfl (be _) (by decide)) ?_) (av (au rfl) (av (au rfl) (av (au rfl) rfl))))) ⟨_,_,_,_,_,rfl⟩
  rcases(show dr (nx (nx (nx s1))) 2=0\/dr (nx (nx (nx s1))) 2=1 by lia)with z |z <;> (rw[z];rfl)
 obtain⟨o,e,c,j,p,q,t,rfl⟩:=w;exact fE e rfl
@[reducible]noncomputable def thB:Th:=(cw "b",[])
@[reducible]noncomputable def thA:Th:=(cw "a",[])
abbrev kW(ah:L2N)(un:LN)(s:Int):List Pr:=[(un,b8 ah [] (dr s (ah.length:Nat)))]
abbrev dB(un:LN)(ov:List Pr):Pa:=.ct ac 1 [((cw "b",[un]),1)] ov
abbrev fR(v:Int)(un:LN):Pa:=if v=5 then .is (cw "a",[un]) else .ct ak 1 [((cw "a",[un]),1)] []
abbrev bbR(ah:L2N)(un:LN)(pt:Pa)(s:Int):Ro:=
 if dr s 7=0\/ah=[]/\2<dr s 7 then .rule ac (cw "a",[un]) [.is thB] []
 else if dr s 7=1 then .choose 0 1 [(thB,1),((cw "a",[un]),1)] [] [] []
 else if dr s 7=2 then (if dr (nx s) 3=0 then .never [.is thB,pt] [] else .rule (decide (dr (nx s) 3=1)) thA [.is thB,pt] [])
 else if dr s 7=3 then .rule ak (cw "a",[un]) [dB un (kW ah un (nx s))] []
 else if 4<dr s 7 then .rule ak thA (fj [dB un (kW ah un (nx s))] (dr (nx (nx s)) 2) (fR (dr s 7) un)) []
 else .choose 0 1 [((cw "a",[un]),1)] (kW ah un (nx s)) [pt] []
abbrev bbS(ah:L2N)(s:Int):Int:=
 if dr s 7=0\/ah=[]/\2<dr s 7 then nx s
 else if dr s 7=1 then nx s
 else if dr s 7=2 then nx (nx s)
 else if dr s 7=3 then nx (nx s)
 else if 4<dr s 7 then nx (nx (nx s))
 else nx (nx s)
abbrev bbP(ah:L2N)(s:Int):Int×Ro:=(bbS ah (bdP (bF s).2 (cw "a") (bF s).1).1,bbR ah (bF s).2 (bdP (bF s).2 (cw "a") (bF s).1).2 (bdP (bF s).2 (cw "a") (bF s).1).1)
def HK(ah:L2N)(U:LS)(i:Nat)(h:ag i U=aa (.lst (ah.map sT))):mB (m2 dEq (aQ bL (af (ag i) nZ)) (kI 0)) U=aa (decide (ah=[])):=by
 refine aV (aF (bx (aj h rfl) (c9 ah sT)) rfl ((cY _ _).trans ?_))
 cases ah with
 |nil=>rfl
 |cons a r=>rw[decide_eq_false (by simp)];exact congrArg (λb=>aa (D.bl b)) (beq_eq_false_iff_ne.mpr (by rw[b9];lia))
def HL(l:Addr)(ah:L2N)(s:Int)(hs:okS s):wl l [] [.lst (ah.map sT)] [.int s]=aa ([.int (bbP ah s).1],(bbP ah s).2.toD):=by
 have w:wp pc [.pin l [.int s],.im (.lst (ah.map sT)),.no,.no,.no,.no,.no,.no,.no] (λo=>∃B E G H I J L M,o=.rtS (bbP ah s).2.toD [.pin l [.int (bbP ah s).1],B,E,G,H,I,J,L,M]):=by
  unfold pc bbP;obtain⟨v1,v2⟩:=nE s;apply az;refine cq (pK (toD:=sT) (λs h=>wO l s h) s _ hs) ?_;generalize bF s=q at v1 v2;obtain⟨s1,un⟩:=q;show wp _ [.pin l [.int s1],.im (.lst (ah.map sT)),.im (sT un),.no,.no,.no,.no,.no,.no] _;apply az;refine cq (eV (i:=0) rfl (av (au rfl) (av (au (cwX "a")) rfl)) rfl (HJ l un (cw "a") s1 v1)) ?_;obtain⟨N,_⟩:=BA un (cw "a") pU.1 s1;dsimp only;generalize bdP un (cw "a") s1=q at N;obtain⟨s2,pt⟩:=q;show wp _ [.pin l [.int s2],.im (.lst (ah.map sT)),.im (sT un),.im pt.toD,.no,.no,.no,.no,.no] _;apply az;refine dH (d:=kdD (cw "a",[un])) (bI (aj (cwX "a") (aj (bn (aj rfl rfl)) rfl))) ?_;apply az;refine cq (bO l s2 7 _ rfl N (by decide)) ?_;dsimp only;unfold bbR bbS;have d7:=ba s2 (k:=7) (by decide);have A:=be s2;generalize dr s2 7=v at d7;generalize nx s2=c at A;show wp _ [.pin l [.int c],.im (.lst (ah.map sT)),.im (sT un),.im pt.toD,.im (kdD (cw "a",[un])),.im (.int v),.no,.no,.no] _;have p:∀U,aR (af (kSt "is") (af (aR (af (kSt "b") (af (ax nZ) nZ))) nZ)) U=aa (Pa.toD (.is thB)):=λU=>bI (aj rfl (aj (bI (aj (cwX "b") (aj rfl rfl))) rfl));have tA:∀U,aR (af (kSt "a") (af (ax nZ) nZ)) U=aa (kdD thA):=λU=>bI (aj (cwX "a") (aj rfl rfl));apply az;refine bw (b:=decide (v=0) || (decide (ah=[]) && decide (2<v))) (lH (aV (aF rfl rfl (cY _ _))) (jF (HK ah _ 1 rfl) (aV (aF rfl rfl kf)))) (λe=>?_) λe=>bD ?_
  .have e:v=0\/ah=[]/\2<v:=by simpa using e
   rw[if_pos e,if_pos e];exact cB (d:=Ro.toD (.rule ac (cw "a",[un]) [.is thB] [])) (bI (aj rfl (aj rfl (aj (bn (aj (p _) rfl)) (aj rfl rfl))))) ⟨_,_,_,_,_,_,_,_,rfl⟩
  have u:¬(v=0\/ah=[]/\2<v):=λz=>by
   have:(decide (v=0) || (decide (ah=[]) && decide (2<v)))=ac:=by simpa using z
   rw[e]at this
   nomatch this
  rw[if_neg u,if_neg u];apply az;refine bw (b:=decide (v=1)) (aV (aF rfl rfl (cY _ _))) (λe=>?_) λe=>bD ?_
  .rw[if_pos (of_decide_eq_true e),if_pos (of_decide_eq_true e)];exact cB (d:=Ro.toD (.choose 0 1 [(thB,1),((cw "a",[un]),1)] [] [] [])) (bI (aj rfl (aj rfl (aj rfl (aj (bn (aj (bI (aj (bI (aj (cwX "b") (aj rfl rfl))) (aj rfl rfl))) (aj (bI (aj rfl (aj rfl rfl))) rfl))) (aj rfl (aj rfl (aj rfl rfl)))))))) ⟨_,_,_,_,_,_,_,_,rfl⟩
  have Q:=of_decide_eq_false e;rw[if_neg Q,if_neg Q];apply az;refine bw (b:=decide (v=2)) (aV (aF rfl rfl (cY _ _))) (λe=>?_) λe=>bD ?_
  .rw[if_pos (of_decide_eq_true e),if_pos (of_decide_eq_true e)];have d3:=ba c (k:=3) (by decide);apply az;refine cq (d:=.str (if dr c 3=0 then "never" else if decide (dr c 3=1) then "rule" else "may")) (bY (au rfl) (bO l c 3 _ rfl A (by decide)) ?_) ?_
   .rcases(show dr c 3=0\/dr c 3=1\/dr c 3=2 by lia)with z |z |z <;> (rw[z];rfl)
   generalize dr c 3=k at d3;show wp _ [.pin l [.int (nx c)],.im (.lst (ah.map sT)),.im (sT un),.im pt.toD,.im (kdD (cw "a",[un])),.im (.int v),.im (.str (if k=0 then "never" else if decide (k=1) then "rule" else "may")),.no,.no] _;apply az
   refine bw (b:=decide (k=0)) (aV (aF rfl rfl (by rcases(show k=0\/k=1\/k=2 by lia)with z |z |z <;> (subst z;rfl)))) (λe=>?_) λe=>bD ?_
   .have e:=of_decide_eq_true e;subst e;exact cB (d:=Ro.toD (.never [.is thB,pt] [])) (bI (aj rfl (aj (bn (aj (p _) (aj rfl rfl))) (aj rfl rfl)))) ⟨_,_,_,_,_,_,_,_,rfl⟩
   .have e:=of_decide_eq_false e;rw[if_neg e,if_neg e];exact cB (d:=Ro.toD (.rule (decide (k=1)) thA [.is thB,pt] [])) (bI (aj rfl (aj (tA _) (aj (bn (aj (p _) (aj rfl rfl))) (aj rfl rfl))))) ⟨_,_,_,_,_,_,_,_,rfl⟩
  have T:=of_decide_eq_false e;rw[if_neg T,if_neg T];have ha:ah≠[]:=λz=>u (.inr ⟨z,by lia⟩);have hp:=eX.mpr ha;have dk:=ba c (k:=(ah.length:Nat)) (by lia);apply az;refine cq (d:=.lst ((kW ah un c).map prD)) (pM (av (dY (av (au rfl) (av (bY (au rfl) (bO l c (ah.length:Nat) _ (bx (aj rfl rfl) (c9 ah sT)) A (by lia)) (ji (z:=[]) sT dk)) rfl))) rfl)) ?_;generalize kW ah un c=ov;have n4:=be c;generalize nx c=j at n4;show wp _ [.pin l [.int j],.im (.lst (ah.map sT)),.im (sT un),.im pt.toD,.im (kdD (cw "a",[un])),.im (.int v),.no,.im (.lst (ov.map prD)),.no] _;have ct:aR (af (kSt "least") (af (kI 1) (af (ax (af (aR (af (aR (af (kSt "b") (af (ax (af (ag 2) nZ)) nZ))) (af (kI 1) nZ))) nZ)) (af (ag 7) nZ)))) [.pin l [.int j],.im (.lst (ah.map sT)),.im (sT un),.im pt.toD,.im (kdD (cw "a",[un])),.im (.int v),.no,.im (.lst (ov.map prD)),.no]=aa (Pa.toD (dB un ov)):=bI (aj rfl (aj rfl (aj (bn (aj (bI (aj (bI (aj (cwX "b") (aj (bn (aj rfl rfl)) rfl))) (aj rfl rfl))) rfl)) (aj rfl rfl))));apply az;refine bw (b:=decide (v=3)) (aV (aF rfl rfl (cY _ _))) (λe=>?_) λe=>bD ?_
  .rw[if_pos (of_decide_eq_true e),if_pos (of_decide_eq_true e)];exact cB (d:=Ro.toD (.rule ak (cw "a",[un]) [dB un ov] [])) (bI (aj rfl (aj rfl (aj (bn (aj ct rfl)) (aj rfl rfl))))) ⟨_,_,_,_,_,_,_,_,rfl⟩
  have Y:=of_decide_eq_false e;rw[if_neg Y,if_neg Y];apply az;refine bw (b:=decide (4<v)) (aV (aF rfl rfl kf)) (λe=>?_) λe=>bD ?_
  .have t:=of_decide_eq_true e;rw[if_pos t,if_pos t];have d2:=ba j (k:=2) (by decide);apply az;refine fh (d:=[Pa.toD (dB un ov)]) (aj ct rfl) ?_;show wp _ [.pin l [.int j],.im (.lst (ah.map sT)),.im (sT un),.im pt.toD,.im (kdD (cw "a",[un])),.im (.int v),.no,.im (.lst (ov.map prD)),.own [Pa.toD (dB un ov)]] _;apply az;refine tE (ρ1:=[.pin l [.int (nx j)],.im (.lst (ah.map sT)),.im (sT un),.im pt.toD,.im (kdD (cw "a",[un])),.im (.int v),.no,.im (.lst (ov.map prD)),.own [Pa.toD (dB un ov)]]) (d:=Pa.toD (fR v un)) (xs:=[Pa.toD (dB un ov)]) rfl (av (bO l j 2 _ rfl n4 (by decide)) (av (au (aZ (ds:=[Pa.toD (.is (cw "a",[un])),Pa.toD (.ct ak 1 [((cw "a",[un]),1)] [])]) (aj rfl (aj (bI (aj rfl (aj rfl (aj (bn (aj rfl rfl)) (aj rfl rfl))))) rfl)) (aF rfl rfl iH) ?_)) rfl)) rfl ⟨d2.1,by show _<=(1:Int);lia,by simp⟩ ?_
   .unfold fR
    rcases(show v=5\/v=6 by lia)with z |z <;> (subst z;rfl)
   have ei:[Pa.toD (dB un ov)].take (dr j 2).toNat++Pa.toD (fR v un)::[Pa.toD (dB un ov)].drop (dr j 2).toNat=(fj [dB un ov] (dr j 2) (fR v un)).map Pa.toD:=by
    exact xj Pa.toD [dB un ov] (dr j 2) (fR v un)
   rw[ei];refine iF (ρ':=[.pin l [.int (nx j)],.im (.lst (ah.map sT)),.im (sT un),.im pt.toD,.im (kdD (cw "a",[un])),.im (.int v),.no,.im (.lst (ov.map prD)),.im (.lst ((fj [dB un ov] (dr j 2) (fR v un)).map Pa.toD))]) rfl ?_;exact cB (d:=Ro.toD (.rule ak thA (fj [dB un ov] (dr j 2) (fR v un)) [])) (bI (aj rfl (aj (tA _) (aj rfl (aj rfl rfl))))) ⟨_,_,_,_,_,_,_,_,rfl⟩
  have t:=of_decide_eq_false e;rw[if_neg t,if_neg t];exact cB (d:=Ro.toD (.choose 0 1 [((cw "a",[un]),1)] ov [pt] [])) (bI (aj rfl (aj rfl (aj rfl (aj (bn (aj (bI (aj rfl (aj rfl rfl))) rfl)) (aj rfl (aj (bn (aj rfl rfl)) (aj rfl rfl)))))))) ⟨_,_,_,_,_,_,_,_,rfl⟩
 obtain⟨o,e,B,E,G,H,I,J,L,M,rfl⟩:=w;exact fE e rfl
def gZ(ks:List Kd)(r:Ro)(hn:∀n ns,r≠.kind n ns)(L:RoS r)(J:ks.length<=1000)(H:∀k∈ks.map (·.1),bN k=ac)(o:PsL (ks.map (·.1)) [] (roP r))
 (G:∀u∈roU r,(∀w∈u.1,bN w=ac\/cT w=ac)/\(PsL (ks.map (·.1)) (vrs (roP r)) u.2\/gG (ks.map (·.1)) (roP r) u.2))
 (I:∃u∈roU r,gG (ks.map (·.1)) (roP r) u.2\/PsL (ks.map (·.1)) (vrs (roP r)) u.2/\∃w∈u.1,cT w=ac/\w∉vrs (roP r++u.2)):r_3 [r.toD,.lst (ks.map kdD)]=ac:=by
 have sz:∀{vs:L2N} {q:List Pr},jQ (ks.map (·.1)) vs q->∀p∈q,p.1.length<=1000/\p.2.length<=1000:=λh p o=>by
  have e:=(pR (h.vr p o)).1;have j:=(ic (H _ (h.kd p o))).1;exact⟨by lia,by lia⟩
 have A:∀u∈roU r,UsS u:=λu c=>by
  obtain⟨e,j⟩:=G u c
  have B:∀w∈u.1,w.length<=100/\asc w:=λw t=>by
   rcases e w t with z |z
   .exact⟨by have:=(ic z).1;lia,A0 z⟩
   .exact⟨by have:=(pR z).1;lia,A1 z⟩
  rcases j with z |z
  .exact⟨by have:=z.2;lia,sz z.1,B⟩
  .exact⟨z.2.1,z.2.2,B⟩
 refine Bj ks r hn L J ⟨by have:=o.2;lia,sz o.1⟩ (.inr ⟨o.1,λu c=>⟨A u c,?_⟩,?_⟩)
 .obtain⟨e,j⟩:=G u c
  rcases j with z |z
  .by_cases E:∀w∈u.1,gF (vrs (roP r)++vrs u.2) w
   .exact .inl ⟨z,E⟩
   .refine .inr (.inr ⟨z.1,?_⟩);obtain⟨w,t,hn⟩:∃w∈u.1,¬gF (vrs (roP r)++vrs u.2) w:=by simpa using E
    refine⟨w,t,(e w t).resolve_left λz=>hn (.inr z),λz=>hn (.inl ?_)⟩;rw[show vrs (roP r++u.2)=vrs (roP r)++vrs u.2 from cK]at z;exact z
  .exact .inr (.inl z.1)
 .obtain⟨u,c,h⟩:=I
  rcases h with z |⟨z,w,t,e,j⟩
  .exact⟨u,c,.inl z.1⟩
  .exact⟨u,c,.inr ⟨z.1,w,t,e,j⟩⟩
def HM(ks:List Kd)(r:Ro)(hn:∀n ns,r≠.kind n ns)(e:RoS r)(c:ks.length<=1000)(h:gG (ks.map (·.1)) [] (roP r)):r_3 [r.toD,.lst (ks.map kdD)]=ac:=
 Bj ks r hn e c h.2 (.inl h.1)
def BB{k:LN}(j:cT v=ac)(e:k∈K):PsL K [] [(v,k)]:=⟨⟨by simp[vrs],λp c=>by rw[aU.mp c];exact e,λp c=>by rw[aU.mp c];exact j⟩,by simp⟩
section
variable{ks:List Kd}(hk:ks.length<=3)(hK:∀k∈ks.map (·.1),bN k=ac)
include hk hK
def HN(s:Int):tw ks (bbP (ks.map (·.1)) s).2:=by
 obtain⟨ha,hb,hc⟩:=pU;obtain⟨v1,T⟩:=nE s;unfold bbP;generalize bF s=q at v1 T;obtain⟨s1,un⟩:=q;obtain⟨b1,Y⟩:=BA un (cw "a") ha s1;dsimp only at T ⊢;generalize bdP un (cw "a") s1=q at b1 Y;obtain⟨s2,pt⟩:=q;dsimp only at b1 Y ⊢;have d7:=ba s2 (k:=7) (by decide);have I:∀K:L2N,PsL K [] []:=λK=>nK g7;have H:un∉vrs ([]++[]):=λz=>(bJ z).elim;have t:∀G:L2N,(∀w∈G,bN w=ac\/w=un)->(∀w∈(G,([]:List Pr)).1,bN w=ac\/cT w=ac)/\(PsL (ks.map (·.1)) (vrs []) (G,([]:List Pr)).2\/gG (ks.map (·.1)) [] (G,([]:List Pr)).2):=λG h=>⟨λw A=>(h w A).imp id λe=>by rw[e];exact T,.inl (I _)⟩
 have usP:(∀w∈(paU pt).1,bN w=ac\/cT w=ac)/\(PsL (ks.map (·.1)) (vrs []) (paU pt).2\/gG (ks.map (·.1)) [] (paU pt).2):=by
  refine⟨λw A=>(Y.a w A).imp id λe=>by rw[e];exact T,.inl ?_⟩;rw[Y.o];exact I _
 have baP:gG (ks.map (·.1)) [] (paU pt).2\/PsL (ks.map (·.1)) (vrs []) (paU pt).2/\∃w∈(paU pt).1,cT w=ac/\w∉vrs ([]++(paU pt).2):=by
  rw[Y.o];exact .inr ⟨I _,un,Y.u,T,H⟩
 have E:∀w∈[un],bN w=ac\/w=un:=λw A=>.inr (aU.mp A);have Q:∀w∈([]:L2N),bN w=ac\/w=un:=λw A=>(bJ A).elim;have J:∀G:L2N,un∈G->gG (ks.map (·.1)) [] (G,([]:List Pr)).2\/PsL (ks.map (·.1)) (vrs []) (G,([]:List Pr)).2/\∃w∈(G,([]:List Pr)).1,cT w=ac/\w∉vrs ([]++(G,([]:List Pr)).2):=λG h=>.inr ⟨I _,un,h,T,H⟩;have hl:(ks.map (·.1)).length<=3:=by rw[aW];exact hk
 unfold bbR;split
 .refine gZ ks _ (λ_ _ e=>nomatch e) ⟨by simp,by simp,λp j=>by rw[aU.mp j];exact gl _⟩ (by lia) hK (I _) (λu c=>?_) ⟨([un],[]),by simp[roU],J [un] (by simp)⟩;have c:u=([],[])\/u=([un],[]):=by simpa[roU,paU]using c
  rcases c with e |e <;> subst e
  .exact t _ Q
  .exact t _ E
 rename_i hna;split
 .refine gZ ks _ (λ_ _ e=>nomatch e) ⟨⟨by simp,λz N=>?_⟩,by simp,λp j=>(bJ j).elim⟩ (by lia) hK (I _) (λu c=>?_) ⟨([un],[]),by simp[roU,dQ],J [un] (by simp)⟩
  .have N:z=(thB,1)\/z=((cw "a",[un]),1):=by simpa using N
   rcases N with e |e <;> (subst e;simp)
  .have c:u=([un],[]):=by simpa[roU,dQ]using c
   subst c;exact t _ E
 split
 .have two:∀u∈[Pa.is thB,pt].map paU,(∀w∈u.1,bN w=ac\/cT w=ac)/\(PsL (ks.map (·.1)) (vrs []) u.2\/gG (ks.map (·.1)) [] u.2):=λu c=>by
   have c:u=([],[])\/u=paU pt:=by simpa[paU]using c
   rcases c with e |e <;> subst e
   .exact t _ Q
   .exact usP
  have ss:∀p∈[Pa.is thB,pt],PaS p:=λp j=>by
   have j:p=.is thB\/p=pt:=by simpa using j
   rcases j with e |e <;> subst e
   .exact gl _
   .exact Y.s
  split
  .exact gZ ks _ (λ_ _ e=>nomatch e) ⟨by simp,ss⟩ (by lia) hK (I _) two ⟨paU pt,by simp[roU],baP⟩
  .refine gZ ks _ (λ_ _ e=>nomatch e) ⟨by simp,by simp,ss⟩ (by lia) hK (I _) (λu c=>?_) ⟨paU pt,by simp[roU],baP⟩
   rcases bV.mp c with e |e
   .exact two u e
   .rw[aU.mp e];exact t _ Q
 rename_i h1 h2;have hah:ks.map (·.1)≠[]:=λz=>hna (.inr ⟨z,by lia⟩);have j:=eX.mpr hah;have hpk:=gY (L:=ks.map (·.1)) (z:=[]) (ba (nx s2) (k:=((ks.map (·.1)).length:Nat)) (by lia));have hov:PsL (ks.map (·.1)) [] (kW (ks.map (·.1)) un (nx s2)):=BB T hpk;have hovu:vrs ([]++kW (ks.map (·.1)) un (nx s2))=[un]:=rfl;generalize kW (ks.map (·.1)) un (nx s2)=ov at hov hovu
 have usC:(∀w∈(paU (dB un ov)).1,bN w=ac\/cT w=ac)/\(PsL (ks.map (·.1)) (vrs []) (paU (dB un ov)).2\/gG (ks.map (·.1)) [] (paU (dB un ov)).2):=by
  refine⟨λw A=>.inr ?_,.inl hov⟩;have A:w=un:=by simpa[paU,dB,dQ]using A
  rw[A];exact T
 have ssC:PaS (dB un ov):=⟨by simp,λz N=>by rw[aU.mp N];simp⟩;split
 .refine gZ ks _ (λ_ _ e=>nomatch e) ⟨by simp,by simp,λp j=>by rw[aU.mp j];exact ssC⟩ (by lia) hK (I _) (λu c=>?_) ⟨([un],[]),by simp[roU],J [un] (by simp)⟩
  rcases bV.mp c with e |e
  .rw[aU.mp e];exact usC
  .rw[aU.mp e];exact t _ E
 split
 .have M:paU (fR (dr s2 7) un)=([un],[])/\PaS (fR (dr s2 7) un):=by
   unfold fR;split
   .exact⟨rfl,by simp[PaS]⟩
   .exact⟨by simp[paU,dQ],by simp,λz N=>by rw[aU.mp N];simp⟩
  have mem:∀p∈fj [dB un ov] (dr (nx (nx s2)) 2) (fR (dr s2 7) un),p=fR (dr s2 7) un\/p=dB un ov:=λp j=>by
   rcases bV.mp j with z |z
   .exact .inr (aU.mp (p8 z))
   .rcases bG.mp z with z |z
    .exact .inl z
    .exact .inr (aU.mp (mem_of_mem_drop z))
  have eC:fR (dr s2 7) un∈fj [dB un ov] (dr (nx (nx s2)) 2) (fR (dr s2 7) un):=bV.mpr (.inr bP);generalize fR (dr s2 7) un=P at M mem eC
  have d8:(fj [dB un ov] (dr (nx (nx s2)) 2) P).length<=100:=by
   unfold fj;rw[bh,b9,eY,gi,fS];lia
  generalize fj [dB un ov] (dr (nx (nx s2)) 2) P=B at mem eC d8;refine gZ ks _ (λ_ _ e=>nomatch e) ⟨by simp,d8,λp j=>?_⟩ (by lia) hK (I _) (λu c=>?_) ⟨([un],[]),?_,J [un] (by simp)⟩
  .rcases mem p j with e |e <;> rw[e]
   .exact M.2
   .exact ssC
  .rcases bV.mp c with e |e
   .obtain⟨p,j,rfl⟩:=gJ.mp e
    rcases mem p j with e |e <;> rw[e]
    .rw[M.1];exact t _ E
    .exact usC
   .rw[aU.mp e];exact t _ Q
  .exact bV.mpr (.inl (gJ.mpr ⟨P,eC,M.1⟩))
 .refine gZ ks _ (λ_ _ e=>nomatch e) ⟨⟨by simp,λz N=>by rw[aU.mp N];simp⟩,by simp,λp j=>by rw[aU.mp j];exact Y.s⟩ (by lia) hK (I _) (λu c=>?_) ⟨paU pt,by simp[roU],baP⟩
  rcases bV.mp c with e |e
  .rw[aU.mp e];exact usP
  .rw[aU.mp e];refine⟨λw A=>.inr ?_,.inl hov⟩;have A:w=un:=by simpa[dQ]using A
   rw[A];exact T
end
abbrev kzN(s:Int):L2N:=fj ([cw "a",cw "b",cw "c"].take (dr s 4).toNat) (dr (nx s) ((([cw "a",cw "b",cw "c"].take (dr s 4).toNat).length:Nat)+1)) (cw "d")
abbrev xk(ah:L2N)(v:Int×LN):Pr:=(v.2,b8 ah [] (dr v.1 (ah.length:Nat)))
abbrev g5(c:Pr)(s:Int):Pa:=.ct (decide (dr s 2=0)) 1 [((cw "a",[c.1]),1)] [c]
abbrev bd4(c:Pr)(s:Int):Ro:=
 if dr (nx s) 5=0 then .never [g5 c s] [c]
 else if dr (nx s) 5=4 then .choose 0 1 [(thB,1)] [] [g5 c s] [c]
 else if dr (nx s) 5=1 then .rule (decide (dr (nx (nx s)) 2=0)) thB [g5 c s] [c]
 else .choose 0 1 [((cw "a",[c.1]),1)] [c] [] [c]
abbrev nM(ah la:L2N)(s:Int):Ro:=
 if dr s 6=0/\ah≠[] then .kind (b8 ah [] (dr (nx s) (ah.length:Nat))) [cw "a"]
 else if dr s 6<2 then .kind (cw "zzzzzzzz") (cw "d" :: kzN (nx s))
 else if dr s 6=2 then .rule ac thA [] (bpP ah la 3 (nx s)).2
 else if dr s 6=3 then (if dr (bpP ah la 2 (nx s)).1 2=0 then .never [.ct ac 1 [(thA,1)] (bpP ah la 2 (nx s)).2] [] else .choose 0 1 [(thA,1)] (bpP ah la 2 (nx s)).2 [] [])
 else if dr s 6=4/\ah≠[] then bd4 (xk ah (bF (nx s))) (nx (bF (nx s)).1)
 else (bbP ah (nx s)).2
abbrev tI(ah la:L2N)(s:Int):Int:=
 if dr s 6=0/\ah≠[] then nx (nx s)
 else if dr s 6<2 then nx (nx (nx s))
 else if dr s 6=2 then (bpP ah la 3 (nx s)).1
 else if dr s 6=3 then nx (bpP ah la 2 (nx s)).1
 else if dr s 6=4/\ah≠[] then (if dr (nx (nx (bF (nx s)).1)) 5=0 then nx (nx (nx (bF (nx s)).1)) else if dr (nx (nx (bF (nx s)).1)) 5=4 then nx (nx (nx (bF (nx s)).1)) else if dr (nx (nx (bF (nx s)).1)) 5=1 then nx (nx (nx (nx (bF (nx s)).1))) else nx (nx (nx (bF (nx s)).1)))
 else (bbP ah (nx s)).1
def HP(s:Int):cw "d" ∈ kzN s/\(kzN s).length<=10:=by
 refine⟨bV.mpr (.inr bP),?_⟩;unfold kzN fj;rw[bh,b9,eY,gi,eY,b9,b9,fS];lia
def HQ:(cw "zzzzzzzz").length<=1000:=by decide +kernel
section
variable{ks:List Kd}(hk:ks.length<=3)(hK:∀k∈ks.map (·.1),bN k=ac){la:L2N}(hla:∀w∈la,bN w=ac)
include hk hK
def HR{c:Pr}(B:cT c.1=ac)(H:c.2∈ks.map (·.1))(s:Int):tw ks (bd4 c s):=by
 obtain⟨ha,J,L⟩:=pU;have j:PsL (ks.map (·.1)) [] [c]:=BB B H
 have q:gG (ks.map (·.1)) [c] [c]:=⟨.inl (by simp[vrs]),by simp,λp j=>by
  rw[aU.mp j];have M:=(pR B).1;have N:=(ic (hK _ H)).1;exact⟨by lia,by lia⟩⟩
 have ss:PaS (g5 c s):=⟨by simp,λz t=>by rw[aU.mp t];simp⟩;have arg:∀w∈[c.1],bN w=ac\/cT w=ac:=λw E=>by rw[aU.mp E];exact .inr B
 have A:paU (g5 c s)=([c.1],[c]):=by simp[paU,g5,dQ]
 have G:(∀w∈(paU (g5 c s)).1,bN w=ac\/cT w=ac)/\(PsL (ks.map (·.1)) (vrs [c]) (paU (g5 c s)).2\/gG (ks.map (·.1)) [c] (paU (g5 c s)).2):=by rw[A];exact⟨arg,.inr q⟩
 have I:(∀w∈(([],[]):Us).1,bN w=ac\/cT w=ac)/\(PsL (ks.map (·.1)) (vrs [c]) (([],[]):Us).2\/gG (ks.map (·.1)) [c] (([],[]):Us).2):=⟨λw E=>(bJ E).elim,.inl (nK (by simp[vrs]))⟩;unfold bd4;split
 .exact gZ ks _ (λ_ _ e=>nomatch e) ⟨by simp,λp j=>by rw[aU.mp j];exact ss⟩ (by lia) hK j (λu o=>by rw[aU.mp o];exact G) ⟨_,bP,.inl (by rw[A];exact q)⟩
 .split
  .refine gZ ks _ (λ_ _ e=>nomatch e) ⟨⟨by simp,λz t=>by rw[aU.mp t];simp⟩,by simp,λp j=>by rw[aU.mp j];exact ss⟩ (by lia) hK j (λu o=>?_) ⟨paU (g5 c s),by simp[roU],.inl (by rw[A];exact q)⟩
   rcases bV.mp o with e |e
   .rw[aU.mp e];exact G
   .rw[aU.mp e];exact I
  .split
   .refine gZ ks _ (λ_ _ e=>nomatch e) ⟨by simp,by simp,λp j=>by rw[aU.mp j];exact ss⟩ (by lia) hK j (λu o=>?_) ⟨paU (g5 c s),by simp[roU],.inl (by rw[A];exact q)⟩
    rcases bV.mp o with e |e
    .rw[aU.mp e];exact G
    .rw[aU.mp e];exact I
   .refine gZ ks _ (λ_ _ e=>nomatch e) ⟨⟨by simp,λz t=>by rw[aU.mp t];simp⟩,by simp,λp j=>(bJ j).elim⟩ (by lia) hK j (λu o=>?_) ⟨([c.1],[c]),by simp[roU,dQ],.inl q⟩;have o:u=([c.1],[c]):=by simpa[roU,dQ]using o
    subst o;exact⟨arg,.inr q⟩
include hla
def HS(s:Int):tw ks (nM (ks.map (·.1)) la s):=by
 have A:(ks.map (·.1)).length<=3:=by rw[aW];exact hk
 unfold nM;split
 .rename_i h;have c:=eX.mpr h.2;have hm:=gY (L:=ks.map (·.1)) (z:=[]) (ba (nx s) (k:=((ks.map (·.1)).length:Nat)) (by lia));exact Bh ks _ _ (.inl hm) (by have:=(ic (hK _ hm)).1;lia) (by simp) (by lia)
 split
 .have:=HP (nx s);exact Bh ks _ _ (.inr λz=>(gj.mp z).1 this.1) HQ (by rw[b9];lia) (by lia)
 split
 .exact HM ks _ (λ_ _ e=>nomatch e) ⟨by simp,by simp,λp c=>(bJ c).elim⟩ (by lia) (By A hK hla 3 (nx s)).2
 split
 .have o:=(By A hK hla 2 (nx s)).2;generalize bpP (ks.map (·.1)) la 2 (nx s)=q at o;have B:(∀w∈(([],q.2):Us).1,bN w=ac\/cT w=ac)/\(PsL (ks.map (·.1)) (vrs []) (([],q.2):Us).2\/gG (ks.map (·.1)) [] (([],q.2):Us).2):=⟨λw E=>(bJ E).elim,.inr o⟩;split
  .refine gZ ks _ (λ_ _ e=>nomatch e) ⟨by simp,λp c=>by rw[aU.mp c];exact⟨by simp,λz t=>by rw[aU.mp t];simp⟩⟩ (by lia) hK (nK g7) (λu j=>?_) ⟨([],q.2),by simp[roU,paU,dQ],.inl o⟩;have j:u=([],q.2):=by simpa[roU,paU,dQ]using j
   subst j;exact B
  .refine gZ ks _ (λ_ _ e=>nomatch e) ⟨⟨by simp,λz t=>by rw[aU.mp t];simp⟩,by simp,λp c=>(bJ c).elim⟩ (by lia) hK (nK g7) (λu j=>?_) ⟨([],q.2),by simp[roU,dQ],.inl o⟩;have j:u=([],q.2):=by simpa[roU,dQ]using j
   subst j;exact B
 split
 .rename_i h;have c:=eX.mpr h.2;obtain⟨H,G⟩:=nE (nx s);exact HR hk hK G (gY (L:=ks.map (·.1)) (z:=[]) (ba _ (k:=((ks.map (·.1)).length:Nat)) (by lia))) _
 .exact HN hk hK _
end
def HU(l:Addr)(ah la:L2N)(ha:ah.length<=3)(j:∀w∈la,bN w=ac)(s:Int)(hs:okS s):wn l [] [.lst (ah.map sT),.lst (la.map sT)] [.int s]=aa ([.int (tI ah la s)],(nM ah la s).toD):=by
 have w:wp ph [.pin l [.int s],.im (.lst (ah.map sT)),.im (.lst (la.map sT)),.no,.no,.no,.no,.no,.no,.no] (λo=>∃I J L Q T Y a7 a8 a9,o=.rtS (nM ah la s).toD [.pin l [.int (tI ah la s)],I,J,L,Q,T,Y,a7,a8,a9]):=by
  unfold ph nM tI;have d6:=ba s (k:=6) (by decide);have p:=be s;apply az;refine cq (bO l s 6 _ rfl hs (by decide)) ?_;generalize dr s 6=v at d6;generalize nx s=s1 at p;show wp _ [.pin l [.int s1],.im (.lst (ah.map sT)),.im (.lst (la.map sT)),.im (.int v),.no,.no,.no,.no,.no,.no] _
  have A:∀U:LS,ag 1 U=aa (.lst (ah.map sT))->mB (m2 dGt (aQ bL (af (ag 1) nZ)) (kI 0)) U=aa (decide (ah≠[])):=λU h=>by
   refine aV (aF (bx (aj h rfl) (c9 ah sT)) rfl ((nJ _).trans ?_));rw[decide_eq_decide.mpr eX]
  have hd:∀s,ah≠[]->0<=dr s (ah.length:Nat)/\dr s (ah.length:Nat)<(ah.length:Nat):=λs h=>ba s (by have:=eX.mpr h;lia);have H:∀U,aR (af (kSt "a") (af (ax nZ) nZ)) U=aa (kdD thA):=λU=>bI (aj (cwX "a") (aj rfl rfl));have tB:∀U,aR (af (kSt "b") (af (ax nZ) nZ)) U=aa (kdD thB):=λU=>bI (aj (cwX "b") (aj rfl rfl));apply az;refine bw (b:=decide (v=0) && decide (ah≠[])) (jF (aV (aF rfl rfl (cY _ _))) (A _ rfl)) (λe=>?_) λe=>bD ?_
  .rw[cx,decide_eq_true_eq,decide_eq_true_eq]at e;rw[if_pos e,if_pos e];have hp:=eX.mpr e.2;exact gB (d:=Ro.toD (.kind (b8 ah [] (dr s1 (ah.length:Nat))) [cw "a"])) (dY (av (au rfl) (av (bY (au rfl) (bO l s1 (ah.length:Nat) _ (bx (aj rfl rfl) (c9 ah sT)) p (by lia)) (ji (z:=[]) sT (hd _ e.2))) (av (au (bn (aj (cwX "a") rfl))) rfl)))) ⟨_,_,_,_,_,_,_,_,_,rfl⟩
  have e0:¬(v=0/\ah≠[]):=λz=>by rw[decide_eq_true z.1,decide_eq_true z.2]at e;nomatch e
  rw[if_neg e0,if_neg e0];apply az;refine bw (b:=decide (v<2)) (aV (aF rfl rfl oJ)) (λe=>?_) λe=>bD ?_
  .have e:=of_decide_eq_true e;rw[if_pos e,if_pos e];have d4:=ba s1 (k:=4) (by decide);apply az;refine Gk (ds:=[cw "a",cw "b",cw "c"].map sT) (au (bn (aj (cwX "a") (aj (cwX "b") (aj (cwX "c") rfl))))) (bO l s1 4 _ rfl p (by decide)) ?_
   have ec:jB ([cw "a",cw "b",cw "c"].map sT) ae (aa (dr s1 4))=([cw "a",cw "b",cw "c"].take (dr s1 4).toNat).map sT:=by
    rcases(show dr s1 4=0\/dr s1 4=1\/dr s1 4=2\/dr s1 4=3 by lia)with z |z |z |z <;> (rw[z];rfl)
   rw[ec];have G:([cw "a",cw "b",cw "c"].take (dr s1 4).toNat).length<=3:=by rw[eY];exact Nat.min_le_right _ _
   unfold kzN;generalize [cw "a",cw "b",cw "c"].take (dr s1 4).toNat=N at G;show wp _ [.pin l [.int (nx s1)],.im (.lst (ah.map sT)),.im (.lst (la.map sT)),.im (.int v),.own (N.map sT),.no,.no,.no,.no,.no] _;have dn:=ba (nx s1) (k:=((N.length:Nat):Int)+1) (by lia);apply az;refine tE (xs:=N.map sT) (ρ1:=[.pin l [.int (nx (nx s1))],.im (.lst (ah.map sT)),.im (.lst (la.map sT)),.im (.int v),.own (N.map sT),.no,.no,.no,.no,.no]) rfl (av (bO l (nx s1) (((N.length:Nat):Int)+1) _ (aF (bx (aj rfl rfl) (c9 N sT)) rfl gy) (be _) (by lia)) (av (au (cwX "d")) rfl)) rfl ⟨dn.1,by rw[aW];lia,by rw[aW];lia⟩ ?_;rw[xj]
   have E:(fj N (dr (nx s1) (((N.length:Nat):Int)+1)) (cw "d")).length<=10:=by
    unfold fj;rw[bh,b9,eY,gi];lia
   generalize fj N (dr (nx s1) (((N.length:Nat):Int)+1)) (cw "d")=M at E;refine iF (ρ':=[.pin l [.int (nx (nx s1))],.im (.lst (ah.map sT)),.im (.lst (la.map sT)),.im (.int v),.im (.lst (M.map sT)),.no,.no,.no,.no,.no]) rfl ?_;refine cB (d:=Ro.toD (.kind (cw "zzzzzzzz") (cw "d" :: M))) (bI (aj rfl (aj (cwX "zzzzzzzz") (aj (bn (ds:=(cw "d" :: M).map sT) ?_) rfl)))) ⟨_,_,_,_,_,_,_,_,_,rfl⟩;unfold i6;rw[bn (aj (cwX "d") rfl)];show(if _ then _ else ae)=_;rw[if_pos (by simp;lia)];rfl
  have e2:=of_decide_eq_false e;rw[if_neg e2,if_neg e2];apply az;refine bw (b:=decide (v=2)) (aV (aF rfl rfl (cY _ _))) (λe=>?_) λe=>bD ?_
  .have e:=of_decide_eq_true e;rw[if_pos e,if_pos e];exact gB (d:=Ro.toD (.rule ac thA [] (bpP ah la 3 s1).2)) (dY (av (au rfl) (av (au (H _)) (av (au rfl) (av (eV (i:=0) rfl (av (au rfl) (av (au rfl) (av (au rfl) rfl))) rfl (Bz l ah la ha j 3 s1 p)) rfl))))) ⟨_,_,_,_,_,_,_,_,_,rfl⟩
  have e3:=of_decide_eq_false e;rw[if_neg e3,if_neg e3];apply az;refine bw (b:=decide (v=3)) (aV (aF rfl rfl (cY _ _))) (λe=>?_) λe=>bD ?_
  .have e:=of_decide_eq_true e;rw[if_pos e,if_pos e];apply az;refine cq (eV (i:=0) rfl (av (au rfl) (av (au rfl) (av (au rfl) rfl))) rfl (Bz l ah la ha j 2 s1 p)) ?_
   have b1:okS (bpP ah la 2 s1).1:=by
    unfold bpP;split
    .exact(xi ha j s1).1
    .exact be _
   generalize bpP ah la 2 s1=q at b1;obtain⟨s2,pp⟩:=q;show wp _ [.pin l [.int s2],.im (.lst (ah.map sT)),.im (.lst (la.map sT)),.im (.int v),.no,.im (.lst (pp.map prD)),.no,.no,.no,.no] _;apply az;refine l5 (b:=decide (dr s2 2=0)) (bxX (bY (bO l s2 2 _ rfl b1 (by decide)) (au rfl) (cY _ _))) (λe=>?_) λe=>bD ?_
   .rw[if_pos (of_decide_eq_true e)];exact cB (d:=Ro.toD (.never [.ct ac 1 [(thA,1)] pp] [])) (bI (aj rfl (aj (bn (aj (bI (aj rfl (aj rfl (aj (bn (aj (bI (aj (H _) (aj rfl rfl))) rfl)) (aj rfl rfl))))) rfl)) (aj rfl rfl)))) ⟨_,_,_,_,_,_,_,_,_,rfl⟩
   .rw[if_neg (of_decide_eq_false e)];exact cB (d:=Ro.toD (.choose 0 1 [(thA,1)] pp [] [])) (bI (aj rfl (aj rfl (aj rfl (aj (bn (aj (bI (aj (H _) (aj rfl rfl))) rfl)) (aj rfl (aj rfl (aj rfl rfl)))))))) ⟨_,_,_,_,_,_,_,_,_,rfl⟩
  have e4:=of_decide_eq_false e;rw[if_neg e4,if_neg e4];apply az;refine bw (b:=decide (v=4) && decide (ah≠[])) (jF (aV (aF rfl rfl (cY _ _))) (A _ rfl)) (λe=>?_) λe=>bD ?_
  .rw[cx,decide_eq_true_eq,decide_eq_true_eq]at e;rw[if_pos e,if_pos e];have hp:=eX.mpr e.2;obtain⟨v1,v2⟩:=nE s1;have B:=hd (bF s1).1 e.2;apply az;refine cq (d:=prD (xk ah (bF s1))) (ρ1:=[.pin l [.int (nx (bF s1).1)],.im (.lst (ah.map sT)),.im (.lst (la.map sT)),.im (.int v),.no,.no,.no,.no,.no,.no]) (dY (av (pK (toD:=sT) (λs h=>wO l s h) s1 _ p) (av (bY (au rfl) (bO l (bF s1).1 (ah.length:Nat) _ (bx (aj rfl rfl) (c9 ah sT)) v1 (by lia)) (ji (z:=[]) sT B)) rfl))) ?_;generalize xk ah (bF s1)=c;have n2:=be (bF s1).1;generalize nx (bF s1).1=s2 at n2;show wp _ [.pin l [.int s2],.im (.lst (ah.map sT)),.im (.lst (la.map sT)),.im (.int v),.no,.no,.im (prD c),.no,.no,.no] _;apply az;refine dH (d:=.lst ([((cw "a",[c.1]),1)].map cZ)) (bn (aj (bI (aj (bI (aj (cwX "a") (aj (bn (aj (aZ rfl rfl rfl) rfl)) rfl))) (aj rfl rfl))) rfl)) ?_;show wp _ [.pin l [.int s2],.im (.lst (ah.map sT)),.im (.lst (la.map sT)),.im (.int v),.no,.no,.im (prD c),.im (.lst ([((cw "a",[c.1]),1)].map cZ)),.no,.no] _;apply az;have d2:=ba s2 (k:=2) (by decide);refine cq (d:=Pa.toD (g5 c s2)) (dY (av (d:=.str (if decide (dr s2 2=0) then "least" else "most")) (bY (au rfl) (bO l s2 2 _ rfl n2 (by decide)) ?_) (av (au rfl) (av (au rfl) (av (au (bn (aj rfl rfl))) rfl))))) ?_
   .rcases(show dr s2 2=0\/dr s2 2=1 by lia)with z |z <;> (rw[z];rfl)
   unfold bd4;generalize g5 c s2=P;have n3:=be s2;generalize nx s2=u at n3;show wp _ [.pin l [.int u],.im (.lst (ah.map sT)),.im (.lst (la.map sT)),.im (.int v),.no,.no,.im (prD c),.im (.lst ([((cw "a",[c.1]),1)].map cZ)),.im P.toD,.no] _;apply az;refine cq (bO l u 5 _ rfl n3 (by decide)) ?_;have d5:=ba u (k:=5) (by decide);generalize dr u 5=k at d5;have n4:=be u;generalize nx u=t at n4;show wp _ [.pin l [.int t],.im (.lst (ah.map sT)),.im (.lst (la.map sT)),.im (.int v),.no,.no,.im (prD c),.im (.lst ([((cw "a",[c.1]),1)].map cZ)),.im P.toD,.im (.int k)] _;apply az;refine bw (b:=decide (k=0)) (aV (aF rfl rfl (cY _ _))) (λe=>?_) λe=>bD ?_
   .rw[if_pos (of_decide_eq_true e),if_pos (of_decide_eq_true e)];exact cB (d:=Ro.toD (.never [P] [c])) (bI (aj rfl (aj (bn (aj rfl rfl)) (aj (bn (aj rfl rfl)) rfl)))) ⟨_,_,_,_,_,_,_,_,_,rfl⟩
   rw[if_neg (of_decide_eq_false e),if_neg (of_decide_eq_false e)];apply az;refine bw (b:=decide (k=4)) (aV (aF rfl rfl (cY _ _))) (λe=>?_) λe=>bD ?_
   .rw[if_pos (of_decide_eq_true e),if_pos (of_decide_eq_true e)];exact cB (d:=Ro.toD (.choose 0 1 [(thB,1)] [] [P] [c])) (bI (aj rfl (aj rfl (aj rfl (aj (bn (aj (bI (aj (tB _) (aj rfl rfl))) rfl)) (aj rfl (aj (bn (aj rfl rfl)) (aj (bn (aj rfl rfl)) rfl)))))))) ⟨_,_,_,_,_,_,_,_,_,rfl⟩
   rw[if_neg (of_decide_eq_false e),if_neg (of_decide_eq_false e)];apply az;refine bw (b:=decide (k=1)) (aV (aF rfl rfl (cY _ _))) (λe=>?_) λe=>bD ?_
   .rw[if_pos (of_decide_eq_true e),if_pos (of_decide_eq_true e)];have d2:=ba t (k:=2) (by decide);refine gB (d:=Ro.toD (.rule (decide (dr t 2=0)) thB [P] [c])) (dY (av (d:=.str (if decide (dr t 2=0) then "rule" else "may")) (bY (au rfl) (bO l t 2 _ rfl n4 (by decide)) ?_) (av (au (tB _)) (av (au (bn (aj rfl rfl))) (av (au (bn (aj rfl rfl))) rfl))))) ⟨_,_,_,_,_,_,_,_,_,rfl⟩
    rcases(show dr t 2=0\/dr t 2=1 by lia)with z |z <;> (rw[z];rfl)
   rw[if_neg (of_decide_eq_false e),if_neg (of_decide_eq_false e)];exact cB (d:=Ro.toD (.choose 0 1 [((cw "a",[c.1]),1)] [c] [] [c])) (bI (aj rfl (aj rfl (aj rfl (aj rfl (aj (bn (aj rfl rfl)) (aj rfl (aj (bn (aj rfl rfl)) rfl)))))))) ⟨_,_,_,_,_,_,_,_,_,rfl⟩
  have e5:¬(v=4/\ah≠[]):=λz=>by rw[decide_eq_true z.1,decide_eq_true z.2]at e;nomatch e
  rw[if_neg e5,if_neg e5];exact gB (eV (i:=0) rfl (av (au rfl) rfl) rfl (HL l ah s1 p)) ⟨_,_,_,_,_,_,_,_,_,rfl⟩
 obtain⟨o,e,I,J,L,Q,T,Y,a7,a8,a9,rfl⟩:=w;exact fE e rfl
def HV{c:Type}{f:MF2}{g:c->D}{xs:List c}(d:c)(e:f U=aa [.kl (xs.map g)]):oG f U=aa ((di xs.length).map λi=>D.tup [.int (i:Nat),g (xs.getD i d)]):=by
 unfold oG;rw[e,<- Eu];rfl
def HW(ns:List Int)(many:Int)(hm:0<many/\many<=6):∃ss:List Int,ss.length=many.toNat/\(∀s∈ss,okS s)/\wC [.kl (ns.map D.int),.int many]=aa (.lst (ss.map D.int)):=by
 have w:wp sM [.im (.kl (ns.map D.int)),.im (.int many),.no,.no,.no,.no] (oH λd=>∃ss:List Int,d=.lst (ss.map D.int)/\ss.length=many.toNat/\∀s∈ss,okS s):=by
  generalize G:D.kl _=t;apply az
  have Q:b7 1 [] (gR (af (ag 1) nZ)) (aO 0) kY (m2 ce (m2 i9 (ag 0) (kI 7368787)) (kI 1000003)) [.im t,.im (.int many),.no,.no,.no,.no]=aa (((di many.toNat).map λ(k:Nat)=>(k:Int)*7368787+1000003).map D.int):=by
   rw[map_map];refine oF _ (λ(i:Nat)=>D.int i) _ ?_ (by rw[eD];lia) λi hi=>?_
   .unfold gR;rw[show af _ _ _=aa _ from rfl,aJ,sS _ (by lia) (by lia)]
   .have T:=ml.mp hi;exact lI rfl rfl (aF (aF rfl rfl (lM (.inl (.inr ⟨by decide,by decide⟩)))) rfl gy)
  refine fh Q ?_;apply az;refine fZ _ _ (λ_ U=>∃(ss:List Int) (u A B:Sl),(ss.length=many.toNat/\∀s∈ss,okS s)/\U=[.im t,.im _,.own (ss.map D.int),u,A,B]) (by subst G;exact HV 0 rfl) ⟨_,_,_,_,⟨by rw[aW,eD],λs j=>?_⟩,rfl⟩ ?_ ?_
  .obtain⟨k,Y,rfl⟩:=gJ.mp j;have:=ml.mp Y;unfold okS;lia
  .rintro pre i post U he ⟨ss,u,A,B,⟨o,j⟩,rfl⟩;refine⟨_,rfl,?_⟩;generalize ns.getD i 0=c;have H:0<=i % many/\i % many<many:=⟨Int.emod_nonneg _ (by lia),tN _ hm.1⟩;have E:∀(L M:Sl),m2 iz (ag 3) (ag 1) [.im t,.im _,.own (ss.map D.int),.im _,L,M]=aa (.int (i % many)):=λ_ _=>aF rfl rfl (ke hm.1);generalize _ % many=q at H E;have p:q.toNat<ss.length:=by lia
   have I:atI (ss.map D.int) q=aa (.int ss[q.toNat]):=by
    unfold atI ixN;rw[if_pos H.1,if_pos (by rw[aW];lia),aJ,fm,eM p];rfl
   have J:=j _ (mf p);unfold okS at J;generalize ss[q.toNat]=s at I J;apply az;refine dH (aF (aF (aZ rfl (E _ _) I) rfl (lM (.inr ⟨by lia,by decide⟩))) (aF rfl (aF rfl rfl (rm (by decide))) (ke (by decide))) gy) ?_;refine Es (aF (aF rfl rfl gy) (aF (aF rfl rfl (rm (by decide))) rfl iH) (ke (by decide))) (E _ _) rfl H.1 (by rw[aW];lia) ?_;refine⟨ss.set q.toNat ((s*1000003+c % 10 ^ 30+i) % (2 ^ 61-1)),.im (.int i),.im (.int c),.im (.int (s*1000003+c % 10 ^ 30)),⟨by rw[gk];exact o,λz hz=>?_⟩,?_⟩
   .rcases mem_or_eq_of_mem_set hz with e |e
    .exact j z e
    .have N:=Int.emod_nonneg (s*1000003+c % 10 ^ 30+i) (show(2 ^ 61-1:Int)≠0 by decide);rw[e];exact⟨N,(tN _ (show _<2 ^ 61-1 by decide))⟩
   .rw[map_set];rfl
  .rintro U ⟨ss,u,A,B,⟨o,j⟩,rfl⟩;exact za rfl (y8 ⟨ss,rfl,o,j⟩)
 obtain⟨d,e,ss,rfl,o,j⟩:=y7 (n:=6) (ds:=[.kl _,.int many]) w;exact⟨ss,o,j,e⟩
def BC(ds:LD)(b:Bool)(c:r_2 [.lst ds]=ac)(e:sH [.lst ds]=ac):sJ [.lst ds,.bl b]=aa (.bl ac):=by
 apply f6;unfold sI;show wp _ [.im (.lst ds),.im (.bl b),.no,.no] _;apply az;refine dH (d:=.lst []) rfl ?_;show wp _ [.im (.lst ds),.im (.bl b),.im (.lst []),.no] _;apply az;refine Ep (o:=.nx [.no,.no,.im (.lst [.bl ac,.bl ac,.bl ak]),.no]) ?_ ?_
 .unfold rY;rw[if_pos]
  .rfl
  .show rIf _ _ _ [.im (.lst ds),.im (.bl b),.im (.lst []),.no]=ac;unfold rIf;rw[tX1 (iD (b:=b) rfl rfl)]
   cases b with
   |true=>exact rC1 (av (au rfl) rfl) c
   |false=>exact rC1 (av (au rfl) rfl) e
 .exact i7 rfl (jG rfl)
def cv(h:fB n x)(c:∀d∈xs,fB n d):∀d∈x::xs,fB n d:=λd hd=>by
 rcases bG.mp hd with e |e
 .rw[e];exact h
 .exact c d e
def iN:∀d∈([]:LD),fB n d:=λ_ h=>(bJ h).elim
def iO{c:Type}{f:c->D}(L:List c)(h:∀x,fB n (f x)):fB (n+1) (.lst (L.map f)):=λd hd=>by
 obtain⟨x,_,rfl⟩:=gJ.mp hd;exact h x
def tJ(n:Nat)(t:Th):fB (n+3) (kdD t):=cv rfl (cv (xg _ n) iN)
def BD(n:Nat)(z:Ti):fB (n+4) (cZ z):=cv (tJ n _) (cv rfl iN)
def pV(n:Nat)(p:Pr):fB (n+2) (prD p):=cv rfl (cv rfl iN)
def xl(n:Nat):∀p:Pa,fB (n+6) p.toD
 |.is t=>cv rfl (cv (tJ (n+2) t) iN)
 |.no t=>cv rfl (cv (tJ (n+2) t) iN)
 |.un _ _=>cv rfl (cv rfl (cv rfl iN))
 |.ct _ _ its ov=>cv rfl (cv rfl (cv (iO its λz=>BD n z) (cv (iO ov λp=>pV (n+2) p) iN)))
def HX(n:Nat):∀r:Ro,fB (n+8) r.toD
 |.kind _ ns=>cv rfl (cv rfl (cv (xg ns (n+5)) iN))
 |.rule _ t bd ps=>cv rfl (cv (tJ (n+4) t) (cv (iO bd λp=>xl n p) (cv (iO ps λp=>pV (n+4) p) iN)))
 |.choose _ _ its ov bd ps=>cv rfl (cv rfl (cv rfl (cv (iO its λz=>BD (n+2) z) (cv (iO ov λp=>pV (n+4) p) (cv (iO bd λp=>xl n p) (cv (iO ps λp=>pV (n+4) p) iN))))))
 |.never bd ps=>cv rfl (cv (iO bd λp=>xl n p) (cv (iO ps λp=>pV (n+4) p) iN))
def HY(ss:List Int)(t:0<ss.length)(u:ss.length<=5):ie [] (kQ ss)/\(kQ ss).length<=16/\(aK (kQ ss)).length<=3/\∀k∈aK (kQ ss),bN k.1=ac:=by
 obtain⟨p,c⟩:=AK (ss.getD 0 0);have j:=ba (ib (ss.getD 0 0)).1 (k:=4) (by decide);unfold kQ;generalize ib (ss.getD 0 0)=q at p c j;obtain⟨m,_,e⟩:=xc q.2 (dr q.1 4) j.1 ss (ss.length-1);have z:=xf c (dr q.1 4) ss (ss.length-1);refine⟨Br c (HE c) _ j.1 ss _,by lia,?_,?_⟩
 .rw[e,eY];have:q.2.k.length<=3:=c.k.2;lia
 .rw[e];exact λk o=>c.k.1.nm k (p8 o)
def BE(c:List Ro)(U:LS)(f:MF2)(h:f U=aa [.lst (c.map Ro.toD)])(e:c.length<=1000):ax (b7 2 [] (bQ (aQ ny f)) (cJ (br (aO 0) (br (aO 1) cQ))) kY (ag 0)) U=aa (.lst (((aK c).map (·.1)).map sT)):=
 bn (kM (L:=aK c) (f:=kdD) (q:=(·.1)) (dz (bx h (Bl c e)) rfl) (λz=>⟨_,rfl⟩) (by have:=w4 c;lia))
def HZ(ns:List Int)(h:ns.length<=63):m_7 [.kl (ns.map D.int)]=aa (.bl ac):=by
 apply f6;generalize N:D.kl _=t;show wp _ [.im t,.no,.no,.no,.no,.no,.no,.no,.no,.no,.no,.no,.no] _;apply az;refine dH rfl ?_;refine lL (λU=>∃many:Int,(0<=many/\many<=4)/\U=[.im t,.im (.int many),.no,.no,.no,.no,.no,.no,.no,.no,.no,.no,.no]) ?_ ?_
 .subst N;refine bw (aV (aF (bx rfl (y9 ns D.int)) rfl kf)) (λe=>?_) λe=>bD (k_J ⟨0,by decide,rfl⟩);have hl:0<ns.length:=by have:=of_decide_eq_true e;lia
  have ea:atI (ns.map D.int) 0=aa (.int ns[0]):=by
   unfold atI ixN;rw[if_pos (by decide),if_pos (by rw[aW];lia),aJ,fm];show(ns[0]?).map D.int=_;rw[eM hl];rfl
  refine dH (aF (aZ rfl rfl ea) rfl (ke (by decide))) (k_J ⟨ns[0] % 5,by lia,rfl⟩)
 rintro U ⟨many,hm,rfl⟩;obtain⟨ss,hl,hss,es⟩:=HW ns (many+2) (by lia);rw[N]at es;clear N;apply az;refine dH (bx (aj rfl (aj (aF rfl rfl gy) rfl)) es) ?_
 obtain⟨j,p,rfl⟩:∃j p,ss=j::p:=by
  cases ss with
  |nil=>rw[jm]at hl;lia
  |cons a r=>exact⟨a,r,rfl⟩
 rw[b9]at hl;have hs0:=hss j bP;have hts:∀s∈p,okS s:=λs hs=>hss s (cF _ hs);have hR:=HF p (by lia) (by lia) hts;obtain⟨g1,g2,g3,g4⟩:=HY p (by lia) (by lia);generalize hRd:kQ p=R at hR g1 g2 g3 g4;have hG:=Bo g1;show wp _ [.im t,.im (.int many),.im (.lst ((j::p).map D.int)),.no,.no,.no,.no,.no,.no,.no,.no,.no,.no] _;have er:∀r:LS,aQ nA (af (ax (mSl (ag 2) (mPt (kI 1)) (λ_=>aa ae))) nZ) (.im t::.im (.int many)::.im (.lst ((j::p).map D.int))::r)=aa (.lst (R.map Ro.toD)):=λr=>bx (aj (bn (Bt (xs:=j::p) (g:=D.int) (a:=1) rfl rfl rfl (by decide))) rfl) hR;apply az;refine dH (er _) ?_;show wp _ [.im t,.im (.int many),.im (.lst ((j::p).map D.int)),.im (.lst (R.map Ro.toD)),.no,.no,.no,.no,.no,.no,.no,.no,.no] _;apply az;refine dH (bx (aj (er _) rfl) (Bl R (by lia))) ?_;show wp _ [.im t,.im (.int many),.im (.lst ((j::p).map D.int)),.im (.lst (R.map Ro.toD)),.im (.lst ((aK R).map kdD)),.no,.no,.no,.no,.no,.no,.no,.no] _
 have ek:∀a b c d:Sl,∀r:LS,lO nz (af (ag 3) nZ) (a::b::c::.im (.lst (R.map Ro.toD))::r)=aa (ksO (aK R)):=λa b c d r=>by
  unfold lO;rw[aj (d:=.lst (R.map Ro.toD)) rfl rfl,aJ];exact Hv R hG (by lia)
 apply az;refine zo (ek _ _ _ .no _) ?_;show wp _ [.im t,.im (.int many),.im (.lst ((j::p).map D.int)),.im (.lst (R.map Ro.toD)),.im (.lst ((aK R).map kdD)),.deep (ksO (aK R)),.no,.no,.no,.no,.no,.no,.no] _;apply az
 have eB:gv 5 [.im t,.im (.int many),.im (.lst ((j::p).map D.int)),.im (.lst (R.map Ro.toD)),.im (.lst ((aK R).map kdD)),.deep (ksO (aK R)),.no,.no,.no,.no,.no,.no,.no]=aa (.lst ((aK R).map kdD)):=by
  show(if (ksO (aK R)).kn=ac then aa (ksO (aK R)).toD else ae)=_;rw[if_pos (tm _),tq]
 refine bw (b:=ak) (ka (b:=ac) (iD (ve (aj eB (aj rfl rfl)) (Bw (aK R) (by lia)) rfl) rfl)) (λe=>nomatch e) λ_=>bD ?_;apply az;refine fh (d:=[.int j]) (aj (aZ rfl rfl (sY _ _)) rfl) ?_;show wp _ [.im t,.im (.int many),.im (.lst ((j::p).map D.int)),.im (.lst (R.map Ro.toD)),.im (.lst ((aK R).map kdD)),.deep (ksO (aK R)),.own [.int j],.no,.no,.no,.no,.no,.no] _;have da:=ba j (k:=(R.length:Int)+1) (by lia);apply az;refine cq (sR (xs:=[.int j]) rfl (av (au (aF (bx (aj rfl rfl) (c9 R Ro.toD)) rfl gy)) rfl) rfl λl=>l6 l j _ hs0 (by lia)) ?_;have hs1:=be j;generalize dr j ((R.length:Int)+1)=at' at da;generalize nx j=s1 at hs1;show wp _ [.im t,.im (.int many),.im (.lst ((j::p).map D.int)),.im (.lst (R.map Ro.toD)),.im (.lst ((aK R).map kdD)),.deep (ksO (aK R)),.own [.int s1],.im (.int at'),.no,.no,.no,.no,.no] _;have Q:aK R=aK (R.take at'.toNat)++aK (R.drop at'.toNat):=by rw[<- tz,p6]
 have M:(aK (R.take at'.toNat)).length<=3:=by
  have:=congrArg g6 Q;rw[bh]at this;lia
 have npre:∀k∈(aK (R.take at'.toNat)).map (·.1),bN k=ac:=λk H=>by
  obtain⟨x,hx,rfl⟩:=gJ.mp H;exact g4 x (by rw[Q];exact bV.mpr (.inl hx))
 have G:∀k∈(aK (R.drop at'.toNat)).map (·.1),bN k=ac:=λk H=>by
  obtain⟨x,hx,rfl⟩:=gJ.mp H;exact g4 x (by rw[Q];exact bV.mpr (.inr hx))
 apply az;refine dH (BE (R.take at'.toNat) _ _ (aj (bn (Bs (xs:=R) (g:=Ro.toD) (b:=at') rfl rfl rfl da.1)) rfl) (by rw[eY];lia)) ?_;apply az;refine dH (BE (R.drop at'.toNat) _ _ (aj (bn (Bt (xs:=R) (g:=Ro.toD) (a:=at') rfl rfl rfl da.1)) rfl) (by rw[gi];lia)) ?_;apply az;refine fh (d:=R.map Ro.toD) rfl ?_;show wp _ [.im t,.im (.int many),.im (.lst ((j::p).map D.int)),.im (.lst (R.map Ro.toD)),.im (.lst ((aK R).map kdD)),.deep (ksO (aK R)),.own [.int s1],.im (.int at'),.no,.no,.im (.lst (((aK (R.take at'.toNat)).map (·.1)).map sT)),.im (.lst (((aK (R.drop at'.toNat)).map (·.1)).map sT)),.own (R.map Ro.toD)] _;have J:=HS M npre G s1;have q:=λl=>HU l ((aK (R.take at'.toNat)).map (·.1)) ((aK (R.drop at'.toNat)).map (·.1)) (by rw[aW];exact M) G s1 hs1;generalize nM ((aK (R.take at'.toNat)).map (·.1)) ((aK (R.drop at'.toNat)).map (·.1)) s1=E at J q;generalize tI ((aK (R.take at'.toNat)).map (·.1)) ((aK (R.drop at'.toNat)).map (·.1)) s1=s2 at q;generalize hA:D.lst (((aK (R.take at'.toNat)).map (·.1)).map sT)=A at q;generalize hL:D.lst (((aK (R.drop at'.toNat)).map (·.1)).map sT)=L at q;have I:r_2 [.lst ((R.take at'.toNat++E::R.drop at'.toNat).map Ro.toD)]=ac:=Hw _ E _ (Bo (Bp _ (R.drop at'.toNat) [] (by rw[p6];exact g1))) (by rw[eY];lia) J;have T:=Hx _ I;have eI:(R.map Ro.toD).take at'.toNat++E.toD::(R.map Ro.toD).drop at'.toNat=(R.take at'.toNat++E::R.drop at'.toNat).map Ro.toD:=by rw[cK,gI,map_take,map_drop]
 apply az;refine tE (xs:=R.map Ro.toD) (ρ1:=[.im t,.im (.int many),.im (.lst ((j::p).map D.int)),.im (.lst (R.map Ro.toD)),.im (.lst ((aK R).map kdD)),.deep (ksO (aK R)),.own [.int s2],.im (.int at'),.no,.no,.im A,.im L,.own (R.map Ro.toD)]) rfl (av (au rfl) (av (sR (xs:=[.int s1]) rfl (av (au rfl) (av (au rfl) rfl)) rfl q) rfl)) rfl ⟨da.1,by rw[aW];lia,by rw[aW];lia⟩ ?_;rw[eI];generalize (R.take at'.toNat++E::R.drop at'.toNat).map Ro.toD=B at I T;apply az;refine iF (ρ':=[.im t,.im (.int many),.im (.lst ((j::p).map D.int)),.im (.lst (R.map Ro.toD)),.im (.lst ((aK R).map kdD)),.deep (ksO (aK R)),.own [.int s2],.im (.int at'),.no,.no,.im A,.im L,.im (.lst B)]) rfl ?_;refine bw (b:=ak) (lH (a:=ak) (b:=ak) (ka (b:=ac) (iD (bx (aj rfl (aj rfl rfl)) (BC B ac I T)) rfl)) (ka (b:=ac) (iD (bx (aj rfl (aj rfl rfl)) (BC B ak I T)) rfl))) (λe=>nomatch e) λ_=>bD ?_;apply az;refine F4 (os:=(aK R).map kO) (s':=.deep (.jnk (aK R).length)) (by show aa (_,Sl.deep (.jnk ((aK R).map kO).length))=_;rw[aW]) (by decide) (λu o ho ρ1 l1=>?_) ?_
 .obtain⟨k,H,rfl⟩:=gJ.mp ho;obtain⟨ll,la⟩:=l1;have ll:ρ1.length=13:=ll
  have d8:k.2.length<16777216:=by
   obtain⟨pre,post,e⟩:=append_of_mem H
   have:∀(Y:List Ro) (ks:List Kd),ie ks Y->∀k∈aK Y,k.2.length<=100:=λY=>by
    induction Y with
    |nil=>intro ks _ k H;exact(bJ H).elim
    |cons r Y ih=>
     intro ks hg k H
     rcases bV.mp (show k∈jk r++aK Y from H)with z |z
     .cases r with
      |kind a b=>rw[aU.mp z];exact hg.1.2
      |rule a b c d=>exact(bJ z).elim
      |choose a b c d e f=>exact(bJ z).elim
      |never a b=>exact(bJ z).elim
     .exact ih _ hg.2 k z
   have:=this R [] g1 k H;lia
  refine⟨_,((ρ1.set 8 (.im (sT k.1))).set 9 (.deep (.lst ((k.2.map sT).map .fz)))).set 9 (.deep (.lst ((k.2.map sT).map .fz++[.fz (.str "x")]))),rfl,?_,?_⟩
  .have eg:((ρ1.set 8 (.im (sT k.1))).set 9 (.deep (.lst ((k.2.map sT).map .fz))))[9]?=aa (.deep (.lst ((k.2.map sT).map .fz))):=fH (by rw[gk];lia);obtain⟨o,e,rfl⟩:=zp (f:=rF (kSt "x")) (o:=.fz (.str "x")) (K:=λo=>o=.nx (((ρ1.set 8 (.im (sT k.1))).set 9 (.deep (.lst ((k.2.map sT).map .fz)))).set 9 (.deep (.lst ((k.2.map sT).map .fz++[.fz (.str "x")]))))) rfl eg (by rw[aW,aW];exact d8) rfl;exact e
  .refine⟨by rw[gk,gk,gk];exact ll,λm hm=>?_⟩;have h8:m≠8:=λe=>hm (by rw[e];decide);have h9:m≠9:=λe=>hm (by rw[e];decide);rw[eN (eE h9),eN (eE h9),eN (eE h8)];exact la m hm
 show wp _ [.im t,.im (.int many),.im (.lst ((j::p).map D.int)),.im (.lst (R.map Ro.toD)),.im (.lst ((aK R).map kdD)),.deep (.jnk (aK R).length),.own [.int s2],.im (.int at'),.no,.no,.im A,.im L,.im (.lst B)] _;apply az;refine F8 (o':=.jnk ((aK R).length+1)) rfl rfl (by show(if (aK R).length<16777216 then _ else ae)=_;rw[if_pos (by lia)]) ?_;show wp _ [.im t,.im (.int many),.im (.lst ((j::p).map D.int)),.im (.lst (R.map Ro.toD)),.im (.lst ((aK R).map kdD)),.deep (.jnk ((aK R).length+1)),.own [.int s2],.im (.int at'),.no,.no,.im A,.im L,.im (.lst B)] _
 have eZ:zB (lO nz (af (ag 3) nZ)) [.im t,.im (.int many),.im (.lst ((j::p).map D.int)),.im (.lst (R.map Ro.toD)),.im (.lst ((aK R).map kdD)),.deep (.jnk ((aK R).length+1)),.own [.int s2],.im (.int at'),.no,.no,.im A,.im L,.im (.lst B)]=aa (.lst ((aK R).map kdD)):=by
  unfold zB;rw[ek _ _ _ .no _,aJ,if_pos (tm _),tq]
 refine i7 (rh (a:=ac) (b:=ac) (ve (aj eZ (aj rfl rfl)) (Bw (aK R) (by lia)) rfl) (aF rfl (er _) (D3 (iO R λr=>HX 11 r)))) (jG rfl)
abbrev sp_law(K:bu):Sp:=λvs H Q _=>∃(a:Addr) (ns:List Int),vs=[.ref a]/\SqL K H a (ns.map V.int)/\ns.length<=63/\∀H',Q (.bl ac) H'
variable{K:bu}
def sp_law_of{H:Hp}{a:Addr}{ns:List Int}{E:XK}(e:ns.length<=63)(c:SqL K H a (ns.map V.int)):sp_law K [.ref a] H (λv _=>v=.bl ac) E:=⟨a,ns,rfl,c,e,λ_=>rfl⟩
variable{w:World}
def law_ok(W:Wd K mg a):e8 P w K mg base CX0 10 a.e_7.1 a.e_7.2 ["_law_script"] (sp_law K):=(GK W).ok.imp λvs H Q E ⟨a,ns,c,e,j,k⟩=>
 ⟨H,[.kl (ns.map D.int)],.bl ac,aG.refl _,⟨.ref a,[],c,⟨a,_,rfl,e,aC.ints ns⟩,rfl⟩,rfl,HZ ns j,λv Hf' H' x r=>by rw[show v=V.bl ac from r];exact k H'⟩
variable{P:LVa->Prop}
def pW(h:P []):∀us:LVa,us.length=0->P us:=λus e=>by
 rw[eq_nil_of_length_eq_zero e];exact h
def gh(h:∀a (us:LVa),us.length=n->P (a::us)):∀us:LVa,us.length=n+1->P us:=λus e=>by
 cases us with
 |nil=>cases e
 |cons a us=>exact h a us (Nat.succ.inj e)
def BF(h:∀c:Value,P [c]):∀us:LVa,us.length=1->P us:=gh (P:=λus=>P (us)) λc=>pW (h c)
def Ia(h:∀c e:Value,P [c,e]):∀us:LVa,us.length=2->P us:=gh (P:=λus=>P (us)) λc=>gh (P:=λus=>P (c::us)) λe=>pW (h c e)
def Ib(h:∀c e j:Value,P [c,e,j]):∀us:LVa,us.length=3->P us:=gh (P:=λus=>P (us)) λc=>gh (P:=λus=>P (c::us)) λe=>gh (P:=λus=>P (c::e::us)) λj=>pW (h c e j)
def Ic(h:∀c e j o:Value,P [c,e,j,o]):∀us:LVa,us.length=4->P us:=gh (P:=λus=>P (us)) λc=>gh (P:=λus=>P (c::us)) λe=>gh (P:=λus=>P (c::e::us)) λj=>gh (P:=λus=>P (c::e::j::us)) λo=>pW (h c e j o)
def Ie(h:∀c e j o p:Value,P [c,e,j,o,p]):∀us:LVa,us.length=5->P us:=gh (P:=λus=>P (us)) λc=>gh (P:=λus=>P (c::us)) λe=>gh (P:=λus=>P (c::e::us)) λj=>gh (P:=λus=>P (c::e::j::us)) λo=>gh (P:=λus=>P (c::e::j::o::us)) λp=>pW (h c e j o p)
local macro_rules | `(tactic| walk_at "bd")=>`(tactic| exact λ_ _ _ _ _ _=>by first | exact BF λ_=>rfl | exact Ia λ_ _=>rfl | exact Ib λ_ _ _=>rfl | exact Ic λ_ _ _ _=>rfl | exact Ie λ_ _ _ _ _=>rfl)
set_option autoImplicit true in
def all_mk{h:Heap}{fd_32 Y fd_2 fd_6 fd_4 fd_3 fd_1 fd_5 fd_31 fd_34 fd_23 fd_28 fd_35 fd_0 fd_24 N fd_8 L A B fd_9 Q E H fd_33 M z fd_25 fd_29 T fd_26 I J fd_27 fd_30 fd_7:fu}{t_SMALL t_GREAT:Tok}{fa:Addr}(X:K.In h)(G:h.Ns cu mg)(hfa:mg "law"=aa (.ref fa))
 (j:dw K cu "BadName"=aa (aa (.ref C_BadName)))
 (p:dw K cu "NoRow"=aa (aa (.ref C_NoRow)))
 (o:dw K cu "NoThing"=aa (aa (.ref C_NoThing)))
 (c:dw K cu "StillError"=aa (aa (.ref C_StillError)))
 (q:dw K cu "Wide"=aa (aa (.ref C_Wide)))
 (q_32:Dq K "is_made_of" vN f_32 fd_32)
 (q_22:Dq K "is_variable" vO f_22 Y)
 (q_2:Dq K "kinds_of" s_2 f_2 fd_2)
 (q_6:Dq K "must_be_new" s_6 f_6 fd_6)
 (q_4:Dq K "must_be_unlike" s_4 f_4 fd_4)
 (q_3:Dq K "must_be_known" s_3 f_3 fd_3)
 (q_1:Dq K "must_be_pairs" s_1 f_1 fd_1)
 (q_5:Dq K "must_be_told" s_5 f_5 fd_5)
 (q_31:Dq K "uses" vP f_31 fd_31)
 (q_34:Dq K "part_uses" vQ f_34 fd_34)
 (q_23:Dq K "args_of" vR f_23 fd_23)
 (q_28:Dq K "plain_of" vS f_28 fd_28)
 (q_35:Dq K "rules_of" z9 f_35 fd_35)
 (q_0:Dq K "_law_next" s_0 f_0 fd_0)
 (q_24:Dq K "_law_seeds" vT f_24 fd_24)
 (q_19:Dq K "_law_small" vU f_19 N)
 (q_8:Dq K "_law_name" s_8 f_8 fd_8)
 (q_17:Dq K "_law_variable" vV f_17 L)
 (q_11:Dq K "_law_number" vW f_11 A)
 (q_12:Dq K "_law_lay" vX f_12 B)
 (q_9:Dq K "_law_thing" s_9 f_9 fd_9)
 (q_20:Dq K "_law_pairs" vY f_20 Q)
 (q_13:Dq K "_law_items" vZ f_13 E)
 (q_14:Dq K "_law_part" v3 f_14 H)
 (q_33:Dq K "_law_body" v4 f_33 fd_33)
 (q_18:Dq K "_law_row" v5 f_18 M)
 (q_10:Dq K "_law_rows" v6 f_10 z)
 (q_25:Dq K "_law_due" v7 f_25 fd_25)
 (q_29:Dq K "_law_untold" v8 f_29 fd_29)
 (q_21:Dq K "_law_bad_pairs" v9 f_21 T)
 (q_26:Dq K "_law_bad_part" wa f_26 fd_26)
 (q_15:Dq K "_law_bad_bound" wb f_15 I)
 (q_16:Dq K "_law_bad" wc f_16 J)
 (q_27:Dq K "_law_refused" wd f_27 fd_27)
 (q_30:Dq K "_law_right" we f_30 fd_30)
 (q_7:Dq K "law" s_7 f_7 fd_7)
 (x_BadName:W.excIn K C_BadName [.type "ValueError",.type "Exception",.type "BaseException",.type "object"] "ValueError.__new__"=ac)
 (x_StillError:W.excIn K C_StillError [.type "ValueError",.type "Exception",.type "BaseException",.type "object"] "ValueError.__new__"=ac)
 (gax:jr K (.ref C_BadName) "__getattribute__"=aa (aa (.builtin "BaseException.__getattribute__")))
 (hkx:jr K (.ref C_BadName) "__getattr__"=aa ae)
 (bxx:iq K C_BadName (.type "BaseException")=aa ac)
 (clx:W.clsIn K C_BadName=aa cdx)
 (tAx:jr K (.ref C_BadName) "__class__"=aa (aa (.builtin "object.__class__")))
 (tMx:iq K C_BadName (.type "object")=aa ac)
 (mr_StillError:iq K C_BadName (.ref C_StillError)=aa ac)
 (ke_BadName:ip K (.ref C_BadName) (.ref C_BadName)=aa ac)
 (kv_ValueError:ip K (.ref C_BadName) (.type "ValueError")=aa ac)
 (km_NoRow_Wide_NoThing:W.kitAny K (.ref C_BadName) [.ref C_NoRow,.ref C_Wide,.ref C_NoThing]=aa ak)
 (tG:W.specialIn K (.builtin "object.__class__") "__get__"=aa (aa (.builtin "getset_descriptor.__get__")))
 (tK:W.takesIn K (.builtin "object.__class__")=aa ac)
 (u:dw K cu "SMALL"=aa (aa (.str "abcdefghijklmnopqrstuvwxyz" t_SMALL)))
 (t:dw K cu "GREAT"=aa (aa (.str "ABCDEFGHIJKLMNOPQRSTUVWXYZ" t_GREAT)))
 (z_ValueError:dw K cu "ValueError"=aa ae)
 (z_abs:dw K cu "abs"=aa ae)
 (z_all:dw K cu "all"=aa ae)
 (z_any:dw K cu "any"=aa ae)
 (z_dict:dw K cu "dict"=aa ae)
 (z_enumerate:dw K cu "enumerate"=aa ae)
 (z_int:dw K cu "int"=aa ae)
 (z_isinstance:dw K cu "isinstance"=aa ae)
 (z_len:dw K cu "len"=aa ae)
 (z_list:dw K cu "list"=aa ae)
 (z_min:dw K cu "min"=aa ae)
 (z_range:dw K cu "range"=aa ae)
 (z_set:dw K cu "set"=aa ae)
 (z_str:dw K cu "str"=aa ae)
 (z_tuple:dw K cu "tuple"=aa ae)
 (z_zip:dw K cu "zip"=aa ae)
 (is_list:lE K "list")
 (is_str:lE K "str")
 (is_tuple:lE K "tuple")
  : ∃a:Wa,∃W:Wd K mg a,a.e_7.1=fa/\∀(s:aM) (v:Value),BindsTo s a.e_7.2 ⟨[v],[]⟩ [("_law_script",v)]:=by
 have e:=hfa.symm.trans (jt X G q_7.a);cases e
 exact⟨{
  e_32:=(f_32,fd_32),e_22:=(f_22,Y),e_2:=(f_2,fd_2),e_6:=(f_6,fd_6),e_4:=(f_4,fd_4),e_3:=(f_3,fd_3),e_1:=(f_1,fd_1),e_5:=(f_5,fd_5),e_31:=(f_31,fd_31),e_34:=(f_34,fd_34),e_23:=(f_23,fd_23),e_28:=(f_28,fd_28),e_35:=(f_35,fd_35),e_0:=(f_0,fd_0),e_24:=(f_24,fd_24),e_19:=(f_19,N),e_8:=(f_8,fd_8),e_17:=(f_17,L),e_11:=(f_11,A),e_12:=(f_12,B),e_9:=(f_9,fd_9),e_20:=(f_20,Q),e_13:=(f_13,E),e_14:=(f_14,H),e_33:=(f_33,fd_33),e_18:=(f_18,M),e_10:=(f_10,z),e_25:=(f_25,fd_25),e_29:=(f_29,fd_29),e_21:=(f_21,T),e_26:=(f_26,fd_26),e_15:=(f_15,I),e_16:=(f_16,J),e_27:=(f_27,fd_27),e_30:=(f_30,fd_30),e_7:=(f_7,fd_7),cl:=λ_=>0,C_BadName:=C_BadName,C_NoRow:=C_NoRow,C_NoThing:=C_NoThing,C_StillError:=C_StillError,C_Wide:=C_Wide},{
  g_BadName:=jt X G j,
  g_NoRow:=jt X G p,
  g_NoThing:=jt X G o,
  g_StillError:=jt X G c,
  g_Wide:=jt X G q,
  x_BadName:=x_BadName,
  x_StillError:=x_StillError,
  ec_BadName:=⟨gax,hkx,bxx,(by rw[clx];rfl),tAx,tG,tK,tMx⟩,
  mr_StillError:=mr_StillError,
  ke_BadName:=ke_BadName,
  kv_ValueError:=kv_ValueError,
  km_NoRow_Wide_NoThing:=km_NoRow_Wide_NoThing,
  g_SMALL:=⟨_,jt X G u⟩,
  g_GREAT:=⟨_,jt X G t⟩,
  z_ValueError:=fL X G z_ValueError,
  z_abs:=fL X G z_abs,
  z_all:=fL X G z_all,
  z_any:=fL X G z_any,
  z_dict:=fL X G z_dict,
  z_enumerate:=fL X G z_enumerate,
  z_int:=fL X G z_int,
  z_isinstance:=fL X G z_isinstance,
  z_len:=fL X G z_len,
  z_list:=fL X G z_list,
  z_min:=fL X G z_min,
  z_range:=fL X G z_range,
  z_set:=fL X G z_set,
  z_str:=fL X G z_str,
  z_tuple:=fL X G z_tuple,
  z_zip:=fL X G z_zip,
  e_32:=q_32.mk2 X G,
  e_22:=q_22.mk2 X G,
  e_2:=q_2.mk2 X G,
  e_6:=q_6.mk2 X G,
  e_4:=q_4.mk2 X G,
  e_3:=q_3.mk2 X G,
  e_1:=q_1.mk2 X G,
  e_5:=q_5.mk2 X G,
  e_31:=q_31.mk2 X G,
  e_34:=q_34.mk2 X G,
  e_23:=q_23.mk2 X G,
  e_28:=q_28.mk2 X G,
  e_35:=q_35.mk2 X G,
  e_0:=q_0.mk2 X G,
  e_24:=q_24.mk2 X G,
  e_19:=q_19.mk2 X G,
  e_8:=q_8.mk2 X G,
  e_17:=q_17.mk2 X G,
  e_11:=q_11.mk2 X G,
  e_12:=q_12.mk2 X G,
  e_9:=q_9.mk2 X G,
  e_20:=q_20.mk2 X G,
  e_13:=q_13.mk2 X G,
  e_14:=q_14.mk2 X G,
  e_33:=q_33.mk2 X G,
  e_18:=q_18.mk2 X G,
  e_10:=q_10.mk2 X G,
  e_25:=q_25.mk2 X G,
  e_29:=q_29.mk2 X G,
  e_21:=q_21.mk2 X G,
  e_26:=q_26.mk2 X G,
  e_15:=q_15.mk2 X G,
  e_16:=q_16.mk2 X G,
  e_27:=q_27.mk2 X G,
  e_30:=q_30.mk2 X G,
  e_7:=q_7.mk2 X G,
  is_list:=is_list,
  is_str:=is_str,
  is_tuple:=is_tuple},rfl,q_7.bt (λ_ _ _ _ _ _=>BF λ_=>rfl)⟩
end N_k82
structure PySem.W.Fast:Prop where
 (te15661246320952914757 te17610018716231994288 te3813257377102999391 te11806799238885109445 te1693368173910359993 te319614621227287184 te17291338180400813271 te5704737884588768242 te4606905472178688944 te8561549753137848636 te2197716509142816011:True)
open PySem PySem.W PyProof.Rows
set_option maxRecDepth 100000 in
set_option maxHeartbeats 0 in
theorem PySem.Challenge.cw_standstill_k82_bad_names_holds : PySem.Challenge.rw_standstill_k82_bad_names.Holds := by
 w_on; o_law; k_head; (case hw=>w_witness2)
 k_fill
 refine L2.walk_ofK (l:=PySem.Challenge.rw_standstill_k82_bad_names) (n:=63) (k:=10) (x:="_law_script") (CX:=L2.CX0) (sp:=N_k82.sp_law) rfl (by decide) rfl ⟨rfl,by decide,by decide⟩ (fun w h Y=>PySem.W.kIn_of Y) ?F (fun _ _ a ns hl _ hS=>N_k82.sp_law_of hl hS) (fun _ _ _ _ z=>z)
 case F =>
  intro w mg fa h KX G hmg
  have TT : ∃ a : N_k82.Wa,∃ W : N_k82.Wd (L2.KOf KX) mg a,a.e_7.1=fa /\ ∀ (s:Shared) (v:Value),BindsTo s a.e_7.2 ⟨[v],[]⟩ [("_law_script",v)]:=by
   dsimp only [L2.KOf]
   refine' N_k82.all_mk KX G hmg ..
   all_goals first | k_is | kit_is | k_exc | exact ⟨by k_is,L2.fun_mk (by k_is) (by k_is) (by k_is)⟩ | exact ⟨by k_is,by k_is,L2.fun_mk (by k_is) (by k_is) (by k_is)⟩ | (intro t ht; simp only [List.mem_cons,List.not_mem_nil,or_false] at ht; rcases ht with rfl | rfl | rfl | rfl | rfl | rfl | rfl <;> kit_is) | skip
  obtain ⟨a,W,e1,hb⟩:=TT
  subst e1
  exact ⟨_,hb,fun base kb nb=>N_k82.law_ok W⟩
