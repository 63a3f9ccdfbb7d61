import PyProof.Rows.All
import Wide.All
import OpenK.AllK
import Wide.FinOn
import Lean
import PyProof.EqAt
import PyProof.EqKinds
import PyProof.TupleCall
import PyProof.NeKinds
import PySem.Challenge.RW_standstill_k75_rows_refused
set_option Elab.async false
set_option genSizeOf false
set_option linter.all false
set_option compiler.extract_closed false
set_option bootstrap.genMatcherCode false
local macro_rules
|`(def $d:declId $b* :$t $v:declVal)=>`(theorem $d $b* :$t $v:declVal)
|`(abbrev $d:declId $s:optDeclSig $v:declVal)=>`(noncomputable def $d $s:optDeclSig $v:declVal)
set_option maxRecDepth 100000
open Array renaming getElem?_eq_some_iff->zw,length_toList->zx
open Bool renaming true->ac,false->ai,false_ne_true->cp,and_eq_true->cq,eq_false_iff->cL,or_eq_true_iff->lw,or_eq_true->jH,eq_iff_iff->kf,or_eq_false_iff->sB,or_true->md,false_and->sC,noConfusion->zy
open False renaming elim->iL
open ForInStep renaming yield->pZ
open Int renaming toNat_natCast->nF,emod_lt_of_pos->zz
open List renaming length_append->aO,length_cons->aQ,mem_cons_self->be,getElem?_eq_some_iff->cV,getElem?_eq_getElem->du,mem_cons_of_mem->bQ,mem_singleton->bR,getD_eq_getElem?_getD->eA,replicate->cQ,length_map->cf,mem_cons->bC,getElem?_set_self->gT,getElem?_map->fL,append_assoc->c7,mem_append_right->fM,append_nil->cM,mem_append_left->fN,getElem?_set_ne->ib,length_singleton->f7,mem_append->dw,length_replicate->gA,range->dG,length_take->fA,getElem?_append_right->nG,getElem?_append_left->nH,length_drop->f8,lookup_cons->f9,length_eq_zero_iff->lz,length_range->ic,length->ie,getElem_mem->lA,getElem?_cons_succ->qb,not_mem_nil->iM,filterMap_cons->lB,lookup->jI,mem_of_getElem?->me,length_nil->iN,getElem?_eq_none->sD,length_pos_iff->mf,zip_cons_cons->nI,take_of_length_le->sE,map_cons->jd,mem_range->kg,exists_cons_of_ne_nil->vF,map_append->mh,cons_append->nJ,eq_of_mem_replicate->vG,getElem?_replicate->zA,foldl_append->qc,drop_eq_nil_of_le->vH,mem_of_mem_take->vI,length_set->qd,nil_append->qe,foldl_cons->qf,drop_eq_getElem_cons->zB,map_congr_left->vJ,getElem_inj->zC,all_cons->nK,contains_cons->vK
open Nat renaming le_refl->bN,lt_of_lt_of_le->fO,ne_of_lt->eY,zero_le->gB,le_trans->ig,add_zero->ii,lt_irrefl->lC,le_of_ble_eq_true->sF,lt_succ_self->qg,le_of_lt->mi,lt_or_ge->qh,succ_mul->qi,add_assoc->sG,le_of_not_lt->vL,le_succ_of_le->zD,ne_of_gt->vM,le_of_eq->vN,lt_trans->vO,zero_add->vP
open Ne renaming symm->eM
open Option renaming some->aa,bind_some->aD,none->ae,bind_eq_some_iff->sH
open Option.some renaming inj->dz
open Or renaming inr->bA,inl->bV
open PyProof.Rows renaming callWith_type1->vQ,joinParts_cons->qj,envOfC->gC,AllBare->kh
open PySem renaming Shared->ax,wpAny_bind->bK,starEach->bf,sizeLine->bx,mainGlobals->cW,sizeLine_eq->dA,boot_len->gD,foldedSetIterable->iO,wpAny_pure->eH,compareOp->eB,wpAny_mono->fB,swapsWith->eZ,bootBuiltins->iP,Builtin->zE,FuncData->fD,Program->eC,wpAny_passesOwn->lD,keywordEach->je,binaryOp->gb,wpAny_truthy_bool->nL,assignEach->jf,holding->fP,wpAny_Call_Name_kw->qk,backTo->eD,behindInMarks->mj,attributeBase->mo,NameKind->gU,mem_of_lookup->sI,wpAny_loadName_local->sJ,Around->dL,wpAny_execs_nil->ql,wpAny_holding->nM,wpAny_getItem_str_slice->vR,backToKw->jg,getMethod->ki,wpAny_execs_cons->sK,standAt->ij,reprText->jJ,Spec->SM,sliceBounds->nN,codeAny->jh,typeIs_str->nO,wpAny_comprehension_free->zF,intText?->vT,PassesOwn->nP,post_val_or_str->vU,wpAny_Name->qm,callWith->mq,call_meets->qo,strValues->qp
open PySem.Around renaming in1_units->zG
open PySem.Builtin.Int renaming intBits->vV
open PySem.Builtin.List renaming listFitsIndex->EY
open PySem.Builtin.Str renaming strSliceIndices->zH,occurrences->EZ
open PySem.Calls renaming spliced_cons->vW,callWith_builtin->zI,evalArgs_plain->zJ,Constant_str->zK
open PySem.F renaming slot_list_append->e7,type_list_append->e8,plainAttrs_list->eN,plainAttrs_str->mr,excBase_ValueError->zL,args_str_split_2->zM,slot_str_startswith->E1,type_str_startswith->E2,entry_str_split->zN
open PySem.Heap renaming get?_push_of_some->gc,lt_size->cX,get?_push_size->iQ,get?_update_other->vX,SameBut->sL,FlyingW->sM
open PySem.NameKind renaming free->ge,cell->nQ
open PySem.PassesOwn renaming never->gE,leaving->nR
open PySem.SeqAt renaming EqAt->eE
open PySem.SeqAt.EqAt renaming same->zO
open PySem.Str renaming empty->iR,join->kj,length_append->zP
open PySem.StrLaws renaming split_free->zQ,join_split->zR
open PySem.Txt renaming slice->gV,split->lE,startswith->vY,isalpha->sN,islower->sO,slice_le->vZ
open PySem.Unicode renaming isUpper->sP,isAlpha->v0,isTitle->v4,isLower->zS
open PySem.Value renaming ref->gq,bool->nS
open PySem.W renaming Frag->bo,hideAll_none->iS,findIn->fE,mg_none_of->km,nsIn->fc,hideAll->jK,hideAll_get->nU,emptyDict->ms,of_hideAll->nV,mg_of->iT,mroIn->iU,kitOne->kn,instObj->mv,keepIn->mw,looks_findIn->v5,plainGet->sQ
open ToString renaming toString->sR
nonrec abbrev PRS:=PySem.Value->PySem.Shared->Prop
nonrec abbrev MGT:=PySem.Str->Option PySem.Value
nonrec abbrev PNS:=List (PySem.Addr×PySem.Obj)
nonrec abbrev LN:=List Nat
nonrec abbrev L2N:=List LN
nonrec abbrev LSt:=List PySem.Str
nonrec abbrev LVa:=List PySem.Value
nonrec abbrev LAd:=List PySem.Addr
nonrec abbrev LEx:=List PySem.Expr
namespace L2
open List
open PySem PySem.Spec PyProof.Rows
@[reducible]noncomputable def Key:=Sum Int Str
inductive V where
 |non |bl (b:Bool) |int (i:Int) |str (x:Str) |byt (b:Array UInt8) |flt (b:UInt64) |ref (a:Addr) |ty (n:String)
 deriving DecidableEq
abbrev bh:V->Value->Prop
 |.non,u=>u=Value.none
 |.bl b,u=>u=nS b
 |.int i,u=>∃t,u=Value.int i t
 |.str x,u=>∃t,u=Value.str x t
 |.byt b,u=>∃t,u=Value.bytes b t
 |.flt b,u=>∃t,u=Value.float b t
 |.ref a,u=>u=gq a
 |.ty n,u=>u=Value.type n
nonrec abbrev aW:List V->LVa->Prop:=Paired bh
variable{xs:List V}{us:LVa}
def aW.length(r:aW xs us):xs.length=us.length:=Paired.length r
def aW.get:∀{xs:List V} {us:LVa} {i:Nat} {x:V},aW xs us->xs[i]?=aa x->∃u,us[i]?=aa u/\bh x u
 | _,_,_,_,.nil,e=>by simp at e
 | _,_,0,_,.cons r _,e=>by simp at e;subst e;exact⟨_,rfl,r⟩
 | _,_,i+1,x,.cons _ t,e=>by
  obtain⟨u,a,b⟩:=aW.get t (by simpa using e);exact⟨u,by simpa using a,b⟩
def aW.set{x:V}{u:Value}(r:bh x u):∀{xs:List V} {us:LVa} (i:Nat),aW xs us->aW (xs.set i x) (us.set i u)
 | _,_,_,.nil=>.nil
 | _,_,0,.cons _ t=>.cons r t
 | _,_,i+1,.cons q t=>.cons q (aW.set r i t)
def aW.append:∀{xs a:List V} {us ws:LVa},aW xs us->aW a ws->aW (xs++a) (us++ws)
 | _,_,_,_,.nil,s=>s
 | _,_,_,_,.cons r t,s=>.cons r (aW.append t s)
def aW.take:∀{xs:List V} {us:LVa} (n:Nat),aW xs us->aW (xs.take n) (us.take n)
 | _,_,0,_=>.nil
 | _,_,_+1,.nil=>.nil
 | _,_,n+1,.cons r t=>.cons r (aW.take n t)
def aW.drop:∀{xs:List V} {us:LVa} (n:Nat),aW xs us->aW (xs.drop n) (us.drop n)
 | _,_,0,r=>r
 | _,_,_+1,.nil=>.nil
 | _,_,n+1,.cons _ t=>aW.drop n t
abbrev kr:Option V->Option Value->Prop
 |some v,aa u=>bh v u
 |none,ae=>True
 | _,_=>False
abbrev kV:Key->V
 |.inl i=>.int i
 |.inr x=>.str x
inductive HO where
 |lst (xs:List V)
 |tup (xs:List V)
 |set (S:Int->Bool) (n:Nat)
 |ins (C dx:Addr) (fs:List (Str×V))
 |own (x:Addr)
 |xd (fs:List (Str×V))
 |met (f x:Addr)
 |rng (lo hi:Int)
 |frz (o:Obj) (u:HO)
 |tbl (ps:Array Value)
 |ext (φ:Heap->Prop)
@[reducible]noncomputable def Hp:=Addr->Option HO
abbrev upd(H:Hp)(a:Addr)(o:HO):Hp:=λb=>if b=a then aa o else H b
variable{H:Hp}{a:Addr}{o:HO}
def cz:upd H a o a=aa o:=by unfold upd;rw[if_pos rfl]
variable{b:Addr}
def bY(h:b≠a):upd H a o b=H b:=by unfold upd;rw[if_neg h]
def gW(h:H a=aa o)(h':H b=ae):a≠b:=by
 intro e;subst e;rw[h]at h';cases h'
section
variable(P:eC)(w:World)
abbrev gX(H:Hp)(h:Heap)(a:Addr):HO->Prop
 |.lst xs=>xs.length<=bx/\∃(its:LVa) (n:Nat),aW xs its/\h.get? a=aa {cls:=.type "list",data:=.seq its.toArray n}
 |.tup xs=>xs.length<=bx/\∃its:LVa,aW xs its/\IsTup h a its.toArray
 |.set S n=>h.SetOf (intKind P w) a S n
 |.ins C dx fs=>H dx=aa (.own a)/\fs.length<=1000/\dx≠a/\h.get? a=aa (mv C dx) /\
   ∃mA,h.Ns1 dx mA/\(∀f,kr (fs.lookup f) (mA f))/\PySem.Within mA (fs.map (·.1))
 |.own _=>∃o,h.get? a=aa o
 |.xd fs=>∃mA,h.Ns1 a mA/\∀f,kr (fs.lookup f) (mA f)
 |.rng lo hi=>∃t u v,h.get? a=aa {cls:=.type "range",data:=.fields #[.int lo t,.int hi u,.int 1 v]}
 |.frz o u=>h.get? a=aa o/\gX H h a u
 |.tbl ps=>h.get? a=aa {cls:=.none,data:=.fields ps}
 |.met f x=>h.get? a=aa (W.methodObj (.ref f) (.ref x))
 |.ext φ=>φ h/\(∃o,h.get? a=aa o)/\∀c d:Heap,φ c->(∀o,c.get? a=aa o->d.get? a=aa o)->φ d
abbrev HOk(H:Hp)(h:Heap):Prop:=∀a o,H a=aa o->gX P w H h a o
end
variable{P:eC}{h:Heap}
def gX.lt{w:World}(x:gX P w H h a o):a<h.objs.size:=by
 cases o with
 |lst xs=>obtain⟨_,_,_,_,e⟩:=x;exact cX e
 |tup xs=>obtain⟨_,_,_,p⟩:=x;exact p.lt
 |set S n=>obtain⟨o,_,_,_,e,_⟩:=x;exact cX e
 |ins C dx fs=>obtain⟨_,_,_,e,_⟩:=x;exact cX e
 |own y=>obtain⟨_,e⟩:=x;exact cX e
 |xd fs=>obtain⟨_,⟨_,_,_,e,_⟩,_⟩:=x;exact cX e
 |rng lo hi=>obtain⟨_,_,_,e⟩:=x;exact cX e
 |frz c u=>obtain⟨e,_⟩:=x;exact cX e
 |tbl ps=>exact cX (x)
 |met f y=>exact cX (x)
 |ext φ=>obtain⟨_,⟨_,e⟩,_⟩:=x;exact cX e
variable{H':Hp}{h':Heap}
def gX.stay{w:World}(x:gX P w H h a o)(k:∀b u,(b=a\/H b=aa (.own a))->h.get? b=aa u->h'.get? b=aa u)
 (l:∀b,H b=aa (.own a)->H' b=aa (.own a))(A:∀b xs,H b=aa (.tup xs)->H' b=aa (.tup xs)):gX P w H' h' a o:=by
 induction o with
 |lst xs=>obtain⟨z,its,n,r,e⟩:=x;exact⟨z,its,n,r,k _ _ (.inl rfl) e⟩
 |tup xs=>obtain⟨z,its,r,g,e,c⟩:=x;exact⟨z,its,r,g,k _ _ (.inl rfl) e,c⟩
 |set S n=>obtain⟨g,es,i,t,e,c⟩:=x;exact⟨g,es,i,t,k _ _ (.inl rfl) e,c⟩
 |ins C dx fs=>
  obtain⟨d,z,ne,e,mA,⟨od,es,i,j,c⟩,r⟩:=x
  exact⟨l _ d,z,ne,k _ _ (.inl rfl) e,mA,⟨od,es,i,k _ _ (.inr d) j,c⟩,r⟩
 |own y=>obtain⟨g,e⟩:=x;exact⟨g,k _ _ (.inl rfl) e⟩
 |xd fs=>obtain⟨mA,⟨od,es,i,e,c⟩,r⟩:=x;exact⟨mA,⟨od,es,i,k _ _ (.inl rfl) e,c⟩,r⟩
 |rng lo hi=>obtain⟨t,u,v,e⟩:=x;exact⟨t,u,v,k _ _ (.inl rfl) e⟩
 |frz g u m=>obtain⟨e,q⟩:=x;exact⟨k _ _ (.inl rfl) e,m q⟩
 |tbl ps=>
  have e:=x
  exact k a _ (.inl rfl) e
 |met f y=>
  have e:=x
  exact k a _ (.inl rfl) e
 |ext φ=>obtain⟨p,⟨o,e⟩,st⟩:=x;exact⟨st _ _ p λo q=>k _ _ (.inl rfl) q,⟨o,k _ _ (.inl rfl) e⟩,st⟩
def HOk.lt{w:World}(x:HOk P w H h)(e:H a=aa o):a<h.objs.size:=(x a o e).lt
def HOk.fresh{w:World}(x:HOk P w H h)(e:h.objs.size<=a):H a=ae:=by
 cases q:H a with
 |none=>rfl
 |some u=>exact absurd (fO (x.lt q) e) (lC _)
def HOk.kept{w:World}(x:HOk P w H h)(k:∀b u,h.get? b=aa u->h'.get? b=aa u):HOk P w H h':=λa o e=>
 (x a o e).stay (λb u _ q=>k b u q) (λ_ q=>q) λ_ _ q=>q
def HOk.laid{w:World}(x:HOk P w H h)(k:∀b u,h.get? b=aa u->h'.get? b=aa u)(g:h.objs.size<=a)(new:gX P w (upd H a o) h' a o):HOk P w (upd H a o) h':=λb u e=>by
 have f:=x.fresh g
 by_cases d:b=a
 .subst d;rw[cz]at e;cases e;exact new
 .rw[bY d]at e;exact(x b u e).stay (λc v _ q=>k c v q) (λc q=>by rw[bY (gW q f)];exact q) λc xs q=>by rw[bY (gW q f)];exact q
abbrev Rd(H:Hp)(a:Addr)(u:HO):Prop:=H a=aa u\/∃o,H a=aa (.frz o u)
def Rd.ok{w:World}{u:HO}(r:Rd H a u)(x:HOk P w H h):gX P w H h a u:=by
 rcases r with r |⟨o,r⟩
 .exact x a u r
 .obtain⟨_,q⟩:=x a _ r;exact q
abbrev Mut:Option HO->Prop
 |some (.lst _)=>True
 |some (.set _ _)=>True
 |some (.ins _ _ _)=>True
 |some (.ext _)=>True
 | _=>False
variable{x e:Addr}{o':HO}
def HOk.write{w:World}(ok:HOk P w H h)(l:Mut (H x))(n:e=x\/H e=aa (.own x))(k:∀b u,b≠e->h.get? b=aa u->h'.get? b=aa u)(m:∃u,h'.get? e=aa u)
 (new:gX P w (upd H x o') h' x o'):HOk P w (upd H x o') h':=λb u q=>by
 have f:∀c y,H c=aa (.own y)->c≠x:=λc y r z=>by subst z;rw[r]at l;exact l
 have g:∀c xs,H c=aa (.tup xs)->c≠x:=λc xs r z=>by subst z;rw[r]at l;exact l
 by_cases i:b=x
 .subst i;rw[cz]at q;cases q;exact new
 .rw[bY i]at q
  by_cases d:b=e
  .have p:H b=aa (.own x):=by
    rcases n with z |z
    .exact absurd (d.trans z) i
    .rw[d];exact z
   rw[q]at p;cases p;obtain⟨v,t⟩:=m;exact⟨v,by rw[d];exact t⟩
  .refine(ok b u q).stay (λc v j r=>k c v ?_ r) (λc r=>by rw[bY (f c b r)];exact r) λc xs r=>by rw[bY (g c xs r)];exact r
   rcases j with rfl |j
   .exact d
   .rintro rfl
    rcases n with z |z
    .exact f c b j z
    .rw[j]at z;cases z;exact i rfl
structure Un(fs ex:LAd)(H H':Hp)(h h':Heap):Prop where
 keep:∀b o,h.get? b=aa o->H b=ae->b∉fs->b∉ex->h'.get? b=aa o
 slot:∀b o,h.get? b=aa o->H b=ae->b∈fs->b∉ex->∃sl,h'.get? b=aa {o with slots:=sl}
 free:∀b o,h.get? b=aa o->H b=ae->b∉ex->H' b=ae
 there:∀b o,h.get? b=aa o->b∉ex->∃o',h'.get? b=aa o'
 tups:∀b xs,H b=aa (.tup xs)->H' b=aa (.tup xs)
 frzs:∀b o u,H b=aa (.frz o u)->H' b=aa (.frz o u)
 tbls:∀b ps,H b=aa (.tbl ps)->∃more,H' b=aa (.tbl (ps++more))
variable{ex:LAd}{H1:Hp}{h1:Heap}
def Un.any{fs:LAd}(u:Un fs ex H H1 h h1){c:Obj}(q:h.get? b=aa c)(n:H b=ae)(f:b∉ex):∃sl,h1.get? b=aa {c with slots:=sl}:=by
 by_cases d:b∈fs
 .exact u.slot b c q n d f
 .exact⟨c.slots,u.keep b c q n d f⟩
def Un.kept{fs:LAd}(k:∀b u,h.get? b=aa u->h'.get? b=aa u):Un fs ex H H h h':=
 ⟨λb c q _ _ _=>k b c q,λb c q _ _ _=>⟨c.slots,k b c q⟩,λ_ _ _ n _=>n,λb c q _=>⟨c,k b c q⟩,λ_ _ q=>q,λ_ _ _ q=>q,λ_ ps q=>⟨#[],by rw[q];simp⟩⟩
def Un.refl{fs:LAd}:Un fs ex H H h h:=Un.kept λ_ _ q=>q
def Un.laid{fs:LAd}(k:∀b u,h.get? b=aa u->h'.get? b=aa u)(hp:h.objs.size<=a)(hn:H a=ae):Un fs ex H (upd H a o) h h' where
 keep:=λb u q _ _ _=>k b u q
 slot:=λb u q _ _ _=>⟨u.slots,k b u q⟩
 free:=λb u q n _=>by rw[bY (eY (fO (cX q) hp))];exact n
 there:=λb u q _=>⟨u,k b u q⟩
 tups:=λb xs q=>by rw[bY (gW q hn)];exact q
 frzs:=λb u xs q=>by rw[bY (gW q hn)];exact q
 tbls:=λb ps q=>⟨#[],by rw[bY (gW q hn),q];simp⟩
def Un.write{fs:LAd}(d:Mut (H x))(l:e=x\/H e=aa (.own x))(k:∀b u,b≠e->h.get? b=aa u->h'.get? b=aa u)(f:∃u,h'.get? e=aa u):Un fs ex H (upd H x o) h h':=by
 have j:∀b,H b=ae->b≠x:=λb n z=>by subst z;rw[n]at d;exact d
 have i:∀b,H b=ae->b≠e:=λb n z=>by
  subst z
  rcases l with r |r
  .exact j b n r
  .rw[n]at r;nomatch r
 have g:∀b u,H b=aa u->¬Mut (aa u)->b≠x:=λb u q nm z=>by subst z;rw[q]at d;exact nm d
 refine⟨λb u q n _ _=>k b u (i b n) q,λb u q n _ _=>⟨u.slots,k b u (i b n) q⟩,λb u q n _=>by rw[bY (j b n)];exact n,λb u q _=>?_,
  λb xs q=>by rw[bY (g b _ q λz=>z)];exact q,λb u xs q=>by rw[bY (g b _ q λz=>z)];exact q,λb ps q=>⟨#[],by rw[bY (g b _ q λz=>z),q];simp⟩⟩
 by_cases c:b=e
 .subst c;exact f
 .exact⟨u,k b u c q⟩
abbrev trk(h:Heap)(H:Hp):LAd:=(dG h.objs.size).filter λa=>(H a).isSome
abbrev qq(h:Heap)(H:Hp):Heap:=jK h (trk h H)
def KY(h:Heap)(H:Hp):(qq h H).objs.size=h.objs.size:=W.hideAll_size _ _
variable{o:Obj}
def KZ(e:h.get? b=aa o)(n:H b=ae):(qq h H).get? b=aa o:=
 nU _ e λc=>by
  have q:=(mem_filter.mp c).2;rw[n]at q;simp at q
def K0(e:(qq h H).get? b=aa o):h.get? b=aa o/\H b=ae:=by
 have c:=nV _ e;refine⟨c,?_⟩
 cases q:H b with
 |none=>rfl
 |some x=>
  have d:b∈trk h H:=mem_filter.mpr ⟨kg.mpr (cX c),by simp[q]⟩;have z:(qq h H).get? b=ae:=iS _ d;rw[z]at e;nomatch e
abbrev K1(g h:Heap)(L:Addr):PNS:=(dG h.objs.size).filterMap λa=>if a=L\/(g.get? a).isSome=ac then ae else (h.get? a).map λo=>(a,o)
abbrev bF(g h:Heap)(L d:Addr):PNS:=(K1 g h L).filter λp=>decide (p.1≠d)
structure Mod(K:bo)(mg:MGT)(base:Heap):Prop where
 kin:K.In base
 glob:base.Ns cW mg
 blt:∃mb,base.Ns builtinsNs mb/\∀x:Str,x ≠ "__name__" -> mb x=iP x
 nolimit:base.NoLimit
set_option genInjectivity false in
structure Cx where
 prog:eC
 w:World
 K:bo
 mg:Str->Option Value
 base:Heap
 A:dL
 N:LSt
 s₀:ax
 H₀:Hp
 env:Env
 outer:List Env
 stack:List Env
 ex:LAd
 fn:Str->Bool
 calm:Bool
 pn:PNS
 xe:Value->ax->Prop
nonrec abbrev NDb(x:Str):=(x==("__debug__":Str))=ai
nonrec abbrev NCd(x:Str):=(x==("__classdict__":Str))=ai
nonrec abbrev StE(X:Cx)(e:Expr)(es:LEx):=bf (e::es) X.env=(ai,eval e X.env)::bf es X.env
nonrec abbrev BkE(X:Cx)(pos:Pos)(es:LEx):=(eD pos (bf es X.env)).any (·.1)=ai
nonrec abbrev LcF(X:Cx)(x:Str):=X.fn x=ac\/X.env.scope.names.lookup x=aa .local
abbrev frs(l:List Env):LAd:=l.filterMap (·.frame)
@[reducible]noncomputable def Cx.fs(X:Cx):LAd:=frs X.outer
abbrev Vis(sc:Scope)(x:Str):Prop:=sc.names.lookup x=aa .local\/sc.names.lookup x=aa .cell\/sc.names.lookup x=aa .free
abbrev Loc(sc:Scope)(x:Str):Prop:=sc.names.lookup x=aa .local\/sc.names.lookup x=aa .cell
abbrev E3(env:Env)(h:Heap)(m:MGT)(x:Str)(u:Value):Prop:=
 (env.kindOf x=aa .local/\m x=aa u)\/((env.kindOf x=aa .cell\/env.kindOf x=aa .free)/\∃c,env.cells.lookup x=aa c/\h.IsCell c (aa u))
structure Cx.Ok(X:Cx):Prop where
 mod:Mod X.K X.mg X.base
 kind:X.env.scope.kind=.function
 glob:X.env.globals=cW
 blt:X.env.builtins=builtinsNs
 above:X.s₀.heap.objs.size<=X.env.locals
 inj:∀x y c,X.env.cells.lookup x=aa c->X.env.cells.lookup y=aa c->x=y
 has:∀x,(X.env.kindOf x=aa .cell\/X.env.kindOf x=aa .free)->∃c,X.env.cells.lookup x=aa c
 cab:∀x c,X.fn x=ac->X.env.cells.lookup x=aa c->X.s₀.heap.objs.size<=c
 hd:X.calm=ac->X.A.handled=ae
 frames:X.A.frames=aa X.stack
 stk:X.stack=X.outer\/(X.stack=X.env::X.outer/\X.env.frame=aa X.env.locals)
 exf:∀b∈X.ex,b≠X.env.locals/\∀x c,X.env.cells.lookup x=aa c->c≠b
 bs:∀b o,X.base.get? b=aa o->X.s₀.heap.get? b=aa o/\X.H₀ b=ae
 bsz:X.base.objs.size<=X.s₀.heap.objs.size
 noex:∀b o,X.base.get? b=aa o->b∉X.ex
 exfs:∀b∈X.ex,b∉X.fs
 funs:X.s₀.heap.FunFrames X.base X.outer
 frf:∀b∈X.fs,X.H₀ b=ae
structure Inv(X:Cx)(pins:PNS)(σ:List (Option V))(H:Hp)(s:ax):Prop where
 ok:X.Ok
 os:s.os=X.s₀.os
 bare:kh s.gens
 base:Un X.fs X.ex X.H₀ H X.s₀.heap s.heap
 loc:∃m,s.heap.Ns X.env.locals m/\∀(i:Nat) (x:Str) (v:V),X.N[i]?=aa x->σ[i]?=aa (aa v)->Vis X.env.scope x->∃u,bh v u/\E3 X.env s.heap m x u
 cell:∀x c,X.env.cells.lookup x=aa c->∃v,s.heap.IsCell c v
 free:H X.env.locals=ae
 freeC:∀x c,X.env.cells.lookup x=aa c->H c=ae
 pin:∀p∈X.pn++pins,s.heap.get? p.1=aa p.2/\H p.1=ae/\p.1≠X.env.locals/\p.1∉X.fs/\∀v,p.2.data≠.cell v
 hok:HOk X.prog X.w H s.heap
 len:σ.length=X.N.length
variable{X:Cx}
def Cx.Ok.nofr(ok:X.Ok)(e:X.base.get? b=aa o):b∉X.fs:=λc=>by
 have:=(ok.funs.mem c).1;rw[e]at this;nomatch this
variable{pins:PNS}{σ:List (Option V)}
def Inv.bs{s:ax}(I:Inv X pins σ H s):∀b o,X.base.get? b=aa o->s.heap.get? b=aa o/\H b=ae:=λb o e=>
 ⟨I.base.keep b o (I.ok.bs b o e).1 (I.ok.bs b o e).2 (I.ok.nofr e) (I.ok.noex b o e),I.base.free b o (I.ok.bs b o e).1 (I.ok.bs b o e).2 (I.ok.noex b o e)⟩
def Inv.bk{s:ax}(I:Inv X pins σ H s):∀b o,X.base.get? b=aa o->s.heap.get? b=aa o:=λb o e=>(I.bs b o e).1
def Inv.mod{s:ax}(I:Inv X pins σ H s):Mod X.K X.mg X.base:=I.ok.mod
def Inv.kIn{s:ax}(I:Inv X pins σ H s):X.K.In s.heap:=I.ok.mod.kin.keeps I.bk
def Inv.lt{s:ax}(I:Inv X pins σ H s):X.env.locals<s.heap.objs.size:=let ⟨_,hn,_⟩:=I.loc;hn.lt
def Inv.sz{s:ax}(I:Inv X pins σ H s):X.s₀.heap.objs.size<=s.heap.objs.size:=ig I.ok.above (mi I.lt)
def Inv.nofs{s:ax}(I:Inv X pins σ H s)(h:s.heap.objs.size<=a):a∉X.fs:=λc=>by
 obtain⟨_,o,d,_⟩:=I.ok.funs.mem c;exact absurd (fO (cX d) (ig I.sz h)) (lC _)
def Inv.cne{s:ax}(I:Inv X pins σ H s):∀x c,X.env.cells.lookup x=aa c->c≠X.env.locals:=λx c e z=>by
 obtain⟨v,o,g,hd⟩:=I.cell x c e;obtain⟨m,⟨o',es,i,f,d,_⟩,_⟩:=I.loc;rw[z,f]at g;cases g;rw[d]at hd;nomatch hd
def Inv.funs{s:ax}(I:Inv X pins σ H s):s.heap.FunFrames X.base X.outer:=by
 have all:∀l,(∀b∈frs l,b∈X.fs)->X.s₀.heap.FunFrames X.base l->s.heap.FunFrames X.base l:=by
  intro l
  induction l with
  |nil=>intro _ _;trivial
  |cons env r p=>
   intro g j;obtain⟨i,⟨L,o,f,k,m,hd⟩,n⟩:=j;have c:=g L (by unfold frs;rw[lB,f];exact be);obtain⟨sl,e⟩:=I.base.slot L o m (I.ok.frf L c) c λz=>I.ok.exfs L z c;exact⟨i,⟨L,_,f,k,e,hd⟩,p (λb d=>g b (by unfold frs;rw[lB,f];exact bQ _ d)) n⟩
 exact all X.outer (λ_ d=>d) I.ok.funs
def Inv.stack{s:ax}(I:Inv X pins σ H s):s.heap.FunFrames X.base X.stack:=by
 rcases I.ok.stk with e |⟨e,hf⟩
 .rw[e];exact I.funs
 .rw[e];obtain⟨m,c,_⟩:=I.loc;exact .cons (by rw[I.ok.kind];decide) hf c (Heap.get?_none_of_le (ig I.ok.bsz I.ok.above)) I.funs
def Inv.stkSub{s:ax}(I:Inv X pins σ H s):∀b∈frs X.stack,b∈X.env.locals::X.fs:=λb c=>by
 rcases I.ok.stk with e |⟨e,hf⟩
 .rw[e]at c;exact bQ _ c
 .rw[e]at c;unfold frs at c;rw[lB,hf]at c;exact c
def Inv.stkFree{s:ax}(I:Inv X pins σ H s):∀b∈frs X.stack,H b=ae:=λb c=>by
 rcases bC.mp (I.stkSub b c)with e |c
 .rw[e];exact I.free
 .obtain⟨_,o,d,_⟩:=I.ok.funs.mem c;exact I.base.free b o d (I.ok.frf b c) λz=>I.ok.exfs b z c
variable{g':Array GenState}{t':Nat}{d':Drawn}{ch:LAd}
section
variable{s:ax}
def Inv.step(I:Inv X pins σ H s)
 (j:∀b∈ch,(b∈X.ex\/X.s₀.heap.objs.size<=b)/\b≠X.env.locals/\(∀x c,X.env.cells.lookup x=aa c->c≠b)/\∀p∈X.pn++pins,p.1≠b)
 (keep:∀b o,b≠X.env.locals->b∉X.fs->b∉ch->s.heap.get? b=aa o->H b=ae->h'.get? b=aa o)
 (slot:∀b o,b≠X.env.locals->b∈X.fs->b∉ch->s.heap.get? b=aa o->H b=ae->∃sl,h'.get? b=aa {o with slots:=sl})(free:∀b o,b∉ch->s.heap.get? b=aa o->H b=ae->H' b=ae)
 (there:∀b o,b∉ch->s.heap.get? b=aa o->∃o',h'.get? b=aa o')
 (tups:∀b xs,H b=aa (.tup xs)->H' b=aa (.tup xs))(frzs:∀b o u,H b=aa (.frz o u)->H' b=aa (.frz o u))(tbls:∀b ps,H b=aa (.tbl ps)->∃more,H' b=aa (.tbl (ps++more)))
 (ns:∀m,s.heap.Ns X.env.locals m->h'.Ns X.env.locals m)(hok:HOk X.prog X.w H' h')(Q:kh g'):
  Inv X pins σ H' {s with heap:=h',gens:=g',drawn:=d',toks:=t'}:=by
 have G:∀b o,X.s₀.heap.get? b=aa o->b≠X.env.locals:=λb o e=>eY (fO (cX e) I.ok.above)
 have A:∀b o,X.s₀.heap.get? b=aa o->b∉X.ex->b∉ch:=λb o e f B=>by
  rcases(j b B).1 with z |z
  .exact f z
  .exact absurd (fO (cX e) z) (lC _)
 have g:∀x c,X.env.cells.lookup x=aa c->∀v,s.heap.IsCell c v->h'.IsCell c v:=λx c e v Y=>by
  obtain⟨o,C,hd⟩:=Y;have t:=λz=>(j c z).2.2.1 x c e rfl
  by_cases L:c∈X.fs
  .obtain⟨sl,q⟩:=slot c o (I.cne x c e) L t C (I.freeC x c e);exact⟨_,q,hd⟩
  .exact⟨o,keep c o (I.cne x c e) L t C (I.freeC x c e),hd⟩
 refine⟨I.ok,I.os,Q,⟨λb o e n B f=>(keep b o (G b o e) B (A b o e f) (I.base.keep b o e n B f) (I.base.free b o e n f)),λb o e n B f=>?_,λb o e n f=>?_,λb o e f=>?_,λb xs e=>tups b xs (I.base.tups b xs e),λb o xs e=>frzs b o xs (I.base.frzs b o xs e),λb ps e=>?_⟩,?_,λx c e=>?_,?_,λx c e=>?_,λp M=>?_,hok,I.len⟩
 .obtain⟨sl,y⟩:=I.base.slot b o e n B f;obtain⟨J,E⟩:=slot b _ (G b o e) B (A b o e f) y (I.base.free b o e n f);exact⟨J,E⟩
 .obtain⟨o',y⟩:=I.base.there b o e f;exact free b o' (A b o e f) y (I.base.free b o e n f)
 .obtain⟨o',y⟩:=I.base.there b o e f;exact there b o' (A b o e f) y
 .obtain⟨m1,y⟩:=I.base.tbls b ps e;obtain⟨m2,E⟩:=tbls b _ y;exact⟨m1++m2,by rw[E,Array.append_assoc]⟩
 .obtain⟨m,U,T⟩:=I.loc;refine⟨m,ns m U,λi x v y E O=>?_⟩;obtain⟨u,r,l⟩:=T i x v y E O;refine⟨u,r,?_⟩
  rcases l with l |⟨k,c,e,z⟩
  .exact .inl l
  .exact .inr ⟨k,c,e,g x c e _ z⟩
 .obtain⟨v,z⟩:=I.cell x c e;exact⟨v,g x c e v z⟩
 .obtain⟨m,⟨o,_,_,C,_⟩,_⟩:=I.loc;exact free _ o (λz=>(j _ z).2.1 rfl) C I.free
 .obtain⟨v,o,C,hd⟩:=I.cell x c e;exact free c o (λz=>(j c z).2.2.1 x c e rfl) C (I.freeC x c e)
 .obtain⟨e,n,ne,N,d⟩:=I.pin p M;have t:=λz=>(j p.1 z).2.2.2 p M rfl;exact⟨keep p.1 p.2 ne N t e n,free p.1 p.2 t e n,ne,N,d⟩
end
section
variable{s:ax}
def Inv.un(I:Inv X pins σ H s)(u:Un X.fs [] H H' s.heap h')(hok:HOk X.prog X.w H' h'):Inv X pins σ H' {s with heap:=h',toks:=t'}:=by
 obtain⟨m,⟨o,es,p,i,r⟩,_⟩:=id I.loc;obtain⟨sl,j⟩:=u.any i I.free (by simp)
 exact I.step (ch:=[]) (λ_ z=>nomatch z) (λb o _ g _ e n=>u.keep b o e n g (by simp)) (λb o _ g _ e n=>u.slot b o e n g (by simp)) (λb o _ e n=>u.free b o e n (by simp)) (λb o _ e=>u.there b o e (by simp)) u.tups u.frzs u.tbls (λq k=>by
  obtain⟨o',f,d,c,l⟩:=k;rw[i]at c;cases c;exact⟨_,f,d,j,l⟩) hok I.bare
end
section
variable{s:ax}
def Inv.call(I:Inv X pins σ H s)(u:Un (frs X.stack) ch H H' s.heap h')(hok:HOk X.prog X.w H' h')(t:kh g')
 (f:∀b∈ch,(b∈X.ex\/X.s₀.heap.objs.size<=b)/\b≠X.env.locals/\(∀x c,X.env.cells.lookup x=aa c->c≠b)/\∀p∈X.pn++pins,p.1≠b):
  Inv X pins σ H' {s with heap:=h',gens:=g',drawn:=d',toks:=t'}:=by
 obtain⟨m,⟨o,es,A,l,r⟩,_⟩:=id I.loc;obtain⟨sl,k⟩:=u.any l I.free λz=>(f _ z).2.1 rfl
 exact I.step f (λb o k q d e n=>u.keep b o e n (λz=>(bC.mp (I.stkSub b z)).elim k q) d) (λb o _ _ d e n=>u.any e n d) (λb o d e n=>u.free b o e n d) (λb o d e=>u.there b o e d) u.tups u.frzs u.tbls (λB v=>by
  obtain⟨o',j,i,g,y⟩:=v;rw[l]at g;cases g;exact⟨_,j,i,k,y⟩) hok t
end
variable{it:Addr}
section
variable{s:ax}
def Inv.turned(I:Inv X pins σ H s)(k:∀b o,b≠it->s.heap.get? b=aa o->h'.get? b=aa o)(A:H it=ae)(g:it≠X.env.locals)
 (h1:it∈X.ex\/X.s₀.heap.objs.size<=it)(j:∀x c,X.env.cells.lookup x=aa c->c≠it)(l:∀p∈X.pn++pins,p.1≠it):Inv X pins σ H {s with heap:=h',toks:=t'}:=by
 have f:∀b u,H b=aa u->b≠it:=λb u e z=>by rw[z,A]at e;nomatch e
 refine I.step (ch:=[it]) (λb t=>?_) (λb o _ _ d e _=>k b o (λz=>d (by simp[z])) e) (λb o _ _ d e _=>⟨o.slots,k b o (λz=>d (by simp[z])) e⟩) (λ_ _ _ _ n=>n)
  (λb o d e=>⟨o,k b o (λz=>d (by simp[z])) e⟩) (λ_ _ e=>e) (λ_ _ _ e=>e) (λb ps e=>⟨#[],by rw[e];simp⟩) (λm y=>?_) (λb u e=>?_) I.bare
 .have e:b=it:=by simpa using t
  subst e;exact⟨h1,g,j,l⟩
 .obtain⟨o,es,i,B,r⟩:=y;exact⟨o,es,i,k _ o (eM g) B,r⟩
 .refine(I.hok b u e).stay (λc v d q=>k c v ?_ q) (λ_ q=>q) λ_ _ q=>q
  rcases d with z |z
  .rw[z];exact f b u e
  .exact f c _ z
end
section
variable{s:ax}
def Inv.tok(I:Inv X pins σ H s)(t:Nat):Inv X pins σ H {s with toks:=t}:=I.un Un.refl I.hok
end
section
variable{s:ax}
def Inv.kept(I:Inv X pins σ H s)(k:∀b u,s.heap.get? b=aa u->h'.get? b=aa u):Inv X pins σ H {s with heap:=h',toks:=t'}:=I.un (Un.kept k) (I.hok.kept k)
end
section
variable{s:ax}
def Inv.laid{o:HO}(I:Inv X pins σ H s)(k:∀b u,s.heap.get? b=aa u->h'.get? b=aa u)(c:s.heap.objs.size<=a)(new:gX X.prog X.w (upd H a o) h' a o):
  Inv X pins σ (upd H a o) {s with heap:=h',toks:=t'}:=I.un (Un.laid k c (I.hok.fresh c)) (I.hok.laid k c new)
end
section
variable{s:ax}
def Inv.write{o:HO}(I:Inv X pins σ H s)(f:Mut (H x))(d:e=x\/H e=aa (.own x))(k:∀b u,b≠e->s.heap.get? b=aa u->h'.get? b=aa u)(c:∃u,h'.get? e=aa u)
 (new:gX X.prog X.w (upd H x o) h' x o):Inv X pins σ (upd H x o) {s with heap:=h',toks:=t'}:=I.un (Un.write f d k c) (I.hok.write f d k c new)
end
variable{mu:PNS}
def Inv.pins_of{s:ax}(I:Inv X pins σ H s)(h:∀p∈mu,s.heap.get? p.1=aa p.2/\H p.1=ae/\p.1≠X.env.locals/\p.1∉X.fs/\∀v,p.2.data≠.cell v):Inv X mu σ H s:=
 ⟨I.ok,I.os,I.bare,I.base,I.loc,I.cell,I.free,I.freeC,λp c=>(dw.mp c).elim (λz=>I.pin p (fN _ z)) (h p),I.hok,I.len⟩
variable{N:LSt}{i:Nat}{x:Str}
def zU(f:N.Nodup){j:Nat}(a:N[i]?=aa x)(b:N[j]?=aa x):i=j:=by
 obtain⟨h1,c⟩:=cV.mp a;obtain⟨g,d⟩:=cV.mp b;exact(zC f).mp (c.trans d.symm)
variable{M:Model}{A:dL}{E:PRS}{v:V}{u:Value}{Q:Unit->ax->Prop}
section
variable{s:ax}
def E4(I:Inv X pins σ H s)(hN:X.N.Nodup)(hi:X.N[i]?=aa x)(B:Loc X.env.scope x)(r:bh v u)
 (h:∀s',Inv X pins (σ.set i (aa v)) H s'->(∃a,sL a s.heap s'.heap/\(a=X.env.locals\/X.env.cells.lookup x=aa a))->Q () s')(hf:LcF X x:=by first |exact .inl rfl |exact .inr rfl |assumption):wpAny M A (storeName X.env x u) Q E s:=by
 obtain⟨m,hn,hl⟩:=id I.loc;have hcls:(X.env.scope.kind==.class || (X.env.scope.kind==.module && X.env.locals != X.env.globals))=ai:=by rw[I.ok.kind];rfl
 have J:i<σ.length:=by rw[I.len];exact(cV.mp hi).1
 have cne:=I.cne
 have l:∀{a:Addr} {h':Heap},(∃o,s.heap.get? a=aa o/\H a=ae)->sL a s.heap h'->HOk X.prog X.w H h':=λ{a h'} ha f b ob e=>by
  obtain⟨_,_,C⟩:=ha;refine(I.hok b ob e).stay (λc w' t q=>(f.2 c ?_).trans q) (λ_ q=>q) λ_ _ q=>q;rintro rfl
  rcases t with rfl |t
  .rw[C]at e;nomatch e
  .rw[C]at t;nomatch t
 rcases B with hk |hk
 .refine wpAny_storeName_local hk hn (λh' hn' f=>?_) hcls;obtain⟨oL,_,_,hoL,_⟩:=id hn;refine h _ ⟨I.ok,I.os,I.bare,⟨λb o e n L B=>((f.2 b (eY (fO (cX e) I.ok.above))).trans (I.base.keep b o e n L B)),λb o e n L B=>?_,I.base.free,λb o e B=>?_,I.base.tups,I.base.frzs,I.base.tbls⟩,⟨_,hn',λj y v' g G e3=>?_⟩,λy c e=>?_,I.free,I.freeC,λp hp=>?_,l ⟨oL,hoL,I.free⟩ f,by simpa using I.len⟩ ⟨_,f,.inl rfl⟩
  .obtain⟨sl,g⟩:=I.base.slot b o e n L B;exact⟨sl,(f.2 b (eY (fO (cX e) I.ok.above))).trans g⟩
  .obtain⟨o',g⟩:=I.base.there b o e B;exact⟨o',(f.2 b (eY (fO (cX e) I.ok.above))).trans g⟩
  .by_cases T:j=i
   .subst T;rw[hi]at g;cases g;rw[gT J]at G;cases G;exact⟨u,r,.inl ⟨hk,by simp⟩⟩
   .rw[ib (eM T)]at G;obtain⟨u',r',q⟩:=hl j y v' g G e3;refine⟨u',r',?_⟩
    rcases q with⟨k,e⟩ |⟨k,c,e,z⟩
    .refine .inl ⟨k,?_⟩;have:y≠x:=λe=>T (zU hN g (e▸hi));simp[this,e]
    .exact .inr ⟨k,c,e,z.sameBut f (cne y c e)⟩
  .obtain⟨w',z⟩:=I.cell y c e;exact⟨w',z.sameBut f (cne y c e)⟩
  .obtain⟨e,n,ne,nf,d⟩:=I.pin p hp;exact⟨(f.2 p.1 ne).trans e,n,ne,nf,d⟩
 .have O:X.fn x=ac:=by
   rcases hf with z |z
   .exact z
   .rw[z]at hk;nomatch hk
  obtain⟨c,t⟩:=I.ok.has x (.inl hk);obtain⟨w',z⟩:=I.cell x c t;refine wpAny_storeName_cell I.ok.kind hk t z (λh' U f=>?_);obtain⟨oc,hoc,hocd⟩:=id z
  refine h {s with heap:=h'} ⟨I.ok,I.os,I.bare,⟨λb o e n L B=>((f.2 b (eY (fO (cX e) (I.ok.cab x c O t)))).trans (I.base.keep b o e n L B)),λb o e n L B=>?_,I.base.free,λb o e B=>?_,I.base.tups,I.base.frzs,I.base.tbls⟩,⟨m,hn.sameBut f (eM (cne x c t)),λj y v' g G e3=>?_⟩,λy c' e=>?_,I.free,I.freeC,λp hp=>?_,l ⟨oc,hoc,I.freeC x c t⟩ f,by simpa using I.len⟩ ⟨c,f,.inr t⟩
  .obtain⟨sl,g⟩:=I.base.slot b o e n L B;exact⟨sl,(f.2 b (eY (fO (cX e) (I.ok.cab x c O t)))).trans g⟩
  .obtain⟨o',g⟩:=I.base.there b o e B;exact⟨o',(f.2 b (eY (fO (cX e) (I.ok.cab x c O t)))).trans g⟩
  .by_cases T:j=i
   .subst T;rw[hi]at g;cases g;rw[gT J]at G;cases G;exact⟨u,r,.inr ⟨.inl hk,c,t,U⟩⟩
   .rw[ib (eM T)]at G;obtain⟨u',r',q⟩:=hl j y v' g G e3;refine⟨u',r',?_⟩
    rcases q with q |⟨k,c',e,z'⟩
    .exact .inl q
    .refine .inr ⟨k,c',e,z'.sameBut f ?_⟩;rintro rfl;exact T (zU hN g (I.ok.inj _ _ _ e t▸hi))
  .by_cases Y:c'=c
   .subst Y;exact⟨_,U⟩
   .obtain⟨w2,z2⟩:=I.cell y c' e;exact⟨w2,z2.sameBut f Y⟩
  .obtain⟨e,n,ne,nf,d⟩:=I.pin p hp;refine⟨(f.2 p.1 ?_).trans e,n,ne,nf,d⟩;intro q;rw[q,hoc]at e;exact d w' (by rw[<- (dz e)];exact hocd)
end
def sS{s:ax}(I:Inv X pins σ H s)(d:X.N.Nodup)(hi:X.N[i]?=aa x)(g:Loc X.env.scope x)(r:bh v u)
 (h:∀s',Inv X pins (σ.set i (aa v)) H s'->Q () s')(f:LcF X x:=by first |exact .inl rfl |exact .inr rfl |assumption):wpAny M A (storeName X.env x u) Q E s:=
 E4 I d hi g r (λs' c _=>h s' c) f
variable{s':ax}
def Inv.call'{s:ax}(I:Inv X pins σ H s)(g:s'.os=s.os)(u:Un (frs X.stack) ch H H' s.heap s'.heap)(hok:HOk X.prog X.w H' s'.heap)(f:kh s'.gens)
 (d:∀b∈ch,(b∈X.ex\/X.s₀.heap.objs.size<=b)/\b≠X.env.locals/\(∀x c,X.env.cells.lookup x=aa c->c≠b)/\∀p∈X.pn++pins,p.1≠b):Inv X pins σ H' s':=by
 obtain⟨h',g',d',t',o'⟩:=s';subst g;exact I.call u hok f d
@[reducible]noncomputable def XK:=Value->Option Addr->Hp->Prop
@[reducible]noncomputable def St:=List (Option V)
@[reducible]noncomputable def VK:=V->Hp->Prop
@[reducible]noncomputable def TE:=St->Hp->VK->Prop
@[reducible]noncomputable def TT:=St->Hp->(Bool->Hp->Prop)->Prop
@[reducible]noncomputable def TA:=St->Hp->(List V->Hp->Prop)->Prop
structure jL where
 nx:St->Hp->Prop
 rt:VK
 bk:St->Hp->Prop:=λ_ _=>False
 ct:St->Hp->Prop:=λ_ _=>False
@[reducible]noncomputable def TS:=jL->St->Hp->Prop
abbrev EP(X:Cx)(pins:PNS)(σ:St)(Q:VK)(u:Value)(s':ax):Prop:=∃v H',Inv X pins σ H' s'/\bh v u/\Q v H'
abbrev TP(X:Cx)(pins:PNS)(σ:St)(Q:Bool->Hp->Prop)(b:Bool)(s':ax):Prop:=∃H',Inv X pins σ H' s'/\Q b H'
abbrev AP(X:Cx)(pins:PNS)(σ:St)(Q:List V->Hp->Prop)(us:LVa)(s':ax):Prop:=∃vs H',Inv X pins σ H' s'/\aW vs us/\Q vs H'
abbrev SP(X:Cx)(pins:PNS)(D:jL)(f:Flow)(s':ax):Prop:=
 match f with
 |.next=>∃σ' H',Inv X pins σ' H' s'/\D.nx σ' H'
 |.brk=>∃σ' H',Inv X pins σ' H' s'/\D.bk σ' H'
 |.cont=>∃σ' H',Inv X pins σ' H' s'/\D.ct σ' H'
 |.ret u=>∃v σ' H',Inv X pins σ' H' s'/\bh v u/\D.rt v H'
abbrev PE(X:Cx)(e:Expr)(t:TE):Prop:=
 ∀(pins:PNS) (s:ax) (σ:St) (H:Hp) (Q:VK),Inv X pins σ H s->t σ H Q->wpAny (model X.prog X.w) X.A (eval e X.env) (EP X pins σ Q) X.xe s
abbrev PT(X:Cx)(e:Expr)(t:TT):Prop:=
 ∀(pins:PNS) (s:ax) (σ:St) (H:Hp) (Q:Bool->Hp->Prop),Inv X pins σ H s->t σ H Q->wpAny (model X.prog X.w) X.A (isTrue e X.env (eval e X.env)) (TP X pins σ Q) X.xe s
abbrev PW(X:Cx)(e:Expr)(t:TT):Prop:=
 ∀(c:Sem Value) (pins:PNS) (s:ax) (σ:St) (H:Hp) (Q:Bool->Hp->Prop),Inv X pins σ H s->t σ H Q->wpAny (model X.prog X.w) X.A (isTrue e X.env c) (TP X pins σ Q) X.xe s
variable{e:Expr}
def PW.pt{t:TT}(h:PW X e t):PT X e t:=h _
abbrev PA(X:Cx)(es:LEx)(t:TA):Prop:=
 ∀(pos:Pos) (pins:PNS) (s:ax) (σ:St) (H:Hp) (Q:List V->Hp->Prop),Inv X pins σ H s->t σ H Q->wpAny (model X.prog X.w) X.A (spliced (eD pos (bf es X.env))) (AP X pins σ Q) X.xe s
abbrev PS(X:Cx)(st:Stmt)(t:TS):Prop:=
 ∀(pins:PNS) (s:ax) (σ:St) (H:Hp) (D:jL),Inv X pins σ H s->t D σ H->wpAny (model X.prog X.w) X.A (exec st X.env) (SP X pins D) X.xe s
abbrev PSs(X:Cx)(st:List Stmt)(t:TS):Prop:=
 ∀(pins:PNS) (s:ax) (σ:St) (H:Hp) (D:jL),Inv X pins σ H s->t D σ H->wpAny (model X.prog X.w) X.A (execs st X.env) (SP X pins D) X.xe s
def thn{d:Type}{t:Sem d}{Q c:d->ax->Prop}{s:ax}(h:wpAny M A t Q E s)(f:∀a s,Q a s->c a s):wpAny M A t c E s:=fB h f λ_ _ x=>x
abbrev df(i:Nat):TE:=λσ H Q=>∃v,σ[i]?=aa (aa v)/\Q v H
abbrev tC(v:V):TE:=λ_ H Q=>Q v H
variable{pos:Pos}
def ku(n:X.N[i]?=aa x)(y:Vis X.env.scope x)(hd:NDb x:=by decide)(j:NCd x:=by decide):PE X (.Name x pos) (df i):=by
 intro pins s σ H Q I h;obtain⟨v,e,h⟩:=h;obtain⟨m,t,p⟩:=I.loc;obtain⟨u,r,l⟩:=p i x v n e y;have f:EP X pins σ Q u s:=⟨v,H,I,r,h⟩
 rcases l with⟨g,q⟩ |⟨g,c,k,d⟩
 .exact qm (sJ I.ok.kind g t q f) hd
 .rcases g with g |g
  .exact qm (wpAny_loadName_cell I.ok.kind g k d f) hd
  .exact qm (wpAny_loadName_free I.ok.kind g k d f j) hd
def K2{i j pos}:PE X (.Constant (.int i) j pos) (tC (.int i)):=λ_ _ _ H _ I h=>wpAny_Constant_int ⟨.int i,H,I.tok _,⟨_,rfl⟩,h⟩
def K3{b j pos}:PE X (.Constant (.bool b) j pos) (tC (.bl b)):=λ_ _ _ H _ I h=>Constant_bool ⟨.bl b,H,I,rfl,h⟩
def K4{x j pos}:PE X (.Constant (.str x) j pos) (tC (.str x)):=λ_ _ _ H _ I h=>zK ⟨.str x,H,I.tok _,⟨_,rfl⟩,h⟩
abbrev Gl(X:Cx)(x:Str):Prop:=X.env.kindOf x=aa .globalImplicit
variable{σ:St}
def nW{s:ax}{Q:PRS}(I:Inv X pins σ H s)(c:Gl X x)(d:X.mg x=aa u)(h:Q u s)
 (hd:NDb x:=by decide):wpAny (model X.prog X.w) X.A (eval (.Name x pos) X.env) Q E s:=
 Calls.Name_function_global I.ok.kind c (Calls.loadGlobal_global (by rw[I.ok.glob];exact I.mod.glob.keeps I.bk) d h) hd
def qr{s:ax}{Q:PRS}(I:Inv X pins σ H s)(d:Gl X x)(f:X.mg x=ae)(j:iP x=aa u)(h:Q u s)
 (g:x ≠ "__name__":=by decide)(hd:NDb x:=by decide):wpAny (model X.prog X.w) X.A (eval (.Name x pos) X.env) Q E s:=by
 obtain⟨mb,h1,c⟩:=I.mod.blt;exact Calls.Name_function_global I.ok.kind d (Calls.loadGlobal_builtin (by rw[I.ok.glob];exact I.mod.glob.keeps I.bk) f (by rw[I.ok.blt];exact h1.keeps I.bk) ((c x g).trans j) h) hd
def qs(c:Gl X x)(d:X.mg x=aa u)(r:bh v u)(hd:NDb x:=by decide):PE X (.Name x pos) (tC v):=
 λ_ _ _ H _ I h=>nW I c d ⟨v,H,I,r,h⟩ hd
def K5(c:Gl X x)(d:X.mg x=ae)(g:iP x=aa u)(r:bh v u)(f:x ≠ "__name__":=by decide)(hd:NDb x:=by decide):PE X (.Name x pos) (tC v):=
 λ_ _ _ H _ I h=>qr I c d g ⟨v,H,I,r,h⟩ f hd
abbrev K6(t u:TT):TT:=λσ H Q=>t σ H λc H1=>if c=ac then u σ H1 Q else Q ai H1
abbrev tOr(t u:TT):TT:=λσ H Q=>t σ H λc H1=>if c=ac then Q ac H1 else u σ H1 Q
abbrev K7(t:TT):TT:=λσ H Q=>t σ H λc H1=>Q (!c) H1
variable{a:Expr}{tA:TT}
def K8(d:PT X a tA):PW X (.BoolOp .And [a] pos) tA:=by
 intro f pins s σ H Q I h;refine isTrue_and (thn (d pins s σ H Q I h) λc s1 e=>?_)
 cases c with
 |true=>exact isTrue_and_nil e
 |false=>exact e
def E5(d:PT X a tA):PW X (.BoolOp .Or [a] pos) tA:=by
 intro f pins s σ H Q I h;refine isTrue_or (thn (d pins s σ H Q I h) λc s1 e=>?_)
 cases c with
 |false=>exact isTrue_or_nil e
 |true=>exact e
variable{b:Expr}{tB':TT}
def K9{bF:LEx}(g:PT X a tA)(j:PW X (.BoolOp .And (b::bF) pos) tB'):PW X (.BoolOp .And (a::b::bF) pos) (K6 tA tB'):=by
 intro l pins s σ H Q I h;refine isTrue_and (thn (g pins s σ H _ I h) λc s1 k=>?_);obtain⟨H1,d,f⟩:=k
 cases c with
 |true=>exact j l pins s1 σ H1 Q d f
 |false=>exact⟨H1,d,f⟩
def E6{bF:LEx}(g:PT X a tA)(j:PW X (.BoolOp .Or (b::bF) pos) tB'):PW X (.BoolOp .Or (a::b::bF) pos) (tOr tA tB'):=by
 intro l pins s σ H Q I h;refine isTrue_or (thn (g pins s σ H _ I h) λc s1 k=>?_);obtain⟨H1,d,f⟩:=k
 cases c with
 |true=>exact⟨H1,d,f⟩
 |false=>exact j l pins s1 σ H1 Q d f
def E7(c:PT X a tA):PT X (.UnaryOp .Not a pos) (K7 tA):=by
 intro pins s σ H Q I h;exact isTrue_not (c pins s σ H _ I h)
abbrev La(d f:TE):TE:=λσ H Q=>d σ H λx H1=>∃c,x=.bl c/\if c=ac then f σ H1 Q else Q (.bl ai) H1
abbrev Lb(d f:TE):TE:=λσ H Q=>d σ H λx H1=>∃c,x=.bl c/\if c=ac then Q (.bl ac) H1 else f σ H1 Q
abbrev Lc(d:TE):TE:=λσ H Q=>d σ H λx H1=>∃c,x=.bl c/\Q (.bl (!c)) H1
def Ld{op}{t:TE}(h:PE X a t):PE X (.BoolOp op [a] pos) t:=λpins s σ H Q I c=>BoolOp_one (h pins s σ H Q I c)
variable{ta tb:TE}
def Le{bF:LEx}(g:PE X a ta)(j:PE X (.BoolOp .And (b::bF) pos) tb):PE X (.BoolOp .And (a::b::bF) pos) (La ta tb):=by
 intro pins s σ H Q I h;refine BoolOp_and (thn (g pins s σ H _ I h) λv s1 k=>?_);obtain⟨x,H1,f,l,d⟩:=k;obtain⟨c,rfl,d⟩:=d;subst l;refine nL ?_
 cases c with
 |true=>exact j pins s1 σ H1 Q f d
 |false=>exact⟨.bl ai,H1,f,rfl,d⟩
def Lf{bF:LEx}(g:PE X a ta)(j:PE X (.BoolOp .Or (b::bF) pos) tb):PE X (.BoolOp .Or (a::b::bF) pos) (Lb ta tb):=by
 intro pins s σ H Q I h;refine BoolOp_or (thn (g pins s σ H _ I h) λv s1 k=>?_);obtain⟨x,H1,f,l,d⟩:=k;obtain⟨c,rfl,d⟩:=d;subst l;refine nL ?_
 cases c with
 |false=>exact j pins s1 σ H1 Q f d
 |true=>exact⟨.bl ac,H1,f,rfl,d⟩
def Lg(g:PE X a ta):PE X (.UnaryOp .Not a pos) (Lc ta):=by
 intro pins s σ H Q I h;refine UnaryOp_ (thn (g pins s σ H _ I h) λv s1 j=>?_);obtain⟨x,H1,f,k,d⟩:=j;obtain⟨c,rfl,d⟩:=d;subst k;exact not_of (nL ⟨.bl (!c),H1,f,rfl,d⟩)
abbrev tIf(t:TT)(ta tb:TE):TE:=λσ H Q=>t σ H λc H1=>if c=ac then ta σ H1 Q else tb σ H1 Q
variable{c:Expr}
def zV(l:PT X c tA)(j:PE X a ta)(k:PE X b tb):PE X (.IfExp c a b pos) (tIf tA ta tb):=by
 intro pins s σ H Q I h;refine wpAny_IfExp (thn (l pins s σ H _ I h) λd s1 m=>?_);obtain⟨H1,f,g⟩:=m
 cases d with
 |true=>exact j pins s1 σ H1 Q f g
 |false=>exact k pins s1 σ H1 Q f g
abbrev SqL(K:bo)(H:Hp)(a:Addr)(xs:List V):Prop:=
 Rd H a (.lst xs) \/
  ∃(o:Obj) (its:Array Value) (n:Nat),K.lookup a=aa o/\o.cls=.type "list" /\ o.dict=ae/\o.data=.seq its n/\its.size<=bx/\aW xs its.toList
abbrev SqT(K:bo)(H:Hp)(a:Addr)(xs:List V):Prop:=
 Rd H a (.tup xs) \/
  ∃(o:Obj) (its:Array Value) (n:Nat),K.lookup a=aa o/\o.cls=.type "tuple" /\ o.data=.seq its n/\its.size<=bx/\aW xs its.toList
abbrev Lh:Value->Option V
 |.none=>aa .non
 |.bool b=>aa (.bl b)
 |.int i _=>aa (.int i)
 |.str x _=>aa (.str x)
 |.bytes b _=>aa (.byt b)
 |.float b _=>aa (.flt b)
 |.ref a=>aa (.ref a)
 |.type n=>aa (.ty n)
 | _=>ae
def bh.abs{x:V}(r:bh x u):Lh u=aa x:=by
 cases x with
 |non=>subst r;rfl
 |bl _=>subst r;rfl
 |int _=>obtain⟨t,rfl⟩:=r;rfl
 |str _=>obtain⟨t,rfl⟩:=r;rfl
 |byt _=>obtain⟨t,rfl⟩:=r;rfl
 |flt _=>obtain⟨t,rfl⟩:=r;rfl
 |ref _=>subst r;rfl
 |ty _=>subst r;rfl
variable{y:V}
def bh.inj{x:V}(r:bh x u)(q:bh y u):x=y:=dz (r.abs.symm.trans q.abs)
def aW.inj:∀{xs d:List V} {us:LVa},aW xs us->aW d us->xs=d
 | _,_,_,.nil,.nil=>rfl
 | _,_,_,.cons r t,.cons r' t'=>by rw[r.inj r',aW.inj t t']
variable{a:Addr}{K:bo}
def SqL.of(h:H a=aa (.lst xs)):SqL K H a xs:=.inl (.inl h)
def SqT.of(h:H a=aa (.tup xs)):SqT K H a xs:=.inl (.inl h)
def Inv.list{s:ax}(I:Inv X pins σ H s)(h:SqL X.K H a xs):∃its:LVa,aW xs its/\PlainL s.heap a its.toArray/\xs.length<=bx:=by
 rcases h with h |⟨o,its,n,hk,hc,hd,hs,hz,r⟩
 .obtain⟨z,its,n,r,e⟩:=h.ok I.hok;exact⟨its,r,⟨_,n,e,rfl,rfl,rfl⟩,z⟩
 .refine⟨its.toList,r,⟨o,n,I.kIn a o hk,hc,hd,by simpa using hs⟩,?_⟩;have e:=r.length;simp only[zx]at e;lia
def Inv.tuple{s:ax}(I:Inv X pins σ H s)(h:SqT X.K H a xs):∃its:LVa,aW xs its/\IsTup s.heap a its.toArray/\xs.length<=bx:=by
 rcases h with h |⟨o,its,n,hk,hc,hs,hz,r⟩
 .obtain⟨z,its,r,p⟩:=h.ok I.hok;exact⟨its,r,p,z⟩
 .refine⟨its.toList,r,⟨o,I.kIn a o hk,hc,n,by simpa using hs⟩,?_⟩;have e:=r.length;simp only[zx]at e;lia
variable{ys:List V}
def Inv.list_inj{s:ax}(I:Inv X pins σ H s)(h:SqL X.K H a xs)(h':SqL X.K H a ys):xs=ys:=by
 obtain⟨its,r,⟨o,n,e,_,_,d⟩,_⟩:=I.list h;obtain⟨f,j,⟨o',k,g,_,_,d'⟩,_⟩:=I.list h';rw[e]at g;cases g;rw[d]at d'
 injection d' with d1 _
 have:its=f:=by simpa using congrArg Array.toList d1
 subst this;exact r.inj j
def Inv.tuple_inj{s:ax}(I:Inv X pins σ H s)(h:SqT X.K H a xs)(h':SqT X.K H a ys):xs=ys:=by
 obtain⟨its,r,⟨o,e,_,n,d⟩,_⟩:=I.tuple h;obtain⟨f,j,⟨o',g,_,k,d'⟩,_⟩:=I.tuple h';rw[e]at g;cases g;rw[d]at d'
 injection d' with d1 _
 have:its=f:=by simpa using congrArg Array.toList d1
 subst this;exact r.inj j
@[reducible]noncomputable def Cx.wish(X:Cx)(E:PRS):Cx:={X with xe:=E}
@[reducible]noncomputable def Cx.nox(X:Cx):Cx:=X.wish λ_ _=>False
def Cx.Ok.wish(ok:X.Ok)(E:PRS):(X.wish E).Ok:=
 ⟨ok.mod,ok.kind,ok.glob,ok.blt,ok.above,ok.inj,ok.has,ok.cab,ok.hd,ok.frames,ok.stk,ok.exf,ok.bs,ok.bsz,ok.noex,ok.exfs,ok.funs,ok.frf⟩
def Cx.Ok.unwish(ok:(X.wish E).Ok):X.Ok:=
 ⟨ok.mod,ok.kind,ok.glob,ok.blt,ok.above,ok.inj,ok.has,ok.cab,ok.hd,ok.frames,ok.stk,ok.exf,ok.bs,ok.bsz,ok.noex,ok.exfs,ok.funs,ok.frf⟩
def Inv.wish{s:ax}(I:Inv X pins σ H s)(E:PRS):Inv (X.wish E) pins σ H s:=⟨I.ok.wish E,I.os,I.bare,I.base,I.loc,I.cell,I.free,I.freeC,I.pin,I.hok,I.len⟩
def Inv.unwish{s:ax}(I:Inv (X.wish E) pins σ H s):Inv X pins σ H s:=⟨I.ok.unwish,I.os,I.bare,I.base,I.loc,I.cell,I.free,I.freeC,I.pin,I.hok,I.len⟩
def SP.unwish{D:jL}{f:Flow}(h:SP (X.wish E) pins D f s'):SP X pins D f s':=by
 cases f with
 |next=>obtain⟨σ',H',I,q⟩:=h;exact⟨σ',H',I.unwish,q⟩
 |brk=>obtain⟨σ',H',I,q⟩:=h;exact⟨σ',H',I.unwish,q⟩
 |cont=>obtain⟨σ',H',I,q⟩:=h;exact⟨σ',H',I.unwish,q⟩
 |ret u=>obtain⟨v,σ',H',I,r,q⟩:=h;exact⟨v,σ',H',I.unwish,r,q⟩
variable{t:TS}
def PSs.nox{st:List Stmt}(h:PSs X.nox st t):PSs X st t:=λpins s σ H D I d=>
 fB (h pins s σ H D (I.wish _) d) (λ_ _ q=>q.unwish) λ_ _ z=>iL z
abbrev Li:TS:=λD σ H=>D.nx σ H
abbrev Lj(t u:TS):TS:=λD σ H=>t {D with nx:=u D} σ H
def E8:PSs X [] Li:=λ_ _ σ H _ I h=>ql ⟨σ,H,I,h⟩
variable{st:Stmt}{u:TS}
def v6{bF:List Stmt}(h1:PS X st t)(g:PSs X bF u):PSs X (st::bF) (Lj t u):=by
 intro pins s σ H D I h
 refine sK (thn (h1 pins s σ H {D with nx:=u D} I h) λf s1 q=>?_)
 cases f with
 |next=>
  obtain⟨σ',H',d,q⟩:=q
  exact g pins s1 σ' H' D d q
 |ret v=>exact q
 |brk=>exact q
 |cont=>exact q
def zW(h1:PS X st t):PSs X [st] t:=by
 intro pins s σ H D I h;refine sK (thn (h1 pins s σ H D I h) λf s1 q=>?_)
 cases f with
 |next=>exact ql q
 |ret v=>exact q
 |brk=>exact q
 |cont=>exact q
def Inv.quiet{s:ax}(I:Inv X pins σ H s):interactive X.env=ai:=by simp[interactive,I.ok.kind]
abbrev sU(te:TE):TS:=λD σ H=>te σ H λ_ H1=>D.nx σ H1
variable{te:TE}
def dR(f:PE X e te)(g:eZ e ae pos.line X.env=pure ai:=by rfl):PS X (.Expr e pos) (sU te):=by
 intro pins s σ H D I h;exact wpAny_Expr_any (thn (f pins s σ H _ I h) λv s1 ⟨x,H1,d,k,j⟩=>⟨σ,H1,d,j⟩) I.quiet g
abbrev Lk(te:TE):TS:=λD σ H=>te σ H D.rt
def qt(f:PE X e te):PS X (.Return (aa e) pos) (Lk te):=by
 intro pins s σ H D I h;exact wpAny_Return_some (thn (f pins s σ H _ I h) λv s1 ⟨x,H1,d,j,g⟩=>⟨x,σ,H1,d,j,g⟩)
abbrev Ll(c:TT)(t u:TS):TS:=λD σ H=>c σ H λb H1=>if b=ac then t D σ H1 else u D σ H1
variable{tc:TT}
def zX{a b:List Stmt}(l:PT X c tc)(j:PSs X a t)(k:PSs X b u):PS X (.If c a b pos) (Ll tc t u):=by
 intro pins s σ H D I h;refine wpAny_If (thn (l pins s σ H _ I h) λd s1 m=>?_);obtain⟨H1,f,g⟩:=m
 cases d with
 |true=>exact j pins s1 σ H1 D f g
 |false=>exact k pins s1 σ H1 D f g
@[reducible]noncomputable def TG:=V->St->Hp->(St->Hp->Prop)->Prop
@[reducible]noncomputable def TGs:=List V->St->Hp->(St->Hp->Prop)->Prop
abbrev PG(X:Cx)(d:Expr)(t:TG):Prop:=
 ∀(pins:PNS) (s:ax) (σ:St) (H:Hp) (v:V) (u:Value) (Q:St->Hp->Prop),Inv X pins σ H s->bh v u->t v σ H Q ->
  wpAny (model X.prog X.w) X.A (assign d X.env u) (λ_ s'=>∃σ' H',Inv X pins σ' H' s'/\Q σ' H') X.xe s
abbrev PGs(X:Cx)(d:LEx)(t:TGs):Prop:=
 ∀(pins:PNS) (s:ax) (σ:St) (H:Hp) (vs:List V) (us:LVa) (Q:St->Hp->Prop),Inv X pins σ H s->aW vs us->t vs σ H Q ->
  wpAny (model X.prog X.w) X.A (assignInOrder ((jf d X.env).map (·.2)) us) (λ_ s'=>∃σ' H',Inv X pins σ' H' s'/\Q σ' H') X.xe s
@[reducible]noncomputable def zY:=V->V->V->Hp->(Hp->Prop)->Prop
abbrev E9(X:Cx)(t:zY):Prop:=
 ∀(pins:PNS) (s:ax) (σ:St) (H:Hp) (o i v:V) (ov d u:Value) (Q:Hp->Prop),Inv X pins σ H s->bh o ov->bh i d->bh v u->t o i v H Q ->
  wpAny (model X.prog X.w) X.A (setItem ov d u) (λ_ s'=>∃H',Inv X pins σ H' s'/\Q H') X.xe s
@[reducible]noncomputable def TIp:=V->V->Hp->VK->Prop
abbrev PIp(X:Cx)(d:Operator)(t:TIp):Prop:=
 ∀(pins:PNS) (s:ax) (σ:St) (H:Hp) (x y:V) (v u:Value) (Q:VK),Inv X pins σ H s->bh x v->bh y u->t x y H Q ->
  wpAny (model X.prog X.w) X.A (inplaceOp d v u) (EP X pins σ Q) X.xe s
abbrev nX(i:Nat):TG:=λv σ H Q=>Q (σ.set i (aa v)) H
def Fa(f:X.N.Nodup)(hi:X.N[i]?=aa x)(j:Loc X.env.scope x)(g:LcF X x:=by first |exact .inl rfl |exact .inr rfl |assumption):PG X (.Name x pos) (nX i):=by
 intro pins s σ H v u Q I r h;exact wpAny_assign_Name (sS I f hi j r (λs' d=>⟨_,H,d,h⟩) g)
abbrev Lm:TGs:=λvs σ H Q=>vs=[]/\Q σ H
abbrev Ln(t:TG)(u:TGs):TGs:=λvs σ H Q=>∃v r,vs=v::r/\t v σ H λσ' H'=>u r σ' H' Q
def Lo:PGs X [] Lm:=by
 intro pins s σ H vs us Q I r h;obtain⟨e,h⟩:=h;exact assignInOrder_nil ⟨σ,H,I,h⟩
variable{es:LEx}
def Lp{t:TG}{u:TGs}(h1:PG X e t)(j:PGs X es u)
 (k:(jf (e::es) X.env).map (·.2)=assign e X.env::(jf es X.env).map (·.2):=by rfl):PGs X (e::es) (Ln t u):=by
 intro pins s σ H vs us Q I r h;obtain⟨v,vr,g,h⟩:=h;subst g
 cases r with
 |cons r m=>
  rw[k];exact assignInOrder_cons (thn (h1 pins s σ H _ _ _ I r h) λ_ s1 ⟨d,H1,f,l⟩=>(j pins s1 d H1 _ _ Q f m l))
abbrev Lq(K:bo)(n:Nat)(t:TGs):TG:=λv σ H Q=>∃a xs,v=.ref a/\SqT K H a xs/\xs.length=n/\t xs σ H Q
def Lr{k:Nat}{t:TGs}{n:Nat}(l:X.calm=ac)(h:PGs X es t)
 (p:(jf es X.env).length=n:=by rfl)(d:(jf es X.env).findIdx? (·.1)=ae:=by rfl):PG X (.Tuple es k pos) (Lq X.K n t):=by
 intro pins s σ H v u Q I r f;obtain⟨a,xs,j,q,m,f⟩:=f;subst j;subst r;obtain⟨its,g,z,C⟩:=I.tuple q;refine assign_Tuple_tuple (I.ok.hd l) z (by simp[p,<- m,g.length]) d λh' B=>?_;exact h pins _ σ H xs _ Q (I.kept λb o e=>B b o (eY (cX e)) e) (by simpa using g) f
abbrev zZ(to g:TE)(t:zY):TG:=λv σ H Q=>to σ H λo H1=>g σ H1 λi d=>t o i v d λf=>Q σ f
def Fb{o i:Expr}{to g:TE}{t:zY}(p:PE X o to)(hi:PE X i g)(q:E9 X t)
 (L:∀ v,assign (.Subscript o i pos) X.env v=(do
   let ov <- fP [v] (eval o X.env)
   let d <- fP [v,ov] (eval i X.env)
   ij pos
   fP [v,ov,d] (setItem ov d v)
   release [v,ov,d] []):=by intro _;rfl):PG X (.Subscript o i pos) (zZ to g t):=by
 intro pins s σ H v u Q I r h;refine bK (nM (thn (p pins s σ H _ I h) λov s1 f=>?_));obtain⟨x,H1,l,G,z⟩:=f;refine bK (nM (thn (hi pins s1 σ H1 _ l z) λd s2 f=>?_));obtain⟨y,j,m,J,B⟩:=f;exact bK (wpAny_standAt (bK (nM (thn (q pins s2 σ j x y v ov d u _ m G J r B) λ_ O ⟨k,n,C⟩=>(wpAny_release ⟨σ,k,n,C⟩)))))
abbrev nY(te:TE)(g:TG):TS:=λD σ H=>te σ H λx H1=>g x σ H1 D.nx
variable{tg:Expr}{g:TG}
def Fc(f:PE X e te)(j:PG X tg g)(k:swapsWithSole [tg] e pos.line X.env=pure ai:=by rfl)(l:swappedStores [tg] e X.env=pure ae:=by rfl)
 (h1:(jf [tg] X.env).map (·.2)=[assign tg X.env]:=by rfl):PS X (.Assign [tg] e pos) (nY te g):=by
 intro pins s σ H D I h;refine wpAny_Assign_stores (thn (f pins s σ H _ I h) λv s1 n=>?_) k l;obtain⟨x,H1,d,p,m⟩:=n;rw[h1];exact thn (j pins s1 σ H1 x v _ d p m) λ_ s2 q=>q
variable{ey:Pos}
def mx(j:X.N.Nodup)(hi:X.N[i]?=aa x)(n:Loc X.env.scope x)(k:PE X e te)(m:eZ e (aa (.Name x ey)) pos.line X.env=pure ai:=by rfl)(l:LcF X x:=by first |exact .inl rfl |exact .inr rfl |assumption):
  PS X (.Assign [.Name x ey] e pos) (nY te (nX i)):=by
 intro pins s σ H D I h;exact wpAny_Assign_Name (thn (k pins s σ H _ I h) λv s1 ⟨y,H1,d,q,p⟩=>(sS d j hi n q (λs2 f=>⟨_,H1,f,p⟩) l)) m
abbrev Lu(i:Nat)(te:TE)(f:TIp):TS:=λD σ H=>∃x,σ[i]?=aa (aa x)/\te σ H λy H1=>f x y H1 λz d=>D.nx (σ.set i (aa z)) d
variable{op:Operator}
def Fd{B:TIp}(T:X.N.Nodup)(hi:X.N[i]?=aa x)(p:Loc X.env.scope x)(Y:PE X e te)(ho:PIp X op B)(hf:LcF X x:=by first |exact .inl rfl |exact .inr rfl |assumption):
  PS X (.AugAssign (.Name x ey) op e pos) (Lu i te B):=by
 intro pins s σ H D I h;obtain⟨v,O,h⟩:=h;obtain⟨m,hn,hl⟩:=I.loc
 have q:Vis X.env.scope x:=by rcases p with k |k;exact .inl k;exact .inr (.inl k)
 obtain⟨u,r,l⟩:=hl i x v hi O q;refine wpAny_AugAssign_Name ?_
 have go:wpAny (model X.prog X.w) X.A (eval e X.env) (λw j=>wpAny (model X.prog X.w) X.A (inplaceOp op u w) (λr n=>wpAny (model X.prog X.w) X.A (storeName X.env x r) (λ_=>SP X pins D .next) X.xe n) X.xe j) X.xe s:=by
  refine thn (Y pins s σ H _ I h) λw s1 q_=>?_;obtain⟨y,H1,G,r1,q1⟩:=q_;exact thn (ho pins s1 σ H1 v y u w _ G r r1 q1) λz s2 ⟨zv,C,J,r2,q2⟩=>(sS J T hi p r2 (λs3 L=>⟨_,C,L,q2⟩) hf)
 rcases l with⟨d,hm⟩ |⟨d,c,U,f⟩
 .exact sJ I.ok.kind d hn hm go
 .rcases d with d |d
  .exact wpAny_loadName_cell I.ok.kind d U f go
  .rcases p with k |k
   .have:X.env.scope.names.lookup x=aa .free:=d;rw[k]at this;nomatch this
   .have:X.env.scope.names.lookup x=aa .free:=d;rw[k]at this;nomatch this
abbrev ipI(f:Int->Int->Int):TIp:=λx y H Q=>∃i j,x=.int i/\y=.int j/\Q (.int (f i j)) H
def Lv:PIp X .Add (ipI λi j=>i+j):=by
 intro pins s σ H x y v u Q I k l h;obtain⟨i,j,d,f,q⟩:=h;subst d;subst f;obtain⟨t,rfl⟩:=k;obtain⟨t',rfl⟩:=l;exact iadd_int ⟨.int _,H,I.tok _,⟨_,rfl⟩,q⟩
abbrev Lw(c:TT)(tb:TS):TS:=λD σ H=>∃W:Nat->St->Hp->Prop,(∃m,W m σ H)/\∀m σ H,W m σ H ->
 c σ H λb H1=>if b=ac then ∃N:St->Hp->Prop,(∀σ' H',N σ' H'->∃d,d<m/\W d σ' H')/\tb {D with nx:=N,ct:=N,bk:=D.nx} σ H1 else D.nx σ H1
variable{body:List Stmt}
def Fe{tb:TS}(O:nP (model X.prog X.w) X.A X.env X.xe)(Y:PT X c tc)(U:PSs X body tb):PS X (.While c body [] pos) (Lw tc tb):=by
 intro pins s σ H D I h;obtain⟨W,⟨m0,w0⟩,l⟩:=h;refine wpAny_While (codeAny_whileLoop (λn s'=>∃σ' H',Inv X pins σ' H' s'/\W n σ' H') ?_ m0 ⟨σ,H,I,w0⟩);rintro n s1 ⟨j,H1,T,w1⟩;refine lD O (thn (Y pins s1 j H1 _ T (l n j H1 w1)) λb s2 q_=>?_);obtain⟨G,J,m⟩:=q_
 cases b with
 |true=>
  obtain⟨N,L,m⟩:=m;refine lD O (thn (U pins s2 j G _ J m) λf s3 p=>?_)
  cases f with
  |next=>
   obtain⟨d,k,q,B⟩:=p;obtain⟨z,r,C⟩:=L d k B
   exact⟨z,r,d,k,q,C⟩
  |cont=>
   obtain⟨d,k,q,B⟩:=p;obtain⟨z,r,C⟩:=L d k B
   exact⟨z,r,d,k,q,C⟩
  |brk=>exact p
  |ret v=>exact p
 |false=>
  exact ql ⟨j,G,J,m⟩
structure It where
 go:Nat->Hp->Prop
 yld:Nat->Hp->V->Hp->Prop
 stop:Nat->Hp->Prop
abbrev gf(X:Cx)(pins:PNS)(H:Hp)(b:Addr):Prop:=
 H b=ae/\b≠X.env.locals/\b∉X.fs/\(b∈X.ex\/X.s₀.heap.objs.size<=b)/\(∀x c,X.env.cells.lookup x=aa c->c≠b)/\∀p∈X.pn++pins,p.1≠b
def Inv.fpOk{s:ax}{b:Addr}(I:Inv X pins σ H s)(d:s.heap.objs.size<=b)(f:H' b=ae):gf X pins H' b:=by
 refine⟨f,vM (fO I.lt d),I.nofs d,.inr (ig I.sz d),λx c e z=>?_,λp j z=>(absurd (fO (cX (I.pin p j).1) (by rw[z];exact d)) (lC _))⟩;obtain⟨v,q⟩:=I.cell x c e;exact absurd (fO q.lt (by rw[z];exact d)) (lC _)
structure lF(P:eC)(w:World)(K:bo)(tg:Expr)(J:It)(fp:LAd)(it:Addr)(tn:Nat->Heap->Prop):Prop where
 mem:it∈fp
 obj:∀i h,tn i h->∀b∈fp,∃o,h.get? b=aa o/\∀v,o.data≠.cell v
 keep:∀i h h',tn i h->(∀b∈fp,∀o,h.get? b=aa o->h'.get? b=aa o)->tn i h'
 item:∀(X:Cx),X.prog=P->X.w=w->X.K=K->X.calm=ac->∀(i:Nat) (pins:PNS) (s:ax) (σ:St) (H:Hp) (E:PRS),Inv X pins σ H s->(∀b∈fp,gf X pins H b)->tn i s.heap->J.go i H ->
  wpAny (model P w) X.A (pyNext (.ref it)) (λr s1=>∃ u,r=aa u /\
   wpAny (model P w) X.A (letOwnedTupleGo tg (.ref it) u) (λ_ s2=>∃x H',Inv X pins σ H' s2/\bh x u/\J.yld i H x H'/\tn (i+1) s2.heap/\∀b∈fp,H' b=ae) E s1) E s
 done:∀(X:Cx),X.prog=P->X.w=w->X.K=K->X.calm=ac->∀(i:Nat) (pins:PNS) (s:ax) (σ:St) (H:Hp) (E:PRS),Inv X pins σ H s->(∀b∈fp,gf X pins H b)->tn i s.heap->J.stop i H ->
  wpAny (model P w) X.A (pyNext (.ref it)) (λr s1=>r=ae/\Inv X pins σ H s1) E s
 self:∀(A:dL) (i:Nat) (s:ax) (Q:PRS) (E:PRS),tn i s.heap->Q (.ref it) s->wpAny (model P w) A (pyIter (.ref it)) Q E s
@[reducible]noncomputable def TI:=St->Hp->(It->Hp->Prop)->Prop
abbrev PIE(X:Cx)(pins:PNS)(σ:St)(tg:Expr)(R:It->Hp->Prop)(d:Value)(s2:ax):Prop:=
 ∃(it:Addr) (fp:LAd) (tn:Nat->Heap->Prop) (J:It) (H':Hp),d=.ref it/\Inv X pins σ H' s2/\lF X.prog X.w X.K tg J fp it tn/\tn 0 s2.heap/\(∀b∈fp,gf X pins H' b)/\R J H'
abbrev PI(X:Cx)(tg iter:Expr)(d:TI):Prop:=
 ∀(pins:PNS) (s:ax) (σ:St) (H:Hp) (R:It->Hp->Prop),Inv X pins σ H s->d σ H R ->
  wpAny (model X.prog X.w) X.A (eval iter X.env) (λv s1=>wpAny (model X.prog X.w) X.A (pyIter v) (PIE X pins σ tg R) X.xe s1) X.xe s
def sV{s:ax}{u:Value}{n:String}{vs:Array Value}(k:s.heap.get? it = aa o)(f:o.cls = .type n)(hd:o.data = .fields vs)
   (j:["enumerate", "zip", "dict_itemiterator", "dict_reverseitemiterator", "odict_iterator", "itertools.zip_longest", "itertools.pairwise"].contains n = ai)(d:Q () s):wpAny M A (letOwnedTupleGo tg (.ref it) u) Q E s:= by
  cases tg <;> first
    |exact eH d
    | (cases u <;> first
        |exact eH d
        | (refine bK (wpAny_load k ?_)
           rw[f, hd];show wpAny M A (if _ = ac then _ else _) Q E s;rw[if_neg (by intro h;rw[j, sC]at h;nomatch h)];exact eH d))
abbrev Itl(K:bo)(a:Addr):It:=
 ⟨λi H=>∃xs x,SqL K H a xs/\xs[i]?=aa x,λi H x H'=>H'=H/\∀xs,SqL K H a xs->xs[i]?=aa x,λi H=>∃xs,SqL K H a xs/\xs.length<=i⟩
abbrev Itt(K:bo)(a:Addr):It:=
 ⟨λi H=>∃xs x,SqT K H a xs/\xs[i]?=aa x,λi H x H'=>H'=H/\∀xs,SqT K H a xs->xs[i]?=aa x,λi H=>∃xs,SqT K H a xs/\xs.length<=i⟩
abbrev Itr(lo:Int)(n:Nat):It:=⟨λi _=>i<n,λi H x H'=>H'=H/\x=.int (lo+i),λi _=>n<=i⟩
def Lx{w:World}(a it:Addr):lF P w K tg (Itl K a) [it] it (λi h=>h.IsListIter it a i) where
 mem:=by simp
 obj:=λi h st b hb=>by
  have e:b=it:=by simpa using hb
  subst e;obtain⟨o,e,c,d⟩:=st;exact⟨o,e,λv z=>by rw[d]at z;nomatch z⟩
 keep:=λi h h' st k=>st.at λo e=>k it (by simp) o e
 item:=by
  intro X hP hw hK hc i pins s σ H E I hf st hg;subst hP hw hK;obtain⟨xs,x,hq,hx⟩:=hg;obtain⟨its,rv,p,hz⟩:=I.list hq;obtain⟨u,hu,ru⟩:=rv.get hx;obtain⟨f0,f1,f2,f3,f4,f5⟩:=hf it (by simp);refine wpAny_pyNext_list_item st p.isList (by simpa using hu) λh' oo sb=>?_;obtain⟨o,e,c,d⟩:=id oo;exact⟨u,rfl,sV e c d (by decide) ⟨x,H,(I.turned (λb o hb e=>(sb.2 b hb).trans e) f0 f1 f3 f4 f5),ru,⟨rfl,λys hy=>by rw[I.list_inj hy hq];exact hx⟩,oo,λb hb=>(hf b hb).1⟩⟩
 done:=by
  intro X hP hw hK hc i pins s σ H E I hf st hg;subst hP hw hK;obtain⟨xs,hq,hx⟩:=hg;obtain⟨its,rv,p,hz⟩:=I.list hq;obtain⟨f0,f1,f2,f3,f4,f5⟩:=hf it (by simp);have hl:=rv.length;exact wpAny_pyNext_list_end (I.ok.hd hc) st p.isList (by simp;lia) λh' eb=>⟨rfl,I.turned (λb o hb e=>eb b o hb e) f0 f1 f3 f4 f5⟩
 self:=λ_ _ _ _ _ st h=>wpAny_pyIter_listiter st h
def Ly{w:World}(a it:Addr):lF P w K tg (Itt K a) [it] it (λi h=>h.IsTupleIter it a i) where
 mem:=by simp
 obj:=λi h st b hb=>by
  have e:b=it:=by simpa using hb
  subst e;obtain⟨o,e,c,d⟩:=st;exact⟨o,e,λv z=>by rw[d]at z;nomatch z⟩
 keep:=λi h h' st k=>st.at λo e=>k it (by simp) o e
 item:=by
  intro X hP hw hK hc i pins s σ H E I hf st hg;subst hP hw hK;obtain⟨xs,x,hq,hx⟩:=hg;obtain⟨its,rv,p,hz⟩:=I.tuple hq;obtain⟨u,hu,ru⟩:=rv.get hx;obtain⟨f0,f1,f2,f3,f4,f5⟩:=hf it (by simp);refine wpAny_pyNext_tuple_item st (p) (by simpa using hu) λh' oo sb=>?_;obtain⟨o,e,c,d⟩:=id oo;exact⟨u,rfl,sV e c d (by decide) ⟨x,H,(I.turned (λb o hb e=>(sb.2 b hb).trans e) f0 f1 f3 f4 f5),ru,⟨rfl,λys hy=>by rw[I.tuple_inj hy hq];exact hx⟩,oo,λb hb=>(hf b hb).1⟩⟩
 done:=by
  intro X hP hw hK hc i pins s σ H E I hf st hg;subst hP hw hK;obtain⟨xs,hq,hx⟩:=hg;obtain⟨its,rv,p,hz⟩:=I.tuple hq;obtain⟨f0,f1,f2,f3,f4,f5⟩:=hf it (by simp);have hl:=rv.length;exact wpAny_pyNext_tuple_end (I.ok.hd hc) st (p) (by simp;lia) λh' eb=>⟨rfl,I.turned (λb o hb e=>eb b o hb e) f0 f1 f3 f4 f5⟩
 self:=λ_ _ _ _ _ st h=>wpAny_pyIter_tupleiter st h
def Lz{w:World}(it:Addr)(lo:Int)(n:Nat):lF P w K tg (Itr lo n) [it] it (λi h=>IsRangeIter h it (lo+(i:Nat)*1) ((n:Int)-(i:Nat)) 1) where
 mem:=by simp
 obj:=λi h st b hb=>by
  have e:b=it:=by simpa using hb
  subst e
  exact⟨_,st,λv z=>by
   nomatch z⟩
 keep:=λi h h' st k=>k it (by simp) _ st
 item:=by
  intro X hP hw hK hc i pins s σ H E I hf st hg;subst hP hw hK;obtain⟨f0,f1,f2,f3,f4,f5⟩:=hf it (by simp);refine(Walks.range (I.ok.hd hc) it lo 1 n).item i s _ _ hg st λv h' tk hv oo kk=>?_;obtain⟨t,rfl⟩:=hv
  have I1:Inv X pins σ H {s with heap:=h',toks:=tk}:=I.turned (λb o hb e=>kk b o (by simpa using hb) e) f0 f1 f3 f4 f5
  refine⟨_,rfl,sV oo rfl rfl (by decide) ⟨.int _,H,I1,⟨t,?_⟩,⟨rfl,rfl⟩,oo,λb hb=>(hf b hb).1⟩⟩;rw[Int.mul_one]
 done:=by
  intro X hP hw hK hc i pins s σ H E I hf st hg;obtain⟨f0,f1,f2,f3,f4,f5⟩:=hf it (by simp);exact wpAny_pyNext_range_end (I.ok.hd hc) st (by have:n<=i:=hg;lia) λh' eb=>⟨rfl,I.turned (λb o hb e=>eb b o hb e) f0 f1 f3 f4 f5⟩
 self:=λ_ _ _ _ _ st h=>wpAny_pyIter_rangeiter st h
abbrev LA(K:bo)(tl:TE):TI:=λσ H R=>tl σ H λx H1=>∃a,x=.ref a/\(∃xs,SqL K H1 a xs)/\R (Itl K a) H1
abbrev LB(K:bo)(tl:TE):TI:=λσ H R=>tl σ H λx H1=>∃a,x=.ref a/\(∃xs,SqT K H1 a xs)/\R (Itt K a) H1
variable{l:Expr}
def LC{tl:TE}(j:PE X l tl):PI X tg l (LA X.K tl):=by
 intro pins s σ H R I h;refine thn (j pins s σ H _ I h) λv s1 n=>?_;obtain⟨x,H1,d,r,m⟩:=n;obtain⟨a,e,⟨xs,k⟩,q⟩:=m;subst e;subst r;obtain⟨its,B,p,z⟩:=d.list k;refine wpAny_pyIter_list p.isList ?_;refine⟨s1.heap.objs.size,_,_,_,H1,rfl,d.kept λb o e=>gc _ e,Lx a _,⟨_,iQ _ rfl,rfl,rfl⟩,λb f=>?_,q⟩;have e:b=s1.heap.objs.size:=by simpa using f
 subst e;exact d.fpOk (bN _) (d.hok.fresh (bN _))
def LF{tl:TE}(j:PE X l tl):PI X tg l (LB X.K tl):=by
 intro pins s σ H R I h;refine thn (j pins s σ H _ I h) λv s1 n=>?_;obtain⟨x,H1,d,r,m⟩:=n;obtain⟨a,e,⟨xs,k⟩,q⟩:=m;subst e;subst r;obtain⟨its,B,p,z⟩:=d.tuple k;refine wpAny_pyIter_tuple (p) ?_;refine⟨s1.heap.objs.size,_,_,_,H1,rfl,d.kept λb o e=>gc _ e,Ly a _,⟨_,iQ _ rfl,rfl,rfl⟩,λb f=>?_,q⟩;have e:b=s1.heap.objs.size:=by simpa using f
 subst e;exact d.fpOk (bN _) (d.hok.fresh (bN _))
variable{tk:Nat}
def LG{s:ax}{R:It->Hp->Prop}{lo hi:Int}{t u v:Tok}(I:Inv X pins σ H s)(h1:-(2 ^ 62)<=lo)(k:lo<2 ^ 62)(m:-(2 ^ 62)<=hi)(n:hi<2 ^ 62)
 (q:R (Itr lo (hi-lo).toNat) H):wpAny (model X.prog X.w) X.A (pyIter (.ref s.heap.objs.size)) (PIE X pins σ tg R) E {s with heap:=s.heap.push {cls:=.type "range",data:=.fields #[.int lo t,.int hi u,.int 1 v]},toks:=tk}:=by
 refine wpAny_pyIter_range (IsRange.new ..) (small_one h1 k m n) ?_
 have d:Inv X pins σ H {s with heap:=s.heap.push {cls:=.type "range",data:=.fields #[.int lo t,.int hi u,.int 1 v]},toks:=tk}:=I.kept λb o e=>gc _ e
 refine⟨(s.heap.push {cls:=.type "range",data:=.fields #[.int lo t,.int hi u,.int 1 v]}).objs.size,_,_,_,H,rfl,
  d.kept λb o e=>gc _ e,Lz _ lo (hi-lo).toNat,?_,λb p=>?_,q⟩
 .have f:lo+((0:Nat):Int)*1=lo:=by simp
  have j:(((hi-lo).toNat:Nat):Int)-((0:Nat):Int)=Builtin.Range.rangeSize lo hi 1:=by rw[rangeSize_one];split <;> lia
  rw[f,j];exact iQ _ rfl
 .have e:b=(s.heap.push {cls:=.type "range",data:=.fields #[.int lo t,.int hi u,.int 1 v]}).objs.size:=by simpa using p
  subst e;exact d.fpOk (bN _) (d.hok.fresh (bN _))
abbrev LH(ta:TA):TI:=λσ H R=>ta σ H λvs H1=>∃j:Int,vs=[.int j]/\-(2 ^ 62)<=j/\j<2 ^ 62/\R (Itr 0 j.toNat) H1
variable{a:Expr}
def Ff{ta:TA}{p:Pos}(m:Gl X "range")(n:X.mg "range"=ae)(k:PA X [a] ta)(z:bf [a] X.env=[(ai,eval a X.env)]:=by rfl):PI X tg (.Call (.Name "range" p) [a] [] pos) (LH ta):=by
 intro pins s σ H R I h;refine Call_ (qr I m n boot_range (vQ (thn (k pos pins s σ H _ I h) λus s1 ⟨vs,H1,f,C,d⟩=>?_) z rfl));obtain⟨j,e,d,B,q⟩:=d;subst e
 cases C with
 |cons r G=>
  cases G;obtain⟨t,rfl⟩:=r;exact call_range_1 (LG f (by lia) (by lia) d B (by simpa using q))
abbrev LI(k:TI)(g:TG)(tb:TS):TS:=λD σ H=>k σ H λJ H1=>∃W:Nat->Nat->St->Hp->Prop,(∃m,W 0 m σ H1)/\∀i m σ H,W i m σ H ->
 (J.stop i H/\D.nx σ H)\/(J.go i H/\∃N:St->Hp->Prop,(∀σ' H',N σ' H'->∃f,f<m/\W (i+1) f σ' H')/\∀x H',J.yld i H x H'->g x σ H' λd j=>tb {D with nx:=N,ct:=N,bk:=D.nx} d j)
abbrev v7(fp:LAd)(h:Heap):PNS:=fp.filterMap λb=>(h.get? b).map λo=>(b,o)
variable{fp:LAd}
def sW{b:Addr}(d:b∈fp)(e:h.get? b=aa o):(b,o)∈v7 fp h:=mem_filterMap.mpr ⟨b,d,by rw[e];rfl⟩
def LJ{p:Addr×Obj}(j:p∈v7 fp h):p.1∈fp/\h.get? p.1=aa p.2:=by
 obtain⟨b,f,e⟩:=mem_filterMap.mp j
 cases q:h.get? b with
 |none=>rw[q]at e;nomatch e
 |some o=>
  rw[q]at e;have d:=dz e;subst d;exact⟨f,q⟩
def Inv.pinned{s:ax}(I:Inv X pins σ H s)(q:∀b∈fp,gf X pins H b)(r:∀b∈fp,∃o,s.heap.get? b=aa o/\∀v,o.data≠.cell v):Inv X (pins++v7 fp s.heap) σ H s:=
 I.pins_of λp B=>(dw.mp B).elim (λz=>I.pin p (fM _ z)) λz=>by
  obtain⟨j,e⟩:=LJ z;obtain⟨k,m,n,_⟩:=q p.1 j;obtain⟨o,f,d⟩:=r p.1 j;rw[e]at f;cases f;exact⟨e,k,m,n,d⟩
def Inv.unpinned{f:PNS}{s:ax}(I:Inv X (pins++f) σ H s):Inv X pins σ H s:=I.pins_of λp d=>I.pin p (fM _ (fN _ d))
variable{iter:Expr}{wi:TI}
def LK{tb:TS}(O:nP (model X.prog X.w) X.A X.env X.xe)(hc:X.calm=ac)(hi:PI X tg iter wi)(hg:PG X tg g)(q:PSs X body tb)
 (hs:∀x,iO iter X.env x=pure x:=by intro _;rfl):PS X (.For tg iter body [] pos) (LI wi g tb):=by
 intro pins s σ H D I h;refine wpAny_For (thn (hi pins s σ H _ I h) λv s1 h1=>thn h1 λitv s2 h2=>?_) hs;obtain⟨it,fp,tn,J,H2,e,I2,T,pr,f2,W,⟨m0,w0⟩,turn⟩:=h2;subst e;have z:∀{H':Hp},(∀b∈fp,H' b=ae)->∀b∈fp,gf X pins H' b:=λhn b q=>⟨hn b q,(f2 b q).2⟩;refine codeAny_forLoop_any (λn s'=>∃i σ' H',Inv X pins σ' H' s'/\tn i s'.heap/\(∀b∈fp,H' b=ae)/\W i n σ' H') ?_ m0 ⟨0,σ,H2,I2,pr,λb q=>(f2 b q).1,w0⟩;rintro n s3 ⟨i,B,H3,I3,rc,L,w3⟩
 rcases turn i n B H3 w3 with⟨stop,qn⟩ |⟨go,N,hN,step⟩
 .refine lD O (thn (T.done X rfl rfl rfl hc i pins s3 B H3 X.xe I3 (z L) rc stop) λr s4 ⟨hr,I4⟩=>?_);subst hr;exact ql ⟨B,H3,I4,qn⟩
 .refine lD O (thn (T.item X rfl rfl rfl hc i pins s3 B H3 X.xe I3 (z L) rc go) λr s4 Y=>?_);obtain⟨u,hr,h4⟩:=Y;subst hr;refine lD O (thn h4 λ_ s5 Y=>?_);obtain⟨x,H5,I5,r5,y5,G,fr5⟩:=Y;refine lD O (thn (hg _ s5 B H5 x u _ (I5.pinned (z fr5) (T.obj _ _ G)) r5 (step x H5 y5)) λ_ s6 Y=>?_);obtain⟨σ6,H6,I6,q6⟩:=Y;refine lD O (thn (q _ s6 σ6 H6 _ I6 q6) λf s7 C=>?_)
  have again:∀{j:St} {k:Hp},Inv X _ j k s7->N j k->∃m,m<n/\∃i σ' H',Inv X pins σ' H' s7/\tn i s7.heap/\(∀b∈fp,H' b=ae)/\W i m σ' H':=λ{j k} p U=>by
   obtain⟨m',hm,w7⟩:=hN j k U;refine⟨m',hm,i+1,j,k,p.unpinned,T.keep _ _ _ G λb q o e=>(p.pin _ (fM _ (fM _ (sW q e)))).1,λb q=>?_,w7⟩;obtain⟨o,e,d⟩:=T.obj _ _ G b q;exact(p.pin _ (fM _ (fM _ (sW q e)))).2.1
  cases f with
  |next=>obtain⟨j,k,p,U⟩:=C;exact again p U
  |cont=>obtain⟨j,k,p,U⟩:=C;exact again p U
  |brk=>obtain⟨j,k,p,C⟩:=C;exact⟨j,k,p.unpinned,C⟩
  |ret v=>obtain⟨x7,j,k,p,r7,C⟩:=C;exact⟨x7,j,k,p.unpinned,r7,C⟩
@[reducible]noncomputable def R2:=V->V->Hp->VK->Prop
abbrev OpR(X:Cx)(f:Value->Value->Sem Value)(r:R2):Prop:=
 ∀(pins:PNS) (s:ax) (σ:St) (H:Hp) (x y:V) (v u:Value) (Q:VK),Inv X pins σ H s->bh x v->bh y u->r x y H Q ->
  wpAny (model X.prog X.w) X.A (f v u) (EP X pins σ Q) X.xe s
abbrev UnR(X:Cx)(f:Value->Sem Value)(r:V->Hp->VK->Prop):Prop:=
 ∀(pins:PNS) (s:ax) (σ:St) (H:Hp) (x:V) (v:Value) (Q:VK),Inv X pins σ H s->bh x v->r x H Q ->
  wpAny (model X.prog X.w) X.A (f v) (EP X pins σ Q) X.xe s
abbrev jM(X:Cx)(f:Value)(r:List V->Hp->VK->Prop):Prop:=
 ∀(pins:PNS) (s:ax) (σ:St) (H:Hp) (xs:List V) (us:LVa) (Q:VK),Inv X pins σ H s->aW xs us->r xs H Q ->
  wpAny (model X.prog X.w) X.A (call f us) (EP X pins σ Q) X.xe s
abbrev LL(X:Cx)(r:V->Hp->(Bool->Hp->Prop)->Prop):Prop:=
 ∀(pins:PNS) (s:ax) (σ:St) (H:Hp) (x:V) (v:Value) (Q:Bool->Hp->Prop),Inv X pins σ H s->bh x v->r x H Q ->
  wpAny (model X.prog X.w) X.A (truthy v) (TP X pins σ Q) X.xe s
abbrev tOp(r:R2)(ta tb:TE):TE:=λσ H Q=>ta σ H λx H1=>tb σ H1 λy d=>r x y d Q
abbrev tUn(r:V->Hp->VK->Prop)(ta:TE):TE:=λσ H Q=>ta σ H λx H1=>r x H1 Q
abbrev rI(C:Int->Int->Prop)(g:Int->Int->V):R2:=λx y H Q=>∃i j,x=.int i/\y=.int j/\C i j/\Q (g i j) H
abbrev rI0(g:Int->Int->V):R2:=λx y H Q=>∃i j,x=.int i/\y=.int j/\Q (g i j) H
abbrev rU(g:Int->V):V->Hp->VK->Prop:=λx H Q=>∃i,x=.int i/\Q (g i) H
variable{f:Value->Value->Sem Value}
def v8(p:PE X a ta)(q:PE X b tb){s:ax}{R:V->V->Hp->Prop}(I:Inv X pins σ H s)
 (h:ta σ H λx H1=>tb σ H1 λy d=>R x y d){Q:PRS}
 (r:∀v u s2 x y d,Inv X pins σ d s2->bh x v->bh y u->R x y d->wpAny (model X.prog X.w) X.A (f v u) Q X.xe s2):
  wpAny (model X.prog X.w) X.A (eval a X.env) (λv j=>wpAny (model X.prog X.w) X.A (eval b X.env) (λu k=>wpAny (model X.prog X.w) X.A (f v u) Q X.xe k) X.xe j) X.xe s:=by
 refine thn (p pins s σ H _ I h) λv s1 C=>?_;obtain⟨x,H1,m,G,z⟩:=C;exact thn (q pins s1 σ H1 _ m z) λu s2 ⟨y,d,n,J,B⟩=>(r v u s2 x y d n G J B)
def v9{r:R2}(n:OpR X (gb op) r)(k:PE X a ta)(m:PE X b tb):PE X (.BinOp a op b pos) (tOp r ta tb):=by
 intro pins s σ H Q I h;exact wpAny_BinOp (v8 k m I h λv u s2 x y d j p z q=>n pins s2 σ d x y v u Q j p z q)
def LM{op:UnaryOp}{r:V->Hp->VK->Prop}(k:UnR X (unaryOp op) r)(j:PE X a ta):PE X (.UnaryOp op a pos) (tUn r ta):=by
 intro pins s σ H Q I h;exact UnaryOp_ (thn (j pins s σ H _ I h) λv s1 ⟨x,H1,d,n,m⟩=>k pins s1 σ H1 x v Q d n m)
def opI{C:Int->Int->Prop}{g:Int->Int->Int}
 (rule:∀(i j:Int) (t u:Tok) (s:ax) (Q:PRS) (E:PRS),C i j->Q (.int (g i j) s.toks) {s with toks:=s.toks+1}->wpAny (model X.prog X.w) X.A (f (.int i t) (.int j u)) Q E s):
  OpR X f (rI C λi j=>.int (g i j)):=by
 intro pins s σ H x y v u Q I k m h;obtain⟨i,j,rfl,rfl,d,q⟩:=h;obtain⟨t,rfl⟩:=k;obtain⟨t',rfl⟩:=m;exact rule i j t t' s _ _ d ⟨.int _,H,I.tok _,⟨_,rfl⟩,q⟩
def Fg{g:Int->Int->Int}
 (rule:∀(i j:Int) (t u:Tok) (s:ax) (Q:PRS) (E:PRS),Q (.int (g i j) s.toks) {s with toks:=s.toks+1}->wpAny (model X.prog X.w) X.A (f (.int i t) (.int j u)) Q E s):
  OpR X f (rI0 λi j=>.int (g i j)):=by
 intro pins s σ H x y v u Q I d k h;obtain⟨i,j,rfl,rfl,q⟩:=h;obtain⟨t,rfl⟩:=d;obtain⟨t',rfl⟩:=k;exact rule i j t t' s _ _ ⟨.int _,H,I.tok _,⟨_,rfl⟩,q⟩
def z0{g:Int->Int->Bool}
 (rule:∀(i j:Int) (t u:Tok) (s:ax) (Q:PRS) (E:PRS),Q (.bool (g i j)) s->wpAny (model X.prog X.w) X.A (f (.int i t) (.int j u)) Q E s):
  OpR X f (rI0 λi j=>.bl (g i j)):=by
 intro pins s σ H x y v u Q I d k h;obtain⟨i,j,rfl,rfl,q⟩:=h;obtain⟨t,rfl⟩:=d;obtain⟨t',rfl⟩:=k;exact rule i j t t' s _ _ ⟨.bl _,H,I,rfl,q⟩
abbrev sX(i j:Int):Prop:=0<j/\j<1073741824
abbrev sY(i j:Int):Prop:=0<=j/\j<=1000000/\i.natAbs<2 ^ 64
abbrev sZ(i j:Int):Prop:=(-(2 ^ 64)<i/\i<2 ^ 64)\/(-(2 ^ 64)<j/\j<2 ^ 64)
variable{j:Int}
def sZ.ok{i:Int}(h:sZ i j):IntMulOk i j:=by
 rcases h with⟨h1,d⟩ |⟨h1,d⟩
 .exact .of_left (intBits_le_64 h1 d)
 .exact .of_right (intBits_le_64 h1 d)
def LO:OpR X (gb .Add) (rI0 λi j=>.int (i+j)):=Fg λ_ _ _ _ _ _ _ q=>add_int q
def LP:OpR X (gb .Sub) (rI0 λi j=>.int (i-j)):=Fg λ_ _ _ _ _ _ _ q=>sub_int q
def LQ:OpR X (gb .FloorDiv) (rI sX λi j=>.int (i / j)):=opI λi j _ _ _ _ _ d q=>by
 have h1:=d.1;have k:=d.2;exact floordiv_int (by lia) (by rw[Int.fdiv_eq_ediv_of_nonneg i (by lia)];exact q) (.inl (PyProof.noPylong_small (by lia)))
def LR:OpR X (gb .Mod) (rI (λ_ j=>0<j) λi j=>.int (i % j)):=opI λi j _ _ _ _ _ d q=>by
 exact mod_int' (by lia) (by rw[Int.fmod_eq_emod_of_nonneg i (by lia)];exact q)
def LU:OpR X (gb .Pow) (rI sY λi j=>.int (i ^ j.toNat)):=opI λ_ _ _ _ _ _ _ d q=>pow_int_small d.1 d.2.1 d.2.2 q
def unI{f:Value->Sem Value}{g:Int->Int}
 (rule:∀(i:Int) (t:Tok) (s:ax) (Q:PRS) (E:PRS),Q (.int (g i) s.toks) {s with toks:=s.toks+1}->wpAny (model X.prog X.w) X.A (f (.int i t)) Q E s):
  UnR X f (rU λi=>.int (g i)):=by
 intro pins s σ H x v Q I d h;obtain⟨i,rfl,q⟩:=h;obtain⟨t,rfl⟩:=d;exact rule i t s _ _ ⟨.int _,H,I.tok _,⟨_,rfl⟩,q⟩
def LV:UnR X (unaryOp .USub) (rU λi=>.int (-i)):=unI λ_ _ _ _ _ q=>neg_int q
abbrev z4:V->V->Bool
 |.non,.non=>ac |.non,.int _=>ac |.int _,.non=>ac |.non,.bl _=>ac |.bl _,.non=>ac |.non,.str _=>ac |.str _,.non=>ac
 |.int _,.int _=>ac |.bl _,.bl _=>ac |.str _,.str _=>ac |.byt _,.byt _=>ac
 |.int _,.str _=>ac |.str _,.int _=>ac |.bl _,.str _=>ac |.str _,.bl _=>ac
 | _,_=>ai
abbrev rEq:R2:=λx y H Q=>z4 x y=ac/\Q (.bl (decide (x=y))) H
abbrev rNe:R2:=λx y H Q=>z4 x y=ac/\Q (.bl (!decide (x=y))) H
def z5{i:Int}:decide (V.int i=V.int j)=(i==j):=by
 rw[kf];simp
def z6{i j:Bool}:decide (V.bl i=V.bl j)=(i==j):=by
 rw[kf];simp
def z7{i j:Str}:decide (V.str i=V.str j)=(i==j):=by
 rw[kf];simp
def Fh{i j:Array UInt8}:decide (V.byt i=V.byt j)=(i.toList==j.toList):=by
 rw[kf];cases i;cases j;simp
def dh{s:ax}{Q:VK}{k d:Bool}(I:Inv X pins σ H s)(q:Q (.bl k) H)(e:k=d):EP X pins σ Q (.bool d) s:=by
 subst e;exact⟨.bl k,H,I,rfl,q⟩
def LW:OpR X (eB .Eq) rEq:=by
 intro pins s σ H x y v u Q I m d h;obtain⟨k,q⟩:=h
 cases x with
 |non=>
  cases m
  cases y with
  |non=>subst d;exact PySem.EqNone.eq_none_none (dh I q (by simp))
  |bl j=>subst d;exact PySem.EqNone.eq_none_bool (dh I q (by simp))
  |int j=>obtain⟨t',rfl⟩:=d;exact PySem.EqNone.eq_none_int (dh I q (by simp))
  |str j=>obtain⟨t',rfl⟩:=d;exact PySem.EqNone.eq_none_str (dh I q (by simp))
  | _=>exact absurd (k) cp
 |bl i=>
  subst m
  cases y with
  |non=>subst d;exact PySem.EqNone.eq_bool_none (dh I q (by simp))
  |bl j=>subst d;exact eq_bool (dh I q z6)
  |str j=>obtain⟨t',rfl⟩:=d;exact PySem.EqMixed.eq_bool_str (dh I q (by simp))
  | _=>exact absurd (k) cp
 |int i=>
  obtain⟨t,rfl⟩:=m
  cases y with
  |non=>subst d;exact PySem.EqNone.eq_int_none (dh I q (by simp))
  |int j=>obtain⟨t',rfl⟩:=d;exact eq_int (dh I q z5)
  |str j=>obtain⟨t',rfl⟩:=d;exact PySem.EqMixed.eq_int_str (dh I q (by simp))
  | _=>exact absurd (k) cp
 |str i=>
  obtain⟨t,rfl⟩:=m
  cases y with
  |non=>subst d;exact PySem.EqNone.eq_str_none (dh I q (by simp))
  |bl j=>subst d;exact PySem.EqMixed.eq_str_bool (dh I q (by simp))
  |int j=>obtain⟨t',rfl⟩:=d;exact PySem.EqMixed.eq_str_int (dh I q (by simp))
  |str j=>obtain⟨t',rfl⟩:=d;exact eq_str (dh I q z7)
  | _=>exact absurd (k) cp
 |byt i=>
  obtain⟨t,rfl⟩:=m
  cases y with
  |byt j=>obtain⟨t',rfl⟩:=d;exact W.eq_bytes (dh I q Fh)
  | _=>exact absurd (k) cp
 | _=>cases y <;> exact absurd (show ai=ac from k) cp
def LX:OpR X (eB .NotEq) rNe:=by
 intro pins s σ H x y v u Q I m d h;obtain⟨k,q⟩:=h
 cases x with
 |non=>
  cases m
  cases y with
  |non=>subst d;exact PySem.EqNone.ne_none_none (dh I q (by simp))
  |bl j=>subst d;exact PySem.EqNone.ne_none_bool (dh I q (by simp))
  |int j=>obtain⟨t',rfl⟩:=d;exact PySem.EqNone.ne_none_int (dh I q (by simp))
  |str j=>obtain⟨t',rfl⟩:=d;exact PySem.EqNone.ne_none_str (dh I q (by simp))
  | _=>exact absurd (k) cp
 |bl i=>
  subst m
  cases y with
  |non=>subst d;exact PySem.EqNone.ne_bool_none (dh I q (by simp))
  |bl j=>subst d;exact ne_bool (dh I q (congrArg not z6))
  |str j=>obtain⟨t',rfl⟩:=d;exact PySem.EqMixed.ne_bool_str (dh I q (by simp))
  | _=>exact absurd (k) cp
 |int i=>
  obtain⟨t,rfl⟩:=m
  cases y with
  |non=>subst d;exact PySem.EqNone.ne_int_none (dh I q (by simp))
  |int j=>obtain⟨t',rfl⟩:=d;exact ne_int (dh I q (congrArg not z5))
  |str j=>obtain⟨t',rfl⟩:=d;exact PySem.EqMixed.ne_int_str (dh I q (by simp))
  | _=>exact absurd (k) cp
 |str i=>
  obtain⟨t,rfl⟩:=m
  cases y with
  |non=>subst d;exact PySem.EqNone.ne_str_none (dh I q (by simp))
  |bl j=>subst d;exact PySem.EqMixed.ne_str_bool (dh I q (by simp))
  |int j=>obtain⟨t',rfl⟩:=d;exact PySem.EqMixed.ne_str_int (dh I q (by simp))
  |str j=>obtain⟨t',rfl⟩:=d;exact ne_str (dh I q (congrArg not z7))
  | _=>exact absurd (k) cp
 |byt i=>
  obtain⟨t,rfl⟩:=m
  cases y with
  |byt j=>obtain⟨t',rfl⟩:=d;exact W.ne_bytes (dh I q (congrArg not Fh))
  | _=>exact absurd (show ai=ac from k) cp
 | _=>cases y <;> exact absurd (show ai=ac from k) cp
def LY:OpR X (eB .Lt) (rI0 λi j=>.bl (decide (i<j))):=z0 λ_ _ _ _ _ _ _ q=>lt_int q
def LZ:OpR X (eB .LtE) (rI0 λi j=>.bl (decide (i<=j))):=z0 λ_ _ _ _ _ _ _ q=>le_int q
def L3:OpR X (eB .Gt) (rI0 λi j=>.bl (decide (j<i))):=z0 λ_ _ _ _ _ _ _ q=>gt_int q
variable{op:CmpOp}
def wa(b:Expr)(h:op≠.In:=by decide)(m:op≠.NotIn:=by decide):mj op b=ai:=by
 have d:(op==CmpOp.In)=ai:=by cases op <;> first |rfl |exact absurd rfl h
 have k:(op==CmpOp.NotIn)=ai:=by cases op <;> first |rfl |exact absurd rfl m
 cases b <;> simp[mj,d,k]
variable{r:R2}
def Fi(z:OpR X (eB op) r)(m:PE X a ta)(n:PE X b tb)(p:mj op b=ai):PE X (.Compare a [op] [b] pos) (tOp r ta tb):=by
 intro pins s σ H Q I h;exact wpAny_Compare1 (v8 m n I h λv u s2 x y d k B C q=>z pins s2 σ d x y v u Q k B C q) p
abbrev L4(t:TE):TT:=λσ H Q=>t σ H λx H'=>∃k,x=.bl k/\Q k H'
def Fj(J:OpR X (eB op) r)(B:PE X a ta)(C:PE X b tb)(G:mj op b=ai):PT X (.Compare a [op] [b] pos) (L4 (tOp r ta tb)):=by
 intro pins s σ H Q I h
 refine wpAny_isTrue_Compare1 (thn (B pins s σ H _ I h) λv s1 ⟨x,H1,n,U,L⟩=>thn (C pins s1 σ H1 _ n L) λu s2 ⟨y,d,p,Y,O⟩ =>
  thn (J pins s2 σ d x y v u _ p U Y O) λc s3 ⟨z,m,q,r3,k,e,T⟩=>?_) G
 subst e;subst r3;exact nL ⟨m,q,T⟩
abbrev L5(r p:R2)(ta tb tc:TE):TE:=λσ H Q=>ta σ H λx H1=>tb σ H1 λy m=>r x y m λz d=>∃k,z=.bl k /\
 (if k=ac then tc σ d λq n=>p y q n Q else Q (.bl ai) d)
variable{tc:TE}{op':CmpOp}{r':R2}
def L6(ho:OpR X (eB op) r)(m:OpR X (eB op') r')(T:PE X a ta)(U:PE X b tb)(Y:PE X c tc)
 (hm:lastMarks [op,op'] [b,c]=ai:=by with_unfolding_all rfl):PE X (.Compare a [op,op'] [b,c] pos) (L5 r r' ta tb tc):=by
 intro pins s σ H Q I h
 refine Compare_chain (thn (T pins s σ H _ I h) λv s1 ⟨x,H1,J,r1,q1⟩=>chain_link (thn (U pins s1 σ H1 _ J q1) λu s2 ⟨y,C,L,B,q2⟩ =>
  thn (ho pins s2 σ C x y v u _ L r1 B q2) λd s3 ⟨z,n,p,r3,k,e,q⟩=>?_)) hm
 subst e;subst r3;refine nL ?_
 cases k with
 |false=>exact ite_ff ⟨.bl ai,n,p,rfl,q⟩
 |true=>exact ite_tt (chain_last (thn (Y pins s3 σ n _ p q) λw' s4 ⟨z',G,O,r4,q4⟩=>m pins s4 σ G y z' u w' Q O B r4 q4))
abbrev z8(K:bo)(x:V)(H:Hp)(k:Bool):Prop:=
 match x with
 |.non=>k=ai
 |.bl b=>k=b
 |.int i=>k=(i != 0)
 |.str y=>y.length<=bx/\k=((y.length:Int) != 0)
 |.byt y=>y.size<=bx/\k=((y.size:Int) != 0)
 |.ref p=>(∃xs,SqL K H p xs/\k=!xs.isEmpty)\/(∃xs,SqT K H p xs/\k=!xs.isEmpty)
 | _=>False
def Fk{its:LVa}(r:aW xs its):(!its.toArray.isEmpty)=!xs.isEmpty:=by
 cases r <;> simp
def td:(bx:Nat)<2 ^ 63:=by rw[dA];decide
def L7:LL X (λx H Q=>∃k,z8 X.K x H k/\Q k H):=by
 intro pins s σ H x v Q I m h;obtain⟨k,e,q⟩:=h;have J:=dA
 cases x with
 |non=>
  subst m;have d:=e;subst d
  exact truthy_none ⟨H,I,q⟩
 |bl b=>
  subst m;have d:=e;subst d
  exact nL ⟨H,I,q⟩
 |int i=>
  obtain⟨t,rfl⟩:=m;have d:=e;subst d
  exact PySem.P.truthy_int ⟨H,I,q⟩
 |str y=>
  obtain⟨t,rfl⟩:=m;obtain⟨C,d⟩:y.length<=bx/\k=_:=e;subst d
  exact PySem.P.truthy_str (by lia) ⟨H,I.tok _,q⟩
 |byt y=>
  obtain⟨t,rfl⟩:=m;obtain⟨C,d⟩:y.size<=bx/\k=_:=e;subst d
  exact W.truthy_bytes (by lia) ⟨H,I.tok _,q⟩
 |ref p=>
  subst m;have d:=e
  rcases d with⟨xs,z,d⟩ |⟨xs,z,d⟩
  .subst d;obtain⟨its,r,B,G⟩:=I.list z;have n:=r.length;exact wpAny_truthy_list B.isList (by simp only[size_toArray];lia) ⟨H,I.tok _,by rw[Fk r];exact q⟩
  .subst d;obtain⟨its,r,B,G⟩:=I.tuple z;have n:=r.length
   exact truthy_tuple B (by simp only[size_toArray];lia) ⟨H,I.tok _,by rw[Fk r];exact q⟩
 | _=>exact(show False from e).elim
def Fm(n:PE X a ta)(p:∀d,isTrue a X.env d=(do let v <- d;ij a.pos;fP [v] (truthy v))):
  PT X a (λσ H Q=>ta σ H λx H'=>∃k,z8 X.K x H' k/\Q k H'):=by
 intro pins s σ H Q I h;exact isTrue_plain (thn (n pins s σ H _ I h) λv s1 ⟨x,H1,m,z,q⟩=>L7 pins s1 σ H1 x v Q m z q) (p _)
def L8:OpR X (gb .Add) (λx y H Q=>∃i j,x=.str i/\y=.str j/\i.length+j.length<=bx/\Q (.str (i++j)) H):=by
 intro pins s σ H x y v u Q I k m h;obtain⟨i,j,rfl,rfl,d,q⟩:=h;obtain⟨t,rfl⟩:=k;obtain⟨t',rfl⟩:=m;exact add_str (λt' tk=>⟨.str _,H,I.tok _,⟨_,rfl⟩,q⟩) d
def L9:OpR X (inplaceOp .Add) (λx y H Q=>∃i j,x=.str i/\y=.str j/\i.length+j.length<=bx/\Q (.str (i++j)) H):=by
 intro pins s σ H x y v u Q I k m h;obtain⟨i,j,rfl,rfl,d,q⟩:=h;obtain⟨t,rfl⟩:=k;obtain⟨t',rfl⟩:=m;exact iadd_str (λt' tk=>⟨.str _,H,I.tok _,⟨_,rfl⟩,q⟩) d
abbrev Fo(b:Expr):Prop:=∀o i,subscripted b ai o i=operate [o,i] (getItem o i)
def Ma(C:PE X a ta)(G:PE X b tb)(L:Fo b):
  PE X (.Subscript a b pos) (tOp (λx y H Q=>∃z i c,x=.str z/\y=.int i/\0<=i/\i<2 ^ 63/\i<z.length/\z.cps[i.toNat]?=aa c/\Q (.str ⟨#[c]⟩) H) ta tb):=by
 intro pins s σ H Q I h;refine Subscript_ (v8 C G I h λv u s2 x y d k O T q=>?_);obtain⟨z,i,c,rfl,rfl,p,B,h1,J,q⟩:=q;obtain⟨t,rfl⟩:=O;obtain⟨t',rfl⟩:=T
 exact tail_any (nO s2 z t) slot_str_getitem.lookup (getItem_str (by
  have m:decide (i < -(2 ^ 63:Int))=ai:=decide_eq_false (by lia);have n:decide (i≥2 ^ 63)=ai:=decide_eq_false (by lia)
  rw[m,n] <;> rfl) (by rw[(PySem.StrLaws.seqIndex_nonneg p h1)];exact J) ⟨.str ⟨#[c]⟩,d,k.tok _,⟨_,rfl⟩,q⟩) (L _ _)
def qu{x:V}(r:aW [x] us):∃u,us=[u]/\bh x u:=by
 cases r with
 |cons d k=>cases k;exact⟨_,rfl,d⟩
def wb{x:V}(r:aW [x,y] us):∃u d,us=[u,d]/\bh x u/\bh y d:=by
 cases r with
 |cons k m=>
  cases m with
  |cons n p=>cases p;exact⟨_,_,rfl,k,n⟩
def Mb:jM X (.type "str") (λxs H Q=>∃i,xs=[.int i]/\i.natAbs.log2<1920/\Q (.str (sR i)) H):=by
 intro pins s σ H xs us Q I r h;obtain⟨i,rfl,d,q⟩:=h;obtain⟨u,rfl,t,rfl⟩:=qu r;exact PySem.P.str_of_int d ⟨.str _,H,I.tok _,⟨_,rfl⟩,q⟩
structure n6(h:Heap)(x dx C:Addr)(mA:MGT):Prop where
 obj:h.get? x=aa (mv C dx)
 ns:h.Ns1 dx mA
 ne:dx≠x
variable{mA:MGT}
def Mc{dx:Addr}(n:h.Ns1 dx mA):∃od,h.get? dx=aa od/\∀name,W.lookIn name od=aa (mA name):=by
 obtain⟨o,es,G,B,hd,m,_,p⟩:=n;refine⟨o,B,λname=>?_⟩;have e:=p name;unfold nsFind findBy at e;rw[<- Array.find?_toList]at e;unfold W.lookIn;rw[hd];dsimp only;split
 .rename_i y q;rw[q]at e;exact congrArg aa e
 .rename_i q;rw[q]at e
  have a:es.toList.any (·.refKey)=ai:=by
   rw[any_eq_false];intro y C;obtain⟨z,t,d⟩:=m y (Array.mem_toList_iff.mp C);simp[DictEntry.refKey,d]
  have k:¬es.toList.any (·.refKey)=ac:=by rw[a];exact cp
  rw[if_neg k];exact congrArg aa e
def n6.look{x dx C:Addr}(I:n6 h x dx C mA):∃od,W.InstAt h x (mv C dx) C (aa od)/\∀name,W.lookIn name od=aa (mA name):=
 let ⟨od,ho,hl⟩:=Mc I.ns
 ⟨od,⟨I.obj,rfl,rfl,ho⟩,hl⟩
variable{prog:eC}{x C:Addr}{name:Str}{v:Value}
section
variable{w:World}{s:ax}{dx:Addr}
def Md{d:Bool}{Q:PRS}(X:K.In s.heap)(I:n6 s.heap x dx C mA)(n:sQ K C name=ac)(p:W.hasDictIn K C=ac)
 (m:fE K (.ref C) name=aa ae)(z:mA name=aa v)(k:W.handedIn v=ac)(h:Q v {s with toks:=s.toks+1}):
  wpAny (model prog w) A (getAttr (.ref x) name d) Q E s:=by
 obtain⟨od,J,q⟩:=I.look;exact W.get_value X J (W.plainGet_of n).1 (W.findObj_own p m rfl (by rw[q,z])) k h
end
variable{f:Addr}{pl:Sem Bool}
def Me{w:World}{s:ax}{dx:Addr}{Q:Value×LVa->ax->Prop}(X:K.In s.heap)(I:n6 s.heap x dx C mA)(d:sQ K C name=ac)
 (k:fE K (.ref C) name=aa (aa (.ref f)))(n:W.isFn K (.ref f)=ac)(p:mA name=ae)(h:Q (.ref f,[.ref x]) s):
  wpAny (model prog w) A (ki (.ref x) name pl) Q E s:=by
 obtain⟨od,J,m⟩:=I.look;exact W.method_fn X J (W.plainGet_of d).1 (W.plainGet_of d).2 k (beq_iff_eq.mp n) (by show(W.lookIn name od).map (·.isSome)=aa ai;rw[m,p];rfl) h
section
variable{w:World}{s:ax}{dx:Addr}
def Mf{ns:LSt}(X:K.In s.heap)(I:n6 s.heap x dx C mA)
 (O:fE K (.ref C) "__setattr__"=aa (aa (.builtin "object.__setattr__")))(L:W.plainOver K C=ac)(U:W.takerIn K C name=aa ae)(G:W.hasDictIn K C=ac)
 (Y:PySem.Within mA ns)(T:ns.length<=bx)
 (h:∀h',n6 h' x dx C (λy=>if y=name then aa v else mA y)->sL dx s.heap h'->Q () {s with heap:=h',toks:=s.toks+2}):
  wpAny (model prog w) A (setAttr (.ref x) name v) Q E s:=by
 obtain⟨od,J,hl⟩:=I.look;refine W.set_plain X J O (W.osa_open X J L U λb=>?_);obtain⟨cd,B,n⟩:=W.any_some G;refine bK (eH (bK (bK (wpAny_loadPart I.obj (bK (W.Looks.here (W.looks_clsIn X B) ?_))))));rw[n];refine eH (bK (eH (bK ?_)));refine wpAny_nsSet1 I.ns λh' d k=>?_;obtain⟨oD,z,q,p,hdD,m⟩:=d.count (PySem.Within.cons name v Y);exact bK (wpAny_lookBehind p (by rw[hdD];exact pastItsLine_dict (ig m (by rw[aQ];lia))) (eH (h _ ⟨(k.2 _ (eM I.ne)).trans I.obj,d,I.ne⟩ k)))
end
variable{R:Result->ax->Prop}
section
variable{w:World}{s:ax}
def Mg{vs:LVa}{kw:List (Str×Value)}(X:K.In s.heap)(k:W.makesIn K C=ac)
 (hi:fE K (.ref C) "__init__"=aa (aa (.ref f)))(d:W.typeIn K (.ref f)=aa (.type "function"))
 (h:jh (model prog w) (A.under (.builtin "type.__call__" ⟨.ref C::vs,kw⟩)) (.call (.ref f) ⟨.ref (s.heap.objs.size + 1)::vs,kw⟩) (W.InitBack (s.heap.objs.size + 1) R)
   {s with heap:=(s.heap.push ms).push (mv C s.heap.objs.size)}):
  jh (model prog w) A (.call (.ref C) ⟨vs,kw⟩) R s:=by
 exact W.make_core (W.makes_of X k) (v5 X hi) (λself=>W.bind_fn X self d) (.inl rfl) h
end
abbrev fF(f:Str)(v:V):List (Str×V)->List (Str×V)
 | []=>[(f,v)]
 |(g,x)::r=>if g=f then (g,v)::r else (g,x)::fF f v r
def Fp(f g:Str)(v:V):∀fs:List (Str×V),(fF f v fs).lookup g=if g=f then aa v else fs.lookup g
 | []=>by
  show jI g [_]=_
  by_cases h:g=f
  .have d:=beq_iff_eq.mpr h;simp only[jI,d,if_pos h]
  .have d:=beq_eq_false_iff_ne.mpr h
   simp only[jI,d,if_neg h]
 |(k,x)::r=>by
  rw[show fF f v _=(if k=f then _::r else _::fF f v r)from rfl]
  by_cases m:k=f
  .rw[if_pos m]
   by_cases h:g=k
   .have d:=beq_iff_eq.mpr h;simp only[jI,d,if_pos (h.trans m)]
   .have d:=beq_eq_false_iff_ne.mpr h;simp only[jI,d,if_neg (λe:g=f=>h (e.trans m.symm))]
  .rw[if_neg m]
   by_cases h:g=k
   .have d:=beq_iff_eq.mpr h;simp only[jI,d,if_neg (λe:g=f=>m (h.symm.trans e))]
   .have d:=beq_eq_false_iff_ne.mpr h;simp only[jI,d];exact(Fp f g v r)
def z9(f:Str)(v:V):∀fs:List (Str×V),f∈(fF f v fs).map (·.1)/\∀g,g∈fs.map (·.1)->g∈(fF f v fs).map (·.1)
 | []=>⟨by simp[fF],λg h=>by simp at h⟩
 |(k,x)::r=>by
  obtain⟨m,n⟩:=z9 f v r;rw[show fF f v _=(if k=f then _::r else _::fF f v r)from rfl]
  by_cases d:k=f
  .rw[if_pos d];subst d;exact⟨by simp,λg h=>by simpa using h⟩
  .rw[if_neg d];refine⟨?_,λg h=>?_⟩
   .rw[jd];exact bQ _ m
   .rw[jd]at h ⊢
    rcases bC.mp h with e |e
    .exact bC.mpr (.inl e)
    .exact bQ _ (n g e)
def Fq(f:Str)(v:V):∀fs:List (Str×V),(fF f v fs).length<=fs.length+1
 | []=>by simp[fF]
 |(k,x)::r=>by
  have m:=Fq f v r;rw[show fF f v _=(if k=f then _::r else _::fF f v r)from rfl]
  by_cases d:k=f
  .rw[if_pos d,aQ,aQ];lia
  .rw[if_neg d,aQ,aQ];lia
variable{v:V}
def kr.some_of{o:Option Value}(r:kr (aa v) o):∃u,o=aa u/\bh v u:=by
 cases o with
 |none=>exact(r).elim
 |some u=>exact⟨u,rfl,r⟩
def kr.none_of{o:Option Value}(r:kr ae o):o=ae:=by
 cases o with
 |none=>rfl
 |some u=>exact(r).elim
variable{u:Value}
def Mh(r:bh v u):W.handedIn u=ac:=by
 cases v with
 |non=>cases (r);rfl
 |bl b=>cases (r);rfl
 |int i=>obtain⟨t,e⟩:=(r);subst e;rfl
 |str x=>obtain⟨t,e⟩:=(r);subst e;rfl
 |byt b=>obtain⟨t,e⟩:=(r);subst e;rfl
 |flt b=>obtain⟨t,e⟩:=(r);subst e;rfl
 |ref a=>cases (r);rfl
 |ty n=>cases (r);rfl
variable{a:Addr}{fs:List (Str×V)}
def Aa{w:World}{dx:Addr}(hok:HOk P w H h)(e:H a=aa (.ins C dx fs)):∃mA,n6 h a dx C mA/\(∀f,kr (fs.lookup f) (mA f))/\PySem.Within mA (fs.map (·.1))/\fs.length<=1000/\H dx=aa (.own a):=by
 obtain⟨d,z,ne,k,mA,n,r,q⟩:=(hok a _ e);exact⟨mA,⟨k,n,ne⟩,r,q,z,d⟩
structure Cls(K:bo)(C:Addr):Prop where
 pg:sQ K C iR=ac
 hd:W.hasDictIn K C=ac
 po:W.plainOver K C=ac
 sa:fE K (.ref C) "__setattr__"=aa (aa (.builtin "object.__setattr__"))
def Cls.get(c:Cls K C)(f:Str):sQ K C f=ac:=c.pg
abbrev ji(K:bo)(C:Addr)(f:Str):Prop:=fE K (.ref C) f=aa ae
variable{f:Str}
def ji.taker(n:ji K C f):W.takerIn K C f=aa ae:=by
 unfold W.takerIn;rw[show fE K _ f=aa ae from n];rfl
structure tf(K:bo)(C:Addr)(m:Str)(f:Addr):Prop where
 at_:fE K (.ref C) m=aa (aa (.ref f))
 fn:W.isFn K (.ref f)=ac
 kp:mw K (.ref f)=ac
def Fs{s:ax}{dx:Addr}{b:Bool}{Q:PRS}(I:Inv X pins σ H s)(e:H a=aa (.ins C dx fs))(c:Cls X.K C)(n:ji X.K C f)(l:fs.lookup f=aa v)
 (h:∀u s',Inv X pins σ H s'->bh v u->Q u s'):wpAny (model X.prog X.w) A (getAttr (.ref a) f b) Q E s:=by
 obtain⟨mA,O,r,_,_,_⟩:=Aa I.hok e;obtain⟨u,k,d⟩:=kr.some_of (by rw[<- l];exact r f);exact Md I.kIn O (c.get f) c.hd n k (Mh d) (h u _ (I.tok _) d)
variable{m:Str}
def Ft{s:ax}{dx:Addr}{g:Addr}{Q:Value×LVa->ax->Prop}(I:Inv X pins σ H s)(e:H a=aa (.ins C dx fs))(c:Cls X.K C)(k:tf X.K C m g)(l:fs.lookup m=ae)
 (h:Q (.ref g,[.ref a]) s):wpAny (model X.prog X.w) A (ki (.ref a) m pl) Q E s:=by
 obtain⟨mA,O,r,_,_,_⟩:=Aa I.hok e;exact Me I.kIn O (c.get m) k.at_ k.fn (kr.none_of (by rw[<- l];exact r m)) h
def Fu{s:ax}{dx:Addr}(I:Inv X pins σ H s)(e:H a=aa (.ins C dx fs))(c:Cls X.K C)(n:ji X.K C f)(T:fs.length<1000)(J:bh y u)
 (h:∀s',Inv X pins σ (upd H a (.ins C dx (fF f y fs))) s'->Q () s'):wpAny (model X.prog X.w) A (setAttr (.ref a) f u) Q E s:=by
 obtain⟨mA,O,r,wi,_,k⟩:=Aa I.hok e;have G:(fs.map (·.1)).length<=bx:=by rw[cf,dA];lia
 refine Mf I.kIn O c.sa c.po n.taker c.hd wi G λh' d L=>h _ ?_;have hd:∃o,h'.get? dx=aa o:=let ⟨o,_,_,e',_⟩:=d.ns;⟨o,e'⟩;refine I.write (by rw[e];exact True.intro) (.inr k) (λb q p z=>(L.2 b p).trans z) hd ?_;refine⟨by rw[bY O.ne];exact k,?_,O.ne,d.obj,_,d.ns,λg=>?_,λg B=>?_⟩
 .have:=Fq f y fs;lia
 .show kr _ _;rw[Fp]
  by_cases q:g=f
  .rw[if_pos q,if_pos q];exact J
  .rw[if_neg q,if_neg q];exact r g
 .by_cases q:g=f
  .rw[q];exact(z9 f y fs).1
  .refine(z9 f y fs).2 g (wi g λz=>B ?_);show(if g=f then aa u else mA g)=ae;rw[if_neg q];exact z
section
variable{s:ax}
def Inv.made(I:Inv X pins σ H s):Inv X pins σ (upd (upd H s.heap.objs.size (.own (s.heap.objs.size+1))) (s.heap.objs.size+1) (.ins C s.heap.objs.size []))
  {s with heap:=(s.heap.push ms).push (mv C s.heap.objs.size)}:=by
 have d:(s.heap.push ms).get? s.heap.objs.size=aa ms:=iQ s.heap rfl
 have k:((s.heap.push ms).push (mv C s.heap.objs.size)).get? (s.heap.objs.size+1)=aa (mv C s.heap.objs.size):=by
  have:=iQ (s.heap.push ms) (o:=mv C s.heap.objs.size) rfl
  rwa [Heap.size_push]at this
 have n:(s.heap.push ms).Ns s.heap.objs.size _:=⟨ms,#[],_,d,rfl,(λe p=>absurd p (by simp)),λ_=>rfl⟩;refine(I.laid (o:=.own _) (t':=s.toks) (λb u q=>gc _ q) (bN _) ⟨_,d⟩).laid (λb u q=>gc _ q) (vN (Heap.size_push _ _)) ?_;have ne:s.heap.objs.size≠s.heap.objs.size+1:=eY (qg _);refine⟨by rw[bY ne,cz],gB _,ne,k,λ_=>ae,(Heap.Ns1.of_empty n).at λo q=>gc _ q,λ_=>True.intro,λy z=>absurd rfl z⟩
end
variable{env:Env}
def Mi{w:World}{s:ax}{Q:PRS}(k:mo e f env (eval e env)=eval e env)
 (h:wpAny (model prog w) A (eval e env) (λo d=>wpAny (model prog w) A (getAttr o f ac) Q E d) E s):wpAny (model prog w) A (eval (.Attribute e f pos) env) Q E s:=
 Attribute_any_ h (by rw[arm_eval_Attribute,k])
abbrev Mj(K:bo)(ta:TE)(f:Str):TE:=λσ H Q=>ta σ H λx H1=>∃a C dx fs v,x=.ref a/\H1 a=aa (.ins C dx fs)/\Cls K C/\ji K C f/\fs.lookup f=aa v/\Q v H1
abbrev Ml(K:bo)(ta k:TE)(f:Str):TS:=λD σ H=>k σ H λy H1=>ta σ H1 λx d=>∃a C dx fs,x=.ref a/\d a=aa (.ins C dx fs)/\Cls K C/\ji K C f/\fs.length<1000 /\
 D.nx σ (upd d a (.ins C dx (fF f y fs)))
abbrev Mm(X:Cx)(op:Operator)(rd:V->V->Hp->VK->Prop):Prop:=
 ∀(pins:PNS) (s:ax) (σ:St) (H:Hp) (x y:V) (u v:Value) (Q:VK),Inv X pins σ H s->bh x u->bh y v->rd x y H Q->wpAny (model X.prog X.w) X.A (inplaceOp op u v) (EP X pins σ Q) X.xe s
abbrev Mn(K:bo)(ta q:TE)(rd:V->V->Hp->VK->Prop)(f:Str):TS:=λD σ H=>ta σ H λx H1=>∃a C dx fs v,x=.ref a/\H1 a=aa (.ins C dx fs)/\Cls K C/\ji K C f/\fs.lookup f=aa v /\
 q σ H1 λy p=>rd v y p λz n=>∃k d,n a=aa (.ins C k d)/\d.length<1000/\D.nx σ (upd n a (.ins C k (fF f z d)))
def Mp(B:PE X e ta)(z:mo e f X.env (eval e X.env)=eval e X.env):PE X (.Attribute e f pos) (Mj X.K ta f):=by
 intro pins s σ H Q I h;refine Mi z (thn (B pins s σ H _ I h) λu s1 G=>?_);obtain⟨x,H1,d,L,a,C,dx,fs,v,ex,p,c,n,l,q⟩:=G;subst ex;obtain rfl:u=gq a:=L;exact Fs d p c n l λO s2 k J=>⟨v,H1,k,J,q⟩
variable{o value:Expr}{tv:TE}
def Mq(B:PE X o ta)(J:PE X value tv)(G:eZ value (aa (.Attribute o f ey)) pos.line X.env=pure ai):PS X (.Assign [.Attribute o f ey] value pos) (Ml X.K ta tv f):=by
 intro pins s σ H D I h;refine plainObj_wpAny_Assign_Attribute (thn (J pins s σ H _ I h) λu s1 ⟨y,H1,d,U,q⟩=>thn (B pins s1 σ H1 _ d q) λov s2 O=>?_) G;obtain⟨x,Y,k,T,a,C,dx,fs,ex,z,c,n,l,L⟩:=O;subst ex;obtain rfl:ov=gq a:=T;exact Fu k z c n l U λs3 p=>⟨σ,_,p,L⟩
variable{y3:Pos}
def Mr{op:Operator}{rd:V->V->Hp->VK->Prop}(ha:PE X o ta)(hv:PE X value tv)(k:Mm X op rd):PS X (.AugAssign (.Attribute o f y3) op value pos) (Mn X.K ta tv rd f):=by
 intro pins s σ H D I h;refine wpAny_AugAssign_AttributeAny (thn (ha pins s σ H _ I h) λov s1 q_=>?_);obtain⟨x,H1,B,rx,a,C,dx,fs,v,ex,U,c,n,l,q⟩:=q_;subst ex;obtain rfl:ov=gq a:=rx;exact Fs B U c n l λu s2 G ru=>thn (hv pins s2 σ H1 _ G q) λw3 s3 ⟨y,p,J,ry,q3⟩=>thn (k pins s3 σ p v y u w3 _ J ru ry q3) λw4 s4 ⟨z,H3,L,rz,T,Y,d,l',q4⟩=>(Fu L d c n l' rz λs5 O=>⟨σ,_,O,q4⟩)
structure bT(k:Nat)(A:dL):Prop where
 hd:A.handled=ae
 dp:A.depth+3*k+5<recursionLimit
 un:A.units+16*k+200<cLine
variable{j k:Nat}
def bT.mono(r:bT k A)(h:j<=k):bT j A:=⟨r.hd,by have:=r.dp;lia,by have:=r.un;lia⟩
def bT.deeper(r:bT (k+1) A)(env:Env):bT k (A.deeper env):=
 ⟨r.hd,by have:=r.dp;show A.depth+1+3*k+5<_;lia,by have:=r.un;show A.units+3+16*k+200<_;lia⟩
def Ms{kw:List (Str×Value)}:(A.under (.builtin "type.__call__" ⟨.ref C::us,kw⟩)).depth=A.depth+1:=by
 first |rfl |simp[dL.under]
def Mt{kw:List (Str×Value)}:(A.under (.builtin "type.__call__" ⟨.ref C::us,kw⟩)).units=A.units+1:=by
 first |rfl |simp[dL.under]
def bT.make(r:bT (k+1) A)(C:Addr)(us:LVa)(kw:List (Str×Value)):bT k (A.under (.builtin "type.__call__" ⟨.ref C::us,kw⟩)):=
 ⟨r.hd,by have:=r.dp;rw[Ms];lia,by have:=r.un;rw[Mt];lia⟩
def bT.depth(r:bT k A):A.depth<recursionLimit:=by have:=r.dp;lia
def bT.units(r:bT k A):A.units+64<cLine:=by have:=r.un;lia
abbrev lG:TA:=λ_ H Q=>Q [] H
abbrev n8(ta:TE)(n:TA):TA:=λσ H Q=>ta σ H λx H1=>n σ H1 λxs d=>Q (x::xs) d
def cN:PA X [] lG:=λ_ _ _ _ H Q I h=>Calls.spliced_nil ⟨[],H,I,.nil,h⟩
variable{t:TA}
def bW(q:PE X e te)(z:PA X es t)(B:StE X e es:=by rfl):PA X (e::es) (n8 te t):=by
 intro pos pins s σ H Q I h;rw[B];exact vW (thn (q pins s σ H _ I h) λu s1 ⟨x,H1,n,L,G⟩=>(thn (z pos pins s1 σ H1 _ n G) λus s2 ⟨xs,d,p,O,J⟩=>⟨x::xs,d,p,.cons L O,J⟩))
abbrev Mu(t:TA):TE:=λσ H Q=>t σ H λxs H1=>xs.length<=bx/\∀p,H1 p=ae->Q (.ref p) (upd H1 p (.tup xs))
abbrev Mv(t:TA):TE:=λσ H Q=>t σ H λxs H1=>xs.length<=bx/\∀p,H1 p=ae->Q (.ref p) (upd H1 p (.lst xs))
def wc{x1}(h:PA X es t):PE X (.Tuple es x1 pos) (Mu t):=by
 intro pins s σ H Q I n;refine wpAny_Tuple_spliced (thn (h pos pins s σ H _ I n) λus s1 ⟨xs,H1,d,r,z,q⟩=>⟨by rw[<- r.length];exact z,?_⟩);refine⟨.ref s1.heap.objs.size,upd H1 s1.heap.objs.size _,d.laid (λb u e=>gc _ e) (bN _) ?_,rfl,q _ (d.hok.fresh (bN _))⟩;exact⟨z,us,r,⟨_,iQ _ rfl,rfl,_,rfl⟩⟩
def tm(h:PA X es t):PE X (.List es pos) (Mv t):=by
 intro pins s σ H Q I n;refine wpAny_List_spliced (thn (h pos pins s σ H _ I n) λus s1 ⟨xs,H1,d,r,z,q⟩=>⟨by rw[<- r.length];exact z,?_⟩);refine⟨.ref s1.heap.objs.size,upd H1 s1.heap.objs.size _,d.laid (λb u e=>gc _ e) (bN _) ?_,rfl,q _ (d.hok.fresh (bN _))⟩;exact⟨z,us,0,r,iQ _ rfl⟩
@[reducible]noncomputable def Sp:=List V->Hp->VK->XK->Prop
@[reducible]noncomputable def CXT:=List Env->Hp->ax->XK->PRS
structure oa(P:eC)(w:World)(K:bo)(mg:MGT)(base:Heap)(A:dL)(outer:List Env)(s:ax)(H:Hp):Prop where
 frames:A.frames=aa outer
 mod:Mod K mg base
 bs:∀b o,base.get? b=aa o->s.heap.get? b=aa o/\H b=ae
 bsz:base.objs.size<=s.heap.objs.size
 funs:s.heap.FunFrames base outer
 frf:∀b∈frs outer,H b=ae
 hok:HOk P w H s.heap
 bare:kh s.gens
abbrev CE(outer:List Env)(P:eC)(w:World)(H:Hp)(s:ax)(Q:VK)(u:Value)(s':ax):Prop:=
 ∃v H',s'.os=s.os/\kh s'.gens/\Un (frs outer) [] H H' s.heap s'.heap/\HOk P w H' s'.heap/\bh v u/\Q v H'
abbrev CR(CX:CXT)(outer:List Env)(P:eC)(w:World)(H:Hp)(s:ax)(Q:VK)(E:XK)(r:Result)(s':ax):Prop:=
 match r with
 |.ok (.ret u)=>CE outer P w H s Q u s'
 |.ok _=>False
 |.error e=>CX outer H s E e s'
structure dH(P:eC)(w:World)(K:bo)(mg:MGT)(base:Heap)(CX:CXT)(k:Nat)(f:Addr)(fd:fD)(ps:LSt)(sp:Sp):Prop where
 len:∀vs H Q E,sp vs H Q E->vs.length=ps.length
 run:∀(A:dL) (outer:List Env) (s:ax) (H:Hp) (args:Args) (us:LVa) (vs:List V) (Q:VK) (E:XK),bT k A->oa P w K mg base A outer s H->BindsTo s fd args (ps.zip us)->aW vs us->sp vs H Q E ->
  jh (model P w) A (.call (.ref f) args) (CR CX outer P w H s Q E) s
variable{mg:MGT}{base:Heap}{CX:CXT}{f:Addr}{fd:fD}{ps:LSt}{sp:Sp}
def dH.imp{w:World}{d:Sp}(F:dH P w K mg base CX k f fd ps sp)
 (h:∀vs H Q E,d vs H Q E->sp vs H Q E):dH P w K mg base CX k f fd ps d:=
 ⟨λvs H Q E q=>F.len vs H Q E (h _ _ _ _ q),λA outer s H args us vs Q E z p n G B=>F.run A outer s H args us vs Q E z p n G (h _ _ _ _ B)⟩
variable{outer:List Env}
def oa.make{w:World}{s:ax}(e:oa P w K mg base A outer s H)(C:Addr)(us:LVa)(kw:List (Str×Value)):
  oa P w K mg base (A.under (.builtin "type.__call__" ⟨.ref C::us,kw⟩)) outer s H:=⟨by first |exact e.frames |(simpa[dL.under]using e.frames),e.mod,e.bs,e.bsz,e.funs,e.frf,e.hok,e.bare⟩
def Inv.env0{s:ax}(I:Inv X pins σ H s):oa X.prog X.w X.K X.mg X.base X.A X.stack s H:=
 ⟨I.ok.frames,I.ok.mod,I.bs,ig I.ok.bsz I.sz,I.stack,I.stkFree,I.hok,I.bare⟩
variable{Q:VK}
def Inv.after{s:ax}(I:Inv X pins σ H s)(h:CE X.stack X.prog X.w H s Q u s'):EP X pins σ Q u s':=by
 obtain⟨v,H',os,bare,un,hok,r,q⟩:=h;obtain⟨p,g,d,t,n⟩:=s';obtain rfl:n=s.os:=os;exact⟨v,H',I.call un hok bare (λb z=>absurd z (by simp)),r,q⟩
abbrev Fv(sp:Sp)(d:List V)(E:XK)(t:TA):TE:=λσ H Q=>t σ H λvs H1=>sp (vs++d) H1 Q E
abbrev qv(C:Addr)(m:Str)(sp:Sp)(d:List V)(E:XK)(ta:TE)(t:TA):TE:=λσ H Q=>ta σ H λx H1=>∃a dx fs,x=.ref a/\H1 a=aa (.ins C dx fs)/\fs.lookup m=ae /\
 t σ H1 λvs n=>sp (x::(vs++d)) n Q E
abbrev Mw(C:Addr)(sp:Sp)(d:List V)(E:XK)(t:TA):TE:=λσ H Q=>t σ H λvs H1=>∀x dx,H1 x=ae->H1 dx=ae->dx≠x ->
 sp (.ref x::(vs++d)) (upd (upd H1 dx (.own x)) x (.ins C dx [])) (λv n=>v=.non/\Q (.ref x) n) E
abbrev gY(K:bo)(fd:fD)(ps:LSt)(ds:LVa):Prop:=
 ∀(s:ax) (us:LVa),K.In s.heap->(us++ds).length=ps.length->BindsTo s fd ⟨us,[]⟩ (ps.zip (us++ds))
def gY.all(h:∀us:LVa,us.length=ps.length->bindArgs fd ⟨us,[]⟩=pure (ps.zip us)):gY K fd ps []:=λs us _ d=>by
 rw[cM]at d ⊢;exact .of_eq (h us d)
abbrev fV(CX:CXT)(X:Cx)(E:XK):Prop:=∀(pins:PNS) (σ:St) (H:Hp) (s:ax) (e:Value) (s':ax),Inv X pins σ H s->CX X.stack H s E e s'->X.xe e s'
variable{mm vs:List V}{ds:LVa}{E:XK}
def wd{s:ax}(F:dH X.prog X.w X.K X.mg X.base CX k f fd ps sp)(z:bT k X.A)(p:gY X.K fd ps ds)(hd:aW mm ds)(B:fV CX X E)
 (I:Inv X pins σ H s)(r:aW vs us)(h:sp (vs++mm) H Q E):wpAny (model X.prog X.w) X.A (call (.ref f) us) (EP X pins σ Q) X.xe s:=by
 have n:=r.append hd;have q:(us++ds).length=ps.length:=by rw[<- n.length];exact F.len _ _ _ _ h
 refine wpAny_call (codeAny_mono (F.run X.A X.stack s H ⟨us,[]⟩ _ _ Q E z I.env0 (p s us I.kIn q) n h) λr s' d=>?_)
 cases r with
 |error e=>exact B pins σ H s e s' I d
 |ok fl=>
  cases fl with
  |ret u=>exact I.after d
  |next=>exact iL d
  |brk=>exact iL d
  |cont=>exact iL d
variable{x:Str}{p:Pos}
def mz(F:dH X.prog X.w X.K X.mg X.base CX k f fd ps sp)(U:bT k X.A)(L:Gl X x)(T:X.mg x=aa (.ref f))(O:mw X.K (.ref f)=ac)(G:gY X.K fd ps ds)(hd:aW mm ds)(Y:fV CX X E)
 (B:PA X (e::es) t)(d:NDb x:=by decide)(J:StE X e es:=by rfl)(n:BkE X pos es:=by rfl):
  PE X (.Call (.Name x p) (e::es) [] pos) (Fv sp mm E t):=by
 intro pins s σ H Q I h;refine qk (nW I L T ?_ d);exact W.callWith_K I.ok.mod.kin O (thn (B pos pins s σ H _ I h) λus s1 ⟨vs,H1,z,r,q⟩=>⟨z.kIn,(wd F U G hd Y z r q)⟩) J n
def Mx(F:dH X.prog X.w X.K X.mg X.base CX k f fd ps sp)(G:bT k X.A)(q:Gl X x)(B:X.mg x=aa (.ref f))(z:mw X.K (.ref f)=ac)(n:gY X.K fd ps ds)(hd:aW mm ds)(J:fV CX X E)
 (d:NDb x:=by decide):PE X (.Call (.Name x p) [] [] pos) (Fv sp mm E lG):=by
 intro pins s σ H Q I h;exact qk (nW I q B (W.callWith_K0 I.kIn z (wd F G n hd J I .nil h)) d)
variable{e6:Pos}
def Fw(T:PE X o ta)(c:Cls X.K C)(G:tf X.K C m f)(F:dH X.prog X.w X.K X.mg X.base CX k f fd ps sp)(U:bT k X.A)(O:gY X.K fd ps ds)(hd:aW mm ds)(hx:fV CX X E)(L:PA X (e::es) t)
 (n:StE X e es:=by rfl)(d:BkE X pos es:=by rfl)
 (Y:eval (.Call (.Attribute o m e6) (e::es) [] pos) X.env=(do
   let ov <- eval o X.env
   ij e6.atName
   let (f,first) <- fP [ov] (ki ov m pl)
   mq pos f first (eD pos (bf (e::es) X.env)) (jg pos (je [] X.env))):=by rfl):
  PE X (.Call (.Attribute o m e6) (e::es) [] pos) (qv C m sp mm E ta t):=by
 intro pins s σ H Q I h;refine W.methodCall_KW (thn (T pins s σ H _ I h) λu s1 q_=>?_) Y;obtain⟨x,H1,z,rx,a,dx,fs,ex,J,l,q⟩:=q_;subst ex;obtain rfl:u=gq a:=rx;refine Ft z J c G l ?_;exact W.callWith_K I.ok.mod.kin G.kp (thn (L pos pins s1 σ H1 _ z q) λus s2 ⟨vs,H2,B,r,q2⟩=>⟨B.kIn,(wd (vs:=.ref a::vs) F U O hd hx B (.cons rfl r) q2)⟩) n d
def we(G:PE X o ta)(c:Cls X.K C)(n:tf X.K C m f)(F:dH X.prog X.w X.K X.mg X.base CX k f fd ps sp)(J:bT k X.A)(B:gY X.K fd ps ds)(hd:aW mm ds)(O:fV CX X E)
 (L:eval (.Call (.Attribute o m e6) [] [] pos) X.env=(do
   let ov <- eval o X.env
   ij e6.atName
   let (f,first) <- fP [ov] (ki ov m pl)
   mq pos f first (eD pos (bf [] X.env)) (jg pos (je [] X.env))):=by rfl):
  PE X (.Call (.Attribute o m e6) [] [] pos) (qv C m sp mm E ta lG):=by
 intro pins s σ H Q I h;refine W.methodCall_KW (thn (G pins s σ H _ I h) λu s1 T=>?_) L;obtain⟨x,H1,d,U,a,dx,fs,ex,z,l,q⟩:=T;subst ex;obtain rfl:u=gq a:=U;exact Ft d z c n l (W.callWith_K0 d.kIn n.kp (wd (vs:=[.ref a]) F J B hd O d (.cons rfl .nil) q))
structure Mk(K:bo)(C f:Addr):Prop where
 makes:W.makesIn K C=ac
 init:fE K (.ref C) "__init__"=aa (aa (.ref f))
 fn:W.isFn K (.ref f)=ac
 kp:mw K (.ref C)=ac
def My{s:ax}(M:Mk X.K C f)(F:dH X.prog X.w X.K X.mg X.base CX k f fd ps sp)(T:bT (k+1) X.A)(L:gY X.K fd ps ds)(hd:aW mm ds)
 (U:fV CX X E)(I:Inv X pins σ H s)(r:aW vs us)
 (h:∀x dx,H x=ae->H dx=ae->dx≠x->sp (.ref x::(vs++mm)) (upd (upd H dx (.own x)) x (.ins C dx [])) (λv B=>v=.non/\Q (.ref x) B) E):
  wpAny (model X.prog X.w) X.A (call (.ref C) us) (EP X pins σ Q) X.xe s:=by
 have q:=h _ s.heap.objs.size (I.hok.fresh (Nat.le_succ _)) (I.hok.fresh (bN _)) (eY (qg _));have n:=Inv.made (C:=C) I;have z:aW (V.ref _::_) (gq (s.heap.objs.size+1)::_):=.cons rfl (r.append hd)
 have O:(gq (s.heap.objs.size+1)::us++ds).length=ps.length:=by
  have e:=z.length;rw[F.len _ _ _ _ q]at e;exact e.symm
 refine wpAny_call (Mg I.kIn M.makes M.init (beq_iff_eq.mp M.fn) (codeAny_mono (F.run _ X.stack _ _ ⟨gq _::us,[]⟩ _ _ _ E (T.make C us [])
  (n.env0.make C us []) (L _ _ n.kIn O) z q) λr s' d=>?_))
 cases r with
 |error e=>exact U pins σ _ _ e s' n d
 |ok fl=>
  cases fl with
  |ret u=>
   obtain⟨v,H',G,rv,J,Y⟩:=n.after d;subst J
   exact⟨rv,⟨V.ref _,H',G,rfl,Y⟩⟩
  |next=>exact iL d
  |brk=>exact iL d
  |cont=>exact iL d
def Mz(M:Mk X.K C f)(F:dH X.prog X.w X.K X.mg X.base CX k f fd ps sp)(T:bT (k+1) X.A)(L:Gl X x)(O:X.mg x=aa (.ref C))(G:gY X.K fd ps ds)(hd:aW mm ds)(U:fV CX X E)
 (B:PA X (e::es) t)(d:NDb x:=by decide)(J:StE X e es:=by rfl)(n:BkE X pos es:=by rfl):
  PE X (.Call (.Name x p) (e::es) [] pos) (Mw C sp mm E t):=by
 intro pins s σ H Q I h;refine qk (nW I L O ?_ d);exact W.callWith_K I.ok.mod.kin M.kp (thn (B pos pins s σ H _ I h) λus s1 ⟨vs,H1,z,r,q⟩=>⟨z.kIn,(My M F T G hd U z r q)⟩) J n
structure aX(N P:LSt)(sc:Scope):Prop where
 kind:sc.kind=.function
 co:sc.isCoroutine=ai
 gen:sc.isGenerator=ai
 nd:N.Nodup
 pre:N.take P.length=P
 par:∀x∈P,sc.names.lookup x=aa .local\/sc.names.lookup x=aa .cell
 nofree:∀y∈sc.names,y.2≠.free
def Fx{kindOf:Str->Option gU}{x:Str}:∀{binds:List (Str×Value)} {m:MGT},(∀v,(x,v)∉binds)->bindL kindOf binds m x=m x
 | [],_,_=>rfl
 |(n,v)::r,m,h=>by
  unfold bindL;rw[Fx λw d=>h w (bQ _ d)];split
  .have:x≠n:=by rintro rfl;exact h v be
   simp[this]
  .rfl
def Fy{kindOf:Str->Option gU}{x:Str}:∀{binds:List (Str×Value)} {m:MGT},(∀v,(x,v)∉binds)->bindC kindOf binds m x=m x
 | [],_,_=>rfl
 |(n,v)::r,m,h=>by
  unfold bindC;rw[Fy λw d=>h w (bQ _ d)];split
  .rfl
  .have:x≠n:=by rintro rfl;exact h v be
   simp[this]
def Fz{kindOf:Str->Option gU}{x:Str}{v:Value}:∀{P:LSt} {vs:LVa} {i:Nat} {m:MGT},P.Nodup->P[i]?=aa x->vs[i]?=aa v->kindOf x=aa .local ->
  bindL kindOf (P.zip vs) m x=aa v
 | [],_,_,_,_,h,_,_=>by simp at h
 | _::_,[],_,_,_,_,h,_=>by simp at h
 |p::P,w::vs,0,m,nd,h1,h2,hk=>by
  simp at h1 h2;subst h1;subst h2;show bindL kindOf (_::P.zip vs) m p=_;unfold bindL;rw[Fx λv d=>(nodup_cons.mp nd).1 (of_mem_zip d).1,if_pos hk]
  simp
 |p::P,w::vs,i+1,m,nd,h1,h2,hk=>by
  show bindL kindOf (_::P.zip vs) m x=_;exact Fz (nodup_cons.mp nd).2 (by simpa using h1) (by simpa using h2) hk
def FA{kindOf:Str->Option gU}{x:Str}{v:Value}:∀{P:LSt} {vs:LVa} {i:Nat} {m:MGT},P.Nodup->P[i]?=aa x->vs[i]?=aa v->kindOf x≠aa .local ->
  bindC kindOf (P.zip vs) m x=aa v
 | [],_,_,_,_,h,_,_=>by simp at h
 | _::_,[],_,_,_,_,h,_=>by simp at h
 |p::P,w::vs,0,m,nd,h1,h2,hk=>by
  simp at h1 h2;subst h1;subst h2;show bindC kindOf (_::P.zip vs) m p=_;unfold bindC;rw[Fy λv d=>(nodup_cons.mp nd).1 (of_mem_zip d).1,if_neg hk]
  simp
 |p::P,w::vs,i+1,m,nd,h1,h2,hk=>by
  show bindC kindOf (_::P.zip vs) m x=_;exact FA (nodup_cons.mp nd).2 (by simpa using h1) (by simpa using h2) hk
abbrev start(N:LSt)(vs:List V):St:=vs.map aa++cQ (N.length-vs.length) ae
abbrev gF(CX:CXT)(P:eC)(w:World)(K:bo)(mg:MGT)(base:Heap)(N:LSt)(qual:Str)(scope:Scope)(f:Addr)(cd:Value)(A:dL)(outer:List Env)(s:ax)(H:Hp)(E:XK):Cx where
 prog:=P
 w:=w
 K:=K
 mg:=mg
 base:=base
 A:=A.deeper (gC qual scope s.heap.objs.size f cd)
 N:=N
 s₀:=s
 H₀:=H
 env:=gC qual scope s.heap.objs.size f cd
 outer:=outer
 stack:=gC qual scope s.heap.objs.size f cd::outer
 ex:=[]
 calm:=ac
 fn:=λ_=>ac
 pn:=[]
 xe:=λe s'=>wpAny (model P w) (A.deeper (gC qual scope s.heap.objs.size f cd)) (leaving (gC qual scope s.heap.objs.size f cd) e) (λ_ s''=>CX outer H s E e s'') (λe' s''=>CX outer H s E e' s'') s'
variable{n:Nat}
def FB{sc:Scope}(h:sc.names.lookup x=aa .cell):∃c,(cellsFrom n sc.names []).lookup x=aa c:=by
 exact Option.isSome_iff_exists.mp (W.cellsFrom_some sc.names n [] (.inl h))
variable{qual:Str}{scope:Scope}
def MA{w:World}{O:Value}{s s1:ax}
 (S:aX N ps scope)(hd:A.handled=ae)(B:oa P w K mg base A outer s H)(hl:vs.length=ps.length)(r:aW vs us)
 (x:InCallC s s.heap.objs.size (bindL (gC qual scope s.heap.objs.size f O).kindOf (ps.zip us) λ_=>ae) (cellsFrom (s.heap.objs.size+1) scope.names []) (bindC (gC qual scope s.heap.objs.size f O).kindOf (ps.zip us) λ_=>ae) s1):
  Inv (gF CX P w K mg base N qual scope f O A outer s H E) [] (start N vs) H s1:=by
 have hX:ps.length<=N.length:=by have:=congrArg ie S.pre;rw[fA]at this;lia
 obtain⟨h1,tk,rfl,T⟩:=x.done;have I:∀b:Addr,b∉(gF CX P w K mg base N qual scope f O A outer s H E).ex:=λb z=>absurd (show b∈([]:LAd)from z) (by simp)
 refine⟨⟨B.mod,S.kind,rfl,rfl,bN _,λy z c h1 d=>?_,λy G=>?_,λy c _ h=>?_,λ_=>hd,dL.frames_deeper B.frames,.inr ⟨rfl,rfl⟩,λb z=>absurd z (I b),B.bs,B.bsz,λb _ _=>I b,λb z=>absurd z (I b),B.funs,B.frf⟩,
  rfl,B.bare,Un.kept T,⟨_,x.toInCall.ns,λi y v h1 d h3=>?_⟩,λy c h=>⟨_,x.cell y c h⟩,B.hok.fresh (bN _),λy c h=>?_,λp J=>absurd (show p∈([]:List _)from J) (by simp),B.hok.kept T,?_⟩
 .exact name_of_addr x.apart (sI h1) (sI d)
 .have G:=G
  rcases G with G |G
  .exact FB G
  .exact absurd rfl (S.nofree _ (sI G))
 .exact mi (x.above y c (sI h))
 .have hi:i<vs.length:=by
   unfold start at d
   by_cases hi:i<vs.length
   .exact hi
   .rw[nG (by simpa using hi)]at d;rw[zA]at d
    split at d <;> nomatch d
  have Y:vs[i]?=aa v:=by
   unfold start at d;rw[nH (by simpa using hi),fL]at d
   cases e:vs[i]? with
   |none=>rw[e]at d;nomatch d
   |some a=>rw[e]at d;cases d;rfl
  obtain⟨u,U,rv⟩:=r.get Y
  have J:ps[i]?=aa y:=by
   rw[<- S.pre,List.getElem?_take_of_lt (by lia)];exact h1
  have L:ps.Nodup:=by rw[<- S.pre];exact S.nd.sublist (take_sublist _ _)
  refine⟨u,rv,?_⟩
  rcases S.par y (me J)with k |k
  .exact .inl ⟨k,Fz L J U k⟩
  .obtain⟨c,e⟩:=FB k;refine .inr ⟨.inl k,c,e,?_⟩;have q:=x.cell y c e;rw[FA L J U (by show scope.names.lookup y≠_;rw[k];decide)]at q;exact q
 .exact B.hok.fresh (mi (x.above y c (sI h)))
 .unfold start;show _=N.length;rw[aO,cf,gA];lia
variable{an od:Option Addr}{osl:Array (Option Value)}
def FC{w:World}{params:Arguments}{dV kV doc pm cdv ct oc:Value}
  (lk:K.lookup f=aa ⟨oc,od,.func (W.fnOf name qual params body scope dV kV doc pm an cdv ct),osl⟩)(T:W.codeIn K cdv qual=ac)(S:aX N ps scope)
 (len:∀vs H Q E,sp vs H Q E->vs.length=ps.length)
 (d:∀ (A:dL) (outer:List Env) (s:ax) (H:Hp) (vs:List V) (Q:VK) (E:XK),bT k (A.deeper (gC qual scope s.heap.objs.size f cdv))->sp vs H Q E ->
   ∃t,PSs (gF CX P w K mg base N qual scope f cdv A outer s H E) body t/\t {nx:=λ_ H'=>Q .non H',rt:=Q} (start N vs) H):
  dH P w K mg base CX (k+1) f (W.fnOf name qual params body scope dV kV doc pm an cdv ct) ps sp:=by
 refine⟨len,λA outer s H args us vs Q E U G hb r O=>?_⟩;have KX:=G.mod.kin.keeps λb o e=>(G.bs b o e).1
 have z:∀y∈ps.zip us,scope.names.lookup y.1=aa .local\/(scope.names.lookup y.1=aa .cell/\((cellsFrom (s.heap.objs.size+1) scope.names []).lookup y.1).isSome=ac):=λ⟨n,v⟩ hy=>by
  rcases S.par n (of_mem_zip hy).1 with q |q
  .exact .inl q
  .exact .inr ⟨q,W.cellsFrom_some _ _ _ (.inl q)⟩
 refine codeAny_call_function U.depth (KX _ _ lk) rfl S.co S.gen rfl (W.codeRec_of KX T) (hb _ _ _ _ ?_);refine wpAny_newFunctionEnv_cells S.kind z λenv he s1 x=>?_;subst he;refine⟨(G.mod.nolimit.keeps λb o e=>(G.bs b o e).1).keeps x.toInCall.keep,codeAny_func ?_⟩;obtain⟨t,ht,hq⟩:=d A outer s H vs Q E (U.deeper _) O;have I:Inv (gF CX P w K mg base N qual scope f cdv A outer s H E) [] _ H s1:=MA S U.hd G (len _ _ _ _ O) r x;refine fB (ht [] s1 _ H _ I hq) (λfl s' B=>?_) λe s' B=>B
 have L:∀{σ':St} {H':Hp} {v:V} {u:Value},Inv (gF CX P w K mg base N qual scope f cdv A outer s H E) [] σ' H' s'->bh v u->Q v H'->CE outer P w H s Q u s':=
  λ{σ' H' v u} J Y q=>⟨v,H',J.os,J.bare,J.base,J.hok,Y,q⟩
 cases fl with
 |ret u=>
  obtain⟨v,σ',H',J,Y,q⟩:=B
  exact L J Y q
 |next=>
  obtain⟨σ',H',J,q⟩:=B
  exact L (v:=V.non) J rfl q
 |brk=>
  obtain⟨_,_,_,q⟩:=B
  exact iL q
 |cont=>
  obtain⟨_,_,_,q⟩:=B;exact iL q
abbrev tCB(r:List V->Hp->VK->Prop)(t:TA):TE:=λσ H Q=>t σ H λvs H1=>r vs H1 Q
variable{r:List V->Hp->VK->Prop}
def tq{id:String}(G:jM X (.builtin id) r)(L:Gl X x)(O:X.mg x=ae)(U:iP x=aa (.builtin id))(B:PA X (e::es) t)(T:x ≠ "__name__":=by decide)(d:NDb x:=by decide)
 (J:StE X e es:=by rfl)(q:BkE X pos es:=by rfl):PE X (.Call (.Name x p) (e::es) [] pos) (tCB r t):=by
 intro pins s σ H Q I h;exact qk (qr I L O U (PyProof.Rows.callWith_builtin1 (thn (B pos pins s σ H _ I h) λus s1 ⟨vs,H1,z,r1,Y⟩=>G pins s1 σ H1 vs us Q z r1 Y) J q) T d)
variable{T:String}
def FD(G:jM X (.type T) r)(L:Gl X x)(O:X.mg x=ae)(Y:iP x=aa (.type T))(B:PA X (e::es) t)(U:x ≠ "__name__":=by decide)(d:NDb x:=by decide)
 (J:StE X e es:=by rfl)(q:BkE X pos es:=by rfl):PE X (.Call (.Name x p) (e::es) [] pos) (tCB r t):=by
 intro pins s σ H Q I h;exact qk (qr I L O Y (vQ (thn (B pos pins s σ H _ I h) λus s1 ⟨vs,H1,z,r1,q1⟩=>G pins s1 σ H1 vs us Q z r1 q1) J q) U d)
end L2
namespace HT
open List
open PySem PyProof.Rows
open PySem.SeqAt
open PySem.AutoSeq1 (wpAny_loadPart')
open PySem.MeetsSeq PySem.MeetsSeq2 PySem.MeetsSeq3
abbrev sIx(n d:Nat):Option Int->Nat
 |none=>d
 |some v=>if v<0 then (v+(n:Int)).toNat else min v.toNat n
def sIx_none(n d:Nat):sIx n d ae=d:=rfl
def sIx_nat(n d k:Nat):sIx n d (aa (k:Int))=min k n:=by
 show(if k<0 then (k+(n:Int)).toNat else min (k:Int).toNat n)=min k n;rw[if_neg (by lia),nF]
end HT
namespace L2
open List
open PySem PySem.Spec PyProof.Rows
@[reducible]noncomputable def TO:=St->Hp->(Option Int->Hp->Prop)->Prop
abbrev PO(X:Cx)(e:Option Expr)(t:TO):Prop:=
 ∀(pins:PNS) (s:ax) (σ:St) (H:Hp) (Q:Option Int->Hp->Prop),Inv X pins σ H s->t σ H Q ->
  wpAny (model X.prog X.w) X.A (evalPart e X.env) (λu s'=>∃o H',Inv X pins σ H' s'/\IsPart u o/\Q o H') X.xe s
abbrev MB:TO:=λ_ H Q=>Q ae H
abbrev MC(t:TE):TO:=λσ H Q=>t σ H λx a=>∃i,x=.int i/\Q (aa i) a
variable{X:Cx}
def FE:PO X ae MB:=by
 intro pins s σ H Q I h;exact eH ⟨ae,H,I,.none,h⟩
variable{e:Expr}{te:TE}
def FF(h:PE X e te):PO X (aa e) (MC te):=by
 intro pins s σ H Q I c;refine thn (h pins s σ H _ I c) λu s1 f=>?_;obtain⟨x,a,b,g,d⟩:=f;obtain⟨i,rfl,q⟩:=d;obtain⟨t,rfl⟩:=g;exact⟨aa i,a,b,.int i t,q⟩
variable{lo hi:Option Expr}
abbrev SlR(X:Cx)(r:V->Option Int->Option Int->Hp->VK->Prop):Prop:=
 ∀(pins:PNS) (s:ax) (σ:St) (H:Hp) (x:V) (v a b:Value) (lo hi:Option Int) (sl:Addr) (Q:VK),Inv X pins σ H s->bh x v->s.heap.IsSliceOf sl a b .none->IsPart a lo->IsPart b hi->r x lo hi H Q ->
  ∃T id,typeLookup (.type T) "__getitem__"=pure (aa (.builtin id))/\s.TypeIs v T/\wpAny (model X.prog X.w) X.A (getItem v (.ref sl)) (EP X pins σ Q) X.xe s
abbrev tSl(r:V->Option Int->Option Int->Hp->VK->Prop)(te:TE)(tl d:TO):TE:=λσ H Q=>te σ H λx a=>tl σ a λl b=>d σ b λu c=>r x l u c Q
variable{th:TO}{pos p2:Pos}
def wf{tl:TO}{r:V->Option Int->Option Int->Hp->VK->Prop}(A:SlR X r)(t:PE X e te)(z:PO X lo tl)(C:PO X hi th):PE X (.Subscript e (.Slice lo hi ae p2) pos) (tSl r te tl th):=by
 intro pins s σ H Q I h;refine Subscript_ (thn (t pins s σ H _ I h) λv s1 c=>?_);obtain⟨x,i,k,N,J⟩:=c;refine wpAny_Slice (thn (z pins s1 σ i _ k J) λd s2 ⟨l,j,m,E,L⟩=>thn (C pins s2 σ j _ m L) λf a c=>?_);obtain⟨u,g,n,G,M⟩:=c;refine eH ?_
 have o:Inv X pins σ g {a with heap:=a.heap.push {cls:=.type "slice",data:=.fields #[d,f,.none]}}:=n.kept λb O q=>gc _ q
 obtain⟨T,id,p,B,y⟩:=A pins {a with heap:=a.heap.push {cls:=.type "slice",data:=.fields #[d,f,.none]}} σ g x v d f l u a.heap.objs.size Q o N (Heap.IsSliceOf.new ..) E G M
 exact tail_any B p y (by with_unfolding_all rfl)
abbrev qw(xs:List V)(lo hi:Option Int):List V:=(xs.drop (HT.sIx xs.length 0 lo)).take (HT.sIx xs.length xs.length hi-HT.sIx xs.length 0 lo)
def MD(xs:List V)(lo hi:Option Int):(qw xs lo hi).length<=xs.length:=by
 unfold qw;rw[fA,f8];lia
abbrev ixN(n:Nat)(i:Int):Option Nat:=if 0<=i then (if i<n then aa i.toNat else ae) else if -(n:Int)<=i then aa (i+n).toNat else ae
abbrev atI{a:Type}(xs:List a)(i:Int):Option a:=(ixN xs.length i).bind λj=>xs[j]?
variable{n j:Nat}{i:Int}
def FG(h:ixN n i=aa j):seqIndex? i n=aa j/\j<n/\-(n:Int)<=i/\i<n:=by
 unfold ixN at h
 by_cases b:0<=i
 .rw[if_pos b]at h
  by_cases a:i<n
  .rw[if_pos a]at h;have e:=dz h;exact⟨by rw[seqIndex_of b a,e],by lia,by lia,a⟩
  .rw[if_neg a]at h;nomatch h
 .rw[if_neg b]at h
  by_cases a:-n<=i
  .rw[if_pos a]at h;have e:=dz h;exact⟨by rw[seqIndex_neg (by lia) a,e],by lia,a,by lia⟩
  .rw[if_neg a]at h;nomatch h
def FH{a:Type}{xs:List a}{v:a}(h:atI xs i=aa v):∃j,seqIndex? i xs.length=aa j/\xs[j]?=aa v/\j<xs.length/\-(xs.length:Int)<=i/\i<xs.length:=by
 unfold atI at h
 cases e:ixN xs.length i with
 |none=>rw[e]at h;nomatch h
 |some j=>
  rw[e]at h;obtain⟨b,c,d,f⟩:=FG e;exact⟨j,b,h,c,d,f⟩
abbrev Ab(b:Expr):Prop:=∀o i,subscripted b ai o i=operate [o,i] (getItem o i)
abbrev IxR(X:Cx)(r:R2):Prop:=
 ∀(value slice:Expr) (pins:PNS) (s:ax) (σ:St) (H:Hp) (x y:V) (v u:Value) (Q:VK),Inv X pins σ H s->bh x v->bh y u->r x y H Q ->
  subscripted slice ai v u=operate [v,u] (getItem v u)->wpAny (model X.prog X.w) X.A (subscriptTail value slice v u) (EP X pins σ Q) X.xe s
abbrev MtR(X:Cx)(id:String)(r:V->List V->Hp->VK->Prop):Prop:=
 ∀(pins:PNS) (s:ax) (σ:St) (H:Hp) (x:V) (xs:List V) (v:Value) (us:LVa) (Q:VK),Inv X pins σ H s->bh x v->aW xs us->r x xs H Q ->
  wpAny (model X.prog X.w) X.A (call (.builtin id) (v::us)) (EP X pins σ Q) X.xe s
variable{r:R2}
def IxR.or{b:R2}(h:IxR X r)(h':IxR X b):IxR X (λx y H Q=>r x y H Q\/b x y H Q):=by
 intro value slice pins s σ H x y v u Q I c d q a
 rcases q with q |q
 .exact h value slice pins s σ H x y v u Q I c d q a
 .exact h' value slice pins s σ H x y v u Q I c d q a
variable{a b:Expr}{ta tb:TE}
def FI(k:IxR X r)(f:PE X a ta)(g:PE X b tb)(l:Ab b):PE X (.Subscript a b pos) (tOp r ta tb):=by
 intro pins s σ H Q I h;exact Subscript_ (v8 f g I h λv u s2 x y c d m o q=>k a b pins s2 σ c x y v u Q d m o q (l _ _))
abbrev ME(K:bo):R2:=λx y H Q=>∃p xs i v,x=.ref p/\y=.int i/\SqL K H p xs/\atI xs i=aa v/\Q v H
abbrev MF(K:bo):R2:=λx y H Q=>∃p xs i v,x=.ref p/\y=.int i/\SqT K H p xs/\atI xs i=aa v/\Q v H
def FJ:IxR X (ME X.K):=by
 intro value slice pins s σ H x y v u Q I L M h o;obtain⟨p,xs,i,z,rfl,rfl,J,E,q⟩:=h;subst L;obtain⟨t,rfl⟩:=M;obtain⟨its,r,g,T⟩:=I.list J;obtain⟨j,d,A,N,B,C⟩:=FH E;obtain⟨w,l,k⟩:=r.get A;have G:=r.length;have O:=td;have c:EP X pins σ Q w s:=⟨z,H,I,k,q⟩
 by_cases m:0<=i
 .have f:i.toNat=j:=by
   rw[seqIndex_of m C]at d;exact dz d
  exact item_listR g.isList m (by lia) (by rw[f];simpa using l) c o
 .have f:(i+its.toArray.size).toNat=j:=by
   rw[seqIndex_neg (by lia) B]at d;rw[size_toArray,<- G];exact dz d
  exact subscriptTail_builtinR g.isList.typeIs slot_list_getitem.lookup
   (wpAny_getItem_list_neg g.isList (by lia) (by rw[size_toArray] <;> lia) (by lia) (by rw[f];simpa using l) ⟨rfl,c⟩) o
def FK:IxR X (MF X.K):=by
 intro value slice pins s σ H x y v u Q I B C h A;obtain⟨p,xs,i,z,rfl,rfl,o,m,q⟩:=h;subst B;obtain⟨t,rfl⟩:=C;obtain⟨its,r,f,M⟩:=I.tuple o;obtain⟨j,k,l,E,G,J⟩:=FH m;obtain⟨w,g,d⟩:=r.get l;have L:=td;have c:EP X pins σ Q w s:=⟨z,H,I,d,q⟩
 exact subscriptTail_builtinR f.typeIs slot_tuple_getitem.lookup
  (getItem_tuple f (by lia) (by lia) (by rw[size_toArray,<- r.length];exact k) (by simpa using g) ⟨rfl,c⟩) A
def MG(its:LVa)(n j:Nat)(u:Value):Obj.mapSeq (·.setIfInBounds j u) {cls:=.type "list",data:=.seq its.toArray n}={cls:=.type "list",data:=.seq (its.set j u).toArray n}:=by
 simp[Obj.mapSeq]
variable{pins:PNS}{σ:St}{H:Hp}{p:Addr}{xs:List V}
def Inv.lst{s:ax}(I:Inv X pins σ H s)(h:H p=aa (.lst xs)):
  ∃(its:LVa) (n:Nat),aW xs its/\s.heap.get? p=aa {cls:=.type "list",data:=.seq its.toArray n}/\xs.length<=bx:=by
 obtain⟨z,its,n,r,e⟩:=I.hok p _ h;exact⟨its,n,r,e,z⟩
variable{ys:List V}
def Inv.lstUpd{s:ax}{its c:LVa}{d:Nat}{f:Obj->Obj}(I:Inv X pins σ H s)(h:H p=aa (.lst xs))
 (l:s.heap.get? p=aa {cls:=.type "list",data:=.seq its.toArray n})(g:f {cls:=.type "list",data:=.seq its.toArray n}={cls:=.type "list",data:=.seq c.toArray d})(r:aW ys c)(m:ys.length<=bx)(t:Nat):
  Inv X pins σ (upd H p (.lst ys)) {s with heap:=s.heap.update p f,toks:=t}:=by
 have e:(s.heap.update p f).get? p=aa {cls:=.type "list",data:=.seq c.toArray d}:=by
  rw[Heap.get?_update_self f l (by rw[g] <;> rfl),g]
 exact I.write (by rw[h];trivial) (.inl rfl) (λb u k q=>(vX _ _ (eM k)).trans q) ⟨_,e⟩ ⟨m,c,d,r,e⟩
abbrev Ac:V->V->V->Hp->(Hp->Prop)->Prop:=λo i v H Q=>∃p xs k j,o=.ref p/\i=.int k/\H p=aa (.lst xs)/\ixN xs.length k=aa j/\Q (upd H p (.lst (xs.set j v)))
def FL:E9 X Ac:=by
 intro pins s σ H o i v ov M u Q I E C G h;obtain⟨p,xs,k,j,rfl,rfl,z,A,q⟩:=h;subst E;obtain⟨t,rfl⟩:=C;obtain⟨its,n,r,g,B⟩:=I.lst z;obtain⟨c,J,x,y⟩:=FG A;have f:=r.length;have L:=td
 have l:Inv X pins σ _ {s with heap:=s.heap.update p _}:=
  I.lstUpd z g (MG its n j u) (r.set G j) (by rw[qd];exact B) s.toks
 by_cases m:0<=k
 .have d:k.toNat=j:=by
   rw[seqIndex_of m y]at c;exact dz c
  exact W.ki_setAt g m (by lia) (by rw[size_toArray,<- f];exact y) (by rw[d];exact⟨_,l,q⟩)
 .have d:(k+its.toArray.size).toNat=j:=by
   rw[seqIndex_neg (by lia) x]at c;rw[size_toArray,<- f];exact dz c
  exact W.ki_setBack g (by lia) (by rw[size_toArray,<- f];exact x) (by lia) (by rw[d];exact⟨_,l,q⟩)
def MH(lo hi:Option Int)(n:Nat):(nN lo hi ae n).1=((HT.sIx n 0 lo:Nat):Int)/\(nN lo hi ae n).2.1=((HT.sIx n n hi:Nat):Int)/\(nN lo hi ae n).2.2=1:=by
 refine⟨?_,?_,rfl⟩
 .cases lo with
  |none=>simp[nN,HT.sIx]
  |some i=>
   simp only[nN,HT.sIx,Option.getD_none]
   by_cases h:i<0
   .simp only[h,if_true] <;> lia
   .simp only[h,if_false] <;> lia
 .cases hi with
  |none=>simp[nN,HT.sIx]
  |some i=>
   simp only[nN,HT.sIx,Option.getD_none]
   by_cases h:i<0
   .simp only[h,if_true] <;> lia
   .simp only[h,if_false] <;> lia
def MI(its:LVa)(lo hi:Option Int):slicePick its.toArray lo hi ae=((its.drop (HT.sIx its.length 0 lo)).take (HT.sIx its.length its.length hi-HT.sIx its.length 0 lo)).toArray:=by
 obtain⟨c,d,f⟩:=MH lo hi its.toArray.size;unfold slicePick;rw[c,d,f]
 simp only[sliceRange_one,pick_run] <;> rfl
abbrev MJ(K:bo):V->Option Int->Option Int->Hp->VK->Prop:=λx lo hi H Q=>∃a xs,x=.ref a/\SqL K H a xs/\∀p,H p=ae->Q (.ref p) (upd H p (.lst (qw xs lo hi)))
def FM:SlR X (MJ X.K):=by
 intro pins s σ H x v u y lo hi sl Q I o f l m h;obtain⟨a,xs,rfl,g,q⟩:=h;subst o;obtain⟨its,r,d,k⟩:=I.list g;have c:=r.length;refine⟨"list",_,slot_list_getitem.lookup,d.isList.typeIs,?_⟩
 refine wpAny_getItem_list_slice d.isList f l m .none (by simp) ?_ (by rw[size_toArray] <;> lia)
 rw[MI,<- c];refine⟨.ref s.heap.objs.size,_,I.laid (λb t q=>gc _ q) (bN _) ?_,rfl,q _ (I.hok.fresh (bN _))⟩;exact⟨ig (MD xs lo hi) k,_,0,(r.drop _).take _,iQ _ rfl⟩
abbrev gG:V->Bool
 |.non=>ac
 |.bl _=>ac
 |.int _=>ac
 |.str _=>ac
 | _=>ai
abbrev eqV:V->V->Bool
 |.non,.non=>ac
 |.bl a,.bl b=>a==b
 |.bl a,.int b=>(if a then 1 else 0)==b
 |.int a,.bl b=>a==(if b then 1 else 0)
 |.int a,.int b=>a==b
 |.str a,.str b=>a==b
 | _,_=>ai
variable{y x:V}{u v:Value}
def FN{A:dL}{s:ax}(f:bh y u)(c:bh x v)(g:gG y=ac)(d:gG x=ac):eE A s u v (eqV y x):=by
 cases y with
 |non=>
  cases f
  cases x with
  |non=>subst c;exact zO _
  |bl b=>subst c;exact eE.none_bool b
  |int b=>obtain⟨t,rfl⟩:=c;exact eE.none_int b t
  |str b=>obtain⟨t,rfl⟩:=c;exact eE.none_str b t
  | _=>exact absurd (d) cp
 |bl a=>
  subst f
  cases x with
  |non=>subst c;exact eE.bool_none a
  |bl b=>subst c;exact eE.bool_bool a b
  |int b=>obtain⟨t,rfl⟩:=c;exact eE.bool_int a b t
  |str b=>obtain⟨t,rfl⟩:=c;exact eE.bool_str a b t
  | _=>exact absurd (d) cp
 |int a=>
  obtain⟨t',rfl⟩:=f
  cases x with
  |non=>subst c;exact eE.int_none a t'
  |bl b=>subst c;exact eE.int_bool a t' b
  |int b=>obtain⟨t,rfl⟩:=c;exact eE.int_int a t' b t
  |str b=>obtain⟨t,rfl⟩:=c;exact eE.int_str a t' b t
  | _=>exact absurd (d) cp
 |str a=>
  obtain⟨t',rfl⟩:=f
  cases x with
  |non=>subst c;exact eE.str_none a t'
  |bl b=>subst c;exact eE.str_bool a t' b
  |int b=>obtain⟨t,rfl⟩:=c;exact eE.str_int a t' b t
  |str b=>obtain⟨t,rfl⟩:=c;exact eE.str_str a t' b t
  | _=>exact absurd (d) cp
 | _=>exact absurd (g) cp
abbrev eqU(x:V)(u:Value):Bool:=match u with
 |.none=>eqV .non x
 |.bool b=>eqV (.bl b) x
 |.int i _=>eqV (.int i) x
 |.str z _=>eqV (.str z) x
 | _=>ai
def FO(r:bh y u)(f:gG y=ac):eqU x u=eqV y x:=by
 cases y with
 |non=>subst r;rfl
 |bl b=>subst r;rfl
 |int i=>obtain⟨t,rfl⟩:=r;rfl
 |str z=>obtain⟨t,rfl⟩:=r;rfl
 | _=>exact absurd (f) cp
def tu{x:V}:∀{xs:List V} {us:LVa},aW xs us->xs.all gG=ac->us.any (eqU x)=xs.any λy=>eqV y x
 | _,_,.nil,_=>rfl
 |y::xs,u::us,.cons r t,f=>by
  rw[nK,cq]at f;rw[any_cons,any_cons,FO r f.1,tu t f.2]
def tw{A:dL}{s:ax}{x:V}{v:Value}(g:bh x v)(d:gG x=ac):∀{xs:List V} {us:LVa},aW xs us->xs.all gG=ac->∀u∈us,eE A s u v (eqU x u)
 | _,_,.nil,_=>λu c=>by nomatch c
 |y::xs,u::us,.cons r t,f=>λh c=>by
  rw[nK,cq]at f
  rcases bC.mp c with rfl |c
  .rw[FO r f.1];exact FN r g f.1 d
  .exact tw g d t f.2 h c
abbrev inV(x:V)(xs:List V):Bool:=xs.any λy=>eqV y x
abbrev rIn(K:bo)(neg:Bool):R2:=λx y H Q=>∃p xs,y=.ref p/\(SqL K H p xs\/SqT K H p xs)/\gG x=ac/\xs.all gG=ac/\Q (.bl (if neg then !inV x xs else inV x xs)) H
def MK:OpR X (eB .In) (rIn X.K ai):=by
 intro pins s σ H x y v u Q I k m h;obtain⟨p,xs,rfl,c,g,fs,q⟩:=h;subst m
 rcases c with c |c
 .obtain⟨its,r,f,l⟩:=I.list c;refine SeqAt.in_listAt _ f.isList (λw d=>tw k g r fs w (by simpa using d)) ⟨.bl _,H,I,rfl,?_⟩;rw[show its.toArray.any _=its.any (eqU x) by simp,tu r fs];exact q
 .obtain⟨its,r,f,l⟩:=I.tuple c;refine SeqAt.in_tupleAt _ f (λw d=>tw k g r fs w (by simpa using d)) ⟨.bl _,H,I,rfl,?_⟩;rw[show its.toArray.any _=its.any (eqU x) by simp,tu r fs];exact q
def ML:OpR X (eB .NotIn) (rIn X.K ac):=by
 intro pins s σ H x y v u Q I k m h;obtain⟨p,xs,rfl,c,g,fs,q⟩:=h;subst m
 rcases c with c |c
 .obtain⟨its,r,f,l⟩:=I.list c;refine SeqAt.notIn_listAt _ f.isList (λw d=>tw k g r fs w (by simpa using d)) ⟨.bl _,H,I,rfl,?_⟩;rw[show its.toArray.any _=its.any (eqU x) by simp,tu r fs];exact q
 .obtain⟨its,r,f,l⟩:=I.tuple c;refine SeqAt.notIn_tupleAt _ f (λw d=>tw k g r fs w (by simpa using d)) ⟨.bl _,H,I,rfl,?_⟩;rw[show its.toArray.any _=its.any (eqU x) by simp,tu r fs];exact q
def MM:jM X (.builtin "len") (λxs H Q=>∃p ys,xs=[.ref p]/\(SqL X.K H p ys\/SqT X.K H p ys)/\Q (.int ys.length) H):=by
 intro pins s σ H xs us Q I r h;obtain⟨p,ys,rfl,d,q⟩:=h;obtain⟨u,rfl,l⟩:=qu r;subst l;have m:=td
 rcases d with d |d
 .obtain⟨its,g,f,k⟩:=I.list d;have c:=g.length
  exact Calls.call_len_list f.isList (by simp only[size_toArray] <;> lia) ⟨.int ys.length,H,I.tok _,⟨s.toks+1,by rw[size_toArray,c]⟩,q⟩
 .obtain⟨its,g,f,k⟩:=I.tuple d;have c:=g.length
  exact len_tuple f (by simp only[size_toArray] <;> lia) ⟨.int ys.length,H,I.tok _,⟨s.toks+1,by rw[size_toArray,c]⟩,q⟩
def MN:jM X (.builtin "len") (λxs H Q=>∃z,xs=[.str z]/\z.length<=bx/\Q (.int z.length) H):=by
 intro pins s σ H xs us Q I r h;obtain⟨z,rfl,d,q⟩:=h;obtain⟨u,rfl,t,rfl⟩:=qu r;have c:=td;exact len_str (by lia) ⟨.int z.length,H,I.tok _,⟨_,rfl⟩,q⟩
abbrev tyV(K:bo)(T:String)(x:V)(H:Hp):Prop:=match x with
 |.str _=>T="str"
 |.int _=>T="int"
 |.ref p=>(T="list" /\ ∃xs,SqL K H p xs)\/(T="tuple" /\ ∃o,K.lookup p=aa o/\o.cls=.type "tuple" /\ o.dict=ae)\/(T="set" /\ ∃S n,H p=aa (.set S n))
 | _=>False
variable{T:String}
def FP{s:ax}(I:Inv X pins σ H s)(r:bh x v)(ty:tyV X.K T x H):
  s.TypeIs v T/\∀a,v=.ref a->∃f,s.heap.get? a=aa f/\f.dict=ae:=by
 cases x with
 |str z=>
  obtain⟨t,rfl⟩:=r;cases (ty)
  exact⟨nO s z t,λ_ e=>nomatch e⟩
 |int i=>
  obtain⟨t,rfl⟩:=r;cases (ty)
  exact⟨typeIs_int s i t,λ_ e=>nomatch e⟩
 |ref p=>
  subst r
  rcases ty with⟨rfl,xs,l⟩ |⟨rfl,o,d,k,hd⟩ |⟨rfl,S,n,d⟩
  .obtain⟨its,_,g,_⟩:=I.list l;refine⟨g.isList.typeIs,λa e=>?_⟩;cases e;obtain⟨o,n,e,c,hd,_⟩:=g;exact⟨o,e,hd⟩
  .refine⟨⟨o,I.kIn p o d,k⟩,λa e=>?_⟩;cases e;exact⟨o,I.kIn _ o d,hd⟩
  .obtain⟨o,_,_,_,e,ex,_⟩:=I.hok p _ d;refine⟨⟨o,e,ex.1⟩,λa h=>?_⟩;cases h
   exact⟨o,e,ex.2.1⟩
 | _=>exact iL ty
abbrev FQ(K:bo)(T:String)(r:V->List V->Hp->VK->Prop)(to:TE):TE:=λσ H Q=>to σ H λx c=>tyV K T x c/\r x [] c Q
abbrev tBM(K:bo)(T:String)(r:V->List V->Hp->VK->Prop)(to:TE)(t:TA):TE:=λσ H Q=>to σ H λx c=>tyV K T x c/\t σ c λxs d=>r x xs d Q
variable{o:Expr}{name:Str}{e6 fb:Pos}{r:V->List V->Hp->VK->Prop}
def FR{to:TE}{id:String}(pa:PlainAttrs T)(slot:Slot T name id)(f:typeOf (.builtin id)=pure (.type "method_descriptor"))(t:MtR X id r)(z:PE X o to)
 (c:mo o name X.env (eval o X.env)=eval o X.env:=by rfl)(d:(e6.endLine==fb.line)=ac:=by rfl):PE X (.Call (.Attribute o name e6) [] [] fb) (FQ X.K T r to):=by
 intro pins s σ H Q I h;refine wpAny_Call_method0_late c d (thn (z pins s σ H _ I h) λv s1 B=>?_);obtain⟨x,l,g,k,ty,A⟩:=B;obtain⟨m,q⟩:=FP g k ty;exact⟨T,id,pa,slot,f,m,q,zI rfl (PySem.evalArgs_none (t pins s1 σ l x [] v [] Q g k .nil A))⟩
variable{es:LEx}{t:TA}
def dB{to:TE}{id:String}(pa:PlainAttrs T)(slot:Slot T name id)(k:typeOf (.builtin id)=pure (.type "method_descriptor"))(J:MtR X id r)(L:PE X o to)(G:PA X (e::es) t)
 (d:mo o name X.env (eval o X.env)=eval o X.env:=by rfl)
 (g:((eD fb (bf (e::es) X.env)).all (λx=>!x.1) && (jg fb (je [] X.env)).all (λx=>x.1.isSome)
   && decide ((e::es).length+([]:List Keyword).length+(if ([]:List Keyword).isEmpty then 0 else 1)<30))=ac:=by rfl)
 (f:(e6.endLine==fb.line)=ac:=by rfl)(M:StE X e es:=by rfl)(c:(eD fb (bf es X.env)).any (·.1)=ai:=by rfl):
  PE X (.Call (.Attribute o name e6) (e::es) [] fb) (tBM X.K T r to t):=by
 intro pins s σ H Q I h;refine wpAny_Call_method_late d g f rfl (thn (L pins s σ H _ I h) λv s1 U=>?_);obtain⟨x,z,l,q,ty,N⟩:=U;obtain⟨C,E⟩:=FP l q ty;refine⟨T,id,pa,slot,k,C,E,?_⟩;have m:=G fb pins s1 σ z _ l N;rw[M]at m ⊢
 exact zI (by show(ai || (eD fb _).any (·.1))=ai;rw[c] <;> rfl) (zJ (thn m λus s2 ⟨vs,A,B,Y,O⟩=>J pins s2 σ A x vs v us Q B q Y O))
abbrev MtM(X:Cx)(id:String)(r:V->List V->Hp->VK->Prop):Prop:=
 ∀(pins:PNS) (s:ax) (σ:St) (H:Hp) (x:V) (xs:List V) (v:Value) (us:LVa) (Q:VK),Inv X pins σ H s->bh x v->aW xs us->r x xs H Q ->
  wpAny (model X.prog X.w) X.A (call (.builtin id) (v::us)) (EP X pins σ Q) X.xe s
def aW.one:∀{x:V} {us:LVa},aW [x] us->∃u,us=[u]/\bh x u
 | _,_,.cons r .nil=>⟨_,rfl,r⟩
variable{l:Addr}{t':Nat}
section
variable{s:ax}
def Inv.lset{its c:LVa}{f:Array Value->Array Value}(I:Inv X pins σ H s)(d:H l=aa (.lst xs))
 (e:s.heap.get? l=aa {cls:=.type "list",data:=.seq its.toArray n})(h:f its.toArray=c.toArray)(m:aW ys c)(z:ys.length<=bx):
  Inv X pins σ (upd H l (.lst ys)) {s with heap:=s.heap.update l (Obj.mapSeq f),toks:=t'}:=by
 have q:=PySem.IsL.update e f;rw[h]at q;exact I.write (by rw[d];exact trivial) (.inl rfl) (λA u g k=>(vX s.heap _ (eM g)).trans k) ⟨_,q⟩ ⟨z,c,_,m,q⟩
end
section
variable{s:ax}
def Inv.lnew{its:LVa}(I:Inv X pins σ H s)(c:aW ys its)(d:ys.length<=bx):
  Inv X pins σ (upd H s.heap.objs.size (.lst ys)) {s with heap:=s.heap.push {cls:=.type "list",data:=.seq its.toArray},toks:=t'}:=
 I.laid (λ_ _ q=>gc _ q) (bN _) ⟨d,its,0,c,iQ _ rfl⟩
end
def Inv.fresh{s:ax}(I:Inv X pins σ H s):H s.heap.objs.size=ae:=I.hok.fresh (bN _)
def Inv.lstM{s:ax}(I:Inv X pins σ H s)(c:H l=aa (.lst xs)):xs.length<=bx/\∃(its:LVa) (n:Nat),aW xs its/\xs.length=its.length/\s.heap.get? l=aa {cls:=.type "list",data:=.seq its.toArray n}:=by
 obtain⟨z,its,n,r,e⟩:=I.hok l _ c;exact⟨z,its,n,r,r.length,e⟩
def MO(h:n<=bx):Builtin.List.listTooLong n=ai:=by
 exact decide_eq_false (by lia)
abbrev wg:V->List V->Hp->VK->Prop:=λx vs H Q=>∃l xs y,x=.ref l/\vs=[y]/\H l=aa (.lst xs)/\xs.length<bx/\Q .non (upd H l (.lst (xs++[y])))
def ff:MtM X "list.append" wg:=by
 intro pins s σ H x vs v us Q I g f h;obtain⟨l,xs,y,rfl,rfl,c,m,q⟩:=h;subst g;obtain⟨u,rfl,d⟩:=f.one;obtain⟨z,its,n,r,k,e⟩:=I.lstM c;refine qo F.slot_list_append ⟨_,e,rfl⟩ F.entry_list_append (F.args_list_append_2 _ _) (PySem.list_append l its.toArray n u (by rw[size_toArray];lia)) ⟨e,?_⟩;refine⟨.non,_,I.lset c e (by simp) (r.append (.cons d .nil)) ?_,rfl,q⟩;rw[aO,f7];lia
abbrev MP:R2:=λx y H Q=>∃l b xs zs,x=.ref l/\y=.ref b/\H l=aa (.lst xs)/\H b=aa (.lst zs)/\xs.length+zs.length<=bx/\∀p,H p=ae->Q (.ref p) (upd H p (.lst (xs++zs)))
def Ad:OpR X (gb .Add) MP:=by
 intro pins s σ H x y v u Q I B C h;obtain⟨l,b,xs,zs,rfl,rfl,k,g,G,q⟩:=h;subst B;subst C;obtain⟨z,its,n,r,E,e⟩:=I.lstM k;obtain⟨L,c,J,A,m,d⟩:=I.lstM g;refine PySem.P.add_list e d ?_ (by rw[size_toArray,size_toArray];lia);have f:its.toArray++c.toArray=(its++c).toArray:=by simp
 rw[f];exact⟨.ref _,_,I.lnew (r.append A) (by rw[aO];lia),rfl,q _ I.fresh⟩
end L2
namespace Att
open List
open PySem PySem.W PySem.Calls PyProof.Rows
variable{P:Params}{h:Heap}
def MQ:∀(ns:List Int) (vs:LVa),WellAll P h vs (ns.map WData.int)->IntsAre vs ns:=by
 intro ns
 induction ns with
 |nil=>
  intro vs w;cases w
  exact .nil
 |cons n ns c=>
  intro vs w
  cases w with
  |cons a b=>
   cases a;exact .cons _ _ (c _ b)
variable{l:OpenLaw}{n:Nat}
def MS(p:l.most=aa n){args:List WData}{c:LVa}
 (b:l.row.toRowW.claim.pre args=ac)(j:WellAll P h c args):
  ∃a vs ns,c=[gq a]/\args=[WData.list (ns.map WData.int)]/\h.get? a=aa {cls:=.type "list",data:=.seq vs.toArray}/\IntsAre vs ns/\ns.length<=n:=by
 obtain⟨d,r,rfl,k,m⟩:=hasAllW_cons ((pre_splitW b).1);obtain rfl:=hasAllW_nil m;obtain⟨xs,rfl,o⟩:=hasW_list k;obtain⟨ns,rfl⟩:=items_int o
 have f:ns.length<=n:=by
  have g:(WTm.not (.lt (.lit (.int n)) (.len (.arg 0)))).holds [] {args:=[.list (ns.map .int)]}=ac:=by
   have g:=(holds_andW ((pre_splitW b).2)).1;rw[p]at g;exact g
  have i:=condW_of g (w_not (w_lt w_lit (w_len_list (w_arg rfl))))
  first
   |(rw[decide_eq_true q']at i;exact absurd i (by decide))
   |(simp at i;lia)
 cases j with
 |cons t u=>
  cases u
  cases t with
  |list q e=>exact⟨_,_,ns,rfl,rfl,q,MQ ns _ e,f⟩
def MT(l:OpenLaw)(args:List WData):l.row.toRowW.claim.post args (.bool ac) args=ac:=
 postW_of
  (show WShape.has [] _ .bool=ac by first |rfl |decide |simp[WShape.has])
  (w_eq_bool (w_res rfl) w_lit) rfl
variable{q:eC}{hF:LSt}{XP:MGT->Heap->Prop}{YP:World->Heap->Prop}{d:DefRec}
def attach_call
 (J:l.most=aa n)(p:d.params.defaults=[])
 (call:∀ (w:World) (s₀ b:ax) (mg mb:MGT) (e:Addr) (o:Obj) (pm k doc:Value) (a:Addr) (vs:LVa) (ns:List Int),
   Ground q hF [] XP w s₀ mg mb b.heap->YP w b.heap ->
   b.heap.get? e=aa o->o.data=.func (docDef d.name d.params d.body d.scope pm k doc)->b.heap.CodeRec k d.name->mg d.name=aa (.ref e) ->
   b.heap.get? a=aa {cls:=.type "list",data:=.seq vs.toArray}->IntsAre vs ns->ns.length<=n->b.gens=#[] ->
   jh (model l.prog w) callerA (.call (.ref e) ⟨[.ref a],[]⟩) (λr s'=>r=.ok (.ret (.bool ac))/\OldK b.heap s'.heap/\s'.os=b.os/\kh s'.gens) b):
  WalkO q hF XP YP l.row.toRowW d [] (λf vs=>PySem.call f vs):=by
 intro w s₀ b mg mb G Y e o pm k doc z kV L hd m v t E args y O j x N u H;obtain rfl:z=.none:=Dflts.none v p;obtain rfl:kV=.none:=Dflts.noKw v;obtain⟨a,vs,ns,rfl,rfl,i,c,g⟩:=MS J j u;refine enter_call (codeAny_mono (call w s₀ b mg mb e o pm k doc a vs ns G Y L (fd_plain hd) m t i c g E) λr s' M=>?_);obtain⟨rfl,A,B,C⟩:=M;exact⟨.inl ⟨.bool ac,.bool ac,[],rfl,λ_=>rfl,.bool ac,MT l _,λ_=>⟨List.Pairwise.nil,λ_ I=>(nomatch I)⟩⟩,A,B,C⟩
end Att
namespace L2
open List
open PySem PySem.Spec PyProof.Rows
def FS:∀{vs:LVa} {ns:List Int},IntsAre vs ns->aW (ns.map V.int) vs
 | _,_,.nil=>.nil
 | _,_,.cons n t h=>.cons ⟨t,rfl⟩ (FS h)
abbrev wj(H:Hp):Prop:=∀b,H b=ae\/∃o xs,H b=aa (.frz o (.lst xs))
variable{P:eC}{K:bo}{mg:MGT}{k:Nat}{a:Addr}{fd:fD}{x:Str}
def MU{w:World}{mb:MGT}{CX:CXT}{I:Addr}{sp:Sp}{c:ax}{vs:LVa}{ns:List Int}
 (Q:K.In c.heap)(y:c.heap.Ns cW mg)(g:c.heap.Ns builtinsNs mb)(L:∀x:Str,x ≠ "__name__" -> mb x=iP x)(t:c.heap.NoLimit)(hg:c.gens=#[])
 (E:c.heap.get? a=aa {cls:=.type "list",data:=.seq vs.toArray})(hi:IntsAre vs ns)(hl:ns.length<=bx)(hr:bT k callerA)
 (F:∀base:Heap,K.In base->base.Ns cW mg->dH P w K mg base CX k I fd [x] sp)(l:∀(s:ax) (u:Value),BindsTo s fd ⟨[u],[]⟩ [(x,u)])
 (N:∀H:Hp,wj H->SqL K H a (ns.map V.int)->sp [.ref a] H (λv _=>v=.bl ac) λ_ _ _=>False)
 (J:∀H e s',CX [] H c (λ_ _ _=>False) e s'->False):
  jh (model P w) callerA (.call (.ref I) ⟨[.ref a],[]⟩) (λr s'=>r=.ok (.ret (.bool ac))/\OldK c.heap s'.heap/\s'.os=c.os/\kh s'.gens) c:=by
 have rv:=FS hi
 have j:∀H:Hp,wj H->SqL K H a (ns.map V.int)->HOk P w H c.heap->(∀b,H b≠ae->b=a)->(H a≠ae->K.lookup a=ae) ->
   jh (model P w) callerA (.call (.ref I) ⟨[.ref a],[]⟩) (λr s'=>r=.ok (.ret (.bool ac))/\OldK c.heap s'.heap/\s'.os=c.os/\kh s'.gens) c:=by
  intro H Y hS hok U hK;have f:∀{b:Addr} {o:Obj},c.heap.get? b=aa o->H b=ae->(qq c.heap H).get? b=aa o:=λe n=>KZ e n
  have O:∀{b:Addr} {o:Obj} {es:Array DictEntry} {C:Nat},c.heap.get? b=aa o->o.data=.dict es C->H b=ae:=λ{b o es C} e d=>by
   cases q:H b with
   |none=>rfl
   |some u=>
    have G:=U b (by rw[q];simp);subst G;rw[E]at e;cases e
    nomatch d
  have i:∀{b:Addr} {m:MGT},c.heap.Ns b m->(qq c.heap H).Ns b m:=λ{b m} ⟨o,es,C,e,d,r⟩=>⟨o,es,C,f e (O e d),d,r⟩
  have p:=λb o e=>f (Q b o e) (by
   cases q:H b with
   |none=>rfl
   |some u=>
    have G:=U b (by rw[q];simp);subst G;rw[hK (by rw[q];simp)]at e;nomatch e)
  have hM:Mod K mg _:=⟨p,i y,⟨mb,i g,L⟩,let ⟨mc,h1,h2⟩:=t;⟨mc,i h1,h2⟩⟩;have e0:oa P w K mg _ callerA [] c H:=⟨rfl,hM,λb o e=>K0 e,vN (KY _ _),trivial,λb g=>absurd (show b∈([]:LAd)from g) (by simp),hok,.of_eq hg⟩;refine codeAny_mono ((F _ p (i y)).run callerA [] c H ⟨[.ref a],[]⟩ _ [.ref a] _ _ hr e0 (l c _) (.cons rfl .nil) (N H Y hS)) λr s' h=>?_
  cases r with
  |error e=>exact(J H e s' h).elim
  |ok fl=>
   cases fl with
   |next=>exact iL h
   |brk=>exact iL h
   |cont=>exact iL h
   |ret u=>
    obtain⟨v,H',os,bare,un,A,r',q⟩:=h;subst q;obtain rfl:u=nS ac:=r';refine⟨rfl,OldK.of_keep λb o e=>?_,os,bare⟩
    cases q:H b with
    |none=>exact un.keep b o e q (by intro z;exact absurd (show b∈([]:LAd)from z) (by simp)) (by simp)
    |some u=>
     rcases Y b with z |⟨ob,xs,z⟩
     .rw[q]at z;nomatch z
     .have z2:=un.frzs b ob _ z;obtain⟨T,_⟩:=hok b _ z;obtain⟨e2,_⟩:=A b _ z2;rw[e]at T;cases T;exact e2
 cases M:K.lookup a with
 |some o=>
  have e:=Q a o M;rw[E]at e;cases e
  refine j _ (λ_=>.inl rfl) (.inr ⟨_,vs.toArray,_,M,rfl,rfl,rfl,by rw[size_toArray,hi.length];exact hl,by simpa using rv⟩) (λb u z=>by have B:_=aa u:=z;nomatch B) (λb z=>absurd rfl z) λz=>absurd rfl z
 |none=>
  refine j (λb=>if b=a then aa _ else ae) (λb=>?_) (.inl (.inr ⟨{cls:=.type "list",data:=.seq vs.toArray},if_pos rfl⟩)) (λb u z=>?_) (λb z=>?_) λ_=>M
  .by_cases g:b=a
   .exact .inr ⟨_,_,if_pos g⟩
   .exact .inl (if_neg g)
  .by_cases g:b=a
   .have B:=(if_pos g).symm.trans z;cases B;subst g;exact⟨E,by rw[cf];exact hl,vs,_,rv,E⟩
   .have B:=(if_neg g).symm.trans z
    nomatch B
  .by_cases g:b=a
   .exact g
   .exact absurd (if_neg g) z
variable{h:Heap}
@[reducible]noncomputable def KOf(_:K.In h):bo:=K
variable{l:W.OpenLaw}{n:Nat}{q:eC}{hF:LSt}{XP:MGT->Heap->Prop}{YP:World->Heap->Prop}{d:DefRec}
def MV{K:Params->bo}{CX:World->CXT}{sp:World->Sp}
 (O:l.most=aa n)(z:n<=bx)(t:d.params.defaults=[])(Q:bT k callerA)
 (J:∀(w:World) (h:Heap),YP w h->(K w.params).In h)
 (F:∀ (w:World) (mg:MGT) (p:Addr) (h:Heap),(K w.params).In h->h.Ns cW mg->mg d.name=aa (.ref p) ->
   ∃fd:fD,(∀(s:ax) (u:Value),BindsTo s fd ⟨[u],[]⟩ [(x,u)]) /\
    ∀base:Heap,(K w.params).In base->base.Ns cW mg->dH l.prog w (K w.params) mg base (CX w) k p fd [x] (sp w))
 (A:∀(w:World) (H:Hp) (a:Addr) (ns:List Int),ns.length<=n->wj H->SqL (K w.params) H a (ns.map V.int)->sp w [.ref a] H (λv _=>v=.bl ac) λ_ _ _=>False)
 (r:∀(w:World) (H:Hp) (s:ax) (e:Value) (s':ax),CX w [] H s (λ_ _ _=>False) e s'->False):
  W.WalkO q hF XP YP l.row.toRowW d [] (λf vs=>PySem.call f vs):=by
 refine Att.attach_call O t λw s₀ m mg mb p o pm U doc a vs ns G Y ho hd M y j i c N=>?_;have B:=J w _ Y;obtain⟨fd,L,C⟩:=F w mg p _ B G.T.g y;exact MU B G.T.g G.T.b G.T.builtins G.T.nolimit N j i (ig c z) Q C L (λH E I=>A w H a ns c E I) λH e s'=>r w H m e s'
variable{CX:CXT}
def walk_ofK{K:Params->bo}{sp:bo->Sp}
 (t:l.most=aa n)(g:n<=bx)(c:d.params.defaults=[])(y:bT k callerA)
 (r:∀(w:World) (h:Heap),YP w h->(K w.params).In h)
 (F:∀ (w:World) (mg:MGT) (j:Addr) (h:Heap),(K w.params).In h->h.Ns cW mg->mg d.name=aa (.ref j) ->
   ∃fd:fD,(∀(s:ax) (u:Value),BindsTo s fd ⟨[u],[]⟩ [(x,u)]) /\
    ∀base:Heap,(K w.params).In base->base.Ns cW mg->dH l.prog w (K w.params) mg base CX k j fd [x] (sp (K w.params)))
 (i:∀(K:bo) (H:Hp) (a:Addr) (ns:List Int),ns.length<=n->wj H->SqL K H a (ns.map V.int)->sp K [.ref a] H (λv _=>v=.bl ac) λ_ _ _=>False)
 (b:∀(H:Hp) (s:ax) (e:Value) (s':ax),CX [] H s (λ_ _ _=>False) e s'->False):
  W.WalkO q hF XP YP l.row.toRowW d [] (λf vs=>PySem.call f vs):=
 MV t g c y r F (λw H a ns m o p=>i _ H a ns m o p) λ_ H s e s'=>b H s e s'
abbrev dM(s:Stmt)(j:Nat):Stmt:=match s with
 |.ClassDef _ _ _ body _ _ _ _ _ _ _=>body.getD j (.Pass ⟨0,0,0,0⟩)
 | _=>.Pass ⟨0,0,0,0⟩
abbrev tB(s:Stmt):Arguments:=match s with
 |.FunctionDef _ a _ _ _ _ _ _ _ _=>a
 | _=>{posonlyargs:=[],args:=[],vararg:=ae,kwonlyargs:=[],kw_defaults:=[],kwarg:=ae,defaults:=[]}
abbrev iV(s:Stmt):List Stmt:=match s with
 |.FunctionDef _ _ b _ _ _ _ _ _ _=>b
 | _=>[]
abbrev aK(s:Stmt):Scope:=match s with
 |.FunctionDef _ _ _ _ _ _ sc _ _ _=>sc
 | _=>{kind:=.function,names:=[],isGenerator:=ai,isCoroutine:=ai}
nonrec abbrev CX0:CXT:=λ_ _ _ _ _ _=>False
nonrec abbrev E0:XK:=λ_ _ _=>False
variable{X:Cx}
def jj:fV CX0 X E0:=λ_ _ _ _ _ _ _ h=>h.elim
structure Fun(K:bo)(x qual:Str)(st:Stmt)(f:Addr)(fd:fD):Prop where
 ex:∃(oc:Value) (od:Option Addr) (kV doc pm:Value) (an:Option Addr) (cdv ct:Value) (osl:Array (Option Value)),
  fd=W.fnOf x qual (tB st) (iV st) (aK st) .none kV doc pm an cdv ct/\K.lookup f=aa ⟨oc,od,.func fd,osl⟩/\W.codeIn K cdv qual=ac
 kp:mw K (.ref f)=ac
variable{base:Heap}{qual:Str}{st:Stmt}{f:Addr}{N ps:LSt}{sp:Sp}
def Fun.ok{w:World}(F:Fun K x qual st f fd)(S:aX N ps (aK st))(len:∀vs H Q E,sp vs H Q E->vs.length=ps.length)
 (b:∀ (cdv:Value) (A:dL) (outer:List Env) (s:ax) (H:Hp) (vs:List V) (Q:VK) (E:XK),bT k (A.deeper (gC qual (aK st) s.heap.objs.size f cdv))->sp vs H Q E ->
   ∃t,PSs (gF CX0 P w K mg base N qual (aK st) f cdv A outer s H E).nox (iV st) t/\t {nx:=λ_ H'=>Q .non H',rt:=Q} (start N vs) H):dH P w K mg base CX0 (k+1) f fd ps sp:=by
 obtain⟨oc,od,kV,doc,pm,an,cdv,ct,osl,rfl,i,c⟩:=F.ex;refine FC i c S len λA outer s H vs Q E g e=>?_;obtain⟨t,h,q⟩:=b cdv A outer s H vs Q E g e;exact⟨t,h.nox,q⟩
def Fun.binds(F:Fun K x qual st f fd)
 (h:∀(kV doc pm:Value) (an:Option Addr) (cdv ct:Value) (us:LVa),us.length=ps.length->bindArgs (W.fnOf x qual (tB st) (iV st) (aK st) .none kV doc pm an cdv ct) ⟨us,[]⟩=pure (ps.zip us)):gY K fd ps []:=by
 obtain⟨oc,od,kV,doc,pm,an,cdv,ct,osl,rfl,c,b⟩:=F.ex;exact .all (h kV doc pm an cdv ct)
def fun_mk{oc:Value}{od an:Option Addr}{osl:Array (Option Value)}{kV doc pm cdv ct:Value}(l:K.lookup f=aa ⟨oc,od,.func (W.fnOf x qual (tB st) (iV st) (aK st) .none kV doc pm an cdv ct),osl⟩)
 (c:W.codeIn K cdv qual=ac)(k:mw K (.ref f)=ac):Fun K x qual st f (W.fnOf x qual (tB st) (iV st) (aK st) .none kV doc pm an cdv ct):=⟨⟨oc,od,kV,doc,pm,an,cdv,ct,osl,rfl,l,c⟩,k⟩
structure Df(K:bo)(mg:MGT)(x:Str)(st:Stmt)(ps:LSt)(e:Addr×fD):Prop where
 F:Fun K x x st e.1 e.2
 b:gY K e.2 ps []
 g:mg x=aa (.ref e.1)
structure Dm(K:bo)(C:Addr)(x q:Str)(st:Stmt)(ps:LSt)(e:Addr×fD):Prop where
 F:Fun K x q st e.1 e.2
 b:gY K e.2 ps []
 m:tf K C x e.1
structure Pk(P:eC)(w:World)(K:bo)(mg:MGT)(base:Heap)(CX:CXT)(k:Nat)(x:Str)(e:Addr×fD)(ps:LSt)(sp:Sp):Prop where
 ok:dH P w K mg base CX k e.1 e.2 ps sp
 g:mg x=aa (.ref e.1)
 kp:mw K (.ref e.1)=ac
 b:gY K e.2 ps []
structure Pm(P:eC)(w:World)(K:bo)(mg:MGT)(base:Heap)(CX:CXT)(k:Nat)(C:Addr)(x:Str)(e:Addr×fD)(ps:LSt)(sp:Sp):Prop where
 ok:dH P w K mg base CX k e.1 e.2 ps sp
 c:Cls K C
 m:tf K C x e.1
 b:gY K e.2 ps []
variable{e:Addr×fD}
def Df.pk{w:World}(E:Df K mg x st ps e)(o:dH P w K mg base CX k e.1 e.2 ps sp):Pk P w K mg base CX k x e ps sp:=⟨o,E.g,E.F.kp,E.b⟩
variable{q:Str}{C:Addr}
def Dm.pk{w:World}(E:Dm K C x q st ps e)(c:Cls K C)(o:dH P w K mg base CX k e.1 e.2 ps sp):Pm P w K mg base CX k C x e ps sp:=⟨o,c,E.m,E.b⟩
structure Dq(K:bo)(x:Str)(st:Stmt)(f:Addr)(fd:fD):Prop where
 a:fc K cW x=aa (aa (.ref f))
 F:Fun K x x st f fd
structure Dp(K:bo)(C:Addr)(x q:Str)(st:Stmt)(f:Addr)(fd:fD):Prop where
 a:fE K (.ref C) x=aa (aa (.ref f))
 i:W.isFn K (.ref f)=ac
 F:Fun K x q st f fd
nonrec abbrev Ae(x q:Str)(st:Stmt)(ps:LSt):Prop:=∀(kV doc pm:Value) (an:Option Addr) (cdv ct:Value) (us:LVa),us.length=ps.length->bindArgs (W.fnOf x q (tB st) (iV st) (aK st) .none kV doc pm an cdv ct) ⟨us,[]⟩=pure (ps.zip us)
def Dq.mk2(d:Dq K x st f fd)(X:K.In h)(G:h.Ns cW mg)(b:Ae x x st ps:=by walk_at "bd"):Df K mg x st ps (f,fd):=⟨d.F,d.F.binds b,iT X G d.a⟩
def Dp.mk2(d:Dp K C x q st f fd)(b:Ae x q st ps:=by walk_at "bd"):Dm K C x q st ps (f,fd):=⟨d.F,d.F.binds b,⟨d.a,d.i,d.F.kp⟩⟩
def Dq.bt{p:Str}(d:Dq K x st f fd)(b:Ae x x st [p])(s:ax)(v:Value):BindsTo s fd ⟨[v],[]⟩ [(p,v)]:=by
 obtain⟨oc,od,kV,doc,pm,an,cdv,ct,osl,rfl,g,c⟩:=d.F.ex;exact .of_eq (b kV doc pm an cdv ct [v] rfl)
def tE(h:n<=1000):n<bx:=Nat.lt_of_le_of_lt h (by decide)
variable{pos:Pos}
def pv(i:Nat)(c:X.N[i]?=aa x:=by rfl)(g:Vis X.env.scope x:=by first |exact bV rfl |exact bA (bV rfl) |exact bA (bA rfl))(hd:NDb x:=by decide)
 (b:NCd x:=by decide):PE X (.Name x pos) (df i):=ku c g hd b
def MW{A B:Prop}(h:A):if ac=ac then A else B:=by
 rw[if_pos rfl];exact h
abbrev aR(H H':Hp):Prop:=∀b o,H b=aa o->H' b=aa o
def aR.refl(H:Hp):aR H H:=λ_ _ h=>h
variable{H H1 H2:Hp}
def aR.trans(a:aR H H1)(b:aR H1 H2):aR H H2:=λc o h=>b c o (a c o h)
variable{H':Hp}{l:Addr}
def aR.free(e:aR H H')(h:H' l=Option.none):H l=Option.none:=by
 cases q:H l with
 |none=>rfl
 |some o=>
  rw[e l o q]at h
  nomatch h
variable{xs:List V}
def aR.seq(e:aR H H')(h:SqL K H a xs):SqL K H' a xs:=by
 rcases h with(h |⟨o,h⟩) |h
 .exact .inl (.inl (e _ _ h))
 .exact .inl (.inr ⟨o,e _ _ h⟩)
 .exact .inr h
section
variable{κ:Type}[DecidableEq κ]
end
section
variable{κ:Type}[DecidableEq κ]
end
end L2
set_option maxHeartbeats 4000000
namespace L2
open List
open PySem
def Af{env:Env}(f:(Str×gU)->List (Str×Addr)->Sem (ForInStep (List (Str×Addr))))
 (m:∀n k r,k≠ge->f (n,k) r=pure (.yield r))
 (o:∀n r c,env.cells.lookup n=aa c->f (n,.free) r=pure (.yield ((n,c)::r))):
  ∀(l:List (Str×gU)) (acc:List (Str×Addr)),(∀x∈l,x.2=.free->∃c,env.cells.lookup x.1=aa c) ->
   (∀x c,acc.lookup x=aa c->env.cells.lookup x=aa c) ->
   ∃cl,forIn l acc f=(pure cl:Sem _)/\(∀x c,cl.lookup x=aa c->env.cells.lookup x=aa c) /\
    (∀x,((∃c,acc.lookup x=aa c)\/(x,ge)∈l)->∃c,cl.lookup x=aa c)
 | [],acc,_,ha=>⟨acc,rfl,ha,λx a=>a.elim id (λz=>nomatch z)⟩
 |(n,k)::l,acc,hl,ha=>by
  have g:=λx a=>hl x (bQ _ a)
  by_cases q:k=.free
  .subst q;obtain⟨c,t⟩:=hl _ be rfl;have d:=t
   have p:∀x b,((n,c)::acc).lookup x=aa b->env.cells.lookup x=aa b:=λx b a=>by
    rw[f9]at a
    cases e:x==n with
    |true=>
     rw[e]at a;cases a
     rw[eq_of_beq e];exact d
    |false=>
     rw[e]at a;exact ha x b a
   obtain⟨cl,e,h,i⟩:=Af f m o l _ g p;refine⟨cl,?_,h,λx a=>i x ?_⟩
   .rw[forIn_cons,o n acc c d,pure_bind];exact e
   .have here:∀b,acc.lookup x=aa b->∃j,((n,c)::acc).lookup x=aa j:=λb z=>by
     rw[f9]
     cases e:x==n with
     |true=>exact⟨c,rfl⟩
     |false=>exact⟨b,z⟩
    rcases a with⟨b,z⟩ |a
    .exact .inl (here b z)
    .rcases bC.mp a with z |z
     .cases z;refine .inl ⟨c,?_⟩;rw[f9,beq_self_eq_true]
     .exact .inr z
  .obtain⟨cl,e,h,i⟩:=Af f m o l acc g ha;refine⟨cl,?_,h,λx a=>i x ?_⟩
   .rw[forIn_cons,m n k acc q,pure_bind];exact e
   .rcases a with a |a
    .exact .inl a
    .rcases bC.mp a with z |z
     .cases z;exact absurd rfl q
     .exact .inr z
variable{scope:Scope}{env:Env}
def Ag(h:∀x∈scope.names,x.2=.free->∃c,env.cells.lookup x.1=aa c):
  ∃cl,closureFor scope env=pure cl/\(∀x c,cl.lookup x=aa c->env.cells.lookup x=aa c)/\(∀x,(x,ge)∈scope.names->∃c,cl.lookup x=aa c):=by
 obtain ⟨cl,e,b,d⟩:=Af (λx r=>(match x with
   |(name,kind)=>if (kind==ge)=ac then (do let a <- cellOf env name;pure (pZ ((name,a)::r))) else (pure (pZ r):Sem _)))
  (λn k r g=>by
   have:(k==ge)=ai:=by simpa using g
   simp only[this,Bool.false_eq_true,if_false])
  (λn r c f=>by
   simp only[beq_self_eq_true,if_true,cellOf,f,pure_bind])
  scope.names [] h (λx c z=>by nomatch z)
 refine⟨cl,?_,b,λx i=>d x (.inr i)⟩;refine(congrArg _ ?_).trans ((congrArg (λt=>t >>= pure) e).trans (pure_bind _ _));rfl
nonrec abbrev E00:Value->ax->Prop:=λ_ _=>False
variable{prog:eC}{A:dL}{R:Result->ax->Prop}{fx iter:Expr}{fy:LEx}{pos:Pos}
section
variable{w:World}{s:ax}
def MX{a:Expr}{it acc:Value}(I:Nat->ax->Prop)
 (t:∀ n s,I n s->wpAny (model prog w) A (pyNext it) (λr b=>match r with
   |none=>R (.ok .next) b
   | some v=>wpAny (model prog w) A (letOwnedTupleGo a it v) (λ_ d=>wpAny (model prog w) A (assign a env v) (λ_ i =>
     wpAny (model prog w) A (forIn fy ac λc r=>if r=ac then do let ok <- isTrue c env (eval c env); pure (pZ ok) else pure (pZ r)) (λok e =>
      if ok=ac then wpAny (model prog w) A (eval fx env) (λx j =>
       wpAny (model prog w) A (call (.builtin "list.append") [acc,x]) (λ_ k=>∃m,m<n/\I m k) (notedBy (model prog w) A env λx s'=>R (.error x) s') j) (notedBy (model prog w) A env λx s'=>R (.error x) s') e
      else ∃m,m<n/\I m e) (notedBy (model prog w) A env λx s'=>R (.error x) s') i) (notedBy (model prog w) A env λx s'=>R (.error x) s') d) (notedBy (model prog w) A env λx s'=>R (.error x) s') b) (notedBy (model prog w) A env λx s'=>R (.error x) s') s)
 (n:Nat)(h:I n s):
  jh (model prog w) A (.compLoop (.ListComp fx [⟨a,iter,fy,0⟩] scope pos) 0 it acc env) R s:=by
 refine codeAny_loop rfl I (λn s u=>?_) n h;refine wpAny_noted ?_;refine bK (wpAny_standAt (bK (fB (t n s u) (λr b f=>?_) λ_ _ h'=>h')))
 cases r with
 |none=>exact eH f
 |some v=>
  refine bK (fB f (λ_ d l=>?_) λ_ _ h'=>h');refine bK (fB l (λ_ i o=>bK (fB o (λok e g=>?_) λ_ _ h'=>h')) λ_ _ h'=>h')
  cases ok with
  |false=>exact eH ⟨rfl,g⟩
  |true=>
   exact bK (bK (fB g (λx j p=>bK (fB p (λ_ k q=>eH (eH ⟨rfl,q⟩)) λ_ _ h'=>h')) λ_ _ h'=>h'))
end
open PySem.Spec PyProof.Rows
@[reducible]noncomputable def Cx.comp(X:Cx)(scope:Scope)(Nc:LSt)(cl:List (Str×Addr))(C:Addr)(ex:LAd)(b:ax)(a:Hp):Cx:=
 {X with N:=Nc,s₀:=b,H₀:=a,env:=compEnvC scope cl C X.env,outer:=X.stack,ex:=ex,fn:=λ_=>ai,pn:=[],xe:=E00}
def Ah{env:Env}:∀{names:List (Str×gU)} {x:Str},names.lookup x=aa .free ->
  (names.map λ(n,k)=>if (k==ge && env.scope.kind==.function && env.kindOf n==aa .cell) then (n,nQ) else (n,k)).lookup x=aa .cell \/
  (names.map λ(n,k)=>if (k==ge && env.scope.kind==.function && env.kindOf n==aa .cell) then (n,nQ) else (n,k)).lookup x=aa .free
 | [],_,h=>by simp at h
 |(n,k)::r,x,h=>by
  have b:=@Ah env r x;show jI x ((if _=ac then _ else _)::_)=_\/jI x ((if _=ac then _ else _)::_)=_;rw[f9]at h
  cases a:x==n with
  |true=>
   rw[a]at h;cases h;split
   .left;rw[f9,a]
   .right;rw[f9,a]
  |false=>
   rw[a]at h;split
   .rw[f9,a];exact b h
   .rw[f9,a];exact b h
def Ai{env:Env}{a:gU}(b:a=.cell\/a=.free):∀{names:List (Str×gU)} {x:Str},
  (names.map λ(n,k)=>if (k==ge && env.scope.kind==.function && env.kindOf n==aa .cell) then (n,nQ) else (n,k)).lookup x=aa a ->
  (x,ge)∈names\/(x,nQ)∈names
 | [],_,h=>by simp at h
 |(n,k)::r,x,h=>by
  have h':jI x ((if _=ac then _ else _)::_)=aa a:=h
  cases c:x==n with
  |true=>
   have e:=eq_of_beq c;subst e;split at h'
   .rename_i d
    have g:k=.free:=by
     rw[cq,cq]at d;exact eq_of_beq d.1.1
    subst g;exact .inl be
   .rw[f9,c]at h';have e:=dz h';subst e
    rcases b with z |z
    .subst z;exact .inr be
    .subst z;exact .inl be
  |false=>
   have f:(r.map λ(n,k)=>if (k==ge && env.scope.kind==.function && env.kindOf n==aa .cell) then (n,nQ) else (n,k)).lookup x=aa a:=by
    split at h' <;> (rw[f9,c]at h';exact h')
   rcases(@Ai env a b r x) f with z |z
   .exact .inl (bQ _ z)
   .exact .inr (bQ _ z)
abbrev jN(scope:Scope)(outer:List (Str×gU))(N Nc:LSt)(k:Nat)(js:LN):Bool:=
 scope.names.all (λx=>(x.2 != .free || outer.lookup x.1==aa .cell || outer.lookup x.1==aa .free) && x.2 != .cell && (x.2 != .local || scope.names.lookup x.1==aa .local)) &&
 scope.kind==.function && Nc.length==k+js.length &&
 (dG js.length).all (λi=>match Nc[k + i]?,js[i]? with
  |some x,aa j=>N[j]?==aa x && scope.names.lookup x==aa .free
  | _,_=>ai)
structure mC(scope:Scope)(outer:List (Str×gU))(N Nc:LSt)(k:Nat)(js:LN):Prop where
 free:∀x∈scope.names,x.2=.free->outer.lookup x.1=aa .cell\/outer.lookup x.1=aa .free
 nocell:∀x∈scope.names,x.2≠.cell
 loc:∀x∈scope.names,x.2=.local->scope.names.lookup x.1=aa .local
 kind:scope.kind=.function
 len:Nc.length=k+js.length
 at':∀i j,js[i]?=aa j->∃x,Nc[k+i]?=aa x/\N[j]?=aa x/\scope.names.lookup x=aa .free
variable{N Nc:LSt}{k:Nat}{js:LN}
def mC.of{outer:List (Str×gU)}(h:jN scope outer N Nc k js=ac):mC scope outer N Nc k js:=by
 unfold jN at h;rw[cq,cq,cq]at h;obtain⟨⟨⟨b,d⟩,f⟩,c⟩:=h;rw[all_eq_true]at b c;refine⟨λx a e=>?_,λx a e=>?_,λx a e=>?_,eq_of_beq d,eq_of_beq f,λi j e=>?_⟩
 .have:=b x a;simp only[cq,jH,bne_iff_ne,beq_iff_eq]at this
  rcases this.1.1 with(z |z) |z
  .exact absurd e z
  .exact .inl z
  .exact .inr z
 .have:=b x a;simp only[cq,bne_iff_ne]at this;exact this.1.2 e
 .have:=b x a;simp only[cq,jH,bne_iff_ne,beq_iff_eq]at this
  rcases this.2 with z |z
  .exact absurd e z
  .exact z
 .have hi:=(cV.mp e).1;have:=c i (kg.mpr hi);rw[e]at this
  cases q:Nc[k+i]? with
  |none=>rw[q]at this;nomatch this
  |some x=>
   rw[q]at this;simp only[cq,beq_iff_eq]at this;exact⟨x,rfl,this.1,this.2⟩
abbrev ik(k:Nat)(js:LN)(σ:St):St:=cQ k ae++js.map λj=>(σ[j]?).getD ae
abbrev PTs(X:Cx)(fy:LEx)(t:TT):Prop:=
 ∀(pins:PNS) (s:ax) (σ:St) (H:Hp) (Q:Bool->Hp->Prop),Inv X pins σ H s->t σ H Q ->
  wpAny (model X.prog X.w) X.A (forIn fy ac λc r=>if r=ac then do let ok <- isTrue c X.env (eval c X.env);pure (pZ ok) else pure (pZ r)) (TP X pins σ Q) X.xe s
abbrev MY:TT:=λ_ H Q=>Q ac H
variable{X:Cx}
def MZ:PTs X [] MY:=λ_ _ _ H _ I h=>wpAny_tests_nil ⟨H,I,h⟩
def M0{c:Expr}{t:TT}(h:PT X c t):PTs X [c] t:=λpins s σ H Q I q=>wpAny_tests_one (h pins s σ H Q I q)
abbrev wk(J:It)(g:TG)(tt:TT)(te:TE)(h:St)(j:Hp)(Q:VK):Prop:=
 ∃W:Nat->Nat->List V->St->Hp->Prop,(∃m,W 0 m [] h j)/\∀i m c σ' H',W i m c σ' H' ->
  (J.stop i H'/\c.length<=bx/\∀D,j D=ae->H' D=ae->Q (.ref D) (upd H' D (.lst c))) \/
  (J.go i H'/\c.length<=bx/\∃ N : List V->St->Hp->Prop,(∀ e f d,N e f d->∃ n,n < m/\W (i + 1) n e f d) /\
   ∀x d,J.yld i H' x d->g x σ' d λa o=>tt a o λb l=>if b=ac then te a l λy p=>N (c++[y]) a p else N c a l)
abbrev og(k:Nat)(js:LN)(b:TI)(g:TG)(tt:TT)(te:TE):TE:=λσ H Q=>b σ H λJ a=>wk J g tt te (ik k js σ) a Q
@[reducible]noncomputable def Cx.to(X:Cx)(pn:PNS)(xe:PRS):Cx:={X with pn:=pn,xe:=xe}
variable{Y:Cx}{xe:PRS}{pins:PNS}{σ:St}{H:Hp}
def wl{s:ax}(I:Inv Y pins σ H s):Inv {Y with xe:=xe} pins σ H s:=
 ⟨⟨I.ok.mod,I.ok.kind,I.ok.glob,I.ok.blt,I.ok.above,I.ok.inj,I.ok.has,I.ok.cab,I.ok.hd,I.ok.frames,I.ok.stk,I.ok.exf,I.ok.bs,I.ok.bsz,I.ok.noex,I.ok.exfs,I.ok.funs,I.ok.frf⟩,I.os,I.bare,I.base,I.loc,I.cell,I.free,I.freeC,I.pin,I.hok,I.len⟩
def wm{s:ax}(I:Inv {Y with xe:=xe} pins σ H s):Inv Y pins σ H s:=
 ⟨⟨I.ok.mod,I.ok.kind,I.ok.glob,I.ok.blt,I.ok.above,I.ok.inj,I.ok.has,I.ok.cab,I.ok.hd,I.ok.frames,I.ok.stk,I.ok.exf,I.ok.bs,I.ok.bsz,I.ok.noex,I.ok.exfs,I.ok.funs,I.ok.frf⟩,I.os,I.bare,I.base,I.loc,I.cell,I.free,I.freeC,I.pin,I.hok,I.len⟩
variable{e:Expr}{t:TE}
def PE.to0(h:PE {Y with pn:=[],xe:=E00} e t):PE {Y with pn:=[],xe:=xe} e t:=λpins s σ H Q I q=>
 fB (h pins s σ H Q (wm I) q) (λu s' ⟨v,H',a,r,b⟩=>⟨v,H',wl a,r,b⟩) λ_ _ z=>z.elim
@[reducible]noncomputable def kv(us:LVa)(n:Nat):Obj:={cls:=.type "list",data:=.seq us.toArray n}
variable{tg:Expr}{g:TG}{tt:TT}{te:TE}{H2:Hp}{s2:ax}{it:Addr}{fp:LAd}{tn:Nat->Heap->Prop}{J:It}{cl:List (Str×Addr)}{Q:VK}{RR:Value->Addr->Result->ax->Prop}{E:PRS}
def FT{PX:Cx->Prop}
 (hc:X.calm=ac)(ck:mC scope X.env.scope.names X.N Nc k js)
 (hg:∀cl C ex L I,PG (X.comp scope Nc cl C ex L I) tg g)(ht:∀cl C ex L I,PTs (X.comp scope Nc cl C ex L I) fy tt)(he:∀cl C ex L I xe,PX ((X.comp scope Nc cl C ex L I).to [] xe)->PE ((X.comp scope Nc cl C ex L I).to [] xe) fx te)
 (a1:∀x c,cl.lookup x=aa c->X.env.cells.lookup x=aa c)(a2:∀x,(x,ge)∈scope.names->∃c,cl.lookup x=aa c)
 (G:Inv X pins σ H2 s2)(T:lF X.prog X.w X.K tg J fp it tn)(pr:tn 0 s2.heap)(f2:∀b∈fp,gf X pins H2 b)(hW:wk J g tt te (ik k js σ) H2 Q)
 (hRR:∀(D C:Addr) (s':ax) (H':Hp),Inv X pins σ H' s'->(∃m,s'.heap.Ns C m)->gf X pins H' C->Q (.ref D) H'->RR (.ref D) C (.ok .next) s')
 (hPX:∀D C,s2.heap.objs.size=D->D<C->(∀b∈frs X.stack,b<D)->PX ((X.comp scope Nc cl C fp s2 H2).to [] (notedBy (model X.prog X.w) X.A (compEnvC scope cl C X.env) λx s'=>RR (.ref D) C (.error x) s'))):
  wpAny (model X.prog X.w) X.A (newList []) (λacc s₃=>wpAny (model X.prog X.w) X.A (newFunctionEnv scope X.env.globals cl [] X.env.qual ae .none (aa X.env)) (λcenv s₄ =>
   jh (model X.prog X.w) X.A (.compStart (.ListComp fx [⟨tg,iter,fy,0⟩] scope pos) 0 (.ref it) acc {cenv with scope:=relabel scope X.env}) (RR acc cenv.locals) s₄) E s₃) E s2:=by
 obtain⟨W,⟨m0,w0⟩,turn⟩:=hW;refine wpAny_newObj_type (wpAny_newFunctionEnv ck.nocell (by intro y hy;simp at hy) (λh₁ B h=>?_) ck.kind);dsimp only at B h ⊢;generalize hP:s2.heap.push {cls:=.type "list",dict:=ae,data:=.seq ([]:LVa).toArray}=P at B h ⊢;generalize hD:s2.heap.objs.size=D at hP B h ⊢;have hCs:P.objs.size=D+1:=by rw[<- hP,Heap.size_push,hD]
 generalize hC:P.objs.size=C at hCs B h ⊢;have U:D<C:=by rw[hCs];exact qg _
 have hDC:D≠C:=eY U;have below:∀b o,s2.heap.get? b=aa o->b<D:=λb o e=>hD▸cX e
 have old:∀b o,s2.heap.get? b=aa o->h₁.get? b=aa o:=λb o e=>by
  have f:=below b o e;exact h.extBut b o (eY (vO f U)) (gc _ (hP▸gc _ e))
 have hDo:h₁.get? D=aa (kv [] 0):=h.extBut _ _ hDC (gc _ (by rw[<- hP,<- hD];exact iQ _ rfl));have Hn:∀b,D<=b->H2 b=ae:=λb f=>G.hok.fresh (by lia);have fpo:∀b∈fp,b<D:=λb f=>by obtain⟨o,e,_⟩:=T.obj 0 _ pr b f;exact below b o e
 have clo:∀x c,cl.lookup x=aa c->c<D:=λx c e=>by
  obtain⟨v,o,ho,_⟩:=G.cell x c (a1 x c e);exact below c o ho
 have stko:∀b∈frs X.stack,b<D:=λb f=>by
  obtain⟨_,o,ho,_⟩:=G.stack.mem f;exact below b o ho
 let Y:Cx:=X.comp scope Nc cl C fp s2 H2
 have yk:Y.Ok:=by
  refine⟨G.ok.mod,ck.kind,G.ok.glob,G.ok.blt,?_,?_,?_,?_,G.ok.hd,G.ok.frames,.inl rfl,?_,G.bs,?_,?_,?_,G.stack,G.stkFree⟩
  .show s2.heap.objs.size<=C;lia
  .exact λx y c h1 h2=>G.ok.inj x y c (a1 x c h1) (a1 y c h2)
  .intro x hx
   have:(x,ge)∈scope.names\/(x,nQ)∈scope.names:=by
    rcases hx with hx |hx
    .exact Ai (.inl rfl) hx
    .exact Ai (.inr rfl) hx
   rcases this with z |z
   .exact a2 x z
   .exact absurd rfl (ck.nocell _ z)
  .exact λx c z=>nomatch z
  .intro b f;refine⟨?_,λx c e=>?_⟩
   .exact eY (vO (fpo b f) U)
   .exact(f2 b f).2.2.2.2.1 x c (a1 x c e)
  .exact ig G.ok.bsz G.sz
  .intro b o e f
   rcases(f2 b f).2.2.2.1 with z |z
   .exact G.ok.noex b o e z
   .exact absurd (fO (cX e) (ig G.ok.bsz z)) (lC _)
  .intro b f z
   rcases bC.mp (G.stkSub b z)with e |e
   .exact(f2 b f).2.1 e
   .exact(f2 b f).2.2.1 e
 have I4:Inv Y [(D,kv [] 0)] (ik k js σ) H2 {s2 with heap:=h₁,toks:=s2.toks+([]:List (Str×Value)).length}:=by
  refine⟨yk,rfl,G.bare,Un.kept old,⟨_,B,λi x v e1 M e3=>?_⟩,λx c e=>?_,Hn C (by lia),λx c e=>G.freeC x c (a1 x c e),λp O=>?_,G.hok.kept old,?_⟩
  .have e1:Nc[i]?=aa x:=e1;unfold ik at M
   have hik:k<=i:=by
    rcases qh i k with z |z
    .rw[nH (by simpa using z),zA]at M;simp[z]at M
    .exact z
   rw[nG (by simpa using hik),fL]at M;simp only[gA]at M
   cases q:js[i-k]? with
   |none=>rw[q]at M;cases M
   |some j=>
    rw[q]at M;obtain⟨x',q1,q2,q3⟩:=ck.at' _ _ q;rw[show k+(i-k)=i by lia,e1]at q1;cases q1;have M:(σ[j]?).getD ae=aa v:=dz M
    have e2':σ[j]?=aa (aa v):=by
     cases z:σ[j]? with
     |none=>rw[z]at M;nomatch M
     |some y=>rw[z]at M;rw[show y=aa v from M]
    have hmem:(x,ge)∈scope.names:=by
     have:∀l:List (Str×gU),l.lookup x=aa .free->(x,ge)∈l:=by
      intro l
      induction l with
      |nil=>intro z;nomatch z
      |cons a l ih=>
       intro z;obtain⟨n,kk⟩:=a;rw[f9]at z
       cases f:x==n with
       |true=>
        rw[f]at z;cases z
        rw[eq_of_beq f];exact be
       |false=>rw[f]at z;exact bQ _ (ih z)
     exact this _ q3
    have hout:X.env.kindOf x=aa .cell\/X.env.kindOf x=aa .free:=ck.free _ hmem rfl;obtain⟨m,hn,hl⟩:=G.loc
    have vis:Vis X.env.scope x:=by
     rcases hout with z |z
     .exact .inr (.inl z)
     .exact .inr (.inr z)
    obtain⟨u,r,l⟩:=hl j x v q2 e2' vis;refine⟨u,r,.inr ⟨Ah q3,?_⟩⟩
    rcases l with⟨z,_⟩ |⟨_,c,hcl,hcell⟩
    .rcases hout with y |y <;> (rw[y]at z;nomatch z)
    .obtain⟨c',hc'⟩:=a2 x hmem;have:=a1 x c' hc';rw[hcl]at this;cases this;exact⟨c,hc',hcell.keeps old⟩
  .obtain⟨v,z⟩:=G.cell x c (a1 x c e);exact⟨v,z.keeps old⟩
  .have O:p∈[(D,kv [] 0)]:=(dw.mp O).elim (λz=>nomatch (show p∈([]:PNS)from z)) id;have O:=bR.mp O;subst O;refine⟨hDo,Hn D (bN _),hDC,λz=>?_,λv z=>by nomatch z⟩;exact absurd (stko D z) (lC _)
  .show(ik k js σ).length=Nc.length;rw[ck.len];simp[ik]
 have st1:=T.keep 0 _ _ pr λb _ o e=>old b o e
 have fpY:∀{H':Hp} {p:PNS},(∀q∈p,q.1=D)->(∀b∈fp,H' b=ae)->∀b∈fp,gf Y p H' b:=λ{H' p} O hn b f=>by
  refine⟨hn b f,(yk.exf b f).1,yk.exfs b f,.inl f,λx c e=>(yk.exf b f).2 x c e,λq hq=>?_⟩;rw[O q hq];exact vM (fpo b f)
 let xe:Value->ax->Prop:=notedBy (model X.prog X.w) X.A (compEnvC scope cl C X.env) λx s'=>RR (.ref D) C (.error x) s'
 have O:=hPX D C hD U stko
 have loop:jh (model X.prog X.w) X.A (.compLoop (.ListComp fx [⟨tg,iter,fy,0⟩] scope pos) 0 (.ref it) (.ref D) (compEnvC scope cl C X.env)) (RR (.ref D) C) {s2 with heap:=h₁,toks:=s2.toks+([]:List (Str×Value)).length}:=by
  refine MX (λn s'=>∃i ys us nn σ' H',Inv Y [(D,kv us nn)] σ' H' s'/\tn i s'.heap/\(∀b∈fp,H' b=ae)/\aW ys us/\W i n ys σ' H') ?_ m0
   ⟨0,[],[],0,ik k js σ,H2,I4,st1,λb f=>(f2 b f).1,.nil,w0⟩
  rintro n s3 ⟨i,ys,us,nn,m4,H3,I3,rc,fr3,rv,w3⟩
  have one:∀q∈[(D,kv us nn)],q.1=D:=λq hq=>by
   have:q=(D,kv us nn):=by simpa using hq
   rw[this]
  rcases turn i n ys m4 H3 w3 with⟨stop,hz,qn⟩ |⟨go,hz,N,hN,step⟩
  .refine thn (T.done Y rfl rfl rfl hc i _ s3 m4 H3 _ I3 (fpY one fr3) rc stop) λr s4 ⟨hr,I5⟩=>?_;subst hr;obtain⟨pD,nD,_,_,_⟩:=I5.pin (D,kv us nn) (by simp);have bs:=I5.base;have h2D:∀b o,H2 b=aa o->b≠D:=λb o e z=>by rw[z,Hn D (bN _)]at e;nomatch e
   have I6:Inv X pins σ (upd H3 D (.lst ys)) s4:=by
    refine G.call' (ch:=fp) I5.os ⟨bs.keep,bs.slot,λb o e n hx=>?_,bs.there,λb xs e=>?_,λb o u e=>?_,λb ps e=>?_⟩ (λb u e=>?_) I5.bare λb f=>?_
    .rw[bY (eY (below b o e))];exact bs.free b o e n hx
    .rw[bY (h2D b _ e)];exact bs.tups b xs e
    .rw[bY (h2D b _ e)];exact bs.frzs b o u e
    .rw[bY (h2D b _ e)];exact bs.tbls b ps e
    .by_cases f:b=D
     .subst f;rw[cz]at e;cases e;exact⟨hz,us,nn,rv,pD⟩
     .rw[bY f]at e;exact(I5.hok b u e).stay (λc v _ q=>q) (λc q=>by rw[bY (gW q nD)];exact q) λc xs q=>by rw[bY (gW q nD)];exact q
    .obtain⟨_,f1,_,f3,f4,f5⟩:=f2 b f;exact⟨f3,f1,f4,f5⟩
   obtain⟨m,hn,_⟩:=I5.loc;refine hRR D C s4 _ I6 ⟨m,hn⟩ (G.fpOk (by lia) ?_) (qn D (Hn D (bN _)) nD);rw[bY hDC.symm];exact I5.free
  .refine thn (T.item Y rfl rfl rfl hc i _ s3 m4 H3 _ I3 (fpY one fr3) rc go) λr s4 q_=>?_;obtain⟨u,hr,h4⟩:=q_;subst hr;refine thn h4 λ_ s5 q_=>?_;obtain⟨x,H5,I5,r5,y5,st5,fr5⟩:=q_;have I5':=I5.pinned (fpY one fr5) (T.obj _ _ st5);refine fB (hg cl C fp s2 H2 _ s5 m4 H5 x u _ I5' r5 (step x H5 y5)) (λ_ s6 ⟨σ6,H6,I6,q6⟩=>?_) λ_ _ z=>z.elim;refine fB (ht cl C fp s2 H2 _ s6 σ6 H6 _ I6 q6) (λb s7 ⟨H7,I7,q7⟩=>?_) λ_ _ z=>z.elim
   have kp:∀{H8:Hp} {s8:ax},Inv Y ([(D,kv us nn)]++v7 fp s5.heap) σ6 H8 s8->tn (i+1) s8.heap/\(∀b∈fp,H8 b=ae):=λ{H8 s8} I8=>by
    refine⟨T.keep _ _ _ st5 λb f o e=>(I8.pin (b,o) (fM _ (fM _ (sW f e)))).1,λb f=>?_⟩;obtain⟨o,e,d⟩:=T.obj _ _ st5 b f;exact(I8.pin (b,o) (fM _ (fM _ (sW f e)))).2.1
   cases b with
   |false=>
    obtain⟨m',hm,w7⟩:=hN _ _ _ q7;obtain⟨st7,fr7⟩:=kp I7
    exact⟨m',hm,i+1,ys,us,nn,σ6,H7,I7.unpinned,st7,fr7,rv,w7⟩
   |true=>
    refine thn (he cl C fp s2 H2 xe O _ s7 σ6 H7 _ (wl I7) q7) λuy s8 q_=>?_;obtain⟨y,H8,I8',r8,q8⟩:=q_;have I8:=wm I8';obtain⟨m',hm,w8⟩:=hN _ _ _ q8;obtain⟨st8,fr8⟩:=kp I8;obtain⟨pD,nD,pC,pF,_⟩:=I8.pin (D,kv us nn) (by simp);have hl:=rv.length
    refine wpAny_list_append_plain (items:=us.toArray) ⟨nn,pD⟩ (λh' hl' sb=>?_) (by simp only[size_toArray] <;> lia)
    obtain⟨n',e'⟩:=hl';have I8n:Inv Y [] σ6 H8 s8:=I8.pins_of (λ_ z=>nomatch z);have I9:=I8n.turned (t':=s8.toks) (it:=D) (λb o f e=>(sb.2 b f).trans e) nD pC (.inr (by show s2.heap.objs.size<=D;lia)) (λx c e=>eY (clo x c e)) (λp O=>nomatch O);refine⟨m',hm,i+1,ys++[y],us++[uy],n',σ6,H8,I9.pins_of (λp O=>?_),?_,fr8,rv.append (.cons r8 .nil),w8⟩
    .have O:p=(D,kv (us++[uy]) n'):=by simpa using O
     subst O;refine⟨?_,nD,pC,pF,λv z=>by nomatch z⟩;have M:=e';rw[M];simp
    .exact T.keep _ _ _ st8 λb f o e=>(sb.2 b (eY (fpo b f))).trans e
 exact codeAny_compStart_list loop (T.self X.A 0 _ _ _ st1 loop)
def FU
 (v:X.calm=ac)(q:mC scope X.env.scope.names X.N Nc k js)
 (z:∀cl C ex d a,PG (X.comp scope Nc cl C ex d a) tg g)(B:∀cl C ex d a,PTs (X.comp scope Nc cl C ex d a) fy tt)(y:∀cl C ex d a,PE (X.comp scope Nc cl C ex d a) fx te)
 (o:∀x c,cl.lookup x=aa c->X.env.cells.lookup x=aa c)(p:∀x,(x,ge)∈scope.names->∃c,cl.lookup x=aa c)
 (n:Inv X pins σ H2 s2)(T:lF X.prog X.w X.K tg J fp it tn)(l:tn 0 s2.heap)(r:∀b∈fp,gf X pins H2 b)(u:wk J g tt te (ik k js σ) H2 Q)
 (j:∀(D C:Addr) (s':ax) (H':Hp),Inv X pins σ H' s'->(∃m,s'.heap.Ns C m)->gf X pins H' C->Q (.ref D) H'->RR (.ref D) C (.ok .next) s'):
  wpAny (model X.prog X.w) X.A (newList []) (λacc h=>wpAny (model X.prog X.w) X.A (newFunctionEnv scope X.env.globals cl [] X.env.qual ae .none (aa X.env)) (λf i =>
   jh (model X.prog X.w) X.A (.compStart (.ListComp fx [⟨tg,iter,fy,0⟩] scope pos) 0 (.ref it) acc {f with scope:=relabel scope X.env}) (RR acc f.locals) i) E h) E s2:=
 FT (PX:=λ_=>True) v q z B (λcl C ex d a xe _=>PE.to0 (y cl C ex d a)) o p n T l r u j λ_ _ _ _ _=>trivial
variable{wi:TI}
def FV(k:Nat)(js:LN)(Nc:LSt)(hc:X.calm=ac)(hi:PI X tg iter wi)
 (hg:∀cl C ex c a,PG (X.comp scope Nc cl C ex c a) tg g)(ht:∀cl C ex c a,PTs (X.comp scope Nc cl C ex c a) fy tt)(he:∀cl C ex c a,PE (X.comp scope Nc cl C ex c a) fx te)
 (d:jN scope X.env.scope.names X.N Nc k js=ac:=by rfl)(hs:∀x,iO iter X.env x=pure x:=by intro _;rfl):
  PE X (.ListComp fx [⟨tg,iter,fy,0⟩] scope pos) (og k js wi g tt te):=by
 intro pins s σ H Q I h;have d:=mC.of d;obtain⟨cl,f,p,r⟩:=Ag λx hx e=>I.ok.has x.1 (d.free x hx e);refine zF rfl hs f d.kind d.loc (thn (hi pins s σ H _ I h) λv s1 O=>thn O λitv s2 U=>?_);obtain⟨it,fp,tn,J,H2,e,n,T,j,z,hW⟩:=U;subst e;refine FU hc d hg ht he p r n T j z hW λD C s' H' l ⟨m,hn⟩ M q=>?_;obtain⟨u,y,_,B,G,L⟩:=M;exact⟨m,hn,λh' i=>⟨.ref D,H',l.turned (λb o hb e=>(i.2 b hb).trans e) u y B G L,rfl,q⟩⟩
variable{i:Nat}{x:Str}{ey gg:Pos}
def Aj(k:Nat)(js:LN)(Nc:LSt)(hN:X.N.Nodup)(p:X.N[i]?=aa x)(y:Loc X.env.scope x)(hc:X.calm=ac)(hi:PI X tg iter wi)
 (hg:∀cl C ex d c,PG (X.comp scope Nc cl C ex d c) tg g)(ht:∀cl C ex d c,PTs (X.comp scope Nc cl C ex d c) fy tt)(he:∀cl C ex d c,PE (X.comp scope Nc cl C ex d c) fx te)
 (u:eZ (.ListComp fx [⟨tg,iter,fy,0⟩] scope pos) (aa (.Name x ey)) gg.line X.env=pure ac:=by rfl)
 (f:jN scope X.env.scope.names X.N Nc k js=ac:=by rfl)(hs:∀x,iO iter X.env x=pure x:=by intro _;rfl)
 (hf:LcF X x:=by first |exact .inl rfl |exact .inr rfl |assumption):
  PS X (.Assign [.Name x ey] (.ListComp fx [⟨tg,iter,fy,0⟩] scope pos) gg) (nY (og k js wi g tt te) (nX i)):=by
 intro pins s σ H D I h;have f:=mC.of f;rw[exec_Assign_Name_used _ _ _ _ u];refine bK (wpAny_standAt (bK ?_));obtain⟨cl,n,a1,a2⟩:=Ag λx y e=>I.ok.has x.1 (f.free x y e)
 refine bK (fB (zF rfl hs n f.kind f.loc
  (thn (hi pins s σ H _ I h) λv s1 h1=>thn h1 λitv s2 h2=>?_)) (λ_ s' hq=>eH (eH hq)) λ_ _ e=>e)
 obtain⟨it,fp,tn,J,H2,e,U,T,B,f2,hW⟩:=h2;subst e;refine FU hc f hg ht he a1 a2 U T B f2 hW λM C s' H' O ⟨m,hn⟩ fC q=>?_;obtain⟨f0,G,f2',f3,L,f5⟩:=fC;refine wpAny_assign_Name (E4 (v:=.ref M) O hN p y rfl (λs'' j ⟨a,sb,ha⟩=>?_) hf)
 have l:C≠a:=by
  rcases ha with z |z
  .rw[z];exact G
  .exact(L x a z).symm
 exact⟨m,hn.sameBut sb l,λh' r=>⟨_,H',j.turned (λb o hb e=>(r.2 b hb).trans e) f0 G f3 L f5,q⟩⟩
variable{xs:List V}
def aW.at'{us:LVa}{u:Value}(r:aW xs us)(e:us[i]?=aa u):∃x,xs[i]?=aa x/\bh x u:=by
 have c:=r.length;have hi:i<xs.length:=by have:=(cV.mp e).1;lia
 refine⟨xs[i],by simp[hi],?_⟩;obtain⟨d,a,b⟩:=r.get (i:=i) (x:=xs[i]) (by simp[hi]);rw[e]at a;cases a;exact b
def qx{env:Env}{b:gU}(c:b≠.free):∀{names:List (Str×gU)} {x:Str},names.lookup x=aa b ->
  (names.map λ(n,k)=>if (k==ge && env.scope.kind==.function && env.kindOf n==aa .cell) then (n,nQ) else (n,k)).lookup x=aa b
 | [],_,h=>by simp at h
 |(n,k)::r,x,h=>by
  have d:=@qx env b c r x;show jI x ((if _=ac then _ else _)::_)=_;rw[f9]at h
  cases a:x==n with
  |true=>
   rw[a]at h;have e:=dz h;subst e;have f:(k==ge)=ai:=by simpa using c
   rw[f,sC,sC,if_neg cp,f9,a]
  |false=>
   rw[a]at h;split
   .rw[f9,a];exact d h
   .rw[f9,a];exact d h
def M1(h:Vis scope x):Vis (relabel scope env) x:=by
 rcases h with h |h |h
 .exact .inl (qx (by decide) h)
 .exact .inr (.inl (qx (by decide) h))
 .rcases Ah h with z |z
  .exact .inr (.inl z)
  .exact .inr (.inr z)
variable{C:Addr}{ex:LAd}{a9:ax}{c3:Hp}
def pvc(i:Nat)(b:Nc[i]?=aa x:=by rfl)(c:Vis scope x:=by first |exact bV rfl |exact bA (bV rfl) |exact bA (bA rfl))(hd:NDb x:=by decide)
 (a:NCd x:=by decide):PE (X.comp scope Nc cl C ex a9 c3) (.Name x pos) (df i):=ku b (M1 c) hd a
def pgc(i:Nat)(b:Nc.Nodup:=by decide +kernel)(hi:Nc[i]?=aa x:=by rfl)(a:scope.names.lookup x=aa .local:=by rfl):PG (X.comp scope Nc cl C ex a9 c3) (.Name x pos) (nX i):=
 Fa b hi (.inl (qx (by decide) a)) (.inr (qx (by decide) a))
def glc(h:scope.names.lookup x=aa .globalImplicit):Gl (X.comp scope Nc cl C ex a9 c3) x:=qx (by decide) h
variable{p:Addr}{o:HO}
def dN(h:H p=ae):aR H (upd H p o):=λb u e=>by rw[bY (gW e h)];exact e
variable{K:bo}{H':Hp}{a:Addr}
def aR.tup(e:aR H H')(h:SqT K H a xs):SqT K H' a xs:=by
 rcases h with(h |⟨o,h⟩) |h
 .exact .inl (.inl (e _ _ h))
 .exact .inl (.inr ⟨o,e _ _ h⟩)
 .exact .inr h
abbrev FW(p:Option Bool->Bool)(es:List (Option Bool))(its:List (Int×Int)):Int:=((its.filter λz=>p (es.getD z.1.toNat ae)).map (·.2)).sum
inductive Prt where
 |inn (t:Int) |out (t:Int) |least (k:Int) (its:List (Int×Int)) |most (k:Int) (its:List (Int×Int))
abbrev bs(l:List Bool):List (Option Bool):=l.map aa
abbrev Prt.holds(b ws:List Bool):Prt->Bool
 |.inn t=>(b.getD t.toNat ai)
 |.out t=>!(ws.getD t.toNat ai)
 |.least k its=>decide (k<=FW (·==aa ac) (bs b) its)
 |.most k its=>decide (FW (·==aa ac) (bs ws) its<=k)
variable{h':Heap}
section
variable{s:ax}
def Inv.turnedMany{t':Nat}{ch:LAd}(I:Inv X pins σ H s)(k:∀b o,b∉ch->s.heap.get? b=aa o->h'.get? b=aa o)(f:∀b∈ch,gf X pins H b):Inv X pins σ H {s with heap:=h',toks:=t'}:=by
 refine I.step (λb M=>?_) (λb o _ _ d e _=>k b o d e) (λb o _ _ d e _=>⟨o.slots,k b o d e⟩) (λ_ _ _ _ n=>n)
  (λb o d e=>⟨o,k b o d e⟩) (λ_ _ e=>e) (λ_ _ _ e=>e) (λb ps e=>⟨#[],by rw[e];simp⟩) (λm O=>?_) (λb u e=>?_) I.bare
 .obtain⟨_,l,_,B,G,L⟩:=f b M;exact⟨B,l,G,L⟩
 .obtain⟨o,es,j,T,r⟩:=O;exact⟨o,es,j,k _ o (λz=>(f _ z).2.1 rfl) T,r⟩
 .refine(I.hok b u e).stay (λc v d q=>k c v (λz=>?_) q) (λ_ q=>q) λ_ _ q=>q;have h:=(f c z).1
  rcases d with y |y
  .rw[y,e]at h;nomatch h
  .rw[h]at y;nomatch y
end
def Inv.track{s:ax}(I:Inv X pins σ H s)(f:gf X pins H p)(L:gX X.prog X.w (upd H p o) s.heap p o):Inv X pins σ (upd H p o) s:=by
 obtain⟨j,l,M,r,y,B⟩:=f;have ne:∀b u,H b=aa u->b≠p:=λb u e=>gW e j;have one:∀b:Addr,b∉[p]->b≠p:=λb d z=>d (by rw[z];simp)
 refine I.step (ch:=[p]) (λb d=>?_) (λb o _ _ h e _=>e) (λb o _ _ h e _=>⟨o.slots,e⟩) (λb o h e n=>?_)
  (λb o h e=>⟨o,e⟩) (λb xs e=>?_) (λb o u e=>?_) (λb ps e=>⟨#[],?_⟩) (λm G=>G) (λb u e=>?_) I.bare
 .have e:b=p:=by simpa using d
  subst e;exact⟨r,l,y,B⟩
 .rw[bY (one b h)];exact n
 .rw[bY (ne b _ e)];exact e
 .rw[bY (ne b _ e)];exact e
 .rw[bY (ne b _ e),e];simp
 .by_cases d:b=p
  .subst d;rw[cz]at e;cases e;exact L
  .rw[bY d]at e;exact(I.hok b u e).stay (λc v _ q=>q) (λc q=>by rw[bY (ne c _ q)];exact q) λc xs q=>by rw[bY (ne c _ q)];exact q
inductive D where
 |non
 |bl (b:Bool)
 |int (i:Int)
 |str (x:Str)
 |lst (xs:List D)
 |tup (xs:List D)
 |kl (xs:List D)
 |kt (xs:List D)
 |ins (c:Str) (ns:LSt) (xs:List D)
 deriving Inhabited
nonrec abbrev OD:=Option D
nonrec abbrev LD:=List D
nonrec abbrev OLD:=Option LD
set_option genInjectivity false in
structure Gc where
 K:bo
 cl:Str->Addr
mutual
def Rep(G:Gc)(H:Hp):D->V->Prop
 |.non,v=>v=.non
 |.bl b,v=>v=.bl b
 |.int i,v=>v=.int i
 |.str x,v=>v=.str x
 |.lst ds,v=>∃a vs,v=.ref a/\H a=aa (.lst vs)/\aF G H ds vs
 |.tup ds,v=>∃a vs,v=.ref a/\H a=aa (.tup vs)/\aF G H ds vs
 |.kl ds,v=>∃a vs,v=.ref a/\SqL G.K H a vs/\aF G H ds vs
 |.kt ds,v=>∃a vs,v=.ref a/\SqT G.K H a vs/\aF G H ds vs
 |.ins c ns ds,v=>∃a dx vs,v=.ref a/\H a=aa (.ins (G.cl c) dx (ns.zip vs))/\ns.length=vs.length/\aF G H ds vs
def aF(G:Gc)(H:Hp):LD->List V->Prop
 | [],vs=>vs=[]
 |d::ds,vs=>∃v r,vs=v::r/\Rep G H d v/\aF G H ds r
end
mutual
theorem Rep.upM(s:aR H H'):∀(d:D) (v:V),Rep G H d v->Rep G H' d v
 |.non,_,h=>h
 |.bl _,_,h=>h
 |.int _,_,h=>h
 |.str _,_,h=>h
 |.lst ds,_,h_=>by obtain⟨a,vs,e,q,r⟩:=h_;exact⟨a,vs,e,s _ _ q,aF.upM s ds vs r⟩
 |.tup ds,_,h_=>by obtain⟨a,vs,e,q,r⟩:=h_;exact⟨a,vs,e,s _ _ q,aF.upM s ds vs r⟩
 |.kl ds,_,h_=>by obtain⟨a,vs,e,q,r⟩:=h_;exact⟨a,vs,e,s.seq q,aF.upM s ds vs r⟩
 |.kt ds,_,h_=>by obtain⟨a,vs,e,q,r⟩:=h_;exact⟨a,vs,e,s.tup q,aF.upM s ds vs r⟩
 |.ins _ _ ds,_,h_=>by obtain⟨a,dx,vs,e,q,l,r⟩:=h_;exact⟨a,dx,vs,e,s _ _ q,l,aF.upM s ds vs r⟩
theorem aF.upM(s:aR H H'):∀(ds:LD) (vs:List V),aF G H ds vs->aF G H' ds vs
 | [],_,h=>h
 |d::ds,_,h_=>by obtain⟨v,r,e,b,c⟩:=h_;exact⟨v,r,e,Rep.upM s d v b,aF.upM s ds r c⟩
end
variable{G:Gc}{d:D}{v:V}
def Rep.up(r:Rep G H d v)(s:aR H H'):Rep G H' d v:=Rep.upM s d v r
variable{ds:LD}{vs:List V}
def aF.up(r:aF G H ds vs)(s:aR H H'):aF G H' ds vs:=aF.upM s ds vs r
def aF.nil:aF G H [] []:=rfl
def aF.cons(h:Rep G H d v)(t:aF G H ds vs):aF G H (d::ds) (v::vs):=⟨v,vs,rfl,h,t⟩
def aF.length:∀{ds:LD} {vs:List V},aF G H ds vs->ds.length=vs.length
 | [],_,h=>by cases (h);rfl
 |d::ds,_,⟨v,r,e,_,h⟩=>by subst e;simp[aF.length h]
def aF.append:∀{ds es:LD} {vs us:List V},aF G H ds vs->aF G H es us->aF G H (ds++es) (vs++us)
 | [],_,_,_,h,t=>by cases (h);exact t
 |d::ds,_,_,_,⟨v,r,e,h1,h2⟩,t=>by subst e;exact⟨v,r++_,rfl,h1,aF.append h2 t⟩
def aF.get:∀{ds:LD} {vs:List V} {i:Nat} {d:D},aF G H ds vs->ds[i]?=aa d->∃v,vs[i]?=aa v/\Rep G H d v
 | [],_,_,_,_,e=>by simp at e
 |d::ds,_,0,_,⟨v,r,e,h1,_⟩,e'=>by subst e;simp at e';subst e';exact⟨v,rfl,h1⟩
 |d::ds,_,i+1,d',q4_,e'=>by
  obtain⟨v,r,e,_,c⟩:=q4_;subst e;obtain⟨u,a,b⟩:=aF.get c (by simpa using e');exact⟨u,by simpa using a,b⟩
def aF.get':∀{ds:LD} {vs:List V} {i:Nat} {v:V},aF G H ds vs->vs[i]?=aa v->∃d,ds[i]?=aa d/\Rep G H d v:=λ{ds vs i v} h e=>by
 have c:=h.length;have hi:i<ds.length:=by have:=(cV.mp e).1;lia
 obtain⟨u,a,b⟩:=h.get (i:=i) (d:=ds[i]) (by simp[hi]);rw[e]at a;cases a;exact⟨ds[i],by simp[hi],b⟩
def aF.ints:∀(ns:List Int),aF G H (ns.map D.int) (ns.map V.int)
 | []=>rfl
 |n::ns=>⟨_,_,rfl,rfl,aF.ints ns⟩
def aF.take:∀{ds:LD} {vs:List V} (n:Nat),aF G H ds vs->aF G H (ds.take n) (vs.take n)
 | _,_,0,_=>rfl
 | [],_,n+1,h=>by cases (h);rfl
 |d::ds,_,n+1,⟨v,r,e,h1,h2⟩=>by subst e;exact⟨v,r.take n,rfl,h1,aF.take n h2⟩
def aF.drop:∀{ds:LD} {vs:List V} (n:Nat),aF G H ds vs->aF G H (ds.drop n) (vs.drop n)
 | _,_,0,h=>h
 | [],_,n+1,h=>by cases (h);rfl
 |d::ds,_,n+1,⟨v,r,e,h1,h2⟩=>by subst e;exact aF.drop n h2
def aF.set:∀{ds:LD} {vs:List V} (i:Nat) {d:D} {v:V},aF G H ds vs->Rep G H d v->aF G H (ds.set i d) (vs.set i v)
 | [],_,_,_,_,h,_=>by cases (h);exact .nil
 |e::ds,_,0,_,_,⟨v,r,e',_,h2⟩,q=>by subst e';exact⟨_,r,rfl,q,h2⟩
 |e::ds,_,i+1,_,_,⟨v,r,e',h1,h2⟩,q=>by subst e';exact⟨v,r.set i _,rfl,h1,aF.set i h2 q⟩
abbrev Ak:HO->Bool
 |.tup _=>ac
 | _=>ai
structure Ext(Hf H Hf' H':Hp):Prop where
 f:aR Hf Hf'
 h:aR H H'
 s:aR Hf' H'
 n:∀l o,H l=aa o->Ak o=ai->Hf' l=Hf l
variable{Hf:Hp}
def Ext.refl(s:aR Hf H):Ext Hf H Hf H:=⟨aR.refl _,aR.refl _,s,λ_ _ _ _=>rfl⟩
variable{dk H1 d8:Hp}
def Ext.trans(a:Ext Hf H dk H1)(b:Ext dk H1 d8 H2):Ext Hf H d8 H2:=⟨a.f.trans b.f,a.h.trans b.h,b.s,λl o e t=>(b.n l o (a.h l o e) t).trans (a.n l o e t)⟩
def Ext.new(s:aR Hf H)(h:H p=ae):Ext Hf H (upd Hf p o) (upd H p o):=
 ⟨dN (s.free h),dN h,λb u e=>by
  by_cases c:b=p
  .subst c;rw[cz]at e ⊢;exact e
  .rw[bY c]at e ⊢;exact s b u e,λl u e _=>by rw[bY (gW e h)]⟩
def Ext.tmp(s:aR Hf H)(h:H p=ae):Ext Hf H Hf (upd H p o):=⟨aR.refl _,dN h,s.trans (dN h),λ_ _ _ _=>rfl⟩
def Ext.grow(s:aR Hf H)(g:aR H H1):Ext Hf H Hf H1:=⟨aR.refl _,g,s.trans g,λ_ _ _ _=>rfl⟩
def Ext.fix(a:Ext Hf H dk H1)(m:H p=ae)(j:dk p=ae)(q:H1 p=aa o):Ext Hf H (upd dk p o) H1:=
 ⟨a.f.trans (dN j),a.h,λb u e=>by
  by_cases c:b=p
  .subst c;rw[cz]at e;rw[q];exact e
  .rw[bY c]at e;exact a.s b u e,λl u e t=>by rw[bY (gW e m)];exact a.n l u e t⟩
inductive Sl where
 |no
 |im (d:D)
 |own (xs:LD)
 |obj (c:Str) (ns:LSt) (xs:LD)
 |pin (l:Addr) (xs:LD)
 |pino (l:Addr) (c:Str) (ns:LSt) (xs:LD)
 |val (u:V)
nonrec abbrev LS:=List Sl
@[reducible]noncomputable def nZ{b:Type}:LS->Option (List b):=λ_=>aa []
@[reducible]noncomputable def kY:LS->Option Bool:=λ_=>aa ac
@[reducible]noncomputable def kN:LS->OD:=λ_=>aa .non
@[reducible]noncomputable def kI(i:Int):LS->OD:=λ_=>aa (.int i)
@[reducible]noncomputable def kSt(x:Str):LS->OD:=λ_=>aa (.str x)
@[reducible]noncomputable def kBl(b:Bool):LS->OD:=λ_=>aa (.bl b)
nonrec abbrev MF1:=LS->OD
nonrec abbrev MF2:=LS->OLD
nonrec abbrev MF4:=LS->Option Bool
abbrev Sl.isOwn:Sl->Bool
 |.own _=>ac
 |.obj _ _ _=>ac
 |.pin _ _=>ac
 |.pino _ _ _ _=>ac
 | _=>ai
abbrev Sl.calm:Sl->Bool
 |.no=>ac
 |.im _=>ac
 | _=>ai
abbrev jk(G:Gc)(Hf H:Hp)(l:Addr):Sl->Prop
 |.own ds=>∃vs,H l=aa (.lst vs)/\aF G Hf ds vs
 |.obj c ns ds=>∃dx vs,H l=aa (.ins (G.cl c) dx (ns.zip vs))/\ns.length=vs.length/\aF G Hf ds vs
 |.pin b ds=>l=b/\∃vs,H l=aa (.lst vs)/\aF G Hf ds vs
 |.pino b c ns ds=>l=b/\∃dx vs,H l=aa (.ins (G.cl c) dx (ns.zip vs))/\ns.length=vs.length/\aF G Hf ds vs
 | _=>False
variable{l:Addr}
def jk.there2{s:Sl}(h:jk G Hf H l s):∃o,H l=aa o/\Ak o=ai:=by
 cases s with
 |own ds=>obtain⟨vs,h,_⟩:=h;exact⟨_,h,rfl⟩
 |obj c ns ds=>obtain⟨dx,vs,h,_⟩:=h;exact⟨_,h,rfl⟩
 |pin b ds=>obtain⟨_,vs,h,_⟩:=h;exact⟨_,h,rfl⟩
 |pino b c ns ds=>obtain⟨_,dx,vs,h,_⟩:=h;exact⟨_,h,rfl⟩
 | _=>exact h.elim
variable{Hf':Hp}
def jk.up{s:Sl}(h:jk G Hf H l s)(f:aR Hf Hf')(e:∀o,H l=aa o->H' l=aa o):jk G Hf' H' l s:=by
 cases s with
 |own ds=>obtain⟨vs,h,r⟩:=h;exact⟨vs,e _ h,r.up f⟩
 |obj c ns ds=>obtain⟨dx,vs,h,z,r⟩:=h;exact⟨dx,vs,e _ h,z,r.up f⟩
 |pin b ds=>obtain⟨q,vs,h,r⟩:=h;exact⟨q,vs,e _ h,r.up f⟩
 |pino b c ns ds=>obtain⟨q,dx,vs,h,z,r⟩:=h;exact⟨q,dx,vs,e _ h,z,r.up f⟩
 | _=>exact h.elim
abbrev iW(G:Gc)(H0 Hf H:Hp)(v:Option V):Sl->Prop
 |.no=>True
 |.im d=>∃u,v=aa u/\Rep G Hf d u
 |.val u=>v=aa u
 |s=>∃l,v=aa (.ref l)/\H0 l=ae/\Hf l=ae/\jk G Hf H l s
variable{H0:Hp}
def iW.own{v:Option V}{s:Sl}(b:s.isOwn=ac)(h:iW G H0 Hf H v s):∃l,v=aa (.ref l)/\H0 l=ae/\Hf l=ae/\jk G Hf H l s:=by
 cases s <;> first |exact h |cases b
def iW.ofOwn{v:Option V}{s:Sl}(b:s.isOwn=ac)(h:∃l,v=aa (.ref l)/\H0 l=ae/\Hf l=ae/\jk G Hf H l s):iW G H0 Hf H v s:=by
 cases s <;> first |exact h |cases b
abbrev Holds(G:Gc)(Hf H:Hp)(s:Sl)(v:V)(a:Addr):Prop:=match s with
 |s=>s.isOwn=ac/\v=.ref a
def Holds.own{s:Sl}(b:s.isOwn=ac):Holds G Hf H s v a↔v=.ref a:=by
 cases s <;> first |exact⟨λh=>h.2,λh=>⟨rfl,h⟩⟩ |nomatch b
def Holds.calm{s:Sl}(h:Holds G Hf H s v a)(b:s.calm=ac):False:=by
 cases s <;> first |exact zy h.1 |nomatch b
def iW.back{s:Sl}(q:iW G H0 Hf H (aa v) s)(h:Holds G Hf' H' s v a):Holds G Hf H s v a:=by
 cases s with
 | _=>exact h
def iW.there{s:Sl}(q:iW G H0 Hf H (aa v) s)(h:Holds G Hf H s v a):∃o,H a=aa o/\Ak o=ai:=by
 cases b:s.isOwn with
 |true=>
  obtain⟨l,e,_,_,c⟩:=q.own b;cases e;cases ((Holds.own b).mp h)
  exact c.there2
 |false=>
  cases s with
  | _=>first |exact zy h.1 |nomatch b
structure aG(G:Gc)(Hf0 H0 Hf H:Hp)(σ:St)(ρ:LS):Prop where
 ext:Ext Hf0 H0 Hf H
 len:σ.length=ρ.length
 at':∀(i:Nat) (v:Option V) (s:Sl),σ[i]?=aa v->ρ[i]?=aa s->iW G H0 Hf H v s
 dj:∀(i j:Nat) (s t:Sl) (v w:V) (a:Addr),ρ[i]?=aa s->ρ[j]?=aa t->σ[i]?=aa (aa v)->σ[j]?=aa (aa w)->Holds G Hf H s v a->Holds G Hf H t w a->i=j
variable{Hf0:Hp}{ρ:LS}
def aG.sub(h:aG G Hf0 H0 Hf H σ ρ):aR Hf H:=h.ext.s
def aG.inj(h:aG G Hf0 H0 Hf H σ ρ)(i j:Nat)(s t:Sl)(l:Addr)(a:ρ[i]?=aa s)(b:ρ[j]?=aa t)(f:s.isOwn=ac)(m:t.isOwn=ac)(c:σ[i]?=aa (aa (.ref l)))(d:σ[j]?=aa (aa (.ref l))):i=j:=
 h.dj i j s t _ _ l a b c d ((Holds.own f).mpr rfl) ((Holds.own m).mpr rfl)
variable{ρ':LS}
def aG.re{m n:Hp}(h:aG G Hf0 H0 Hf H σ ρ)(x:Ext m n Hf' H')(y:ρ'.length=ρ.length)(u:∀(i:Nat) (v:Option V) (s:Sl),σ[i]?=aa v->ρ'[i]?=aa s->iW G n Hf' H' v s)
 (hd:∀(i:Nat) (s:Sl) (v:V) (a:Addr),ρ'[i]?=aa s->σ[i]?=aa (aa v)->Holds G Hf' H' s v a->∃t,ρ[i]?=aa t/\Holds G Hf H t v a):aG G m n Hf' H' σ ρ':=
 ⟨x,h.len.trans y.symm,u,λi j s t v w a b c e f p q=>by
  obtain⟨I,b0,z⟩:=hd i s v a b e p;obtain⟨L,r,B⟩:=hd j t w a c f q;exact h.dj i j I L v w a b0 r e f z B⟩
def aG.step(h:aG G Hf0 H0 Hf H σ ρ)(e:Ext Hf H Hf' H'):aG G Hf0 H0 Hf' H' σ ρ:=by
 refine h.re (h.ext.trans e) rfl (λi v s a b=>?_) λi s v a b c d=>⟨s,b,(h.at' i _ s c b).back d⟩;have q:=h.at' i v s a b
 cases y:s.isOwn with
 |true=>
  obtain⟨l,j,B,I,z⟩:=q.own y;obtain⟨o,m,L⟩:=z.there2
  exact .ofOwn y ⟨l,j,B,by rw[e.n l o m L];exact I,z.up e.f λo m=>e.h _ _ m⟩
 |false=>
  cases s with
  |no=>trivial
  |im d=>obtain⟨u,j,r⟩:=q;exact⟨u,j,r.up e.f⟩
  |val u=>exact q
  | _=>nomatch y
def aG.slot{s:Sl}(h:aG G Hf0 H0 Hf H σ ρ)(e:ρ[i]?=aa s):∃v,σ[i]?=aa v/\iW G H0 Hf H v s:=by
 have hi:i<σ.length:=by rw[h.len];exact(cV.mp e).1
 exact⟨σ[i],by simp[hi],h.at' i _ s (by simp[hi]) e⟩
def aG.imm(h:aG G Hf0 H0 Hf H σ ρ)(e:ρ[i]?=aa (.im d)):∃v,σ[i]?=aa (aa v)/\Rep G Hf d v:=by
 obtain⟨v,b,u,c,r⟩:=h.slot e;subst c;exact⟨u,b,r⟩
def aG.ownAt{s:Sl}(f:s.isOwn=ac)(h:aG G Hf0 H0 Hf H σ ρ)(e:ρ[i]?=aa s):∃l,σ[i]?=aa (aa (.ref l))/\H0 l=ae/\Hf l=ae/\jk G Hf H l s:=by
 obtain⟨v,b,q⟩:=h.slot e;obtain⟨l,c,j⟩:=q.own f;rw[c]at b;exact⟨l,b,j⟩
variable{j:Nat}
def fg{c:Type}{l:List c}{x y:c}(h:(l.set i x)[j]?=aa y):(j=i/\y=x/\i<l.length)\/(j≠i/\l[j]?=aa y):=by
 by_cases b:j=i
 .subst b;left;have hi:j<l.length:=by have:=(cV.mp h).1;simpa using this
  rw[gT hi]at h;exact⟨rfl,(dz h).symm,hi⟩
 .right;rw[ib (eM b)]at h;exact⟨b,h⟩
def aG.setIm(h:aG G Hf0 H0 Hf H σ ρ)(r:Rep G Hf d v):aG G Hf0 H0 Hf H (σ.set i (aa v)) (ρ.set i (.im d)):=by
 refine⟨h.ext,by simpa using h.len,λj u s a b=>?_,λj k s t u w l a b c m p q=>?_⟩
 .rcases fg b with⟨e,f,_⟩ |⟨e,b⟩
  .subst e f
   rcases fg a with⟨_,f,_⟩ |⟨e,_⟩
   .subst f;exact⟨v,rfl,r⟩
   .exact absurd rfl e
  .rcases fg a with⟨f,_⟩ |⟨_,a⟩
   .exact absurd f e
   .exact h.at' j u s a b
 .rcases fg a with⟨e,f,_⟩ |⟨e,a⟩
  .subst f;exact(p.calm rfl).elim
  .rcases fg b with⟨n,f,_⟩ |⟨n,b⟩
   .subst f;exact(q.calm rfl).elim
   .rcases fg c with⟨f,_⟩ |⟨_,c⟩
    .exact absurd f e
    .rcases fg m with⟨f,_⟩ |⟨_,m⟩
     .exact absurd f n
     .exact h.dj j k s t u w l a b c m p q
variable{u:V}
def aG.setNew{s:Sl}(h:aG G Hf0 H0 Hf H σ ρ)(e:Ext Hf H Hf' H')(z:iW G H0 Hf' H' (aa u) s)(I:∀a,Holds G Hf' H' s u a->H a=ae):
  aG G Hf0 H0 Hf' H' (σ.set i (aa u)) (ρ.set i s):=by
 have h':=h.step e
 have no:∀j t w a,ρ[j]?=aa t->σ[j]?=aa _->Holds G Hf' H' t w a->Holds G Hf' H' s u a->False:=λj t w a b c p q=>by
  obtain⟨o,z,_⟩:=(h.at' j _ t c b).there ((h.at' j _ t c b).back p);rw[I a q]at z;nomatch z
 refine⟨h'.ext,by simpa using h.len,λj w t a b=>?_,λj k t t' v w l a b c m p q=>?_⟩
 .rcases fg b with⟨e,f,_⟩ |⟨e,b⟩
  .subst e f
   rcases fg a with⟨_,f,_⟩ |⟨e,_⟩
   .subst f;exact z
   .exact absurd rfl e
  .rcases fg a with⟨f,_⟩ |⟨_,a⟩
   .exact absurd f e
   .exact h'.at' j w t a b
 .rcases fg a with⟨y,B,_⟩ |⟨y,a⟩
  .rcases fg b with⟨n,r,_⟩ |⟨n,b⟩
   .rw[y,n]
   .rcases fg c with⟨_,f,_⟩ |⟨f,_⟩
    .cases f;rw[B]at p
     rcases fg m with⟨f,_⟩ |⟨_,m⟩
     .exact absurd f n
     .exact(no k t' w l b m q p).elim
    .exact absurd y f
  .rcases fg c with⟨f,_⟩ |⟨_,c⟩
   .exact absurd f y
   .rcases fg b with⟨n,r,_⟩ |⟨n,b⟩
    .rcases fg m with⟨_,f,_⟩ |⟨f,_⟩
     .cases f;rw[r]at q;exact(no j t v l a c p q).elim
     .exact absurd n f
    .rcases fg m with⟨f,_⟩ |⟨_,m⟩
     .exact absurd f n
     .exact h'.dj j k t t' v w l a b c m p q
def aG.setOwn{s:Sl}(c:s.isOwn=ac)(h:aG G Hf0 H0 Hf H σ ρ)(e:Ext Hf H Hf' H')(b:H l=ae)(f:Hf' l=ae)(m:jk G Hf' H' l s):
  aG G Hf0 H0 Hf' H' (σ.set i (aa (.ref l))) (ρ.set i s):=
 h.setNew e (.ofOwn c ⟨l,rfl,h.ext.h.free b,f,m⟩) λa p=>by cases (Holds.own c).mp p;exact b
def aG.chg{s s':Sl}(h:aG G Hf0 H0 Hf H σ ρ)(e:ρ[i]?=aa s)(U:σ[i]?=aa (aa v))(k:∀b u,H b=aa u->Holds G Hf H s v b\/H' b=aa u)(ho:iW G H0 Hf H' (aa v) s')
 (hh:∀a,Holds G Hf H' s' v a->Holds G Hf H s v a\/∀(j:Nat) (t:Sl) (w:V),ρ[j]?=aa t->σ[j]?=aa (aa w)->Holds G Hf H t w a->False):aG G Hf0 H0 Hf H' σ (ρ.set i s'):=by
 have q:=h.at' i _ s U e
 have m:∀b,Holds G Hf H s v b->H0 b=ae/\Hf b=ae:=λb p=>by
  cases hs:s.isOwn with
  |true=>
   obtain⟨l,e1,h0,hf,_⟩:=q.own hs;have r:=(Holds.own hs).mp p;cases e1;cases r
   exact⟨h0,hf⟩
  |false=>
   cases s with
   | _=>first |exact zy p.1 |nomatch hs
 refine⟨⟨h.ext.f,λb u e=>?_,λb u e=>?_,h.ext.n⟩,by simpa using h.len,λj u t a b=>?_,λj j' t t' w w' a b c b' O p p'=>?_⟩
 .rcases k b u (h.ext.h b u e)with z |z
  .rw[(m b z).1]at e;nomatch e
  .exact z
 .rcases k b u (h.ext.s b u e)with z |z
  .rw[(m b z).2]at e;nomatch e
  .exact z
 .rcases fg b with⟨T,r,_⟩ |⟨en,b⟩
  .subst T r;rw[U]at a;cases a;exact ho
  .have q':=h.at' j u t a b
   cases ht:t.isOwn with
   |false=>
    cases t with
    |no=>trivial
    |im d=>exact q'
    |val u=>exact q'
    | _=>nomatch ht
   |true=>
    obtain⟨l2,r,e3,e4,q2⟩:=q'.own ht;subst r;refine .ofOwn ht ⟨l2,rfl,e3,e4,q2.up (aR.refl _) λo' ho'=>?_⟩
    rcases k l2 o' ho' with z |z
    .exact absurd (h.dj j i t s _ v l2 b e a U ((Holds.own ht).mpr rfl) z) en
    .exact z
 .have B:∀j t w,_[j]?=aa t->σ[j]?=aa (aa w)->Holds G Hf H' t w a->(j=i/\∀j t w,ρ[j]?=aa t->σ[j]?=aa (aa w)->Holds G Hf H t w a->False)\/∃M,ρ[j]?=aa M/\Holds G Hf H M w a:=λj t w b y p=>by
   rcases fg b with⟨T,r,_⟩ |⟨en,b⟩
   .rw[r]at p;rw[T,U]at y;cases y;rw[T]
    rcases hh a p with z |z
    .exact .inr ⟨s,e,z⟩
    .exact .inl ⟨rfl,z⟩
   .exact .inr ⟨t,b,(h.at' j _ t y b).back p⟩
  rcases B j t w b b' p with⟨z1,z2⟩ |⟨M,z1,z2⟩
  .rcases B j' t' w' c O p' with⟨I,L⟩ |⟨t1,I,L⟩
   .rw[z1,I]
   .exact(z2 j' t1 w' I O L).elim
  .rcases B j' t' w' c O p' with⟨I,L⟩ |⟨t1,I,L⟩
   .exact(L j M w z1 b' z2).elim
   .exact h.dj j j' M t1 w w' a z1 I b' O z2 L
def aG.mutd{s s':Sl}(f:s.isOwn=ac)(c:s'.isOwn=ac)(h:aG G Hf0 H0 Hf H σ ρ)(e:ρ[i]?=aa s)(n:σ[i]?=aa (aa (.ref l)))(I:jk G Hf (upd H l o) l s'):
  aG G Hf0 H0 Hf (upd H l o) σ (ρ.set i s'):=by
 obtain⟨L,m,y,B,q⟩:=h.ownAt f e;rw[n]at m;cases m;refine h.chg e n (λb u z=>?_) (.ofOwn c ⟨l,rfl,y,B,I⟩) λa p=>.inl ((Holds.own f).mpr ((Holds.own c).mp p))
 by_cases r:b=l
 .subst r;exact .inl ((Holds.own f).mpr rfl)
 .exact .inr (by rw[bY r];exact z)
def aG.fixd{s:Sl}(L:s.isOwn=ac)(h:aG G Hf0 H0 Hf H σ ρ)(e:ρ[i]?=aa s)(y:σ[i]?=aa (aa (.ref l)))(ho:H l=aa o)(hr:Rep G (upd Hf l o) d (.ref l)):
  aG G Hf0 H0 (upd Hf l o) H σ (ρ.set i (.im d)):=by
 obtain⟨l',f,h0,B,q⟩:=h.ownAt L e;rw[y]at f;cases f;refine h.re (h.ext.fix h0 B ho) (by simp) (λj u t a b=>?_) λj t v a b c p=>?_
 .rcases fg b with⟨e,n,_⟩ |⟨en,b⟩
  .subst e n;rw[y]at a;cases a;exact⟨_,rfl,hr⟩
  .have q:=h.at' j u t a b
   cases m:t.isOwn with
   |false=>
    cases t with
    |no=>trivial
    |im d=>obtain⟨O,f,r⟩:=q;exact⟨O,f,r.up (dN B)⟩
    |val O=>exact q
    | _=>nomatch m
   |true=>
    obtain⟨M,T,U,e4,q2⟩:=q.own m;subst T;refine .ofOwn m ⟨M,rfl,U,?_,q2.up (dN B) λo' I=>I⟩;rw[bY (λz=>?_)]
    .exact e4
    .subst z;exact en (h.inj j i t s M b e m L a y)
 .rcases fg b with⟨_,n,_⟩ |⟨_,b⟩
  .subst n;exact(p.calm rfl).elim
  .exact⟨t,b,(h.at' j _ t c b).back p⟩
def PE.imp{t':TE}(h:PE X e t)(i:∀σ H Q,t' σ H Q->t σ H Q):PE X e t':=λpins s σ H Q I q=>h pins s σ H Q I (i σ H Q q)
variable{t':TT}
def PT.imp{t:TT}(h:PT X e t)(i:∀σ H Q,t' σ H Q->t σ H Q):PT X e t':=λpins s σ H Q I q=>h pins s σ H Q I (i σ H Q q)
def PW.imp{t:TT}(h:PW X e t)(i:∀σ H Q,t' σ H Q->t σ H Q):PW X e t':=λb pins s σ H Q I q=>h b pins s σ H Q I (i σ H Q q)
variable{es:LEx}
def PA.imp{t t':TA}(h:PA X es t)(i:∀σ H Q,t' σ H Q->t σ H Q):PA X es t':=λpos pins s σ H Q I q=>h pos pins s σ H Q I (i σ H Q q)
def PS.imp{st:Stmt}{t t':TS}(h:PS X st t)(i:∀E σ H,t' E σ H->t E σ H):PS X st t':=λpins s σ H E I q=>h pins s σ H E I (i E σ H q)
def PSs.imp{st:List Stmt}{t t':TS}(h:PSs X st t)(i:∀E σ H,t' E σ H->t E σ H):PSs X st t':=λpins s σ H E I q=>h pins s σ H E I (i E σ H q)
def PG.imp{t t':TG}(h:PG X e t)(i:∀v σ H Q,t' v σ H Q->t v σ H Q):PG X e t':=λpins s σ H v u Q I r q=>h pins s σ H v u Q I r (i v σ H Q q)
def PGs.imp{t t':TGs}(h:PGs X es t)(i:∀v σ H Q,t' v σ H Q->t v σ H Q):PGs X es t':=λpins s σ H v u Q I r q=>h pins s σ H v u Q I r (i v σ H Q q)
def PI.imp{t t':TI}(h:PI X tg e t)(i:∀σ H R,t' σ H R->t σ H R):PI X tg e t':=λpins s σ H R I q=>h pins s σ H R I (i σ H R q)
def PTs.imp{t:TT}(h:PTs X fy t)(i:∀σ H Q,t' σ H Q->t σ H Q):PTs X fy t':=λpins s σ H Q I q=>h pins s σ H Q I (i σ H Q q)
@[reducible]noncomputable def Gx(c:Str->Addr)(X:Cx):Gc:=⟨X.K,c⟩
inductive tD(G:Gc)(f:MF1)(σ:St)(H:Hp)(Q:VK):Prop
 |mk:∀Hf0 H0 Hf ρ d,aG G Hf0 H0 Hf H σ ρ->f ρ=aa d->(∀v Hf' H',Ext Hf H Hf' H'->Rep G Hf' d v->Q v H')->tD G f σ H Q
inductive tDB(G:Gc)(f:MF1)(σ:St)(H:Hp)(Q:VK):Prop
 |mk:∀Hf0 H0 Hf ρ d,aG G Hf0 H0 Hf H σ ρ->f ρ=aa d->(∀v Hf' H',Ext Hf H Hf' H'->Rep G H' d v->Q v H')->tDB G f σ H Q
inductive tDC(G:Gc)(f:MF2)(σ:St)(H:Hp)(Q:VK):Prop
 |mk:∀Hf0 H0 Hf ρ ds,aG G Hf0 H0 Hf H σ ρ->f ρ=aa ds->(∀a vs Hf' H',Ext Hf H Hf' H'->(SqL G.K H' a vs\/SqT G.K H' a vs)->aF G Hf' ds vs->Q (.ref a) H')->tDC G f σ H Q
inductive tDO(G:Gc)(f:MF2)(σ:St)(H:Hp)(Q:VK):Prop
 |mk:∀Hf0 H0 Hf ρ ds,aG G Hf0 H0 Hf H σ ρ->f ρ=aa ds->(∀l vs Hf' H',Ext Hf H Hf' H'->H l=ae->Hf' l=ae->H' l=aa (.lst vs)->aF G Hf' ds vs->Q (.ref l) H')->tDO G f σ H Q
inductive tDA(G:Gc)(f:MF2)(σ:St)(H:Hp)(Q:List V->Hp->Prop):Prop
 |mk:∀Hf0 H0 Hf ρ ds,aG G Hf0 H0 Hf H σ ρ->f ρ=aa ds->(∀vs Hf' H',Ext Hf H Hf' H'->aF G Hf' ds vs->Q vs H')->tDA G f σ H Q
inductive FX(G:Gc)(f:MF2)(σ:St)(H:Hp)(Q:List V->Hp->Prop):Prop
 |mk:∀Hf0 H0 Hf ρ ds,aG G Hf0 H0 Hf H σ ρ->f ρ=aa ds->(∀vs Hf' H',Ext Hf H Hf' H'->aF G H' ds vs->Q vs H')->FX G f σ H Q
inductive tDT(G:Gc)(f:MF4)(σ:St)(H:Hp)(Q:Bool->Hp->Prop):Prop
 |mk:∀Hf0 H0 Hf ρ b,aG G Hf0 H0 Hf H σ ρ->f ρ=aa b->(∀Hf' H',Ext Hf H Hf' H'->Q b H')->tDT G f σ H Q
abbrev DE(c:Str->Addr)(X:Cx)(e:Expr)(f:MF1):Prop:=PE X e (tD (Gx c X) f)
abbrev DB(c:Str->Addr)(X:Cx)(e:Expr)(f:MF1):Prop:=PE X e (tDB (Gx c X) f)
abbrev DC(c:Str->Addr)(X:Cx)(e:Expr)(f:MF2):Prop:=PE X e (tDC (Gx c X) f)
abbrev DO(c:Str->Addr)(X:Cx)(e:Expr)(f:MF2):Prop:=PE X e (tDO (Gx c X) f)
structure DA(c:Str->Addr)(X:Cx)(es:LEx)(f:MF2):Prop where
 pa:PA X es (tDA (Gx c X) f)
 len:∀ρ ds,f ρ=aa ds->ds.length=es.length
structure DAB(c:Str->Addr)(X:Cx)(es:LEx)(f:MF2):Prop where
 pa:PA X es (FX (Gx c X) f)
 len:∀ρ ds,f ρ=aa ds->ds.length=es.length
abbrev DT(c:Str->Addr)(X:Cx)(e:Expr)(f:MF4):Prop:=PT X e (tDT (Gx c X) f)
abbrev DW(c:Str->Addr)(X:Cx)(e:Expr)(f:MF4):Prop:=PW X e (tDT (Gx c X) f)
abbrev D.scalar:D->Bool
 |.non=>ac
 |.bl _=>ac
 |.int _=>ac
 |.str _=>ac
 | _=>ai
def Rep.sc(b:d.scalar=ac)(r:Rep G H d v):Rep G H' d v:=by
 cases d <;> first |exact r |cases b
abbrev mD:D->OLD
 |.lst xs=>aa xs
 |.tup xs=>aa xs
 |.kl xs=>aa xs
 |.kt xs=>aa xs
 | _=>ae
def wn(e:mD d=aa ds)(r:Rep G H d v):∃a vs,v=.ref a/\(SqL G.K H a vs\/SqT G.K H a vs)/\aF G H ds vs:=by
 cases d with
 |lst xs=>cases e;obtain⟨a,vs,b,q,r⟩:=r;exact⟨a,vs,b,.inl (SqL.of q),r⟩
 |tup xs=>cases e;obtain⟨a,vs,b,q,r⟩:=r;exact⟨a,vs,b,.inr (SqT.of q),r⟩
 |kl xs=>cases e;obtain⟨a,vs,b,q,r⟩:=r;exact⟨a,vs,b,.inl q,r⟩
 |kt xs=>cases e;obtain⟨a,vs,b,q,r⟩:=r;exact⟨a,vs,b,.inr q,r⟩
 | _=>nomatch e
def Al(s:aR H H')(h:SqL K H a vs\/SqT K H a vs):SqL K H' a vs\/SqT K H' a vs:=h.imp s.seq s.tup
abbrev aZ(f:MF2)(ρ:LS):OD:=(f ρ).map .lst
abbrev gr(f:MF2)(ρ:LS):OD:=(f ρ).map .tup
abbrev fG(f:MF1)(ρ:LS):OLD:=(f ρ).bind mD
variable{c:Str->Addr}{f:MF1}
def DE.db(h:DE c X e f):DB c X e f:=PE.imp h λσ H Q m=>by
 obtain⟨Hf0,H0,Hf,ρ,d,st,b,k⟩:=m;exact(⟨Hf0,H0,Hf,ρ,d,st,b,λv Hf' H' x r=>k v Hf' H' x (r.up x.s)⟩)
def DE.dc(h:DE c X e f):DC c X e (fG f):=PE.imp h λσ H Q y=>by
 obtain⟨Hf0,H0,Hf,ρ,ds,st,b,k⟩:=y;unfold fG at b
 cases m:f ρ with
 |none=>rw[m]at b;nomatch b
 |some d=>
  rw[m]at b;refine⟨Hf0,H0,Hf,ρ,d,st,m,λv Hf' H' x r=>?_⟩;obtain⟨a,vs,n,q,z⟩:=wn b r;subst n;exact k a vs Hf' H' x (Al x.s q) z
def DO.de{f:MF2}(h:DO c X e f):DE c X e (aZ f):=PE.imp h λσ H Q z=>by
 obtain⟨Hf0,H0,Hf,ρ,d,st,b,k⟩:=z;unfold aZ at b
 cases m:f ρ with
 |none=>rw[m]at b;nomatch b
 |some ds=>
  rw[m]at b;have b:=dz b;subst b;exact⟨Hf0,H0,Hf,ρ,ds,st,m,λl vs Hf' H' x y n q r=>k _ _ H' (x.fix y n q) ⟨l,vs,rfl,cz,r.up (dN n)⟩⟩
def DO.dc{f:MF2}(h:DO c X e f):DC c X e f:=PE.imp h λσ H Q n=>by
 obtain ⟨Hf0,H0,Hf,ρ,ds,st,b,k⟩:=n;exact (
 ⟨Hf0,H0,Hf,ρ,ds,st,b,λl vs Hf' H' x y q m r=>k l vs Hf' H' x (.inl (SqL.of m)) r⟩)
abbrev ah(i:Nat)(ρ:LS):OD:=match ρ[i]? with
 |some (.im d)=>aa d
 | _=>ae
abbrev mE(i:Nat)(ρ:LS):OD:=match ρ[i]? with
 |some (.im d)=>aa d
 |some (.own xs)=>aa (.lst xs)
 | _=>ae
abbrev bO(i:Nat)(ρ:LS):OLD:=match ρ[i]? with
 |some (.im d)=>mD d
 |some (.own xs)=>aa xs
 | _=>ae
def M2(h:ah i ρ=aa d):ρ[i]?=aa (.im d):=by
 unfold ah at h
 cases e:ρ[i]? with
 |none=>rw[e]at h;nomatch h
 |some s=>rw[e]at h;cases s <;> cases h;rfl
def FY(h:PE X e (df i)):DE c X e (ah i):=PE.imp h λσ H Q n=>by
 obtain⟨Hf0,H0,Hf,ρ,d,st,m,k⟩:=n;obtain⟨v,b,r⟩:=st.imm (M2 m);exact⟨v,b,k v Hf H (Ext.refl st.sub) r⟩
def FZ(h:PE X e (df i)):DC c X e (bO i):=PE.imp h λσ H Q y=>by
 obtain⟨Hf0,H0,Hf,ρ,ds,st,b,k⟩:=y;unfold bO at b
 cases es:ρ[i]? with
 |none=>rw[es]at b;nomatch b
 |some s=>
  rw[es]at b
  cases s with
  |im d=>
   obtain⟨v,m,r⟩:=st.imm es;obtain⟨a,vs,n,q,z⟩:=wn b r;subst n
   exact⟨_,m,k a vs Hf H (Ext.refl st.sub) (Al st.sub q) z⟩
  |own xs=>
   cases b;obtain⟨l,m,_,_,vs,q,r⟩:=st.ownAt rfl es
   exact⟨_,m,k l vs Hf H (Ext.refl st.sub) (.inl (SqL.of q)) r⟩
  | _=>nomatch b
def M3(h:PE X e (df i)):DB c X e (mE i):=PE.imp h λσ H Q n=>by
 obtain⟨Hf0,H0,Hf,ρ,d,st,b,k⟩:=n;unfold mE at b
 cases es:ρ[i]? with
 |none=>rw[es]at b;nomatch b
 |some s=>
  rw[es]at b
  cases s with
  |im d=>
   cases b;obtain⟨v,m,r⟩:=st.imm es
   exact⟨_,m,k v Hf H (Ext.refl st.sub) (r.up st.sub)⟩
  |own xs=>
   cases b;obtain⟨l,m,_,_,vs,q,r⟩:=st.ownAt rfl es
   exact⟨_,m,k _ Hf H (Ext.refl st.sub) ⟨l,vs,rfl,q,r.up st.sub⟩⟩
  | _=>nomatch b
def Am(h:PE X e (tC v))(r:∀G H,Rep G H d v):DE c X e (λ_=>aa d):=PE.imp h λσ H Q m=>by
 obtain⟨Hf0,H0,Hf,ρ,n,st,b,k⟩:=m;cases b;exact k v Hf H (Ext.refl st.sub) (r _ _)
def am{i:Int}{j}:DE c X (.Constant (.int i) j pos) (λ_=>aa (.int i)):=Am K2 λ_ _=>rfl
def iX{i:Bool}{j}:DE c X (.Constant (.bool i) j pos) (λ_=>aa (.bl i)):=Am K3 λ_ _=>rfl
def aq{i:Str}{j}:DE c X (.Constant (.str i) j pos) (λ_=>aa (.str i)):=Am K4 λ_ _=>rfl
def dv(i:Nat)(h:X.N[i]?=aa x:=by rfl)(m:Vis X.env.scope x:=by first |exact bV rfl |exact bA (bV rfl) |exact bA (bA rfl))(hd:NDb x:=by decide)
 (b:NCd x:=by decide):DE c X (.Name x pos) (ah i):=FY (ku h m hd b)
def dvC(i:Nat)(h:X.N[i]?=aa x:=by rfl)(m:Vis X.env.scope x:=by first |exact bV rfl |exact bA (bV rfl) |exact bA (bA rfl))(hd:NDb x:=by decide)
 (b:NCd x:=by decide):DC c X (.Name x pos) (bO i):=FZ (ku h m hd b)
def dvB(i:Nat)(h:X.N[i]?=aa x:=by rfl)(m:Vis X.env.scope x:=by first |exact bV rfl |exact bA (bV rfl) |exact bA (bA rfl))(hd:NDb x:=by decide)
 (b:NCd x:=by decide):DB c X (.Name x pos) (mE i):=M3 (ku h m hd b)
abbrev aj(f:MF1)(g:MF2)(ρ:LS):OLD:=(f ρ).bind λd=>(g ρ).map λds=>d::ds
variable{g:MF2}
def wo(h:aj f g ρ=aa ds):∃d r,f ρ=aa d/\g ρ=aa r/\ds=d::r:=by
 unfold aj at h
 cases b:f ρ with
 |none=>rw[b]at h;nomatch h
 |some d=>
  cases m:g ρ with
  |none=>rw[b,m]at h;nomatch h
  |some r=>rw[b,m]at h;cases h;exact⟨d,r,rfl,rfl,rfl⟩
def aI:DA c X [] nZ:=⟨PA.imp cN λσ H Q m=>by obtain⟨Hf0,H0,Hf,ρ,ds,st,b,k⟩:=m;cases b;exact k [] Hf H (Ext.refl st.sub) rfl,λρ ds h=>by cases h;rfl⟩
def av(B:DE c X e f)(n:DA c X es g)(I:StE X e es:=by rfl):DA c X (e::es) (aj f g):=by
 refine⟨PA.imp (bW B n.pa I) λσ H Q L=>?_,λρ ds h=>?_⟩
 .obtain⟨Hf0,H0,Hf,ρ,ds,st,z,k⟩:=L;obtain⟨d,r,m,b,rfl⟩:=wo z;exact⟨Hf0,H0,Hf,ρ,d,st,m,λv dk H1 q M=>⟨Hf0,H0,dk,ρ,r,st.step q,b,λvs d8 H2 y O=>k _ d8 H2 (q.trans y) (.cons (M.up y.f) O)⟩⟩
 .obtain⟨d,r,m,b,rfl⟩:=wo h;simp[n.len ρ r b]
def fQ:DAB c X [] nZ:=⟨PA.imp cN λσ H Q m=>by obtain⟨Hf0,H0,Hf,ρ,ds,st,b,k⟩:=m;cases b;exact k [] Hf H (Ext.refl st.sub) rfl,λρ ds h=>by cases h;rfl⟩
def fR(B:DB c X e f)(n:DAB c X es g)(I:StE X e es:=by rfl):DAB c X (e::es) (aj f g):=by
 refine⟨PA.imp (bW B n.pa I) λσ H Q L=>?_,λρ ds h=>?_⟩
 .obtain⟨Hf0,H0,Hf,ρ,ds,st,z,k⟩:=L;obtain⟨d,r,m,b,rfl⟩:=wo z;exact⟨Hf0,H0,Hf,ρ,d,st,m,λv dk H1 q M=>⟨Hf0,H0,dk,ρ,r,st.step q,b,λvs d8 H2 y O=>k _ d8 H2 (q.trans y) (.cons (M.up y.h) O)⟩⟩
 .obtain⟨d,r,m,b,rfl⟩:=wo h;simp[n.len ρ r b]
def cj{f:MF2}(h:DA c X es f)(n:es.length<=1000:=by exact sF rfl):DO c X (.List es pos) f:=PE.imp (tm h.pa) λσ H Q q=>by
 obtain ⟨Hf0,H0,Hf,ρ,ds,st,m,k⟩:=q;exact (
 ⟨Hf0,H0,Hf,ρ,ds,st,m,λvs Hf' H' x r=>⟨by
  rw[<- r.length,h.len ρ ds m];exact mi (tE n),λp b=>k p vs Hf' _ (x.trans (Ext.tmp x.s b)) (x.h.free b) (x.s.free b) cz r⟩⟩)
variable{k':Nat}
def jO{f:MF2}(h:DA c X es f)(q:es.length<=1000:=by exact sF rfl):DE c X (.Tuple es k' pos) (gr f):=PE.imp (wc h.pa) λσ H Q y=>by
 obtain⟨Hf0,H0,Hf,ρ,d,st,b,k⟩:=y;unfold gr at b
 cases m:f ρ with
 |none=>rw[m]at b;nomatch b
 |some ds=>
  rw[m]at b;have b:=dz b;subst b
  exact⟨Hf0,H0,Hf,ρ,ds,st,m,λvs Hf' H' x r=>⟨by
   rw[<- r.length,h.len ρ ds m];exact mi (tE q),λp n=>k _ _ _ (x.trans (Ext.new x.s n)) ⟨p,vs,rfl,cz,r.up (dN (x.s.free n))⟩⟩⟩
abbrev rD(G:Gc)(m:D->D->OD):R2:=λb h H Q=>∃Hf x y d,aR Hf H/\Rep G Hf x b/\Rep G Hf y h/\m x y=aa d/\∀v Hf' H',Ext Hf H Hf' H'->Rep G Hf' d v->Q v H'
nonrec abbrev OpD(c:Str->Addr)(X:Cx)(f:Value->Value->Sem Value)(m:D->D->OD):Prop:=OpR X f (rD (Gx c X) m)
abbrev m2(m:D->D->OD)(f g:MF1)(ρ:LS):OD:=(f ρ).bind λx=>(g ρ).bind λy=>m x y
variable{m:D->D->OD}{g:MF1}
def qy(h:m2 m f g ρ=aa d):∃x y,f ρ=aa x/\g ρ=aa y/\m x y=aa d:=by
 unfold m2 at h
 cases b:f ρ with
 |none=>rw[b]at h;nomatch h
 |some x=>
  cases n:g ρ with
  |none=>rw[b,n]at h;nomatch h
  |some y=>rw[b,n]at h;exact⟨x,y,rfl,rfl,h⟩
variable{r:R2}
def two(O:∀x y H Q,rD (Gx c X) m x y H Q->r x y H Q)(h:tD (Gx c X) (m2 m f g) σ H Q):tOp r (tD (Gx c X) f) (tD (Gx c X) g) σ H Q:=by
 obtain⟨Hf0,H0,Hf,ρ,d,st,M,k⟩:=h;obtain⟨x,y,B,I,L⟩:=qy M;exact⟨Hf0,H0,Hf,ρ,x,st,B,λv dk H1 q T=>⟨Hf0,H0,dk,ρ,y,st.step q,I,λu d8 H2 n U=>O _ _ _ _ ⟨d8,x,y,d,n.s,T.up n.f,U,L,λw b z x3 r3=>k w b z ((q.trans n).trans x3) r3⟩⟩⟩
def F0(O:∀x y H Q,rD (Gx c X) m x y H Q->r x y H Q)(T:∀x y d,m x y=aa d->d.scalar=ac)(h:tD (Gx c X) (m2 m f g) σ H Q):tOp r (tDB (Gx c X) f) (tDB (Gx c X) g) σ H Q:=by
 obtain⟨Hf0,H0,Hf,ρ,d,st,M,k⟩:=h;obtain⟨x,y,I,L,n⟩:=qy M
 exact⟨Hf0,H0,Hf,ρ,x,st,I,λv dk H1 q U=>⟨Hf0,H0,dk,ρ,y,st.step q,L,λu d8 H2 b r2=>O _ _ _ _ ⟨H2,x,y,d,aR.refl _,U.up b.h,r2,n,λw B z x3 r3=>
  k w d8 z ((q.trans b).trans (Ext.grow b.s x3.h)) (r3.sc (T _ _ _ n))⟩⟩⟩
variable{a b:Expr}
def cD{n:Operator}(z:OpD c X (gb n) m)(q:DE c X a f)(y:DE c X b g):DE c X (.BinOp a n b pos) (m2 m f g):=
 PE.imp (v9 z q y) λ_ _ _ h=>two (λ_ _ _ _ h=>h) h
variable{op:CmpOp}
def iY(B:OpD c X (eB op) m)(I:∀x y d,m x y=aa d->d.scalar=ac)(n:DB c X a f)(q:DB c X b g)(z:mj op b=ai:=by first |exact wa _ |rfl):
  DE c X (.Compare a [op] [b] pos) (m2 m f g):=PE.imp (Fi B n q z) λ_ _ _ h=>F0 (λ_ _ _ _ h=>h) I h
abbrev mB(f:MF1)(ρ:LS):Option Bool:=(f ρ).bind λd=>match d with
 |.bl b=>aa b
 | _=>ae
def wq{b:Bool}(h:mB f ρ=aa b):f ρ=aa (.bl b):=by
 unfold mB at h
 cases e:f ρ with
 |none=>rw[e]at h;nomatch h
 |some d=>rw[e]at h;cases d <;> cases h;rfl
def bp(I:OpD c X (eB op) m)(L:∀x y d,m x y=aa d->d.scalar=ac)(q:DB c X a f)(z:DB c X b g)(B:mj op b=ai:=by first |exact wa _ |rfl):
  DT c X (.Compare a [op] [b] pos) (mB (m2 m f g)):=PT.imp (Fj I q z B) λσ H Q M=>by
 obtain ⟨Hf0,H0,Hf,ρ,b,st,n,k⟩:=M;exact (
 F0 (λ_ _ _ _ h=>h) L ⟨Hf0,H0,Hf,ρ,.bl b,st,wq n,λv Hf' H' x r=>⟨b,r,k Hf' H' x⟩⟩)
abbrev qz:D->Option Bool
 |.non=>aa ai
 |.bl b=>aa b
 |.int i=>aa (i != 0)
 |.str x=>if x.length<=16777216 then aa ((x.length:Int) != 0) else ae
 |.lst xs=>aa (!xs.isEmpty)
 |.tup xs=>aa (!xs.isEmpty)
 |.kl xs=>aa (!xs.isEmpty)
 |.kt xs=>aa (!xs.isEmpty)
 | _=>ae
def aF.empty(r:aF G H ds vs):ds.isEmpty=vs.isEmpty:=by
 cases ds with
 |nil=>cases (r);rfl
 |cons d ds=>obtain⟨v,h,e,_⟩:=r;subst e;rfl
def F1{b:Bool}(e:qz d=aa b)(r:Rep G H d v):z8 G.K v H b:=by
 cases d with
 |non=>cases e;subst r;rfl
 |bl x=>cases e;subst r;rfl
 |int i=>cases e;subst r;rfl
 |str x=>
  subst r;replace e:(if x.length<=16777216 then aa _ else ae)=aa b:=e;split at e
  .rename_i n;cases e;exact⟨by rw[dA];exact n,rfl⟩
  .nomatch e
 |lst xs=>cases e;obtain⟨a,vs,h,q,r⟩:=r;subst h;exact .inl ⟨vs,SqL.of q,by rw[r.empty]⟩
 |tup xs=>cases e;obtain⟨a,vs,h,q,r⟩:=r;subst h;exact .inr ⟨vs,SqT.of q,by rw[r.empty]⟩
 |kl xs=>cases e;obtain⟨a,vs,h,q,r⟩:=r;subst h;exact .inl ⟨vs,q,by rw[r.empty]⟩
 |kt xs=>cases e;obtain⟨a,vs,h,q,r⟩:=r;subst h;exact .inr ⟨vs,q,by rw[r.empty]⟩
 |ins _ _ _=>nomatch e
abbrev eG(f:MF1)(ρ:LS):Option Bool:=(f ρ).bind qz
def gZ(y:DB c X a f)(z:∀h,isTrue a X.env h=(do let v <- h;ij a.pos;fP [v] (truthy v)):=by intro _;rfl):DT c X a (eG f):=
 PT.imp (Fm y z) λσ H Q B=>by
  obtain⟨Hf0,H0,Hf,ρ,b,st,n,k⟩:=B;unfold eG at n
  cases q:f ρ with
  |none=>rw[q]at n;nomatch n
  |some d=>
   rw[q]at n;exact⟨Hf0,H0,Hf,ρ,d,st,q,λv Hf' H' x r=>⟨b,F1 n r,k Hf' H' x⟩⟩
abbrev iZ(f g:MF4)(ρ:LS):Option Bool:=(f ρ).bind λb=>if b then g ρ else aa ai
abbrev mOr(f g:MF4)(ρ:LS):Option Bool:=(f ρ).bind λb=>if b then aa ac else g ρ
abbrev jl(f:MF4)(ρ:LS):Option Bool:=(f ρ).map not
variable{f:MF4}
def DW.dt(h:DW c X e f):DT c X e f:=PW.pt h
def wr(h:DT c X a f):DW c X (.BoolOp .And [a] pos) f:=K8 h
def M4(h:DT c X a f):DW c X (.BoolOp .Or [a] pos) f:=E5 h
def tF{g:MF4}{bF:LEx}(h:DT c X a f)(h':DW c X (.BoolOp .And (b::bF) pos) g):DW c X (.BoolOp .And (a::b::bF) pos) (iZ f g):=PW.imp (K9 h h') λσ H Q z=>by
 obtain⟨Hf0,H0,Hf,ρ,b,st,n,k⟩:=z;unfold iZ at n
 cases q:f ρ with
 |none=>rw[q]at n;nomatch n
 |some x=>
  rw[q]at n;refine⟨Hf0,H0,Hf,ρ,x,st,q,λdk H1 y=>?_⟩
  cases x with
  |true=>rw[if_pos rfl];exact⟨Hf0,H0,dk,ρ,b,st.step y,n,λd8 H2 B=>k d8 H2 (y.trans B)⟩
  |false=>cases n;rw[if_neg cp];exact k dk H1 y
def M5{g:MF4}{bF:LEx}(h:DT c X a f)(h':DW c X (.BoolOp .Or (b::bF) pos) g):DW c X (.BoolOp .Or (a::b::bF) pos) (mOr f g):=PW.imp (E6 h h') λσ H Q z=>by
 obtain⟨Hf0,H0,Hf,ρ,b,st,n,k⟩:=z;unfold mOr at n
 cases q:f ρ with
 |none=>rw[q]at n;nomatch n
 |some x=>
  rw[q]at n;refine⟨Hf0,H0,Hf,ρ,x,st,q,λdk H1 y=>?_⟩
  cases x with
  |false=>rw[if_neg cp];exact⟨Hf0,H0,dk,ρ,b,st.step y,n,λd8 H2 B=>k d8 H2 (y.trans B)⟩
  |true=>cases n;rw[if_pos rfl];exact k dk H1 y
def oh(h:DT c X a f):DT c X (.UnaryOp .Not a pos) (jl f):=PT.imp (E7 h) λσ H Q y=>by
 obtain⟨Hf0,H0,Hf,ρ,b,st,n,k⟩:=y;unfold jl at n
 cases q:f ρ with
 |none=>rw[q]at n;nomatch n
 |some x=>
  rw[q]at n;cases n;exact⟨Hf0,H0,Hf,ρ,x,st,q,λdk H1 z=>k dk H1 z⟩
abbrev kz(f g:MF1)(ρ:LS):OD:=(mB f ρ).bind λb=>if b then g ρ else aa (.bl ai)
abbrev vOr(f g:MF1)(ρ:LS):OD:=(mB f ρ).bind λb=>if b then aa (.bl ac) else g ρ
abbrev tI(f:MF1)(ρ:LS):OD:=(mB f ρ).map λb=>.bl (!b)
variable{f:MF1}
def oi{op}(h:DE c X a f):DE c X (.BoolOp op [a] pos) f:=Ld h
def qA{bF:LEx}(h:DE c X a f)(h':DE c X (.BoolOp .And (b::bF) pos) g):DE c X (.BoolOp .And (a::b::bF) pos) (kz f g):=PE.imp (Le h h') λσ H Q z=>by
 obtain⟨Hf0,H0,Hf,ρ,d,st,n,k⟩:=z;unfold kz at n
 cases q:mB f ρ with
 |none=>rw[q]at n;nomatch n
 |some x=>
  rw[q]at n;refine⟨Hf0,H0,Hf,ρ,.bl x,st,wq q,λv dk H1 y B=>⟨x,B,?_⟩⟩
  cases x with
  |true=>rw[if_pos rfl];exact⟨Hf0,H0,dk,ρ,d,st.step y,n,λv d8 H2 L I=>k v d8 H2 (y.trans L) I⟩
  |false=>cases n;rw[if_neg cp];exact k _ dk H1 y rfl
def F2{bF:LEx}(h:DE c X a f)(h':DE c X (.BoolOp .Or (b::bF) pos) g):DE c X (.BoolOp .Or (a::b::bF) pos) (vOr f g):=PE.imp (Lf h h') λσ H Q z=>by
 obtain⟨Hf0,H0,Hf,ρ,d,st,n,k⟩:=z;unfold vOr at n
 cases q:mB f ρ with
 |none=>rw[q]at n;nomatch n
 |some x=>
  rw[q]at n;refine⟨Hf0,H0,Hf,ρ,.bl x,st,wq q,λv dk H1 y B=>⟨x,B,?_⟩⟩
  cases x with
  |false=>rw[if_neg cp];exact⟨Hf0,H0,dk,ρ,d,st.step y,n,λv d8 H2 L I=>k v d8 H2 (y.trans L) I⟩
  |true=>cases n;rw[if_pos rfl];exact k _ dk H1 y rfl
def M6(h:DE c X a f):DE c X (.UnaryOp .Not a pos) (tI f):=PE.imp (Lg h) λσ H Q y=>by
 obtain⟨Hf0,H0,Hf,ρ,d,st,n,k⟩:=y;unfold tI at n
 cases q:mB f ρ with
 |none=>rw[q]at n;nomatch n
 |some x=>
  rw[q]at n;cases n;exact⟨Hf0,H0,Hf,ρ,.bl x,st,wq q,λv dk H1 B z=>⟨x,z,k _ dk H1 B rfl⟩⟩
abbrev vIf(t:MF4)(f g:MF1)(ρ:LS):OD:=(t ρ).bind λb=>if b then f ρ else g ρ
variable{t:MF4}{cd:Expr}
def F3(I:DT c X cd t)(z:DE c X a f)(B:DE c X b g):DE c X (.IfExp cd a b pos) (vIf t f g):=PE.imp (zV I z B) λσ H Q L=>by
 obtain⟨Hf0,H0,Hf,ρ,d,st,h,k⟩:=L;unfold vIf at h
 cases q:t ρ with
 |none=>rw[q]at h;nomatch h
 |some x=>
  rw[q]at h;refine⟨Hf0,H0,Hf,ρ,x,st,q,λdk H1 n=>?_⟩
  cases x with
  |true=>rw[if_pos rfl];exact⟨Hf0,H0,dk,ρ,d,st.step n,h,λv d8 H2 y r=>k v d8 H2 (n.trans y) r⟩
  |false=>rw[if_neg cp];exact⟨Hf0,H0,dk,ρ,d,st.step n,h,λv d8 H2 y r=>k v d8 H2 (n.trans y) r⟩
noncomputable instance {i j:Int}:Decidable (sX i j):=by unfold sX;infer_instance
noncomputable instance {i j:Int}:Decidable (sY i j):=by unfold sY;infer_instance
noncomputable instance {i j:Int}:Decidable (sZ i j):=by unfold sZ;infer_instance
abbrev dI(C:Int->Int->Prop)[∀i j,Decidable (C i j)](g:Int->Int->D):D->D->OD
 |.int i,.int j=>if C i j then aa (g i j) else ae
 | _,_=>ae
abbrev dI0(g:Int->Int->D):D->D->OD
 |.int i,.int j=>aa (g i j)
 | _,_=>ae
abbrev bB:D->D->OD
 |.int i,.int j=>aa (.int (i+j))
 |.str a,.str b=>if a.length+b.length<=16777216 then aa (.str (a++b)) else ae
 |.lst a,.lst b=>if a.length+b.length<=16777216 then aa (.lst (a++b)) else ae
 | _,_=>ae
@[reducible]noncomputable def jP:D->D->OD:=dI0 λi j=>.int (i-j)
@[reducible]noncomputable def An:D->D->OD:=dI sX λi j=>.int (i / j)
@[reducible]noncomputable def il:D->D->OD:=dI (λ_ j=>0<j) λi j=>.int (i % j)
@[reducible]noncomputable def jQ:D->D->OD:=dI sY λi j=>.int (i ^ j.toNat)
@[reducible]noncomputable def dLt:D->D->OD:=dI0 λi j=>.bl (decide (i<j))
@[reducible]noncomputable def dLe:D->D->OD:=dI0 λi j=>.bl (decide (i<=j))
@[reducible]noncomputable def dGt:D->D->OD:=dI0 λi j=>.bl (decide (j<i))
variable{gd:Int->Int->D}
def wt{f:Value->Value->Sem Value}{C:Int->Int->Prop}[∀i j,Decidable (C i j)]{g:Int->Int->V}(h:OpR X f (rI C g))(q:∀G H i j,Rep G H (gd i j) (g i j)):OpD c X f (dI C gd):=by
 rintro pins s σ H T U v u Q I L M ⟨Hf,x,y,d,O,z,B,e,k⟩;unfold dI at e;split at e
 .split at e
  .rename_i n;cases e;exact h pins s σ H T U v u Q I L M ⟨_,_,z,B,n,k _ Hf H (Ext.refl O) (q _ _ _ _)⟩
  .nomatch e
 .nomatch e
def wu{f:Value->Value->Sem Value}{g:Int->Int->V}(h:OpR X f (rI0 g))(n:∀G H i j,Rep G H (gd i j) (g i j)):OpD c X f (dI0 gd):=by
 rintro pins s σ H O T v u Q I B L ⟨Hf,x,y,d,M,q,z,e,k⟩;unfold dI0 at e;split at e
 .cases e;exact h pins s σ H O T v u Q I B L ⟨_,_,q,z,k _ Hf H (Ext.refl M) (n _ _ _ _)⟩
 .nomatch e
def cA:OpD c X (gb .Add) bB:=by
 rintro pins s σ H M O v u Q I B L ⟨Hf,x,y,d,q,h,n,e,k⟩;unfold bB at e;split at e
 .cases e;exact LO pins s σ H M O v u Q I B L ⟨_,_,h,n,k _ Hf H (Ext.refl q) rfl⟩
 .split at e
  .rename_i z;cases e;exact L8 pins s σ H M O v u Q I B L ⟨_,_,h,n,by rw[dA];exact z,k _ Hf H (Ext.refl q) rfl⟩
  .nomatch e
 .split at e
  .rename_i z;cases e;obtain⟨a,vs,U,q1,h⟩:=h;obtain⟨b,us,e2,q2,n⟩:=n
   exact Ad pins s σ H M O v u Q I B L ⟨a,b,vs,us,U,e2,q _ _ q1,q _ _ q2,by rw[dA,<- h.length,<- n.length];exact z,
    λp T=>k _ _ _ (Ext.new q T) ⟨p,_,rfl,cz,(h.append n).up (dN (q.free T))⟩⟩
  .nomatch e
 .nomatch e
def tJ:OpD c X (gb .Sub) jP:=wu LP λ_ _ _ _=>rfl
def M7:OpD c X (gb .FloorDiv) An:=wt LQ λ_ _ _ _=>rfl
def lH:OpD c X (gb .Mod) il:=wt LR λ_ _ _ _=>rfl
def oj:OpD c X (gb .Pow) jQ:=wt LU λ_ _ _ _=>rfl
def kA:OpD c X (eB .Lt) dLt:=wu LY λ_ _ _ _=>rfl
def F4:OpD c X (eB .LtE) dLe:=wu LZ λ_ _ _ _=>rfl
def mF:OpD c X (eB .Gt) dGt:=wu L3 λ_ _ _ _=>rfl
def Ao{g:Int->Int->D}(h:∀i j,(g i j).scalar=ac):∀x y d,dI0 g x y=aa d->d.scalar=ac:=by
 intro x y d e;unfold dI0 at e;split at e
 .cases e;exact h _ _
 .nomatch e
def kC:∀x y d,dLt x y=aa d->d.scalar=ac:=Ao λ_ _=>rfl
def F5:∀x y d,dLe x y=aa d->d.scalar=ac:=Ao λ_ _=>rfl
def mG:∀x y d,dGt x y=aa d->d.scalar=ac:=Ao λ_ _=>rfl
abbrev kD:D->OD
 |.int i=>aa (.int (-i))
 | _=>ae
abbrev m1(m:D->OD)(f:MF1)(ρ:LS):OD:=(f ρ).bind m
def qB(q:DE c X a f):DE c X (.UnaryOp .USub a pos) (m1 kD f):=PE.imp (LM LV q) λσ H Q z=>by
 obtain⟨Hf0,H0,Hf,ρ,d,st,h,k⟩:=z;unfold m1 at h
 cases n:f ρ with
 |none=>rw[n]at h;nomatch h
 |some y=>
  rw[n]at h
  cases y with
  |int i=>cases h;exact⟨Hf0,H0,Hf,ρ,.int i,st,n,λv Hf' H' x r=>⟨i,r,k _ Hf' H' x rfl⟩⟩
  | _=>nomatch h
def wv{x:Option Bool}{g:Bool->Bool}:∀d,x.map (λb=>D.bl (g b))=aa d->d.scalar=ac:=by
 intro d e
 cases x with
 |none=>nomatch e
 |some b=>cases e;rfl
abbrev eqF:D->D->Bool
 |.non,.non=>ac
 |.bl a,.bl b=>a==b
 |.int a,.int b=>a==b
 |.str a,.str b=>a==b
 | _,_=>ai
abbrev fH(f:D->D->Option Bool):LD->LD->Option Bool
 | [],[]=>aa ac
 |x::xs,y::ys=>(f x y).bind λb=>(fH f xs ys).map λr=>b && r
 | _,_=>aa ai
abbrev Ap:D->D->Bool
 |.bl _,.int _=>ac
 |.int _,.bl _=>ac
 | _,_=>ai
abbrev Aq(f:D->D->Option Bool):D->D->Option Bool
 |.lst xs,.lst ys=>if xs.length=ys.length then fH f xs ys else aa ai
 |.tup xs,.tup ys=>if xs.length=ys.length then fH f xs ys else ae
 |x,y=>if x.scalar && y.scalar && !Ap x y then aa (eqF x y) else ae
abbrev deq:Nat->D->D->Option Bool
 | 0,_,_=>ae
 |n+1,x,y=>Aq (deq n) x y
abbrev dEq(x y:D):OD:=(deq 20 x y).map .bl
abbrev dNe(x y:D):OD:=(deq 20 x y).map λb=>.bl (!b)
def cx:∀x y d,dEq x y=aa d->d.scalar=ac:=λ_ _ d e=>wv d e
def qC:∀x y d,dNe x y=aa d->d.scalar=ac:=λ_ _ d e=>wv d e
variable{x y:D}{xs ys:LD}{b:Bool}
def F6{f:D->D->Option Bool}(h:fH f (x::xs) (y::ys)=aa b):∃b1 b2,f x y=aa b1/\fH f xs ys=aa b2/\b=(b1 && b2):=by
 unfold fH at h
 cases n:f x y with
 |none=>rw[n]at h;nomatch h
 |some b1=>
  cases q:fH f xs ys with
  |none=>rw[n,q]at h;nomatch h
  |some b2=>rw[n,q]at h;cases h;exact⟨b1,b2,rfl,rfl,rfl⟩
def ol{f:D->D->Option Bool}:∀{xs ys:LD} {b:Bool},xs.length=ys.length->fH f xs ys=aa b->∃e:Nat->Bool,(∀j x y,xs[j]?=aa x->ys[j]?=aa y->f x y=aa (e j))/\(dG xs.length).all e=b
 | [],[],b,_,h=>by cases h;exact⟨λ_=>ac,λj x y e=>by simp at e,rfl⟩
 |x::xs,y::ys,b,hl,h=>by
  obtain⟨b1,b2,q,z,rfl⟩:=F6 h;obtain⟨e,I,B⟩:=ol (by simpa using hl) z
  refine⟨λj=>match j with | 0=>b1 |j+1=>e j,λj L M ex n=>?_,?_⟩
  .cases j with
   |zero=>simp at ex n;subst ex n;exact q
   |succ j=>exact I j L M (by simpa using ex) (by simpa using n)
  .rw[aQ,range_succ_eq_map,nK,all_map,<- B]
   rfl
 | [],_::_,_,hl,_=>by cases hl
 | _::_,[],_,hl,_=>by cases hl
def ww(s:d.scalar=ac):d=.non\/(∃b,d=.bl b)\/(∃i,d=.int i)\/∃z,d=.str z:=by
 cases d with
 |non=>exact .inl rfl
 |bl b=>exact .inr (.inl ⟨b,rfl⟩)
 |int i=>exact .inr (.inr (.inl ⟨i,rfl⟩))
 |str z=>exact .inr (.inr (.inr ⟨z,rfl⟩))
 | _=>nomatch s
def wx(h:(x.scalar && y.scalar && !Ap x y)=ac)(n:Rep G H x v)(q:Rep G H y u):gG v=ac/\gG u=ac/\eqV v u=eqF x y/\z4 v u=ac/\decide (v=u)=eqF x y:=by
 rw[cq,cq]at h
 rcases ww h.1.1 with rfl |⟨a,rfl⟩ |⟨a,rfl⟩ |⟨a,rfl⟩ <;> rcases ww h.1.2 with rfl |⟨b,rfl⟩ |⟨b,rfl⟩ |⟨b,rfl⟩ <;> first
  |(cases h.2;done)
  |(subst n;subst q;refine⟨rfl,rfl,rfl,rfl,?_⟩;first |exact z6 |exact z5 |exact z7 |rfl)
variable{n:Nat}
def wy(q:¬(∃xs ys,x=.lst xs/\y=.lst ys)/\¬(∃xs ys,x=.tup xs/\y=.tup ys))(h:deq (n+1) x y=aa b):(x.scalar && y.scalar && !Ap x y)=ac/\b=eqF x y:=by
 replace h:Aq _ x y=aa b:=h;unfold Aq at h;split at h
 .exact absurd ⟨_,_,rfl,rfl⟩ q.1
 .exact absurd ⟨_,_,rfl,rfl⟩ q.2
 .split at h
  .rename_i z;cases h;exact⟨z,rfl⟩
  .nomatch h
def F7:∀(n:Nat) {x y:D} {b:Bool} {v:V},deq n x y=aa b->Rep G H x v->Rep G H y v->b=ac:=by
 intro n
 induction n with
 |zero=>intro x y b v h;nomatch h
 |succ n ih=>
  have all:∀(xs ys:LD) vs b,aF G H xs vs->aF G H ys vs->fH (deq n) xs ys=aa b->b=ac:=by
   intro xs
   induction xs with
   |nil=>
    intro ys vs b B z h;cases (B);have:ys=[]:=lz.mp z.length;subst this
    cases h;rfl
   |cons x xs U=>
    intro ys vs b B z h;obtain⟨v,r,e,h1,h2⟩:=B;subst e
    cases ys with
    |nil=>cases (z)
    |cons y ys=>
     obtain⟨v',r',e,O,T⟩:=z;cases e;obtain⟨b1,b2,e1,e2,rfl⟩:=F6 h;rw[ih e1 h1 O,U ys _ b2 h2 T e2];rfl
  intro x y b v h B z
  by_cases hl:∃xs ys,x=.lst xs/\y=.lst ys
  .obtain⟨xs,ys,rfl,rfl⟩:=hl;obtain⟨a,vs,e,q,B⟩:=B;obtain⟨a',vs',M,L,z⟩:=z;subst e;cases M;rw[q]at L;cases L;have I:=B.length.trans z.length.symm;replace h:(if xs.length=ys.length then fH _ xs ys else aa ai)=aa b:=h;rw[if_pos I]at h;exact all xs ys vs b B z h
  .by_cases ht:∃xs ys,x=.tup xs/\y=.tup ys
   .obtain⟨xs,ys,rfl,rfl⟩:=ht;obtain⟨a,vs,e,q,B⟩:=B;obtain⟨a',vs',M,L,z⟩:=z;subst e;cases M;rw[q]at L;cases L;replace h:(if xs.length=ys.length then fH _ xs ys else ae)=aa b:=h;rw[if_pos (B.length.trans z.length.symm)]at h;exact all xs ys vs b B z h
   .obtain⟨hs,rfl⟩:=wy ⟨hl,ht⟩ h;obtain⟨_,_,_,_,e⟩:=wx hs B z;rw[<- e];exact decide_eq_true rfl
variable{us:List V}
def qE{s:ax}{its h:LVa}{e:Nat->Bool}(r1:aF G H xs vs)(r2:aF G H ys us)(r:aW vs its)(r':aW us h)
 (U:∀j x y,xs[j]?=aa x->ys[j]?=aa y->deq n x y=aa (e j))
 (ih:∀{x y:D} {b:Bool} {v u:V} {w L:Value},deq n x y=aa b->Rep G H x v->Rep G H y u->bh v w->bh u L->eE A s w L b):
  ∀j (B:j<its.toArray.size) (I:j<h.toArray.size),eE A s its.toArray[j] h.toArray[j] (e j):=λj B I=>by
 have q:j<its.length:=by simpa using B
 have z:j<h.length:=by simpa using I
 obtain⟨v,O,rv⟩:=r.at' (i:=j) (u:=its[j]) (by simp[q]);obtain⟨u,M,ru⟩:=r'.at' (i:=j) (u:=h[j]) (by simp[z]);obtain⟨x,ex,rx⟩:=r1.get' O;obtain⟨y,T,ry⟩:=r2.get' M;exact ih (U j x y ex T) rx ry rv ru
def F8{s:ax}(I:Inv X pins σ H s):∀(n:Nat) {A:dL} {x y:D} {b:Bool} {v u:V} {w w':Value},A.units+n<cLine->deq n x y=aa b->Rep (Gx c X) H x v->Rep (Gx c X) H y u->bh v w->bh u w'->eE A s w w' b:=by
 intro n
 induction n with
 |zero=>intro A x y b v u w w' _ h;nomatch h
 |succ n ih=>
  intro A x y b v u w w' hu h r1 r2 rv ru;have gs:∀{x y:D} {b:Bool} {v u:V} {w w':Value},deq n x y=aa b->Rep _ H x v->Rep _ H y u->bh v w->bh u w'->eE A.in1 s w w' b:=λh a b c d=>ih (by rw[zG];lia) h a b c d
  by_cases hl:∃xs ys,x=.lst xs/\y=.lst ys
  .obtain⟨xs,ys,rfl,rfl⟩:=hl;obtain⟨a,vs,e,q,z⟩:=id r1;obtain⟨a',vs',e',q',B⟩:=id r2;subst e e';cases rv;subst ru
   by_cases M:a=a'
   .subst M;have:=F7 _ h (⟨a,vs,rfl,q,z⟩) ⟨a,vs',rfl,q',B⟩;subst this;exact zO _
   .refine eE.of_refs M ?_;obtain⟨its,rr,pl,hz⟩:=I.list (SqL.of q);obtain⟨U,O,T,n7⟩:=I.list (SqL.of q');have l1:=rr.length;have l2:=O.length;have l3:=z.length;have l4:=B.length;replace h:(if xs.length=ys.length then fH _ xs ys else aa ai)=aa b:=h;split at h
    .rename_i L;obtain⟨ee,he,ha⟩:=ol L h;have:=SeqAt.RcAt.lists pl.isList T.isList (by simp only[size_toArray];lia) (by lia) (qE z B rr O he gs);rw[size_toArray,<- l1,<- l3,ha]at this;exact this
    .rename_i L;cases h;exact SeqAt.RcAt.lists_lengths pl.isList T.isList (by simp only[size_toArray,bne_iff_ne];lia) (by lia)
  .by_cases ht:∃xs ys,x=.tup xs/\y=.tup ys
   .obtain⟨xs,ys,rfl,rfl⟩:=ht;obtain⟨a,vs,e,q,z⟩:=id r1;obtain⟨a',vs',e',q',B⟩:=id r2;subst e e';cases rv;subst ru
    by_cases M:a=a'
    .subst M;have:=F7 _ h (⟨a,vs,rfl,q,z⟩) ⟨a,vs',rfl,q',B⟩;subst this;exact zO _
    .refine eE.of_refs M ?_;obtain⟨its,rr,pl,hz⟩:=I.tuple (SqT.of q);obtain⟨U,O,T,n7⟩:=I.tuple (SqT.of q');have l1:=rr.length;have l2:=O.length;have l3:=z.length;have l4:=B.length;replace h:(if xs.length=ys.length then fH _ xs ys else ae)=aa b:=h;split at h
     .rename_i L;obtain⟨ee,he,ha⟩:=ol L h;have:=SeqAt.RcAt.tuples (pl) (T) (by lia) (qE z B rr O he gs);have hsz:its.toArray.size=U.toArray.size:=by simp only[size_toArray];lia
      rw[<- hsz,Nat.min_self,beq_self_eq_true,Bool.and_true,size_toArray,<- l1,<- l3,ha]at this;exact this
     .nomatch h
   .obtain⟨hs,rfl⟩:=wy ⟨hl,ht⟩ h;obtain⟨f1,f2,e,_,_⟩:=wx hs r1 r2;rw[<- e];exact FN rv ru f1 f2
def bP(hu:X.A.units+64<cLine):OpD c X (eB .Eq) dEq:=by
 rintro pins s σ H v u w w' Q I rv ru ⟨Hf,x,y,d,s0,r1,r2,e,k⟩;unfold dEq at e
 cases h:deq 20 x y with
 |none=>rw[h]at e;nomatch e
 |some b=>
  rw[h]at e;cases e;have q0:=k _ Hf H (Ext.refl s0) rfl;have U:EP X pins σ Q _ s:=⟨.bl b,H,I,rfl,q0⟩;have r1:=r1.up s0;have r2:=r2.up s0;have gs:∀{x y:D} {b:Bool} {v u:V} {w w':Value},deq 19 x y=aa b->Rep _ H x v->Rep (Gx c X) H y u->bh v w->bh u w'->eE X.A.in1 s w w' b:=λh a b c d=>F8 I 19 (by rw[zG];lia) h a b c d
  by_cases hl:∃xs ys,x=.lst xs/\y=.lst ys
  .obtain⟨xs,ys,rfl,rfl⟩:=hl;obtain⟨a,vs,e,q,L⟩:=id r1;obtain⟨a',vs',e',q',M⟩:=id r2;subst e e';cases rv;subst ru;obtain⟨its,rr,pl,hz⟩:=I.list (SqL.of q);obtain⟨T,B,O,n7⟩:=I.list (SqL.of q');have l1:=rr.length;have l2:=B.length;have l3:=L.length;have l4:=M.length;replace h:(if xs.length=ys.length then fH _ xs ys else aa ai)=aa b:=h;split at h
   .rename_i z;obtain⟨ee,he,ha⟩:=ol z h;refine SeqAt.eq_listAt pl.isList O.isList (by simp only[size_toArray];lia) (by lia) (qE L M rr B he gs) ?_;rw[size_toArray,<- l1,<- l3,ha];exact U
   .rename_i z;cases h;exact SeqAt.eq_list_lengthsAt pl.isList O.isList (by simp only[size_toArray,bne_iff_ne];lia) (by lia) U
  .by_cases ht:∃xs ys,x=.tup xs/\y=.tup ys
   .obtain⟨xs,ys,rfl,rfl⟩:=ht;obtain⟨a,vs,e,q,L⟩:=id r1;obtain⟨a',vs',e',q',M⟩:=id r2;subst e e';cases rv;subst ru;obtain⟨its,rr,pl,hz⟩:=I.tuple (SqT.of q);obtain⟨T,B,O,n7⟩:=I.tuple (SqT.of q');have l1:=rr.length;have l2:=B.length;have l3:=L.length;have l4:=M.length;replace h:(if xs.length=ys.length then fH _ xs ys else ae)=aa b:=h;split at h
    .rename_i z;obtain⟨ee,he,ha⟩:=ol z h;refine SeqAt.eq_tupleAt (pl) (O) (by lia) (qE L M rr B he gs) ?_;have hsz:its.toArray.size=T.toArray.size:=by simp only[size_toArray];lia
     rw[<- hsz,Nat.min_self,beq_self_eq_true,Bool.and_true,size_toArray,<- l1,<- l3,ha];exact U
    .nomatch h
   .obtain⟨hs,rfl⟩:=wy ⟨hl,ht⟩ h;obtain⟨_,_,_,hsc,e⟩:=wx hs r1 r2;exact LW pins s σ H v u w w' Q I rv ru ⟨hsc,by rw[e];exact q0⟩
def kG(hu:X.A.units+64<cLine):OpD c X (eB .NotEq) dNe:=by
 rintro pins s σ H v u w w' Q I rv ru ⟨Hf,x,y,d,s0,r1,r2,e,k⟩;unfold dNe at e
 cases h:deq 20 x y with
 |none=>rw[h]at e;nomatch e
 |some b=>
  rw[h]at e;cases e;have q0:=k _ Hf H (Ext.refl s0) rfl;have U:EP X pins σ Q _ s:=⟨.bl (!b),H,I,rfl,q0⟩;have r1:=r1.up s0;have r2:=r2.up s0;have gs:∀{x y:D} {b:Bool} {v u:V} {w w':Value},deq 19 x y=aa b->Rep _ H x v->Rep (Gx c X) H y u->bh v w->bh u w'->eE X.A.in1 s w w' b:=λh a b c d=>F8 I 19 (by rw[zG];lia) h a b c d
  by_cases hl:∃xs ys,x=.lst xs/\y=.lst ys
  .obtain⟨xs,ys,rfl,rfl⟩:=hl;obtain⟨a,vs,e,q,L⟩:=id r1;obtain⟨a',vs',e',q',M⟩:=id r2;subst e e';cases rv;subst ru;obtain⟨its,rr,pl,hz⟩:=I.list (SqL.of q);obtain⟨T,B,O,n7⟩:=I.list (SqL.of q');have l1:=rr.length;have l2:=B.length;have l3:=L.length;have l4:=M.length;replace h:(if xs.length=ys.length then fH _ xs ys else aa ai)=aa b:=h;split at h
   .rename_i z;obtain⟨ee,he,ha⟩:=ol z h;refine SeqAt.RcNeAt.lists pl.isList O.isList (by simp only[size_toArray];lia) (by lia) (qE L M rr B he gs) X.prog X.w X.xe _ ?_;rw[size_toArray,<- l1,<- l3,ha];exact U
   .rename_i z;cases h;exact SeqAt.RcNeAt.lists_lengths pl.isList O.isList (by simp only[size_toArray,bne_iff_ne];lia) (by lia) X.prog X.w X.xe _ U
  .by_cases ht:∃xs ys,x=.tup xs/\y=.tup ys
   .obtain⟨xs,ys,rfl,rfl⟩:=ht;obtain⟨a,vs,e,q,L⟩:=id r1;obtain⟨a',vs',e',q',M⟩:=id r2;subst e e';cases rv;subst ru;obtain⟨its,rr,pl,hz⟩:=I.tuple (SqT.of q);obtain⟨T,B,O,n7⟩:=I.tuple (SqT.of q');have l1:=rr.length;have l2:=B.length;have l3:=L.length;have l4:=M.length;replace h:(if xs.length=ys.length then fH _ xs ys else ae)=aa b:=h;split at h
    .rename_i z;obtain⟨ee,he,ha⟩:=ol z h;refine SeqAt.RcNeAt.tuples (pl) (O) (by lia) (qE L M rr B he gs) X.prog X.w X.xe _ ?_;have hsz:its.toArray.size=T.toArray.size:=by simp only[size_toArray];lia
     rw[<- hsz,Nat.min_self,beq_self_eq_true,Bool.and_true,size_toArray,<- l1,<- l3,ha];exact U
    .nomatch h
   .obtain⟨hs,rfl⟩:=wy ⟨hl,ht⟩ h;obtain⟨_,_,_,hsc,e⟩:=wx hs r1 r2;exact LX pins s σ H v u w w' Q I rv ru ⟨hsc,by rw[e];exact q0⟩
abbrev eqX:D->D->Bool
 |.non,.non=>ac
 |.bl a,.bl b=>a==b
 |.bl a,.int b=>(if a then 1 else 0)==b
 |.int a,.bl b=>a==(if b then 1 else 0)
 |.int a,.int b=>a==b
 |.str a,.str b=>a==b
 | _,_=>ai
abbrev inD(x y:D):Option Bool:=(mD y).bind λds=>if x.scalar && ds.all D.scalar then aa (ds.any λd=>eqX d x) else ae
abbrev dIn(x y:D):OD:=(inD x y).map .bl
abbrev jm(x y:D):OD:=(inD x y).map λb=>.bl (!b)
def wz:∀x y d,dIn x y=aa d->d.scalar=ac:=λ_ _ d e=>wv d e
def wA:∀x y d,jm x y=aa d->d.scalar=ac:=λ_ _ d e=>wv d e
def M8(h:x.scalar=ac)(q:y.scalar=ac)(z:Rep G H x v)(B:Rep G H y u):gG v=ac/\gG u=ac/\eqV v u=eqX x y:=by
 rcases ww h with rfl |⟨a,rfl⟩ |⟨a,rfl⟩ |⟨a,rfl⟩ <;> rcases ww q with rfl |⟨b,rfl⟩ |⟨b,rfl⟩ |⟨b,rfl⟩ <;> (subst z;subst B;exact⟨rfl,rfl,rfl⟩)
def F9{G:Gc}{H:Hp}{x:D}{v:V}(z:x.scalar=ac)(r:Rep G H x v):∀{ds:LD} {vs:List V},ds.all D.scalar=ac->aF G H ds vs->vs.all gG=ac/\inV v vs=ds.any λd=>eqX d x
 | [],_,_,h=>by cases (h);exact⟨rfl,rfl⟩
 |d::ds,_,ha,q3_=>by
  obtain⟨u,T,e,L,M⟩:=q3_;subst e;rw[nK,cq]at ha;obtain⟨B,O,e⟩:=M8 ha.1 z L r;obtain⟨I,q⟩:=F9 z r ha.2 M;refine⟨by rw[nK,B,I];rfl,?_⟩;unfold inV at q ⊢;rw[any_cons,any_cons,e,q]
def Ga(e:inD x y=aa b)(z:Rep G H x v)(M:Rep G H y u):∃p vs,u=.ref p/\(SqL G.K H p vs\/SqT G.K H p vs)/\gG v=ac/\vs.all gG=ac/\inV v vs=b:=by
 unfold inD at e
 cases es:mD y with
 |none=>rw[es]at e;nomatch e
 |some ds=>
  rw[es]at e;replace e:(if _=ac then aa _ else ae)=aa b:=e;split at e
  .rename_i h;cases e;rw[cq]at h;obtain⟨a,vs,B,q,r⟩:=wn es M;obtain⟨I,L⟩:=F9 h.1 z h.2 r
   have f:gG v=ac:=by cases x <;> first |(subst z;rfl) |(cases h.1)
   exact⟨a,vs,B,q,f,I,L⟩
  .nomatch e
def om:OpD c X (eB .In) dIn:=by
 rintro pins s σ H v u w w' Q I rv ru ⟨Hf,x,y,d,z,T,U,e,k⟩;unfold dIn at e
 cases h:inD x y with
 |none=>rw[h]at e;nomatch e
 |some b=>
  rw[h]at e;cases e;obtain⟨p,vs,B,q,M,O,L⟩:=Ga h (T.up z) (U.up z);refine MK pins s σ H v u w w' Q I rv ru ⟨p,vs,B,q,M,O,?_⟩;rw[if_neg cp,L];exact k _ Hf H (Ext.refl z) rfl
def wB:OpD c X (eB .NotIn) jm:=by
 rintro pins s σ H v u w w' Q I rv ru ⟨Hf,x,y,d,z,T,U,e,k⟩;unfold jm at e
 cases h:inD x y with
 |none=>rw[h]at e;nomatch e
 |some b=>
  rw[h]at e;cases e;obtain⟨p,vs,B,q,M,O,L⟩:=Ga h (T.up z) (U.up z);refine ML pins s σ H v u w w' Q I rv ru ⟨p,vs,B,q,M,O,?_⟩;rw[if_pos rfl,L];exact k _ Hf H (Ext.refl z) rfl
def As{i:Int}(h:atI ds i=aa d)(r:aF G H ds vs):∃v,atI vs i=aa v/\Rep G H d v:=by
 unfold atI at h ⊢;rw[<- r.length]
 cases e:ixN ds.length i with
 |none=>rw[e]at h;nomatch h
 |some j=>
  rw[e]at h;exact r.get h
abbrev ixD(ds:LD):D->OD
 |.int k=>atI ds k
 | _=>ae
abbrev mIx(f:MF2)(g:MF1)(ρ:LS):OD:=(f ρ).bind λds=>(g ρ).bind λi=>ixD ds i
variable{b:Expr}
def bU{f:MF2}(U:DC c X a f)(hb:DE c X b g)(hs:Ab b:=by exact λ_ _=>rfl):DE c X (.Subscript a b pos) (mIx f g):=
 PE.imp (FI (FJ.or FK) U hb hs) λσ H Q q_=>by
  obtain⟨Hf0,H0,Hf,ρ,d,st,z,k⟩:=q_;unfold mIx at z
  cases I:f ρ with
  |none=>rw[I]at z;nomatch z
  |some ds=>
   cases M:g ρ with
   |none=>rw[I,M]at z;nomatch z
   |some i=>
    rw[I,M]at z
    cases i with
    |int n=>
     refine⟨Hf0,H0,Hf,ρ,ds,st,I,λl vs dk H1 T q r=>⟨Hf0,H0,dk,ρ,.int n,st.step T,M,λu d8 H2 L r2=>?_⟩⟩;cases (r2);obtain⟨v,O,rv⟩:=As z r;have B:=k v d8 H2 (T.trans L) (rv.up L.f)
     rcases q with q |q
     .exact .inl ⟨l,vs,n,v,rfl,rfl,L.h.seq q,O,B⟩
     .exact .inr ⟨l,vs,n,v,rfl,rfl,L.h.tup q,O,B⟩
    | _=>nomatch z
abbrev on(xs:LD)(lo hi:Option Int):LD:=(xs.drop (HT.sIx xs.length 0 lo)).take (HT.sIx xs.length xs.length hi-HT.sIx xs.length 0 lo)
abbrev lsD:D->OLD
 |.lst xs=>aa xs
 |.kl xs=>aa xs
 | _=>ae
def qF(e:lsD d=aa ds)(r:Rep G H d v):∃a vs,v=.ref a/\SqL G.K H a vs/\aF G H ds vs:=by
 cases d with
 |lst xs=>cases e;obtain⟨a,vs,h,q,r⟩:=r;exact⟨a,vs,h,SqL.of q,r⟩
 |kl xs=>cases e;obtain⟨a,vs,h,q,r⟩:=r;exact⟨a,vs,h,q,r⟩
 | _=>nomatch e
inductive Gb(G:Gc)(f:LS->Option (Option Int))(σ:St)(H:Hp)(Q:Option Int->Hp->Prop):Prop
 |mk:∀Hf0 H0 Hf ρ i,aG G Hf0 H0 Hf H σ ρ->f ρ=aa i->(∀Hf' H',Ext Hf H Hf' H'->Q i H')->Gb G f σ H Q
abbrev DPt(c:Str->Addr)(X:Cx)(e:Option Expr)(f:LS->Option (Option Int)):Prop:=PO X e (Gb (Gx c X) f)
def io:DPt c X ae (λ_=>aa ae):=λpins s σ H Q I q=>by
 obtain⟨Hf0,H0,Hf,ρ,i,st,h,k⟩:=q;exact(FE pins s σ H Q I (by cases h;exact k Hf H (Ext.refl st.sub)))
abbrev mPt(f:MF1)(ρ:LS):Option (Option Int):=(f ρ).bind λd=>match d with
 |.int i=>aa (aa i)
 | _=>ae
def ip(h:DE c X e f):DPt c X (aa e) (mPt f):=λpins s σ H Q I B=>by
 obtain⟨Hf0,H0,Hf,ρ,i,st,q,k⟩:=B
 exact (FF h pins s σ H Q I (by
 unfold mPt at q
 cases z:f ρ with
 |none=>rw[z]at q;nomatch q
 |some d=>
  rw[z]at q
  cases d with
  |int n=>cases q;exact⟨Hf0,H0,Hf,ρ,.int n,st,z,λv Hf' H' x r=>⟨n,r,k Hf' H' x⟩⟩
  | _=>nomatch q))
abbrev mSl(f:MF1)(l h:LS->Option (Option Int))(ρ:LS):OLD:=(f ρ).bind λd=>(lsD d).bind λds=>(l ρ).bind λlo=>(h ρ).map λhi=>on ds lo hi
def Gd(r:aF G H ds vs)(lo hi:Option Int):aF G H (on ds lo hi) (qw vs lo hi):=by
 unfold on qw;rw[r.length];exact(r.drop _).take _
variable{p2:Pos}
def kH{l h:LS->Option (Option Int)}{lo hi:Option Expr}(ha:DE c X e f)(hl:DPt c X lo l)(hh:DPt c X hi h):DO c X (.Subscript e (.Slice lo hi ae p2) pos) (mSl f l h):=
 PE.imp (wf FM ha hl hh) λσ H Q q_=>by
  obtain⟨Hf0,H0,Hf,ρ,rs,st,z,k⟩:=q_;unfold mSl at z
  cases B:f ρ with
  |none=>rw[B]at z;nomatch z
  |some d=>
   cases I:lsD d with
   |none=>rw[B]at z;replace z:(lsD d).bind _=_:=z;rw[I]at z;nomatch z
   |some ds=>
    cases L:l ρ with
    |none=>rw[B]at z;replace z:(lsD d).bind _=_:=z;rw[I,L]at z;nomatch z
    |some lo'=>
     cases T:h ρ with
     |none=>rw[B]at z;replace z:(lsD d).bind _=_:=z;rw[I,L,T]at z;nomatch z
     |some U=>
      rw[B]at z;replace z:(lsD d).bind _=_:=z;rw[I,L,T]at z;cases z;refine⟨Hf0,H0,Hf,ρ,d,st,B,λv dk H1 M r1=>⟨Hf0,H0,dk,ρ,lo',st.step M,L,λd8 H2 x2=>⟨Hf0,H0,d8,ρ,U,(st.step M).step x2,T,λO H3 x3=>?_⟩⟩⟩;obtain⟨a,vs,ea,q,r⟩:=qF I r1;subst ea;have x:=(M.trans x2).trans x3;have y:=(x2.trans x3);exact⟨a,vs,rfl,(M.s.trans y.h).seq q,λp hp=>(k p _ O _ (x.trans (Ext.tmp x.s hp)) (x.h.free hp) (x.s.free hp) cz (Gd (r.up y.f) _ _))⟩
abbrev rCD(G:Gc)(m:LD->OD):List V->Hp->VK->Prop:=λvs H Q=>∃Hf ds d,aR Hf H/\aF G Hf ds vs/\m ds=aa d/\∀v Hf' H',Ext Hf H Hf' H'->Rep G Hf' d v->Q v H'
nonrec abbrev qG(c:Str->Addr)(X:Cx)(f:Value)(m:LD->OD):Prop:=jM X f (rCD (Gx c X) m)
abbrev aS(m:LD->OD)(f:MF2)(ρ:LS):OD:=(f ρ).bind m
variable{m:LD->OD}{f:MF2}
def Au(h:aS m f ρ=aa d):∃ds,f ρ=aa ds/\m ds=aa d:=by
 unfold aS at h
 cases e:f ρ with
 |none=>rw[e]at h;nomatch h
 |some ds=>rw[e]at h;exact⟨ds,rfl,h⟩
variable{p:Pos}
def fS{x:Str}{id:String}(O:qG c X (.builtin id) m)(hs:∀ds d,m ds=aa d->d.scalar=ac)(U:Gl X x)(hm:X.mg x=ae)(hv:iP x=aa (.builtin id))(M:DAB c X (e::es) f)(hn:x ≠ "__name__":=by decide)(q:NDb x:=by decide)
 (T:StE X e es:=by rfl)(z:BkE X pos es:=by rfl):
  DE c X (.Call (.Name x p) (e::es) [] pos) (aS m f):=PE.imp (tq O U hm hv M.pa hn q T z) λσ H Q q_=>by
 obtain⟨Hf0,H0,Hf,ρ,d,st,L,k⟩:=q_;obtain⟨ds,I,B⟩:=Au L;exact⟨Hf0,H0,Hf,ρ,ds,st,I,λvs Hf' H' x r=>⟨H',ds,d,aR.refl _,r,B,λv d8 H2 x2 r2=>k v Hf' H2 (x.trans (Ext.grow x.s x2.h)) (r2.sc (hs _ _ B))⟩⟩
abbrev dJ:LD->OD
 | [.lst xs]=>aa (.int xs.length)
 | [.tup xs]=>aa (.int xs.length)
 | [.kl xs]=>aa (.int xs.length)
 | [.kt xs]=>aa (.int xs.length)
 | [.str x]=>if x.length<=16777216 then aa (.int x.length) else ae
 | _=>ae
def aF.one(r:aF G H [d] vs):∃v,vs=[v]/\Rep G H d v:=by
 obtain⟨v,z,e,h,q⟩:=r;cases (q);exact⟨v,e,h⟩
def Ge(e:dJ ds=aa d):∃q,ds=[q]/\((∃xs,mD q=aa xs/\d=.int xs.length)\/∃x,q=.str x/\x.length<=16777216/\d=.int x.length):=by
 cases ds with
 |nil=>nomatch e
 |cons q ds=>
  cases ds with
  |cons _ _=>cases q <;> nomatch e
  |nil=>
   refine⟨q,rfl,?_⟩
   cases q with
   |lst xs=>cases e;exact .inl ⟨xs,rfl,rfl⟩
   |tup xs=>cases e;exact .inl ⟨xs,rfl,rfl⟩
   |kl xs=>cases e;exact .inl ⟨xs,rfl,rfl⟩
   |kt xs=>cases e;exact .inl ⟨xs,rfl,rfl⟩
   |str x=>
    replace e:(if x.length<=16777216 then aa _ else ae)=aa d:=e
    by_cases h:x.length<=16777216
    .rw[if_pos h]at e;cases e;exact .inr ⟨x,rfl,h,rfl⟩
    .rw[if_neg h]at e;nomatch e
   | _=>nomatch e
def gH:qG c X (.builtin "len") dJ:=by
 rintro pins s σ H vs us Q I T ⟨Hf,ds,d,O,r,e,k⟩
 have sq:∀h xs,ds=[h]->mD h=aa xs->d=.int xs.length->wpAny _ X.A _ _ X.xe s:=λh xs B es U=>by
  subst B U;obtain⟨v,z,M⟩:=r.one;subst z;obtain⟨a,ws,L,q,rs⟩:=wn es M;subst L;refine MM pins s σ H _ us Q I T ⟨a,ws,rfl,Al O q,?_⟩;rw[<- rs.length];exact k _ Hf H (Ext.refl O) rfl
 obtain⟨h,B,⟨xs,z,L⟩ |⟨x,rfl,hl,rfl⟩⟩:=Ge e
 .exact sq h xs B z L
 .subst B;obtain⟨v,z,M⟩:=r.one;subst z;exact MN pins s σ H _ us Q I T ⟨_,by rw[show v=V.str _ from M],by rw[dA];exact hl,k _ Hf H (Ext.refl O) rfl⟩
def gI:∀ds d,dJ ds=aa d->d.scalar=ac:=by
 intro ds d e
 obtain⟨h,z,⟨xs,q,rfl⟩ |⟨x,rfl,B,rfl⟩⟩:=Ge e <;> rfl
inductive tDG(G:Gc)(g:D->LS->Option LS)(v:V)(σ:St)(H:Hp)(Q:St->Hp->Prop):Prop
 |mk:∀Hf0 H0 Hf ρ d ρ',aG G Hf0 H0 Hf H σ ρ->Rep G Hf d v->g d ρ=aa ρ'->(∀σ',aG G Hf0 H0 Hf H σ' ρ'->Q σ' H)->tDG G g v σ H Q
inductive Gf(G:Gc)(g:LD->LS->Option LS)(vs:List V)(σ:St)(H:Hp)(Q:St->Hp->Prop):Prop
 |mk:∀Hf0 H0 Hf ρ ds ρ',aG G Hf0 H0 Hf H σ ρ->aF G Hf ds vs->g ds ρ=aa ρ'->(∀σ',aG G Hf0 H0 Hf H σ' ρ'->Q σ' H)->Gf G g vs σ H Q
structure DG(c:Str->Addr)(X:Cx)(tg:Expr)(k:Nat)(g:D->LS->Option LS):Prop where
 pg:PG X tg (tDG (Gx c X) g)
 len:∀d ρ ρ',g d ρ=aa ρ'->ρ'.length=ρ.length
 keep:∀d ρ ρ' i,g d ρ=aa ρ'->k<=i->ρ'[i]?=ρ[i]?
structure DGs(c:Str->Addr)(X:Cx)(tg:LEx)(k:Nat)(g:LD->LS->Option LS):Prop where
 pg:PGs X tg (Gf (Gx c X) g)
 len:∀d ρ ρ',g d ρ=aa ρ'->ρ'.length=ρ.length
 keep:∀d ρ ρ' i,g d ρ=aa ρ'->k<=i->ρ'[i]?=ρ[i]?
 many:∀ds ρ ρ',g ds ρ=aa ρ'->ds.length=tg.length
abbrev bZ(i:Nat)(d:D)(ρ:LS):Option LS:=aa (ρ.set i (.im d))
def Gg(h:PG X e (nX i))(L:i<k):DG c X e k (bZ i):=
 ⟨PG.imp h λv σ H Q B=>by obtain⟨Hf0,H0,Hf,ρ,d,ρ',st,r,z,q⟩:=B;cases z;exact q _ (st.setIm r),λd ρ ρ' h=>by cases h;simp,λd ρ ρ' j h I=>by
  cases h;rw[ib (by lia)]⟩
def iq(i k:Nat){x:Str}(h:X.N.Nodup)(z:i<k:=by decide)(hi:X.N[i]?=aa x:=by rfl)(B:Loc X.env.scope x:=by first |exact bV rfl |exact bA rfl)(q:LcF X x:=by first |exact .inl rfl |exact .inr rfl):DG c X (.Name x pos) k (bZ i):=
 Gg (Fa h hi B q) z
abbrev tL(ds:LD)(ρ:LS):Option LS:=match ds with
 | []=>aa ρ
 | _=>ae
abbrev kK(g:D->LS->Option LS)(h:LD->LS->Option LS)(ds:LD)(ρ:LS):Option LS:=match ds with
 |d::ds=>(g d ρ).bind λρ1=>h ds ρ1
 | []=>ae
def wC:DGs c X [] k tL:=by
 refine⟨PGs.imp Lo λvs σ H Q B=>?_,λd ρ ρ' h=>?_,λd ρ ρ' i h _=>?_,λd ρ ρ' h=>?_⟩
 .obtain⟨Hf0,H0,Hf,ρ,ds,ρ',st,r,z,q⟩:=B
  cases ds with
  |nil=>cases z;exact⟨r,q _ st⟩
  |cons d ds=>nomatch z
 .cases d with
  |nil=>cases h;rfl
  |cons a b=>nomatch h
 .cases d with
  |nil=>cases h;rfl
  |cons a b=>nomatch h
 .cases d with
  |nil=>cases h;rfl
  |cons a b=>nomatch h
variable{h:LD->LS->Option LS}
def wE{g:D->LS->Option LS}(e:kK g h ds ρ=aa ρ'):∃d r ρ1,ds=d::r/\g d ρ=aa ρ1/\h r ρ1=aa ρ':=by
 cases ds with
 |nil=>nomatch e
 |cons d r=>
  replace e:(g d ρ).bind _=_:=e
  cases q:g d ρ with
  |none=>rw[q]at e;nomatch e
  |some ρ1=>rw[q]at e;exact⟨d,r,ρ1,rfl,q,e⟩
def mH{g:D->LS->Option LS}(L:DG c X e k g)(I:DGs c X es k h)(U:(jf (e::es) X.env).map (·.2)=assign e X.env::(jf es X.env).map (·.2):=by rfl):DGs c X (e::es) k (kK g h):=by
 refine⟨PGs.imp (Lp L.pg I.pg U) λvs σ H Q q_=>?_,λd ρ ρ' h=>?_,λd ρ ρ' i h hi=>?_,λd ρ ρ' h=>?_⟩
 .obtain⟨Hf0,H0,Hf,ρ,ds,ρ',st,r,O,q⟩:=q_;obtain⟨d,dr,ρ1,rfl,B,z⟩:=wE O;obtain⟨v,vr,T,rv,rr⟩:=r;exact⟨v,vr,T,Hf0,H0,Hf,ρ,d,ρ1,st,rv,B,λσ1 M=>⟨Hf0,H0,Hf,ρ1,dr,ρ',M,rr,z,q⟩⟩
 .obtain⟨d,dr,ρ1,rfl,B,z⟩:=wE h;rw[I.len _ _ _ z,L.len _ _ _ B]
 .obtain⟨d,dr,ρ1,rfl,B,z⟩:=wE h;rw[I.keep _ _ _ _ z hi,L.keep _ _ _ _ B hi]
 .obtain⟨d,dr,ρ1,rfl,B,z⟩:=wE h;rw[aQ,aQ,I.many _ _ _ z]
abbrev tpD:D->OLD
 |.tup xs=>aa xs
 |.kt xs=>aa xs
 | _=>ae
def Gh(e:tpD d=aa ds)(r:Rep G H d v):∃a vs,v=.ref a/\SqT G.K H a vs/\aF G H ds vs:=by
 cases d with
 |tup xs=>cases e;obtain⟨a,vs,z,q,r⟩:=r;exact⟨a,vs,z,SqT.of q,r⟩
 |kt xs=>cases e;obtain⟨a,vs,z,q,r⟩:=r;exact⟨a,vs,z,q,r⟩
 | _=>nomatch e
abbrev oq(g:LD->LS->Option LS)(d:D)(ρ:LS):Option LS:=(tpD d).bind λds=>g ds ρ
def Av{g:LD->LS->Option LS}(h:oq g d ρ=aa ρ'):∃ds,tpD d=aa ds/\g ds ρ=aa ρ':=by
 unfold oq at h
 cases e:tpD d with
 |none=>rw[e]at h;nomatch h
 |some ds=>rw[e]at h;exact⟨ds,rfl,h⟩
variable{kk:Nat}
def wF{g:LD->LS->Option LS}(T:X.calm=ac)(h:DGs c X es k g)(U:(jf es X.env).length=es.length:=by rfl)(I:(jf es X.env).findIdx? (·.1)=ae:=by rfl):DG c X (.Tuple es kk pos) k (oq g):=by
 refine⟨PG.imp (Lr T h.pg U I) λv σ H Q q_=>?_,λd ρ ρ' h'=>?_,λd ρ ρ' i h' hi=>?_⟩
 .obtain⟨Hf0,H0,Hf,ρ,d,ρ',st,r,O,q⟩:=q_;obtain⟨ds,B,z⟩:=Av O;obtain⟨a,vs,M,qa,L⟩:=Gh B r;exact⟨a,vs,M,st.sub.tup qa,by rw[<- L.length];exact h.many _ _ _ z,Hf0,H0,Hf,ρ,ds,ρ',st,L,z,q⟩
 .obtain⟨ds,B,z⟩:=Av h';exact h.len _ _ _ z
 .obtain⟨ds,B,z⟩:=Av h';exact h.keep _ _ _ _ z hi
abbrev ot(G:Gc)(Hf:Hp)(J:It)(ds:LD):Prop:=∀Hf' H',aR Hf Hf'->aR Hf' H'->∀i:Nat,
 (∀d,ds[i]?=aa d->J.go i H'/\∀x H2,J.yld i H' x H2->∃d8,Ext Hf' H' d8 H2/\Rep G d8 d x)/\(i=ds.length->J.stop i H')
abbrev Aw(G:Gc)(Hf H:Hp)(J:It)(ds:LD):Prop:=∀Hf' H',Ext Hf H Hf' H'->∀i:Nat,
 (∀d,ds[i]?=aa d->J.go i H'/\∀x H2,J.yld i H' x H2->∃d8,Ext Hf' H' d8 H2/\Rep G d8 d x)/\(i=ds.length->J.stop i H')
def ot.toE(h:ot G Hf J ds):Aw G Hf H J ds:=λHf' H' x i=>h Hf' H' x.f x.s i
inductive tDI(G:Gc)(f:MF2)(σ:St)(H:Hp)(R:It->Hp->Prop):Prop
 |mk:∀Hf0 H0 Hf ρ ds,aG G Hf0 H0 Hf H σ ρ->f ρ=aa ds->(∀J Hf' H',Ext Hf H Hf' H'->ot G Hf' J ds->R J H')->tDI G f σ H R
inductive wG(G:Gc)(f:MF2)(σ:St)(H:Hp)(R:It->Hp->Prop):Prop
 |mk:∀Hf0 H0 Hf ρ ds,aG G Hf0 H0 Hf H σ ρ->f ρ=aa ds->(∀J Hf' H',Ext Hf H Hf' H'->Aw G Hf' H' J ds->R J H')->wG G f σ H R
abbrev DI(c:Str->Addr)(X:Cx)(tg iter:Expr)(f:MF2):Prop:=PI X tg iter (tDI (Gx c X) f)
abbrev DIe(c:Str->Addr)(X:Cx)(tg iter:Expr)(f:MF2):Prop:=PI X tg iter (wG (Gx c X) f)
def DI.de(h:DI c X tg e f):DIe c X tg e f:=PI.imp h λσ H R z=>by
 obtain⟨Hf0,H0,Hf,ρ,ds,st,q,k⟩:=z;exact(⟨Hf0,H0,Hf,ρ,ds,st,q,λJ Hf' H' x i=>k J Hf' H' x i.toE⟩)
def M9(q:SqT G.K Hf l vs)(r:aF G Hf ds vs):ot G Hf (Itt G.K l) ds:=λHf' H' f s i=>by
 have z:=(f.trans s).tup q;refine⟨λd L=>?_,λM=>⟨vs,z,by rw[<- r.length,M];exact bN _⟩⟩;obtain⟨v,B,O⟩:=r.get L;refine⟨⟨vs,v,z,B⟩,λx H2 ⟨I,y⟩=>?_⟩;subst I;have:=y vs z;rw[B]at this;cases this;exact⟨Hf',Ext.refl s,O.up f⟩
def kL{f:MF1}(h:DE c X e f):DI c X tg e (fG f):=λpins s σ H R I q_=>by
 obtain⟨Hf0,H0,Hf,ρ,ds,st,z,k⟩:=q_;unfold fG at z
 cases B:f ρ with
 |none=>rw[B]at z;nomatch z
 |some d=>
  rw[B]at z
  cases L:lsD d with
  |some O=>
   have:O=ds:=by cases d <;> first |(cases L;done) |(cases L;cases z;rfl)
   subst this;refine LC h pins s σ H R I ⟨Hf0,H0,Hf,ρ,d,st,B,λv Hf' H' x r=>?_⟩;obtain⟨a,vs,U,q,M⟩:=qF L r
   exact⟨a,U,⟨vs,x.s.seq q⟩,k _ Hf' H' x λd8 H2 f2 s2 i=>by
    have q':=(f2.trans s2).seq q;refine⟨λd ed=>?_,λei=>⟨vs,q',by rw[<- M.length,ei];exact bN _⟩⟩;obtain⟨v,ev,rv⟩:=M.get ed;refine⟨⟨vs,v,q',ev⟩,λx H3 ⟨T,y⟩=>?_⟩;subst T;have:=y vs q';rw[ev]at this;cases this
    exact⟨d8,Ext.refl s2,rv.up f2⟩⟩
  |none=>
   have T:tpD d=aa ds:=by cases d <;> first |(cases L;done) |(cases z;done) |(cases z;rfl)
   refine LF h pins s σ H R I ⟨Hf0,H0,Hf,ρ,d,st,B,λv Hf' H' x r=>?_⟩;obtain⟨a,vs,U,q,M⟩:=Gh T r;exact⟨a,U,⟨vs,x.s.tup q⟩,k _ Hf' H' x (M9 q M)⟩
abbrev rng(lo:Int)(n:Nat):LD:=(dG n).map λ(i:Nat)=>.int (lo+i)
def Gi{lo:Int}:ot G Hf (Itr lo n) (rng lo n):=λHf' H' f s i=>by
 refine⟨λd q=>?_,λz=>?_⟩
 .unfold rng at q;rw[fL]at q
  cases e:(dG n)[i]? with
  |none=>rw[e]at q;nomatch q
  |some j=>
   rw[e]at q;obtain⟨hi,B⟩:=cV.mp e;rw[ic]at hi;rw[List.getElem_range]at B;subst B;cases q;exact⟨hi,λx H2 ⟨I,y⟩=>by subst I;exact⟨Hf',Ext.refl s,y⟩⟩
 .unfold rng at z;rw[cf,ic]at z;exact vN z.symm
abbrev mI:LD->OLD
 | [.int j]=>if -(2 ^ 62)<=j/\j<2 ^ 62 then aa (rng 0 j.toNat) else ae
 | [.int i,.int j]=>if -(2 ^ 62)<=i/\i<2 ^ 62/\-(2 ^ 62)<=j/\j<2 ^ 62 then aa (rng i (j-i).toNat) else ae
 | _=>ae
abbrev ir(f:MF2)(ρ:LS):OLD:=(f ρ).bind mI
def tM(O:Gl X "range")(U:X.mg "range"=ae)(I:DA c X [a] f)(hs:bf [a] X.env=[(ai,eval a X.env)]:=by rfl):DI c X tg (.Call (.Name "range" p) [a] [] pos) (ir f):=
 PI.imp (Ff O U I.pa hs) λσ H R q_=>by
  obtain⟨Hf0,H0,Hf,ρ,ds,st,q,k⟩:=q_;unfold ir at q
  cases z:f ρ with
  |none=>rw[z]at q;nomatch q
  |some B=>
   rw[z]at q;replace q:mI B=aa ds:=q;have T:=I.len ρ B z;refine⟨Hf0,H0,Hf,ρ,B,st,z,λvs Hf' H' x r=>?_⟩;unfold mI at q;split at q
   .split at q
    .rename_i j L;cases q;obtain⟨v,M,rv⟩:=r.one;cases (rv);exact⟨j,M,L.1,L.2,k _ Hf' H' x Gi⟩
    .nomatch q
   .nomatch T
   .nomatch q
abbrev fI(k:Nat)(js:LN)(ρ:LS):LS:=cQ k .no++js.map λj=>(ρ[j]?).getD .no
def aG.weak(h:aG G Hf0 H0 Hf H σ ρ)(z:ρ'.length=ρ.length)(q:∀(i:Nat) (s:Sl),ρ'[i]?=aa s->s=.no\/ρ[i]?=aa s):aG G Hf0 H0 Hf H σ ρ':=by
 refine h.re h.ext z (λi v s a b=>?_) λi s v a b c p=>?_
 .rcases q i s b with e |e
  .subst e;trivial
  .exact h.at' i v s a e
 .rcases q i s b with e |e
  .subst e;exact(p.calm rfl).elim
  .exact⟨s,e,p⟩
def ou{q:Type}{x:q}{l:List q}{y:q}(h:(cQ k x++l)[i]?=aa y):(i<k/\y=x)\/(k<=i/\l[i-k]?=aa y):=by
 by_cases hi:i<k
 .left;rw[nH (by simpa using hi),zA,if_pos hi]at h;exact⟨hi,(dz h).symm⟩
 .right;rw[nG (by simpa using vL hi),gA]at h;exact⟨vL hi,h⟩
def ow{q z:Type}{f:q->z}{l:List q}{y:z}(h:(l.map f)[i]?=aa y):∃x,l[i]?=aa x/\y=f x:=by
 rw[fL]at h
 cases e:l[i]? with
 |none=>rw[e]at h;nomatch h
 |some x=>rw[e]at h;exact⟨x,rfl,(dz h).symm⟩
def Na(h:js.Nodup){x:Nat}(a:js[i]?=aa x)(b:js[j]?=aa x):i=j:=by
 obtain⟨B,q⟩:=cV.mp a;obtain⟨I,z⟩:=cV.mp b;exact(zC h).mp (q.trans z.symm)
def aG.comp(k:Nat)(h:aG G Hf0 H0 Hf H σ ρ)(hj:js.Nodup):aG G Hf0 H0 Hf H (ik k js σ) (fI k js ρ):=by
 have own:∀i s,(fI k js ρ)[i]?=aa s->s.calm=ai->∃j,k<=i/\js[i-k]?=aa j/\ρ[j]?=aa s:=λi s a O=>by
  rcases ou a with⟨_,e⟩ |⟨hi,a⟩
  .subst e;nomatch O
  .obtain⟨j,B,es⟩:=ow a
   cases e:ρ[j]? with
   |none=>rw[e]at es;subst es;nomatch O
   |some t=>rw[e]at es;replace es:s=t:=es;subst es;exact⟨j,hi,B,e⟩
 have val:∀i v j,(ik k js σ)[i]?=aa v->k<=i->js[i-k]?=aa j->v=(σ[j]?).getD ae:=λi v j a hi B=>by
  rcases ou a with⟨hi',_⟩ |⟨_,a⟩
  .omega
  .obtain⟨j',I,es⟩:=ow a;rw[B]at I;cases I;exact es
 refine⟨h.ext,by simp[ik,fI],λi v s a b=>?_,λi j s t y z l a b c d p q=>?_⟩
 .rcases ou b with⟨_,e⟩ |⟨hi,b⟩
  .subst e;trivial
  .obtain⟨j,B,es⟩:=ow b;have ev:=val i v j a hi B
   cases e:ρ[j]? with
   |none=>rw[e]at es;subst es;trivial
   |some t=>
    rw[e]at es;subst es;obtain⟨u,eu,q⟩:=h.slot e;rw[eu]at ev;subst ev;exact q
 .have O:s.calm=ai:=by
   cases T:s.calm with
   |true=>exact(p.calm T).elim
   |false=>rfl
  have ht:t.calm=ai:=by
   cases T:t.calm with
   |true=>exact(q.calm T).elim
   |false=>rfl
  obtain⟨i',hi,ei,e1⟩:=own i s a O;obtain⟨j',U,B,e2⟩:=own j t b ht;have v1:=val i _ i' c hi ei;have v2:=val j _ j' d U B;obtain⟨u1,L,_⟩:=h.slot e1;obtain⟨u2,M,_⟩:=h.slot e2;rw[L]at v1;rw[M]at v2;subst v1 v2;have:=h.dj i' j' s t y z l e1 e2 L M p q;subst this;have:=Na hj ei B;lia
abbrev i0(h:D->Option OD):LD->OLD
 | []=>aa []
 |d::ds=>(h d).bind λo=>(i0 h ds).map λr=>match o with
  |some y=>y::r
  |none=>r
def Nb{h:D->Option OD}{r:LD}(e:i0 h (d::ds)=aa r):∃o q,h d=aa o/\i0 h ds=aa q/\r=(match o with |some y=>y::q |none=>q):=by
 unfold i0 at e
 cases z:h d with
 |none=>rw[z]at e;nomatch e
 |some o=>
  cases B:i0 h ds with
  |none=>rw[z,B]at e;nomatch e
  |some q=>
   rw[z,B]at e;cases e;refine⟨o,q,rfl,rfl,?_⟩
   cases o <;> rfl
abbrev mJ(g:D->LS->Option LS)(q:MF4)(fe:MF1)(ρ:LS)(d:D):Option OD:=(g d ρ).bind λρ1=>(q ρ1).bind λb=>if b then (fe ρ1).map aa else aa ae
abbrev fh(k:Nat)(js:LN)(q:MF2)(g:D->LS->Option LS)(z:MF4)(fe:MF1)(ρ:LS):OLD:=
 (q ρ).bind λds=>if ds.length<=16777216 then i0 (mJ g z fe (fI k js ρ)) ds else ae
def wH{q:Type}{l:List q}(h:i<l.length):∃x,l[i]?=aa x/\l.drop i=x::l.drop (i+1):=⟨l[i],by simp[h],(zB h)⟩
abbrev DTs(c:Str->Addr)(X:Cx)(fy:LEx)(f:MF4):Prop:=PTs X fy (tDT (Gx c X) f)
def ox:DTs c X [] kY:=PTs.imp MZ λσ H Q z=>by
 obtain⟨Hf0,H0,Hf,ρ,b,st,q,k⟩:=z;exact(by cases q;exact k Hf H (Ext.refl st.sub))
def Ax{f:MF4}(h:DT c X e f):DTs c X [e] f:=M0 h
variable{g:D->LS->Option LS}{ft:MF4}{fe:MF1}{rs:LD}
def Nd(hj:js.Nodup)(hk:∀d ρ ρ' i,g d ρ=aa ρ'->k<=i->ρ'[i]?=ρ[i]?)(g5:∀d ρ ρ',g d ρ=aa ρ'->ρ'.length=ρ.length){ti:TI}(st:aG G Hf0 H0 Hf H σ ρ)
 (hti:∀R:It->Hp->Prop,(∀J dk H1,Ext Hf H dk H1->Aw G dk H1 J ds->R J H1)->ti σ H R)(hz:ds.length<=16777216)(ef:i0 (mJ g ft fe (fI k js ρ)) ds=aa rs)
 (kq:∀l vs Hf' H',Ext Hf H Hf' H'->H l=ae->Hf' l=ae->H' l=aa (.lst vs)->aF G Hf' rs vs->Q (.ref l) H'):og k js ti (tDG G g) (tDT G ft) (tD G fe) σ H Q:=by
 refine hti _ λJ dk H1 x1 it=>?_
 refine⟨λi m ys σ' H'=>m=ds.length-i/\i<=ds.length/\∃Hf' I bF,Ext dk H1 Hf' H'/\aG G Hf0 H0 Hf' H' σ' _/\aF G Hf' I ys/\i0 _ (ds.drop i)=aa bF/\rs=I++bF/\I.length<=i,
  ⟨ds.length,rfl,gB _,dk,[],rs,Ext.refl x1.s,(st.step x1).comp k hj,rfl,ef,rfl,bN _⟩,?_⟩
 rintro i m ys σ' H' ⟨rfl,hi,Hf',I,bF,x2,pr,ra,ec,er,hal⟩;have hys:ys.length<=bx:=by rw[dA,<- ra.length];lia
 obtain⟨it1,it2⟩:=it Hf' H' x2 i
 by_cases M:i<ds.length
 .obtain⟨d,ed,edr⟩:=wH M;obtain⟨go,yl⟩:=it1 d ed
  refine .inr ⟨go,hys,λys' σ2 H2=>ds.length-_=ds.length-_/\i+1<=ds.length/\∃Hf' I bF,Ext dk H1 Hf' H2/\aG G Hf0 H0 Hf' H2 σ2 _/\aF G Hf' I ys'/\i0 _ _=aa bF/\rs=I++bF/\I.length<=i+1,
   λys' σ2 H2 w=>⟨ds.length-(i+1),by lia,w⟩,λx H2 y=>?_⟩
  obtain⟨d8,x3,rx⟩:=yl x H2 y;rw[edr]at ec;obtain⟨o,r',q,T,B⟩:=Nb ec;unfold mJ at q
  cases U:g d _ with
  |none=>rw[U]at q;nomatch q
  |some ρ1=>
   rw[U]at q;replace q:(ft ρ1).bind _=_:=q
   cases et:ft ρ1 with
   |none=>rw[et]at q;nomatch q
   |some b=>
    rw[et]at q;refine⟨Hf0,H0,d8,fI k js ρ,d,ρ1,pr.step x3,rx,U,λm4 L=>⟨Hf0,H0,d8,ρ1,b,L,et,λO H4 x4=>?_⟩⟩
    have back:∀{z H5:Hp},aG G Hf0 H0 z H5 m4 ρ1->aG G Hf0 H0 z H5 m4 _:=λ{z H5} s5=>s5.weak (g5 _ _ _ U).symm λj s hs=>by
     rcases ou hs with⟨_,e⟩ |⟨hj',_⟩
     .exact .inl e
     .exact .inr (by rw[hk _ _ _ _ U hj'];exact hs)
    cases b with
    |true=>
     cases ee:fe ρ1 with
     |none=>rw[ee]at q;nomatch q
     |some y'=>
      rw[ee]at q;cases q;refine⟨Hf0,H0,O,ρ1,y',L.step x4,ee,λv z H5 x5 r5=>?_⟩;have x:=(x3.trans x4).trans x5;refine⟨rfl,M,z,I++[y'],r',x2.trans x,back ((L.step x4).step x5),(ra.up x.f).append (.cons r5 .nil),T,?_,by rw[aO,f7];lia⟩;rw[er,B,c7]
      rfl
    |false=>
     cases q;have x:=x3.trans x4;exact⟨rfl,M,O,I,r',x2.trans x,back (L.step x4),ra.up x.f,T,by rw[er,B],by lia⟩
 .have ei:i=ds.length:=by lia
  subst ei;refine .inl ⟨it2 rfl,hys,λl h1 h2=>?_⟩;rw[vH (bN _)]at ec;cases ec;rw[cM]at er;subst er;have x:=x1.trans x2;exact kq l ys Hf' _ (x.trans (Ext.tmp x.s h2)) (x.h.free h2) (x.s.free h2) cz ra
variable{fi:MF2}
def Ay(M:js.Nodup)(O:∀d ρ ρ' i,g d ρ=aa ρ'->k<=i->ρ'[i]?=ρ[i]?)(B:∀d ρ ρ',g d ρ=aa ρ'->ρ'.length=ρ.length)(h:tDO G (fh k js fi g ft fe) σ H Q):
  og k js (wG G fi) (tDG G g) (tDT G ft) (tD G fe) σ H Q:=by
 obtain⟨Hf0,H0,Hf,ρ,rs,st,z,T⟩:=h;unfold fh at z
 cases I:fi ρ with
 |none=>rw[I]at z;nomatch z
 |some ds=>
  rw[I]at z;replace z:(if ds.length<=16777216 then i0 _ ds else ae)=aa rs:=z
  by_cases L:ds.length<=16777216
  .rw[if_pos L]at z;exact Nd M O B st (λR q=>⟨Hf0,H0,Hf,ρ,ds,st,I,λJ dk H1 U it=>q J dk H1 U it⟩) L z T
  .rw[if_neg L]at z
   nomatch z
def tN(k:Nat)(js:LN)(Nc:LSt)(B:X.calm=ac)(hi:DIe c X tg iter fi)(q:∀cl C ex a9 c3,DG c (X.comp scope Nc cl C ex a9 c3) tg k g)(O:∀cl C ex a9 c3,DTs c (X.comp scope Nc cl C ex a9 c3) fy ft)
 (I:∀cl C ex a9 c3,DE c (X.comp scope Nc cl C ex a9 c3) fx fe)(z:jN scope X.env.scope.names X.N Nc k js=ac:=by rfl)(M:∀x,iO iter X.env x=pure x:=by intro _;rfl)(L:js.Nodup:=by decide):
  DO c X (.ListComp fx [⟨tg,iter,fy,0⟩] scope pos) (fh k js fi g ft fe):=
 PE.imp (FV (tt:=tDT (Gx c X) ft) (te:=tD (Gx c X) fe) k js Nc B hi (λcl C ex a9 c3=>(q cl C ex a9 c3).pg) O I z M) λσ H Q h=>
  Ay L (q [] 0 [] X.s₀ X.H₀).keep (q [] 0 [] X.s₀ X.H₀).len h
variable{x:Str}
def dvc(i:Nat)(z:Nc[i]?=aa x:=by rfl)(B:Vis scope x:=by first |exact bV rfl |exact bA (bV rfl) |exact bA (bA rfl))(hd:NDb x:=by decide)
 (q:NCd x:=by decide):DE c (X.comp scope Nc cl C ex a9 c3) (.Name x pos) (ah i):=FY (pvc i z B hd q)
def wI(i:Nat)(z:Nc[i]?=aa x:=by rfl)(B:Vis scope x:=by first |exact bV rfl |exact bA (bV rfl) |exact bA (bA rfl))(hd:NDb x:=by decide)
 (q:NCd x:=by decide):DC c (X.comp scope Nc cl C ex a9 c3) (.Name x pos) (bO i):=FZ (pvc i z B hd q)
def dgc(i k:Nat)(z:i<k:=by decide)(q:Nc.Nodup:=by decide +kernel)(hi:Nc[i]?=aa x:=by rfl)(B:scope.names.lookup x=aa .local:=by rfl):DG c (X.comp scope Nc cl C ex a9 c3) (.Name x pos) k (bZ i):=
 Gg (pgc i q hi B) z
inductive Fl where
 |nx (ρ:LS)
 |bk (ρ:LS)
 |ct (ρ:LS)
 |rt (d:D)
 |rtO (ds:LD)
 |rtS (d:D) (ρ:LS)
nonrec abbrev MF3:=LS->Option Fl
abbrev wJ(G:Gc)(Hf0 H0 Hf:Hp)(E:jL):Fl->Prop
 |.nx ρ'=>∀σ' Hf' H',aR Hf Hf'->aG G Hf0 H0 Hf' H' σ' ρ'->E.nx σ' H'
 |.bk ρ'=>∀σ' Hf' H',aR Hf Hf'->aG G Hf0 H0 Hf' H' σ' ρ'->E.bk σ' H'
 |.ct ρ'=>∀σ' Hf' H',aR Hf Hf'->aG G Hf0 H0 Hf' H' σ' ρ'->E.ct σ' H'
 |.rt d=>∀v Hf' H',Ext Hf0 H0 Hf' H'->Rep G Hf' d v->E.rt v H'
 |.rtO ds=>∀l vs Hf' H',Ext Hf0 H0 Hf' H'->H0 l=ae->Hf' l=ae->H' l=aa (.lst vs)->aF G Hf' ds vs->E.rt (.ref l) H'
 |.rtS d ρ=>∀v σ' Hf' H',aG G Hf0 H0 Hf' H' σ' ρ->Rep G Hf' d v->E.rt v H'
inductive tDS(G:Gc)(F:MF3)(E:jL)(σ:St)(H:Hp):Prop
 |mk:∀Hf0 H0 Hf ρ o,aG G Hf0 H0 Hf H σ ρ->F ρ=aa o->wJ G Hf0 H0 Hf E o->tDS G F E σ H
abbrev DS(c:Str->Addr)(X:Cx)(st:Stmt)(F:MF3):Prop:=PS X st (tDS (Gx c X) F)
abbrev DSs(c:Str->Addr)(X:Cx)(st:List Stmt)(F:MF3):Prop:=PSs X st (tDS (Gx c X) F)
abbrev aU(ρ:LS):Option Fl:=aa (.nx ρ)
abbrev au(F q:MF3)(ρ:LS):Option Fl:=(F ρ).bind λo=>match o with
 |.nx ρ'=>q ρ'
 |o=>aa o
abbrev aY(t:MF4)(F q:MF3)(ρ:LS):Option Fl:=(t ρ).bind λb=>if b then F ρ else q ρ
abbrev dS(i:Nat)(f:MF1)(ρ:LS):Option Fl:=(f ρ).map λd=>.nx (ρ.set i (.im d))
abbrev gh(i:Nat)(f:MF2)(ρ:LS):Option Fl:=(f ρ).map λd=>.nx (ρ.set i (.own d))
abbrev fW(f:MF1)(ρ:LS):Option Fl:=(f ρ).map .rt
abbrev oy(f:MF2)(ρ:LS):Option Fl:=(f ρ).map .rtO
abbrev iu(i:Nat)(ρ:LS):Option Fl:=match ρ[i]? with
 |some (.im d)=>aa (.rt d)
 |some (.own xs)=>aa (.rtO xs)
 | _=>ae
abbrev mK(g:D->LS->Option LS)(F:MF3):LD->MF3
 | [],ρ=>aa (.nx ρ)
 |d::ds,ρ=>(g d ρ).bind λρ1=>(F ρ1).bind λo=>match o with
  |.nx q=>mK g F ds q
  |.ct q=>mK g F ds q
  |.bk q=>aa (.nx q)
  |.rt d=>aa (.rt d)
  |.rtO d=>aa (.rtO d)
  |.rtS d q=>aa (.rtS d q)
abbrev iw(fi:MF2)(g:D->LS->Option LS)(F:MF3)(ρ:LS):Option Fl:=(fi ρ).bind λds=>mK g F ds ρ
abbrev wK(i:Nat)(ρ:LS):LS:=match ρ[i]? with
 |some (.own xs)=>ρ.set i (.im (.lst xs))
 |some (.obj c ns xs)=>ρ.set i (.im (.ins c ns xs))
 | _=>ρ
abbrev gJ(i:Nat)(F:MF3)(ρ:LS):Option Fl:=F (wK i ρ)
abbrev lI(i:Nat)(f:MF1)(ρ:LS):Option Fl:=(f ρ).bind λd=>match ρ[i]? with
 |some (.own xs)=>if xs.length<16777216 then aa (.nx (ρ.set i (.own (xs++[d])))) else ae
 | _=>ae
def bg:DSs c X [] aU:=PSs.imp E8 λE σ H z=>by
 obtain⟨Hf0,H0,Hf,ρ,o,so,q,k⟩:=z;exact(by cases q;exact k σ Hf H (aR.refl _) so)
def wJ.up{E:jL}{o:Fl}(h:wJ G Hf0 H0 Hf E o)(s:aR Hf Hf'):wJ G Hf0 H0 Hf' E o:=by
 cases o with
 |nx ρ=>exact λσ' d8 H2 s2 q=>h σ' d8 H2 (s.trans s2) q
 |bk ρ=>exact λσ' d8 H2 s2 q=>h σ' d8 H2 (s.trans s2) q
 |ct ρ=>exact λσ' d8 H2 s2 q=>h σ' d8 H2 (s.trans s2) q
 |rt d=>exact h
 |rtO d=>exact h
 |rtS d ρ=>exact h
variable{st:Stmt}{sts:List Stmt}{F F':MF3}
def az(L:DS c X st F)(M:DSs c X sts F'):DSs c X (st::sts) (au F F'):=PSs.imp (v6 L M) λE σ H O=>by
 obtain⟨Hf0,H0,Hf,ρ,o,so,q,k⟩:=O;unfold au at q
 cases z:F ρ with
 |none=>rw[z]at q;nomatch q
 |some I=>
  rw[z]at q;refine⟨Hf0,H0,Hf,ρ,I,so,z,?_⟩
  cases I with
  |nx ρ1=>exact λT dk H1 s1 B=>⟨Hf0,H0,dk,ρ1,o,B,q,k.up s1⟩
  |bk ρ1=>cases q;exact k
  |ct ρ1=>cases q;exact k
  |rt d=>cases q;exact k
  |rtO d=>cases q;exact k
  |rtS d ρ1=>cases q;exact k
def aB(q:DS c X st F):DSs c X [st] F:=zW q
variable{a b:List Stmt}
def bH(M:DT c X cd t)(I:DSs c X a F)(L:DSs c X b F'):DS c X (.If cd a b pos) (aY t F F'):=PS.imp (zX M I L) λE σ H O=>by
 obtain⟨Hf0,H0,Hf,ρ,o,so,q,k⟩:=O;unfold aY at q
 cases B:t ρ with
 |none=>rw[B]at q;nomatch q
 |some x=>
  rw[B]at q;refine⟨Hf0,H0,Hf,ρ,x,so,B,λdk H1 z=>?_⟩
  cases x with
  |true=>rw[if_pos rfl];exact⟨Hf0,H0,dk,ρ,o,so.step z,q,k.up z.f⟩
  |false=>rw[if_neg cp];exact⟨Hf0,H0,dk,ρ,o,so.step z,q,k.up z.f⟩
def Gj{f:MF1}(B:PS X st (nY te (nX i)))(hi:∀σ H Q,tD (Gx c X) f σ H Q->te σ H Q):DS c X st (dS i f):=PS.imp B λE σ H I=>by
 obtain⟨Hf0,H0,Hf,ρ,o,so,q,k⟩:=I;unfold dS at q
 cases z:f ρ with
 |none=>rw[z]at q;nomatch q
 |some d=>
  rw[z]at q;cases q;exact hi _ _ _ ⟨Hf0,H0,Hf,ρ,d,so,z,λv Hf' H' x r=>k _ Hf' H' x.f ((so.step x).setIm r)⟩
def Gk(M:PS X st (nY te (nX i)))(hi:∀σ H Q,tDO (Gx c X) f σ H Q->te σ H Q):DS c X st (gh i f):=PS.imp M λE σ H O=>by
 obtain⟨Hf0,H0,Hf,ρ,o,so,q,k⟩:=O;unfold gh at q
 cases z:f ρ with
 |none=>rw[z]at q;nomatch q
 |some d=>
  rw[z]at q;cases q;exact hi _ _ _ ⟨Hf0,H0,Hf,ρ,d,so,z,λl vs Hf' H' x L B I r=>k _ Hf' H' x.f (so.setOwn rfl x L B ⟨vs,I,r⟩)⟩
def gu(i:Nat){f:MF1}(q:X.N.Nodup)(z:DE c X e f)(hi:X.N[i]?=aa x:=by rfl)(L:Loc X.env.scope x:=by first |exact bV rfl |exact bA rfl)(I:eZ e (aa (.Name x ey)) pos.line X.env=pure ai:=by rfl)(B:LcF X x:=by first |exact .inl rfl |exact .inr rfl):
  DS c X (.Assign [.Name x ey] e pos) (dS i f):=Gj (mx q hi L z I B) λ_ _ _ h=>h
def mL(i:Nat)(q:X.N.Nodup)(z:DO c X e f)(hi:X.N[i]?=aa x:=by rfl)(L:Loc X.env.scope x:=by first |exact bV rfl |exact bA rfl)(I:eZ e (aa (.Name x ey)) pos.line X.env=pure ai:=by rfl)(B:LcF X x:=by first |exact .inl rfl |exact .inr rfl):
  DS c X (.Assign [.Name x ey] e pos) (gh i f):=Gk (mx q hi L z I B) λ_ _ _ h=>h
def Nf(h:tD G (aZ f) σ H Q):tDO G f σ H Q:=by
 obtain⟨Hf0,H0,Hf,ρ,d,st,q,k⟩:=h;unfold aZ at q
 cases z:f ρ with
 |none=>rw[z]at q;nomatch q
 |some ds=>
  rw[z]at q;have q:=dz q;subst q;exact⟨Hf0,H0,Hf,ρ,ds,st,z,λl vs Hf' H' x L B I r=>k _ _ H' (x.fix L B I) ⟨l,vs,rfl,cz,r.up (dN B)⟩⟩
def Ng(i:Nat)(k:Nat)(js:LN)(Nc:LSt)(L:X.N.Nodup)(M:X.calm=ac)(hi:DIe c X tg iter fi)
 (q:∀cl C ex a9 c3,DG c (X.comp scope Nc cl C ex a9 c3) tg k g)(ht:∀cl C ex a9 c3,DTs c (X.comp scope Nc cl C ex a9 c3) fy ft)(O:∀cl C ex a9 c3,DE c (X.comp scope Nc cl C ex a9 c3) fx fe)
 (z:X.N[i]?=aa x:=by rfl)(hx:Loc X.env.scope x:=by first |exact bV rfl |exact bA rfl)
 (B:eZ (.ListComp fx [⟨tg,iter,fy,0⟩] scope pos) (aa (.Name x ey)) gg.line X.env=pure ac:=by rfl)
 (I:jN scope X.env.scope.names X.N Nc k js=ac:=by rfl)(hs:∀x,iO iter X.env x=pure x:=by intro _;rfl)(U:js.Nodup:=by decide)
 (T:LcF X x:=by first |exact .inl rfl |exact .inr rfl):
  DS c X (.Assign [.Name x ey] (.ListComp fx [⟨tg,iter,fy,0⟩] scope pos) gg) (gh i (fh k js fi g ft fe)):=
 Gk (Aj (tt:=tDT (Gx c X) ft) (te:=tD (Gx c X) fe) k js Nc L z hx M hi (λcl C ex a9 c3=>(q cl C ex a9 c3).pg) ht O B I hs T) λσ H Q h=>Ay U (q [] 0 [] X.s₀ X.H₀).keep (q [] 0 [] X.s₀ X.H₀).len h
def Nh(i:Nat)(k:Nat)(js:LN)(Nc:LSt)(L:X.N.Nodup)(M:X.calm=ac)(hi:DIe c X tg iter fi)
 (q:∀cl C ex a9 c3,DG c (X.comp scope Nc cl C ex a9 c3) tg k g)(ht:∀cl C ex a9 c3,DTs c (X.comp scope Nc cl C ex a9 c3) fy ft)(O:∀cl C ex a9 c3,DE c (X.comp scope Nc cl C ex a9 c3) fx fe)
 (z:X.N[i]?=aa x:=by rfl)(hx:Loc X.env.scope x:=by first |exact bV rfl |exact bA rfl)
 (B:eZ (.ListComp fx [⟨tg,iter,fy,0⟩] scope pos) (aa (.Name x ey)) gg.line X.env=pure ac:=by rfl)
 (I:jN scope X.env.scope.names X.N Nc k js=ac:=by rfl)(hs:∀x,iO iter X.env x=pure x:=by intro _;rfl)(U:js.Nodup:=by decide)
 (T:LcF X x:=by first |exact .inl rfl |exact .inr rfl):
  DS c X (.Assign [.Name x ey] (.ListComp fx [⟨tg,iter,fy,0⟩] scope pos) gg) (dS i (aZ (fh k js fi g ft fe))):=
 Gj (Aj (tt:=tDT (Gx c X) ft) (te:=tD (Gx c X) fe) k js Nc L z hx M hi (λcl C ex a9 c3=>(q cl C ex a9 c3).pg) ht O B I hs T) λσ H Q h=>Ay U (q [] 0 [] X.s₀ X.H₀).keep (q [] 0 [] X.s₀ X.H₀).len (Nf h)
def kO{f:MF1}(B:DE c X e f):DS c X (.Return (aa e) pos) (fW f):=PS.imp (qt B) λE σ H I=>by
 obtain⟨Hf0,H0,Hf,ρ,o,so,q,k⟩:=I;unfold fW at q
 cases z:f ρ with
 |none=>rw[z]at q;nomatch q
 |some d=>
  rw[z]at q;cases q;exact⟨Hf0,H0,Hf,ρ,d,so,z,λv Hf' H' x r=>k v Hf' H' (so.ext.trans x) r⟩
abbrev cB(f:MF1)(ρ:LS):Option Fl:=(f ρ).map λd=>.rtS d ρ
def cR{f:MF1}(B:DE c X e f):DS c X (.Return (aa e) pos) (cB f):=PS.imp (qt B) λE σ H I=>by
 obtain⟨Hf0,H0,Hf,ρ,o,so,q,k⟩:=I;unfold cB at q
 cases z:f ρ with
 |none=>rw[z]at q;nomatch q
 |some d=>
  rw[z]at q;cases q;exact⟨Hf0,H0,Hf,ρ,d,so,z,λv Hf' H' x r=>k v σ Hf' H' (so.step x) r⟩
def Gm(B:DO c X e f):DS c X (.Return (aa e) pos) (oy f):=PS.imp (qt B) λE σ H O=>by
 obtain⟨Hf0,H0,Hf,ρ,o,so,q,k⟩:=O;unfold oy at q
 cases z:f ρ with
 |none=>rw[z]at q;nomatch q
 |some d=>
  rw[z]at q;cases q;exact⟨Hf0,H0,Hf,ρ,d,so,z,λl vs Hf' H' x M I L r=>k l vs Hf' H' (so.ext.trans x) (so.ext.h.free M) I L r⟩
def Ni(L:PE X e (df i)):DS c X (.Return (aa e) pos) (iu i):=PS.imp (qt L) λE σ H O=>by
 obtain⟨Hf0,H0,Hf,ρ,o,so,z,k⟩:=O;unfold iu at z
 cases es:ρ[i]? with
 |none=>rw[es]at z;nomatch z
 |some s=>
  rw[es]at z
  cases s with
  |im d=>
   cases z;obtain⟨v,B,r⟩:=so.imm es
   exact⟨_,B,k v Hf H so.ext r⟩
  |own xs=>
   cases z;obtain⟨l,B,I,M,vs,q,r⟩:=so.ownAt rfl es
   exact⟨_,B,k l vs Hf H so.ext I M q r⟩
  | _=>nomatch z
def oz(i:Nat)(z:X.N[i]?=aa x:=by rfl)(B:Vis X.env.scope x:=by first |exact bV rfl |exact bA (bV rfl) |exact bA (bA rfl))(hd:NDb x:=by decide)
 (q:NCd x:=by decide):DS c X (.Return (aa (.Name x p)) pos) (iu i):=Ni (ku z B hd q)
def kP(hp:nP (model X.prog X.w) X.A X.env X.xe)(hc:X.calm=ac)(hi:DI c X tg iter fi)(hg:DG c X tg kk g)(hb:DSs c X a F)(hs:∀x,iO iter X.env x=pure x:=by intro _;rfl):
  DS c X (.For tg iter a [] pos) (iw fi g F):=PS.imp (LK hp hc hi hg.pg hb hs) λE σ H q_=>by
 obtain⟨Hf0,H0,Hf,ρ,o,so,O,k⟩:=q_;unfold iw at O
 cases e1:fi ρ with
 |none=>rw[e1]at O;nomatch O
 |some ds=>
  rw[e1]at O;refine⟨Hf0,H0,Hf,ρ,ds,so,e1,λJ dk H1 x1 it=>?_⟩;refine⟨λi m σ' H'=>m=ds.length-i/\i<=ds.length/\∃Hf' ρ',aG _ Hf0 H0 Hf' H' σ' ρ'/\aR dk Hf'/\mK g F (ds.drop i) ρ'=aa o,⟨ds.length,rfl,gB _,dk,ρ,so.step x1,aR.refl _,O⟩,?_⟩;rintro i m σ' H' ⟨rfl,hi',Hf',ρ',L,s1,em⟩;obtain⟨it1,it2⟩:=it Hf' H' s1 L.sub i
  by_cases I:i<ds.length
  .obtain⟨d,ed,edr⟩:=wH I;obtain⟨go,yl⟩:=it1 d ed;rw[edr]at em;unfold mK at em;refine .inr ⟨go,λU H2=>ds.length-_=ds.length-_/\i+1<=ds.length/\∃Hf' ρ',aG _ Hf0 H0 Hf' H2 U ρ'/\aR dk Hf'/\mK g F _ ρ'=aa o,λU H2 w=>⟨ds.length-(i+1),by lia,w⟩,λx H2 y=>?_⟩;obtain⟨d8,x2,rx⟩:=yl x H2 y
   cases eg:g d ρ' with
   |none=>rw[eg]at em;nomatch em
   |some ρ1=>
    rw[eg]at em;replace em:(F ρ1).bind _=_:=em
    cases eF:F ρ1 with
    |none=>rw[eF]at em;nomatch em
    |some o1=>
     rw[eF]at em;refine⟨Hf0,H0,d8,ρ',d,ρ1,L.step x2,rx,eg,λm4 so3=>⟨Hf0,H0,d8,ρ1,o1,so3,eF,?_⟩⟩;have sf:=s1.trans x2.f
     cases o1 with
     |nx B=>exact λM q H4 T z=>⟨rfl,I,q,B,z,sf.trans T,em⟩
     |ct B=>exact λM q H4 T z=>⟨rfl,I,q,B,z,sf.trans T,em⟩
     |bk B=>cases em;exact λM q H4 T z=>k M q H4 ((x1.f.trans sf).trans T) z
     |rt d=>cases em;exact k
     |rtO d=>cases em;exact k
     |rtS d B=>cases em;exact k
  .have ei:i=ds.length:=by lia
   subst ei;rw[vH (bN _)]at em;cases em;exact .inl ⟨it2 rfl,k σ' Hf' H' (x1.f.trans s1) L⟩
def Nj{E:jL}(h:tDS G (gJ i F) E σ H):tDS G F E σ H:=by
 obtain⟨Hf0,H0,Hf,ρ,o,so,B,k⟩:=h;unfold gJ wK at B;split at B
 .rename_i xs es;obtain⟨l,L,O,I,vs,q,r⟩:=so.ownAt rfl es;exact⟨Hf0,H0,_,_,o,so.fixd (d:=.lst xs) rfl es L q ⟨l,vs,rfl,cz,r.up (dN I)⟩,B,k.up (dN I)⟩
 .rename_i M ns xs es;obtain⟨l,L,O,I,dx,vs,q,z,r⟩:=so.ownAt rfl es;exact⟨Hf0,H0,_,_,o,so.fixd (d:=.ins M ns xs) rfl es L q ⟨l,dx,vs,rfl,cz,z,r.up (dN I)⟩,B,k.up (dN I)⟩
 .exact⟨Hf0,H0,Hf,ρ,o,so,B,k⟩
def lJ(i:Nat)(h:DS c X st F):DS c X st (gJ i F):=PS.imp h λ_ _ _=>Nj
def wL{f:MF1}(h:PS X st (sU (tBM X.K "list" wg (df i) (n8 (tD (Gx c X) f) lG)))):DS c X st (lI i f):=PS.imp h λE σ H M=>by
 obtain⟨Hf0,H0,Hf,ρ,o,so,z,k⟩:=M;unfold lI at z
 cases B:f ρ with
 |none=>rw[B]at z;nomatch z
 |some d=>
  rw[B]at z;split at z
  .rename_i xs es;split at z
   .rename_i L;cases z;obtain⟨l,I,T,U,vs,q,r⟩:=so.ownAt rfl es;refine⟨_,I,.inl ⟨rfl,_,SqL.of q⟩,Hf0,H0,Hf,ρ,d,so,B,λv Hf' H' x O=>?_⟩;refine⟨l,vs,v,rfl,rfl,(x.h _ _ q),by rw[dA,<- r.length];exact L,k σ Hf' _ x.f ((so.step x).mutd rfl rfl es I ⟨vs++[v],cz,(r.up x.f).append (.cons O .nil)⟩)⟩
   .nomatch z
  .nomatch z
abbrev Az:Fl->OD
 |.rt d=>aa d
 |.rtO ds=>aa (.lst ds)
 |.rtS d _=>aa d
 |.nx _=>aa .non
 | _=>ae
abbrev iy(n:Nat)(ds:LD):LS:=ds.map .im++cQ (n-ds.length) .no
abbrev fj(n:Nat)(F:MF3)(ds:LD):OD:=(F (iy n ds)).bind Az
abbrev spD(G:Gc)(n:Nat)(m:LD->OD):Sp:=λvs H Q _=>∃Hf ds d,aR Hf H/\aF G Hf ds vs/\ds.length=n/\m ds=aa d/\∀v Hf' H',Ext Hf H Hf' H'->Rep G Hf' d v->Q v H'
def aG.start(L:aR Hf H)(r:aF G Hf ds vs):aG G Hf H Hf H (start N vs) (iy N.length ds):=by
 have im:∀i (s:Sl),(iy N.length ds)[i]?=aa s->s=.no\/∃d,ds[i]?=aa d/\s=.im d:=λi s b=>by
  unfold iy at b
  by_cases hi:i<ds.length
  .rw[nH (by simpa using hi)]at b;obtain⟨d,z,es⟩:=ow b;exact .inr ⟨d,z,es⟩
  .rw[nG (by simpa using vL hi)]at b;obtain⟨_,e⟩:=cV.mp b;rw[List.getElem_replicate]at e;exact .inl e.symm
 refine⟨Ext.refl L,by simp[L2.start,iy,r.length],λi v s a b=>?_,λi j s t v w l a b c d p q=>?_⟩
 .rcases im i s b with e |⟨d,z,es⟩
  .subst e;trivial
  .subst es;obtain⟨u,B,I⟩:=r.get z;refine⟨u,?_,I⟩;unfold L2.start at a;rw[nH (by simpa using ((cV.mp B).1)),fL,B]at a;exact(dz a).symm
 .rcases im i s a with e |⟨d,z,es⟩
  .subst e;exact(p.calm rfl).elim
  .subst es;exact(p.calm rfl).elim
variable{P:eC}{mg:MGT}{base:Heap}{n_:Nat}{qual:Str}{f:Addr}{fd:fD}{ps:LSt}
def g0{w:World}(T:Fun K x qual st f fd)(S:aX N ps (aK st))
 (h:∀(cdv:Value) (A:dL) (outer:List Env) (s:ax) (H:Hp) (E:XK),bT k (A.deeper (gC qual (aK st) s.heap.objs.size f cdv))->DSs c (gF CX0 P w K mg base N qual (aK st) f cdv A outer s H E).nox (iV st) F)(I:N.length=n_:=by rfl):
  dH P w K mg base CX0 (k+1) f fd ps (spD ⟨K,c⟩ ps.length (fj n_ F)):=by
 subst I;refine T.ok S (λvs H Q E L=>by obtain⟨Hf,ds,d,O,r,q,_⟩:=L;rw[<- r.length];exact q) λcdv A outer s H vs Q E hr L=>?_;obtain⟨Hf,ds,d,O,r,q,e,z⟩:=L;refine⟨_,h cdv A outer s H E hr,?_⟩;unfold fj at e
 cases B:F _ with
 |none=>rw[B]at e;nomatch e
 |some o=>
  rw[B]at e;refine⟨Hf,H,Hf,_,o,aG.start O r,B,?_⟩
  cases o with
  |nx ρ=>cases e;exact λσ' Hf' H' _ so=>z _ Hf' H' so.ext rfl
  |bk ρ=>nomatch e
  |ct ρ=>nomatch e
  |rt d=>cases e;exact z
  |rtO rs=>cases e;exact λl vs Hf' H' x U M q r=>z _ _ H' (x.fix U M q) ⟨l,vs,rfl,cz,r.up (dN M)⟩
  |rtS d ρ=>cases e;exact λv σ' Hf' H' so r=>z v Hf' H' so.ext r
variable{fa:MF2}{k0:Nat}
def di(pk:Pk X.prog X.w X.K X.mg X.base CX0 k x (f,fd) ps (spD (Gx c X) ps.length m))(I:bT k0 X.A)(M:DA c X (e::es) fa)(hl:(e::es).length=ps.length:=by rfl)(q:NDb x:=by decide)(U:StE X e es:=by rfl)(B:BkE X pos es:=by rfl)(z:k<=k0:=by decide)(hg:Gl X x:=by first |rfl |exact glc rfl):
  DE c X (.Call (.Name x p) (e::es) [] pos) (aS m fa):=PE.imp (mz pk.ok (I.mono z) hg pk.g pk.kp pk.b .nil jj M.pa q U B) λσ H Q q_=>by
 obtain⟨Hf0,H0,Hf,ρ,d,st,T,kq⟩:=q_;obtain⟨ds,L,O⟩:=Au T;refine⟨Hf0,H0,Hf,ρ,ds,st,L,λvs Hf' H' x r=>?_⟩;rw[cM];exact⟨Hf',ds,d,x.s,r,(M.len ρ ds L).trans hl,O,λv d8 H2 x2 r2=>kq v d8 H2 (x.trans x2) r2⟩
def AA{G:Gc}{H:Hp}{f:Str}{d:D}:∀{ns:LSt} {ds:LD} {vs:List V},(ns.zip ds).lookup f=aa d->aF G H ds vs->∃v,(ns.zip vs).lookup f=aa v/\Rep G H d v
 | [],_,_,e,_=>by simp at e
 |n::ns,[],_,e,_=>by simp at e
 |n::ns,x::ds,_,e,q4_=>by
  obtain⟨v,r,z,B,I⟩:=q4_;subst z;rw[nI,f9]at e;rw[nI,f9]
  cases q:f==n with
  |true=>rw[q]at e;cases e;exact⟨v,rfl,B⟩
  |false=>rw[q]at e;exact AA e I
def tO{f:Str}:∀{ns:LSt} {vs:List V},ns.contains f=ai->(ns.zip vs).lookup f=ae
 | [],_,_=>by simp
 |n::ns,[],_=>by simp
 |n::ns,v::vs,h=>by
  rw[vK,sB]at h;rw[nI,f9,h.1];exact tO h.2
abbrev wM:List (Str×(MF1))->LS->LSt->LD->Option (LSt×LD)
 | [],_,ns,ds=>aa (ns,ds)
 |(f,m)::r,ρ,ns,ds=>(m ρ).bind λd=>if ns.contains f then ae else wM r ρ (ns++[f]) (ds++[d])
abbrev Nk(G:Gc)(z:Str)(fs:List (Str×(MF1))):TS:=λE σ H=>∃x dx Hf0 H0 Hf ρ ns us ds r,σ[0]?=aa (aa (.ref x))/\(∀s∈ρ,Sl.calm s=ac)/\aG G Hf0 H0 Hf H σ ρ/\H0 x=ae/\Hf x=ae /\
 H x=aa (.ins (G.cl z) dx (ns.zip us))/\ns.length=us.length/\ns.length+fs.length<=900/\aF G Hf ds us/\wM fs ρ ns ds=aa r /\
 ∀q Hf' H',Ext Hf0 H0 Hf' H'->Hf' x=ae->H' x=aa (.ins (G.cl z) dx (r.1.zip q))->r.1.length=q.length->aF G Hf' r.2 q->E.nx σ H'
abbrev DSI(c:Str->Addr)(X:Cx)(q:Str)(sts:List Stmt)(fs:List (Str×(MF1))):Prop:=PSs X sts (Nk (Gx c X) q fs)
def tP{f:Str}{v:V}:∀{ns:LSt} {us:List V},ns.length=us.length->ns.contains f=ai->fF f v (ns.zip us)=(ns++[f]).zip (us++[v])
 | [],[],_,_=>rfl
 |n::ns,u::us,hl,h=>by
  rw[vK,sB]at h;have q:¬(n=f):=λz=>by rw[z,beq_self_eq_true]at h;cases h.1
  rw[nI];unfold fF
  first
   |(rw[if_neg q,tP (by simpa using hl) h.2];rfl)
   |(rw[if_neg _,tP (by simpa using hl) h.2];rfl)
   |(rw[if_neg (by simpa using q),tP (by simpa using hl) h.2];rfl)
   |(rw[if_neg (by simpa using λz=>q _),tP (by simpa using hl) h.2];rfl)
 | [],_::_,hl,_=>by cases hl
 | _::_,[],hl,_=>by cases hl
variable{cn:Str}
def Nl:DSI c X cn [] []:=PSs.imp E8 λE σ H q=>by
 obtain⟨x,dx,Hf0,H0,Hf,ρ,ns,us,ds,r,L,no,so,M,z,I,B,O,rd,em,k⟩:=q;cases em;exact k us Hf H so.ext z I B rd
variable{o:Expr}{m:MF1}{fs:List (Str×(MF1))}
def Gn{fl:Str}(hc:Cls X.K (c cn))(hn:ji X.K (c cn) fl)(ho:PE X o (df 0))(he:DE c X e m)(h:DSI c X cn sts fs)(O:eZ e (aa (.Attribute o fl ey)) pos.line X.env=pure ai:=by rfl):
  DSI c X cn (.Assign [.Attribute o fl ey] e pos::sts) ((fl,m)::fs):=PSs.imp (v6 (Mq ho he O) h) λE σ H q=>by
 obtain⟨x,dx,Hf0,H0,Hf,ρ,ns,us,ds,r,U,no,so,h0,hf,hx,hl,hz,rd,em,k⟩:=q;unfold wM at em
 cases M:m ρ with
 |none=>rw[M]at em;nomatch em
 |some d=>
  rw[M]at em;split at em
  .nomatch em
  .rename_i B;have B:ns.contains fl=ai:=by simpa using B
   refine⟨Hf0,H0,Hf,ρ,d,so,M,λv Hf' H' L rv=>⟨_,U,x,c cn,dx,ns.zip us,rfl,L.h _ _ hx,hc,hn,?_,?_⟩⟩
   .have h1:=length_zip (l₁:=ns) (l₂:=us);lia
   .have I:Hf' x=ae:=by rw[L.n _ _ hx rfl];exact hf
    have z:=so.step L
    have T:aG (Gx c X) Hf0 H0 Hf' (upd H' x (.ins (c cn) dx (fF fl v (ns.zip us)))) σ ρ:=by
     refine z.re ⟨z.ext.f,λb u e=>?_,λb u e=>?_,z.ext.n⟩ rfl (λi w s a b=>?_) λi s w a b _ p=>(p.calm (no s (me b))).elim
     .rw[bY (gW e h0)];exact z.ext.h b u e
     .rw[bY (gW e I)];exact z.ext.s b u e
     .have O:=no s (me b);have q:=z.at' i w s a b
      cases s with
      |no=>trivial
      |im d=>exact q
      | _=>nomatch O
    refine⟨x,dx,Hf0,H0,Hf',ρ,ns++[fl],us++[v],ds++[d],r,U,no,T,h0,I,?_,by rw[aO,aO,hl];rfl,by rw[aQ]at hz;rw[aO,f7];lia,(rd.up L.f).append (.cons rv .nil),em,k⟩;rw[cz,tP hl B]
abbrev del(H:Hp)(x:Addr):Hp:=λb=>if b=x then ae else H b
def Go{x:Addr}:del H x x=ae:=if_pos rfl
def Gp{x b:Addr}(h:b≠x):del H x b=H b:=if_neg h
abbrev Gq(n:Nat)(fs:List (Str×(MF1)))(q:LD):Option (LSt×LD):=wM fs (.no::(q.map .im++cQ (n-1-q.length) .no)) [] []
abbrev spI(G:Gc)(cn:Str)(n:Nat)(m:LD->Option (LSt×LD)):Sp:=λvs H Q _=>∃x dx Hf z q r,vs=.ref x::q/\H x=aa (.ins (G.cl cn) dx [])/\Hf x=ae/\aR Hf H/\aF G Hf z q/\z.length+1=n/\m z=aa r /\
 ∀us Hf' H',Ext Hf (del H x) Hf' H'->Hf' x=ae->H' x=aa (.ins (G.cl cn) dx (r.1.zip us))->r.1.length=us.length->aF G Hf' r.2 us->Q .non H'
section
variable{w:World}
def Nm(Fn:Fun K x qual st f fd)(S:aX N ps (aK st))
 (h:∀(cdv:Value) (A:dL) (outer:List Env) (s:ax) (H:Hp) (E:XK),bT k (A.deeper (gC qual (aK st) s.heap.objs.size f cdv))->DSI c (gF CX0 P w K mg base N qual (aK st) f cdv A outer s H E).nox cn (iV st) fs)
 (hz:fs.length<=900:=by decide)(M:N.length=n_:=by rfl):dH P w K mg base CX0 (k+1) f fd ps (spI ⟨K,c⟩ cn ps.length (Gq n_ fs)):=by
 subst M;refine Fn.ok S (λvs H Q E q=>by obtain⟨x,dx,Hf,z,O,r,L,_,_,_,B,hl,_⟩:=q;subst L;rw[aQ,<- B.length];exact hl) λcdv A outer s H vs Q E hr q=>⟨_,h cdv A outer s H E hr,?_⟩;obtain⟨x,dx,Hf,z,O,r,L,hx,hf,s0,B,hl,e,kq⟩:=q;subst L;have la:=B.length
 have im:∀i s,(Sl.no::(z.map Sl.im++cQ (N.length-1-z.length) .no))[i]?=aa s->s=.no\/∃d j,i=j+1/\z[j]?=aa d/\s=.im d:=λi s b=>by
  cases i with
  |zero=>left;simpa using b.symm
  |succ i=>
   rw[qb]at b
   by_cases hi:i<z.length
   .rw[nH (by simpa using hi)]at b;obtain⟨d,I,es⟩:=ow b;exact .inr ⟨d,i,rfl,I,es⟩
   .rw[nG (by simpa using vL hi)]at b;obtain⟨_,e⟩:=cV.mp b;rw[List.getElem_replicate]at e;exact .inl e.symm
 have no:∀s∈_,Sl.calm s=ac:=λs hs=>by
  obtain⟨i,hi⟩:=List.getElem?_of_mem hs
  rcases im i s hi with e |⟨d,_,_,_,e⟩ <;> (subst e;rfl)
 refine⟨x,dx,Hf,del H x,Hf,_,[],[],[],r,rfl,no,⟨⟨aR.refl _,λb o e=>?_,s0,λ_ _ _ _=>rfl⟩,?_,λi v s a b=>?_,λi j s t v w l a b _ _ p _=>((p.calm (no s (me a))).elim)⟩,Go,hf,hx,rfl,by simpa using hz,rfl,e,λus Hf' H' xx h1 h2 h3 h4=>kq us Hf' H' xx h1 h2 h3 h4⟩
 .by_cases U:b=x
  .subst U;rw[Go]at e;nomatch e
  .rw[Gp U]at e;exact e
 .unfold L2.start;simp only[aO,cf,aQ,gA];lia
 .rcases im i s b with e |⟨d,j,ei,I,es⟩
  .subst e;trivial
  .subst es ei;obtain⟨u,T,ru⟩:=B.get I;refine⟨u,?_,ru⟩;unfold L2.start at a;rw[jd,nJ,qb,nH (by simpa using ((cV.mp T).1)),fL,T]at a;exact(dz a).symm
end
def Nn{f:MF1}(h:f ρ=aa d):dS i f ρ=aa (.nx (ρ.set i (.im d))):=by
 unfold dS;rw[h];rfl
def No{f:MF2}{d:LD}(h:f ρ=aa d):gh i f ρ=aa (.nx (ρ.set i (.own d))):=by
 unfold gh;rw[h];rfl
def Np{f:MF1}(h:f ρ=aa d):fW f ρ=aa (.rt d):=by
 unfold fW;rw[h];rfl
def Nq{d:LD}(h:F (iy n ds)=aa (.rtO d)):fj n F ds=aa (.lst d):=by
 unfold fj;rw[h];rfl
def bL{m:LD->OD}{f:MF2}(h:f ρ=aa ds)(h':m ds=aa d):aS m f ρ=aa d:=by
 unfold aS;rw[h];exact h'
def AB{z:Type}{h:D->Option OD}(f:z->D)(p:z->Bool)(q:z->D):∀(xs:List z),(∀x∈xs,h (f x)=aa (if p x then aa (q x) else ae))->i0 h (xs.map f)=aa ((xs.filter p).map q)
 | [],_=>rfl
 |x::xs,hh=>by
  rw[jd];unfold i0;rw[hh x be,AB f p q xs λy I=>hh y (bQ _ I)]
  cases B:p x with
  |true=>rw[filter_cons_of_pos B];rfl
  |false=>rw[filter_cons_of_neg (by rw[B];exact cp)];rfl
def Nr{z:Type}{h:D->Option OD}(f:z->D)(q:z->D)(xs:List z)(B:∀x∈xs,h (f x)=aa (aa (q x))):i0 h (xs.map f)=aa (xs.map q):=by
 have:=AB f (λ_=>ac) q xs λx I=>(B x I).trans rfl;rw[this,filter_eq_self.mpr λ_ _=>rfl]
def Gr{z:Type}(xs:List z)(f:z->D)(p:z->Bool)(q:z->D)
 (hi:fi ρ=aa (xs.map f))(I:xs.length<=16777216)(B:∀x∈xs,mJ g ft fe (fI k js ρ) (f x)=aa (if p x then aa (q x) else ae)):fh k js fi g ft fe ρ=aa ((xs.filter p).map q):=by
 unfold fh;rw[hi];show(if (xs.map f).length<=16777216 then _ else ae)=_;rw[cf,if_pos I];exact AB f p q xs B
def tQ{z:Type}(xs:List z)(f:z->D)(q:z->D)
 (hi:fi ρ=aa (xs.map f))(I:xs.length<=16777216)(B:∀x∈xs,mJ g ft fe (fI k js ρ) (f x)=aa (aa (q x))):fh k js fi g ft fe ρ=aa (xs.map q):=by
 unfold fh;rw[hi];show(if (xs.map f).length<=16777216 then _ else ae)=_;rw[cf,if_pos I];exact Nr f q xs B
def Gs(lo:Int)(n:Nat):rng lo n=(dG n).map λ(i:Nat)=>D.int (lo+i):=rfl
abbrev gi:Nat->D->Prop
 | 0,_=>False
 |n+1,d=>match d with
  |.lst xs=>∀x∈xs,gi n x
  |.tup xs=>∀x∈xs,gi n x
  |d=>d.scalar=ac
def AC{f:D->D->Option Bool}:∀(xs:LD),(∀x∈xs,f x x=aa ac)->fH f xs xs=aa ac
 | [],_=>rfl
 |x::xs,h=>by
  unfold fH;rw[h x be,AC xs λy q=>h y (bQ _ q)];rfl
def AD:∀(n:Nat) (d:D),gi n d->deq n d d=aa ac
 | 0,_,h=>h.elim
 |n+1,d,h=>by
  cases d with
  |lst xs=>
   show(if xs.length=xs.length then fH _ xs xs else aa ai)=_;rw[if_pos rfl]
   exact AC xs λx q=>AD n x (h x q)
  |tup xs=>
   show(if xs.length=xs.length then fH _ xs xs else ae)=_;rw[if_pos rfl]
   exact AC xs λx q=>AD n x (h x q)
  |non=>rfl
  |bl b=>show aa (b==b)=_;rw[beq_self_eq_true]
  |int b=>show aa (b==b)=_;rw[beq_self_eq_true]
  |str b=>show aa (b==b)=_;rw[beq_self_eq_true]
  | _=>cases h
def AE(h:gi 20 d):dNe d d=aa (.bl ai):=by
 unfold dNe;rw[AD 20 d h];rfl
def gv(i j:Int):dEq (.int i) (.int j)=aa (.bl (i==j)):=rfl
def AF(i j:Str):dEq (.str i) (.str j)=aa (.bl (i==j)):=rfl
def AG(i j:Int):dNe (.int i) (.int j)=aa (.bl (!(i==j))):=rfl
def Gu(i j:Str):dNe (.str i) (.str j)=aa (.bl (!(i==j))):=rfl
variable{m:D->D->OD}{f:MF1}
def aH{g:MF1}{x:D}(q:f ρ=aa x)(z:g ρ=aa y)(B:m x y=aa d):m2 m f g ρ=aa d:=by
 unfold m2;rw[q,z];exact B
variable{b:Bool}
def bq(h:f ρ=aa (.bl b)):mB f ρ=aa b:=by
 unfold mB;rw[h];rfl
def gK(h:f ρ=aa d)(h':qz d=aa b):eG f ρ=aa b:=by
 unfold eG;rw[h];exact h'
variable{f:MF4}
def oA(h:f ρ=aa b):jl f ρ=aa (!b):=by
 unfold jl;rw[h];rfl
variable{g:MF4}
def Nt{r:Option Bool}(h:f ρ=aa ac)(h':g ρ=r):iZ f g ρ=r:=by
 unfold iZ;rw[h];exact h'
def Nu(h:f ρ=aa ai):iZ f g ρ=aa ai:=by
 unfold iZ;rw[h];rfl
def Nv(h:f ρ=aa ac):mOr f g ρ=aa ac:=by
 unfold mOr;rw[h];rfl
def Nw{r:Option Bool}(h:f ρ=aa ai)(h':g ρ=r):mOr f g ρ=r:=by
 unfold mOr;rw[h];exact h'
variable{a:Bool}
def qH(h:f ρ=aa a)(h':g ρ=aa b):iZ f g ρ=aa (a && b):=by
 cases a with
 |true=>exact Nt h h'
 |false=>exact Nu h
def Gv(h:f ρ=aa a)(h':g ρ=aa b):mOr f g ρ=aa (a || b):=by
 cases a with
 |true=>exact Nv h
 |false=>exact Nw h h'
variable{f:MF1}
def oB{g:MF1}(h:f ρ=aa (.bl a))(h':g ρ=aa (.bl b)):kz f g ρ=aa (.bl (a && b)):=by
 unfold kz;rw[bq h]
 cases a with
 |true=>exact h'
 |false=>rfl
def AH{g:MF1}(h:f ρ=aa (.bl a))(h':g ρ=aa (.bl b)):vOr f g ρ=aa (.bl (a || b)):=by
 unfold vOr;rw[bq h]
 cases a with
 |true=>rfl
 |false=>exact h'
def Gw(h:f ρ=aa (.bl a)):tI f ρ=aa (.bl (!a)):=by
 unfold tI;rw[bq h];rfl
def aV{g:MF2}(h:f ρ=aa d)(h':g ρ=aa ds):aj f g ρ=aa (d::ds):=by
 unfold aj;rw[h,h'];rfl
variable{f:MF2}
def wN(h:f ρ=aa ds):gr f ρ=aa (.tup ds):=by
 unfold gr;rw[h];rfl
def fm(h:f ρ=aa ds):aZ f ρ=aa (.lst ds):=by
 unfold aZ;rw[h];rfl
def cb{g:MF1}{i:Int}{r:OD}(h:f ρ=aa ds)(h':g ρ=aa (.int i))(q:atI ds i=r):mIx f g ρ=r:=by
 unfold mIx;rw[h,h'];exact q
variable{j:Int}
def wO{C:Int->Int->Prop}[∀i j,Decidable (C i j)]{g:Int->Int->D}{i:Int}(h:C i j):dI C g (.int i) (.int j)=aa (g i j):=by
 show(if C i j then aa _ else ae)=_;rw[if_pos h]
def Nx{f:MF1}(h:f ρ=aa d)(h':ρ[i]?=aa (.own xs))(q:xs.length<16777216):lI i f ρ=aa (.nx (ρ.set i (.own (xs++[d])))):=by
 unfold lI;rw[h,h'];show(if xs.length<16777216 then _ else ae)=_;rw[if_pos q]
variable{ρ1:LS}
def AI{g:D->LS->Option LS}(q:g d ρ=aa ρ1)(z:ft ρ1=aa b)(B:b=ac->fe ρ1=aa y):mJ g ft fe ρ d=aa (if b then aa y else ae):=by
 unfold mJ;rw[q];show(ft ρ1).bind _=_;rw[z]
 cases b with
 |true=>rw[B rfl];rfl
 |false=>rfl
def tS{g:D->LS->Option LS}(q:g d ρ=aa ρ1)(z:ft ρ1=aa ac)(B:fe ρ1=aa y):mJ g ft fe ρ d=aa (aa y):=AI q z λ_=>B
def tT{f:MF1}(h:f ρ=aa d)(h':mD d=aa ds):fG f ρ=aa ds:=by
 unfold fG;rw[h];exact h'
def Ny{n:Int}(h:f ρ=aa [.int n])(z:0<=n)(q:n<2 ^ 62):ir f ρ=aa ((dG n.toNat).map λ(i:Nat)=>D.int i):=by
 unfold ir;rw[h];show(if -_<=n/\n<2 ^ 62 then aa _ else ae)=_;rw[if_pos ⟨by lia,q⟩,Gs]
 congr 1
 refine vJ λi _=>?_;rw[Int.zero_add]
abbrev itD(z:Int×Int):D:=.tup [.int z.1,.int z.2]
abbrev InN(n:Nat)(its:List (Int×Int)):Prop:=∀z∈its,0<=z.1/\z.1<(n:Int)/\0<=z.2
abbrev Prt.toD:Prt->D
 |.inn t=>.tup [.str "in",.int t]
 |.out t=>.tup [.str "out",.int t]
 |.least k its=>.tup [.str "least",.int k,.lst (its.map itD)]
 |.most k its=>.tup [.str "most",.int k,.lst (its.map itD)]
abbrev Prt.obj:Prt->D
 |.inn t=>.ins "In" ["thing"] [.int t]
 |.out t=>.ins "Out" ["thing"] [.int t]
 |.least k its=>.ins "Least" ["bound","pieces"] [.int k,.lst (its.map itD)]
 |.most k its=>.ins "Most" ["bound","pieces"] [.int k,.lst (its.map itD)]
abbrev Prt.Ok(n:Nat):Prt->Prop
 |.inn t=>0<=t/\t<(n:Int)
 |.out t=>0<=t/\t<(n:Int)
 |.least _ its=>InN n its/\its.length<=100000
 |.most _ its=>InN n its/\its.length<=100000
def Gy:∀{bs:List Bool} {us:LVa},aW (bs.map V.bl) us->us=bs.map nS
 | [],_,.nil=>rfl
 |b::bs,_,.cons r t=>by
  rw[Gy t];cases (r);rfl
def Nz(bs:List Bool):((dG bs.length).all λi=>(bs[i]?).getD ac)=bs.all id:=by
 rw[kf,all_eq_true,all_eq_true];constructor
 .intro h b z;obtain⟨i,hi,e⟩:=List.getElem_of_mem z;have:=h i (kg.mpr hi);simp only[du hi,e]at this;exact this
 .intro h i hi;have q:=kg.mp hi;simp only[du q];exact h _ (lA q)
def NA{h:Heap}{o:Obj}(q:∀b x,b∉[h.objs.size]->(h.push o).get? b=aa x->h'.get? b=aa x):∀b x,h.get? b=aa x->h'.get? b=aa x:=
 λb x e=>q b x (λz=>by rw[bR.mp z]at e;exact lC _ (cX e)) (gc _ e)
def NB(T:X.calm=ac):jM X (.builtin "all") (λxs H Q=>∃(p:Addr) (bs:List Bool),xs=[.ref p]/\SqL X.K H p (bs.map V.bl)/\Q (.bl (bs.all id)) H):=by
 intro pins s σ H xs us Q I r h;obtain⟨l,bs,rfl,hq,q⟩:=h;obtain⟨u,rfl,rx⟩:=qu r;subst rx;obtain⟨its,r',pl,hz⟩:=I.list hq;have e:=Gy r';subst e;have B:=pl.isList;have L:l<s.heap.objs.size:=by obtain⟨_,e,_⟩:=B;exact cX e
 refine call_all_walk (wpAny_pyIter_list B ?_)
 refine⟨s.heap.objs.size,_,_,(bs.map nS).toArray.size,_,_,λi=>(bs[i]?).getD ac,rfl,Walks.list (A:=X.A.in1) (I.ok.hd T) _ l (eY L) (bs.map nS).toArray,
  ⟨⟨_,iQ _ rfl,rfl,rfl⟩,B.push _⟩,λi v s' Q' E' O M=>?_,λh' tk U=>?_⟩
 .have z:(bs.map nS)[i]?=aa v:=by simpa using O
  obtain⟨b,e,rfl⟩:=ow z;simp only[e]at M;exact nL M
 .have e:((dG (bs.map nS).toArray.size).all λi=>(bs[i]?).getD ac)=bs.all id:=by
   rw[size_toArray,cf];exact Nz bs
  rw[e];exact⟨.bl _,H,I.kept (NA U),rfl,q⟩
abbrev jR:LD->Option (List Bool)
 | []=>aa []
 |.bl b::ds=>(jR ds).map λr=>b::r
 | _=>ae
def Gz:∀{ds:LD} {bs:List Bool},jR ds=aa bs->ds=bs.map D.bl
 | [],_,e=>by cases e;rfl
 |.bl b::ds,_,e=>by
  unfold jR at e
  cases es:jR ds with
  |none=>rw[es]at e;cases e
  |some r=>rw[es]at e;cases e;rw[Gz es];rfl
 |.int _::_,_,e=>by cases e
 |.non::_,_,e=>by cases e
 |.str _::_,_,e=>by cases e
 |.lst _::_,_,e=>by cases e
 |.tup _::_,_,e=>by cases e
 |.kl _::_,_,e=>by cases e
 |.kt _::_,_,e=>by cases e
 |.ins _ _ _::_,_,e=>by cases e
def aF.bls{G:Gc}{H:Hp}:∀{bs:List Bool} {vs:List V},aF G H (bs.map D.bl) vs->vs=bs.map V.bl
 | [],_,h=>h
 |b::bs,_,q2_=>by
  obtain⟨v,r,e,q,z⟩:=q2_;subst e;rw[aF.bls z,show v=V.bl b from q];rfl
abbrev mM:LD->OD
 | [d]=>(lsD d).bind λds=>(jR ds).map λbs=>.bl (bs.all id)
 | _=>ae
def GA{f:List Bool->D}(e:(match ds with | [d]=>(lsD d).bind λds=>(jR ds).map f | _=>ae)=aa d):∃q xs bs,ds=[q]/\lsD q=aa xs/\xs=bs.map D.bl/\d=f bs:=by
 split at e
 .rename_i q
  cases z:lsD q with
  |none=>rw[z]at e;nomatch e
  |some xs=>
   rw[z]at e;replace e:(jR xs).map f=aa d:=e
   cases B:jR xs with
   |none=>rw[B]at e;nomatch e
   |some bs=>rw[B]at e;cases e;exact⟨q,xs,bs,rfl,z,Gz B,rfl⟩
 .nomatch e
def wP(O:X.calm=ac):qG c X (.builtin "all") mM:=by
 rintro pins s σ H vs us Q I U ⟨Hf,ds,d,z,r,e,k⟩;obtain⟨d0,xs,bs,rfl,B,rfl,rfl⟩:=GA e;obtain⟨v,M,T⟩:=r.one;subst M;obtain⟨a,ws,L,q,rs⟩:=qF B T;subst L;refine NB O pins s σ H _ us Q I U ⟨a,bs,rfl,?_,k _ Hf H (Ext.refl z) rfl⟩;rw[<- rs.bls];exact z.seq q
def wQ:∀ds d,mM ds=aa d->d.scalar=ac:=λds d e=>by
 obtain⟨q,xs,bs,rfl,z,rfl,rfl⟩:=GA e;rfl
inductive Wrd where
 |make |may |never
 deriving DecidableEq
abbrev Wrd.s:Wrd->Str
 |.make=>"make"
 |.may=>"may"
 |.never=>"never"
structure Rul where
 w:Wrd
 hd:Int
 ps:List Prt
abbrev Rul.hdD(r:Rul):D:=match r.w with
 |.never=>.non
 | _=>.int r.hd
abbrev Rul.toD(r:Rul):D:=.tup [.str r.w.s,r.hdD,.lst (r.ps.map Prt.toD)]
structure Rul.Ok(n:Nat)(r:Rul):Prop where
 hd:r.w≠.never->0<=r.hd/\r.hd<(n:Int)
 ps:∀p∈r.ps,p.Ok n
 len:r.ps.length<=100000
abbrev Ite(K:bo)(l:Addr):It:=
  ⟨λi H=> ∃xs x, SqL K H l xs/\xs[i]? = aa x,
   λi H v H'=> ∃p x, v = .ref p/\H p = ae/\H' = upd H p (.tup [.int i, x])/\(∀xs, SqL K H l xs->xs[i]? = aa x),
   λi H=> ∃xs, SqL K H l xs/\xs.length<=i⟩
variable{elts:LEx}{kx:Nat}
def NC{w:World}(e it l:Addr)(ne:e≠it):
  lF P w K (.Tuple elts kx pos) (Ite K l) [e,it] e (λi h=>(∃old,IsEnum h e it (i:Int) old)/\h.IsListIter it l i) where
 mem:=by simp
 obj:=λi h st b hb=>by
  obtain⟨⟨old,he⟩,⟨o1,e1,_,d1⟩⟩:=st;simp only[bC,iM,or_false]at hb
  rcases hb with rfl |rfl
  .exact⟨_,he,λv q=>by nomatch q⟩
  .exact⟨o1,e1,λv q=>by rw[d1]at q;nomatch q⟩
 keep:=λi h h' st k=>by
  obtain⟨⟨old,he⟩,h1⟩:=st;exact⟨⟨old,k e (by simp) _ he⟩,h1.at λo q=>k it (by simp) o q⟩
 item:=by
  intro X hP hw hK hc i pins s σ H E I hf st hg;subst hP hw hK;obtain⟨⟨old,he⟩,h1⟩:=st;obtain⟨xs,x,q1,hx⟩:=hg;obtain⟨its1,r1,p1,z1⟩:=I.list q1;obtain⟨u1,e1,ru1⟩:=r1.get hx;refine wpAny_pyNext_enum_item he h1 p1.isList (by simpa using e1) ne λh' a1 a3 a5 a6 a7=>⟨_,rfl,?_⟩;refine wpAny_letOwnedTupleGo_enum a1 λh'' b1 b2=>?_
  have lt:∀b∈[e,it],b<s.heap.objs.size:=λb hb=>by
   simp only[bC,iM,or_false]at hb
   rcases hb with rfl |rfl
   .exact cX he
   .obtain⟨o,e,_⟩:=h1;exact cX e
  have kk:∀b o,b∉[e,it]->s.heap.get? b=aa o->h''.get? b=aa o:=λb o hb e=>by
   simp only[bC,iM,or_false,not_or]at hb;obtain⟨n1,n2⟩:=hb;exact(b2.2 b n1).trans (a7 b o n1 n2 e)
  have fr:=I.hok.fresh (bN _)
  have I2:Inv X pins σ (upd H s.heap.objs.size (.tup [.int i,x])) {s with heap:=h'',toks:=s.toks+1}:=
   (I.turnedMany kk hf).track (I.fpOk (bN _) fr) ⟨(by show 2<=bx;decide),_,.cons ⟨s.toks,rfl⟩ (.cons ru1 .nil),⟨_,((b2.2 _ (vM (lt e (by simp)))).trans a5),rfl,_,rfl⟩⟩
  refine⟨.ref s.heap.objs.size,_,I2,rfl,⟨_,x,rfl,fr,rfl,λxs' h=>by rw[I.list_inj h q1];exact hx⟩,⟨⟨u1,?_⟩,(a3.at λo q=>(b2.2 it (eM ne)).trans q)⟩,λb hb=>?_⟩
  .have:((i+1:Nat):Int)=i+1:=by push_cast;rfl
   rw[this];exact b1
  .rw[bY (eY (lt b hb))];exact(hf b hb).1
 done:=by
  intro X hP hw hK hc i pins s σ H E I hf st hg;subst hP hw hK;obtain⟨⟨old,he⟩,h1⟩:=st;obtain⟨xs,q1,hend⟩:=hg;obtain⟨its1,r1,p1,z1⟩:=I.list q1;have l1':=r1.length;refine wpAny_pyNext_enum_end (I.ok.hd hc) he h1 p1.isList (by simp;lia) λh' kk=>⟨rfl,I.turnedMany (λb o hb q=>?_) hf⟩;simp only[bC,iM,or_false,not_or]at hb;exact kk b o hb.2 q
 self:=λ_ _ _ _ _ st h=>by obtain⟨⟨old,he⟩,_⟩:=st;exact wpAny_pyIter_enum he h
abbrev ND(K:bo)(q:TA):TI:=λσ H R=>q σ H λvs H1=>∃l,vs=[.ref l]/\(∃xs,SqL K H1 l xs)/\R (Ite K l) H1
variable{y3:Pos}{a:Expr}
def NE{U:TA}(hg:Gl X "enumerate")(hm:X.mg "enumerate"=ae)(ha:PA X [a] U)(hs:bf [a] X.env=[(ai,eval a X.env)]:=by rfl):
  PI X (.Tuple elts kx y3) (.Call (.Name "enumerate" p) [a] [] pos) (ND X.K U):=by
 intro pins s σ H R I h;refine Call_ (qr I hg hm boot_enumerate (vQ (thn (ha pos pins s σ H _ I h) λus s1 ⟨vs,H1,B,T,q1⟩=>?_) (by rw[hs];rfl) (by rfl)));obtain⟨l,e,⟨xs,h1⟩,q⟩:=q1;subst e;obtain⟨u,rfl,ru⟩:=qu T;subst ru;obtain⟨O,T,p1,z1⟩:=B.list h1;refine call_enumerate_list p1.isList λh' L a4 a6 a7=>?_;refine wpAny_pyIter_enum L ?_;refine⟨_,_,_,_,H1,rfl,(B.kept a7),NC _ _ _ (Nat.succ_ne_self _),⟨⟨_,L⟩,a4⟩,λb M=>?_,q⟩;simp only[bC,iM,or_false]at M
 have z:s1.heap.objs.size<=b:=by
  rcases M with rfl |rfl
  .exact Nat.le_add_right _ _
  .exact bN _
 exact B.fpOk z (B.hok.fresh z)
abbrev oE:Nat->LD->LD
 | _,[]=>[]
 |i,x::xs=>.tup [.int i,x]::oE (i+1) xs
def GB:∀(i:Nat) (xs:LD),(oE i xs).length=xs.length
 | _,[]=>rfl
 |i,x::xs=>by rw[oE,aQ,aQ,GB]
def AJ:∀(k:Nat) (xs:LD) (i:Nat),(oE k xs)[i]?=(xs[i]?).map λx=>.tup [.int (k+i:Nat),x]
 | _,[],_=>rfl
 |k,x::xs,0=>rfl
 |k,x::xs,i+1=>by rw[oE,qb,qb,AJ _ xs i,show k+1+i=k+(i+1) by lia]
abbrev AK:LD->OLD
 | [x]=>(lsD x).map (oE 0)
 | _=>ae
abbrev mO(f:MF2)(ρ:LS):OLD:=(f ρ).bind AK
def GC(hg:Gl X "enumerate")(hm:X.mg "enumerate"=ae)(ha:DA c X [a] f)(hs:bf [a] X.env=[(ai,eval a X.env)]:=by rfl):
  DI c X (.Tuple elts kx y3) (.Call (.Name "enumerate" p) [a] [] pos) (mO f):=
 PI.imp (NE hg hm ha.pa hs) λσ H R q_=>by
  obtain⟨Hf0,H0,Hf,ρ,ds,st,q,k⟩:=q_;unfold mO at q
  cases M:f ρ with
  |none=>rw[M]at q;nomatch q
  |some as=>
   rw[M]at q;replace q:AK as=aa ds:=q;refine⟨Hf0,H0,Hf,ρ,as,st,M,λvs Hf' H' x r=>?_⟩;unfold AK at q;split at q
   .rename_i dx
    cases ex:lsD dx with
    |none=>rw[ex]at q;nomatch q
    |some xs=>
     rw[ex]at q;cases q;obtain⟨v,ev,rv⟩:=r.one;obtain⟨l1,L,O,q1,r1⟩:=qF ex rv;subst O;refine⟨l1,ev,⟨L,x.s.seq q1⟩,k _ Hf' H' x λd8 H2 f2 s2 i=>?_⟩;have T:=(f2.trans s2).seq q1;have h1:=r1.length;refine⟨λd B=>?_,λei=>⟨L,T,by rw[GB]at ei;lia⟩⟩;rw[AJ]at B
     cases U:xs[i]? with
     |none=>rw[U]at B;nomatch B
     |some x'=>
      rw[U]at B;cases B;obtain⟨u1,I,ru1⟩:=r1.get U;refine⟨⟨L,u1,T,I⟩,λz H3 ⟨pp,z1,ez,hp,eh,y1⟩=>?_⟩;subst ez eh;have a1:=y1 L T;rw[I]at a1;cases a1;exact⟨upd d8 pp _,Ext.new s2 hp,pp,_,rfl,cz,.cons (by rw[vP];rfl) (.cons (ru1.up (f2.trans (dN (s2.free hp)))) .nil)⟩
   .nomatch q
abbrev oF(i:Nat)(q z:MF1)(ρ:LS):Option Fl:=(z ρ).bind λd=>(q ρ).bind λx=>match x with
 | .int k=>(match ρ[i]? with
  |some (.own xs)=>(ixN xs.length k).map λj=>.nx (ρ.set i (.own (xs.set j d)))
  | _=>ae)
 | _=>ae
variable{fk fv:MF1}
def NF(hp:PS X st (nY (tD (Gx c X) fv) (zZ (df i) (tD (Gx c X) fk) Ac))):DS c X st (oF i fk fv):=PS.imp hp λE σ H q_=>by
 obtain⟨Hf0,H0,Hf,ρ,o,so,z,k⟩:=q_;unfold oF at z
 cases M:fv ρ with
 |none=>rw[M]at z;nomatch z
 |some d=>
  rw[M]at z
  cases O:fk ρ with
  |none=>rw[O]at z;nomatch z
  |some x=>
   rw[O]at z
   obtain⟨I,rfl⟩:∃I,x=.int I:=by cases x <;> first |exact⟨_,rfl⟩ |nomatch z
   replace z:(match ρ[i]? with |some (.own xs)=>(ixN xs.length I).map λj=>Fl.nx _ | _=>ae)=aa o:=z
   split at z
   .rename_i xs es
    cases T:ixN xs.length I with
    |none=>rw[T]at z;nomatch z
    |some j=>
     rw[T]at z;cases z;refine⟨Hf0,H0,Hf,ρ,d,so,M,λv dk H1 x1 r1=>?_⟩;have B:=so.step x1;obtain⟨l,U,h0,hf,vs,q,r⟩:=B.ownAt rfl es;refine⟨_,U,Hf0,H0,dk,ρ,.int I,B,O,λy d8 H2 L r2=>?_⟩;exact⟨l,vs,I,j,rfl,r2,(L.h _ _ q),by rw[<- r.length];exact T,(k σ d8 _ (x1.f.trans L.f) ((B.step L).mutd rfl rfl es U ⟨vs.set j v,cz,(r.up L.f).set j (r1.up L.f)⟩))⟩
   .nomatch z
variable{i' value:Expr}
def NG(I:PE X e (df i))(B:DE c X i' fk)(M:DE c X value fv)(L:swapsWithSole [.Subscript e i' ey] value pos.line X.env=pure ai:=by rfl)(O:swappedStores [.Subscript e i' ey] value X.env=pure ae:=by rfl)
 (q:(jf [.Subscript e i' ey] X.env).map (·.2)=[assign (.Subscript e i' ey) X.env]:=by rfl)
 (z:∀ v,assign (.Subscript e i' ey) X.env v=(do
   let ov <- fP [v] (eval e X.env)
   let iv <- fP [v,ov] (eval i' X.env)
   ij ey
   fP [v,ov,iv] (setItem ov iv v)
   release [v,ov,iv] []):=by intro _;rfl):
  DS c X (.Assign [.Subscript e i' ey] value pos) (oF i fk fv):=NF (Fc M (Fb I B FL z) L O q)
set_option maxRecDepth 100000
set_option maxRecDepth 100000
set_option maxRecDepth 100000
set_option maxRecDepth 100000
set_option maxRecDepth 100000
set_option maxRecDepth 100000
set_option maxRecDepth 100000
abbrev gL(f g:MF1)(ρ:LS):OLD:=(f ρ).bind λx=>(g ρ).bind λy=>match x,y with
 |.lst a,.lst b=>if a.length+b.length<=16777216 then aa (a++b) else ae
 | _,_=>ae
variable{f:MF1}
def NH{g:MF1}(h:gL f g ρ=aa ds):∃a b,f ρ=aa (.lst a)/\g ρ=aa (.lst b)/\a.length+b.length<=16777216/\ds=a++b:=by
 unfold gL at h
 cases q:f ρ with
 |none=>rw[q]at h;nomatch h
 |some x=>
  cases z:g ρ with
  |none=>rw[q,z]at h;nomatch h
  |some y=>
   rw[q,z,aD,aD]at h;split at h
   .split at h
    .rename_i a b B;cases h;exact⟨a,b,rfl,rfl,B,rfl⟩
    .nomatch h
   .nomatch h
def mP{b:Expr}{g:MF1}(T:DE c X a f)(U:DE c X b g):DO c X (.BinOp a .Add b pos) (gL f g):=PE.imp (v9 Ad T U) λσ H Q q_=>by
 obtain⟨Hf0,H0,Hf,ρ,ds,st,M,k⟩:=q_;obtain⟨xs,ys,I,L,hl,rfl⟩:=NH M;refine⟨Hf0,H0,Hf,ρ,_,st,I,λv dk H1 B r1=>⟨Hf0,H0,dk,ρ,_,st.step B,L,λu d8 H2 q r2=>?_⟩⟩;obtain⟨l,vs,O,q1,s1⟩:=r1.up q.f;obtain⟨m,us,em,q2,s2⟩:=r2;subst O em;have x:=B.trans q;exact⟨l,m,vs,us,rfl,rfl,q.s _ _ q1,q.s _ _ q2,by rw[dA,<- s1.length,<- s2.length];exact hl,λp z=>k p _ d8 _ (x.trans (Ext.tmp x.s z)) (x.h.free z) (x.s.free z) cz (s1.append s2)⟩
abbrev wp(F:MF3)(ρ:LS)(K:Fl->Prop):Prop:=∃o,F ρ=aa o/\K o
abbrev GD(F:MF3)(K:Fl->Prop):Fl->Prop
 |.nx ρ=>wp F ρ K
 |o=>K o
abbrev GE(J:LS->Prop)(K:Fl->Prop):Fl->Prop
 |.nx ρ=>J ρ
 |.ct ρ=>J ρ
 |.bk ρ=>K (.nx ρ)
 |o=>K o
abbrev tU(Q:D->Prop)(o:Fl):Prop:=∃d,Az o=aa d/\Q d
variable{K:Fl->Prop}
def ay(h:wp F ρ (GD F' K)):wp (au F F') ρ K:=by
 obtain⟨o,e,k⟩:=h;unfold wp au;rw[e]
 cases o with
 |nx ρ'=>exact k
 | _=>exact⟨_,rfl,k⟩
def bc(h:K (.nx ρ)):wp aU ρ K:=⟨_,rfl,h⟩
def gj(h:f ρ=aa d)(k:K (.nx (ρ.set i (.im d)))):wp (dS i f) ρ K:=⟨_,Nn h,k⟩
def kQ{f:MF2}{d:LD}(h:f ρ=aa d)(k:K (.nx (ρ.set i (.own d)))):wp (gh i f) ρ K:=⟨_,No h,k⟩
def mQ(h:f ρ=aa d)(k:K (.rt d)):wp (fW f) ρ K:=⟨_,Np h,k⟩
def NI{f:MF2}{d:LD}(h:f ρ=aa d)(k:K (.rtO d)):wp (oy f) ρ K:=⟨_,by unfold oy;rw[h];rfl,k⟩
def i5{o:Fl}(h:F ρ=aa o)(k:K o):wp F ρ K:=⟨_,h,k⟩
def br(h:t ρ=aa b)(z:b=ac->wp F ρ K)(q:b=ai->wp F' ρ K):wp (aY t F F') ρ K:=by
 unfold wp aY;rw[h]
 cases b with
 |true=>exact z rfl
 |false=>exact q rfl
def tV(h:f ρ=aa d)(h':ρ[i]?=aa (.own xs))(q:xs.length<16777216)(k:K (.nx (ρ.set i (.own (xs++[d]))))):wp (lI i f) ρ K:=⟨_,Nx h h' q,k⟩
variable{k:Int}
def NJ(I:fv ρ=aa d)(B:fk ρ=aa (.int k))(h':ρ[i]?=aa (.own xs))(q:0<=k)(z:k<xs.length):oF i fk fv ρ=aa (.nx (ρ.set i (.own (xs.set k.toNat d)))):=by
 have e:ixN xs.length k=aa k.toNat:=by
  unfold ixN;rw[if_pos q,if_pos z]
 unfold oF;rw[I,aD,B,aD,h'];show(ixN xs.length k).map _=_;rw[e];rfl
def NK(L:fv ρ=aa d)(I:fk ρ=aa (.int k))(h':ρ[i]?=aa (.own xs))(z:0<=k)(B:k<xs.length)(q:K (.nx (ρ.set i (.own (xs.set k.toNat d))))):wp (oF i fk fv) ρ K:=⟨_,NJ L I h' z B,q⟩
def GF{L:Type}{g:D->LS->Option LS}{F:MF3}{K:Fl->Prop}(f:L->D)(I:List L->LS->Prop):∀(post pre:List L) (ρ:LS),I pre ρ ->
  (∀z x B ρ,pre++post=z++x::B->I z ρ->∃ρ1,g (f x) ρ=aa ρ1/\wp F ρ1 (GE (I (z++[x])) K))->(∀ρ',I (pre++post) ρ'->K (.nx ρ'))->wp (mK g F (post.map f)) ρ K
 | [],pre,ρ,h,_,hk=>⟨_,rfl,hk ρ (by rw[cM];exact h)⟩
 |x::post,pre,ρ,h,hs,hk=>by
  obtain⟨ρ1,M,o,O,k2⟩:=hs pre x post ρ rfl h;unfold wp;rw[jd];unfold mK;rw[M,aD,O,aD]
  have go:=λq T=>
   GF f I post (pre++[x]) q T (by rw[c7];exact hs) (by rw[c7];exact hk)
  cases o with
  |nx q=>exact go q k2
  |ct q=>exact go q k2
  |bk q=>exact⟨_,rfl,k2⟩
  |rt d=>exact⟨_,rfl,k2⟩
  |rtO d=>exact⟨_,rfl,k2⟩
  |rtS d q=>exact⟨_,rfl,k2⟩
def kU{q:Type}{g:D->LS->Option LS}(xs:List q)(f:q->D)(I:List q->LS->Prop)(hi:fi ρ=aa (xs.map f))(z:I [] ρ)
 (L:∀pre x post ρ,xs=pre++x::post->I pre ρ->∃ρ1,g (f x) ρ=aa ρ1/\wp F ρ1 (GE (I (pre++[x])) K))(B:∀ρ',I xs ρ'->K (.nx ρ')):wp (iw fi g F) ρ K:=by
 obtain⟨o,e,k⟩:=GF f I xs [] ρ z L B;refine⟨o,?_,k⟩;unfold iw;rw[hi];exact e
variable{Q:D->Prop}
def GG(h:wp F (iy n ds) (tU Q)):∃d,fj n F ds=aa d/\Q d:=by
 obtain⟨o,e,d,z,q⟩:=h;refine⟨d,?_,q⟩;unfold fj;rw[e];exact z
def jo{r:D}(h:wp F (iy n ds) (tU λd=>d=r)):fj n F ds=aa r:=by
 obtain⟨d,e,q⟩:=GG h;rw[e,q]
def jS(h:Q d):tU Q (.rt d):=⟨d,rfl,h⟩
def AL{d:LD}(h:Q (.lst d)):tU Q (.rtO d):=⟨.lst d,rfl,h⟩
variable{g:MF1}
def GH{r:OD}(h:t ρ=aa b)(z:b=ac->f ρ=r)(q:b=ai->g ρ=r):vIf t f g ρ=r:=by
 unfold vIf;rw[h]
 cases b with
 |true=>exact z rfl
 |false=>exact q rfl
variable{i:Int}
def lK(h:0<j):il (.int i) (.int j)=aa (.int (i % j)):=wO h
def GI(h:sX i j):An (.int i) (.int j)=aa (.int (i / j)):=wO h
def mR(h:sY i j):jQ (.int i) (.int j)=aa (.int (i ^ j.toNat)):=wO h
def fX:bB (.int i) (.int j)=aa (.int (i+j)):=rfl
def tW:jP (.int i) (.int j)=aa (.int (i-j)):=rfl
def kW:dLt (.int i) (.int j)=aa (.bl (decide (i<j))):=rfl
def AM:dLe (.int i) (.int j)=aa (.bl (decide (i<=j))):=rfl
def oG:dGt (.int i) (.int j)=aa (.bl (decide (j<i))):=rfl
def lL{q:Type}(xs:List q)(f:q->D):dJ [.lst (xs.map f)]=aa (.int xs.length):=by
 show aa _=_;rw[cf]
def GJ{q:Type}(xs:List q)(f:q->D):dJ [.kl (xs.map f)]=aa (.int xs.length):=by
 show aa _=_;rw[cf]
def NL{q:Type}(f:q->D)(xs:List q)(lo hi:Option Int):on (xs.map f) lo hi=((xs.drop (HT.sIx xs.length 0 lo)).take (HT.sIx xs.length xs.length hi-HT.sIx xs.length 0 lo)).map f:=by
 unfold on;rw[cf,map_take,map_drop]
variable{lo hi:Option Int}
def qI{q:Type}{l h:LS->Option (Option Int)}{g:q->D}{xs:List q}(e:f ρ=aa (.lst (xs.map g)))(z:l ρ=aa lo)(B:h ρ=aa hi):mSl f l h ρ=aa (((xs.drop (HT.sIx xs.length 0 lo)).take (HT.sIx xs.length xs.length hi-HT.sIx xs.length 0 lo)).map g):=by
 unfold mSl;rw[e,aD];show(l ρ).bind _=_;rw[z,aD,B,<- NL];rfl
def GK{q:Type}(g:q->D)(d:q):∀(xs:List q),oE 0 (xs.map g)=(dG xs.length).map λi=>D.tup [.int (i:Nat),g (xs.getD i d)]:=λxs=>by
 refine ext_getElem? λi=>?_;rw[AJ,fL,fL]
 by_cases h:i<xs.length
 .rw[du h,List.getElem?_range h,vP];simp[h]
 .rw[sD (by lia),sD (by rw[ic];lia)];rfl
def NM{q:Type}{f:MF2}{g:q->D}{xs:List q}(d:q)(e:f ρ=aa [.lst (xs.map g)]):mO f ρ=aa ((dG xs.length).map λi=>D.tup [.int (i:Nat),g (xs.getD i d)]):=by
 unfold mO;rw[e,<- GK];rfl
abbrev kJ(J:LS->Prop)(o:Fl):Prop:=∃ρ',o=.nx ρ'/\J ρ'
def k_J{J:LS->Prop}(h:J ρ):kJ J (.nx ρ):=⟨ρ,rfl,h⟩
def jT{S:MF3}(J:LS->Prop)(h:wp S ρ (kJ J))(k:∀ρ',J ρ'->wp F ρ' K):wp (au S F) ρ K:=by
 apply ay;obtain⟨o,e,ρ',rfl,j⟩:=h;exact⟨_,e,k ρ' j⟩
def GL{i:Nat}(h:ρ[i]?=aa (.im d))(k:K (.rt d)):wp (iu i) ρ K:=⟨_,by unfold iu;rw[h],k⟩
def AN{i:Nat}{d:LD}(h:ρ[i]?=aa (.own d))(k:K (.rtO d)):wp (iu i) ρ K:=⟨_,by unfold iu;rw[h],k⟩
abbrev qJ(m q:D->D->OD)(f g h:MF1)(ρ:LS):OD:=(f ρ).bind λx=>(g ρ).bind λy=>(m x y).bind λz=>match z with
 |.bl ac=>(h ρ).bind λw=>q y w
 |.bl ai=>aa (.bl ai)
 | _=>ae
variable{m':D->D->OD}{h:MF1}
def NN(e:qJ m m' f g h ρ=aa d):∃x y b,f ρ=aa x/\g ρ=aa y/\m x y=aa (.bl b)/\(b=ai->d=.bl ai)/\(b=ac->∃w,h ρ=aa w/\m' y w=aa d):=by
 unfold qJ at e
 cases I:f ρ with
 |none=>rw[I]at e;nomatch e
 |some x=>
  cases L:g ρ with
  |none=>rw[I,L]at e;nomatch e
  |some y=>
   rw[I,L,aD,aD]at e
   cases B:m x y with
   |none=>rw[B]at e;nomatch e
   |some z=>
    rw[B,aD]at e
    cases z with
    |bl b=>
     cases b with
     |false=>
      exact⟨x,y,ai,rfl,rfl,B,λ_=>(dz e).symm,λq=>by nomatch q⟩
     |true=>
      cases M:h ρ with
      |none=>rw[M]at e;nomatch e
      |some w=>rw[M]at e;exact⟨x,y,ac,rfl,rfl,B,λq=>(by nomatch q),λ_=>⟨w,rfl,e⟩⟩
    | _=>nomatch e
def NO{b U:Expr}{B:CmpOp}(ho:OpD c X (eB op) m)(hs:∀x y d,m x y=aa d->d.scalar=ac)(ho':OpD c X (eB B) m')(hs':∀x y d,m' x y=aa d->d.scalar=ac)(ha:DB c X a f)(hb:DB c X b g)(hc:DB c X U h)
 (hm:lastMarks [op,B] [b,U]=ai:=by with_unfolding_all rfl):DE c X (.Compare a [op,B] [b,U] pos) (qJ m m' f g h):=PE.imp (L6 ho ho' ha hb hc hm) λσ H Q q_=>by
 obtain⟨Hf0,H0,Hf,ρ,d,st,ef,k⟩:=q_;obtain⟨x,y,T,e1,e2,e3,eF,eT⟩:=NN ef;refine⟨Hf0,H0,Hf,ρ,x,st,e1,λv dk H1 M r1=>⟨Hf0,H0,dk,ρ,y,st.step M,e2,λu d8 H2 L r2=>⟨H2,x,y,.bl T,aR.refl _,r1.up L.h,r2,e3,λz Hf3 H3 x3 r3=>⟨T,r3,?_⟩⟩⟩⟩;have I:=Ext.grow L.s x3.h
 cases T with
 |false=>
  exact k _ d8 H3 ((M.trans L).trans I) (by rw[eF rfl];rfl)
 |true=>
  obtain⟨w,e4,e5⟩:=eT rfl;exact⟨Hf0,H0,d8,ρ,w,((st.step (M.trans L)).step I),e4,λw' O H4 x4 r4=>⟨H4,y,w,d,aR.refl _,r2.up (x3.h.trans x4.h),r4,e5,λq Hf5 H5 x5 r5=>k _ O H5 (((M.trans L).trans I).trans (x4.trans (Ext.grow x4.s x5.h))) (r5.sc (hs' _ _ _ e5))⟩⟩
def NP{x y w:D}{q:Bool}(z:f ρ=aa x)(B:g ρ=aa y)(I:m x y=aa (.bl b))(L:h ρ=aa w)(M:m' y w=aa (.bl q)):qJ m m' f g h ρ=aa (.bl (b && q)):=by
 unfold qJ;rw[z,aD,B,aD,I,aD]
 cases b with
 |false=>rfl
 |true=>
  rw[L];exact M
def GM(h:k.natAbs<2 ^ n):vV k<=n:=by
 unfold vV;split
 .exact gB _
 .rename_i q;have:k.natAbs≠0:=λz=>q (by rw[Int.natAbs_eq_zero.mp z];rfl);exact(Nat.log2_lt this).mpr h
abbrev mS(i j:Int):Prop:=sZ i j\/(i.natAbs<2 ^ 200/\j.natAbs<2 ^ 200)
def mS.ok(h:mS i j):IntMulOk i j:=by
 rcases h with h |⟨h1,h2⟩
 .exact h.ok
 .have a:=GM h1;have b:=GM h2;unfold IntMulOk
  have:Builtin.Int.intTooBig (vV i+vV j)=ai:=by
   have c:400<=bitsLine:=by decide
   exact decide_eq_false (by lia)
  rw[this,Bool.and_false];exact cp
noncomputable instance {i j:Int}:Decidable (mS i j):=by unfold mS;infer_instance
@[reducible]noncomputable def lM:D->D->OD:=dI mS λi j=>.int (i*j)
def NQ:OpR X (gb .Mult) (rI mS λi j=>.int (i*j)):=opI λ_ _ _ _ _ _ _ z q=>mul_int q z.ok
def tX:OpD c X (gb .Mult) lM:=wt NQ λ_ _ _ _=>rfl
def qK(h:mS i j):lM (.int i) (.int j)=aa (.int (i*j)):=wO h
abbrev eI(H:Hp)(l:Addr):Hp:=λa=>if a=l then ae else H a
def tY:eI H l l=ae:=by unfold eI;rw[if_pos rfl]
def AO{a:Addr}(h:a≠l):eI H l a=H a:=by unfold eI;rw[if_neg h]
def AQ:aR (eI H l) H:=λa o e=>by
 by_cases h:a=l
 .subst h;rw[tY]at e;nomatch e
 .rw[AO h]at e;exact e
def tZ{F:Hp}(s:aR F H)(h:F l=ae):aR F (eI H l):=λa o e=>by
 rw[AO (gW e h)];exact s a o e
inductive tDX(G:Gc)(f:LS->Option (D×LS))(σ:St)(H:Hp)(Q:VK):Prop
 |mk:∀Hf0 H0 Hf ρ d ρ',aG G Hf0 H0 Hf H σ ρ->f ρ=aa (d,ρ')->(∀v Hf' H',aR Hf Hf'->aG G Hf0 H0 Hf' H' σ ρ'->Rep G Hf' d v->Q v H')->tDX G f σ H Q
abbrev DX(c:Str->Addr)(X:Cx)(e:Expr)(f:LS->Option (D×LS)):Prop:=PE X e (tDX (Gx c X) f)
inductive AS(G:Gc)(f:LS->Option (LD×LS))(σ:St)(H:Hp)(R:It->Hp->Prop):Prop
 |mk:∀Hf0 H0 Hf ρ ds ρ',aG G Hf0 H0 Hf H σ ρ->f ρ=aa (ds,ρ')->(∀J Hf' H',aR Hf Hf'->aG G Hf0 H0 Hf' H' σ ρ'->ot G Hf' J ds->R J H')->AS G f σ H R
abbrev DXi(c:Str->Addr)(X:Cx)(tg iter:Expr)(f:LS->Option (LD×LS)):Prop:=PI X tg iter (AS (Gx c X) f)
abbrev wR:LD->OD
 | [.int a,.int b]=>aa (.int (if b>a then b else a))
 | _=>ae
def NR(T:X.calm=ac):qG c X (.builtin "max") wR:=by
 rintro pins s σ H vs us Q I rv ⟨Hf,ds,d,s0,r,e,k⟩;unfold wR at e;split at e
 .rename_i a b;cases e;obtain⟨v1,vs1,rfl,L,v2,vs2,rfl,M,O⟩:=r;cases (O);cases (L);cases (M)
  cases rv with
  |cons U B=>
   cases B with
   |cons r2 B=>
    cases B;obtain⟨t,rfl⟩:=U;obtain⟨u,rfl⟩:=r2;refine PySem.max_two_ints (I.ok.hd T) λh' tk z=>?_;refine⟨.int _,H,I.kept z,?_,k _ Hf H (Ext.refl s0) rfl⟩
    by_cases q:b>a
    .rw[if_pos q,if_pos q];exact⟨u,rfl⟩
    .rw[if_neg q,if_neg q];exact⟨t,rfl⟩
 .nomatch e
abbrev spM(G:Gc)(n0 n:Nat)(m:Addr->LD->LD->LD->Option (LD×D)):Sp:=λvs H Q _=>∃Hf ds0 ds1 xs ys d l us vs0 vs1,vs=vs0++.ref l::vs1/\aR Hf H/\Hf l=ae/\H l=aa (.lst us)/\aF G Hf ds0 vs0/\aF G Hf ds1 vs1/\aF G Hf xs us/\ds0.length=n0/\ds0.length+1+ds1.length=n/\m l ds0 ds1 xs=aa (ys,d) /\
 ∀v Hf' H' q,Ext Hf (eI H l) Hf' H'->Hf' l=ae->H' l=aa (.lst q)->aF G Hf' ys q->Rep G Hf' d v->Q v H'
abbrev AT(N:Nat)(l:Addr)(ds0 ds1 xs:LD):LS:=(iy N (ds0++.non::ds1)).set ds0.length (.pin l xs)
open Classical in
abbrev jU(l:Addr)(i:Nat)(ρ:LS):OLD:=match ρ[i]? with
 |some (.pin l' ys)=>if l'=l then aa ys else ae
 | _=>ae
variable{i:Nat}
def GN(h:jU l i ρ=aa ys):ρ[i]?=aa (.pin l ys):=by
 unfold jU at h;split at h
 .rename_i z zs e;split at h
  .rename_i q;cases h;rw[e,q]
  .nomatch h
 .nomatch h
abbrev dO(N:Nat)(F:MF3)(l:Addr)(ds0 ds1 xs:LD):Option (LD×D):=(F (AT N l ds0 ds1 xs)).bind λo=>match o with
 |.nx ρ=>(jU l ds0.length ρ).map λys=>(ys,.non)
 |.rtS d ρ=>(jU l ds0.length ρ).map λys=>(ys,d)
 | _=>ae
variable{vs0 vs1:List V}
def NS:(L2.start N (vs0++.non::vs1)).set vs0.length (aa (.ref l))=L2.start N (vs0++.ref l::vs1):=by
 unfold L2.start;simp[set_append]
variable{ds0 ds1:LD}
def aG.startM(B:aR Hf H)(q:Hf l=ae)(I:H l=aa (.lst us))(z:aF G Hf ds0 vs0)(L:aF G Hf ds1 vs1)(M:aF G Hf xs us):
  aG G Hf (eI H l) Hf H (L2.start N (vs0++.ref l::vs1)) (AT N.length l ds0 ds1 xs):=by
 have:=(aG.start (N:=N) (tZ B q) (z.append (.cons (d:=.non) rfl L))).setOwn (i:=ds0.length) (s:=.pin l xs) rfl (Ext.grow (tZ B q) AQ) tY q ⟨rfl,us,I,M⟩;rw[z.length,NS,<- z.length]at this;exact this
variable{K:bo}{k n0:Nat}
def eO{w:World}{f:Addr}(Fn:Fun K x qual st f fd)(S:aX N ps (aK st))
 (h:∀(cdv:Value) (A:dL) (outer:List Env) (s:ax) (H:Hp) (E:XK),bT k (A.deeper (gC qual (aK st) s.heap.objs.size f cdv))->DSs c (gF CX0 P w K mg base N qual (aK st) f cdv A outer s H E).nox (iV st) F)(U:N.length=n_:=by rfl):
  dH P w K mg base CX0 (k+1) f fd ps (spM ⟨K,c⟩ n0 ps.length (dO n_ F)):=by
 subst U;refine Fn.ok S (λvs H Q E q_=>by obtain⟨Hf,ds0,ds1,xs,ys,d,l,us,vs0,vs1,T,s0,hf,hu,r0,r1,rx,hn,hl,_⟩:=q_;rw[T,aO,aQ,<- r0.length,<- r1.length];lia) λcdv A outer s H vs Q E hr q_=>?_;obtain⟨Hf,ds0,ds1,xs,ys,d,l,us,vs0,vs1,T,s0,hf,hu,r0,r1,rx,hn,hl,e,kq⟩:=q_;refine⟨_,h cdv A outer s H E hr,?_⟩;subst T;unfold dO at e
 cases O:F _ with
 |none=>rw[O]at e;nomatch e
 |some o=>
  rw[O,aD]at e;refine⟨Hf,eI H l,Hf,_,o,aG.startM s0 hf hu r0 r1 rx,O,?_⟩
  cases o with
  |nx ρ=>
   replace e:(jU l ds0.length ρ).map _=aa _:=e
   cases q:jU l ds0.length ρ with
   |none=>rw[q]at e;nomatch e
   |some zs=>
    rw[q]at e;cases e;intro σ' Hf' H' _ so;obtain⟨l',e1,h0,z,M,L,B,I⟩:=so.ownAt rfl (GN q);subst M
    exact kq .non Hf' H' L so.ext z B I rfl
  |rtS d' ρ=>
   replace e:(jU l ds0.length ρ).map _=aa _:=e
   cases q:jU l ds0.length ρ with
   |none=>rw[q]at e;nomatch e
   |some zs=>
    rw[q]at e;cases e;intro v σ' Hf' H' so r;obtain⟨l',e1,h0,z,M,L,B,I⟩:=so.ownAt rfl (GN q);subst M
    exact kq v Hf' H' L so.ext z B I r
  | _=>nomatch e
variable{s:Sl}
def aG.giveS(I:s.isOwn=ac)(h:aG G Hf0 H0 Hf H σ ρ)(e:ρ[i]?=aa s)(z:σ[i]?=aa (aa (.ref l))):aG G Hf0 H0 Hf (eI H l) σ (ρ.set i .no):=by
 refine h.chg e z (λb u B=>?_) trivial λa p=>(p.calm rfl).elim
 by_cases q:b=l
 .subst q;exact .inl ((Holds.own I).mpr rfl)
 .exact .inr (by rw[AO q];exact B)
variable{s':Sl}
def aG.back(O:s.isOwn=ac)(z:s'.isOwn=ac)(h:aG G Hf0 H0 Hf H σ ρ)(e:ρ[i]?=aa s)(q:σ[i]?=aa (aa (.ref l)))(x:Ext Hf (eI H l) Hf' H')(L:Hf' l=ae)(M:jk G Hf' H' l s'):aG G Hf0 H0 Hf' H' σ (ρ.set i s'):=by
 have:=(h.giveS O e q).setOwn (i:=i) z x tY L M;rw[set_set]at this
 have I:σ.set i (aa (.ref l))=σ:=by
  apply ext_getElem?;intro j
  by_cases B:i=j
  .subst B;rw[gT (cV.mp q).1,q]
  .rw[ib B]
 rw[I]at this;exact this
inductive GO(G:Gc)(i:Nat)(f:LS->Option (LD×LD))(σ:St)(H:Hp)(Q:List V->Hp->Prop):Prop
 |mk:∀Hf0 H0 Hf ρ ds0 ds1 l,aG G Hf0 H0 Hf H σ ρ->σ[i]?=aa (aa (.ref l))->f ρ=aa (ds0,ds1)->(∀vs0 vs1 Hf' H',Ext Hf H Hf' H'->aF G Hf' ds0 vs0->aF G Hf' ds1 vs1->Q (vs0++.ref l::vs1) H')->GO G i f σ H Q
structure DAM(c:Str->Addr)(X:Cx)(es:LEx)(i n0:Nat)(f:LS->Option (LD×LD)):Prop where
 pa:PA X es (GO (Gx c X) i f)
 len:∀ρ p,f ρ=aa p->p.1.length=n0/\p.1.length+1+p.2.length=es.length
abbrev jq(g:MF2)(ρ:LS):Option (LD×LD):=(g ρ).map λds=>([],ds)
abbrev jr(f:MF1)(g:LS->Option (LD×LD))(ρ:LS):Option (LD×LD):=(f ρ).bind λd=>(g ρ).map λp=>(d::p.1,p.2)
def GP{g:LS->Option (LD×LD)}{p:LD×LD}(h:jr f g ρ=aa p):∃d r,f ρ=aa d/\g ρ=aa r/\p=(d::r.1,r.2):=by
 unfold jr at h
 cases q:f ρ with
 |none=>rw[q]at h;nomatch h
 |some d=>
  cases z:g ρ with
  |none=>rw[q,z]at h;nomatch h
  |some r=>rw[q,z]at h;cases h;exact⟨d,r,rfl,rfl,rfl⟩
def NT{g:MF2}(h:PE X e (df i))(B:DA c X es g)(L:StE X e es:=by rfl):DAM c X (e::es) i 0 (jq g):=
 ⟨PA.imp (bW h B.pa L) λσ H Q M=>by
  obtain⟨Hf0,H0,Hf,ρ,ds0,ds1,l,st,I,z,k⟩:=M;unfold jq at z
  cases q:g ρ with
  |none=>rw[q]at z;nomatch z
  |some ds=>
   rw[q]at z;cases z
   exact⟨_,I,Hf0,H0,Hf,ρ,ds1,st,q,λvs Hf' H' x r=>k [] vs Hf' H' x rfl r⟩,λρ p h=>by
  unfold jq at h
  cases q:g ρ with
  |none=>rw[q]at h;nomatch h
  |some ds=>
   rw[q]at h;cases h;refine⟨rfl,?_⟩;rw[aQ,<- B.len ρ ds q];show 0+1+ds.length=_;lia⟩
def wS(i:Nat){g:MF2}(B:DA c X es g)(z:X.N[i]?=aa x:=by rfl)(L:Vis X.env.scope x:=by first |exact bV rfl |exact bA (bV rfl) |exact bA (bA rfl))(hd:NDb x:=by decide)
 (q:NCd x:=by decide)(I:bf (.Name x pos::es) X.env=(ai,eval (.Name x pos) X.env)::bf es X.env:=by rfl):DAM c X (.Name x pos::es) i 0 (jq g):=NT (ku z L hd q) B I
def wT{g:LS->Option (LD×LD)}(ha:DE c X e f)(B:DAM c X es i n0 g)(hs:StE X e es:=by rfl):DAM c X (e::es) i (n0+1) (jr f g):=by
 refine⟨PA.imp (bW ha B.pa hs) λσ H Q q_=>?_,λρ p h=>?_⟩
 .obtain⟨Hf0,H0,Hf,ρ,ds0,ds1,l,st,T,O,k⟩:=q_;obtain⟨d,r,z,q,M⟩:=GP O;cases M;exact⟨Hf0,H0,Hf,ρ,d,st,z,λv dk H1 I r1=>⟨Hf0,H0,dk,ρ,r.1,r.2,l,st.step I,T,q,λvs0 vs1 d8 H2 L r2 r3=>k _ vs1 d8 H2 (I.trans L) (.cons (r1.up L.f) r2) r3⟩⟩
 .obtain⟨d,r,z,q,rfl⟩:=GP h;obtain⟨U,h2⟩:=B.len ρ r q;refine⟨by show r.1.length+1=_;rw[U],?_⟩;show(r.1.length+1)+1+r.2.length=_;rw[aQ];lia
abbrev AU(i:Nat)(m:Addr->LD->LD->LD->Option (LD×D))(f:LS->Option (LD×LD))(ρ:LS):Option (D×LS):=match ρ[i]? with
 |some (.pin l xs)=>(f ρ).bind λp=>(m l p.1 p.2 xs).map λq=>(q.2,ρ.set i (.pin l q.1))
 | _=>ae
open Classical in
abbrev kX(i:Nat)(m:Addr->LD->LD->LD->Option (LD×D))(f:LS->Option (LD×LD))(ρ:LS):Option (D×LS):=match ρ[i]? with
 |some (.own xs)=>(f ρ).bind λp=>if h:∃q,∀l,m l p.1 p.2 xs=aa q then aa (h.choose.2,ρ.set i (.own h.choose.1)) else ae
 | _=>ae
variable{f:Addr}{fa:LS->Option (LD×LD)}{m:Addr->LD->LD->LD->Option (LD×D)}
def NU(pk:Pk X.prog X.w X.K X.mg X.base CX0 k x (f,fd) ps (spM (Gx c X) n0 ps.length m))(n3:bT k0 X.A)(ha:DAM c X (e::es) i n0 fa)(hl:(e::es).length=ps.length:=by rfl)(ri:NDb x:=by decide)(he:StE X e es:=by rfl)(hX:BkE X pos es:=by rfl)(hk0:k<=k0:=by decide)(hg:Gl X x:=by first |rfl |exact glc rfl):
  DX c X (.Call (.Name x p) (e::es) [] pos) (AU i m fa):=PE.imp (mz pk.ok (n3.mono hk0) hg pk.g pk.kp pk.b .nil jj ha.pa ri he hX) λσ H Q q_=>by
 obtain⟨Hf0,H0,Hf,ρ,d,ρ',st,z,kq⟩:=q_;unfold AU at z;split at z
 .rename_i l xs T
  cases I:fa ρ with
  |none=>rw[I]at z;nomatch z
  |some pp=>
   rw[I,aD]at z
   cases M:m l pp.1 pp.2 xs with
   |none=>rw[M]at z;nomatch z
   |some q=>
    rw[M]at z;cases z;obtain⟨l',el,h0,hf,eq,us,hu,rx⟩:=st.ownAt rfl T;subst eq;refine⟨Hf0,H0,Hf,ρ,pp.1,pp.2,l',st,el,I,λvs0 vs1 Hf' H' x r0 r1=>?_⟩;rw[cM];have B:=st.step x;obtain⟨l2,O,h02,g7,U,hO,g8,hI⟩:=B.ownAt rfl T;subst U;obtain⟨n1,n2⟩:=ha.len ρ pp I;exact⟨Hf',pp.1,pp.2,xs,q.1,q.2,l2,hO,vs0,vs1,rfl,x.s,g7,g8,r0,r1,hI,n1,n2.trans hl,M,λv L H3 kT x3 ko ky kF r3=>kq v L H3 (x.f.trans x3.f) (B.back rfl rfl T O x3 ko ⟨rfl,kT,ky,kF⟩) r3⟩
 .nomatch z
def AV(pk:Pk X.prog X.w X.K X.mg X.base CX0 k x (f,fd) ps (spM (Gx c X) n0 ps.length m))(n3:bT k0 X.A)(ha:DAM c X (e::es) i n0 fa)(hl:(e::es).length=ps.length:=by rfl)(U:NDb x:=by decide)(he:StE X e es:=by rfl)(hX:BkE X pos es:=by rfl)(hk0:k<=k0:=by decide)(hg:Gl X x:=by first |rfl |exact glc rfl):
  DX c X (.Call (.Name x p) (e::es) [] pos) (kX i m fa):=PE.imp (mz pk.ok (n3.mono hk0) hg pk.g pk.kp pk.b .nil jj ha.pa U he hX) λσ H Q q_=>by
 obtain⟨Hf0,H0,Hf,ρ,d,ρ',st,z,kq⟩:=q_;unfold kX at z;split at z
 .rename_i xs T
  cases L:fa ρ with
  |none=>rw[L]at z;nomatch z
  |some pp=>
   rw[L,aD]at z;split at z
   .rename_i hq;have e2:=hq.choose_spec;generalize hq.choose=q at z e2;cases z;obtain⟨l',O,h0,hf,us,hu,rx⟩:=st.ownAt rfl T;refine⟨Hf0,H0,Hf,ρ,pp.1,pp.2,l',st,O,L,λvs0 vs1 Hf' H' x r0 r1=>?_⟩;rw[cM];have I:=st.step x;obtain⟨l2,B,h02,g7,hO,g8,hI⟩:=I.ownAt rfl T;rw[O]at B;cases B;obtain⟨n1,n2⟩:=ha.len ρ pp L;exact⟨Hf',pp.1,pp.2,xs,q.1,q.2,l',hO,vs0,vs1,rfl,x.s,g7,g8,r0,r1,hI,n1,n2.trans hl,e2 l',λv M H3 kT x3 ko ky kF r3=>kq v M H3 (x.f.trans x3.f) (I.back rfl rfl T O x3 ko ⟨kT,ky,kF⟩) r3⟩
   .nomatch z
 .nomatch z
abbrev fJ(f:LS->Option (D×LS))(ρ:LS):Option Fl:=(f ρ).map λp=>.nx p.2
def i6{f:LS->Option (D×LS)}(I:DX c X e f)(L:eZ e ae pos.line X.env=pure ai:=by rfl):DS c X (.Expr e pos) (fJ f):=PS.imp (dR I L) λE σ H M=>by
 obtain⟨Hf0,H0,Hf,ρ,o,so,q,k⟩:=M;unfold fJ at q
 cases z:f ρ with
 |none=>rw[z]at q;nomatch q
 |some p=>
  rw[z]at q;cases q;exact⟨Hf0,H0,Hf,ρ,p.1,p.2,so,z,λv Hf' H' s B r=>k σ Hf' H' s B⟩
abbrev wU(i:Nat)(ρ:LS):OLD:=match ρ[i]? with
 |some (.pin _ xs)=>aa xs
 | _=>ae
def GQ(i:Nat)(L:X.N[i]?=aa x:=by rfl)(M:Vis X.env.scope x:=by first |exact bV rfl |exact bA (bV rfl) |exact bA (bA rfl))(hd:NDb x:=by decide)
 (B:NCd x:=by decide):DC c X (.Name x pos) (wU i):=PE.imp (ku L M hd B) λσ H Q T=>by
 obtain⟨Hf0,H0,Hf,ρ,d,st,z,k⟩:=T;unfold wU at z;split at z
 .rename_i l xs es;cases z;obtain⟨O,I,_,_,_,vs,q,r⟩:=st.ownAt rfl es;exact⟨_,I,k O vs Hf H (Ext.refl st.sub) (.inl (SqL.of q)) r⟩
 .nomatch z
def AW{f:LS->Option (LD×LD)}(h:ρ[i]?=aa (.own xs))(B:f ρ=aa (ds0,ds1))(z:∀l,m l ds0 ds1 xs=aa (ys,d)):kX i m f ρ=aa (d,ρ.set i (.own ys)):=by
 unfold kX;rw[h];show(f ρ).bind _=_;rw[B,aD,dif_pos ⟨_,z⟩]
 have e:(⟨_,z⟩:∃q,∀l,m l ds0 ds1 xs=aa q).choose=(ys,d):=by
  have:=(⟨_,z⟩:∃q,∀l,m l ds0 ds1 xs=aa q).choose_spec 0;rw[z 0]at this;exact(dz this).symm
 rw[e]
variable{K:Fl->Prop}
def oH{f:LS->Option (D×LS)}(h:f ρ=aa (d,ρ'))(k:K (.nx ρ')):wp (fJ f) ρ K:=⟨_,by unfold fJ;rw[h];rfl,k⟩
variable{f:MF1}
def cS(h:f ρ=aa d)(k:K (.rtS d ρ)):wp (cB f) ρ K:=⟨_,by unfold cB;rw[h];rfl,k⟩
def NV(h:ρ[i]?=aa (.pin l ys)):jU l i ρ=aa ys:=by
 unfold jU;rw[h];exact if_pos rfl
def eQ{N:Nat}(h:F (AT N l ds0 ds1 xs)=aa (.rtS d ρ))(h':ρ[ds0.length]?=aa (.pin l ys)):dO N F l ds0 ds1 xs=aa (ys,d):=by
 unfold dO;rw[h,aD];show(jU l ds0.length ρ).map _=_;rw[NV h'];rfl
abbrev qL:D->OD
 |.bl b=>aa (.int (if b then 1 else 0))
 | _=>ae
abbrev oI(f:MF1)(ρ:LS):OD:=(f ρ).bind qL
abbrev NW(te:TE):TE:=λσ H Q=>te σ H λx H1=>∃b,x=.bl b/\Q (.int (if b then 1 else 0)) H1
def NX:iP "int"=aa (.type "int"):=by decide +kernel
def GR(T:Gl X "int")(U:X.mg "int"=ae)(O:PE X e te)(B:bf [e] X.env=(ai,eval e X.env)::bf [] X.env:=by rfl)(z:(eD pos (bf [] X.env)).any (·.1)=ai:=by rfl):
  PE X (.Call (.Name "int" p) [e] [] pos) (NW te):=by
 intro pins s σ H Q I h;refine qk (qr I T U NX ?_);refine vQ ?_ B z;rw[B];refine vW (thn (O pins s σ H _ I h) λu s1 q_=>?_);obtain⟨x,H1,L,r1,b,M,q⟩:=q_;subst M;subst r1;exact eH (call_int_bool ⟨.int _,H1,L.tok _,⟨_,rfl⟩,q⟩)
def AX(M:Gl X "int")(O:X.mg "int"=ae)(L:DE c X e f)(I:bf [e] X.env=(ai,eval e X.env)::bf [] X.env:=by rfl)(B:(eD pos (bf [] X.env)).any (·.1)=ai:=by rfl):DE c X (.Call (.Name "int" p) [e] [] pos) (oI f):=
 PE.imp (GR M O L I B) λσ H Q T=>by
  obtain⟨Hf0,H0,Hf,ρ,U,st,q,k⟩:=T;unfold oI at q
  cases z:f ρ with
  |none=>rw[z]at q;nomatch q
  |some d=>
   rw[z,aD]at q;unfold qL at q;split at q
   .rename_i b;cases q;refine⟨Hf0,H0,Hf,ρ,_,st,z,λv Hf' H' x r=>⟨b,r,k _ Hf' H' x rfl⟩⟩
   .nomatch q
abbrev qN(i:Nat)(fk fv:MF1)(ρ:LS):Option Fl:=(fv ρ).bind λd=>(fk ρ).bind λx=>match x with
 | .int k=>(match ρ[i]? with
  |some (.pin l xs)=>(ixN xs.length k).map λj=>.nx (ρ.set i (.pin l (xs.set j d)))
  | _=>ae)
 | _=>ae
def NY(hp:PS X st (nY (tD (Gx c X) fv) (zZ (df i) (tD (Gx c X) fk) Ac))):DS c X st (qN i fk fv):=PS.imp hp λE σ H q_=>by
 obtain⟨Hf0,H0,Hf,ρ,o,so,z,k⟩:=q_;unfold qN at z
 cases M:fv ρ with
 |none=>rw[M]at z;nomatch z
 |some d=>
  rw[M]at z
  cases O:fk ρ with
  |none=>rw[O]at z;nomatch z
  |some x=>
   rw[O]at z
   obtain⟨I,rfl⟩:∃I,x=.int I:=by cases x <;> first |exact⟨_,rfl⟩ |nomatch z
   replace z:(match ρ[i]? with |some (.pin l xs)=>(ixN xs.length I).map λj=>Fl.nx _ | _=>ae)=aa o:=z
   split at z
   .rename_i l0 xs es
    cases T:ixN xs.length I with
    |none=>rw[T]at z;nomatch z
    |some j=>
     rw[T]at z;cases z;refine⟨Hf0,H0,Hf,ρ,d,so,M,λv dk H1 x1 r1=>?_⟩;have B:=so.step x1;obtain⟨l,U,h0,hf,eq,vs,q,r⟩:=B.ownAt rfl es;subst eq;refine⟨_,U,Hf0,H0,dk,ρ,.int I,B,O,λy d8 H2 L r2=>?_⟩;exact⟨l,vs,I,j,rfl,r2,(L.h _ _ q),by rw[<- r.length];exact T,(k σ d8 _ (x1.f.trans L.f) ((B.step L).mutd rfl rfl es U ⟨rfl,vs.set j v,cz,(r.up L.f).set j (r1.up L.f)⟩))⟩
   .nomatch z
def NZ(I:PE X e (df i))(B:DE c X i' fk)(M:DE c X value fv)(L:swapsWithSole [.Subscript e i' ey] value pos.line X.env=pure ai:=by rfl)(O:swappedStores [.Subscript e i' ey] value X.env=pure ae:=by rfl)
 (q:(jf [.Subscript e i' ey] X.env).map (·.2)=[assign (.Subscript e i' ey) X.env]:=by rfl)
 (z:∀ v,assign (.Subscript e i' ey) X.env v=(do
   let ov <- fP [v] (eval e X.env)
   let iv <- fP [v,ov] (eval i' X.env)
   ij ey
   fP [v,ov,iv] (setItem ov iv v)
   release [v,ov,iv] []):=by intro _;rfl):
  DS c X (.Assign [.Subscript e i' ey] value pos) (qN i fk fv):=NY (Fc M (Fb I B FL z) L O q)
def N0{k:Int}(L:fv ρ=aa d)(I:fk ρ=aa (.int k))(h':ρ[i]?=aa (.pin l xs))(z:0<=k)(B:k<xs.length)(q:K (.nx (ρ.set i (.pin l (xs.set k.toNat d))))):wp (qN i fk fv) ρ K:=⟨_,by
 unfold qN;rw[L,aD,I,aD,h'];show(ixN xs.length k).map _=_;unfold ixN;rw[if_pos z,if_pos B];rfl,q⟩
@[reducible]noncomputable def Xe:=LS->Option (D×LS)
@[reducible]noncomputable def Xa:=LS->Option (LD×LS)
@[reducible]noncomputable def Xt:=LS->Option (Bool×LS)
abbrev mX(f:MF1):Xe:=λρ=>(f ρ).map λd=>(d,ρ)
abbrev mX2(m:D->D->OD)(f g:Xe):Xe:=λρ=>(f ρ).bind λp=>(g p.2).bind λq=>(m p.1 q.1).map λd=>(d,q.2)
abbrev af:Xa:=λρ=>aa ([],ρ)
abbrev ag(f:Xe)(g:Xa):Xa:=λρ=>(f ρ).bind λp=>(g p.2).map λq=>(p.1::q.1,q.2)
abbrev cc(f:Xa):Xe:=λρ=>(f ρ).map λp=>(.tup p.1,p.2)
abbrev dT(f:Xa):Xe:=λρ=>(f ρ).map λp=>(.lst p.1,p.2)
abbrev eR(m:LD->OD)(f:Xa):Xe:=λρ=>(f ρ).bind λp=>(m p.1).map λd=>(d,p.2)
def N1(h:mX f ρ=aa (d,ρ')):f ρ=aa d/\ρ'=ρ:=by
 unfold mX at h
 cases e:f ρ with
 |none=>rw[e]at h;nomatch h
 |some q=>rw[e]at h;cases h;exact⟨rfl,rfl⟩
def ua{m:D->D->OD}{f g:Xe}(h:mX2 m f g ρ=aa (d,ρ')):∃x y ρ1,f ρ=aa (x,ρ1)/\g ρ1=aa (y,ρ')/\m x y=aa d:=by
 unfold mX2 at h
 cases L:f ρ with
 |none=>rw[L]at h;nomatch h
 |some p=>
  rw[L,aD]at h
  cases B:g p.2 with
  |none=>rw[B]at h;nomatch h
  |some q=>
   rw[B,aD]at h
   cases I:m p.1 q.1 with
   |none=>rw[I]at h;nomatch h
   |some z=>rw[I]at h;cases h;exact⟨p.1,q.1,p.2,rfl,B,I⟩
def wV{f:Xe}{g:Xa}(h:ag f g ρ=aa (ds,ρ')):∃d r ρ1,f ρ=aa (d,ρ1)/\g ρ1=aa (r,ρ')/\ds=d::r:=by
 unfold ag at h
 cases B:f ρ with
 |none=>rw[B]at h;nomatch h
 |some p=>
  rw[B,aD]at h
  cases z:g p.2 with
  |none=>rw[z]at h;nomatch h
  |some q=>rw[z]at h;cases h;exact⟨p.1,q.1,p.2,rfl,z,rfl⟩
inductive oJ(G:Gc)(f:Xa)(σ:St)(H:Hp)(Q:List V->Hp->Prop):Prop
 |mk:∀Hf0 H0 Hf ρ ds ρ',aG G Hf0 H0 Hf H σ ρ->f ρ=aa (ds,ρ')->(∀vs Hf' H',aR Hf Hf'->aG G Hf0 H0 Hf' H' σ ρ'->aF G Hf' ds vs->Q vs H')->oJ G f σ H Q
structure DAX(c:Str->Addr)(X:Cx)(es:LEx)(f:Xa):Prop where
 pa:PA X es (oJ (Gx c X) f)
 len:∀ρ ds ρ',f ρ=aa (ds,ρ')->ds.length=es.length
inductive AY(G:Gc)(f:Xt)(σ:St)(H:Hp)(Q:Bool->Hp->Prop):Prop
 |mk:∀Hf0 H0 Hf ρ b ρ',aG G Hf0 H0 Hf H σ ρ->f ρ=aa (b,ρ')->(∀Hf' H',aR Hf Hf'->aG G Hf0 H0 Hf' H' σ ρ'->Q b H')->AY G f σ H Q
abbrev DTX(c:Str->Addr)(X:Cx)(e:Expr)(f:Xt):Prop:=PT X e (AY (Gx c X) f)
def DE.dx(h:DE c X e f):DX c X e (mX f):=PE.imp h λσ H Q B=>by
 obtain⟨Hf0,H0,Hf,ρ,d,ρ',st,z,k⟩:=B;obtain⟨q,rfl⟩:=N1 z;exact⟨Hf0,H0,Hf,_,d,st,q,λv Hf' H' x r=>k v Hf' H' x.f (st.step x) r⟩
variable{b:Expr}
def cY{op:Operator}{m:D->D->OD}{f g:Xe}(ho:OpD c X (gb op) m)(ha:DX c X a f)(hb:DX c X b g):DX c X (.BinOp a op b pos) (mX2 m f g):=PE.imp (v9 ho ha hb) λσ H Q q_=>by
 obtain⟨Hf0,H0,Hf,ρ,d,ρ',st,ef,k⟩:=q_;obtain⟨x,y,ρ1,O,T,U⟩:=ua ef;exact⟨Hf0,H0,Hf,ρ,x,ρ1,st,O,λv dk H1 f1 B r1=>⟨Hf0,H0,dk,ρ1,y,ρ',B,T,λu d8 H2 I q r2=>⟨d8,x,y,d,q.sub,r1.up I,r2,U,λw z M L r3=>k w z M ((f1.trans I).trans L.f) (q.step L) r3⟩⟩⟩
def ao:DAX c X [] af:=⟨PA.imp cN λσ H Q z=>by obtain⟨Hf0,H0,Hf,ρ,ds,ρ',st,q,k⟩:=z;cases q;exact k [] Hf H (aR.refl _) st rfl,λρ ds ρ' h=>by cases h;rfl⟩
def ak{f:Xe}{g:Xa}(U:DX c X e f)(M:DAX c X es g)(hs:StE X e es:=by rfl):DAX c X (e::es) (ag f g):=by
 refine⟨PA.imp (bW U M.pa hs) λσ H Q q_=>?_,λρ ds ρ' h=>?_⟩
 .obtain⟨Hf0,H0,Hf,ρ,ds,ρ',st,O,k⟩:=q_;obtain⟨d,r,ρ1,I,q,rfl⟩:=wV O;exact⟨Hf0,H0,Hf,ρ,d,ρ1,st,I,λv dk H1 T z r1=>⟨Hf0,H0,dk,ρ1,r,ρ',z,q,λvs d8 H2 L B r2=>k _ d8 H2 (T.trans L) B (.cons (r1.up L) r2)⟩⟩
 .obtain⟨d,r,ρ1,I,q,rfl⟩:=wV h;simp[M.len ρ1 r ρ' q]
def cZ{f:Xa}(h:DAX c X es f)(O:es.length<=1000:=by exact sF rfl):DX c X (.Tuple es k' pos) (cc f):=PE.imp (wc h.pa) λσ H Q T=>by
 obtain⟨Hf0,H0,Hf,ρ,d,ρ',st,B,k⟩:=T;unfold cc at B
 cases I:f ρ with
 |none=>rw[I]at B;nomatch B
 |some q=>
  obtain⟨ds,ρ1⟩:=q;rw[I]at B;cases B;refine⟨Hf0,H0,Hf,ρ,ds,_,st,I,λvs Hf' H' M z r=>⟨?_,λq L=>(k _ _ _ (M.trans (dN (z.sub.free L))) (z.step (Ext.new z.sub L)) ⟨q,vs,rfl,cz,r.up (dN (z.sub.free L))⟩)⟩⟩;rw[<- r.length,h.len ρ ds _ I];exact mi (tE O)
def kZ{f:Xa}(h:DAX c X es f)(O:es.length<=1000:=by exact sF rfl):DX c X (.List es pos) (dT f):=PE.imp (tm h.pa) λσ H Q T=>by
 obtain⟨Hf0,H0,Hf,ρ,d,ρ',st,B,k⟩:=T;unfold dT at B
 cases I:f ρ with
 |none=>rw[I]at B;nomatch B
 |some q=>
  obtain⟨ds,ρ1⟩:=q;rw[I]at B;cases B;refine⟨Hf0,H0,Hf,ρ,ds,_,st,I,λvs Hf' H' M z r=>⟨?_,λq L=>(k _ _ _ (M.trans (dN (z.sub.free L))) (z.step (Ext.new z.sub L)) ⟨q,vs,rfl,cz,r.up (dN (z.sub.free L))⟩)⟩⟩;rw[<- r.length,h.len ρ ds _ I];exact mi (tE O)
variable{f:Addr}{fa:Xa}
def oK{m:LD->OD}(pk:Pk X.prog X.w X.K X.mg X.base CX0 k x (f,fd) ps (spD (Gx c X) ps.length m))(n3:bT k0 X.A)(ha:DAX c X (e::es) fa)(hl:(e::es).length=ps.length:=by rfl)(O:NDb x:=by decide)(he:StE X e es:=by rfl)(U:BkE X pos es:=by rfl)(T:k<=k0:=by decide)(hg:Gl X x:=by first |rfl |exact glc rfl):
  DX c X (.Call (.Name x p) (e::es) [] pos) (eR m fa):=PE.imp (mz pk.ok (n3.mono T) hg pk.g pk.kp pk.b .nil jj ha.pa O he U) λσ H Q q_=>by
 obtain⟨Hf0,H0,Hf,ρ,d,ρ',st,B,kq⟩:=q_;unfold eR at B
 cases L:fa ρ with
 |none=>rw[L]at B;nomatch B
 |some q=>
  obtain⟨ds,ρ1⟩:=q;rw[L,aD]at B
  cases M:m ds with
  |none=>rw[M]at B;nomatch B
  |some z=>
   rw[M]at B;cases B;refine⟨Hf0,H0,Hf,ρ,ds,_,st,L,λvs Hf' H' f1 I r=>?_⟩;rw[cM];exact⟨Hf',ds,_,I.sub,r,(ha.len ρ ds _ L).trans hl,M,λv d8 H2 x2 r2=>kq v d8 H2 (f1.trans x2.f) (I.step x2) r2⟩
inductive tMX(G:Gc)(i:Nat)(f:Xa)(σ:St)(H:Hp)(Q:List V->Hp->Prop):Prop
 |mk:∀Hf0 H0 Hf ρ ds ρ' l,aG G Hf0 H0 Hf H σ ρ->σ[i]?=aa (aa (.ref l))->f ρ=aa (ds,ρ')->(∀vs Hf' H',aR Hf Hf'->aG G Hf0 H0 Hf' H' σ ρ'->aF G Hf' ds vs->Q (.ref l::vs) H')->tMX G i f σ H Q
structure DMX(c:Str->Addr)(X:Cx)(es:LEx)(i:Nat)(f:Xa):Prop where
 pa:PA X es (tMX (Gx c X) i f)
 len:∀ρ ds ρ',f ρ=aa (ds,ρ')->ds.length+1=es.length
abbrev aE(i:Nat)(m:Addr->LD->LD->LD->Option (LD×D))(f:Xa):Xe:=λρ=>match ρ[i]? with
 |some (.pin _ _)=>(f ρ).bind λp=>match p.2[i]? with
  |some (.pin l xs)=>(m l [] p.1 xs).map λq=>(q.2,p.2.set i (.pin l q.1))
  | _=>ae
 | _=>ae
open Classical in
abbrev lN(i:Nat)(m:Addr->LD->LD->LD->Option (LD×D))(f:Xa):Xe:=λρ=>match ρ[i]? with
 |some (.own _)=>(f ρ).bind λp=>match p.2[i]? with
  |some (.own xs)=>if h:∃q,∀l,m l [] p.1 xs=aa q then aa (h.choose.2,p.2.set i (.own h.choose.1)) else ae
  | _=>ae
 | _=>ae
def aN(i:Nat){g:Xa}(B:DAX c X es g)(O:X.N[i]?=aa x:=by rfl)(U:Vis X.env.scope x:=by first |exact bV rfl |exact bA (bV rfl) |exact bA (bA rfl))(hd:NDb x:=by decide)
 (q:NCd x:=by decide)(T:bf (.Name x pos::es) X.env=(ai,eval (.Name x pos) X.env)::bf es X.env:=by rfl):DMX c X (.Name x pos::es) i g:=
 ⟨PA.imp (bW (ku O U hd q) B.pa T) λσ H Q ⟨Hf0,H0,Hf,ρ,ds,ρ',l,st,L,I,k⟩=>⟨_,L,Hf0,H0,Hf,ρ,ds,ρ',st,I,λvs Hf' H' M z r=>k vs Hf' H' M z r⟩,λρ ds ρ' h=>by
  rw[aQ,B.len ρ ds ρ' h]⟩
def aJ(pk:Pk X.prog X.w X.K X.mg X.base CX0 k x (f,fd) ps (spM (Gx c X) 0 ps.length m))(n3:bT k0 X.A)(ha:DMX c X (e::es) i fa)(hl:(e::es).length=ps.length:=by rfl)(ri:NDb x:=by decide)(he:StE X e es:=by rfl)(hX:BkE X pos es:=by rfl)(hk0:k<=k0:=by decide)(hg:Gl X x:=by first |rfl |exact glc rfl):
  DX c X (.Call (.Name x p) (e::es) [] pos) (aE i m fa):=PE.imp (mz pk.ok (n3.mono hk0) hg pk.g pk.kp pk.b .nil jj ha.pa ri he hX) λσ H Q q_=>by
 obtain⟨Hf0,H0,Hf,ρ,d,ρ',st,z,kq⟩:=q_;unfold aE at z;split at z
 .rename_i l0 j4 U
  cases L:fa ρ with
  |none=>rw[L]at z;nomatch z
  |some pp=>
   obtain⟨ds,ρ1⟩:=pp;rw[L,aD]at z;split at z
   .rename_i l xs eo
    cases O:m l [] ds xs with
    |none=>rw[O]at z;nomatch z
    |some q=>
     rw[O]at z;cases z;obtain⟨l1,T,_,_,_,_,_,_⟩:=st.ownAt rfl U;refine⟨Hf0,H0,Hf,ρ,ds,ρ1,l1,st,T,L,λvs Hf' H' f1 B r=>?_⟩;rw[cM];obtain⟨l2,I,h02,g7,eq2,hO,g8,hI⟩:=B.ownAt rfl eo;subst eq2;rw[T]at I;cases I
     have hn:0+1+ds.length=ps.length:=by
      have:=(ha.len ρ ds _ L).trans hl;lia
     exact⟨Hf',[],ds,xs,q.1,q.2,l1,hO,[],vs,rfl,B.sub,g7,g8,rfl,r,hI,rfl,hn,O,λv M H3 kT x3 ko ky kF r3=>kq v M H3 (f1.trans x3.f) (B.back rfl rfl eo T x3 ko ⟨rfl,kT,ky,kF⟩) r3⟩
   .nomatch z
 .nomatch z
def GS(pk:Pk X.prog X.w X.K X.mg X.base CX0 k x (f,fd) ps (spM (Gx c X) 0 ps.length m))(n3:bT k0 X.A)(ha:DMX c X (e::es) i fa)(hl:(e::es).length=ps.length:=by rfl)(U:NDb x:=by decide)(he:StE X e es:=by rfl)(hX:BkE X pos es:=by rfl)(hk0:k<=k0:=by decide)(hg:Gl X x:=by first |rfl |exact glc rfl):
  DX c X (.Call (.Name x p) (e::es) [] pos) (lN i m fa):=PE.imp (mz pk.ok (n3.mono hk0) hg pk.g pk.kp pk.b .nil jj ha.pa U he hX) λσ H Q q_=>by
 obtain⟨Hf0,H0,Hf,ρ,d,ρ',st,z,kq⟩:=q_;unfold lN at z;split at z
 .rename_i j4 T
  cases L:fa ρ with
  |none=>rw[L]at z;nomatch z
  |some pp=>
   obtain⟨ds,ρ1⟩:=pp;rw[L,aD]at z;split at z
   .rename_i xs eo;split at z
    .rename_i hq;have e2:=hq.choose_spec;generalize hq.choose=q at z e2;cases z;obtain⟨l1,O,_,_,_,_,_⟩:=st.ownAt rfl T;refine⟨Hf0,H0,Hf,ρ,ds,ρ1,l1,st,O,L,λvs Hf' H' f1 B r=>?_⟩;rw[cM];obtain⟨l2,I,h02,g7,hO,g8,hI⟩:=B.ownAt rfl eo;rw[O]at I;cases I
     have hn:0+1+ds.length=ps.length:=by
      have:=(ha.len ρ ds _ L).trans hl;lia
     exact⟨Hf',[],ds,xs,q.1,q.2,l1,hO,[],vs,rfl,B.sub,g7,g8,rfl,r,hI,rfl,hn,e2 l1,λv M H3 kT x3 ko ky kF r3=>kq v M H3 (f1.trans x3.f) (B.back rfl rfl eo O x3 ko ⟨kT,ky,kF⟩) r3⟩
    .nomatch z
   .nomatch z
 .nomatch z
abbrev aP(i:Nat)(f:Xe)(ρ:LS):Option Fl:=(f ρ).map λp=>.nx (p.2.set i (.im p.1))
abbrev bi(f:Xe)(ρ:LS):Option Fl:=(f ρ).map λp=>.rtS p.1 p.2
abbrev dP(i:Nat)(f:Xe)(ρ:LS):Option Fl:=match ρ[i]? with
 |some (.own _)=>(f ρ).bind λp=>match p.2[i]? with
  |some (.own xs)=>if xs.length<16777216 then aa (.nx (p.2.set i (.own (xs++[p.1])))) else ae
  | _=>ae
 | _=>ae
abbrev oM:D->D->OD
 |.int i,.int j=>aa (.int (i+j))
 |.str a,.str b=>if a.length+b.length<=16777216 then aa (.str (a++b)) else ae
 | _,_=>ae
abbrev qO(i:Nat)(f:Xe)(ρ:LS):Option Fl:=match ρ[i]? with
 |some (.im x)=>(f ρ).bind λp=>(oM x p.1).map λz=>.nx (p.2.set i (.im z))
 | _=>ae
abbrev eS(t:Xt)(F F':MF3)(ρ:LS):Option Fl:=(t ρ).bind λp=>if p.1 then F p.2 else F' p.2
variable{f:Xe}
def ba(i:Nat)(I:X.N.Nodup)(L:DX c X e f)(hi:X.N[i]?=aa x:=by rfl)(T:Loc X.env.scope x:=by first |exact bV rfl |exact bA rfl)(O:eZ e (aa (.Name x ey)) pos.line X.env=pure ai:=by rfl)(M:LcF X x:=by first |exact .inl rfl |exact .inr rfl):
  DS c X (.Assign [.Name x ey] e pos) (aP i f):=PS.imp (mx I hi T L O M) λE σ H U=>by
 obtain⟨Hf0,H0,Hf,ρ,o,so,q,k⟩:=U;unfold aP at q
 cases z:f ρ with
 |none=>rw[z]at q;nomatch q
 |some p=>
  rw[z]at q;cases q;exact⟨Hf0,H0,Hf,ρ,p.1,p.2,so,z,λv Hf' H' s B r=>k _ Hf' H' s (B.setIm r)⟩
def bG(I:DX c X e f):DS c X (.Return (aa e) pos) (bi f):=PS.imp (qt I) λE σ H L=>by
 obtain⟨Hf0,H0,Hf,ρ,o,so,q,k⟩:=L;unfold bi at q
 cases z:f ρ with
 |none=>rw[z]at q;nomatch q
 |some p=>
  rw[z]at q;cases q;exact⟨Hf0,H0,Hf,ρ,p.1,p.2,so,z,λv Hf' H' s B r=>k v σ Hf' H' B r⟩
def i7(h:PS X st (sU (tBM X.K "list" wg (df i) (n8 (tDX (Gx c X) f) lG)))):DS c X st (dP i f):=PS.imp h λE σ H q_=>by
 obtain⟨Hf0,H0,Hf,ρ,o,so,z,k⟩:=q_;unfold dP at z;split at z
 .rename_i j4 M
  cases I:f ρ with
  |none=>rw[I]at z;nomatch z
  |some p=>
   rw[I,aD]at z;split at z
   .rename_i xs es;split at z
    .rename_i hl;cases z;obtain⟨l,L,h0,hf,vs0,q0,r0⟩:=so.ownAt rfl M;refine⟨_,L,.inl ⟨rfl,_,SqL.of q0⟩,Hf0,H0,Hf,ρ,p.1,p.2,so,I,λv Hf' H' s B r'=>?_⟩;obtain⟨l2,O,T,U,vs,q,r⟩:=B.ownAt rfl es;rw[L]at O;cases O;exact⟨l,vs,v,rfl,rfl,q,by rw[dA,<- r.length];exact hl,k σ Hf' _ s (B.mutd rfl rfl es L ⟨vs++[v],cz,r.append (.cons r' .nil)⟩)⟩
    .nomatch z
   .nomatch z
 .nomatch z
def GT:PIp X .Add (rD (Gx c X) oM):=λpins s σ H x y v u Q I L M U=>by
 obtain⟨Hf,dx,q,d,O,z,B,e,k⟩:=U
 exact (by
 cases dx with
 |int i=>
  cases q with
  |int j=>
   subst z;subst B;cases e
   exact Lv pins s σ H _ _ v u Q I L M ⟨_,_,rfl,rfl,k _ Hf H (Ext.refl O) rfl⟩
  | _=>nomatch e
 |str a=>
  cases q with
  |str b=>
   subst z;subst B;replace e:(if _ then aa _ else ae)=aa d:=e;split at e
   .rename_i T;cases e;exact L9 pins s σ H _ _ v u Q I L M ⟨_,_,rfl,rfl,by rw[dA];exact T,k _ Hf H (Ext.refl O) rfl⟩
   .nomatch e
  | _=>nomatch e
 | _=>nomatch e)
def GU(i:Nat)(hN:X.N.Nodup)(he:DX c X e f)(hi:X.N[i]?=aa x:=by rfl)(hx:Loc X.env.scope x:=by first |exact bV rfl |exact bA rfl)(hf:LcF X x:=by first |exact .inl rfl |exact .inr rfl):
  DS c X (.AugAssign (.Name x ey) .Add e pos) (qO i f):=PS.imp (Fd hN hi hx he (GT) hf) λE σ H q_=>by
 obtain⟨Hf0,H0,Hf,ρ,o,so,q,k⟩:=q_;unfold qO at q;split at q
 .rename_i d es
  cases I:f ρ with
  |none=>rw[I]at q;nomatch q
  |some p=>
   rw[I,aD]at q
   cases L:oM d p.1 with
   |none=>rw[L]at q;nomatch q
   |some z=>
    rw[L]at q;cases q;obtain⟨v,T,w,U,M⟩:=so.slot es;subst U;exact⟨_,T,Hf0,H0,Hf,ρ,p.1,p.2,so,I,λu Hf' H' s B r=>⟨Hf',d,p.1,z,B.sub,M.up s,r,L,λy d8 H2 O r2=>k _ d8 H2 (s.trans O.f) ((B.step O).setIm r2)⟩⟩
 .nomatch q
variable{as:List Stmt}
def iz{bs:List Stmt}{t:Xt}(M:DTX c X e t)(I:DSs c X as F)(L:DSs c X bs F'):DS c X (.If e as bs pos) (eS t F F'):=PS.imp (zX M I L) λE σ H O=>by
 obtain⟨Hf0,H0,Hf,ρ,o,so,q,k⟩:=O;unfold eS at q
 cases B:t ρ with
 |none=>rw[B]at q;nomatch q
 |some x=>
  obtain⟨b,ρ1⟩:=x;rw[B,aD]at q;refine⟨Hf0,H0,Hf,ρ,b,ρ1,so,B,λdk H1 s1 z=>?_⟩
  cases b with
  |true=>rw[if_pos rfl];exact⟨Hf0,H0,dk,ρ1,o,z,q,k.up s1⟩
  |false=>rw[if_neg cp];exact⟨Hf0,H0,dk,ρ1,o,z,q,k.up s1⟩
abbrev mBX(f:Xe):Xt:=λρ=>(f ρ).bind λp=>match p.1 with
 |.bl b=>aa (b,p.2)
 | _=>ae
abbrev mTX(f:MF4):Xt:=λρ=>(f ρ).map λb=>(b,ρ)
abbrev mT(f g:Xt):Xt:=λρ=>(f ρ).bind λp=>if p.1 then aa (ac,p.2) else g p.2
abbrev DWX(c:Str->Addr)(X:Cx)(e:Expr)(f:Xt):Prop:=PW X e (AY (Gx c X) f)
abbrev mU:D->D->OD
 |.str z,.int i=>if 0<=i/\i<2 ^ 63/\i<(z.length:Int) then (z.cps[i.toNat]?).map λch=>.str ⟨#[ch]⟩ else ae
 | _,_=>ae
abbrev dU(x y:D):OD:=match x with
 |.lst ds=>ixD ds y
 |.tup ds=>ixD ds y
 | _=>ae
abbrev jt(f:Xa):Xa:=λρ=>(f ρ).bind λp=>(mI p.1).map λds=>(ds,p.2)
def DT.dtx{f:MF4}(h:DT c X e f):DTX c X e (mTX f):=PT.imp h λσ H Q B=>by
 obtain⟨Hf0,H0,Hf,ρ,I,ρ',st,q,k⟩:=B;unfold mTX at q
 cases z:f ρ with
 |none=>rw[z]at q;nomatch q
 |some x=>
  rw[z]at q;cases q;exact⟨Hf0,H0,Hf,ρ,_,st,z,λHf' H' x=>k Hf' H' x.f (st.step x)⟩
def gM{m:D->D->OD}{g:Xe}(ho:OpD c X (eB op) m)(ha:DX c X a f)(hb:DX c X b g)(hm:mj op b=ai:=by first |exact wa _ |rfl):
  DTX c X (.Compare a [op] [b] pos) (mBX (mX2 m f g)):=PT.imp (Fj ho ha hb hm) λσ H Q q_=>by
 obtain⟨Hf0,H0,Hf,ρ,bb,ρ',st,z,k⟩:=q_;unfold mBX at z
 cases L:mX2 m f g ρ with
 |none=>rw[L]at z;nomatch z
 |some q=>
  obtain⟨d,hT⟩:=q;rw[L,aD]at z;obtain⟨x,y,ρ1,e1,e2,e3⟩:=ua L
  cases d <;> first |(cases z;done) |skip
  cases z;exact⟨Hf0,H0,Hf,ρ,x,ρ1,st,e1,λv dk H1 f1 M r1=>⟨Hf0,H0,dk,ρ1,y,_,M,e2,λu d8 H2 O B r2=>⟨d8,x,y,_,B.sub,r1.up O,r2,e3,λw I U T r3=>⟨_,r3,k I U ((f1.trans O).trans T.f) (B.step T)⟩⟩⟩⟩
variable{f:Xt}
def DWX.dtx(h:DWX c X e f):DTX c X e f:=PW.pt h
def N3(h:DTX c X a f):DWX c X (.BoolOp .Or [a] pos) f:=E5 h
def N4{g:Xt}{bF:LEx}(h:DTX c X a f)(h':DWX c X (.BoolOp .Or (b::bF) pos) g):DWX c X (.BoolOp .Or (a::b::bF) pos) (mT f g):=PW.imp (E6 h h') λσ H Q M=>by
 obtain⟨Hf0,H0,Hf,ρ,L,ρ',st,q,k⟩:=M;unfold mT at q
 cases B:f ρ with
 |none=>rw[B]at q;nomatch q
 |some x=>
  obtain⟨x,ρ1⟩:=x;rw[B,aD]at q;refine⟨Hf0,H0,Hf,ρ,x,ρ1,st,B,λdk H1 s1 z=>?_⟩
  cases x with
  |false=>rw[if_neg cp];exact⟨Hf0,H0,dk,ρ1,L,ρ',z,q,λd8 H2 s2 I=>k d8 H2 (s1.trans s2) I⟩
  |true=>cases q;rw[if_pos rfl];exact k dk H1 s1 z
def N5{x:D}(h:mU x y=aa d):∃z i ch,x=.str z/\y=.int i/\0<=i/\i<2 ^ 63/\i<(z.length:Int)/\z.cps[i.toNat]?=aa ch/\d=.str ⟨#[ch]⟩:=by
 unfold mU at h;split at h
 .rename_i z i;split at h
  .rename_i q
   cases e:z.cps[i.toNat]? with
   |none=>rw[e]at h;nomatch h
   |some ch=>rw[e]at h;cases h;exact⟨z,i,ch,rfl,rfl,q.1,q.2.1,q.2.2,e,rfl⟩
  .nomatch h
 .nomatch h
def AZ{f g:Xe}(ha:DX c X a f)(hb:DX c X b g)(hs:Fo b:=by exact λ_ _=>rfl):DX c X (.Subscript a b pos) (mX2 mU f g):=PE.imp (Ma ha hb hs) λσ H Q q_=>by
 obtain⟨Hf0,H0,Hf,ρ,d,ρ',st,O,k⟩:=q_;obtain⟨x,y,ρ1,I,L,M⟩:=ua O;obtain⟨z,i,ch,rfl,rfl,h0,h1,h2,h3,rfl⟩:=N5 M;exact⟨Hf0,H0,Hf,ρ,_,ρ1,st,I,λv dk H1 T q r1=>⟨Hf0,H0,dk,ρ1,_,ρ',q,L,λu d8 H2 U B r2=>⟨z,i,ch,r1,r2,h0,h1,h2,h3,k _ d8 H2 (T.trans U) B rfl⟩⟩⟩
def i8{f g:Xe}(ha:DX c X a f)(hb:DX c X b g)(hs:Ab b:=by exact λ_ _=>rfl):DX c X (.Subscript a b pos) (mX2 dU f g):=PE.imp (FI (FJ.or FK) ha hb hs) λσ H Q q_=>by
 obtain⟨Hf0,H0,Hf,ρ,d,ρ',st,ef,k⟩:=q_;obtain⟨x,y,ρ1,e1,e2,B⟩:=ua ef;refine⟨Hf0,H0,Hf,ρ,x,ρ1,st,e1,λv dk H1 f1 U I=>⟨Hf0,H0,dk,ρ1,y,ρ',U,e2,λu d8 H2 O z r2=>?_⟩⟩;have I:=I.up O;unfold dU at B;split at B
 .rename_i ds
  cases y <;> first |(cases B;done) |skip
  rename_i n;cases (r2);obtain⟨l,vs,L,q,r⟩:=I;subst L;obtain⟨v,M,T⟩:=As B r;exact .inl ⟨l,vs,n,v,rfl,rfl,SqL.of (z.sub _ _ q),M,k v d8 H2 (f1.trans O) z T⟩
 .rename_i ds
  cases y <;> first |(cases B;done) |skip
  rename_i n;cases (r2);obtain⟨l,vs,L,q,r⟩:=I;subst L;obtain⟨v,M,T⟩:=As B r;exact .inr ⟨l,vs,n,v,rfl,rfl,SqT.of (z.sub _ _ q),M,k v d8 H2 (f1.trans O) z T⟩
 .nomatch B
def oN{f:Xa}(hg:Gl X "range")(hm:X.mg "range"=ae)(M:DAX c X [a] f)(hs:bf [a] X.env=[(ai,eval a X.env)]:=by rfl):DXi c X tg (.Call (.Name "range" p) [a] [] pos) (jt f):=
 PI.imp (Ff hg hm M.pa hs) λσ H R q_=>by
  obtain⟨Hf0,H0,Hf,ρ,ds,ρ',st,B,k⟩:=q_;unfold jt at B
  cases I:f ρ with
  |none=>rw[I]at B;nomatch B
  |some q=>
   obtain⟨as,ρ1⟩:=q;rw[I,aD]at B
   cases z:mI as with
   |none=>rw[z]at B;nomatch B
   |some T=>
    rw[z]at B;cases B;have hl:=M.len ρ as _ I;refine⟨Hf0,H0,Hf,ρ,as,_,st,I,λvs Hf' H' s1 L r=>?_⟩;unfold mI at z;split at z
    .split at z
     .rename_i j O;cases z;obtain⟨v,U,rv⟩:=r.one;cases (rv);exact⟨j,U,O.1,O.2,k _ Hf' H' s1 L Gi⟩
     .nomatch z
    .nomatch hl
    .nomatch z
variable{s:ax}{M:Model}
def A0{u:Value}{Q:Unit->ax->Prop}(J:Inv X pins σ H s)(nd:X.N.Nodup)(ix:X.N[i]?=aa x)(lc:X.env.scope.names.lookup x=aa .local)(rv:bh v u)
 (h:∀z,Inv X pins (σ.set i (aa v)) H z->z.toks=s.toks+1->(∃m,z.heap.Ns X.env.locals m/\m x=aa u)->Q () z):wpAny M A (storeName X.env x u) Q E s:=by
 obtain⟨m,mn,ml⟩:=id J.loc;have calm:(X.env.scope.kind==.class || (X.env.scope.kind==.module && X.env.locals != X.env.globals))=ai:=by rw[J.ok.kind];rfl
 have below:i<σ.length:=by rw[J.len];exact(cV.mp ix).1
 refine wpAny_storeName_local lc mn (λg gn L=>?_) calm;have B:∀{b:Addr} {o:Obj},X.s₀.heap.get? b=aa o->g.get? b=s.heap.get? b:=λ{b o} e=>L.2 b (eY (fO (cX e) J.ok.above))
 have tr:=λb ob e=>by
  refine(J.hok b ob e).stay (λc w' hc q=>(L.2 c ?_).trans q) (λ_ q=>q) λ_ _ q=>q;rintro rfl
  rcases hc with rfl |hc
  .rw[J.free]at e;nomatch e
  .rw[J.free]at hc;nomatch hc
 refine h _ ⟨J.ok,J.os,J.bare,⟨λb o e n hb O=>(B e).trans (J.base.keep b o e n hb O),λb o e n hb O=>?_,J.base.free,λb o e O=>?_,J.base.tups,J.base.frzs,J.base.tbls⟩,⟨_,gn,λj y w' T U e3=>?_⟩,λy c e=>?_,J.free,J.freeC,λp hp=>?_,tr,by simpa using J.len⟩ rfl ⟨_,gn,by simp⟩
 .obtain⟨sl,q⟩:=J.base.slot b o e n hb O;exact⟨sl,(B e).trans q⟩
 .obtain⟨o',q⟩:=J.base.there b o e O;exact⟨o',(B e).trans q⟩
 .by_cases same:j=i
  .subst same;rw[ix]at T;cases T;rw[gT below]at U;cases U;exact⟨u,rv,.inl ⟨lc,by simp⟩⟩
  .rw[ib (eM same)]at U;obtain⟨u',r',q⟩:=ml j y w' T U e3;refine⟨u',r',?_⟩
   rcases q with⟨kd,ez⟩ |⟨kd,c,ez,z⟩
   .refine .inl ⟨kd,?_⟩;have I:y≠x:=λe=>same (zU nd T (e▸ix));simp[I,ez]
   .exact .inr ⟨kd,c,ez,z.sameBut L (J.cne y c ez)⟩
 .obtain⟨w',z⟩:=J.cell y c e;exact⟨w',z.sameBut L (J.cne y c e)⟩
 .obtain⟨e,n,ne,nf,d⟩:=J.pin p hp;exact⟨(L.2 p.1 ne).trans e,n,ne,nf,d⟩
abbrev wW(ch:Nat):Str:=iR++(" ":Str)++⟨#[ch]⟩++(" ":Str)
abbrev fo(z:Str)(ch:Nat):Str:=Txt.replace z ⟨#[ch]⟩ (wW ch)
abbrev wX(z:Str)(q:LN):Bool:=(dG q.length).all λk=>decide (4*((q.take k).foldl fo z).length+3<=16777216)
@[reducible]noncomputable def wY(x y:Str)(q p2 z B I L O T U:Pos)(k1 k2:Nat):Expr:=.Call (.Attribute (.Name x q) "replace" p2) [.Name y z,.JoinedStr [.Constant (.str " ") k1 B,.FormattedValue (.Name y I) (-1) ae L,.Constant (.str " ") k2 O] T] [] U
variable{y z:Str}{p1 p3 p4 p5 p6 p7 p8 p9:Pos}{k1 k2:Nat}
def N6{ch:Nat}{u:Tok}{m:MGT}{Q:PRS}(I:Inv X pins σ H s)(hi:X.N[i]?=aa x)(lx:X.env.scope.names.lookup x=aa .local)(ly:X.env.scope.names.lookup y=aa .local)
 (hz:σ[i]?=aa (aa (.str z)))(hn:s.heap.Ns X.env.locals m)(hy:m y=aa (.str ⟨#[ch]⟩ u))(u0:u≠0)(ub:u<s.toks)(sz:4*z.length+3<=16777216)
 (q:∀t' tk,s.toks<=tk->Q (.str (fo z ch) t') {s with toks:=tk})
 (dx:NDb x:=by decide)(dy:(y==("__debug__":Str))=ai:=by decide)
 (L:mo (.Name x p1) "replace" X.env (eval (.Name x p1) X.env)=eval (.Name x p1) X.env:=by rfl)
 (T:((eD p9 (bf [.Name y p3,.JoinedStr [.Constant (.str " ") k1 p4,.FormattedValue (.Name y p5) (-1) ae p6,.Constant (.str " ") k2 p7] p8] X.env)).all (λx=>!x.1) && (jg p9 (je [] X.env)).all (λx=>x.1.isSome)
   && decide (([.Name y p3,.JoinedStr [.Constant (.str " ") k1 p4,.FormattedValue (.Name y p5) (-1) ae p6,.Constant (.str " ") k2 p7] p8]:LEx).length+([]:List Keyword).length+(if ([]:List Keyword).isEmpty then 0 else 1)<30))=ac:=by rfl)
 (O:(p2.endLine==p9.line)=ac:=by rfl):wpAny (model X.prog X.w) X.A (eval (wY x y p1 p2 p3 p4 p5 p6 p7 p8 p9 k1 k2) X.env) Q E s:=by
 obtain⟨m',mn,ml⟩:=id I.loc;obtain⟨w,rw',l⟩:=ml i x _ hi hz (.inl lx);obtain⟨tz,rfl⟩:=rw'
 have hx:m' x=aa (.str z tz):=by
  rcases l with⟨_,h⟩ |⟨U,_⟩
  .exact h
  .rcases U with U |U <;> (rw[show X.env.kindOf x=aa .local from lx]at U;nomatch U)
 refine wpAny_Call_method_late L T O rfl (qm (sJ I.ok.kind lx mn hx ?_) dx);refine⟨"str","str.replace",F.plainAttrs_str,F.slot_str_replace,F.type_str_replace,nO _ _ _,(λ_ e=>by nomatch e),?_⟩;refine zI rfl (zJ ?_);refine vW (qm (sJ I.ok.kind ly hn hy ?_) dy);show wpAny _ _ (spliced [(ai,eval _ X.env)]) _ _ s;refine vW ?_
 have lit:∀{w:Str} {kk:Nat} {pp:Pos} {s1:ax} {R:PRS},R _ {s1 with toks:=s1.toks+1}->wpAny (model X.prog X.w) X.A (eval (.Constant (.str w) kk pp) X.env) R E s1:=λh=>zK h
 have fin:∀tk,s.toks<=tk->wpAny _ X.A (joinParts (iR++(" ":Str)++⟨#[ch]⟩) [eval (.Constant (.str " ") k2 p7) X.env]) (λv B=>wpAny (model X.prog X.w) X.A (call _ [.str z tz,.str ⟨#[ch]⟩ u,v]) Q E B) E {s with toks:=tk}:=λtk ht=>by
  refine qj (lit ⟨by show 3<=bx;decide,?_⟩);refine joinParts_nil ?_ (by show 3<=bx;decide)
  refine fB (wpAny_toks_of (zD (zD ht)) (SC.replace (Q:=λv s'=>∃t',v=.str _ t'/\∃k,s'={s with toks:=k}) u0 ?_ (eY (Nat.lt_succ_of_lt (fO ub ht))) ?_ ?_ λt2 k=>⟨t2,rfl,k,rfl⟩)) (λv s1 q_=>by obtain⟨hb,t',e1,k,e2⟩:=q_;subst e1 e2;exact q t' k hb) λ_ _ e=>e.2
  .show tk+1≠0;lia
  .cases e:(_==iR++_++⟨#[ch]⟩++_)with
   |false=>rfl
   |true=>exact absurd (congrArg Str.length (eq_of_beq e)) (by show ¬1=3;decide)
  .show z.length+_*3<=_;lia
 refine JoinedStr_many (qj (lit ⟨by show 1<=bx;decide,?_⟩));refine qj (FormattedValue_plain (qm (sJ I.ok.kind ly hn hy ?_) dy))
 have more:∀tk,s.toks<=tk->(iR++(" ":Str)++(⟨#[ch]⟩:Str)).length<=bx/\wpAny _ X.A _ (λu' B=>wpAny (model X.prog X.w) X.A _ (λus s'=>wpAny _ X.A _ Q E s') E B) E {s with toks:=tk}:=λtk ht=>⟨by show 2<=bx;decide,thn (fin tk ht) λv s1 h1=>Calls.spliced_nil h1⟩
 exact wpAny_formatField_str (more _ (Nat.le_succ _)) (more _ (zD (Nat.le_succ _))) (by show 1<=bx;decide)
@[reducible]noncomputable def GV(x y g:Str)(L pg I p1 p2 p3 p4 p5 p6 p7 p8 p9 q B:Pos)(k1 k2:Nat):Stmt:=.For (.Name y L) (.Name g pg) [.Assign [.Name x I] (wY x y p1 p2 p3 p4 p5 p6 p7 p8 p9 k1 k2) q] [] B
variable{j:Nat}{g gx:Str}{t0:Tok}{py pg px p10 pf:Pos}
def N7{D:jL}(hp:nP (model X.prog X.w) X.A X.env X.xe)(hc:X.calm=ac)(nd:X.N.Nodup)(hi:X.N[i]?=aa x)(hj:X.N[j]?=aa y)(B:i≠j)(lx:X.env.scope.names.lookup x=aa .local)(ly:X.env.scope.names.lookup y=aa .local)
 (hg:Gl X g)(hm:X.mg g=aa (.str gx t0))(as:gx.cps.all (· < 128)=ac)(I:Inv X pins σ H s)(tk:1<=s.toks)(hz:σ[i]?=aa (aa (.str z)))(sz:wX z gx.cps.toList=ac)(hj':j<σ.length)(T:Nat)(O:gx.cps.toList.getLast?=aa T)
 (q:D.nx ((σ.set i (aa (.str (gx.cps.toList.foldl fo z)))).set j (aa (.str ⟨#[T]⟩))) H)
 (dx:NDb x:=by decide)(dy:(y==("__debug__":Str))=ai:=by decide)(dg:(g==("__debug__":Str))=ai:=by decide)
 (hbase:mo (.Name x p1) "replace" X.env (eval (.Name x p1) X.env)=eval (.Name x p1) X.env:=by rfl)
 (hfew:((eD p9 (bf [.Name y p3,.JoinedStr [.Constant (.str " ") k1 p4,.FormattedValue (.Name y p5) (-1) ae p6,.Constant (.str " ") k2 p7] p8] X.env)).all (λx=>!x.1) && (jg p9 (je [] X.env)).all (λx=>x.1.isSome)
   && decide (([.Name y p3,.JoinedStr [.Constant (.str " ") k1 p4,.FormattedValue (.Name y p5) (-1) ae p6,.Constant (.str " ") k2 p7] p8]:LEx).length+([]:List Keyword).length+(if ([]:List Keyword).isEmpty then 0 else 1)<30))=ac:=by rfl)
 (hline:(p2.endLine==p9.line)=ac:=by rfl)(hsw:eZ (wY x y p1 p2 p3 p4 p5 p6 p7 p8 p9 k1 k2) (aa (.Name x px)) p10.line X.env=pure ai:=by rfl)(hs:∀v,iO (.Name g pg) X.env v=pure v:=by intro _;rfl):
  wpAny (model X.prog X.w) X.A (exec (GV x y g py pg px p1 p2 p3 p4 p5 p6 p7 p8 p9 p10 pf k1 k2) X.env) (SP X pins D) X.xe s:=by
 refine wpAny_For (nW I hg hm (wpAny_pyIter_ascii as ?_) dg) hs;generalize hL:gx.cps.toList=L at sz O q;have hgx:∀k,gx.cps[k]?=L[k]?:=λk=>by rw[<- hL,Array.getElem?_toList]
 generalize hit:s.heap.objs.size=it
 have I2:Inv X pins σ H {s with heap:=s.heap.push {cls:=.type "str_ascii_iterator",data:=.fields #[.str gx t0,.int 0 0]}}:=I.kept λb o e=>gc _ e
 have fp:gf X pins H it:=by rw[<- hit];exact I.fpOk (bN _) (I.hok.fresh (bN _))
 have pr:(s.heap.push {cls:=.type "str_ascii_iterator",data:=.fields #[.str gx t0,.int 0 0]}).IsStrIter it "str_ascii_iterator" gx t0 0:=by rw[<- hit];exact⟨_,iQ _ rfl,rfl,rfl⟩
 let At:Nat->St:=λk=>match k with
  | 0=>σ
  |k+1=>(σ.set i (aa (.str ((L.take (k+1)).foldl fo z)))).set j (aa (.str ⟨#[L.getD k 0]⟩))
 have hAt:∀k,k<=L.length->(At k)[i]?=aa (aa (.str ((L.take k).foldl fo z))):=λk hk=>by
  cases k with
  |zero=>exact hz
  |succ k=>show _[i]?=_;rw[ib (eM B),gT ((cV.mp hz).1)]
 have hNx:∀k ch,L[k]?=aa ch->((At k).set j (aa (.str ⟨#[ch]⟩))).set i (aa (.str (fo ((L.take k).foldl fo z) ch)))=At (k+1):=λk ch e=>by
  have e1:(L.take (k+1)).foldl fo z=fo ((L.take k).foldl fo z) ch:=by rw[take_add_one,e,qc];rfl
  have e2:L.getD k 0=ch:=by rw[eA,e];rfl
  show _=(σ.set i (aa (.str ((L.take (k+1)).foldl fo z)))).set j (aa (.str ⟨#[L.getD k 0]⟩));rw[e1,e2]
  cases k with
  |zero=>exact(set_comm _ _ B).symm
  |succ k=>
   rw[set_set,set_comm _ _ (eM B),set_set]
 refine codeAny_forLoop_any (λn s'=>∃k,k<=L.length/\n=L.length-k/\Inv X pins (At k) H s'/\s'.heap.IsStrIter it "str_ascii_iterator" gx t0 k/\1<=s'.toks) ?_ L.length ⟨0,gB _,rfl,I2,pr,tk⟩;rintro n s3 ⟨k,hk,rfl,I3,rc,tk3⟩;obtain⟨f0,f1,f2,f3,f4,f5⟩:=fp
 cases e:L[k]? with
 |none=>
  have hkl:=Nat.le_antisymm hk (List.getElem?_eq_none_iff.mp e);refine wpAny_pyNext_ascii_end (I.ok.hd hc) rc ((hgx k).trans e) λh' eb=>?_;refine ql ⟨_,H,I3.turned (t':=s3.toks) (λb o U e=>eb b o U e) f0 f1 f3 f4 f5,?_⟩;subst hkl
  cases L with
  |nil=>nomatch O
  |cons a L=>
   show D.nx ((σ.set i (aa (.str (((a::L).take (L.length+1)).foldl fo z)))).set j (aa (.str ⟨#[(a::L).getD L.length 0]⟩))) H
   have e1:(a::L).getD L.length 0=T:=by
    rw[List.getLast?_eq_getElem?]at O;exact(eA).trans (congrArg (λo=>Option.getD o 0) O)
   rw[sE (by simp),e1]
   exact q
 |some ch=>
  refine wpAny_pyNext_ascii_item rc ((hgx k).trans e) λh' oo sb=>?_
  have I4:Inv X pins (At k) H {s3 with heap:=h',toks:=s3.toks+1}:=I3.turned (λb o U e=>(sb.2 b U).trans e) f0 f1 f3 f4 f5
  obtain⟨o,eo,oc,od⟩:=id oo
  refine sV (s:={s3 with heap:=h',toks:=s3.toks+1}) eo oc od (by decide) ?_
  refine lD hp (wpAny_assign_Name (A0 (I4.pinned (fp:=[it]) (λb U=>by cases bR.mp U;exact⟨f0,f1,f2,f3,f4,f5⟩) (λb U=>by cases bR.mp U;exact⟨o,eo,λv z=>by rw[od]at z;nomatch z⟩)) nd hj ly (v:=.str ⟨#[ch]⟩) ⟨_,rfl⟩ λs6 I6 t6 q_=>?_));obtain⟨m,mn,my⟩:=q_;refine lD hp (sK (wpAny_Assign_Name (N6 I6 hi lx ly (z:=(L.take k).foldl fo z) ?_ mn my (vM tk3) (by rw[t6];exact Nat.lt_succ_of_lt (qg _)) ((λk hk=>of_decide_eq_true (all_eq_true.mp sz k (kg.mpr hk))) k (cV.mp e).1) (λt' tk' ht=>?_) dx dy hbase hfew hline) hsw))
  .rw[ib (eM B)];exact hAt k hk
  .refine A0 (I6.tok tk') nd hi lx (v:=.str (fo ((L.take k).foldl fo z) ch)) ⟨_,rfl⟩ λs7 I7 t7 _=>?_;refine ql ?_;refine⟨L.length-(k+1),by have:=(cV.mp e).1;lia,k+1,(cV.mp e).1,rfl,?_,?_,?_⟩
   .rw[<- hNx k ch e];exact I7.unpinned
   .exact⟨o,(I7.pin (it,o) (fM _ (fM _ (sW (bR.mpr rfl) eo)))).1,oc,od⟩
   .rw[t7];exact Nat.le_add_left _ _
abbrev wZ(i j:Nat)(gx:Str)(f:MF1)(ρ:LS):Option Fl:=(f ρ).bind λd=>match d,gx.cps.toList.getLast? with
 |.str z,aa ch=>if wX z gx.cps.toList=ac then aa (.nx ((ρ.set i (.im (.str (gx.cps.toList.foldl fo z)))).set j (.im (.str ⟨#[ch]⟩)))) else ae
 | _,_=>ae
variable{p0 pq:Pos}{f:MF1}
def N8{bF:List Stmt}(i j:Nat)(hp:nP (model X.prog X.w) X.A X.env X.xe)(hc:X.calm=ac)(nd:X.N.Nodup)(hg:Gl X g)(hm:∃t0,X.mg g=aa (.str gx t0))(he:DE c X e f)(hr:DSs c X bF F)(hi:X.N[i]?=aa x:=by rfl)(hj:X.N[j]?=aa y:=by rfl)(hij:i≠j:=by decide)(lx:X.env.scope.names.lookup x=aa .local:=by rfl)(ly:X.env.scope.names.lookup y=aa .local:=by rfl)
 (as:gx.cps.all (· < 128)=ac:=by decide +kernel)
 (dx:NDb x:=by decide)(dy:(y==("__debug__":Str))=ai:=by decide)(dg:(g==("__debug__":Str))=ai:=by decide)(hw:eZ e (aa (.Name x pq)) p0.line X.env=pure ai:=by rfl)
 (B:mo (.Name x p1) "replace" X.env (eval (.Name x p1) X.env)=eval (.Name x p1) X.env:=by rfl)
 (O:((eD p9 (bf [.Name y p3,.JoinedStr [.Constant (.str " ") k1 p4,.FormattedValue (.Name y p5) (-1) ae p6,.Constant (.str " ") k2 p7] p8] X.env)).all (λx=>!x.1) && (jg p9 (je [] X.env)).all (λx=>x.1.isSome)
   && decide (([.Name y p3,.JoinedStr [.Constant (.str " ") k1 p4,.FormattedValue (.Name y p5) (-1) ae p6,.Constant (.str " ") k2 p7] p8]:LEx).length+([]:List Keyword).length+(if ([]:List Keyword).isEmpty then 0 else 1)<30))=ac:=by rfl)
 (L:(p2.endLine==p9.line)=ac:=by rfl)(hsw:eZ (wY x y p1 p2 p3 p4 p5 p6 p7 p8 p9 k1 k2) (aa (.Name x px)) p10.line X.env=pure ai:=by rfl)(hs:∀v,iO (.Name g pg) X.env v=pure v:=by intro _;rfl):
  DSs c X (.Assign [.Name x pq] e p0::GV x y g py pg px p1 p2 p3 p4 p5 p6 p7 p8 p9 p10 pf k1 k2::bF) (au (wZ i j gx f) F):=by
 intro pins s σ H E I q_;obtain⟨t0,hm⟩:=hm;obtain⟨Hf0,H0,Hf,ρ,o,so,q,k⟩:=q_;unfold au wZ at q
 cases e1:f ρ with
 |none=>rw[e1]at q;nomatch q
 |some d=>
  rw[e1,aD]at q
  cases d <;> first |(cases q;done) |skip
  rename_i z
  cases e2:gx.cps.toList.getLast? with
  |none=>rw[e2]at q;nomatch q
  |some ch=>
   rw[e2]at q;dsimp only at q;split at q
   .rename_i sz;refine sK (wpAny_Assign_Name (thn (he pins s σ H _ I ⟨Hf0,H0,Hf,ρ,_,so,e1,λv Hf' H' x r=>(⟨Hf',r,x.f,so.step x⟩:∃Hf',Rep _ Hf' _ v/\aR Hf Hf'/\aG _ Hf0 H0 Hf' H' σ ρ)⟩) λu s1 ⟨v,H1,I1,r1,dk,rz,sm,so1⟩=>?_) hw);cases (rz);refine A0 I1 nd hi lx r1 λs2 I2 t2 _=>?_;have T:i<σ.length:=by rw[I.len];exact(cV.mp hi).1
    have hlj:j<(σ.set i (aa (V.str z))).length:=by rw[qd,I.len];exact(cV.mp hj).1
    refine sK (thn (N7 (D:={nx:=λσ' H'=>tDS (Gx c X) F E σ' H',rt:=λ_ _=>False,bk:=λ_ _=>False,ct:=λ_ _=>False}) hp hc nd hi hj hij lx ly hg hm as I2 (by rw[t2];exact Nat.le_add_left _ _) (gT T) sz hlj ch e2 ?_ dx dy dg B O L hsw hs) λfl s3 U=>?_)
    .refine⟨Hf0,H0,dk,_,o,?_,q,k.up sm⟩;rw[set_set];exact(so1.setIm (d:=.str _) rfl).setIm rfl
    .cases fl with
     |next=>obtain⟨m4,H3,I3,q3⟩:=U;exact hr pins s3 m4 H3 E I3 q3
     |ret v=>obtain⟨_,_,_,_,_,z⟩:=U;exact z.elim
     |brk=>obtain⟨_,_,_,z⟩:=U;exact z.elim
     |cont=>obtain⟨_,_,_,z⟩:=U;exact z.elim
   .nomatch q
abbrev w5(x y:Str):LSt:=zE.Str.partsBetween x (EZ x y 0 x.length (x.length+1)) y.length
abbrev lO(x y:D):OD:=match x,y with
 |.str a,.str b=>if b.length≠0/\a.length<=16777216/\(w5 a b).length<=16777216 then aa (.lst ((lE a b).map .str)) else ae
 | _,_=>ae
abbrev GX:V->List V->Hp->VK->Prop:=λx vs H Q=>∃a b,x=.str a/\vs=[.str b]/\b.length≠0/\a.length<=bx/\(w5 a b).length<=bx/\∀p,H p=ae->Q (.ref p) (upd H p (.lst ((lE a b).map V.str)))
def GY:∀(l:List (Str×Tok)),aW ((l.map (·.1)).map V.str) (qp l)
 | []=>.nil
 |(x,t)::l=>.cons ⟨t,rfl⟩ (GY l)
def A1{G:Gc}{H:Hp}:∀(l:LSt),aF G H (l.map D.str) (l.map V.str)
 | []=>rfl
 | _::l=>.cons rfl (A1 l)
open PySem.Builtin PySem.Builtin.Str in
def GZ:MtR X "str.split" GX:=by
 rintro pins s σ H x xs v us Q I rx rv ⟨a,b,rfl,rfl,hb,ha,U,q⟩;obtain⟨t,rfl⟩:=rx;obtain⟨u,rfl,t',rfl⟩:=rv.one;have O:(b.length==0)=ai:=by simpa using hb
 have B:∀(l:List (Str×Tok)) (tk:Nat),l.map (·.1)=lE a b->(qp l).length<=bx->EP X pins σ Q (.ref s.heap.objs.size) {s with heap:=s.heap.push {cls:=.type "list",data:=.seq (qp l).toArray},toks:=tk}:=λl tk e hl=>by
  refine⟨.ref _,_,I.lnew (t':=tk) (GY l) ?_,rfl,?_⟩
  .rw[cf,cf]
   simpa[qp]using hl
  .rw[e];exact q _ I.fresh
 cases L:(decide (a.length<b.length) || decide (strKind a<strKind b))
 .cases T:(occurrences a b 0 a.length (a.length+1)).isEmpty
  .refine qo F.slot_str_split (nO _ _ _) zN (zM _ _) (meets_str_split_sep a b t t' L O T ha U) ?_;rw[strsFrom_eq];refine B (numbered s.toks _) _ ((numbered_texts _ _).trans ((if_neg (ne_true_of_eq_false L)).trans (if_neg (ne_true_of_eq_false T))).symm) ?_;have:=congrArg ie (numbered_texts s.toks (partsBetween a (occurrences a b 0 a.length (a.length+1)) b.length));rw[cf]at this;unfold qp;rw[cf,this];exact U
  .exact qo F.slot_str_split (nO _ _ _) zN (zM _ _) (meets_str_split_not_found a b t t' L O T)
    (B [(a,t)] s.toks ((if_neg (ne_true_of_eq_false L)).trans (if_pos T)).symm (by show 1<=bx;decide))
 .exact qo F.slot_str_split (nO _ _ _) zN (zM _ _) (meets_str_split_cannot_occur a b t t' L)
   (B [(a,t)] s.toks (if_pos L).symm (by show 1<=bx;decide))
def G0{g:MF1}(h:PE X e (tBM X.K "str" GX (tD (Gx c X) f) (n8 (tD (Gx c X) g) lG))):DE c X e (m2 lO f g):=PE.imp h λσ H Q q_=>by
 obtain⟨Hf0,H0,Hf,ρ,d,st,U,k⟩:=q_;obtain⟨x,y,O,T,q⟩:=qy U;unfold lO at q;split at q
 .rename_i a b;split at q
  .rename_i B;cases q;refine⟨Hf0,H0,Hf,ρ,_,st,O,λv dk H1 I r1=>?_⟩;cases (r1);exact⟨rfl,Hf0,H0,dk,ρ,_,st.step I,T,λu d8 H2 L r2=>⟨a,b,rfl,by rw[show u=V.str b from r2],B.1,by rw[dA];exact B.2.1,by rw[dA];exact B.2.2,λp hp=>k _ _ _ ((I.trans L).trans (Ext.new L.s hp)) ⟨p,_,rfl,cz,A1 _⟩⟩⟩
  .nomatch q
 .nomatch q
abbrev mV(x y:D):OD:=match x,y with
 |.str a,.int n=>if a.length=1/\0<=n/\n<=1000 then aa (.str ⟨(cQ n.toNat (a.cps.getD 0 0)).toArray⟩) else ae
 | _,_=>ae
def G1(z:Str)(n:Nat)(h:z.length=1):(cQ n z.cps).foldl (·++·) #[]=(cQ n (z.cps.getD 0 0)).toArray:=by
 have q:z.cps=#[z.cps.getD 0 0]:=by
  obtain⟨⟨l⟩⟩:=z
  match l,h with
  | [c],_=>rfl
 induction n with
 |zero=>rfl
 |succ n B=>
  rw[replicate_succ',qc,B,replicate_succ',q];apply Array.toList_inj.mp;simp
def w6:OpD c X (gb .Mult) mV:=by
 rintro pins s σ H vx vy v u Q I rx ry ⟨Hf,x,y,d,s0,r1,r2,e,k⟩;unfold mV at e;split at e
 .rename_i a n;split at e
  .rename_i B;cases e;cases (r1);cases (r2);obtain⟨t,rfl⟩:=rx;obtain⟨t',rfl⟩:=ry
   have q:∀tk T,EP X pins σ Q _ {s with toks:=tk}:=λtk T=>⟨.str _,H,I.tok tk,⟨T,rfl⟩,k _ Hf H (Ext.refl s0) rfl⟩
   refine P.mul_str ?_ ?_ ?_ ?_
   .rw[decide_eq_false (by lia),decide_eq_false (by lia)];rfl
   .intro L _;have:(2 ^ 63-1:Int) / n≥1:=Int.le_ediv_of_mul_le (by lia) (by lia);lia
   .intro _ _;rw[B.1];unfold zE.Str.tooLong bx;exact decide_eq_false (show ¬_ by lia)
   .by_cases L:n<1
    .rw[if_pos L];have U:n.toNat=0:=by lia
     refine⟨by decide,?_⟩;rw[U]at q;exact q _ _
    .rw[if_neg L]
     by_cases O:n=1
     .rw[if_pos (by simp[O])]
      have e1:(⟨(cQ n.toNat (a.cps.getD 0 0)).toArray⟩:Str)=a:=by
       have:=G1 a n.toNat B.1;rw[<- this,O];show(⟨#[]++a.cps⟩:Str)=a;rw[Array.empty_append]
      rw[e1]at q;exact q s.toks t
     .rw[if_neg (by simp[O,B.1]),G1 a _ B.1];refine⟨?_,q _ _⟩;show(cQ n.toNat _).toArray.size<=_;rw[size_toArray,gA,dA];lia
  .nomatch e
 .nomatch e
def w9(I:Gl X x)(q:∃t,X.mg x=aa (.str g t))(hd:NDb x:=by decide):DE c X (.Name x pos) (λ_=>aa (.str g)):=by
 obtain⟨t,q⟩:=q
 exact PE.imp (qs I q (v:=.str g) ⟨t,rfl⟩ hd) λσ H Q L=>by
  obtain⟨Hf0,H0,Hf,ρ,d,st,B,k⟩:=L;cases B;exact k _ Hf H (Ext.refl st.sub) rfl
abbrev Its(x:Str):It:=⟨λi _=>i<x.length,λi H v H'=>H'=H/\∃ch,x.cps[i]?=aa ch/\v=.str ⟨#[ch]⟩,λi _=>x.length<=i⟩
variable{K:bo}
def N9{w:World}(it:Addr)(x:Str)(t:Tok):lF P w K tg (Its x) [it] it (λi h=>h.IsStrIter it "str_ascii_iterator" x t i) where
 mem:=bR.mpr rfl
 obj:=λi h ⟨o,e,oc,od⟩ b hb=>by
  cases bR.mp hb;exact⟨o,e,λv z=>by rw[od]at z;nomatch z⟩
 keep:=λi h h' ⟨o,e,r⟩ k=>⟨o,k it (bR.mpr rfl) o e,r⟩
 item:=by
  intro X eP ew eK cm i pins s σ H E I hf st hg;obtain⟨f0,f1,f2,f3,f4,f5⟩:=hf it (bR.mpr rfl);have hx:=Array.getElem?_eq_getElem hg;refine wpAny_pyNext_ascii_item st hx λh' oo sb=>?_
  have I1:Inv X pins σ H {s with heap:=h',toks:=s.toks+1}:=I.turned (λb o hb e=>(sb.2 b hb).trans e) f0 f1 f3 f4 f5
  obtain⟨o,e,oc,od⟩:=id oo;exact⟨_,rfl,sV e oc od (by decide) ⟨.str ⟨#[x.cps[i]]⟩,H,I1,⟨_,rfl⟩,⟨rfl,_,hx,rfl⟩,oo,λb hb=>(hf b hb).1⟩⟩
 done:=by
  intro X eP ew eK cm i pins s σ H E I hf st hg;obtain⟨f0,f1,f2,f3,f4,f5⟩:=hf it (bR.mpr rfl);exact wpAny_pyNext_ascii_end (I.ok.hd cm) st (Array.getElem?_eq_none hg) λh' eb=>⟨rfl,I.turned (λb o hb e=>eb b o hb e) f0 f1 f3 f4 f5⟩
 self:=λ_ _ _ _ _ st h=>wpAny_pyIter_striter_ascii st h
abbrev qP(f:MF1)(ρ:LS):OLD:=(f ρ).bind λd=>match d with
 |.str x=>if x.cps.all (· < 128)=ac then aa (x.cps.toList.map λch=>.str ⟨#[ch]⟩) else ae
 | _=>ae
def Oa:ot G Hf (Its x) (x.cps.toList.map λch=>D.str ⟨#[ch]⟩):=λHf' H' f s i=>by
 refine⟨λd q=>?_,λB=>?_⟩
 .rw[fL]at q
  cases e:x.cps.toList[i]? with
  |none=>rw[e]at q;nomatch q
  |some ch=>
   rw[e]at q;cases q;have hi:i<x.cps.size:=by simpa using (cV.mp e).1
   refine⟨hi,λv H2 ⟨L,T,I,O⟩=>?_⟩;subst L O;rw[<- Array.getElem?_toList,e]at I;cases I;exact⟨Hf',Ext.refl s,rfl⟩
 .rw[cf,zx]at B;exact vN B.symm
def Ob{l:Expr}{tl:TE}(T:PE X l tl):PI X tg l (λσ H R=>tl σ H λx H1=>∃z,x=.str z/\z.cps.all (· < 128)=ac/\R (Its z) H1):=by
 intro pins s σ H R I h;refine thn (T pins s σ H _ I h) λv s1 U=>?_;obtain⟨x,H1,B,r1,z,L,as,q⟩:=U;subst L;obtain⟨t,rfl⟩:=r1;refine wpAny_pyIter_ascii as ?_;refine⟨s1.heap.objs.size,_,_,_,H1,rfl,B.kept λb o e=>gc _ e,N9 _ z t,⟨_,iQ _ rfl,rfl,rfl⟩,λb O=>?_,q⟩;cases bR.mp O;exact B.fpOk Nat.le.refl (B.hok.fresh Nat.le.refl)
def Oc(h:DE c X e f):DI c X tg e (qP f):=PI.imp (Ob h) λσ H R I=>by
 obtain⟨Hf0,H0,Hf,ρ,ds,st,q,k⟩:=I;unfold qP at q
 cases B:f ρ with
 |none=>rw[B]at q;nomatch q
 |some d=>
  rw[B,aD]at q
  cases d <;> first |(cases q;done) |skip
  rename_i x;replace q:(if x.cps.all (· < 128)=ac then aa _ else ae)=aa ds:=q;split at q
  .rename_i as;cases q;exact⟨Hf0,H0,Hf,ρ,_,st,B,λv dk H1 O L=>⟨x,L,as,k _ dk H1 O Oa⟩⟩
  .nomatch q
abbrev inS(y x:Str):Bool:=!(EZ x y 0 x.length 1).isEmpty
abbrev mW(y x:D):OD:=match y,x with
 |.str y,.str x=>aa (.bl (inS y x))
 | _,_=>ae
def G2:∀x y d,mW x y=aa d->d.scalar=ac:=λx y d e=>by
 unfold mW at e;split at e
 .cases e;rfl
 .nomatch e
def G3:OpD c X (eB .In) mW:=by
 rintro pins s σ H U vy v u Q I L O ⟨Hf,x,y,d,T,q,B,e,k⟩;unfold mW at e;split at e
 .rename_i y x;cases e;cases (q);cases (B);obtain⟨t,rfl⟩:=L;obtain⟨t',rfl⟩:=O;exact PyProof.Rows.in_str ⟨.bl _,H,I,rfl,k _ Hf H (Ext.refl T) rfl⟩
 .nomatch e
abbrev Od:V->Option Int->Option Int->Hp->VK->Prop:=λx lo hi H Q=>∃z,x=.str z/\z.length<=bx/\Q (.str (gV z lo hi)) H
def G4:SlR X Od:=by
 rintro pins s σ H x v vl vu lo hi sl Q I rx hs pl pu ⟨z,rfl,T,q⟩;obtain⟨t,rfl⟩:=rx;refine⟨"str",_,F.slot_str_getitem.lookup,nO _ _ _,?_⟩
 have B:∀t' k,EP X pins σ Q _ {s with toks:=k}:=λt' k=>⟨.str _,H,I.tok k,⟨t',rfl⟩,q⟩
 obtain⟨o,O,L,hd⟩:=hs
 cases pl with
 |none=>
  cases pu with
  |none=>exact vR (l:=ae) (u:=ae) (st:=ae) ⟨o,O,L,hd⟩ rfl (vU ⟨ig (vZ z _ _) T,B⟩)
  |int i U=>exact vR (l:=ae) (u:=aa (i,U)) (st:=ae) ⟨o,O,L,hd⟩ rfl (vU ⟨ig (vZ z _ _) T,B⟩)
 |int j tj=>
  cases pu with
  |none=>exact vR (l:=aa (j,tj)) (u:=ae) (st:=ae) ⟨o,O,L,hd⟩ rfl (vU ⟨ig (vZ z _ _) T,B⟩)
  |int i U=>exact vR (l:=aa (j,tj)) (u:=aa (i,U)) (st:=ae) ⟨o,O,L,hd⟩ rfl (vU ⟨ig (vZ z _ _) T,B⟩)
abbrev mY(d:D)(lo hi:Option Int):OD:=match d with
 |.str z=>if z.length<=16777216 then aa (.str (gV z lo hi)) else ae
 | _=>ae
def G5{r:D}(h:mY d lo hi=aa r):∃z,d=.str z/\z.length<=bx/\r=.str (gV z lo hi):=by
 unfold mY at h;split at h
 .split at h
  .rename_i q;cases h;exact⟨_,rfl,by rw[dA];exact q,rfl⟩
  .nomatch h
 .nomatch h
abbrev oO(f:MF1)(l h:LS->Option (Option Int))(ρ:LS):OD:=(f ρ).bind λd=>(l ρ).bind λlo=>(h ρ).bind λhi=>mY d lo hi
def A2{l h:LS->Option (Option Int)}{lo hi:Option Expr}(ha:DE c X e f)(hl:DPt c X lo l)(hh:DPt c X hi h):DE c X (.Subscript e (.Slice lo hi ae p2) pos) (oO f l h):=
 PE.imp (wf G4 ha hl hh) λσ H Q q_=>by
  obtain⟨Hf0,H0,Hf,ρ,r,st,q,k⟩:=q_;unfold oO at q
  cases I:f ρ with
  |none=>rw[I]at q;nomatch q
  |some d=>
   rw[I,aD]at q
   cases L:l ρ with
   |none=>rw[L]at q;nomatch q
   |some U=>
    rw[L,aD]at q
    cases O:h ρ with
    |none=>rw[O]at q;nomatch q
    |some T=>
     rw[O,aD]at q;obtain⟨z,rfl,hz,rfl⟩:=G5 q;exact⟨Hf0,H0,Hf,ρ,_,st,I,λv dk H1 x1 r1=>⟨Hf0,H0,dk,ρ,U,st.step x1,L,λd8 H2 x2=>⟨Hf0,H0,d8,ρ,T,(st.step x1).step x2,O,λB H3 x3=>⟨z,r1,hz,k _ B H3 ((x1.trans x2).trans x3) rfl⟩⟩⟩⟩
abbrev G6:V->List V->Hp->VK->Prop:=λx vs H Q=>∃a b,x=.str a/\vs=[.str b]/\Q (.bl (vY a b)) H
def G7:MtR X "str.startswith" G6:=by
 rintro pins s σ H x xs v us Q I L B ⟨a,b,rfl,rfl,q⟩;obtain⟨t,rfl⟩:=L;obtain⟨u,rfl,t',rfl⟩:=B.one;exact SC.startswith ⟨.bl _,H,I,rfl,q⟩
abbrev xa(x y:D):OD:=match x,y with
 |.str a,.str b=>aa (.bl (vY a b))
 | _,_=>ae
def G8{g:MF1}(h:PE X e (tBM X.K "str" G6 (tD (Gx c X) f) (n8 (tD (Gx c X) g) lG))):DE c X e (m2 xa f g):=PE.imp h λσ H Q T=>by
 obtain⟨Hf0,H0,Hf,ρ,d,st,O,k⟩:=T;obtain⟨x,y,I,L,q⟩:=qy O;unfold xa at q;split at q
 .rename_i a b;cases q;refine⟨Hf0,H0,Hf,ρ,_,st,I,λv dk H1 B U=>?_⟩;cases (U);exact⟨rfl,Hf0,H0,dk,ρ,_,st.step B,L,λu d8 H2 x2 r2=>⟨a,b,rfl,by rw[show u=V.str b from r2],k _ d8 H2 (B.trans x2) rfl⟩⟩
 .nomatch q
def Oe:jM X (.type "int") (λxs H Q=>∃z n,xs=[.str z]/\vT z=aa n/\z.length<=640/\Q (.int n) H):=by
 rintro pins s σ H xs us Q I r ⟨z,n,rfl,L,B,q⟩;obtain⟨_,rfl,t,rfl⟩:=qu r;exact W.KIN.call_text L B ⟨.int n,H,I.tok _,⟨_,rfl⟩,q⟩
def Of:iP "int"=aa (.type "int"):=by decide +kernel
def Og:iP "str"=aa (.type "str"):=by decide +kernel
abbrev xb(x:D):OD:=match x with
 |.str z=>if z.length<=640 then (vT z).map .int else ae
 | _=>ae
abbrev jV(x:D):OD:=match x with
 |.int i=>if i.natAbs.log2<1920 then aa (.str (sR i)) else ae
 | _=>ae
abbrev G9(K:bo)(mg:MGT)(x:Str)(q:LSt):Prop:=∃a o its n,mg x=aa (.ref a)/\K.lookup a=aa o/\o.cls=.type "tuple" /\ o.data=.seq its n/\its.size<=bx/\aW (q.map V.str) its.toList
def Oh(T:Gl X "int")(U:X.mg "int"=ae)(O:DE c X e f)(L:bf [e] X.env=(ai,eval e X.env)::bf [] X.env:=by rfl):DE c X (.Call (.Name "int" p) [e] [] pos) (m1 xb f):=PE.imp (FD Oe T U Of (bW O cN L) (by decide) (by decide) L rfl) λσ H Q q_=>by
 obtain⟨Hf0,H0,Hf,ρ,d,st,q,k⟩:=q_;unfold m1 at q
 cases B:f ρ with
 |none=>rw[B]at q;nomatch q
 |some x=>
  rw[B,aD]at q;unfold xb at q;split at q
  .rename_i z;split at q
   .rename_i hz
    cases I:vT z with
    |none=>rw[I]at q;nomatch q
    |some n=>
     rw[I]at q;cases q;refine⟨Hf0,H0,Hf,ρ,_,st,B,λv dk H1 x1 r1=>?_⟩;cases (r1);exact⟨z,n,rfl,I,hz,k _ dk H1 x1 rfl⟩
   .nomatch q
  .nomatch q
def xc(O:Gl X "str")(T:X.mg "str"=ae)(L:DE c X e f)(I:bf [e] X.env=(ai,eval e X.env)::bf [] X.env:=by rfl):DE c X (.Call (.Name "str" p) [e] [] pos) (m1 jV f):=PE.imp (FD Mb O T Og (bW L cN I) (by decide) (by decide) I rfl) λσ H Q q_=>by
 obtain⟨Hf0,H0,Hf,ρ,d,st,q,k⟩:=q_;unfold m1 at q
 cases B:f ρ with
 |none=>rw[B]at q;nomatch q
 |some x=>
  rw[B,aD]at q;unfold jV at q;split at q
  .rename_i i;split at q
   .rename_i U;cases q;refine⟨Hf0,H0,Hf,ρ,_,st,B,λv dk H1 x1 r1=>?_⟩;cases (r1);exact⟨i,rfl,U,k _ dk H1 x1 rfl⟩
   .nomatch q
  .nomatch q
variable{f:Addr}
def ud{m:LD->OD}(pk:Pk X.prog X.w X.K X.mg X.base CX0 k x (f,fd) [] (spD (Gx c X) ([]:LSt).length m))(I:bT k0 X.A)(q:NDb x:=by decide)(B:k<=k0:=by decide)(U:Gl X x:=by first |rfl |exact glc rfl):
  DE c X (.Call (.Name x p) [] [] pos) (aS m nZ):=PE.imp (Mx pk.ok (I.mono B) U pk.g pk.kp pk.b .nil jj q) λσ H Q q_=>by
 obtain⟨Hf0,H0,Hf,ρ,d,st,T,kq⟩:=q_;obtain⟨ds,L,O⟩:=Au T;cases L;exact⟨Hf,[],d,st.sub,rfl,rfl,O,λv d8 H2 x2 r2=>kq v d8 H2 x2 r2⟩
def Oi{q:LSt}(L:Gl X x)(B:G9 X.K X.mg x q)(hd:NDb x:=by decide):DE c X (.Name x pos) (λ_=>aa (.kt (q.map D.str))):=by
 obtain⟨a,o,its,n,B,T,oc,od,O,vs⟩:=B
 exact PE.imp (qs L B (v:=.ref a) rfl hd) λσ H Q U=>by
  obtain⟨Hf0,H0,Hf,ρ,d,st,I,k⟩:=U;cases I;exact k _ Hf H (Ext.refl st.sub) ⟨a,q.map V.str,rfl,.inr ⟨o,its,n,T,oc,od,O,vs⟩,A1 q⟩
abbrev oP(G:Gc)(cn:Str)(ns:LSt)(n:Nat)(m:Addr->LD->LD->Option (LD×D)):Sp:=λvs H Q _=>∃Hf ds xs ys d l dx us vs1,vs=.ref l::vs1/\aR Hf H/\Hf l=ae/\H l=aa (.ins (G.cl cn) dx (ns.zip us))/\ns.length=us.length/\aF G Hf ds vs1/\aF G Hf xs us/\1+ds.length=n/\m l ds xs=aa (ys,d) /\
 ∀v Hf' H' B q,Ext Hf (eI H l) Hf' H'->Hf' l=ae->H' l=aa (.ins (G.cl cn) B (ns.zip q))->ns.length=q.length->aF G Hf' ys q->Rep G Hf' d v->Q v H'
abbrev dC(N:Nat)(l:Addr)(cn:Str)(ns:LSt)(ds xs:LD):LS:=(iy N (.non::ds)).set 0 (.pino l cn ns xs)
open Classical in
abbrev ju(l:Addr)(cn:Str)(ns:LSt)(ρ:LS):OLD:=match (ρ[0]?:Option Sl)with
 |some (Sl.pino l' c' n' ys)=>if l'=l/\c'=cn/\n'=ns then aa ys else ae
 | _=>ae
variable{ns:LSt}
def Ha(h:ju l cn ns ρ=aa ys):ρ[0]?=aa (.pino l cn ns ys):=by
 unfold ju at h;split at h
 .rename_i e;split at h
  .rename_i q;obtain⟨rfl,rfl,rfl⟩:=q;cases h;exact e
  .nomatch h
 .nomatch h
def Hb(h:ρ[0]?=aa (.pino l cn ns ys)):ju l cn ns ρ=aa ys:=by
 unfold ju;rw[h];exact if_pos ⟨rfl,rfl,rfl⟩
abbrev c4(N:Nat)(cn:Str)(ns:LSt)(F:MF3)(l:Addr)(ds xs:LD):Option (LD×D):=(F (dC N l cn ns ds xs)).bind λo=>match o with
 |.nx ρ=>(ju l cn ns ρ).map λys=>(ys,.non)
 |.rtS d ρ=>(ju l cn ns ρ).map λys=>(ys,d)
 | _=>ae
def aG.startMI{dx:Addr}(B:aR Hf H)(q:Hf l=ae)(I:H l=aa (.ins (G.cl cn) dx (ns.zip us)))(L:ns.length=us.length)(r:aF G Hf ds vs1)(O:aF G Hf xs us):
  aG G Hf (eI H l) Hf H (L2.start N (.ref l::vs1)) (dC N.length l cn ns ds xs):=by
 exact(aG.start (tZ B q) (.cons (d:=.non) rfl r)).setOwn (i:=0) rfl (Ext.grow (tZ B q) AQ) tY q ⟨rfl,dx,us,I,L,O⟩
def dW{w:World}(Fn:Fun K x qual st f fd)(S:aX N ps (aK st))
 (h:∀(cdv:Value) (A:dL) (outer:List Env) (s:ax) (H:Hp) (E:XK),bT k (A.deeper (gC qual (aK st) s.heap.objs.size f cdv))->DSs c (gF CX0 P w K mg base N qual (aK st) f cdv A outer s H E).nox (iV st) F)(hn_:N.length=n_:=by rfl):
  dH P w K mg base CX0 (k+1) f fd ps (oP ⟨K,c⟩ cn ns ps.length (c4 n_ cn ns F)):=by
 subst hn_;refine Fn.ok S (λvs H Q E q_=>by obtain⟨Hf,ds,xs,ys,d,l,dx,us,vs1,ev,s0,hf,hu,hz,r,rx,hn,_⟩:=q_;rw[ev,aQ,<- r.length];lia) λcdv A outer s H vs Q E hr q_=>?_;obtain⟨Hf,ds,xs,ys,d,l,dx,us,vs1,ev,s0,hf,hu,hz,r,rx,hn,e,kq⟩:=q_;refine⟨_,h cdv A outer s H E hr,?_⟩;subst ev;unfold c4 at e
 cases eF:F _ with
 |none=>rw[eF]at e;nomatch e
 |some o=>
  rw[eF,aD]at e;refine⟨Hf,eI H l,Hf,_,o,aG.startMI s0 hf hu hz r rx,eF,?_⟩
  cases o with
  |nx ρ=>
   replace e:(ju l cn ns ρ).map _=aa _:=e
   cases B:ju l cn ns ρ with
   |none=>rw[B]at e;nomatch e
   |some zs=>
    rw[B]at e;cases e;intro σ' Hf' H' _ so;obtain⟨l',e1,h0,I,e2,q,U,L,O,T⟩:=so.ownAt rfl (Ha B);subst e2
    exact kq .non Hf' H' q U so.ext I L O T rfl
  |rtS d' ρ=>
   replace e:(ju l cn ns ρ).map _=aa _:=e
   cases B:ju l cn ns ρ with
   |none=>rw[B]at e;nomatch e
   |some zs=>
    rw[B]at e;cases e;intro v σ' Hf' H' so r;obtain⟨l',e1,h0,I,e2,q,U,L,O,T⟩:=so.ownAt rfl (Ha B);subst e2
    exact kq v Hf' H' q U so.ext I L O T r
  | _=>nomatch e
abbrev aw(i:Nat)(cn fl:Str)(ns:LSt)(m:Addr->LD->LD->Option (LD×D))(f:Xa):Xe:=λρ=>match ρ[i]? with
 |some (.pino _ c0 n0 _)=>if c0=cn/\n0=ns/\ns.contains fl=ai then (f ρ).bind λp=>match p.2[i]? with
  |some (.pino l c' n' xs)=>if c'=cn/\n'=ns then (m l p.1 xs).map λq=>(q.2,p.2.set i (.pino l cn ns q.1)) else ae
  | _=>ae else ae
 | _=>ae
open Classical in
abbrev mZ(i:Nat)(cn fl:Str)(ns:LSt)(m:Addr->LD->LD->Option (LD×D))(f:Xa):Xe:=λρ=>match ρ[i]? with
 |some (.obj c0 n0 _)=>if c0=cn/\n0=ns/\ns.contains fl=ai then (f ρ).bind λp=>match p.2[i]? with
  |some (.obj c' n' xs)=>if c'=cn/\n'=ns then (if h:∃q,∀l,m l p.1 xs=aa q then aa (h.choose.2,p.2.set i (.obj cn ns h.choose.1)) else ae) else ae
  | _=>ae else ae
 | _=>ae
variable{m:Addr->LD->LD->Option (LD×D)}{Q:VK}
def Hc{fl:Str}{t:TA}(ht:∀σ H Q,oJ (Gx c X) fa σ H Q->t σ H Q)(hn:∀ρ ds ρ',fa ρ=aa (ds,ρ')->1+ds.length=ps.length)(q_:tDX (Gx c X) (aw i cn fl ns m fa) σ H Q):qv (c cn) fl (oP (Gx c X) cn ns ps.length m) [] E0 (df i) t σ H Q:=by
 obtain⟨Hf0,H0,Hf,ρ,d,ρ',st,B,kq⟩:=q_;unfold aw at B;split at B
 .rename_i l0 c0 n0 j4 eo0;split at B
  .rename_i hc0;obtain⟨rfl,rfl,ny⟩:=hc0
   cases O:fa ρ with
   |none=>rw[O]at B;nomatch B
   |some pp=>
    obtain⟨ds,ρ1⟩:=pp;rw[O,aD]at B;split at B
    .rename_i l c' n' xs eo;split at B
     .rename_i hcc;obtain⟨rfl,rfl⟩:=hcc
      cases e2:m l ds xs with
      |none=>rw[e2]at B;nomatch B
      |some q=>
       rw[e2]at B;cases B;obtain⟨l1,el,_,_,_,dx,us,hu,_,_⟩:=st.ownAt rfl eo0;refine⟨_,el,l1,dx,n'.zip us,rfl,hu,tO ny,ht _ _ _ ⟨Hf0,H0,Hf,ρ,ds,ρ1,st,O,λvs Hf' H' f1 I r=>?_⟩⟩;rw[cM];obtain⟨l2,L,h02,g7,eq2,U,hO,g8,n7,hI⟩:=I.ownAt rfl eo;subst eq2;rw[el]at L;cases L;exact⟨Hf',ds,xs,q.1,q.2,l1,U,hO,vs,rfl,I.sub,g7,g8,n7,r,hI,hn _ _ _ O,e2,λv T H3 dx3 kT x3 ko ky hz3 kF r3=>kq v T H3 (f1.trans x3.f) (I.back rfl rfl eo el x3 ko ⟨rfl,dx3,kT,ky,hz3,kF⟩) r3⟩
     .nomatch B
    .nomatch B
  .nomatch B
 .nomatch B
def Oj{fl:Str}{t:TA}(ht:∀σ H Q,oJ (Gx c X) fa σ H Q->t σ H Q)(hn:∀ρ ds ρ',fa ρ=aa (ds,ρ')->1+ds.length=ps.length)(q_:tDX (Gx c X) (mZ i cn fl ns m fa) σ H Q):qv (c cn) fl (oP (Gx c X) cn ns ps.length m) [] E0 (df i) t σ H Q:=by
 obtain⟨Hf0,H0,Hf,ρ,d,ρ',st,B,kq⟩:=q_;unfold mZ at B;split at B
 .rename_i c0 n0 j4 eo0;split at B
  .rename_i hc0;obtain⟨rfl,rfl,ny⟩:=hc0
   cases O:fa ρ with
   |none=>rw[O]at B;nomatch B
   |some pp=>
    obtain⟨ds,ρ1⟩:=pp;rw[O,aD]at B;split at B
    .rename_i c' n' xs eo;split at B
     .rename_i hcc;obtain⟨rfl,rfl⟩:=hcc;split at B
      .rename_i hq;have e2:=hq.choose_spec;generalize hq.choose=q at B e2;cases B;obtain⟨l1,el,_,_,dx,us,hu,_,_⟩:=st.ownAt rfl eo0;refine⟨_,el,l1,dx,n'.zip us,rfl,hu,tO ny,ht _ _ _ ⟨Hf0,H0,Hf,ρ,ds,ρ1,st,O,λvs Hf' H' f1 I r=>?_⟩⟩;rw[cM];obtain⟨l2,L,h02,g7,U,hO,g8,n7,hI⟩:=I.ownAt rfl eo;rw[el]at L;cases L;exact⟨Hf',ds,xs,q.1,q.2,l1,U,hO,vs,rfl,I.sub,g7,g8,n7,r,hI,hn _ _ _ O,e2 l1,λv T H3 dx3 kT x3 ko ky hz3 kF r3=>kq v T H3 (f1.trans x3.f) (I.back rfl rfl eo el x3 ko ⟨dx3,kT,ky,hz3,kF⟩) r3⟩
      .nomatch B
     .nomatch B
    .nomatch B
  .nomatch B
 .nomatch B
variable{e6:Pos}{pl:Sem Bool}
def bS{fl:Str}(T:PE X o (df i))(pk:Pm X.prog X.w X.K X.mg X.base CX0 k (c cn) fl (f,fd) ps (oP (Gx c X) cn ns ps.length m))(I:bT k0 X.A)(O:DAX c X (e::es) fa)(hl:(e::es).length+1=ps.length:=by rfl)(L:StE X e es:=by rfl)(B:BkE X pos es:=by rfl)(U:eval (.Call (.Attribute o fl e6) (e::es) [] pos) X.env=(do
   let ov <- eval o X.env
   ij e6.atName
   let (f,first) <- fP [ov] (ki ov fl pl)
   mq pos f first (eD pos (bf (e::es) X.env)) (jg pos (je [] X.env))):=by rfl)(q:k<=k0:=by decide):
  DX c X (.Call (.Attribute o fl e6) (e::es) [] pos) (aw i cn fl ns m fa):=PE.imp (Fw T pk.c pk.m pk.ok (I.mono q) pk.b .nil jj O.pa L B U) λσ H Q q_=>Hc (λ_ _ _ h=>h) (λρ ds ρ' h=>by have:=O.len ρ ds ρ' h;lia) q_
def aM{fl:Str}(T:PE X o (df i))(pk:Pm X.prog X.w X.K X.mg X.base CX0 k (c cn) fl (f,fd) ps (oP (Gx c X) cn ns ps.length m))(B:bT k0 X.A)(O:1=ps.length:=by rfl)(U:eval (.Call (.Attribute o fl e6) [] [] pos) X.env=(do
   let ov <- eval o X.env
   ij e6.atName
   let (f,first) <- fP [ov] (ki ov fl pl)
   mq pos f first (eD pos (bf [] X.env)) (jg pos (je [] X.env))):=by rfl)(q:k<=k0:=by decide):
  DX c X (.Call (.Attribute o fl e6) [] [] pos) (aw i cn fl ns m af):=PE.imp (we T pk.c pk.m pk.ok (B.mono q) pk.b .nil jj U) λσ H Q I=>Hc (λσ H Q I=>by obtain⟨Hf0,H0,Hf,ρ,ds,ρ',st,L,k⟩:=I;cases L;exact k [] Hf H (aR.refl _) st rfl) (λρ ds ρ' h=>by cases h;exact O) I
def A3{fl:Str}(T:PE X o (df i))(pk:Pm X.prog X.w X.K X.mg X.base CX0 k (c cn) fl (f,fd) ps (oP (Gx c X) cn ns ps.length m))(B:bT k0 X.A)(O:1=ps.length:=by rfl)(U:eval (.Call (.Attribute o fl e6) [] [] pos) X.env=(do
   let ov <- eval o X.env
   ij e6.atName
   let (f,first) <- fP [ov] (ki ov fl pl)
   mq pos f first (eD pos (bf [] X.env)) (jg pos (je [] X.env))):=by rfl)(q:k<=k0:=by decide):
  DX c X (.Call (.Attribute o fl e6) [] [] pos) (mZ i cn fl ns m af):=PE.imp (we T pk.c pk.m pk.ok (B.mono q) pk.b .nil jj U) λσ H Q I=>Oj (λσ H Q I=>by obtain⟨Hf0,H0,Hf,ρ,ds,ρ',st,L,k⟩:=I;cases L;exact k [] Hf H (aR.refl _) st rfl) (λρ ds ρ' h=>by cases h;exact O) I
abbrev jW(i:Nat)(cn fl:Str)(ρ:LS):OD:=match ρ[i]? with
 |some (.pino _ c' ns xs)=>if c'=cn then (ns.zip xs).lookup fl else ae
 | _=>ae
def oQ{fl:Str}(cn:Str)(hc:Cls X.K (c cn))(hn:ji X.K (c cn) fl)(ho:PE X o (df i))(U:mo o fl X.env (eval o X.env)=eval o X.env:=by rfl):DE c X (.Attribute o fl pos) (jW i cn fl):=PE.imp (Mp ho U) λσ H Q q_=>by
 obtain⟨Hf0,H0,Hf,ρ,d,st,q,k⟩:=q_;unfold jW at q;split at q
 .rename_i l0 I ns xs O;split at q
  .rename_i B;subst B;obtain⟨l,L,_,_,_,dx,us,hu,_,rx⟩:=st.ownAt rfl O;obtain⟨u,T,ru⟩:=AA q rx;exact⟨_,L,l,c I,dx,ns.zip us,u,rfl,hu,hc,hn,T,k u Hf H (Ext.refl st.sub) ru⟩
  .nomatch q
 .nomatch q
abbrev k4{q:Type}(f:Str)(v:q):LSt->List q->List q
 |n::ns,x::xs=>if n=f then v::xs else x::k4 f v ns xs
 | _,xs=>xs
def Hd{q:Type}(f:Str)(v:q):∀(ns:LSt) (xs:List q),(k4 f v ns xs).length=xs.length
 | [],_=>rfl
 | _::_,[]=>rfl
 |n::ns,x::xs=>by
  unfold k4;split
  .rfl
  .rw[aQ,Hd f v ns xs,aQ]
def He{f:Str}{v:V}:∀{ns:LSt} {us:List V},ns.length=us.length->ns.contains f=ac->fF f v (ns.zip us)=ns.zip (k4 f v ns us)
 | [],_,_,h=>by cases h
 | _::_,[],hl,_=>by cases hl
 |n::ns,u::us,hl,h=>by
  rw[nI];unfold fF k4
  by_cases e:n=f
  .rw[if_pos e,if_pos e,nI]
  .rw[if_neg e,if_neg e,nI]
   have q:ns.contains f=ac:=by
    rw[vK,jH]at h
    rcases h with h |h
    .exact absurd (eq_of_beq h).symm e
    .exact h
   rw[He (by simpa using hl) q]
def Hg{G:Gc}{H:Hp}{f:Str}{d:D}{v:V}(B:Rep G H d v):∀{ns:LSt} {ds:LD} {us:List V},aF G H ds us->aF G H (k4 f d ns ds) (k4 f v ns us)
 | [],_,_,r=>by
  exact r
 |n::ns,[],us,r=>by cases (show us=[]from r);exact r
 |n::ns,x::ds,us,r=>by
  obtain⟨u,L,rfl,I,q⟩:=r;unfold k4
  by_cases e:n=f
  .rw[if_pos e,if_pos e];exact .cons B q
  .rw[if_neg e,if_neg e];exact .cons I (Hg B q)
abbrev ue(i:Nat)(cn fl:Str)(f:MF1)(ρ:LS):Option Fl:=match ρ[i]? with
 |some (.pino l c' ns xs)=>if c'=cn/\ns.contains fl=ac/\ns.length<1000 then ((ns.zip xs).lookup fl).bind λx=>(f ρ).bind λy=>(oM x y).map λz=>.nx (ρ.set i (.pino l cn ns (k4 fl z ns xs))) else ae
 | _=>ae
def Hh{fl:Str}{f':MF1}(cn:Str)(hc:Cls X.K (c cn))(hn:ji X.K (c cn) fl)(ho:PE X o (df i))(he:DE c X e f'):DS c X (.AugAssign (.Attribute o fl y3) .Add e pos) (ue i cn fl f'):=PS.imp (Mr ho he (λpins s σ H x y u v Q I L ry h=>GT pins s σ H x y u v Q I L ry h)) λE σ H q_=>by
 obtain⟨Hf0,H0,Hf,ρ,o,so,q,k⟩:=q_;unfold ue at q;split at q
 .rename_i l0 c' ns xs eo;split at q
  .rename_i hcc;obtain⟨rfl,gs,hlt⟩:=hcc
   cases O:(ns.zip xs).lookup fl with
   |none=>rw[O]at q;nomatch q
   |some x=>
    rw[O,aD]at q
    cases T:f' ρ with
    |none=>rw[T]at q;nomatch q
    |some y=>
     rw[T,aD]at q
     cases U:oM x y with
     |none=>rw[U]at q;nomatch q
     |some z=>
      rw[U]at q;cases q;obtain⟨l,el,h0,hf,eq,dx,us,hu,hz,L⟩:=so.ownAt rfl eo;subst eq;obtain⟨u,eu,ru⟩:=AA O L;refine⟨_,el,l,c c',dx,ns.zip us,u,rfl,hu,hc,hn,eu,Hf0,H0,Hf,ρ,y,so,T,λv2 dk H1 x1 r1=>⟨dk,x,y,z,x1.s,ru.up x1.f,r1,U,λv3 d8 H2 x2 r2=>?_⟩⟩;have B:=x1.trans x2;refine⟨dx,ns.zip us,B.h _ _ hu,?_,k σ d8 _ B.f ((so.step B).mutd rfl rfl eo el ⟨rfl,dx,k4 fl v3 ns us,?_,?_,Hg r2 (L.up B.f)⟩)⟩
      .rw[length_zip];lia
      .rw[cz,He hz gs]
      .rw[Hd];exact hz
  .nomatch q
 .nomatch q
def jX:DS c X st (λ_=>ae):=λpins s σ H E I B=>by
 obtain⟨Hf0,H0,Hf,ρ,o,so,q,k⟩:=B
 nomatch q
abbrev jv(t:Xt)(f g:Xe):Xe:=λρ=>(t ρ).bind λp=>if p.1 then f p.2 else g p.2
abbrev cC(f:Xe):Xt:=λρ=>(f ρ).bind λp=>(qz p.1).map λb=>(b,p.2)
abbrev qQ(t:Xt):Xt:=λρ=>(t ρ).map λp=>(!p.1,p.2)
abbrev dm(t:Xt)(F:MF3):Nat->MF3
 | 0,_=>ae
 |n+1,ρ=>(t ρ).bind λp=>if p.1 then (F p.2).bind λo=>match o with
   |.nx q=>dm t F n q
   |.ct q=>dm t F n q
   |.bk q=>aa (.nx q)
   |o=>aa o
  else aa (.nx p.2)
abbrev fT(i:Nat)(f:Xe)(ρ:LS):Option Fl:=(f ρ).map λp=>.nx (p.2.set i (.own [p.1]))
variable{t:Xt}{f:Xe}
def oR{g:Xe}(U:DTX c X cd t)(O:DX c X a f)(T:DX c X b g):DX c X (.IfExp cd a b pos) (jv t f g):=PE.imp (zV U O T) λσ H Q q_=>by
 obtain⟨Hf0,H0,Hf,ρ,d,ρ',so,B,k⟩:=q_;unfold jv at B
 cases L:t ρ with
 |none=>rw[L]at B;nomatch B
 |some x=>
  obtain⟨x,ρ1⟩:=x;rw[L,aD]at B;refine⟨Hf0,H0,Hf,ρ,x,ρ1,so,L,λdk H1 s1 I=>?_⟩
  cases x with
  |true=>rw[if_pos rfl];exact⟨Hf0,H0,dk,ρ1,d,ρ',I,B,λv d8 H2 s2 q r=>k v d8 H2 (s1.trans s2) q r⟩
  |false=>rw[if_neg cp];exact⟨Hf0,H0,dk,ρ1,d,ρ',I,B,λv d8 H2 s2 q r=>k v d8 H2 (s1.trans s2) q r⟩
def dQ(T:DX c X a f)(U:∀q,isTrue a X.env q=(do let v <- q;ij a.pos;fP [v] (truthy v)):=by intro _;rfl):DTX c X a (cC f):=PT.imp (Fm T U) λσ H Q q_=>by
 obtain⟨Hf0,H0,Hf,ρ,bb,ρ',so,B,k⟩:=q_;unfold cC at B
 cases L:f ρ with
 |none=>rw[L]at B;nomatch B
 |some x=>
  obtain⟨d,ρ1⟩:=x;rw[L,aD]at B
  cases O:qz d with
  |none=>rw[O]at B;nomatch B
  |some y=>
   rw[O]at B;cases B;exact⟨Hf0,H0,Hf,ρ,d,_,so,L,λv Hf' H' s1 I r=>⟨_,F1 O (r.up I.sub),k Hf' H' s1 I⟩⟩
def Hi(h:DTX c X a t):DTX c X (.UnaryOp .Not a pos) (qQ t):=PT.imp (E7 h) λσ H Q L=>by
 obtain⟨Hf0,H0,Hf,ρ,O,ρ',so,q,k⟩:=L;unfold qQ at q
 cases B:t ρ with
 |none=>rw[B]at q;nomatch q
 |some x=>
  rw[B]at q;cases q;exact⟨Hf0,H0,Hf,ρ,x.1,x.2,so,B,λHf' H' s1 I=>k Hf' H' s1 I⟩
def oS(n:Nat)(hp:nP (model X.prog X.w) X.A X.env X.xe)(hc:DTX c X cd t)(hb:DSs c X as F):DS c X (.While cd as [] pos) (dm t F n):=PS.imp (Fe hp hc hb) λE σ H q_=>by
 obtain⟨Hf0,H0,Hf,ρ,o,so,ef,k⟩:=q_;refine⟨λm σ' H'=>∃Hf' ρ',aG _ Hf0 H0 Hf' H' σ' ρ'/\aR Hf Hf'/\dm t F m ρ'=aa o,⟨n,Hf,ρ,so,aR.refl _,ef⟩,?_⟩;rintro m σ' H' ⟨Hf',ρ',so',s1,em⟩
 cases m with
 |zero=>nomatch em
 |succ m=>
  unfold dm at em
  cases et:t ρ' with
  |none=>rw[et]at em;nomatch em
  |some x=>
   obtain⟨x,ρ1⟩:=x;rw[et,aD]at em;refine⟨Hf0,H0,Hf',ρ',x,ρ1,so',et,λd8 H2 f2 T=>?_⟩;have sf:=s1.trans f2
   cases x with
   |false=>
    cases em
    exact k σ' d8 H2 sf T
   |true=>
    cases eF:F ρ1 with
    |none=>rw[eF]at em;nomatch em
    |some o1=>
     rw[eF]at em;refine⟨λU H3=>∃Hf' ρ',aG _ Hf0 H0 Hf' H3 U ρ'/\aR Hf Hf'/\dm t F m ρ'=aa o,λU H3 w=>⟨m,qg _,w⟩,Hf0,H0,d8,ρ1,o1,T,eF,?_⟩
     cases o1 with
     |nx I=>exact λL q H4 O B=>⟨q,I,B,sf.trans O,em⟩
     |ct I=>exact λL q H4 O B=>⟨q,I,B,sf.trans O,em⟩
     |bk I=>cases em;exact λL q H4 O B=>k L q H4 (sf.trans O) B
     |rt d=>cases em;exact k
     |rtO d=>cases em;exact k
     |rtS d I=>cases em;exact k
def k6(i:Nat)(U:X.N.Nodup)(he:DX c X e f)(hi:X.N[i]?=aa x:=by rfl)(hx:Loc X.env.scope x:=by first |exact bV rfl |exact bA rfl)(hs:eZ (.List [e] pos) (aa (.Name x ey)) gg.line X.env=pure ai:=by rfl)(T:bf [e] X.env=(ai,eval e X.env)::bf [] X.env:=by rfl)(hf:LcF X x:=by first |exact .inl rfl |exact .inr rfl):
  DS c X (.Assign [.Name x ey] (.List [e] pos) gg) (fT i f):=PS.imp (mx U hi hx (tm (bW he cN T)) hs hf) λE σ H q_=>by
 obtain⟨Hf0,H0,Hf,ρ,o,so,I,k⟩:=q_;unfold fT at I
 cases L:f ρ with
 |none=>rw[L]at I;nomatch I
 |some p=>
  rw[L]at I;cases I;exact⟨Hf0,H0,Hf,ρ,p.1,p.2,so,L,λv Hf' H' s B r=>⟨(by rw[dA];show 1<=16777216;decide),λq O=>(k _ Hf' _ s (B.setOwn rfl (Ext.grow B.sub (dN O)) O (B.sub.free O) ⟨[v],cz,.cons r .nil⟩))⟩⟩
abbrev oU(i:Nat)(cn:Str)(m:LD->Option (LSt×LD))(fa:MF2)(ρ:LS):Option Fl:=(fa ρ).bind λas=>(m as).map λr=>.nx (ρ.set i (.obj cn r.1 r.2))
variable{f:Addr}{fa:MF2}
def Hj(i:Nat){m:LD->Option (LSt×LD)}(cn:Str)(hN:X.N.Nodup)(M:Mk X.K (c cn) f)(F:dH X.prog X.w X.K X.mg X.base CX0 k f fd ps (spI (Gx c X) cn ps.length m))(hr:bT (k+1) X.A)(hg:Gl X x)(hm:X.mg x=aa (.ref (c cn)))(hb:gY X.K fd ps [])(ha:DA c X (e::es) fa)(hi:X.N[i]?=aa z:=by rfl)(hx:Loc X.env.scope z:=by first |exact bV rfl |exact bA rfl)
 (hl:(e::es).length+1=ps.length:=by rfl)(ri:NDb x:=by decide)(he:StE X e es:=by rfl)(hX:BkE X pos es:=by rfl)
 (hs:eZ (.Call (.Name x p) (e::es) [] pos) (aa (.Name z ey)) gg.line X.env=pure ai:=by rfl)(hfn:X.fn z=ac\/X.env.scope.names.lookup z=aa .local:=by first |exact .inl rfl |exact .inr rfl):
  DS c X (.Assign [.Name z ey] (.Call (.Name x p) (e::es) [] pos) gg) (oU i cn m fa):=PS.imp (mx hN hi hx (Mz M F hr hg hm hb .nil jj ha.pa ri he hX) hs hfn) λE σ H q_=>by
 obtain⟨Hf0,H0,Hf,ρ,o,st,B,kq⟩:=q_;unfold oU at B
 cases O:fa ρ with
 |none=>rw[O]at B;nomatch B
 |some as=>
  rw[O,aD]at B
  cases e2:m as with
  |none=>rw[e2]at B;nomatch B
  |some r=>
   rw[e2]at B;cases B;refine⟨Hf0,H0,Hf,ρ,as,st,O,λvs Hf' H' L rv y dx T ndx nex=>?_⟩;rw[cM];have hy:(upd H' dx (.own y)) y=ae:=by rw[bY nex.symm];exact T
   have s1:aR H' (upd H' dx (.own y)):=dN ndx;have s2:=s1.trans (dN (o:=.ins (c cn) dx []) hy)
   have s3:aR H' (del _ y):=λb u q=>by
    have:=gW q T;rw[Gp this];exact s2 b u q
   refine⟨y,dx,Hf',as,vs,r,rfl,cz,L.s.free T,L.s.trans s2,rv,by rw[ha.len ρ as O];exact hl,e2,λus d8 H2 U g7 hy2 I r2=>⟨rfl,?_⟩⟩;have x3:Ext Hf' H' d8 H2:=⟨U.f,s3.trans U.h,U.s,λl u q t=>U.n l u (s3 l u q) t⟩;exact kq _ d8 H2 (L.trans x3).f (st.setOwn rfl (L.trans x3) (L.h.free T) g7 ⟨dx,us,hy2,I,r2⟩)
variable{t:Nat}
def Ol{s:Sl}(B:js[t]?=aa j)(q:ρ[j]?=aa s):(fI k js ρ)[k+t]?=aa s:=by
 unfold fI;rw[nG (by rw[gA];exact Nat.le_add_right _ _),gA,Nat.add_sub_cancel_left,fL,B];show aa ((ρ[j]?).getD .no)=_;rw[q];rfl
variable{jp:Nat}
def aG.compP(k:Nat)(h:aG G Hf0 H0 Hf H σ ρ)(hj:js.Nodup)(I:ρ[jp]?=aa (.pin l xs))(hc:∀j∈js,j=jp\/((ρ[j]?).getD .no).calm=ac):
  aG G Hf (eI H l) Hf H (ik k js σ) (fI k js ρ):=by
 obtain⟨l',el,h0,hf,O,us,hu,rx⟩:=h.ownAt rfl I;subst O;have st:=h.comp k hj;refine st.re (Ext.grow (tZ h.sub hf) AQ) rfl (λi v s a b=>?_) λi s v a b c d=>⟨s,b,d⟩;have q:=st.at' i v s a b
 rcases ou b with⟨_,e⟩ |⟨_,b⟩
 .subst e;trivial
 .obtain⟨j,U,es⟩:=ow b
  rcases hc j (me U)with e |e
  .subst e;rw[I]at es;subst es;obtain⟨l2,L,_,B,T,w⟩:=q;subst T;exact⟨_,L,tY,B,rfl,w⟩
  .rw[<- es]at e
   cases s with
   |no=>trivial
   |im d=>exact q
   | _=>nomatch e
section
variable(k:Nat)(js:LN)(jp t:Nat)(g:D->LS->Option LS)(fe:Xe)(ρ:LS)(l:Addr)
open Classical in
abbrev oV(d:D)(xs:LD):Option (D×LD):=(g d (fI k js (ρ.set jp (.pin l xs)))).bind λρ1=>(fe ρ1).bind λq=>match q.2[k+t]? with
 |some (.pin _ xs')=>if ∀i,k<=i->q.2[i]?=(fI k js (ρ.set jp (.pin l xs')))[i]? then aa (q.1,xs') else ae
 | _=>ae
abbrev g9:LD->LD->Option (LD×LD)
 | [],xs=>aa ([],xs)
 |d::ds,xs=>(oV k js jp t g fe ρ l d xs).bind λy=>(g9 ds y.2).map λr=>(y.1::r.1,r.2)
end
abbrev gN(k:Nat)(js:LN)(jp t:Nat)(fi:Xa)(g:D->LS->Option LS)(fe:Xe):Xe:=λρ=>(fi ρ).bind λp=>match p.2[jp]? with
 |some (.pin l xs)=>if p.1.length<=16777216/\js[t]?=aa jp/\(js.all λj=>j==jp || ((p.2[j]?).getD .no).calm)=ac then (g9 k js jp t g fe p.2 l p.1 xs).map λq=>(.lst q.1,p.2.set jp (.pin l q.2)) else ae
 | _=>ae
variable{g:D->LS->Option LS}{fe:Xe}
def Om{y:D}{B:LD}(h:oV k js jp t g fe ρ l d xs=aa (y,B)):∃ρ1 I,g d (fI k js (ρ.set jp (.pin l xs)))=aa ρ1/\fe ρ1=aa (y,I)/\(∃O,I[k+t]?=aa (.pin O B))/\∀i,k<=i->I[i]?=(fI k js (ρ.set jp (.pin l B)))[i]?:=by
 unfold oV at h
 cases T:g d _ with
 |none=>rw[T]at h;nomatch h
 |some ρ1=>
  rw[T,aD]at h
  cases L:fe ρ1 with
  |none=>rw[L]at h;nomatch h
  |some q=>
   rw[L,aD]at h;split at h
   .rename_i O zs U;split at h
    .rename_i hi;cases h;exact⟨ρ1,q.2,rfl,L,⟨O,U⟩,hi⟩
    .nomatch h
   .nomatch h
def On(h:g9 k js jp t g fe ρ l (d::ds) xs=aa (rs,ys)):∃y q r,oV k js jp t g fe ρ l d xs=aa (y,q)/\g9 k js jp t g fe ρ l ds q=aa (r,ys)/\rs=y::r:=by
 unfold g9 at h
 cases I:oV k js jp t g fe ρ l d xs with
 |none=>rw[I]at h;nomatch h
 |some y=>
  rw[I,aD]at h
  cases B:g9 k js jp t g fe ρ l ds y.2 with
  |none=>rw[B]at h;nomatch h
  |some r=>rw[B]at h;cases h;exact⟨y.1,y.2,r.1,rfl,B,rfl⟩
def Hk{s:Sl}(h:ρ[jp]?=aa s):(ρ.set jp s')[jp]?=aa s':=gT (cV.mp h).1
variable{fi:Xa}
def Hm(hj:js.Nodup)(hk:∀d ρ ρ' i,g d ρ=aa ρ'->k<=i->ρ'[i]?=ρ[i]?)(g5:∀d ρ ρ',g d ρ=aa ρ'->ρ'.length=ρ.length)(h:tDX G (gN k js jp t fi g fe) σ H Q):
  og k js (AS G fi) (tDG G g) (tDT G λ_=>aa ac) (tDX G fe) σ H Q:=by
 obtain⟨Hf0,H0,Hf,ρ0,d0,ρ',st,I,kq⟩:=h;unfold gN at I
 cases e1:fi ρ0 with
 |none=>rw[e1]at I;nomatch I
 |some p=>
  obtain⟨ds,ρ⟩:=p;rw[e1,aD]at I;dsimp only at I;split at I
  .rename_i l xs ep;split at I
   .rename_i hz;obtain⟨hz,ht,hcm⟩:=hz
    cases e2:g9 k js jp t g fe ρ l ds xs with
    |none=>rw[e2]at I;nomatch I
    |some q=>
     obtain⟨rs,zs⟩:=q;rw[e2]at I;cases I;refine⟨Hf0,H0,Hf,ρ0,ds,ρ,st,e1,λJ dk H1 f1 st1 it=>?_⟩
     have hcm':=λj U=>by
      have:=all_eq_true.mp hcm j U;rw[jH]at this;exact this.imp beq_iff_eq.mp id
     have T:ρ.set jp (.pin l xs)=ρ:=by
      apply ext_getElem?;intro i
      by_cases hi:jp=i
      .subst hi;rw[Hk ep,ep]
      .rw[ib hi]
     have st0:aG G dk (eI H1 l) dk H1 (ik k js σ) (fI k js (ρ.set jp (.pin l xs))):=by rw[T];exact st1.compP k hj ep hcm'
     obtain⟨l9,el9,_,hf9,e9,_⟩:=st1.ownAt rfl ep;subst e9
     refine⟨λi m ys σ' H'=>m=ds.length-i/\i<=ds.length/\∃Hf' as L bF,aG G dk _ Hf' H' σ' (fI k js (ρ.set jp (.pin l9 L)))/\aF G Hf' as ys/\g9 k js jp t g fe ρ l9 (ds.drop i) L=aa (bF,zs)/\rs=as++bF/\as.length<=i,
      ⟨ds.length,rfl,gB _,dk,[],xs,rs,st0,rfl,e2,rfl,bN _⟩,?_⟩
     rintro i m ys σ' H' ⟨rfl,hi,Hf',as,L,bF,B,ra,ec,er,hal⟩;have hys:ys.length<=bx:=by rw[dA,<- ra.length];lia
     obtain⟨it1,it2⟩:=it Hf' H' B.ext.f B.sub i
     by_cases hlt:i<ds.length
     .obtain⟨d,ed,edr⟩:=wH hlt;obtain⟨go,yl⟩:=it1 d ed
      refine .inr ⟨go,hys,λys' σ2 H2=>ds.length-_=ds.length-_/\i+1<=ds.length/\∃Hf' as L bF,aG G dk _ Hf' H2 σ2 _/\aF G Hf' as ys'/\g9 k js jp t g fe ρ l9 _ L=aa _/\rs=as++bF/\as.length<=i+1,
       λys' σ2 H2 w=>⟨ds.length-(i+1),by lia,w⟩,λx H2 y=>?_⟩
      obtain⟨d8,x3,rx⟩:=yl x H2 y;rw[edr]at ec;obtain⟨y',xs2,r',et,ec',O⟩:=On ec;obtain⟨ρ1,hT,eg,ee,⟨l',ex⟩,hag⟩:=Om et;refine⟨dk,eI H1 l9,d8,_,d,ρ1,B.step x3,rx,eg,λm4 rc=>⟨dk,eI H1 l9,d8,ρ1,ac,rc,rfl,λHf4 H4 x4=>MW ⟨dk,eI H1 l9,Hf4,ρ1,y',hT,rc.step x4,ee,λv Hf5 H5 f5 st5 r5=>?_⟩⟩⟩
      have hl2:(fI k js (ρ.set jp (.pin l9 xs2))).length=hT.length:=by
       rw[<- st5.len,rc.len,g5 _ _ _ eg];unfold fI;rw[aO,aO,cf,cf]
      refine⟨rfl,hlt,Hf5,as++[y'],xs2,r',st5.weak hl2 λj s hs=>?_,(ra.up ((x3.f.trans x4.f).trans f5)).append (.cons r5 .nil),ec',by rw[er,O,c7];rfl,by rw[aO,f7];lia⟩
      rcases ou hs with⟨_,e⟩ |⟨U,_⟩
      .exact .inl e
      .exact .inr (by rw[hag j U];exact hs)
     .have ei:i=ds.length:=by lia
      subst ei;refine .inl ⟨it2 rfl,hys,λD h1 h2=>?_⟩;rw[vH (bN _)]at ec;cases ec;rw[cM]at er;subst er;obtain⟨l3,el3,h03,ko,e3,kT,ky,kF⟩:=B.ownAt rfl (Ol ht (Hk ep));subst e3;have xn:=Ext.new (o:=.lst ys) B.sub h2;exact kq _ _ _ (f1.trans (B.ext.f.trans xn.f)) ((st1.back (s':=.pin l3 zs) rfl rfl ep el9 B.ext ko ⟨rfl,kT,ky,kF⟩).step xn) ⟨D,ys,rfl,cz,ra.up xn.f⟩
   .nomatch I
  .nomatch I
def qR(k:Nat)(js:LN)(jp t:Nat)(Nc:LSt)(I:X.calm=ac)(hi:DXi c X tg iter fi)(q:∀cl C ex a9 c3,DG c (X.comp scope Nc cl C ex a9 c3) tg k g)
 (L:∀cl C ex a9 c3,DX c (X.comp scope Nc cl C ex a9 c3) fx fe)(B:jN scope X.env.scope.names X.N Nc k js=ac:=by rfl)(T:∀x,iO iter X.env x=pure x:=by intro _;rfl)(O:js.Nodup:=by decide):
  DX c X (.ListComp fx [⟨tg,iter,[],0⟩] scope pos) (gN k js jp t fi g fe):=
 PE.imp (FV (tt:=tDT (Gx c X) λ_=>aa ac) (te:=tDX (Gx c X) fe) k js Nc I hi (λcl C ex a9 c3=>(q cl C ex a9 c3).pg) (λcl C ex a9 c3=>ox) L B T) λσ H Q h=>
  Hm O (q [] 0 [] X.s₀ X.H₀).keep (q [] 0 [] X.s₀ X.H₀).len h
abbrev mX1(m:D->OD)(f:Xe):Xe:=λρ=>(f ρ).bind λp=>(m p.1).map λd=>(d,p.2)
def Oo{m:D->OD}{f:Xe}(h:mX1 m f ρ=aa (d,ρ')):∃x,f ρ=aa (x,ρ')/\m x=aa d:=by
 unfold mX1 at h
 cases B:f ρ with
 |none=>rw[B]at h;nomatch h
 |some p=>
  rw[B,aD]at h
  cases q:m p.1 with
  |none=>rw[q]at h;nomatch h
  |some z=>rw[q]at h;cases h;exact⟨p.1,rfl,q⟩
abbrev xf:LD->OD
 | [.int a]=>aa (.int (if a<0 then -a else a))
 | _=>ae
abbrev lP:LD->Option LSt
 | []=>aa []
 |.str x::ds=>(lP ds).map (x::·)
 | _=>ae
def Ho:∀{ds:LD} {zs:LSt},lP ds=aa zs->ds=zs.map D.str
 | [],zs,h=>by cases h;rfl
 |d::ds,zs,h=>by
  cases d with
  |str x=>
   have h:(lP ds).map _=aa zs:=h
   cases e:lP ds with
   |none=>rw[e]at h;cases h
   |some ys=>rw[e]at h;cases h;rw[Ho e];rfl
  | _=>cases h
def Hq:∀zs:LSt,lP (zs.map D.str)=aa zs
 | []=>rfl
 |z::zs=>by
  show(lP _).map _=_;rw[Hq zs];rfl
abbrev uf(x y:D):OD:=match x with
 |.str a=>(lsD y).bind λds=>(lP ds).bind λzs=>if PySem.JoinOk a zs=ac then aa (.str (PySem.Txt.join a zs)) else ae
 | _=>ae
def Hr{G:Gc}{H:Hp}:∀(zs:LSt) (vs:List V),aF G H (zs.map D.str) vs->vs=zs.map V.str
 | [],_,h=>h
 |z::zs,_,⟨v,r,e,h1,h2⟩=>by rw[e,Hr zs r h2,show v=V.str z from h1];rfl
def Hs{m:LD->OD}{f:Xa}{id:String}(hc:qG c X (.builtin id) m)(hg:Gl X x)(hm:X.mg x=ae)(hv:iP x=aa (.builtin id))(ha:DAX c X (e::es) f)(hn:x ≠ "__name__":=by decide)(T:NDb x:=by decide)
 (he:StE X e es:=by rfl)(U:BkE X pos es:=by rfl):
  DX c X (.Call (.Name x p) (e::es) [] pos) (eR m f):=PE.imp (tq hc hg hm hv ha.pa hn T he U) λσ H Q q_=>by
 obtain⟨Hf0,H0,Hf,ρ,d,ρ',st,B,kq⟩:=q_;unfold eR at B
 cases L:f ρ with
 |none=>rw[L]at B;nomatch B
 |some q=>
  obtain⟨ds,ρ1⟩:=q;rw[L,aD]at B
  cases O:m ds with
  |none=>rw[O]at B;nomatch B
  |some z=>
   rw[O]at B;cases B;exact⟨Hf0,H0,Hf,ρ,ds,_,st,L,λvs Hf' H' f1 I r=>⟨Hf',ds,_,I.sub,r,O,λv d8 H2 x2 r2=>kq v d8 H2 (f1.trans x2.f) (I.step x2) r2⟩⟩
def Op:qG c X (.builtin "abs") xf:=by
 rintro pins s σ H vs us Q I T ⟨Hf,ds,d,U,r,e,k⟩;unfold xf at e;split at e
 .rename_i a;cases e;obtain⟨v1,vs1,rfl,q,B⟩:=r;cases (B);cases (q)
  cases T with
  |cons L O=>
   cases O;obtain⟨t,rfl⟩:=L;exact call_abs_int λu tk=>⟨.int _,H,I.tok tk,⟨u,rfl⟩,k _ Hf H (Ext.refl U) rfl⟩
 .nomatch e
variable{f:Xe}
def Oq(hg:Gl X "int")(hm:X.mg "int"=ae)(ha:DX c X e f)(U:bf [e] X.env=(ai,eval e X.env)::bf [] X.env:=by rfl)(B:(eD pos (bf [] X.env)).any (·.1)=ai:=by rfl):DX c X (.Call (.Name "int" p) [e] [] pos) (mX1 qL f):=
 PE.imp (GR hg hm ha U B) λσ H Q q_=>by
  obtain⟨Hf0,H0,Hf,ρ,d0,ρ',st,O,k⟩:=q_;obtain⟨x,L,q⟩:=Oo O;unfold qL at q;split at q
  .rename_i b;cases q;exact⟨Hf0,H0,Hf,ρ,_,_,st,L,λv Hf' H' T I r=>⟨b,r,k _ Hf' H' T I rfl⟩⟩
  .nomatch q
def Os{m:D->D->OD}{g:Xe}(ho:OpD c X (eB op) m)(ha:DX c X a f)(hb:DX c X b g)(hm:mj op b=ai:=by first |exact wa _ |rfl):DX c X (.Compare a [op] [b] pos) (mX2 m f g):=PE.imp (Fi ho ha hb hm) λσ H Q q_=>by
 obtain⟨Hf0,H0,Hf,ρ,d,ρ',st,ef,k⟩:=q_;obtain⟨x,y,ρ1,U,e2,e3⟩:=ua ef;exact⟨Hf0,H0,Hf,ρ,x,ρ1,st,U,λv dk H1 f1 I r1=>⟨Hf0,H0,dk,ρ1,y,ρ',I,e2,λu d8 H2 L q r2=>⟨d8,x,y,d,q.sub,r1.up L,r2,e3,λw B T O r3=>k w B T ((f1.trans L).trans O.f) (q.step O) r3⟩⟩⟩
abbrev xg(f:Xe)(l h:LS->Option (Option Int)):Xe:=λρ=>(f ρ).bind λp=>(l p.2).bind λlo=>(h p.2).bind λhi=>(mY p.1 lo hi).map λd=>(d,p.2)
def Ot{l h:LS->Option (Option Int)}{lo hi:Option Expr}(ha:DX c X e f)(hl:DPt c X lo l)(hh:DPt c X hi h):DX c X (.Subscript e (.Slice lo hi ae p2) pos) (xg f l h):=
 PE.imp (wf G4 ha hl hh) λσ H Q q_=>by
  obtain⟨Hf0,H0,Hf,ρ,r,ρ',st,B,k⟩:=q_;unfold xg at B
  cases U:f ρ with
  |none=>rw[U]at B;nomatch B
  |some q=>
   obtain⟨d,ρ1⟩:=q;rw[U,aD]at B
   cases e2:l ρ1 with
   |none=>rw[e2]at B;nomatch B
   |some O=>
    rw[e2,aD]at B
    cases e3:h ρ1 with
    |none=>rw[e3]at B;nomatch B
    |some L=>
     rw[e3,aD]at B
     cases e4:mY d O L with
     |none=>rw[e4]at B;nomatch B
     |some z=>
      rw[e4]at B;cases B;obtain⟨z,rfl,hz,rfl⟩:=G5 e4;exact⟨Hf0,H0,Hf,ρ,_,_,st,U,λv dk H1 f1 I r1=>⟨Hf0,H0,dk,_,O,I,e2,λd8 H2 x2=>⟨Hf0,H0,d8,_,L,I.step x2,e3,λT H3 x3=>⟨z,r1,hz,k _ T H3 ((f1.trans x2.f).trans x3.f) ((I.step x2).step x3) rfl⟩⟩⟩⟩
abbrev Ht(K:bo):V->List V->Hp->VK->Prop:=λx vs H Q=>∃a l zs,x=.str a/\vs=[.ref l]/\SqL K H l (zs.map V.str)/\PySem.JoinOk a zs=ac/\Q (.str (PySem.Txt.join a zs)) H
def Hu:∀(zs:LSt) (its:LVa),aW (zs.map V.str) its->∃l:List (Str×Tok),its=qp l/\l.map (·.1)=zs
 | [],_,r=>by cases r;exact⟨[],rfl,rfl⟩
 |z::zs,_,r=>by
  cases r with
  |cons a b=>
   obtain⟨t,rfl⟩:=a;obtain⟨l,q,B⟩:=Hu zs _ b;exact⟨(z,t)::l,by rw[q];rfl,by rw[jd,B]⟩
def Ou:MtR X "str.join" (Ht X.K):=by
 rintro pins s σ H x xs v us Q I rx rv ⟨a,l,zs,rfl,rfl,O,L,q⟩;obtain⟨t,rfl⟩:=rx;obtain⟨u,rfl,U⟩:=rv.one;subst U;obtain⟨its,T,pl,_⟩:=I.list O;obtain⟨ls,rfl,B⟩:=Hu zs its T;exact SC.join pl.isList B L λt' k=>⟨.str _,H,I.tok k,⟨t',rfl⟩,q⟩
abbrev A4:D->Option Str
 |.str z=>if z.length<=16777216 then aa z else ae
 |.int i=>if i.natAbs.log2<1920 then aa (sR i) else ae
 | _=>ae
abbrev jw(out:Str)(zs:LSt):Str:=zs.foldl (·++·) out
def xh:∀(zs:LSt) (out:Str),out.length<=(jw out zs).length
 | [],_=>bN _
 |z::zs,out=>by
  have:=xh zs (out++z);rw[zP]at this;show out.length<=(jw (out++z) zs).length;lia
abbrev DFs(c:Str->Addr)(X:Cx)(es:LEx)(f:LS->Option LSt):Prop:=∀(pins:PNS) (s:ax) (σ:St) (H:Hp) (Q:VK) (out:Str),Inv X pins σ H s ->
 (∃Hf0 H0 Hf ρ zs,aG (Gx c X) Hf0 H0 Hf H σ ρ/\f ρ=aa zs/\(jw out zs).length<=16777216/\∀Hf' H',Ext Hf H Hf' H'->Q (.str (jw out zs)) H')->wpAny (model X.prog X.w) X.A (joinParts out (evalEach es X.env)) (EP X pins σ Q) X.xe s
abbrev mFc(x:Str)(g:LS->Option LSt)(ρ:LS):Option LSt:=(g ρ).map (x::·)
abbrev mFv(f:MF1)(g:LS->Option LSt)(ρ:LS):Option LSt:=(f ρ).bind λd=>(A4 d).bind λz=>(g ρ).map (z::·)
abbrev mFs(f:LS->Option LSt)(ρ:LS):OD:=(f ρ).bind λzs=>if (jw iR zs).length<=16777216 then aa (.str (jw iR zs)) else ae
def qS:DFs c X [] nZ:=λpins s σ H Q out I L=>by
 obtain⟨Hf0,H0,Hf,ρ,zs,st,q,B,k⟩:=L
 exact (by
 cases q;exact joinParts_nil ⟨.str out,H,I.tok _,⟨_,rfl⟩,k Hf H (Ext.refl st.sub)⟩ (by rw[dA];exact B))
variable{g:LS->Option LSt}
def oW(O:DFs c X es g):DFs c X (.Constant (.str x) j pos::es) (mFc x g):=λpins s σ H Q out I U=>by
 obtain⟨Hf0,H0,Hf,ρ,zs,st,q,T,k⟩:=U
 exact (by
 unfold mFc at q
 cases B:g ρ with
 |none=>rw[B]at q;nomatch q
 |some ys=>
  rw[B]at q;cases q;have h1:=xh ys (out++x);have L:(jw (out++x) ys).length<=16777216:=T;exact qj (zK ⟨by rw[dA];lia,(O pins _ σ H Q _ (I.tok _) ⟨Hf0,H0,Hf,ρ,ys,st,B,L,k⟩)⟩))
def Ov{w:World}{u:Value}{Q:PRS}(e:A4 d=aa z)(r:Rep G Hf d v)(I:bh v u)(k:∀t tk,Q (.str z t) {s with toks:=tk}):wpAny (model prog w) A (formatField u iR) Q E s:=by
 cases d with
 |str y=>
  replace e:(if y.length<=16777216 then aa y else ae)=aa z:=e;split at e
  .rename_i O;have B:=dz e;subst B;subst r;obtain⟨t,q⟩:=I;subst q;exact formatField_str k (by rw[dA];exact O)
  .nomatch e
 |int n=>
  replace e:(if n.natAbs.log2<1920 then aa _ else ae)=aa z:=e;split at e
  .rename_i L;have B:=dz e;subst B;subst r;obtain⟨t,q⟩:=I;subst q;exact formatField_int_small L (k _ _)
  .nomatch e
 | _=>nomatch e
def Hv{f:MF1}(he:DE c X e f)(hr:DFs c X es g):DFs c X (.FormattedValue e (-1) ae pos::es) (mFv f g):=λpins s σ H Q out I q_=>by
 obtain⟨Hf0,H0,Hf,ρ,zs,st,q,hz,k⟩:=q_
 exact (by
 unfold mFv at q
 cases B:f ρ with
 |none=>rw[B]at q;nomatch q
 |some d=>
  rw[B,aD]at q
  cases L:A4 d with
  |none=>rw[L]at q;nomatch q
  |some z=>
   rw[L,aD]at q
   cases O:g ρ with
   |none=>rw[O]at q;nomatch q
   |some ys=>
    rw[O]at q;cases q;have h1:=xh ys (out++z);have h2:(jw (out++z) ys).length<=16777216:=hz;have h3:(out++z).length<=bx:=by rw[dA];lia
    refine qj (FormattedValue_plain ?_);exact thn (he pins s σ H (λv H'=>∃Hf',Ext Hf H Hf' H'/\Rep _ Hf' d v) I ⟨Hf0,H0,Hf,ρ,d,st,B,λv Hf' H' x r=>⟨Hf',x,r⟩⟩) λu s1 ⟨v,H1,U,r1,dk,T,rd⟩=>(Ov L rd r1 λt tk=>⟨h3,hr pins _ σ H1 Q _ (U.tok tk) ⟨Hf0,H0,dk,ρ,ys,st.step T,O,h2,λHf' H' x=>k Hf' H' (T.trans x)⟩⟩))
def qT{f:LS->Option LSt}(h:DFs c X (a::b::es) f):DE c X (.JoinedStr (a::b::es) pos) (mFs f):=λpins s σ H Q I O=>by
 obtain⟨Hf0,H0,Hf,ρ,d,st,q,k⟩:=O
 exact (by
 unfold mFs at q
 cases B:f ρ with
 |none=>rw[B]at q;nomatch q
 |some zs=>
  rw[B,aD]at q;split at q
  .rename_i L;cases q;exact JoinedStr_many (h pins s σ H Q iR I ⟨Hf0,H0,Hf,ρ,zs,st,B,L,λHf' H' x=>k _ Hf' H' x rfl⟩)
  .nomatch q)
def m3(i:Nat){g:Xa}(I:DAX c (X.comp scope Nc cl C ex a9 c3) es g)(U:Nc[i]?=aa x:=by rfl)(hv:Vis scope x:=by first |exact bV rfl |exact bA (bV rfl) |exact bA (bA rfl))(hd:NDb x:=by decide)
 (q:NCd x:=by decide)(hs:bf (.Name x pos::es) (X.comp scope Nc cl C ex a9 c3).env=(ai,eval (.Name x pos) (X.comp scope Nc cl C ex a9 c3).env)::bf es (X.comp scope Nc cl C ex a9 c3).env:=by rfl):DMX c (X.comp scope Nc cl C ex a9 c3) (.Name x pos::es) i g:=
 ⟨PA.imp (bW (pvc i U hv hd q) I.pa hs) λσ H Q ⟨Hf0,H0,Hf,ρ,ds,ρ',l,st,O,L,k⟩=>⟨_,O,Hf0,H0,Hf,ρ,ds,ρ',st,L,λvs Hf' H' T B r=>k vs Hf' H' T B r⟩,λρ ds ρ' h=>by
  rw[aQ,I.len ρ ds ρ' h]⟩
abbrev Ow(G:Gc)(Hf H:Hp)(σ:St)(ρ:LS)(a:Addr):Prop:=∀(j:Nat) (t:Sl) (w:V),ρ[j]?=aa t->σ[j]?=aa (aa w)->Holds G Hf H t w a->False
structure Ls(G:Gc)(Hf0 H0 Hf Hl H:Hp)(σ:St)(ρ:LS)(v:V)(d:D):Prop where
 so:aG G Hf0 H0 Hf H σ ρ
 rep:Rep G Hl d v
 sub:aR Hl H
 fr:∀a us,Hl a=aa (.lst us)->H0 a=ae/\Hf a=ae/\Ow G Hf H σ ρ a
inductive tML(G:Gc)(i:Nat)(f:Xa)(σ:St)(H:Hp)(Q:List V->Hp->Prop):Prop
 |mk:∀Hf0 H0 Hf ρ ds ρ' l,aG G Hf0 H0 Hf H σ ρ->σ[i]?=aa (aa (.ref l))->f ρ=aa (ds,ρ')->(∀vs Hf' H',aR Hf Hf'->aG G Hf0 H0 Hf' H' σ ρ'->aF G Hf' ds vs->Q (vs++[.ref l]) H')->tML G i f σ H Q
structure DML(c:Str->Addr)(X:Cx)(es:LEx)(i:Nat)(f:Xa):Prop where
 pa:PA X es (tML (Gx c X) i f)
 len:∀ρ ds ρ',f ρ=aa (ds,ρ')->ds.length+1=es.length
abbrev iA(i:Nat)(m:Addr->LD->LD->LD->Option (LD×D))(f:Xa):Xe:=λρ=>match ρ[i]? with
 |some (.pin _ _)=>(f ρ).bind λp=>match p.2[i]? with
  |some (.pin l xs)=>(m l p.1 [] xs).map λq=>(q.2,p.2.set i (.pin l q.1))
  | _=>ae
 | _=>ae
def k7(i:Nat)(L:X.N[i]?=aa x:=by rfl)(T:Vis X.env.scope x:=by first |exact bV rfl |exact bA (bV rfl) |exact bA (bA rfl))(hd:NDb x:=by decide)
 (q:NCd x:=by decide)(O:bf [.Name x pos] X.env=(ai,eval (.Name x pos) X.env)::bf [] X.env:=by rfl):DML c X [.Name x pos] i af:=
 ⟨PA.imp (bW (ku L T hd q) cN O) λσ H Q U=>by
  obtain⟨Hf0,H0,Hf,ρ,ds,ρ',l,st,I,B,k⟩:=U;cases B;exact⟨_,I,k [] Hf H (aR.refl _) st rfl⟩,λρ ds ρ' h=>by cases h;rfl⟩
def jx{g:Xe}{h':Xa}(ha:DX c X e g)(T:DML c X es i h')(hs:StE X e es:=by rfl):DML c X (e::es) i (ag g h'):=by
 refine⟨PA.imp (bW ha T.pa hs) λσ H Q q_=>?_,λρ ds ρ' h=>?_⟩
 .obtain⟨Hf0,H0,Hf,ρ,ds,ρ',l,st,el,U,k⟩:=q_;obtain⟨d,r,ρ1,L,q,rfl⟩:=wV U;exact⟨Hf0,H0,Hf,ρ,d,ρ1,st,L,λv dk H1 f1 B r1=>⟨Hf0,H0,dk,ρ1,r,ρ',l,B,el,q,λvs d8 H2 O I r2=>k _ d8 H2 (f1.trans O) I (.cons (r1.up O) r2)⟩⟩
 .obtain⟨d,r,ρ1,L,q,rfl⟩:=wV h;rw[aQ,aQ,T.len ρ1 r ρ' q]
variable{f:Addr}{fa:Xa}
def k8{m:Addr->LD->LD->LD->Option (LD×D)}(pk:Pk X.prog X.w X.K X.mg X.base CX0 k x (f,fd) ps (spM (Gx c X) n0 ps.length m))(n3:bT k0 X.A)(ha:DML c X (e::es) i fa)(hl:(e::es).length=ps.length:=by rfl)(h0:(e::es).length=n0+1:=by rfl)(ri:NDb x:=by decide)(he:StE X e es:=by rfl)(hX:BkE X pos es:=by rfl)(hk0:k<=k0:=by decide)(hg:Gl X x:=by first |rfl |exact glc rfl):
  DX c X (.Call (.Name x p) (e::es) [] pos) (iA i m fa):=PE.imp (mz pk.ok (n3.mono hk0) hg pk.g pk.kp pk.b .nil jj ha.pa ri he hX) λσ H Q q_=>by
 obtain⟨Hf0,H0,Hf,ρ,d,ρ',st,B,kq⟩:=q_;unfold iA at B;split at B
 .rename_i l0 j4 eo0
  cases O:fa ρ with
  |none=>rw[O]at B;nomatch B
  |some pp=>
   obtain⟨ds,ρ1⟩:=pp;rw[O,aD]at B;split at B
   .rename_i l xs eo
    cases U:m l ds [] xs with
    |none=>rw[U]at B;nomatch B
    |some q=>
     rw[U]at B;cases B;obtain⟨l1,el,_,_,_,_,_,_⟩:=st.ownAt rfl eo0;refine⟨Hf0,H0,Hf,ρ,ds,ρ1,l1,st,el,O,λvs Hf' H' f1 I r=>?_⟩;rw[cM];obtain⟨l2,L,h02,g7,eq2,hO,g8,hI⟩:=I.ownAt rfl eo;subst eq2;rw[el]at L;cases L;have hn:=ha.len ρ ds _ O;exact⟨Hf',ds,[],xs,q.1,q.2,l1,hO,vs,[],rfl,I.sub,g7,g8,r,rfl,hI,by lia,by rw[iN];lia,U,λv T H3 kT x3 ko ky kF r3=>kq v T H3 (f1.trans x3.f) (I.back rfl rfl eo el x3 ko ⟨rfl,kT,ky,kF⟩) r3⟩
   .nomatch B
 .nomatch B
variable{Ar:dL}{Ex:PRS}
def Ox{q:Model}{st:ax}{x y:Value}{T id:String}{Q:PRS}(B:st.TypeIs x T)(L:st.TypeIs y T)(sl:Slot T (dunderI "add") id)(I:isSeqSlot (aa (.builtin id))=ac)
 (O:fillsNumberSlot (.type T) "add"=pure ai)(go:wpAny q Ar (call (.builtin id) [x,y]) Q Ex st):wpAny q Ar (inplaceOp .Add x y) Q Ex st:=by
 have no:fillsInplaceSlot (.type T) "add" ac=pure ai:=by
  simp only[fillsInplaceSlot,sl.lookup,pure_bind,I];rfl
 apply nM;exact bK (wpAny_typeOf B (bK (wpAny_of_eq no ((bK (wpAny_binaryOp1_none B L O (bK (wpAny_of_eq (PySem.seqSlot_of sl.lookup I) (bK (wpAny_rule go)))))):wpAny q Ar _ Q Ex st))))
abbrev Oy:TIp:=λx y H Q=>∃l b xs zs,x=.ref l/\y=.ref b/\H l=aa (.lst xs)/\H b=aa (.lst zs)/\xs.length+zs.length<=bx/\Q (.ref l) (upd H l (.lst (xs++zs)))
def Oz:PIp X .Add Oy:=by
 rintro pins s σ H _ _ v u Q I rx ry ⟨l,b,xs,zs,rfl,rfl,T,U,hz,q⟩;subst rx;subst ry;obtain⟨_,its,n,r,hl,e⟩:=I.lstM T;obtain⟨_,B,n2,r2,hl2,O⟩:=I.lstM U;have L:its.toArray.size+B.toArray.size<=bx:=by simp only[size_toArray];lia
 refine Ox ⟨_,e,rfl⟩ ⟨_,O,rfl⟩ F.slot_list_iadd (by decide +kernel) noFill_list_add (qo F.slot_list_iadd ⟨_,e,rfl⟩ F.entry_list_iadd (F.args_list_iadd_2 _ _)
  (AutoSeq1.list___iadd___list_list_0 l its.toArray n b B.toArray n2 (by rw[MO L];simp) (by simp only[size_toArray];lia) (by lia)) ⟨e,O,.ref l,_,I.lset T e (by simp) (r.append r2) (by rw[aO];lia),rfl,q⟩)
abbrev k9(i:Nat)(f:Xe)(ρ:LS):Option Fl:=match ρ[i]? with
 |some (.own _)=>(f ρ).bind λp=>match p.2[i]?,p.1 with
  |some (.own xs),.lst ys=>if xs.length+ys.length<=16777216 then aa (.nx (p.2.set i (.own (xs++ys)))) else ae
  | _,_=>ae
 | _=>ae
def ug(i:Nat){f:Xe}(hN:X.N.Nodup)(he:DX c X e f)(hi:X.N[i]?=aa x:=by rfl)(hx:Loc X.env.scope x:=by first |exact bV rfl |exact bA rfl)(hf:LcF X x:=by first |exact .inl rfl |exact .inr rfl):
  DS c X (.AugAssign (.Name x ey) .Add e pos) (k9 i f):=PS.imp (Fd hN hi hx he Oz hf) λE σ H q_=>by
 obtain⟨Hf0,H0,Hf,ρ,o,so,B,k⟩:=q_;unfold k9 at B;split at B
 .rename_i j4 U
  cases O:f ρ with
  |none=>rw[O]at B;nomatch B
  |some p=>
   rw[O,aD]at B;split at B
   .rename_i xs ys es ed;split at B
    .rename_i hl;cases B;obtain⟨l,L,h0,hf,vs0,q0,r0⟩:=so.ownAt rfl U;obtain⟨d,ρ1⟩:=p;subst ed;refine⟨_,L,Hf0,H0,Hf,ρ,_,ρ1,so,O,λv Hf' H' s I r'=>?_⟩;obtain⟨l2,e3,h02,g7,vs,q,r⟩:=I.ownAt rfl es;rw[L]at e3;cases e3;obtain⟨b,zs,rfl,hb,rz⟩:=r';refine⟨l,b,vs,zs,rfl,rfl,q,I.sub _ _ hb,by rw[dA,<- r.length,<- rz.length];exact hl,?_⟩
     have T:σ.set i (aa (.ref l))=σ:=by
      apply ext_getElem?;intro j
      by_cases hj:j=i
      .subst hj;rw[gT ((cV.mp L).1),L]
      .rw[ib (eM hj)]
     show E.nx _ _;rw[T];exact k σ Hf' _ s (I.mutd rfl rfl es L ⟨vs++zs,cz,r.append rz⟩)
    .nomatch B
   .nomatch B
 .nomatch B
abbrev uh(i:Nat)(f g:Xe)(ρ:LS):Option Fl:=(f ρ).bind λp=>(g p.2).bind λq=>match p.1,q.1 with
 |.lst a,.lst b=>if a.length+b.length<=16777216 then aa (.nx (q.2.set i (.own (a++b)))) else ae
 | _,_=>ae
variable{pos2:Pos}
def OA(i:Nat){f g:Xe}(hN:X.N.Nodup)(ha:DX c X a f)(hb:DX c X b g)(hi:X.N[i]?=aa x:=by rfl)(hx:Loc X.env.scope x:=by first |exact bV rfl |exact bA rfl)
 (hs:eZ (.BinOp a .Add b pos2) (aa (.Name x ey)) pos.line X.env=pure ai:=by rfl)(hf:LcF X x:=by first |exact .inl rfl |exact .inr rfl):
  DS c X (.Assign [.Name x ey] (.BinOp a .Add b pos2) pos) (uh i f g):=PS.imp (mx hN hi hx (v9 Ad ha hb) hs hf) λE σ H q_=>by
 obtain⟨Hf0,H0,Hf,ρ,o,so,B,k⟩:=q_;unfold uh at B
 cases L:f ρ with
 |none=>rw[L]at B;nomatch B
 |some p=>
  obtain⟨d,ρ1⟩:=p;rw[L,aD]at B
  cases O:g ρ1 with
  |none=>rw[O]at B;nomatch B
  |some q=>
   obtain⟨d',hT⟩:=q;rw[O,aD]at B;dsimp only at B;split at B
   .split at B
    .rename_i xs ys hl;cases B;refine⟨Hf0,H0,Hf,ρ,_,ρ1,so,L,λv dk H1 f1 U r1=>⟨Hf0,H0,dk,ρ1,_,hT,U,O,λu d8 H2 f2 I r2=>?_⟩⟩;obtain⟨l,vs,rfl,q1,s1⟩:=r1.up f2;obtain⟨m,us,rfl,q2,s2⟩:=r2;exact⟨l,m,vs,us,rfl,rfl,I.sub _ _ q1,I.sub _ _ q2,by rw[dA,<- s1.length,<- s2.length];exact hl,λp T=>(k _ d8 _ (f1.trans f2) (I.setOwn rfl (Ext.tmp I.sub T) T (I.sub.free T) ⟨vs++us,cz,s1.append s2⟩))⟩
    .nomatch B
   .nomatch B
variable{g:D->LS->Option LS}
def OB(i:Nat)(k:Nat)(js:LN)(jp t:Nat)(Nc:LSt)(hN:X.N.Nodup)(hc:X.calm=ac)(hi:DXi c X tg iter fi)(I:∀cl C ex a9 c3,DG c (X.comp scope Nc cl C ex a9 c3) tg k g)
 (he:∀cl C ex a9 c3,DX c (X.comp scope Nc cl C ex a9 c3) fx fe)(L:X.N[i]?=aa x:=by rfl)(hx:Loc X.env.scope x:=by first |exact bV rfl |exact bA rfl)
 (O:eZ (.ListComp fx [⟨tg,iter,[],0⟩] scope pos) (aa (.Name x ey)) gg.line X.env=pure ac:=by rfl)(U:jN scope X.env.scope.names X.N Nc k js=ac:=by rfl)(hs:∀x,iO iter X.env x=pure x:=by intro _;rfl)
 (hf:LcF X x:=by first |exact .inl rfl |exact .inr rfl)(hj:js.Nodup:=by decide):
  DS c X (.Assign [.Name x ey] (.ListComp fx [⟨tg,iter,[],0⟩] scope pos) gg) (aP i (gN k js jp t fi g fe)):=
 PS.imp (Aj (tt:=tDT (Gx c X) λ_=>aa ac) (te:=tDX (Gx c X) fe) k js Nc hN L hx hc hi (λcl C ex a9 c3=>(I cl C ex a9 c3).pg) (λcl C ex a9 c3=>ox) he O U hs hf) λE σ H q_=>by
  obtain⟨Hf0,H0,Hf,ρ,o,so,q,kk⟩:=q_;unfold aP at q
  cases B:gN k js jp t fi g fe ρ with
  |none=>rw[B]at q;nomatch q
  |some p=>
   rw[B]at q;cases q;exact Hm hj (I [] 0 [] X.s₀ X.H₀).keep (I [] 0 [] X.s₀ X.H₀).len ⟨Hf0,H0,Hf,ρ,p.1,p.2,so,B,λv Hf' H' s T r=>kk _ Hf' H' s (T.setIm r)⟩
abbrev CX1(P:eC)(w:World):CXT:=λouter H s E e s'=>∃a cls q H' B,e=.ref a/\sM B outer a cls q s'.heap/\s'.os=s.os/\kh s'.gens/\Un (frs outer) [] H H' s.heap s'.heap/\HOk P w H' s'.heap /\
 (∀b,H' b≠ae->B.get? b≠ae)/\(∀b o,s.heap.get? b=aa o->b∉frs outer->B.get? b≠ae)/\E cls ae H'
variable{h:Heap}
def gX.obj{w:World}{a:Addr}{o:HO}(x:gX P w H h a o):∃u,h.get? a=aa u:=by
 cases o with
 |lst xs=>obtain⟨_,_,_,_,e⟩:=x;exact⟨_,e⟩
 |tup xs=>obtain⟨_,_,_,o,e,_⟩:=x;exact⟨_,e⟩
 |set S n=>obtain⟨o,_,_,_,e,_⟩:=x;exact⟨_,e⟩
 |ins C dx fs=>obtain⟨_,_,_,e,_⟩:=x;exact⟨_,e⟩
 |own y=>obtain⟨_,e⟩:=x;exact⟨_,e⟩
 |xd fs=>obtain⟨_,⟨_,_,_,e,_⟩,_⟩:=x;exact⟨_,e⟩
 |rng lo hi=>obtain⟨_,_,_,e⟩:=x;exact⟨_,e⟩
 |frz o u=>exact⟨_,x.1⟩
 |tbl ps=>exact⟨_,x⟩
 |met f y=>exact⟨_,x⟩
 |ext φ=>exact x.2.1
variable{E:XK}
def A5{G:LAd}{a:Addr}{cls a0:Value}(J:Inv X pins σ H s)(hex:X.ex=[])(hst:∀b∈frs X.stack,b∈G)(T:∀b∈G,H b=ae)
 (L:∀b∈G,∀o,X.s₀.heap.get? b=aa o->b∈X.fs)(hfl:sM (jK s.heap G) X.outer a cls a0 h')(hup:s.heap.UpToSlots h')(hE:E cls ae H):
  CX1 X.prog X.w X.outer X.H₀ X.s₀ E (.ref a) {s with heap:=h'}:=by
 have stay:=λb o e n=>hfl.1 b o (nU _ e n)
 have frame:=λb o e I=>by
  refine hup b o e λvs hv=>?_;obtain⟨_,o',ho',hd⟩:=J.funs.mem I;rw[e]at ho';cases ho';exact hd vs hv
 have I:=J.base;rw[hex]at I;have ne:∀b:Addr,b∉([]:LAd):=λb h=>by nomatch h
 refine⟨a,cls,a0,H,_,rfl,hfl,J.os,J.bare,⟨λb o e n O _=>(stay b o (I.keep b o e n O (ne b)) λB=>O (L b B o e)),λb o e n O _=>?_,I.free,λb o e _=>?_,I.tups,I.frzs,I.tbls⟩,λb o e=>?_,λb hb'=>?_,λb o e O=>?_,hE⟩
 .obtain⟨sl,U⟩:=I.slot b o e n O (ne b);obtain⟨sl2,h2⟩:=frame b _ U O;exact⟨sl2,h2⟩
 .obtain⟨o',U⟩:=I.there b o e (ne b)
  by_cases B:b∈G
  .obtain⟨sl,h2⟩:=frame b o' U (L b B o e);exact⟨_,h2⟩
  .exact⟨o',stay b o' U B⟩
 .refine(J.hok b o e).stay (λc u hc hu=>stay c u hu λB=>?_) (λ_ q=>q) λ_ _ q=>q
  rcases hc with rfl |hc
  .rw[T _ B]at e;nomatch e
  .rw[T _ B]at hc;nomatch hc
 .cases eb:H b with
  |none=>exact absurd eb hb'
  |some o=>
   obtain⟨u,hu⟩:=(J.hok b o eb).obj;rw[nU _ hu λB=>by rw[T _ B]at eb;cases eb];exact λz=>by nomatch z
 .obtain⟨o',U⟩:=I.there b o e (ne b);rw[nU _ U λB=>O (L b B o e)];exact λz=>by nomatch z
def qU{base h:Heap}{as:LAd}:∀{l:List Env},h.FunFrames base l->(∀b∈frs l,b∈as)->h.FunFrames (jK h as) l
 | [],_,_=>trivial
 |env::l,⟨hk,⟨L,o,hf,_,ho,hd⟩,hr⟩,gs=>⟨hk,⟨L,o,hf,iS _ (gs L (by unfold frs;rw[lB,hf];exact be)),ho,hd⟩,qU hr λb q=>gs b (by unfold frs;rw[lB,hf];exact bQ _ q)⟩
def Inv.stkNew(J:Inv X pins σ H s):∀b∈frs X.stack,∀o,X.s₀.heap.get? b=aa o->b∈X.fs:=λb q o e=>by
 rcases bC.mp (J.stkSub b q)with rfl |h
 .exact absurd (cX e) (Nat.not_lt.mpr J.ok.above)
 .exact h
def OC{e:Addr}{cls:Value}{args:LVa}{Q:Unit->ax->Prop}(J:Inv X pins σ H s)(hex:X.ex=[])(I:X.stack=X.env::X.outer)(hf:X.env.frame=aa X.env.locals)(L:Heap.MadeExcOf s.heap h e cls args)(U:E cls ae H)
 (hQ:∀s',CX1 X.prog X.w X.outer X.H₀ X.s₀ E (.ref e) s'->Q () s'):wpAny M X.A (leaving X.env (.ref e)) Q Ex {s with heap:=h}:=by
 have fr:=J.ok.frames;rw[I]at fr;refine wpAny_leaves_madeW fr hf (λb o q=>nV _ q) (by rw[<- I];exact qU J.stack λb B=>B) L λh' t O f2 f3 T=>hQ _ ?_;have:=A5 J hex (λb B=>B) J.stkFree J.stkNew O ((Heap.UpToSlots.of_keeps L.keeps).trans T) U;exact this
variable{s':ax}
def OE{e:Value}{Q:Unit->ax->Prop}(I:Inv X pins σ H s)(hex:X.ex=[])(hs:X.stack=X.env::X.outer)(hf:X.env.frame=aa X.env.locals)(h:CX1 X.prog X.w X.stack H s E e s')
 (hQ:∀O,CX1 X.prog X.w X.outer X.H₀ X.s₀ E e O->Q () O):wpAny M X.A (leaving X.env e) Q Ex s':=by
 obtain⟨a,cls,a0,H',B,rfl,fl,os,bare,un,hok,kB,kS,hE⟩:=h;have J:=I.call' os un hok bare λb z=>by nomatch z
 obtain⟨f1,f2,f3,oe,vs,T,oT,ts,t1,t2,t3,t4,t5,t6,t7,t8,t9⟩:=fl;have fr:=J.ok.frames;rw[hs]at fr
 have inS:∀b o,X.s₀.heap.get? b=aa o->b∉X.fs->B.get? b≠ae:=λb o e n=>by
  obtain⟨o',h1⟩:=I.base.there b o e (by rw[hex];exact λz=>by nomatch z);exact kS b o' h1 λhm=>n (I.stkNew b hm o e)
 have hG:∀b∈frs X.stack++[a,T],H' b=ae:=λb L=>by
  rcases dw.1 L with L |L
  .exact J.stkFree b L
  .cases q:H' b with
   |none=>rfl
   |some o=>
    have:=kB b (by rw[q];exact λz=>by nomatch z)
    rcases bC.1 L with rfl |L
    .exact absurd f2 this
    .rw[bR.1 L]at this;exact absurd t5 this
 have hN:∀b∈frs X.stack++[a,T],∀o,X.s₀.heap.get? b=aa o->b∈X.fs:=λb L o e=>by
  rcases dw.1 L with L |L
  .exact J.stkNew b L o e
  .by_cases n:b∈X.fs
   .exact n
   .have:=inS b o e n
    rcases bC.1 L with rfl |L
    .exact absurd f2 this
    .rw[bR.1 L]at this;exact absurd t5 this
 have U:sM (jK s'.heap (frs X.stack++[a,T])) (X.env::X.outer) a cls a0 s'.heap:=
  ⟨λb o q=>nV _ q,iS _ (by simp),by rw[<- hs];exact qU f3 λb L=>fN _ L,oe,vs,T,oT,ts,t1,t2,t3,t4,iS _ (by simp),t6,t7,t8,t9⟩
 exact wpAny_leaves_onW fr hf U λh' x1 x2=>hQ _ (A5 J hex (λb L=>fN _ L) hG hN x1 x2 hE)
@[reducible]noncomputable def OF:LVa:=[.type "ValueError",.type "Exception",.type "BaseException",.type "object"]
@[reducible]noncomputable def cT(K:bo)(C:Addr):Bool:=W.excIn K C OF "ValueError.__new__"
variable{nid:String}
def A6{B:LVa}(I:K.In h)(q:W.excIn K C B nid=ac):
  ∃L N nm O bs hd sn sub ab col dd k0 k1 k2 k3 k5 U,h.get? C=aa (excClassObj nm O C N bs L hd sn sub ab col dd k0 k1 k2 k3 k5 nid)/\h.Ns N U/\U "__init__"=ae/\OwnTail h B L:=by
 unfold W.excIn at q;split at q
 .rename_i dd cd sl ho;split at q
  .rename_i C' L k0 k1 k2 k3 n k5 hm T;simp only[cq,beq_iff_eq,Bool.not_eq_true']at q;obtain⟨⟨⟨⟨⟨q1,q2⟩,q3⟩,q4⟩,q5⟩,q6⟩:=q;subst q1 q2
   cases cd with
   |mk nm bs mro ns O hd sn sub ab col del=>
    subst hm q3
    have es:sl=#[k0,k1,k2,k3,aa (.builtin n),k5]:=by
     cases sl with
     |mk l=>dsimp only at T;rw[T]
    subst es;exact⟨L,ns,nm,O,bs,hd,sn,sub,ab,col,dd,k0,k1,k2,k3,k5,_,I _ _ ho,.of_isNs (W.isNs_of_in I q5),W.nsMap_none_of_in I q5 q6,W.tail_of_in I q4⟩
  .nomatch q
 .nomatch q
abbrev A7(X:Cx)(C:Addr)(q:Hp->Prop):Prop:=∀(pins:PNS) (σ:St) (H:Hp) (s:ax) (h:Heap) (a:Addr) (us:LVa),Inv X pins σ H s->Heap.MadeExcOf s.heap h a (.ref C) us->q H->X.xe (.ref a) {s with heap:=h}
variable{np fb:Pos}{t:TA}
def OG{Wx:Hp->Prop}(hC:cT X.K C=ac)(hc:X.calm=ac)(hw:A7 X C Wx)(hg:Gl X x)(hm:X.mg x=aa (.ref C))(ha:PA X (e::es) t)
 (U:StE X e es:=by rfl)(hX:(eD fb (bf es X.env)).any (·.1)=ai:=by rfl)(O:NDb x:=by decide):
  PS X (.Raise (aa (.Call (.Name x np) (e::es) [] fb)) ae pos) (λ_ σ H=>t σ H λvs H'=>vs.length<=bx/\Wx H'):=by
 intro pins s σ H D I h;obtain⟨bm,N,nm,qn,bs,hd,sn,sub,ab,col,dd,k0,k1,k2,k3,k5,mN,h1,h2,h3,T⟩:=A6 I.ok.mod.kin hC
 refine wpAny_Raise_call_subT (nm:=nm) (q:=qn) (N:=N) (bs:=bs) (hdct:=hd) (sn:=sn) (sub:=sub) (ab:=ab) (col:=col) (dd:=dd) (k0:=k0) (k1:=k1) (k2:=k2) (k3:=k3) (k5:=k5)
  zL (T.hasType zL.hasBase) (I.ok.hd hc) (by rw[U];show(ai || (eD fb _).any (·.1))=ai;rw[hX];rfl) h3 (nW I hg hm ⟨rfl,?_⟩ O)
 rw[U];have B:=ha fb pins s σ H _ I h;rw[U]at B;refine zJ (thn B λus s2 q_=>?_);obtain⟨vs,H2,L,r2,hz,q⟩:=q_;refine⟨rfl,by rw[<- r2.length];exact hz,L.bk _ _ h1,h2.keeps L.bk,T.keeps L.bk,λh' a hx=>hw pins σ H2 s2 h' a us L hx q⟩
variable{cdv:Value}{outer:List Env}
def bD{w:World}:
  fV (CX1 P w) (gF (CX1 P w) P w K mg base N qual scope f cdv A outer s H E) E:=λpins σ H' s1 e s' I h=>OE I rfl rfl rfl h λB q=>q
def lQ{w:World}:
  A7 (gF (CX1 P w) P w K mg base N qual scope f cdv A outer s H E) C (λH'=>E (.ref C) ae H'):=λpins σ H' s1 h a us I B q=>OC I rfl rfl rfl B q λs' q=>q
abbrev tR(G:Gc)(C:Addr)(E:XK)(r:LS->Bool)(σ:St)(H:Hp):Prop:=∃Hf0 H0 Hf ρ,aG G Hf0 H0 Hf H σ ρ/\r ρ=ac/\∀Hf' H',Ext Hf0 H0 Hf' H'->E (.ref C) ae H'
abbrev RX(c:Str->Addr)(X:Cx)(C:Addr)(E:XK)(e:Expr)(r:LS->Bool):Prop:=PE X e λσ H _=>tR (Gx c X) C E r σ H
abbrev RA(c:Str->Addr)(X:Cx)(C:Addr)(E:XK)(es:LEx)(r:LS->Bool):Prop:=PA X es λσ H _=>tR (Gx c X) C E r σ H
abbrev RS(c:Str->Addr)(X:Cx)(C:Addr)(E:XK)(st:Stmt)(r:LS->Bool):Prop:=PS X st λ_ σ H=>tR (Gx c X) C E r σ H
abbrev RSs(c:Str->Addr)(X:Cx)(C:Addr)(E:XK)(st:List Stmt)(r:LS->Bool):Prop:=PSs X st λ_ σ H=>tR (Gx c X) C E r σ H
@[reducible]noncomputable def rNo:LS->Bool:=λ_=>ai
def xi(h:tR G C E rNo σ H):False:=by
 obtain⟨_,_,_,_,_,e,_⟩:=h;cases e
abbrev dK(q:LS->Bool)(f:Xe)(B:LS->Bool)(ρ:LS):Bool:=q ρ || match f ρ with
 |some p=>B p.2
 |none=>ai
abbrev cg(q:LS->Bool)(F:MF3)(B:LS->Bool)(ρ:LS):Bool:=q ρ || match F ρ with
 |some (.nx ρ')=>B ρ'
 | _=>ai
abbrev rIf(t:Xt)(q B:LS->Bool)(ρ:LS):Bool:=match t ρ with
 |some (ac,ρ')=>q ρ'
 |some (ai,ρ')=>B ρ'
 |none=>ai
abbrev rOf{q:Type}(f:LS->Option q)(ρ:LS):Bool:=(f ρ).isSome
def PE.orR{t t':TE}(h:PE X e t)(h':PE X e t'):PE X e λσ H Q=>t σ H Q\/t' σ H Q:=λpins s σ H Q I q=>q.elim (h pins s σ H Q I) (h' pins s σ H Q I)
def PA.orR{t':TA}(h:PA X es t)(h':PA X es t'):PA X es λσ H Q=>t σ H Q\/t' σ H Q:=λpos pins s σ H Q I q=>q.elim (h pos pins s σ H Q I) (h' pos pins s σ H Q I)
def PS.orR{t t':TS}(h:PS X st t)(h':PS X st t'):PS X st λD σ H=>t D σ H\/t' D σ H:=λpins s σ H D I q=>q.elim (h pins s σ H D I) (h' pins s σ H D I)
def fU:RX c X C E e rNo:=λ_ _ _ _ _ _ q=>(xi q).elim
def uj:RA c X C E es rNo:=λ_ _ _ _ _ _ _ q=>(xi q).elim
def qV:RS c X C E st rNo:=λ_ _ _ _ _ _ q=>(xi q).elim
def hJ{bF:List Stmt}:RSs c X C E bF rNo:=λ_ _ _ _ _ _ q=>(xi q).elim
variable{r1 r2:LS->Bool}
def fq{f:Xe}(U:DX c X e f)(O:RX c X C E e r1)(T:RA c X C E es r2)(hs:StE X e es:=by rfl):RA c X C E (e::es) (dK r1 f r2):=PA.imp (bW (PE.orR U O) T hs) λσ H Q q=>by
 obtain⟨Hf0,H0,Hf,ρ,so,B,k⟩:=q
 rcases lw.mp B with B |B
 .exact .inr ⟨Hf0,H0,Hf,ρ,so,B,k⟩
 .cases I:f ρ with
  |none=>rw[I]at B;nomatch B
  |some p=>
   rw[I]at B;exact .inl ⟨Hf0,H0,Hf,ρ,p.1,p.2,so,I,λv Hf' H' s L rr=>⟨Hf0,H0,Hf',p.2,L,B,k⟩⟩
variable{r:LS->Bool}
def jY(h:RA c X C E es r):RX c X C E (.Tuple es k' pos) r:=PE.imp (wc h) λσ H Q q=>q
def uk(h:RA c X C E es r):RX c X C E (.List es pos) r:=PE.imp (tm h) λσ H Q q=>q
variable{ra rb:LS->Bool}
def qW{t:Xt}(hc:DTX c X cd t)(T:RX c X C E a ra)(U:RX c X C E b rb):RX c X C E (.IfExp cd a b pos) (rIf t ra rb):=PE.imp (zV hc T U) λσ H Q q=>by
 obtain⟨Hf0,H0,Hf,ρ,so,B,k⟩:=q;unfold rIf at B
 cases L:t ρ with
 |none=>rw[L]at B;nomatch B
 |some p=>
  obtain⟨O,ρ'⟩:=p;rw[L]at B;refine⟨Hf0,H0,Hf,ρ,O,ρ',so,L,λHf' H' s I=>?_⟩
  cases O with
  |true=>exact⟨Hf0,H0,Hf',ρ',I,B,k⟩
  |false=>exact⟨Hf0,H0,Hf',ρ',I,B,k⟩
def fu(h:RX c X C E e r):RS c X C E (.Return (aa e) pos) r:=PS.imp (qt h) λD σ H q=>q
def oX(h:RX c X C E e r)(B:eZ e ae pos.line X.env=pure ai:=by rfl):RS c X C E (.Expr e pos) r:=PS.imp (dR h B) λD σ H q=>q
def iB(i:Nat)(B:X.N.Nodup)(h:RX c X C E e r)(hi:X.N[i]?=aa x:=by rfl)(O:Loc X.env.scope x:=by first |exact bV rfl |exact bA rfl)(L:eZ e (aa (.Name x ey)) pos.line X.env=pure ai:=by rfl)(I:LcF X x:=by first |exact .inl rfl |exact .inr rfl):
  RS c X C E (.Assign [.Name x ey] e pos) r:=PS.imp (mx B hi O h L I) λD σ H q=>q
def hV{bs:List Stmt}{t:Xt}(hc:DTX c X cd t)(T:RSs c X C E as ra)(U:RSs c X C E bs rb):RS c X C E (.If cd as bs pos) (rIf t ra rb):=PS.imp (zX hc T U) λD σ H q=>by
 obtain⟨Hf0,H0,Hf,ρ,so,B,k⟩:=q;unfold rIf at B
 cases L:t ρ with
 |none=>rw[L]at B;nomatch B
 |some p=>
  obtain⟨O,ρ'⟩:=p;rw[L]at B;refine⟨Hf0,H0,Hf,ρ,O,ρ',so,L,λHf' H' s I=>?_⟩
  cases O with
  |true=>rw[if_pos rfl];exact⟨Hf0,H0,Hf',ρ',I,B,k⟩
  |false=>rw[if_neg (by decide)];exact⟨Hf0,H0,Hf',ρ',I,B,k⟩
def cG{bF:List Stmt}(U:DS c X st F)(O:RS c X C E st r1)(T:RSs c X C E bF r2):RSs c X C E (st::bF) (cg r1 F r2):=PSs.imp (v6 (PS.orR U O) T) λD σ H q=>by
 obtain⟨Hf0,H0,Hf,ρ,so,B,k⟩:=q
 rcases lw.mp B with B |B
 .exact .inr ⟨Hf0,H0,Hf,ρ,so,B,k⟩
 .split at B
  .rename_i ρ' L;exact .inl ⟨Hf0,H0,Hf,ρ,.nx ρ',so,L,λσ' Hf' H' s I=>⟨Hf0,H0,Hf',ρ',I,B,k⟩⟩
  .nomatch B
def lR{fa:MF2}(U:cT X.K C=ac)(hc:X.calm=ac)(hw:A7 X C λH=>E (.ref C) ae H)(hg:Gl X x)(hm:X.mg x=aa (.ref C))(T:DA c X (e::es) fa)(hz:(e::es).length<=1000:=by exact sF rfl)
 (he:StE X e es:=by rfl)(O:(eD fb (bf es X.env)).any (·.1)=ai:=by rfl)(L:NDb x:=by decide):
  RS c X C E (.Raise (aa (.Call (.Name x np) (e::es) [] fb)) ae pos) (rOf fa):=PS.imp (OG U hc hw hg hm T.pa he O L) λD σ H q=>by
 obtain⟨Hf0,H0,Hf,ρ,so,I,k⟩:=q;unfold rOf at I
 cases B:fa ρ with
 |none=>rw[B]at I;nomatch I
 |some ds=>
  refine⟨Hf0,H0,Hf,ρ,ds,so,B,λvs Hf' H' x rr=>⟨?_,k Hf' H' (so.ext.trans x)⟩⟩;rw[<- rr.length,T.len ρ ds B];exact mi (tE hz)
abbrev spR(G:Gc)(n:Nat)(C:Addr)(r:LD->Bool):Sp:=λvs H _ E=>∃Hf ds,aR Hf H/\aF G Hf ds vs/\ds.length=n/\r ds=ac/\∀Hf' H',Ext Hf H Hf' H'->E (.ref C) ae H'
abbrev oY(G:Gc)(cn:Str)(ns:LSt)(n:Nat)(C:Addr)(r:Addr->LD->LD->Bool):Sp:=λvs H _ E=>∃Hf ds xs l dx us vs1,vs=.ref l::vs1/\aR Hf H/\Hf l=ae/\H l=aa (.ins (G.cl cn) dx (ns.zip us))/\ns.length=us.length/\aF G Hf ds vs1/\aF G Hf xs us/\1+ds.length=n/\r l ds xs=ac /\
 ∀Hf' H',Ext Hf (eI H l) Hf' H'->E (.ref C) ae H'
def Fun.okX{w:World}{sp:Sp}(F:Fun K x qual st f fd)(S:aX N ps (aK st))(len:∀vs H Q E,sp vs H Q E->vs.length=ps.length)
 (q:∀ (cdv:Value) (A:dL) (outer:List Env) (s:ax) (H:Hp) (vs:List V) (Q:VK) (E:XK),bT k (A.deeper (gC qual (aK st) s.heap.objs.size f cdv))->sp vs H Q E ->
   ∃t,PSs (gF (CX1 P w) P w K mg base N qual (aK st) f cdv A outer s H E) (iV st) t/\t {nx:=λ_ H'=>Q .non H',rt:=Q} (start N vs) H):dH P w K mg base (CX1 P w) (k+1) f fd ps sp:=by
 obtain⟨oc,od,kV,doc,pm,an,cdv,ct,osl,rfl,O,B⟩:=F.ex;exact FC O B S len λA outer s H vs Q E L I=>q cdv A outer s H vs Q E L I
def A8{w:World}(T:Fun K x qual st f fd)(S:aX N ps (aK st))
 (h:∀(cdv:Value) (A:dL) (outer:List Env) (s:ax) (H:Hp) (E:XK),bT k (A.deeper (gC qual (aK st) s.heap.objs.size f cdv))->RSs c (gF (CX1 P w) P w K mg base N qual (aK st) f cdv A outer s H E) C E (iV st) r)(q:N.length=n_:=by rfl):
  dH P w K mg base (CX1 P w) (k+1) f fd ps (spR ⟨K,c⟩ ps.length C λds=>r (iy n_ ds)):=by
 subst q;refine Fun.okX T S (λvs H Q E B=>by obtain⟨Hf,ds,O,I,L,_⟩:=B;rw[<- I.length];exact L) λcdv A outer s H vs Q E U B=>?_;obtain⟨Hf,ds,O,I,L,e,kq⟩:=B;exact⟨_,h cdv A outer s H E U,⟨Hf,H,Hf,_,aG.start O I,e,kq⟩⟩
def eU{w:World}(Fn:Fun K x qual st f fd)(S:aX N ps (aK st))
 (h:∀(cdv:Value) (A:dL) (outer:List Env) (s:ax) (H:Hp) (E:XK),bT k (A.deeper (gC qual (aK st) s.heap.objs.size f cdv))->RSs c (gF (CX1 P w) P w K mg base N qual (aK st) f cdv A outer s H E) C E (iV st) r)(B:N.length=n_:=by rfl):
  dH P w K mg base (CX1 P w) (k+1) f fd ps (oY ⟨K,c⟩ cn ns ps.length C λl ds xs=>r (dC n_ l cn ns ds xs)):=by
 subst B;refine Fun.okX Fn S (λvs H Q E I=>by obtain⟨Hf,ds,xs,l,dx,us,vs1,q,s0,O,T,U,L,rx,hn,_⟩:=I;rw[q,aQ,<- L.length];lia) λcdv A outer s H vs Q E hr I=>?_;obtain⟨Hf,ds,xs,l,dx,us,vs1,q,s0,O,T,U,L,rx,hn,e,kq⟩:=I;refine⟨_,h cdv A outer s H E hr,?_⟩;subst q;exact⟨Hf,eI H l,Hf,_,aG.startMI s0 O T U L rx,e,kq⟩
def Ext.out(a:Ext Hf0 H0 Hf H)(q:H0 l=ae)(b:Ext Hf (eI H l) Hf' H'):Ext Hf0 H0 Hf' H':=by
 have ne:∀x o,H0 x=aa o->eI H l x=aa o:=λx o e=>by
  have B:x≠l:=λz=>by subst z;rw[q]at e;nomatch e
  unfold eI;rw[if_neg B];exact a.h x o e
 exact⟨a.f.trans b.f,λx o e=>b.h x o (ne x o e),b.s,λx o e t=>(b.n x o (ne x o e) t).trans (a.n x o e t)⟩
abbrev hZ(ra:LS->Bool)(r:LD->Bool)(fa:Xa)(ρ:LS):Bool:=ra ρ || match fa ρ with
 |some p=>r p.1
 |none=>ai
abbrev bj(i:Nat)(cn fl:Str)(ns:LSt)(r:Addr->LD->LD->Bool)(fa:Xa)(ρ:LS):Bool:=match ρ[i]? with
 |some (.pino _ c0 n0 _)=>decide (c0=cn/\n0=ns/\ns.contains fl=ai) && match fa ρ with
  | some p=>(match p.2[i]? with
   |some (.pino l c' n' xs)=>decide (c'=cn/\n'=ns) && r l p.1 xs
   | _=>ai)
  |none=>ai
 | _=>ai
open Classical in
abbrev oZ(i:Nat)(cn fl:Str)(ns:LSt)(r:Addr->LD->LD->Bool)(fa:Xa)(ρ:LS):Bool:=match ρ[i]? with
 |some (.obj c0 n0 _)=>decide (c0=cn/\n0=ns/\ns.contains fl=ai) && match fa ρ with
  | some p=>(match p.2[i]? with
   |some (.obj c' n' xs)=>decide (c'=cn/\n'=ns) && decide (∀l,r l p.1 xs=ac)
   | _=>ai)
  |none=>ai
 | _=>ai
def o5{r:LD->Bool}(pk:Pk X.prog X.w X.K X.mg X.base (CX1 X.prog X.w) k x (f,fd) ps (spR (Gx c X) ps.length C r))(hp:fV (CX1 X.prog X.w) X E)(n3:bT k0 X.A)(ha:DAX c X (e::es) fa)(hra:RA c X C E (e::es) ra)(hl:(e::es).length=ps.length:=by rfl)(O:NDb x:=by decide)(he:StE X e es:=by rfl)(U:BkE X pos es:=by rfl)(T:k<=k0:=by decide)(hg:Gl X x:=by first |rfl |exact glc rfl):
  RX c X C E (.Call (.Name x p) (e::es) [] pos) (hZ ra r fa):=PE.imp (mz pk.ok (n3.mono T) hg pk.g pk.kp pk.b .nil hp (PA.orR ha.pa hra) O he U) λσ H Q q_=>by
 obtain⟨Hf0,H0,Hf,ρ,so,B,kq⟩:=q_
 rcases lw.mp B with B |B
 .exact .inr ⟨Hf0,H0,Hf,ρ,so,B,kq⟩
 .cases L:fa ρ with
  |none=>rw[L]at B;nomatch B
  |some q=>
   obtain⟨ds,ρ1⟩:=q;rw[L]at B;refine .inl ⟨Hf0,H0,Hf,ρ,ds,ρ1,so,L,λvs Hf' H' f1 I rr=>?_⟩;rw[cM];exact⟨Hf',ds,I.sub,rr,(ha.len ρ ds _ L).trans hl,B,λd8 H2 x2=>kq d8 H2 (I.ext.trans x2)⟩
variable{r:Addr->LD->LD->Bool}
def Hw{fl:Str}(ht:∀σ H Q,oJ (Gx c X) fa σ H Q->t σ H Q)(hn:∀ρ ds ρ',fa ρ=aa (ds,ρ')->1+ds.length=ps.length)(q_:tR (Gx c X) C E (bj i cn fl ns r fa) σ H):qv (c cn) fl (oY (Gx c X) cn ns ps.length C r) [] E (df i) t σ H Q:=by
 obtain⟨Hf0,H0,Hf,ρ,so,q,kq⟩:=q_;unfold bj at q;split at q
 .rename_i l0 c0 n0 j4 T;rw[cq,decide_eq_true_eq]at q;obtain⟨⟨rfl,rfl,ny⟩,q⟩:=q
  cases L:fa ρ with
  |none=>rw[L]at q;nomatch q
  |some pp=>
   obtain⟨ds,ρ1⟩:=pp;rw[L]at q;dsimp only at q;split at q
   .rename_i l c' n' xs eo;rw[cq,decide_eq_true_eq]at q;obtain⟨⟨rfl,rfl⟩,q⟩:=q;obtain⟨l1,el,_,_,_,dx,us,hu,_,_⟩:=so.ownAt rfl T;refine⟨_,el,l1,dx,n'.zip us,rfl,hu,tO ny,ht _ _ _ ⟨Hf0,H0,Hf,ρ,ds,ρ1,so,L,λvs Hf' H' f1 B rr=>?_⟩⟩;rw[cM];obtain⟨l2,I,h02,g7,U,O,hO,g8,n7,hI⟩:=B.ownAt rfl eo;subst U;rw[el]at I;cases I;exact⟨Hf',ds,xs,l1,O,hO,vs,rfl,B.sub,g7,g8,n7,rr,hI,hn _ _ _ L,q,λd8 H2 x2=>kq d8 H2 (B.ext.out h02 x2)⟩
   .nomatch q
 .nomatch q
section
variable{fl:Str}
open Classical in
def OH(ht:∀σ H Q,oJ (Gx c X) fa σ H Q->t σ H Q)(hn:∀ρ ds ρ',fa ρ=aa (ds,ρ')->1+ds.length=ps.length)(q_:tR (Gx c X) C E (oZ i cn fl ns r fa) σ H):qv (c cn) fl (oY (Gx c X) cn ns ps.length C r) [] E (df i) t σ H Q:=by
 obtain⟨Hf0,H0,Hf,ρ,so,q,kq⟩:=q_;unfold oZ at q;split at q
 .rename_i c0 n0 j4 T;rw[cq,decide_eq_true_eq]at q;obtain⟨⟨rfl,rfl,ny⟩,q⟩:=q
  cases L:fa ρ with
  |none=>rw[L]at q;cases q
  |some pp=>
   obtain⟨ds,ρ1⟩:=pp;rw[L]at q;dsimp only at q;split at q
   .rename_i c' n' xs eo;rw[cq,decide_eq_true_eq,decide_eq_true_eq]at q;obtain⟨⟨rfl,rfl⟩,q⟩:=q;obtain⟨l1,el,_,_,dx,us,hu,_,_⟩:=so.ownAt (s:=.obj c' n' j4) rfl T;refine⟨_,el,l1,dx,n'.zip us,rfl,hu,tO ny,ht _ _ _ ⟨Hf0,H0,Hf,ρ,ds,ρ1,so,L,λvs Hf' H' f1 B rr=>?_⟩⟩;rw[cM];obtain⟨l2,I,U,g7,O,hO,g8,n7,hI⟩:=B.ownAt (s:=.obj c' n' xs) rfl eo;rw[el]at I;cases I;exact⟨Hf',ds,xs,l1,O,hO,vs,rfl,B.sub,g7,g8,n7,rr,hI,hn _ _ _ L,q l1,λd8 H2 x2=>kq d8 H2 (B.ext.out U x2)⟩
   .cases q
 .cases q
end
def qX{fl:Str}(T:PE X o (df i))(pk:Pm X.prog X.w X.K X.mg X.base (CX1 X.prog X.w) k (c cn) fl (f,fd) ps (oY (Gx c X) cn ns ps.length C r))(U:fV (CX1 X.prog X.w) X E)(I:bT k0 X.A)(O:DAX c X (e::es) fa)(hl:(e::es).length+1=ps.length:=by rfl)(L:StE X e es:=by rfl)(B:BkE X pos es:=by rfl)(ht:eval (.Call (.Attribute o fl e6) (e::es) [] pos) X.env=(do
   let ov <- eval o X.env
   ij e6.atName
   let (f,first) <- fP [ov] (ki ov fl pl)
   mq pos f first (eD pos (bf (e::es) X.env)) (jg pos (je [] X.env))):=by rfl)(q:k<=k0:=by decide):
  RX c X C E (.Call (.Attribute o fl e6) (e::es) [] pos) (bj i cn fl ns r fa):=PE.imp (Fw T pk.c pk.m pk.ok (I.mono q) pk.b .nil U O.pa L B ht) λσ H Q q_=>Hw (λ_ _ _ h=>h) (λρ ds ρ' h=>by have:=O.len ρ ds ρ' h;lia) q_
def ci{fl:Str}(T:PE X o (df i))(pk:Pm X.prog X.w X.K X.mg X.base (CX1 X.prog X.w) k (c cn) fl (f,fd) ps (oY (Gx c X) cn ns ps.length C r))(U:fV (CX1 X.prog X.w) X E)(B:bT k0 X.A)(O:1=ps.length:=by rfl)(ht:eval (.Call (.Attribute o fl e6) [] [] pos) X.env=(do
   let ov <- eval o X.env
   ij e6.atName
   let (f,first) <- fP [ov] (ki ov fl pl)
   mq pos f first (eD pos (bf [] X.env)) (jg pos (je [] X.env))):=by rfl)(q:k<=k0:=by decide):
  RX c X C E (.Call (.Attribute o fl e6) [] [] pos) (bj i cn fl ns r af):=PE.imp (we T pk.c pk.m pk.ok (B.mono q) pk.b .nil U ht) λσ H Q I=>Hw (λσ H Q I=>by obtain⟨Hf0,H0,Hf,ρ,ds,ρ',st,L,k⟩:=I;cases L;exact k [] Hf H (aR.refl _) st rfl) (λρ ds ρ' h=>by cases h;exact O) I
def Hx{fl:Str}(T:PE X o (df i))(pk:Pm X.prog X.w X.K X.mg X.base (CX1 X.prog X.w) k (c cn) fl (f,fd) ps (oY (Gx c X) cn ns ps.length C r))(U:fV (CX1 X.prog X.w) X E)(B:bT k0 X.A)(O:1=ps.length:=by rfl)(ht:eval (.Call (.Attribute o fl e6) [] [] pos) X.env=(do
   let ov <- eval o X.env
   ij e6.atName
   let (f,first) <- fP [ov] (ki ov fl pl)
   mq pos f first (eD pos (bf [] X.env)) (jg pos (je [] X.env))):=by rfl)(q:k<=k0:=by decide):
  RX c X C E (.Call (.Attribute o fl e6) [] [] pos) (oZ i cn fl ns r af):=PE.imp (we T pk.c pk.m pk.ok (B.mono q) pk.b .nil U ht) λσ H Q I=>OH (λσ H Q I=>by obtain⟨Hf0,H0,Hf,ρ,ds,ρ',st,L,k⟩:=I;cases L;exact k [] Hf H (aR.refl _) st rfl) (λρ ds ρ' h=>by cases h;exact O) I
variable{g:Array GenState}{d:Drawn}{tk:Nat}{os:OsState}{qn nm2 qn2:Str}{N C2 N2 a:Addr}{bm bs2 bm2 sub sub2:LVa}{hd2 ab ab2:Bool}{sn sn2:LSt}{col col2:Option Bool}{dd dd2:Option Addr}{k0 k1 k2 k3 k5 j0 j1 j2 j3 j5:Option Value}{oe:Obj}{Q:Bool->ax->Prop}
def OI{nm:Str}{bs:LVa}{hd:Bool}(T:h.get? C=aa (excClassObj nm qn C N bs bm hd sn sub ab col dd k0 k1 k2 k3 k5 nid))(q:h.get? C2=aa (excClassObj nm2 qn2 C2 N2 bs2 bm2 hd2 sn2 sub2 ab2 col2 dd2 j0 j1 j2 j3 j5 nid))(U:h.get? a=aa oe)(B:oe.cls=.ref C)
 (O:bm2.contains (.type "BaseException")=ac)(I:(gq C::bm).contains (.ref C2)=ac)(hq:Q ac ⟨h,g,d,tk,os⟩):wpAny M Ar (excMatches (.ref a) (.ref C2)) Q Ex ⟨h,g,d,tk,os⟩:=by
 have L:(gq C2::bm2).contains (.type "BaseException")=ac:=by rw[vK,O,md]
 have nt:=tc_notTuple
 repeat (first |(with_reducible refine wpAny_loadPart_at U ?_;rw[B]) |(with_reducible refine wpAny_isSubtype_exc q ?_;rw[L]) |(with_reducible refine wpAny_isSubtype_exc T ?_;rw[I]) |(with_reducible refine wpAny_loadPart_at q ?_) |wp_step)
 exact hq
def A9{G:LAd}(J:Inv X pins σ H s)(hex:X.ex=[])(hun:∀b∈G,H b=ae)(L:∀b∈G,∀o,X.s₀.heap.get? b=aa o->b∈X.fs)(hpin:∀p∈X.pn++pins,p.1∉G)
 (hk:(jK s.heap G).StaysIn h')(T:s.heap.UpToSlots h'):Inv X pins σ H {s with heap:=h'}:=by
 have stay:=λb o e n=>hk b o (nU _ e n)
 have frame:=λb o e I=>by
  refine T b o e λvs hv=>?_;obtain⟨_,o',ho',hd⟩:=J.funs.mem I;rw[e]at ho';cases ho';exact hd vs hv
 have B:∀c v,s.heap.IsCell c v->h'.IsCell c v:=λc v q_=>by
  obtain⟨o,ho,hd⟩:=q_;obtain⟨sl,e⟩:=T c o ho λvs q=>by rw[hd]at q;nomatch q
  exact⟨_,e,hd⟩
 have I:=J.base;have ne:∀b:Addr,b∉X.ex:=λb h=>by rw[hex]at h;nomatch h
 refine⟨J.ok,J.os,J.bare,⟨λb o e n U _=>(stay b o (I.keep b o e n U (ne b)) λO=>U (L b O o e)),λb o e n U _=>?_,I.free,λb o e _=>?_,I.tups,I.frzs,I.tbls⟩,?_,λx c e=>?_,J.free,J.freeC,λp hp=>?_,λb o e=>?_,J.len⟩
 .obtain⟨sl,h1⟩:=I.slot b o e n U (ne b);obtain⟨sl2,h2⟩:=frame b _ h1 U;exact⟨sl2,h2⟩
 .obtain⟨o',h1⟩:=I.there b o e (ne b)
  by_cases O:b∈G
  .obtain⟨sl,h2⟩:=frame b o' h1 (L b O o e);exact⟨_,h2⟩
  .exact⟨o',stay b o' h1 O⟩
 .obtain⟨m,hn,hl⟩:=J.loc;refine⟨m,T.ns hn,λi x v e1 e2 e3=>?_⟩;obtain⟨u,r,l⟩:=hl i x v e1 e2 e3;refine⟨u,r,?_⟩
  rcases l with l |⟨k,c,e,z⟩
  .exact .inl l
  .exact .inr ⟨k,c,e,B c _ z⟩
 .obtain⟨v,z⟩:=J.cell x c e;exact⟨v,B c v z⟩
 .obtain⟨e,n,ne',nf,d⟩:=J.pin p hp;exact⟨stay p.1 p.2 e (hpin p hp),n,ne',nf,d⟩
 .refine(J.hok b o e).stay (λc u hc hu=>stay c u hu λO=>?_) (λ_ q=>q) λ_ _ q=>q
  rcases hc with rfl |hc
  .rw[hun _ O]at e;nomatch e
  .rw[hun _ O]at hc;nomatch hc
variable{n:Str}
def OJ{v:Option Value}{m:MGT}(I:Inv X pins σ H s)(hN:X.N.Nodup)(hi:X.N[i]?=aa n)(hm:s.heap.Ns X.env.locals m)(hl:∀(j:Nat) (x:Str) (v:V),X.N[j]?=aa x->σ[j]?=aa (aa v)->Vis X.env.scope x->∃u,bh v u/\E3 X.env s.heap m x u)
 (hn:h'.Ns X.env.locals λx=>if x=n then v else m x)(hs:sL X.env.locals s.heap h'):Inv X pins (σ.set i ae) H {s with heap:=h',toks:=tk}:=by
 have keep:∀b o,b≠X.env.locals->s.heap.get? b=aa o->h'.get? b=aa o:=λb o L e=>(hs.2 b L).trans e;have T:∀b o,X.s₀.heap.get? b=aa o->b≠X.env.locals:=λb o e=>eY (fO (cX e) I.ok.above);have nT:∀b u,H b=aa u->b≠X.env.locals:=λb u e z=>by rw[z,I.free]at e;nomatch e
 have B:∀x c,X.env.cells.lookup x=aa c->∀v,s.heap.IsCell c v->h'.IsCell c v:=λx c e v ⟨o,ho,hd⟩=>⟨o,keep c o (I.cne x c e) ho,hd⟩;have L:=I.base;refine⟨I.ok,I.os,I.bare,⟨λb o e q hf O=>keep b o (T b o e) (L.keep b o e q hf O),λb o e q hf O=>?_,L.free,λb o e O=>?_,L.tups,L.frzs,L.tbls⟩,⟨_,hn,λj x w e1 U e3=>?_⟩,λx c e=>?_,I.free,I.freeC,λp hp=>?_,λb o e=>?_,by rw[qd];exact I.len⟩
 .obtain⟨sl,h1⟩:=L.slot b o e q hf O;exact⟨sl,keep b _ (T b o e) h1⟩
 .obtain⟨o',h1⟩:=L.there b o e O;exact⟨o',keep b o' (T b o e) h1⟩
 .have hj:j≠i:=λz=>by
   subst z
   by_cases hs':j<σ.length
   .rw[gT hs']at U;nomatch U
   .rw[sD (by rw[qd];lia)]at U;nomatch U
  rw[ib (eM hj)]at U;obtain⟨u,r,l⟩:=hl j x w e1 U e3;refine⟨u,r,?_⟩
  rcases l with⟨k,l⟩ |⟨k,c,e,z⟩
  .have O:x≠n:=λz=>by
    subst z;obtain⟨hj1,ej⟩:=cV.mp e1;obtain⟨hi1,ei⟩:=cV.mp hi;exact hj ((zC hN).mp (ej.trans ei.symm))
   exact .inl ⟨k,by show(if x=n then v else m x)=_;rw[if_neg O];exact l⟩
  .exact .inr ⟨k,c,e,B x c e _ z⟩
 .obtain⟨v,z⟩:=I.cell x c e;exact⟨v,B x c e v z⟩
 .obtain⟨e,q,ne',nf,d⟩:=I.pin p hp;exact⟨keep p.1 p.2 ne' e,q,ne',nf,d⟩
 .refine(I.hok b o e).stay (λc u hc hu=>keep c u ?_ hu) (λ_ q=>q) λ_ _ q=>q
  rcases hc with rfl |hc
  .exact nT _ o e
  .exact nT c _ hc
variable{Q:Unit->ax->Prop}
def OK(I:Inv X pins σ H s)(U:X.N.Nodup)(hi:X.N[i]?=aa n)(hl:X.env.kindOf n=aa .local)(hx:Loc X.env.scope n)(hf:X.fn n=ac\/X.env.scope.names.lookup n=aa .local)(h:∀s',Inv X pins (σ.set i ae) H s'->Q () s'):
  wpAny M Ar (do bindName X.env n .none;unbindBehindTheSuite X.env n pos) Q Ex s:=by
 have q:(X.env.scope.kind==.class || (X.env.scope.kind==.module && X.env.locals != X.env.globals))=ai:=by rw[I.ok.kind];rfl
 refine bK (wpAny_bindName (sS I U hi hx (v:=.non) rfl (λs1 T=>?_) hf));obtain⟨m,hm,B⟩:=id T.loc;have L:i<σ.length:=by rw[I.len];exact(cV.mp hi).1
 have O:(m n).isSome=ac:=by
  obtain⟨u,_,l⟩:=B i n .non hi (gT L) (by rcases hx with k |k;exact .inl k;exact .inr (.inl k))
  rcases l with⟨_,e⟩ |⟨k,_⟩
  .rw[e];rfl
  .rw[hl]at k
   rcases k with k |k <;> nomatch k
 refine wpAny_onRaise ?_;refine bK (wpAny_point (bK ?_));unfold deleteName;simp only[hl,q];refine bK (wpAny_nsDel_keeps hm λh' v hn hs=>?_);rw[O];refine eH (wpAny_point (h _ ?_));have:=OJ (tk:=s1.toks) T U hi hm B hn hs;rw[set_set]at this;exact this
abbrev lS(a:Addr)(C:Addr):HO:=.ext λh=>∃o,h.get? a=aa o/\o.cls=.ref C
abbrev ul(K:bo)(C:Addr)(v:Value):Bool:=match K.lookup C with
 | some o=>(match o.data with
  |.cls cd=>cd.mro.contains v
  | _=>ai)
 |none=>ai
@[reducible]noncomputable def Cx.hand(X:Cx)(a:Addr):Cx:={X with A:=X.A.mark (aa (.ref a)),calm:=ai,xe:=λ_ _=>False}
def Hy(a:Addr)(I:Inv X pins σ H s):Inv (X.hand a) pins σ H s:=
 ⟨⟨I.ok.mod,I.ok.kind,I.ok.glob,I.ok.blt,I.ok.above,I.ok.inj,I.ok.has,I.ok.cab,(λz=>by nomatch z),I.ok.frames,I.ok.stk,I.ok.exf,I.ok.bs,I.ok.bsz,I.ok.noex,I.ok.exfs,I.ok.funs,I.ok.frf⟩,I.os,I.bare,I.base,I.loc,I.cell,I.free,I.freeC,I.pin,I.hok,I.len⟩
def OL(ok:X.Ok)(I:Inv (X.hand a) pins σ H s):Inv X pins σ H s:=⟨ok,I.os,I.bare,I.base,I.loc,I.cell,I.free,I.freeC,I.pin,I.hok,I.len⟩
def OM(I:Inv X pins σ H s)(hH:H a=ae)(ho:∃o,s.heap.get? a=aa o/\o.cls=.ref C)(h0:∀o,X.s₀.heap.get? a≠aa o)(hL:a≠X.env.locals)(hc:∀x c,X.env.cells.lookup x=aa c->c≠a)(hp:∀p∈X.pn++pins,p.1≠a):Inv X pins σ (upd H a (lS a C)) s:=by
 have ne:∀b u,H b=aa u->b≠a:=λb u e z=>by rw[z,hH]at e;nomatch e
 have up:∀b u,H b=aa u->upd H a (lS a C) b=aa u:=λb u e=>by rw[bY (ne b u e)];exact e
 have no:∀b,b≠a->H b=ae->upd H a (lS a C) b=ae:=λb B e=>by rw[bY B];exact e
 have B:=I.base;refine⟨I.ok,I.os,I.bare,⟨B.keep,B.slot,λb o e q hx=>no b (λz=>h0 o (by rw[<- z];exact e)) (B.free b o e q hx),B.there,λb xs e=>up b _ (B.tups b xs e),λb o u e=>up b _ (B.frzs b o u e),λb ps e=>?_⟩,I.loc,I.cell,no _ (eM hL) I.free,λx c e=>no c (hc x c e) (I.freeC x c e),λp L=>?_,λb o e=>?_,I.len⟩
 .obtain⟨more,O⟩:=B.tbls b ps e;exact⟨more,up b _ O⟩
 .obtain⟨e,q,r⟩:=I.pin p L;exact⟨e,no _ (hp p L) q,r⟩
 .by_cases z:b=a
  .subst z;rw[cz]at e;cases e;obtain⟨T,O,h2⟩:=ho;exact⟨⟨T,O,h2⟩,⟨T,O⟩,λh1' h2' ⟨o',U,g2⟩ k=>⟨o',k o' U,g2⟩⟩
  .rw[bY z]at e;exact(I.hok b o e).stay (λ_ u _ hu=>hu) (λc q=>up c _ q) λc xs q=>up c _ q
variable{e:Value}{x2:Str}{ks:Pos}{b₀:Stmt}{suite:List Stmt}{Good:Hp->Prop}
def ON{E0:XK}{D:jL}(I:Inv X pins σ H s)(hex:X.ex=[])(hs:X.stack=X.env::X.outer)(hf:X.env.frame=aa X.env.locals)(h:CX1 X.prog X.w X.stack H s E0 e s')(hE:∀cls dx H',E0 cls dx H'->cls=.ref C/\Good H')
 (hC:cT X.K C=ac)(hC2:cT X.K C2=ac)(hm:ul X.K C (.ref C2)=ac)(hg:Gl X x2)(hm2:X.mg x2=aa (.ref C2))(hN:X.N.Nodup)(hi:X.N[i]?=aa n)(hl:X.env.kindOf n=aa .local)(hx:Loc X.env.scope n)(hfn:X.fn n=ac\/X.env.scope.names.lookup n=aa .local)(ny:∀x,X.env.cells.lookup x=ae)
 {t:TS}(hps:∀a,PSs (X.hand a) (b₀::suite) t)(k:∀a H',Good H'->H' a=ae->t {nx:=λσ' H''=>D.nx (σ'.set i ae) H'',rt:=λ_ _=>False} (σ.set i (aa (.ref a))) (upd H' a (lS a C)))
 (ri:(x2==("__debug__":Str))=ai:=by decide):
  wpAny (model X.prog X.w) X.A (noteFrame e X.env) (λ_ a9=>wpAny (model X.prog X.w) X.A (setFlight e ae) (λ_ s₃=>wpAny (model X.prog X.w) X.A (handleBy e X.env [.ExceptHandler (aa (.Name x2 np)) (aa n) (b₀::suite) ks]) (SP X pins D) X.xe s₃) X.xe a9) X.xe s':=by
 obtain⟨a,cls,a0,H',B,rfl,fl,os,bare,un,hok,kB,kS,hE'⟩:=h;obtain⟨rfl,hgood⟩:=hE _ _ _ hE';have J:=I.call' os un hok bare λb z=>by nomatch z
 obtain⟨f1,f2,f3,oe,vs,T,oT,ts,t1,t2,t3,t4,t5,t6,t7,t8,t9⟩:=fl;have fr:=J.ok.frames;rw[hs]at fr
 have inS:∀b o,X.s₀.heap.get? b=aa o->b∉X.fs->B.get? b≠ae:=λb o e n=>by
  obtain⟨o',h1⟩:=I.base.there b o e (by rw[hex];exact λz=>by nomatch z);exact kS b o' h1 λhm=>n (I.stkNew b hm o e)
 have two:∀b∈[a,T],B.get? b=ae:=λb L=>by
  rcases bC.1 L with rfl |L
  .exact f2
  .rw[bR.1 L];exact t5
 have hun:∀b∈frs X.stack++_,H' b=ae:=λb L=>by
  rcases dw.1 L with L |L
  .exact J.stkFree b L
  .cases q:H' b with
   |none=>rfl
   |some o=>exact absurd (two b L) (kB b (by rw[q];exact λz=>by nomatch z))
 have O:∀b∈frs X.stack++_,∀o,X.s₀.heap.get? b=aa o->b∈X.fs:=λb L o e=>by
  rcases dw.1 L with L |L
  .exact J.stkNew b L o e
  .by_cases n:b∈X.fs
   .exact n
   .exact absurd (two b L) (inS b o e n)
 have U:∀p∈X.pn++pins,p.1∉frs X.stack++_:=λp hp L=>by
  obtain⟨e,q,ne',nf,_⟩:=I.pin p hp;have nst:=λz=>(bC.mp (I.stkSub _ z)).elim ne' nf
  rcases dw.1 L with L |L
  .exact nst L
  .exact absurd (two _ L) (kS _ _ e nst)
 have afr:a∉frs X.stack:=λz=>by
  obtain⟨_,o,ho,hd⟩:=J.stack.mem z;rw[t1]at ho;cases ho;exact hd vs t3
 have hfl:sM (jK s'.heap (frs X.stack++[a,T])) (X.env::X.outer) a _ a0 s'.heap:=
  ⟨λb o q=>nV _ q,iS _ (by simp),by rw[<- hs];exact qU f3 λb L=>fN _ L,oe,vs,T,oT,ts,t1,t2,t3,t4,iS _ (by simp),t6,t7,t8,t9⟩
 refine wpAny_looks_onW fr hf hfl λh4 held4 up4=>?_;refine wpAny_landsW held4 λh5 fl5 up5=>?_;have J5:=A9 J hex hun O U fl5.1 (up4.trans up5);obtain⟨bm,N,nm,qn,bs,hd,sn,sub,ab,col,dd,k0,k1,k2,k3,k5,mN,c1,_,_,Tl⟩:=A6 J5.kIn hC;obtain⟨bm2,N2,nm2,qn2,bs2,hd2,sn2,sub2,ab2,col2,dd2,j0,j1,j2,j3,j5,mN2,d1,_,_,Tl2⟩:=A6 J5.kIn hC2
 have gs:(gq C::bm).contains (.ref C2)=ac:=by
  unfold ul at hm;split at hm
  .rename_i o ho;have:=J5.kIn _ _ ho;rw[c1]at this;cases this;exact hm
  .nomatch hm
 obtain⟨ob,hob,hobc⟩:=fl5.there;refine wpAny_handleBy_cons (codeAny_handlers_test (nW (Hy a J5) hg hm2 ?_ ri)) (by intro q;nomatch q);refine OI c1 d1 hob hobc (Tl2.hasType zL.hasBase) gs ?_;refine codeAny_handlers_suite_as (lands_againW fl5 λh6 fl6 up6=>?_);have J6:=A9 J hex hun O U fl6.1 ((up4.trans up5).trans up6);obtain⟨ob6,hob6,hobc6⟩:=fl6.there;have aL:a≠X.env.locals:=λz=>afr (by rw[hs];unfold frs;rw[lB,hf,z];exact be)
 have J7:=OM J6 (hun a (by simp)) ⟨ob6,hob6,hobc6⟩ (λo e=>by
  have:=O a (by simp) o e;exact afr (by rw[hs];unfold frs;rw[lB,hf];exact bQ _ this)) aL (λx c e=>by rw[ny x]at e;nomatch e) λp hp z=>U p hp (by rw[z];simp)
 refine sS J7 hN hi hx (v:=.ref a) rfl (λs8 J8=>?_) hfn;refine fB (hps a pins s8 _ _ _ (Hy a J8) (k a H' hgood (hun a (by simp)))) (λfl9 s9 q9=>?_) λ_ _ z=>z.elim
 cases fl9 with
 |next=>
  obtain⟨σ9,H9,J9,n9⟩:=q9
  exact OK (OL J6.ok J9) hN hi hl hx hfn λs10 J10=>⟨_,_,J10,n9⟩
 |ret u=>obtain⟨_,_,_,_,_,z⟩:=q9;exact z.elim
 |brk=>obtain⟨_,_,_,z⟩:=q9;exact z.elim
 |cont=>obtain⟨_,_,_,z⟩:=q9;exact z.elim
end L2
namespace L2
open List
open PySem PySem.Spec PyProof.Rows PySem.Builtin.ObjectAttr
structure m5(K:bo)(C:Addr):Prop where
 ga:fE K (.ref C) "__getattribute__"=aa (aa (.builtin "BaseException.__getattribute__"))
 hook:fE K (.ref C) "__getattr__"=aa ae
 bex:iU K C (.type "BaseException")=aa ac
 cls:(W.clsIn K C).isSome=ac
 has:fE K (.ref C) "__class__"=aa (aa (.builtin "object.__class__"))
 spec:W.specialIn K (.builtin "object.__class__") "__get__"=aa (aa (.builtin "getset_descriptor.__get__"))
 takes:W.takesIn K (.builtin "object.__class__")=aa ac
 mro:iU K C (.type "object")=aa ac
abbrev AtC(a C:Addr)(h:Heap):Prop:=∃o,h.get? a=aa o/\o.cls=.ref C
variable{C a:Addr}{M:Model}{h:Heap}
def um(p:AtC a C h):W.Looks M h (typeOf (.ref a)) (.ref C):=by
 obtain⟨o,b,c⟩:=p;exact c▸(W.Looks.ld b).andThen .now
variable{K:bo}{name:Str}{v g:Value}
def OO{x:Addr}(b:K.In h)(c:fE K (.ref C) name=aa (aa v))(d:W.specialIn K v "__get__"=aa (aa g))(e:W.takesIn K v=aa ac):W.Looks M h (find (.ref x) (.ref C) name) (.bind g v):=by
 exact(v5 b c).andThen ((W.looks_specialIn b d).andThen ((show W.Looks M h _ (aa _)from(W.looks_takesIn b e).andThen .now).andThen (W.Looks.tag .now)))
variable{prog:eC}{Ar:dL}{Ex:PRS}{s:ax}
def OP{w:World}{nm:Value}{Q:Unit->ax->Prop}(c:K.In s.heap)(p:AtC a C s.heap)(d:iU K C (.type "BaseException")=aa ac)(h:Q () s):
  wpAny (model prog w) Ar (checkBuiltinCall "BaseException.__getattribute__" ⟨[.ref a,nm],[]⟩) Q Ex s:=by
 cases s with
 |mk i f dd tt j=>
  have k:=um (M:=model prog w) p;have t1:=W.looks_mroIn (M:=model prog w) c d;have e:builtinKind "BaseException.__getattribute__"=aa .slot:=by decide +kernel
  have b:splitId "BaseException.__getattribute__"=aa ("BaseException","__getattribute__"):=by decide +kernel
  simp only[checkBuiltinCall,e,b]
  .unfold isInstance
   repeat lk
   repeat (first |exact h |wp_step)
def OQ{w:World}{tk:Tok}{P:PRS}(d:K.In s.heap)(p:AtC a C s.heap)(c:W.Looks (model prog w) s.heap (find (.ref a) (.ref C) name) (.bind g v))
 (h:wpAny (model prog w) Ar (call g [v,.ref a,.ref C]) P Ex s):
  wpAny (model prog w) Ar (Builtin.«object.__getattribute__» ⟨[.ref a,.str name tk],[]⟩) (λb s'=>match b with |.done (.ret v)=>P v s' | _=>False) Ex s:=by
 cases s with
 |mk f e dd tt i=>
  exact bK (eH (bK (eH (bK ((um p).at (bK (c.at (bK (nM (fB h (λu s' z=>eH z) λ_ _ z=>z))))))))))
variable{Q:Option Value->ax->Prop}
def OR{w:World}(T:m5 K C)(e:K.In s.heap)(p:AtC a C s.heap)
 (h:∀d,wpAny (model prog w) d (Builtin.«object.__getattribute__» ⟨[.ref a,.str name s.toks],[]⟩) (λb s'=>match b with |.done (.ret v)=>wpAny (model prog w) Ar (handedOut v) (λv c=>Q (aa v) c) (λ_ _=>False) s' | _=>False) (λ_ _=>False) {s with toks:=s.toks+1}):
  wpAny (model prog w) Ar (getAttr? (.ref a) name) Q Ex s:=by
 cases s with
 |mk j i dd tt k=>
  refine bK (wpAny_mkText (bK (wpAny_attempt (nM (bK ((um p).at (bK ((v5 e T.ga).at ?_))))))));refine bK ?_;refine(v5 e T.hook).at ?_;refine bK (wpAny_attempt (nM ?_));refine bK (eH (wpAny_call (codeAny_call_builtin F.excAttr_ValueError.ga.plain F.entry_bexc_ga (OP e p T.bex ?_))));refine fB (h _) (λb s' z=>?_) λ_ _ z=>z.elim
  rcases b with(_ | _ | _ | _) | _ <;> first |exact fB z (λv c f=>eH f) (λ_ _ z=>z.elim) |exact z.elim
def OS{w:World}{d:Value}{R:Result->ax->Prop}(b:K.In s.heap)(p:AtC a C s.heap)(c:iU K C (.type "object")=aa ac)
 (h:R (.ok (.ret (.ref C))) s):jh (model prog w) Ar (.call (.builtin "getset_descriptor.__get__") ⟨[.builtin "object.__class__",.ref a,d],[]⟩) R s:=by
 have e:=um (M:=model prog w) p;have f:=W.looks_mroIn (M:=model prog w) b c;refine codeAny_call_builtin W.KF.slot_gs.plain W.KF.entry_gs (W.KF.slot_gs.check _ _ _ _ _ _ _ _ W.KF.type_class (W.KF.args_gs _ _ _) ?_);refine bK (eH ?_);unfold Builtin.Getset_descriptor.descrGetter Builtin.Getset_descriptor.descrCheckInstance Builtin.Getset_descriptor.descrNameAndClass isInstance;simp only[W.KF.owner_class]
 repeat lk
 refine⟨Code.quiet_builtin _ (by decide +kernel),codeAny_builtin W.KF.entry_class ?_⟩
 repeat lk
 exact h
def OT{w:World}(T:m5 K C)(b:K.In s.heap)(p:AtC a C s.heap)(h:Q (aa (.ref C)) {s with toks:=s.toks+1}):wpAny (model prog w) Ar (getAttr? (.ref a) "__class__") Q Ex s:=by
 have d:W.Looks (model prog w) s.heap (find (.ref a) _ "__class__") _:=OO b T.has T.spec T.takes;exact OR T b p λc=>OQ b p d (wpAny_call (OS b p T.mro (W.handed_on rfl h)))
def Ba(T:m5 K C):W.KitX K (.ref a) (.ref C) (AtC a C) where
 ty:=λ_ _ _ p=>um p
 it:=λ_ _ X _=>by
  have hcD:=T.cls;unfold W.clsIn at hcD;split at hcD
  .rename_i c' d' cd' sl' ho;intro A' Q' E' s' k q;exact bK (wpAny_loadPart (k _ _ (X _ _ ho)) (eH q))
  .nomatch hcD
 ne:=λh tp dd its n sl X htp=>by
  have hcD:=T.cls;refine cL.mpr λq=>?_;have e:=gq.inj (beq_iff_eq.mp q);subst e;unfold W.clsIn at hcD;split at hcD
  .rename_i c' d' cd' sl' ho;cases ((X _ _ ho).symm.trans htp)
  .nomatch hcD
 ca:=λX p k=>OT T X p k
open PySem.Spec PyProof.Rows
section
variable{X:Cx}
def Bb{a:Addr}:(gq a)≠.builtin "__main__.__loader__#opaque":=λz=>by cases z
def OU:jM X (.builtin "isinstance") (λxs H Q=>∃a C T b,xs=[.ref a,.ref T]/\H a=aa (lS a C)/\m5 X.K C/\kn X.K (.ref C) (.ref T)=aa b/\Q (.bl b) H):=by
 intro pins s σ H xs us Q I r h;obtain⟨a,C,T,b,rfl,d,c,e,q⟩:=h;obtain⟨u,j,rfl,i,f⟩:=wb r;cases (i);cases (f);exact W.kia_one (Ba c) I.kIn (I.hok _ _ d).1 e Bb λtk=>⟨.bl b,H,I.tok tk,rfl,q⟩
def OV:jM X (.builtin "isinstance") (λxs H Q=>∃a C T b,xs=[.ref a,.ty T]/\H a=aa (lS a C)/\m5 X.K C/\kn X.K (.ref C) (.type T)=aa b/\Q (.bl b) H):=by
 intro pins s σ H xs us Q I r h;obtain⟨a,C,T,b,rfl,d,c,e,q⟩:=h;obtain⟨u,j,rfl,i,f⟩:=wb r;cases (i);cases (f);exact W.kia_one (Ba c) I.kIn (I.hok _ _ d).1 e Bb λtk=>⟨.bl b,H,I.tok tk,rfl,q⟩
def Hz:∀{ds:LAd} {us:LVa},aW (ds.map V.ref) us->us=ds.map gq
 | [],_,.nil=>rfl
 | _::_,_,.cons r t=>by rw[Hz t];cases (r);rfl
def OW:jM X (.builtin "isinstance") (λxs H Q=>∃(a C d:Addr) (ds:LAd) (b:Bool),xs=[.ref a,.ref d]/\H a=aa (lS a C)/\H d=aa (.tup (ds.map V.ref))/\m5 X.K C/\W.kitAny X.K (.ref C) (ds.map gq)=aa b/\Q (.bl b) H):=by
 intro pins s σ H xs us Q I r h;obtain⟨a,C,d,ds,b,rfl,j,k,f,e,q⟩:=h;obtain⟨u,x,rfl,t,m⟩:=wb r;cases (t);cases (m);obtain⟨_,its,p,o,c,i,n,hd⟩:=I.hok _ _ k;obtain rfl:=Hz p;obtain⟨oc,od,l,os⟩:=o;cases (i);cases (hd);exact W.kia_tup (Ba f) I.kIn (I.hok _ _ j).1 c e Bb λtk=>⟨.bl b,H,I.tok tk,rfl,q⟩
inductive tH(i:Nat)(C:Addr)(b:Bool)(σ:St)(H:Hp)(Q:VK):Prop
 |mk:∀a,σ[i]?=aa (aa (.ref a))->H a=aa (lS a C)->(∀H',aR H H'->Q (.bl b) H')->tH i C b σ H Q
inductive tHs(i:Nat)(C:Addr)(bs:List Bool)(σ:St)(H:Hp)(Q:List V->Hp->Prop):Prop
 |mk:∀a,σ[i]?=aa (aa (.ref a))->H a=aa (lS a C)->(∀H',aR H H'->Q (bs.map V.bl) H')->tHs i C bs σ H Q
variable{e:Expr}{es:LEx}{i:Nat}{C A B Z:Addr}{b:Bool}{bs:List Bool}{n:Str}{p q q1 q2 q3 q4 pos:Pos}{x y z:Str}{T:String}
def HA:PA X [] (tHs i C []):=PA.imp cN λσ H Q h=>by
 obtain⟨a,_,_,k⟩:=h;exact k H (aR.refl _)
def qY(j:PE X e (tH i C b))(l:PA X es (tHs i C bs))(m:StE X e es:=by rfl):PA X (e::es) (tHs i C (b::bs)):=PA.imp (bW j l m) λσ H Q h=>by
 obtain⟨a,c,d,k⟩:=h;exact⟨a,c,d,λo s1=>⟨a,c,s1 _ _ d,λf s2=>k f (s1.trans s2)⟩⟩
variable(T0:m5 X.K C)(hg:Gl X "isinstance")(hm:X.mg "isinstance"=ae)(hv:PE X (.Name n q) (df i))
include T0 hg hm hv
def HB(d:Gl X x)(f:X.mg x=aa (.ref A))(t:kn X.K (.ref C) (.ref A)=aa b)(c:NDb x:=by decide)
 (m:bf [.Name n q,.Name x q1] X.env=(ai,eval (.Name n q) X.env)::bf [.Name x q1] X.env:=by rfl)(l:bf [.Name x q1] X.env=(ai,eval (.Name x q1) X.env)::bf [] X.env:=by rfl)
 (j:(eD pos (bf [.Name x q1] X.env)).any (·.1)=ai:=by rfl):PE X (.Call (.Name "isinstance" p) [.Name n q,.Name x q1] [] pos) (tH i C b):=
 PE.imp (tq OU hg hm boot_isinstance (bW hv (bW (qs (v:=.ref A) d f rfl c) cN l) m) (by decide) (by decide) m j) λσ H Q h=>by
  obtain⟨a,o,r,k⟩:=h;exact⟨.ref a,o,a,C,A,b,rfl,r,T0,t,k H (aR.refl _)⟩
def HC(f:Gl X x)(j:X.mg x=ae)(c:iP x=aa (.type T))(E:kn X.K (.ref C) (.type T)=aa b)(l:x ≠ "__name__":=by decide)(d:NDb x:=by decide)
 (r:bf [.Name n q,.Name x q1] X.env=(ai,eval (.Name n q) X.env)::bf [.Name x q1] X.env:=by rfl)(o:bf [.Name x q1] X.env=(ai,eval (.Name x q1) X.env)::bf [] X.env:=by rfl)
 (m:(eD pos (bf [.Name x q1] X.env)).any (·.1)=ai:=by rfl):PE X (.Call (.Name "isinstance" p) [.Name n q,.Name x q1] [] pos) (tH i C b):=
 PE.imp (tq OV hg hm boot_isinstance (bW hv (bW (K5 (v:=.ty T) f j c rfl l d) cN o) r) (by decide) (by decide) r m) λσ H Q h=>by
  obtain⟨a,t,u,k⟩:=h;exact⟨.ref a,t,a,C,T,b,rfl,u,T0,E,k H (aR.refl _)⟩
def HD{c:Nat}(m:Gl X x)(t:X.mg x=aa (.ref A))(o:Gl X y)(u:X.mg y=aa (.ref B))(r:Gl X z)(E:X.mg z=aa (.ref Z))(O:W.kitAny X.K (.ref C) [.ref A,.ref B,.ref Z]=aa b)
 (f:NDb x:=by decide)(j:(y==("__debug__":Str))=ai:=by decide)(l:(z==("__debug__":Str))=ai:=by decide)
 (L:bf [.Name n q,.Tuple [.Name x q1,.Name y q2,.Name z q3] c q4] X.env=(ai,eval (.Name n q) X.env)::bf [.Tuple [.Name x q1,.Name y q2,.Name z q3] c q4] X.env:=by rfl)
 (I:bf [.Tuple [.Name x q1,.Name y q2,.Name z q3] c q4] X.env=(ai,eval (.Tuple [.Name x q1,.Name y q2,.Name z q3] c q4) X.env)::bf [] X.env:=by rfl)
 (t1:bf [.Name x q1,.Name y q2,.Name z q3] X.env=(ai,eval (.Name x q1) X.env)::bf [.Name y q2,.Name z q3] X.env:=by rfl)(U:bf [.Name y q2,.Name z q3] X.env=(ai,eval (.Name y q2) X.env)::bf [.Name z q3] X.env:=by rfl)
 (Y:bf [.Name z q3] X.env=(ai,eval (.Name z q3) X.env)::bf [] X.env:=by rfl)
 (G:(eD pos (bf [.Tuple [.Name x q1,.Name y q2,.Name z q3] c q4] X.env)).any (·.1)=ai:=by rfl):PE X (.Call (.Name "isinstance" p) [.Name n q,.Tuple [.Name x q1,.Name y q2,.Name z q3] c q4] [] pos) (tH i C b):=
 PE.imp (tq OW hg hm boot_isinstance (bW hv (bW (wc (bW (qs (v:=.ref A) m t rfl f) (bW (qs (v:=.ref B) o u rfl j) (bW (qs (v:=.ref Z) r E rfl l) cN Y) U) t1)) cN I) L) (by decide) (by decide) L G) λσ H Q h=>by
  obtain⟨a,N,d,k⟩:=h;refine⟨.ref a,N,(show 3<=bx by decide),λtp J=>⟨a,C,tp,[A,B,Z],b,rfl,?_,cz,T0,O,k _ (dN J)⟩⟩;rw[bY (λz=>by rw[z,J]at d;nomatch d)];exact d
end
variable{X:Cx}{pins:PNS}{xe:PRS}{σ:St}{H:Hp}
def OX{b:PNS}(I:Inv (X.to (X.pn++pins) xe) b σ H s):Inv X pins σ H s:=
 ⟨⟨I.ok.mod,I.ok.kind,I.ok.glob,I.ok.blt,I.ok.above,I.ok.inj,I.ok.has,I.ok.cab,I.ok.hd,I.ok.frames,I.ok.stk,I.ok.exf,I.ok.bs,I.ok.bsz,I.ok.noex,I.ok.exfs,I.ok.funs,I.ok.frf⟩,I.os,I.bare,I.base,I.loc,I.cell,I.free,I.freeC,λp c=>I.pin p (fN _ c),I.hok,I.len⟩
def OY(I:Inv X pins σ H s):Inv (X.to (X.pn++pins) xe) [] σ H s:=
 ⟨⟨I.ok.mod,I.ok.kind,I.ok.glob,I.ok.blt,I.ok.above,I.ok.inj,I.ok.has,I.ok.cab,I.ok.hd,I.ok.frames,I.ok.stk,I.ok.exf,I.ok.bs,I.ok.bsz,I.ok.noex,I.ok.exfs,I.ok.funs,I.ok.frf⟩,I.os,I.bare,I.base,I.loc,I.cell,I.free,I.freeC,λp b=>I.pin p (by rw[cM]at b;exact b),I.hok,I.len⟩
abbrev Sl.bare:Sl->Sl
 |.im d=>.im d
 | _=>.no
variable{ρ:LS}
def aG.bare{G:Gc}{Hf0 H0 Hf:Hp}(h:aG G Hf0 H0 Hf H σ ρ):aG G Hf H Hf H σ (ρ.map Sl.bare):=by
 refine h.re (Ext.refl h.sub) (by simp) (λi v s a b=>?_) λi s v a b c d=>?_
 .rw[fL]at b;obtain⟨e,b0,rfl⟩:=Option.map_eq_some_iff.mp b;have q:=h.at' i v e a b0
  cases e <;> first |exact q |trivial
 .rw[fL]at b;obtain⟨e,b0,rfl⟩:=Option.map_eq_some_iff.mp b
  exact(d.calm (by cases e <;> rfl)).elim
abbrev qZ(r:LS->Bool)(j:Nat)(bs:List Bool)(ρ:LS):Option Fl:=if r (ρ.map Sl.bare) then aa (.nx ((cQ ρ.length Sl.no).set j (.im (.lst (bs.map D.bl))))) else ae
def HE{G:Gc}{H:Hp}:∀bs:List Bool,aF G H (bs.map D.bl) (bs.map V.bl)
 | []=>rfl
 |b::bs=>⟨.bl b,_,rfl,rfl,HE bs⟩
variable{c:Str->Addr}{C2:Addr}{e:Expr}{es:LEx}{r:LS->Bool}{i j:Nat}{n y x2:Str}{np ks pos pos1 yp lp ap:Pos}
def HF{bs:List Bool}(hr:∀(E:XK) pn xe,fV (CX1 X.prog X.w) (X.to pn xe) E->RX c (X.to pn xe) C E e r)(hh:∀a,PA (X.hand a) es (tHs i C bs))(hex:X.ex=[])(hs:X.stack=X.env::X.outer)(hf:X.env.frame=aa X.env.locals)
 (hC:cT X.K C=ac)(Y:cT X.K C2=ac)(hm:ul X.K C (.ref C2)=ac)(hg:Gl X x2)(hm2:X.mg x2=aa (.ref C2))(hN:X.N.Nodup)(hi:X.N[i]?=aa n)(hj:X.N[j]?=aa y)(hl:X.env.kindOf n=aa .local)(hx:Loc X.env.scope n)(hfn:X.fn n=ac\/X.env.scope.names.lookup n=aa .local)
 (hy:Loc X.env.scope y)(hfy:X.fn y=ac\/X.env.scope.names.lookup y=aa .local)(ny:∀x,X.env.cells.lookup x=ae)(hij:i≠j)(hb:bs.length<=bx)
 (hsw:eZ e ae pos1.line X.env=pure ai:=by rfl)(hsy:eZ (.List es lp) (aa (.Name y yp)) ap.line X.env=pure ai:=by rfl)(ri:(x2==("__debug__":Str))=ai:=by decide):
  DS c X (.Try [.Expr e pos1] [.ExceptHandler (aa (.Name x2 np)) (aa n) [.Assign [.Name y yp] (.List es lp) ap] ks] [] [] pos) (qZ r j bs):=by
 intro pins s σ H D I h;obtain⟨Hf0,H0,Hf,ρ,o,so,O,k⟩:=h;unfold qZ at O;split at O
 case isFalse=>nomatch O
 case isTrue er=>
 cases O;refine wpAny_Try_except ?_
 let xe:Value->ax->Prop:=λt B=>wpAny (model X.prog X.w) X.A (noteFrame t X.env) (λ_ G=>wpAny (model X.prog X.w) X.A (setFlight t ae) (λ_ J=>wpAny (model X.prog X.w) X.A (handleBy t X.env [.ExceptHandler (aa (.Name x2 np)) (aa n) [.Assign [.Name y yp] (.List es lp) ap] ks]) (SP X pins D) X.xe J) X.xe G) X.xe B
 let E0:XK:=λcls _ H'=>cls=.ref C/\∃Hf',Ext Hf H Hf' H'
 have hp:fV (CX1 X.prog X.w) (X.to (X.pn++pins) xe) E0:=by
  intro mu σ' H' s1 t s' m hx1;refine ON (OX m) hex hs hf hx1 (λcls dx T z=>z) hC Y hm hg hm2 hN hi hl hx hfn ny (λa=>zW (mx hN hj hy (tm (hh a)) hsy hfy)) (λa T b hn=>?_) ri;obtain⟨Hf',ex⟩:=b;have hiL:i<σ'.length:=by rw[m.len];exact(cV.mp hi).1
  have d:j<σ'.length:=by rw[m.len];exact(cV.mp hj).1
  refine⟨a,by rw[gT hiL],cz,λH3 s3=>⟨by simpa using hb,λl hl3=>?_⟩⟩;have x0:=ex.trans (Ext.grow ex.s ((dN hn).trans s3));have xn:=Ext.new (o:=HO.lst (bs.map V.bl)) x0.s hl3;refine k _ _ _ (x0.f.trans xn.f) ⟨so.ext.trans (x0.trans xn),?_,?_,?_⟩
  .have:=so.len;have l2:=I.len;have l3:σ'.length=X.N.length:=m.len;simp only[qd,gA];lia
  .intro i' v' s' U L
   by_cases q:i'=j
   .subst q;rw[gT (by rw[gA,<- so.len,I.len,<- m.len];exact d)]at L;cases L;rw[ib hij,gT (by simpa using d)]at U;cases U;exact⟨_,rfl,l,_,rfl,cz,HE bs⟩
   .rw[ib (eM q)]at L;have:=vG (me L);subst this;trivial
  .intro i1 i2 s1 s2 v1 v2 U b1 b2 c1 c2 d1 d2;refine(d1.calm ?_).elim
   by_cases q:i1=j
   .subst q;rw[gT (by rw[gA,<- so.len,I.len,<- m.len];exact d)]at b1;cases b1;rfl
   .rw[ib (eM q)]at b1;have:=vG (me b1);subst this;rfl
 refine fB (zW (dR (hr E0 _ xe hp) hsw) [] s σ H {nx:=λ_ _=>False,rt:=λ_ _=>False} (OY I) ⟨Hf,H,Hf,ρ.map Sl.bare,so.bare,er,λHf' H' x=>⟨rfl,Hf',x⟩⟩) (λf s1 p=>?_) λt s1 p=>p
 cases f with
 |next=>obtain⟨_,_,_,z⟩:=p;exact z.elim
 |ret u=>obtain⟨_,_,_,_,_,z⟩:=p;exact z.elim
 |brk=>obtain⟨_,_,_,z⟩:=p;exact z.elim
 |cont=>obtain⟨_,_,_,z⟩:=p;exact z.elim
abbrev OZ:D->Option Str
 |.str z=>if (jJ z).length<=16777216 then aa (jJ z) else ae
 | _=>ae
abbrev mFr(f:MF1)(g:LS->Option LSt)(ρ:LS):Option LSt:=(f ρ).bind λd=>(OZ d).bind λz=>(g ρ).map (z::·)
variable{g:LS->Option LSt}
def xj{f:MF1}(N:DE c X e f)(O:DFs c X es g):DFs c X (.FormattedValue e 114 ae pos::es) (mFr f g):=λpins s σ H Q out I q=>by
 obtain⟨Hf0,H0,Hf,ρ,zs,st,b,U,k⟩:=q
 exact (by
 unfold mFr at b
 cases o:f ρ with
 |none=>rw[o]at b;nomatch b
 |some d=>
  rw[o,aD]at b
  cases d with
  |str y=>
   replace b:(if (jJ y).length<=16777216 then aa _ else ae).bind _=aa zs:=b;split at b
   .rename_i T
    cases p:g ρ with
    |none=>rw[p]at b;nomatch b
    |some z=>
     rw[p]at b;cases b;have h1:=xh z (out++jJ y);have J:(jw (out++jJ y) z).length<=16777216:=U;have L:(out++jJ y).length<=bx:=by rw[dA];lia
     have l:(jJ y).length<=bx:=by rw[dA];exact T
     refine qj (wpAny_FormattedValue_repr ?_);refine thn (N pins s σ H (λv H'=>∃Hf',Ext Hf H Hf' H'/\Rep _ Hf' _ v) I ⟨Hf0,H0,Hf,ρ,.str y,st,o,λv Hf' H' x r=>⟨Hf',x,r⟩⟩) λu s1 q=>?_;obtain⟨v,B,E,Y,m,A,rd⟩:=q;subst rd;obtain⟨t,G⟩:=Y;subst G;exact pyReprObj_str (formatField_str (λt' tk=>⟨L,O pins _ σ B Q _ (E.tok tk) ⟨Hf0,H0,m,ρ,z,st.step A,p,J,λHf' H' x=>k Hf' H' (A.trans x)⟩⟩) l) l
   .nomatch b
  | _=>nomatch b)
variable{E:XK}{st:Stmt}
def ce{bF:List Stmt}(h:RS c X C E st r):RSs c X C E (st::bF) r:=PSs.imp (v6 h (u:=λ_ _ _=>False) λ_ _ _ _ _ _ q=>q.elim) λD σ H q=>q
def eV(h:RX c X C E e r)(b:StE X e es:=by rfl):RA c X C E (e::es) r:=PA.imp (bW h (t:=λ_ _ _=>False) (λ_ _ _ _ _ _ _ q=>q.elim) b) λσ H Q q=>q
abbrev HG(B:Heap)(l:List Env)(e:Addr)(cls b fl:Value)(h:Heap):Prop:=B.StaysIn h/\B.get? e=ae/\h.FunFrames B l/\h.TracedAtW B e cls b fl
abbrev jZ(X:Cx)(pins:PNS)(σ:St)(H:Hp)(E:XK)(fl:Value)(a:Addr)(s':ax):Prop:=∃cls d G,Inv X pins σ H s'/\(∀b∈frs X.stack,b∈G)/\(∀b∈G,H b=ae)/\(∀b∈G,∀o,X.s₀.heap.get? b=aa o->b∈X.fs)/\(∀p∈X.pn++pins,p.1∉G) /\
 HG (jK s'.heap G) (X.env::X.outer) a cls d fl s'.heap/\E cls ae H
def HH{base h h':Heap}{f:LAd}:∀{l:List Env},h.FunFrames base l->(∀b∈frs l,b∈f/\h'.get? b=h.get? b)->h'.FunFrames (jK h' f) l
 | [],_,_=>trivial
 |env::l,q1_,gs=>by
  obtain⟨p,⟨L,o,d,_,q,hd⟩,t⟩:=q1_;have k:=gs L (by unfold frs;rw[lB,d];exact be);exact⟨p,⟨L,o,d,iS _ k.1,k.2.trans q,hd⟩,HH t λb m=>gs b (by unfold frs;rw[lB,d];exact bQ _ m)⟩
variable{s':ax}{e:Value}
def O0(I:Inv X pins σ H s)(hex:X.ex=[])(L:X.stack=X.env::X.outer)(h:CX1 X.prog X.w X.stack H s E e s'):∃a H',e=.ref a/\Un (frs X.stack) [] H H' s.heap s'.heap/\jZ X pins σ H' E .none a s':=by
 obtain⟨a,cls,m,H',B,rfl,fl,os,bare,un,hok,N,kS,k⟩:=h;have J:=I.call' os un hok bare λb z=>by nomatch z
 obtain⟨f1,t,u,Y,vs,T,U,ts,t1,t2,t3,t4,t5,t6,t7,t8,t9⟩:=fl
 have inS:∀b o,X.s₀.heap.get? b=aa o->b∉X.fs->B.get? b≠ae:=λb o e n=>by
  obtain⟨o',x⟩:=I.base.there b o e (by rw[hex];exact λz=>by nomatch z);exact kS b o' x λA=>n (I.stkNew b A o e)
 have two:∀b∈[a,T],B.get? b=ae:=λb d=>by
  rcases bC.1 d with rfl |d
  .exact t
  .rw[bR.1 d];exact t5
 refine⟨a,H',rfl,un,cls,m,frs X.stack++[a,T],J,λb d=>fN _ d,λb d=>?_,λb d o e=>?_,λp G d=>?_,⟨λb o q=>nV _ q,iS _ (by simp),by rw[<- L];exact qU u λb d=>fN _ d,Y,vs,T,U,ts,t1,t2,t3,t4,iS _ (by simp),t6,t7,t8,t9⟩,k⟩
 .rcases dw.1 d with d |d
  .exact J.stkFree b d
  .cases q:H' b with
   |none=>rfl
   |some o=>exact absurd (two b d) (N b (by rw[q];exact λz=>by nomatch z))
 .rcases dw.1 d with d |d
  .exact J.stkNew b d o e
  .by_cases n:b∈X.fs
   .exact n
   .exact absurd (two b d) (inS b o e n)
 .obtain⟨e,q,l,O,_⟩:=I.pin p G;have f:=λz=>(bC.mp (I.stkSub _ z)).elim l O
  rcases dw.1 d with d |d
  .exact f d
  .exact absurd (two _ d) (kS _ _ e f)
def HI{fl:Value}{cls B:Value}{G:LAd}{t:Heap}(hex:X.ex=[])(Y:X.stack=X.env::X.outer)(J:Inv X pins σ H s)(l:∀b∈frs X.stack,b∈G)(m:∀b∈G,H b=ae)(f:∀b∈G,∀o,X.s₀.heap.get? b=aa o->b∈X.fs)(k:∀p∈X.pn++pins,p.1∉G)
 (U:HG (jK s.heap G) (X.env::X.outer) a cls B fl t)(A:s.heap.UpToSlots t)(O:E cls ae H):jZ X pins σ H E fl a {s with heap:=t}:=by
 obtain⟨k1,k2,k3,oe,vs,T,oT,ts,t1,t2,t3,t4,t5,t6,t7,t8,t9⟩:=U
 have two:∀b,b∈a::T::G->b∈G\/s.heap.get? b=ae:=λb d=>by
  by_cases x:b∈G
  .exact .inl x
  .refine .inr ?_
   have q:(jK s.heap G).get? b=ae:=by
    rcases bC.1 d with rfl |d
    .exact k2
    .rcases bC.1 d with rfl |d
     .exact t5
     .exact absurd d x
   cases z:s.heap.get? b with
   |none=>rfl
   |some o=>rw[nU _ z x]at q;nomatch q
 refine⟨cls,B,a::T::G,(A9 J hex m f k k1 A),λb d=>bQ _ (bQ _ (l b d)),λb d=>?_,λb d o e=>?_,λp L d=>?_,⟨λb o q=>nV _ q,iS _ (by simp),qU k3 λb d=>bQ _ (bQ _ (l b (by rw[Y];exact d))),oe,vs,T,oT,ts,t1,t2,t3,t4,iS _ (by simp),t6,t7,t8,t9⟩,O⟩
 .rcases two b d with z |z
  .exact m b z
  .cases q:H b with
   |none=>rfl
   |some o=>obtain⟨u,N⟩:=(J.hok b o q).obj;rw[z]at N;nomatch N
 .rcases two b d with z |z
  .exact f b z o e
  .obtain⟨o',I⟩:=J.base.there b o e (by rw[hex];exact λz=>by nomatch z);rw[z]at I;nomatch I
 .rcases two _ d with z |z
  .exact k p L z
  .have:=(J.pin p L).1;rw[z]at this;nomatch this
section
variable{fl:Value}
def O1{Q:Unit->ax->Prop}(hex:X.ex=[])(o:X.stack=X.env::X.outer)(q:X.env.frame=aa X.env.locals)(U:jZ X pins σ H E .none a s)(k:∀fl h',jZ X pins σ H E fl a {s with heap:=h'}->s.heap.UpToSlots h'->Q () {s with heap:=h'}):
  wpAny M X.A (noteFrame (.ref a) X.env) Q Ex s:=by
 obtain⟨cls,u,G,J,l,m,d,f,t,p⟩:=U;have fr:=J.ok.frames;rw[o]at fr;exact wpAny_looks_onW fr q t λh' b up=>k _ h' (HI hex o J l m d f b up p) up
end
def O2{fl:Value}{m:MGT}{h':Heap}(hs:X.stack=X.env::X.outer)(U:jZ X pins σ H E fl a s)(hn:s.heap.Ns C m)(hC:gf X pins H C)(p:sL C s.heap h'):jZ X pins σ H E fl a {s with heap:=h'}:=by
 obtain⟨cls,a0,G,J,l,t,f,k,⟨k1,k2,k3,A,vs,T,x,Y,t1,t2,N,t4,t5,t6,B,O,t9⟩,hE⟩:=U;obtain⟨f0,I,f2,f3,f4,f5⟩:=hC;obtain⟨o,es,ep,ho,hd,_⟩:=hn
 have ne:∀b u ws,s.heap.get? b=aa u->u.data=.fields ws->b≠C:=λb u ws e q z=>by
  rw[z,ho]at e;cases e;rw[hd]at q
  nomatch q
 have fr:∀b∈frs X.stack,b≠C:=λb d z=>by
  rw[z]at d;exact(bC.mp (J.stkSub C d)).elim I f2
 have mem:∀b o,s.heap.get? b=aa o->(jK s.heap G).get? b=ae->b∈G:=λb o e q=>by
  by_cases L:b∈G
  .exact L
  .rw[nU _ e L]at q;nomatch q
 refine⟨cls,a0,G,J.turned (λb o d e=>(p.2 b d).trans e) f0 I f3 f4 f5,l,t,f,k,⟨λb o q=>nV _ q,iS _ (mem a A t1 k2),HH k3 λb d=>?_,A,vs,T,x,Y,(p.2 a (ne a A vs t1 N)).trans t1,t2,N,t4,iS _ (mem T x B t5),t6,(p.2 T (ne T x Y B O)).trans B,O,t9⟩,hE⟩;rw[<- hs]at d;exact⟨l b d,p.2 b (fr b d)⟩
def O3{fl:Value}{α:Type}{Q:α->ax->Prop}{x:String}{l:Env}(hex:X.ex=[])(hs:X.stack=X.env::X.outer)(U:jZ X pins σ H E fl a s)(k:∀B h',jZ X pins σ H E B a {s with heap:=h'}->Ex (.ref a) {s with heap:=h'}):
  wpAny M Ar (PySem.passOn x (.ref a) l:Sem α) Q Ex s:=by
 obtain⟨cls,a0,G,J,I,L,p,t,⟨k1,k2,k3,oe,vs,T,oT,ts,t1,t2,N,O,t5,t6,Y,A,t9⟩,hE⟩:=U;have d:∀b,b≠T->(s.heap.update T (Obj.mapFields (·.setIfInBounds 3 (l.frame.elim Value.none λf=>rawInt f)))).get? b=s.heap.get? b:=λb hb=>vX _ _ (eM hb);have u:=(zw.mp t9).1
 have nf:∀b o,s.heap.get? b=aa o->(∀ws,o.data≠.fields ws)->b≠T:=λb o e n z=>by
  rw[z,Y]at e;cases e;exact n ts A
 refine bK (wpAny_field t1 N O ?_);refine bK (bK (wpAny_field t1 N O ?_));exact wpAny_setField Y A u (wpAny_throw (k (l.frame.elim Value.none λf=>rawInt f) _ (HI hex hs J I L p t ⟨λb o m=>((d b λq=>by rw[q,t5]at m;nomatch m).trans (k1 b o m)),k2,(k3.of_keeps λb o e n=>⟨o,(d b (nf b o e n)).trans e,rfl⟩),oe,vs,T,_,_,(d a (eM t6)).trans t1,t2,N,O,t5,t6,Heap.get?_update_self _ Y (Obj.isFreed_of_fields (Obj.data_mapFields A _)),Obj.data_mapFields A _,by simp[u]⟩ (λb o e n=>⟨o.slots,(d b (nf b o e n)).trans e⟩) hE)))
def O4{fl:Value}{Q:Unit->ax->Prop}(hex:X.ex=[])(hs:X.stack=X.env::X.outer)(t:X.env.frame=aa X.env.locals)(U:jZ X pins σ H E fl a s)
 (hQ:∀m,CX1 X.prog X.w X.outer X.H₀ X.s₀ E (.ref a) m->Q () m):wpAny M X.A (leaving X.env (.ref a)) Q Ex s:=by
 obtain⟨cls,a0,G,J,u,x,l,hpin,⟨k1,k2,k3,p⟩,hE⟩:=U;have fr:=J.ok.frames;rw[hs]at fr
 have k:∀h',sM _ X.outer a cls a0 h'->s.heap.UpToSlots h'->Q () {s with heap:=h'}:=λh' x1 x2=>hQ _ (A5 J hex u x l x1 x2 hE)
 by_cases q:fl=rawInt X.env.locals
 .subst q;refine bK (wpAny_noteFrame_againW t p ?_);refine wpAny_landsW ⟨k1,k2,k3,p⟩ λh' ⟨B,I,⟨_,_,L⟩,N⟩ up=>k h' ⟨B,I,L,N⟩ up
 .obtain⟨oe,vs,T,oT,ts,t1,⟨tc,t0⟩,t3,t4,t5,t6,O,Y,t9⟩:=p;subst tc;have d:∀b,b≠T->(s.heap.update T (Obj.mapFields (·.setIfInBounds 3 Value.none))).get? b=s.heap.get? b:=λb hb=>vX _ _ (eM hb)
  have nf:∀b o,s.heap.get? b=aa o->(∀ws,o.data≠.fields ws)->b≠T:=λb o e n z=>by
   rw[z,O]at e;cases e;exact n ts Y
  unfold leaving noteFrame;simp only[t];refine bK (bK (wpAny_field t1 t3 t4 ?_));refine bK (wpAny_field O Y t9 ?_);rw[if_neg (λz=>q (beq_iff_eq.mp z))];refine bK (wpAny_setField O Y (zw.mp t9).1 ?_);exact wpAny_newEntryW fr (k3.of_keeps λb o e n=>⟨o,(d b (nf b o e n)).trans e,rfl⟩) t ((d a (eM t6)).trans t1) (λb o f=>(d b λq=>by rw[q,t5]at f;nomatch f).trans (k1 b o f)) k2 t3 (zw.mp t4).1 t0 λh' ⟨B,⟨_,_,I⟩,L,N⟩=>(k h' ⟨B,k2,I,L⟩ λb o e n=>N b o ((d b (nf b o e n)).trans e) n)
abbrev Bc(X:Cx)(E:XK):Prop:=∀(pins:PNS) (σ:St) (H:Hp) (fl:Value) (a:Addr) (s:ax),jZ X pins σ H E fl a s->X.xe (.ref a) s
variable{P:eC}{mg:MGT}{base:Heap}{scope:Scope}
def O5{w:World}{N:LSt}{qual:Str}{f:Addr}{cdv:Value}{A:dL}{outer:List Env}:
  Bc (gF (CX1 P w) P w K mg base N qual scope f cdv A outer s H E) E:=λpins σ H' fl a s1 U=>O4 rfl rfl rfl U λb q=>q
variable{fx tg iter:Expr}{fy:LEx}{Nc:LSt}{k:Nat}{js:LN}{g:TG}{tt:TT}{te:TE}{cl:List (Str×Addr)}
def O6{E0:XK}(hex:X.ex=[])(t:X.stack=X.env::X.outer)(hfr:X.env.frame=aa X.env.locals){L:Hp}{s2:ax}{it:Addr}{fp:LAd}{tn:Nat->Heap->Prop}{J:It}{Q:VK}{RR:Value->Addr->Result->ax->Prop}{E:PRS}
 (hc:X.calm=ac)(ck:mC scope X.env.scope.names X.N Nc k js)
 (hg:∀cl C ex f d,PG (X.comp scope Nc cl C ex f d) tg g)(ht:∀cl C ex f d,PTs (X.comp scope Nc cl C ex f d) fy tt)(he:∀cl C ex f d xe,fV (CX1 X.prog X.w) ((X.comp scope Nc cl C ex f d).to [] xe) E0->PE ((X.comp scope Nc cl C ex f d).to [] xe) fx te)
 (a1:∀x c,cl.lookup x=aa c->X.env.cells.lookup x=aa c)(a2:∀x,(x,ge)∈scope.names->∃c,cl.lookup x=aa c)
 (O:Inv X pins σ L s2)(T:lF X.prog X.w X.K tg J fp it tn)(pr:tn 0 s2.heap)(f2:∀b∈fp,gf X pins L b)(hW:wk J g tt te (ik k js σ) L Q)
 (hRR:∀(D C:Addr) (s':ax) (H':Hp),Inv X pins σ H' s'->(∃m,s'.heap.Ns C m)->gf X pins H' C->Q (.ref D) H'->RR (.ref D) C (.ok .next) s')
 (hRE:∀(D C:Addr) (fl:Value) (a:Addr) (H':Hp) (s':ax),jZ X pins σ H' E0 fl a s'->(∃m,s'.heap.Ns C m)->gf X pins H' C->RR (.ref D) C (.error (.ref a)) s'):
  wpAny (model X.prog X.w) X.A (newList []) (λacc B=>wpAny (model X.prog X.w) X.A (newFunctionEnv scope X.env.globals cl [] X.env.qual ae .none (aa X.env)) (λl G =>
   jh (model X.prog X.w) X.A (.compStart (.ListComp fx [⟨tg,iter,fy,0⟩] scope pos) 0 (.ref it) acc {l with scope:=relabel scope X.env}) (RR acc l.locals) G) E B) E s2:=by
 refine FT (PX:=λY=>fV _ Y E0) hc ck hg ht he a1 a2 O T pr f2 hW hRR λD C hD p u=>?_;intro mu σ' H' s1 e s' o hx1
 have IX:=O.call' o.os o.base o.hok o.bare λb hb=>by
  obtain⟨_,f1,_,f3,f4,f5⟩:=f2 b hb;exact⟨f3,f1,f4,f5⟩
 obtain⟨a,I,rfl,un,U⟩:=O0 IX hex t hx1;obtain⟨m,⟨oC,es,ep,q,hdC,hk1,hk2⟩,_⟩:=o.loc;have nC:C∉frs X.stack:=λz=>absurd (vO (u C z) p) (lC _);exact O1 hex t hfr U λfl h' U' up=>hRE D C fl a I _ U' ⟨m,up.ns ⟨oC,es,ep,(un.keep C oC q o.free nC (λz=>by nomatch z)),hdC,hk1,hk2⟩⟩ (O.fpOk (by lia) (un.free C oC q o.free (λz=>by nomatch z)))
variable{wi:TI}
def O7{E0:XK}(hex:X.ex=[])(l:X.stack=X.env::X.outer)(A:X.env.frame=aa X.env.locals)(hU:Bc X E0)(k:Nat)(js:LN)(Nc:LSt)(hc:X.calm=ac)(hi:PI X tg iter wi)
 (hg:∀cl C ex f d,PG (X.comp scope Nc cl C ex f d) tg g)(ht:∀cl C ex f d,PTs (X.comp scope Nc cl C ex f d) fy tt)(he:∀cl C ex f d xe,fV (CX1 X.prog X.w) ((X.comp scope Nc cl C ex f d).to [] xe) E0->PE ((X.comp scope Nc cl C ex f d).to [] xe) fx te)
 (p:jN scope X.env.scope.names X.N Nc k js=ac:=by rfl)(hs:∀x,iO iter X.env x=pure x:=by intro _;rfl):
  PE X (.ListComp fx [⟨tg,iter,fy,0⟩] scope pos) (og k js wi g tt te):=by
 intro pins s σ H Q I h;have p:=mC.of p;obtain⟨cl,z,a1,a2⟩:=Ag λx hx e=>I.ok.has x.1 (p.free x hx e);refine zF rfl hs z p.kind p.loc (thn (hi pins s σ H _ I h) λv s1 h1=>thn h1 λitv s2 h2=>?_);obtain⟨it,fp,tn,J,H2,e,Y,T,G,f2,hW⟩:=h2;subst e;refine O6 hex l A hc p hg ht he a1 a2 Y T G f2 hW (λD C s' H' O ⟨m,t⟩ u q=>?_) λD C fl a H' s' U ⟨m,t⟩ u=>⟨m,t,λh' sb L hl=>O3 hex l (O2 l U t u sb) λfl' h'' U'=>hU _ _ _ _ _ _ U'⟩;obtain⟨f0,f1,_,f3,f4,f5⟩:=u;exact⟨m,t,λh' B=>⟨.ref D,H',O.turned (λb o hb e=>(B.2 b hb).trans e) f0 f1 f3 f4 f5,rfl,q⟩⟩
variable{ex:LAd}{a9:ax}{c3:Hp}{e:Expr}
def PE.toE{t:TE}(h:PE (X.comp scope Nc cl C ex a9 c3) e t):PE ((X.comp scope Nc cl C ex a9 c3).to [] xe) e t:=λpins s σ H Q I q=>
 fB (h pins s σ H Q (wm I) q) (λu s' ⟨v,H',b,r,d⟩=>⟨v,H',wl b,r,d⟩) λ_ _ z=>z.elim
def PA.toE{t:TA}(h:PA (X.comp scope Nc cl C ex a9 c3) es t):PA ((X.comp scope Nc cl C ex a9 c3).to [] xe) es t:=λpos pins s σ H Q I q=>
 fB (h pos pins s σ H Q (wm I) q) (λu s' ⟨v,H',b,r,d⟩=>⟨v,H',wl b,r,d⟩) λ_ _ z=>z.elim
def glT{Y:Cx}{pn:PNS}{x:Str}(h:Gl Y x):Gl (Y.to pn xe) x:=h
variable{fa:Xa}
def DAX.toE(h:DAX c (X.comp scope Nc cl C ex a9 c3) es fa):DAX c ((X.comp scope Nc cl C ex a9 c3).to [] xe) es fa:=⟨PA.toE h.pa,h.len⟩
abbrev jy(g:D->LS->Option LS)(b:MF4)(fe:MF1)(re:LS->Bool)(ρ:LS):LD->Bool
 | []=>ai
 |d::ds=>match g d ρ with
  | some ρ1=>(match b ρ1 with
   |some ac=>re ρ1 || ((fe ρ1).isSome && jy g b fe re ρ ds)
   |some ai=>jy g b fe re ρ ds
   |none=>ai)
  |none=>ai
abbrev rf(k:Nat)(js:LN)(b:MF2)(g:D->LS->Option LS)(d:MF4)(fe:MF1)(re:LS->Bool)(ρ:LS):Bool:=match b ρ with
 |some ds=>decide (ds.length<=16777216) && jy g d fe re (fI k js ρ) ds
 |none=>ai
variable{fi:MF2}{g:D->LS->Option LS}{ft:MF4}{fe:MF1}{re:LS->Bool}
def O8{G:Gc}(hj:js.Nodup)(hk:∀d ρ ρ' i,g d ρ=aa ρ'->k<=i->ρ'[i]?=ρ[i]?)(U:∀d ρ ρ',g d ρ=aa ρ'->ρ'.length=ρ.length){Q:VK}(h:tR G C E (rf k js fi g ft fe re) σ H):
  og k js (wG G fi) (tDG G g) (tDT G ft) (λσ H Q=>tD G fe σ H Q\/tR G C E re σ H) σ H Q:=by
 obtain⟨Hf0,H0,Hf,ρ,st,t,kE⟩:=h;unfold rf at t
 cases e1:fi ρ with
 |none=>rw[e1]at t;nomatch t
 |some ds=>
  rw[e1]at t;rw[cq,decide_eq_true_eq]at t;obtain⟨hz,t⟩:=t;refine⟨Hf0,H0,Hf,ρ,ds,st,e1,λJ u H1 x1 it=>?_⟩
  refine⟨λi m ys σ' H'=>m=ds.length-i/\i<=ds.length/\∃Hf' q,Ext u H1 Hf' H'/\aG G Hf0 H0 Hf' H' σ' _/\aF G Hf' q ys/\jy g ft fe re _ (ds.drop i)=ac/\q.length<=i,
   ⟨ds.length,rfl,gB _,u,[],Ext.refl x1.s,(st.step x1).comp k hj,rfl,t,bN _⟩,?_⟩
  rintro i m ys σ' H' ⟨rfl,hi,Hf',q,x2,pr,ra,l,hal⟩;have hys:ys.length<=bx:=by rw[dA,<- ra.length];lia
  obtain⟨it1,it2⟩:=it Hf' H' x2 i
  have B:i<ds.length:=by
   rcases qh i ds.length with z |z
   .exact z
   .rw[vH z]at l
    nomatch l
  obtain⟨d,ed,edr⟩:=wH B;obtain⟨go,yl⟩:=it1 d ed
  refine .inr ⟨go,hys,λY σ2 L=>ds.length-_=ds.length-_/\i+1<=ds.length/\∃Hf' q,Ext u H1 Hf' L/\aG G Hf0 H0 Hf' L σ2 _/\aF G Hf' q Y/\jy g ft fe re _ _=ac/\q.length<=i+1,
   λY σ2 L w=>⟨ds.length-(i+1),by lia,w⟩,λx L y=>?_⟩
  obtain⟨N,x3,rx⟩:=yl x L y;rw[edr]at l;unfold jy at l
  cases T:g d _ with
  |none=>rw[T]at l;nomatch l
  |some ρ1=>
   rw[T]at l;dsimp only at l
   cases et:ft ρ1 with
   |none=>rw[et]at l;nomatch l
   |some b=>
    rw[et]at l;refine⟨Hf0,H0,N,fI k js ρ,d,ρ1,pr.step x3,rx,T,λm4 p=>⟨Hf0,H0,N,ρ1,b,p,et,λA H4 I=>?_⟩⟩
    have back:∀{o H5:Hp},aG G Hf0 H0 o H5 m4 ρ1->aG G Hf0 H0 o H5 m4 _:=λ{o H5} s5=>s5.weak (U _ _ _ T).symm λj s hs=>by
     rcases ou hs with⟨_,e⟩ |⟨hj',_⟩
     .exact .inl e
     .exact .inr (by rw[hk _ _ _ _ T hj'];exact hs)
    cases b with
    |true=>
     rcases lw.mp l with l |l
     .exact .inr ⟨Hf0,H0,A,ρ1,p.step I,l,kE⟩
     .rw[cq]at l;obtain⟨O,l⟩:=l
      cases ee:fe ρ1 with
      |none=>rw[ee]at O;nomatch O
      |some y'=>
       refine .inl ⟨Hf0,H0,A,ρ1,y',p.step I,ee,λv o H5 x5 r5=>?_⟩;have x:=(x3.trans I).trans x5
       exact⟨rfl,B,o,q++[y'],x2.trans x,back ((p.step I).step x5),(ra.up x.f).append (.cons r5 .nil),l,by rw[aO,f7];lia⟩
    |false=>
     have x:=x3.trans I;exact⟨rfl,B,A,q,x2.trans x,back (p.step I),ra.up x.f,l,by lia⟩
def O9(k:Nat)(js:LN)(Nc:LSt)(p:X.calm=ac)(hex:X.ex=[])(l:X.stack=X.env::X.outer)(d:X.env.frame=aa X.env.locals)(o:Bc X E)(hi:DIe c X tg iter fi)(f:∀cl C ex a9 c3,DG c (X.comp scope Nc cl C ex a9 c3) tg k g)(B:∀cl C ex a9 c3,DTs c (X.comp scope Nc cl C ex a9 c3) fy ft)
 (q:∀cl C ex a9 c3,DE c (X.comp scope Nc cl C ex a9 c3) fx fe)(z:∀cl b ex a9 c3 xe,fV (CX1 X.prog X.w) ((X.comp scope Nc cl b ex a9 c3).to [] xe) E->RX c ((X.comp scope Nc cl b ex a9 c3).to [] xe) C E fx re)
 (m:jN scope X.env.scope.names X.N Nc k js=ac:=by rfl)(A:∀x,iO iter X.env x=pure x:=by intro _;rfl)(t:js.Nodup:=by decide):
  RX c X C E (.ListComp fx [⟨tg,iter,fy,0⟩] scope pos) (rf k js fi g ft fe re):=
 PE.imp (O7 hex l d o (tt:=tDT (Gx c X) ft) (te:=λσ H Q=>tD (Gx c X) fe σ H Q\/tR (Gx c X) C E re σ H) k js Nc p hi (λcl C ex a9 c3=>(f cl C ex a9 c3).pg) B (λcl b ex a9 c3 xe u=>PE.orR (PE.toE (q cl b ex a9 c3)) (z cl b ex a9 c3 xe u)) m A) λσ H Q h=>
  O8 t (f [] 0 [] X.s₀ X.H₀).keep (f [] 0 [] X.s₀ X.H₀).len h
abbrev HJ:V->List V->Hp->VK->Prop:=λx vs H Q=>∃l xs y i,x=.ref l/\vs=[.int i,y]/\H l=aa (.lst xs)/\0<=i/\i<=xs.length/\xs.length<16777216/\Q .non (upd H l (.lst (xs.take i.toNat++y::xs.drop i.toNat)))
def HK:∀{xs:List V} {us:LVa} (n:Nat),aW xs us->aW (xs.take n) (us.take n)
 | _,_,0,_=>.nil
 | _,_,_+1,.nil=>.nil
 | _,_,n+1,.cons r t=>.cons r (HK n t)
def HL:∀{xs:List V} {us:LVa} (n:Nat),aW xs us->aW (xs.drop n) (us.drop n)
 | _,_,0,h=>h
 | _,_,_+1,.nil=>.nil
 | _,_,n+1,.cons _ t=>HL n t
def Pb:MtM X "list.insert" HJ:=by
 intro pins s σ H x vs v us Q I A u h;obtain⟨l,xs,y,i,rfl,rfl,d,J,hi,L,q⟩:=h;subst A;obtain⟨N,G,rfl,p,B⟩:=wb u;obtain⟨t,rfl⟩:=p;obtain⟨z,its,n,r,o,e⟩:=I.lstM d
 have b:EY i=ac:=by
  unfold EY;rw[cq,decide_eq_true_eq,decide_eq_true_eq];lia
 refine qo F.slot_list_insert ⟨_,e,rfl⟩ F.entry_list_insert (F.args_list_insert_3 _ _ _) (PySem.AutoSeq1.list_insert_list_int_val_1 l its.toArray n i t G (by rw[b];exact λz=>by nomatch z) (by rw[size_toArray,<- o];exact z)) ⟨e,?_⟩;refine⟨.non,_,I.lset d e ?_ ((HK _ r).append (.cons B (HL _ r))) ?_,rfl,q⟩
 .have f:¬i<0:=by lia
  have m:min i.toNat its.toArray.size=i.toNat:=by rw[size_toArray];lia
  simp only[if_neg f,m];simp[sE]
 .rw[aO,aQ,fA,f8,dA];lia
abbrev uo(i:Nat)(f:Xa)(ρ:LS):Option Fl:=match ρ[i]? with
 |some (.own _)=>(f ρ).bind λp=>match p.2[i]?,p.1 with
  |some (.own xs),[.int n,d]=>if 0<=n/\n<=xs.length/\xs.length<16777216 then aa (.nx (p.2.set i (.own (xs.take n.toNat++d::xs.drop n.toNat)))) else ae
  | _,_=>ae
 | _=>ae
def HM{G:Gc}{H:Hp}:∀{ds:LD} {vs:List V} (n:Nat),aF G H ds vs->aF G H (ds.take n) (vs.take n)
 | _,_,0,_=>by rw[take_zero,take_zero];rfl
 | [],_,_+1,h=>by cases (h);rfl
 |d::ds,_,n+1,⟨v,r,e,h1,h2⟩=>by subst e;exact⟨v,_,rfl,h1,HM n h2⟩
def HN{G:Gc}{H:Hp}:∀{ds:LD} {vs:List V} (n:Nat),aF G H ds vs->aF G H (ds.drop n) (vs.drop n)
 | _,_,0,h=>h
 | [],_,_+1,h=>by cases (h);rfl
 |d::ds,_,n+1,⟨v,r,e,h1,h2⟩=>by subst e;exact HN n h2
def Pc{f:Xa}(h:PS X st (sU (tBM X.K "list" HJ (df i) (oJ (Gx c X) f)))):DS c X st (uo i f):=PS.imp h λE σ H q_=>by
 obtain⟨Hf0,H0,Hf,ρ,o,so,b,k⟩:=q_;unfold uo at b;split at b
 .rename_i j4 z
  cases t:f ρ with
  |none=>rw[t]at b;nomatch b
  |some p=>
   rw[t,aD]at b;split at b
   .rename_i xs n d es x;split at b
    .rename_i hl;cases b;obtain⟨l,u,h0,hf,vs0,q0,r0⟩:=so.ownAt rfl z;refine⟨_,u,.inl ⟨rfl,_,SqL.of q0⟩,Hf0,H0,Hf,ρ,p.1,p.2,so,t,λvs1 Hf' H' s m O=>?_⟩;rw[x]at O;obtain⟨v1,r1,A,I,T,r2,B,J,G⟩:=O;cases (I);cases (G);subst B;subst A;obtain⟨l2,L,U,Y,vs,q,r⟩:=m.ownAt rfl es;rw[u]at L;cases L;have N:=r.length;refine⟨l,vs,T,n,rfl,rfl,q,hl.1,by lia,by lia,k σ Hf' _ s (m.mutd rfl rfl es u ⟨_,cz,(HM _ r).append ⟨T,_,rfl,J,HN _ r⟩⟩)⟩
    .nomatch b
   .nomatch b
 .nomatch b
def HP:iP "ValueError"=aa (.type "ValueError"):=by decide +kernel
def HQ(h:iU K C v=aa ac):ul K C v=ac:=by
 unfold iU W.clsIn at h;unfold ul
 cases e:K.lookup C with
 |none=>rw[e]at h;nomatch h
 |some o=>
  rw[e]at h;obtain⟨oc,od,b,sl⟩:=o
  cases b with
  |cls d=>
   rw[aD]at h;split at h
   .nomatch h
   .exact dz h
  | _=>nomatch h
variable{f:MF1}
def Pe{g:MF1}(h:PE X e (tBM X.K "str" (Ht X.K) (tD (Gx c X) f) (n8 (tDB (Gx c X) g) lG))):DE c X e (m2 uf f g):=PE.imp h λσ H Q O=>by
 obtain⟨Hf0,H0,Hf,ρ,d,st,J,k⟩:=O;obtain⟨x,y,G,I,b⟩:=qy J;unfold uf at b;split at b
 .rename_i a
  cases p:lsD y with
  |none=>rw[p]at b;nomatch b
  |some ds=>
   rw[p,aD]at b
   cases t:lP ds with
   |none=>rw[t]at b;nomatch b
   |some zs=>
    rw[t,aD]at b;split at b
    .rename_i N;cases b;refine⟨Hf0,H0,Hf,ρ,_,st,G,λv m Y A T=>?_⟩;cases (T);refine⟨rfl,Hf0,H0,m,ρ,_,st.step A,I,λu o B x2 U=>?_⟩;obtain⟨l,vs,L,q,z⟩:=qF p U;rw[Ho t]at z;rw[Hr zs vs z]at q;exact⟨a,l,zs,rfl,by rw[L],q,N,k _ o B (A.trans x2) rfl⟩
    .nomatch b
 .nomatch b
abbrev gw(t:Xt)(F:MF3)(r:LS->Bool):Nat->LS->Bool
 | 0,_=>ai
 |n+1,ρ=>match t ρ with
  |some (ac,ρ1)=>r ρ1 || match F ρ1 with
   |some (.nx hT)=>gw t F r n hT
   | _=>ai
  | _=>ai
variable{sts:List Stmt}
def PSs.orR{t t':TS}(h:PSs X sts t)(h':PSs X sts t'):PSs X sts λD σ H=>t D σ H\/t' D σ H:=λpins s σ H D I q=>q.elim (h pins s σ H D I) (h' pins s σ H D I)
variable{as:List Stmt}{cd:Expr}{F:MF3}{t:Xt}
def uq(n:Nat)(N:nP (model X.prog X.w) X.A X.env X.xe)(L:DTX c X cd t)(J:DSs c X as F)(O:RSs c X C E as r):RS c X C E (.While cd as [] pos) (gw t F r n):=PS.imp (Fe N L (PSs.orR J O)) λU σ H q=>by
 obtain⟨Hf0,H0,Hf,ρ,so,G,k⟩:=q;refine⟨λm σ' H'=>∃Hf' ρ',aG _ Hf0 H0 Hf' H' σ' ρ'/\gw t F r m ρ'=ac,⟨n,Hf,ρ,so,G⟩,?_⟩;rintro m σ' H' ⟨Hf',ρ',u,em⟩
 cases m with
 |zero=>nomatch em
 |succ m=>
  unfold gw at em;split at em
  .rename_i ρ1 I;refine⟨Hf0,H0,Hf',ρ',ac,ρ1,u,I,λb Y f2 d=>?_⟩;refine⟨λo z=>∃Hf' ρ',aG _ Hf0 H0 Hf' z o ρ'/\gw t F r m ρ'=ac,λo z w=>⟨m,qg _,w⟩,?_⟩
   rcases lw.mp em with em |em
   .exact .inr ⟨Hf0,H0,b,ρ1,d,em,k⟩
   .split at em
    .rename_i l B;exact .inl ⟨Hf0,H0,b,ρ1,.nx l,d,B,λT p H4 s4 x=>⟨p,l,x,em⟩⟩
    .nomatch em
  .nomatch em
abbrev j6(i:Nat)(r:LS->Bool)(ρ:LS):Bool:=match ρ[i]? with
 |some (.own _)=>r ρ
 | _=>ai
def ur(h:PS X st (sU (tBM X.K "list" wg (df i) λσ H _=>tR (Gx c X) C E r σ H))):RS c X C E st (j6 i r):=PS.imp h λo σ H q=>by
 obtain⟨Hf0,H0,Hf,ρ,so,b,k⟩:=q;unfold j6 at b;split at b
 .rename_i xs es;obtain⟨l,d,p,u,vs0,m,x⟩:=so.ownAt rfl es;exact⟨_,d,.inl ⟨rfl,_,SqL.of m⟩,Hf0,H0,Hf,ρ,so,b,k⟩
 .nomatch b
abbrev rg(i:Nat)(r:LS->Bool)(ρ:LS):Bool:=match ρ[i]? with
 |some (.own xs)=>r (ρ.set i (.im (.lst xs)))
 | _=>ai
def HR(i:Nat)(h:RS c X C E st r):RS c X C E st (rg i r):=PS.imp h λp σ H q=>by
 obtain⟨Hf0,H0,Hf,ρ,so,b,k⟩:=q;unfold rg at b;split at b
 .rename_i xs es;obtain⟨l,m,u,o,vs,q,r⟩:=so.ownAt rfl es;exact⟨Hf0,H0,_,_,so.fixd (d:=.lst xs) rfl es m q ⟨l,vs,rfl,cz,r.up (dN o)⟩,b,k⟩
 .nomatch b
abbrev Be(g:Str->Bool):V->List V->Hp->VK->Prop:=λx vs H Q=>∃a,x=.str a/\vs=[]/\Q (.bl (g a)) H
def Pf:MtR X "str.isalpha" (Be sN):=by
 rintro pins s σ H x xs v us Q I d b ⟨a,rfl,rfl,q⟩;obtain⟨t,rfl⟩:=d;cases b;exact SC.isalpha ⟨.bl _,H,I,rfl,q⟩
def Pg:MtR X "str.islower" (Be sO):=by
 rintro pins s σ H x xs v us Q I d b ⟨a,rfl,rfl,q⟩;obtain⟨t,rfl⟩:=d;cases b;exact SC.islower ⟨.bl _,H,I,rfl,q⟩
abbrev rh(g:Str->Bool)(x:D):OD:=match x with
 |.str a=>aa (.bl (g a))
 | _=>ae
def HS{g:Str->Bool}(h:PE X e (FQ X.K "str" (Be g) (tD (Gx c X) f))):DE c X e (m1 (rh g) f):=PE.imp h λσ H Q p=>by
 obtain⟨Hf0,H0,Hf,ρ,d,st,b,k⟩:=p;unfold m1 at b
 cases m:f ρ with
 |none=>rw[m]at b;nomatch b
 |some x=>
  rw[m,aD]at b;unfold rh at b;split at b
  .rename_i a;cases b;refine⟨Hf0,H0,Hf,ρ,_,st,m,λv l o u q=>?_⟩;cases (q);exact⟨rfl,a,rfl,rfl,k _ l o u rfl⟩
  .nomatch b
abbrev HU:V->List V->Hp->VK->Prop:=λx vs H Q=>∃a b,x=.str a/\vs=[.str b]/\a.length<=bx/\Q (.str (Txt.stripChars a b)) H
def Ph:MtR X "str.strip" HU:=by
 rintro pins s σ H x xs v us Q I m l ⟨a,b,rfl,rfl,d,q⟩;obtain⟨t,rfl⟩:=m;obtain⟨u,rfl,t',rfl⟩:=l.one;exact SC.stripChars (λt' k=>⟨.str _,H,I.tok k,⟨t',rfl⟩,q⟩) d
abbrev ut(x y:D):OD:=match x,y with
 |.str a,.str b=>if a.length<=16777216 then aa (.str (Txt.stripChars a b)) else ae
 | _,_=>ae
def Pi{g:MF1}(h:PE X e (tBM X.K "str" HU (tD (Gx c X) f) (n8 (tD (Gx c X) g) lG))):DE c X e (m2 ut f g):=PE.imp h λσ H Q I=>by
 obtain⟨Hf0,H0,Hf,ρ,d,st,B,k⟩:=I;obtain⟨x,y,z,A,l⟩:=qy B;unfold ut at l;split at l
 .rename_i a b;split at l
  .rename_i G;cases l;refine⟨Hf0,H0,Hf,ρ,_,st,z,λv m N p J=>?_⟩;cases (J);exact⟨rfl,Hf0,H0,m,ρ,_,st.step p,A,λu o q x2 L=>⟨a,b,rfl,by rw[show u=V.str b from L],by rw[dA];exact G,k _ o q (p.trans x2) rfl⟩⟩
  .nomatch l
 .nomatch l
abbrev Bf(f g:Xe):Xe:=λρ=>(f ρ).bind λp=>(g p.2).bind λq=>(lsD p.1).bind λds=>match q.1 with
 |.int i=>aa (.lst (on ds (aa i) ae),q.2)
 | _=>ae
def Pj{a b:Expr}{f g:Xe}{p2:Pos}(ha:DX c X a f)(hb:DX c X b g):DX c X (.Subscript a (.Slice (aa b) ae ae p2) pos) (Bf f g):=
 PE.imp (wf FM ha (FF hb) FE) λσ H Q q_=>by
  obtain⟨Hf0,H0,Hf,ρ,r,ρ',st,U,k⟩:=q_;obtain⟨⟨d,ρ1⟩,N,A⟩:=sH.mp U;obtain⟨⟨y,hT⟩,O,B⟩:=sH.mp A;obtain⟨ds,T,m⟩:=sH.mp B
  cases y <;> first |(cases m;done) |skip
  rename_i i;cases m;refine⟨Hf0,H0,Hf,ρ,_,ρ1,st,N,λv z H1 Y J r1=>⟨Hf0,H0,z,ρ1,_,_,J,O,λu L H2 G l r2=>⟨i,r2,?_⟩⟩⟩;obtain⟨a,vs,rfl,q,r⟩:=qF T r1;refine⟨a,vs,rfl,(G.trans l.sub).seq q,λp I=>?_⟩;have x:=(Ext.tmp (o:=.lst (qw vs (aa i) ae)) l.sub I).fix I (l.sub.free I) cz;exact k _ _ _ ((Y.trans G).trans x.f) (l.step x) ⟨p,_,rfl,cz,(Gd (r.up G) _ _).up x.f⟩
set_option maxRecDepth 100000
end L2
namespace N_k75
open List
open PySem PySem.Spec PyProof.Rows L2
local macro_rules | `(tactic| walk_at "sc")=>`(tactic| exact ⟨rfl,rfl,rfl,by decide +kernel,rfl,by decide +kernel,by decide +kernel⟩)
abbrev top(i:Nat):Stmt:=PySem.Challenge.pw_standstill_k75_rows_refused.main.body.getD i (.Pass ⟨0,0,0,0⟩)
@[reducible]noncomputable def Bg:=top 12
@[reducible]noncomputable def Bh:=top 13
@[reducible]noncomputable def Bi:=top 14
@[reducible]noncomputable def Bj:=top 15
@[reducible]noncomputable def Bk:=top 16
@[reducible]noncomputable def Bl:=top 18
@[reducible]noncomputable def s_4:=top 19
@[reducible]noncomputable def s_6:=top 20
@[reducible]noncomputable def s_0:=top 23
@[reducible]noncomputable def Bm:=top 24
@[reducible]noncomputable def Bn:=top 25
@[reducible]noncomputable def Bo:=top 26
@[reducible]noncomputable def Bp:=top 27
@[reducible]noncomputable def Bq:=top 28
@[reducible]noncomputable def Br:=top 29
@[reducible]noncomputable def Bs:=top 30
@[reducible]noncomputable def Bt:=top 31
@[reducible]noncomputable def Bu:=top 32
@[reducible]noncomputable def Bv:=top 33
@[reducible]noncomputable def Bw:=top 34
@[reducible]noncomputable def Bx:=top 35
@[reducible]noncomputable def By:=top 36
@[reducible]noncomputable def Bz:=top 37
@[reducible]noncomputable def BA:=top 38
@[reducible]noncomputable def BB:=top 39
@[reducible]noncomputable def BC:=top 40
@[reducible]noncomputable def BD:=top 41
@[reducible]noncomputable def BE:=top 42
@[reducible]noncomputable def BF:=top 43
@[reducible]noncomputable def BG:=top 44
@[reducible]noncomputable def BH:=top 45
@[reducible]noncomputable def BI:=top 46
@[reducible]noncomputable def BJ:=top 47
@[reducible]noncomputable def BK:=top 48
@[reducible]noncomputable def BL:=top 49
@[reducible]noncomputable def BM:=top 50
@[reducible]noncomputable def BN:=top 51
@[reducible]noncomputable def BO:=top 52
@[reducible]noncomputable def BQ:=top 53
@[reducible]noncomputable def BS:=dM (top 21) 0
@[reducible]noncomputable def s_8:=dM (top 21) 1
@[reducible]noncomputable def BU:=dM (top 21) 2
@[reducible]noncomputable def s_1:=dM (top 21) 3
@[reducible]noncomputable def s_2:=dM (top 21) 4
@[reducible]noncomputable def BV:=dM (top 21) 5
@[reducible]noncomputable def BW:=dM (top 21) 6
@[reducible]noncomputable def BX:=dM (top 21) 7
@[reducible]noncomputable def BY:=dM (top 21) 8
@[reducible]noncomputable def s_3:=dM (top 21) 9
@[reducible]noncomputable def BZ:=dM (top 21) 10
@[reducible]noncomputable def B0:=dM (top 21) 11
@[reducible]noncomputable def s_7:=dM (top 21) 12
@[reducible]noncomputable def s_9:=dM (top 21) 13
@[reducible]noncomputable def s_5:=dM (top 21) 14
@[reducible]noncomputable def B1:=dM (top 21) 15
@[reducible]noncomputable def B2:=dM (top 21) 16
@[reducible]noncomputable def B3:=dM (top 21) 17
@[reducible]noncomputable def B4:=dM (top 21) 18
@[reducible]noncomputable def B5:=dM (top 21) 19
@[reducible]noncomputable def B6:=dM (top 21) 20
@[reducible]noncomputable def B7:=dM (top 21) 21
@[reducible]noncomputable def B8:=dM (top 21) 22
@[reducible]noncomputable def B9:=dM (top 21) 23
@[reducible]noncomputable def Ca:=dM (top 21) 24
@[reducible]noncomputable def Cb:=dM (top 21) 25
@[reducible]noncomputable def Cc:=dM (top 21) 26
def HV:aX ["line","spaced","sign"] ["line"] (aK Bg):=by walk_at "sc"
def Pl:aX ["word","signs","most"] ["word","signs","most"] (aK Bh):=by walk_at "sc"
def Pn:aX ["word"] ["word"] (aK Bi):=by walk_at "sc"
def Po:aX ["word"] ["word"] (aK Bj):=by walk_at "sc"
def HW:aX ["word","figures"] ["word"] (aK Bk):=by walk_at "sc"
def Pp:aX ["text"] ["text"] (aK Bl):=by walk_at "sc"
def o6:aX ["line","reader","row"] ["line"] (aK s_4):=by walk_at "sc"
def HX:aX ["listed","most"] ["listed","most"] (aK s_6):=by walk_at "sc"
def Pq:aX ["_law_state","_law_many"] ["_law_state","_law_many"] (aK s_0):=by walk_at "sc"
def uu:aX ["_law_script","_law_many","_law_seeds_here","_law_at","_law_cell","_law_seed"] ["_law_script","_law_many"] (aK Bm):=by walk_at "sc"
def xk:aX ["_law_state","_law_many","_law_span","_law_word","_law_k"] ["_law_state","_law_many","_law_span"] (aK Bn):=by walk_at "sc"
def HY:aX ["_law_first"] ([]:LSt) (aK Bo):=by walk_at "sc"
def Cd:aX ["_law_state","_law_way","_law_word"] ["_law_state"] (aK Bp):=by walk_at "sc"
def HZ:aX ["_law_state","_law_great"] ["_law_state"] (aK Bq):=by walk_at "sc"
def uv:aX ["_law_state","_law_number_here","_law_k"] ["_law_state"] (aK Br):=by walk_at "sc"
def Pr:aX ["_law_state"] ["_law_state"] (aK Bs):=by walk_at "sc"
def Ia:aX ["_law_state","_law_name_here"] ["_law_state"] (aK Bt):=by walk_at "sc"
def Ib:aX ["_law_state","_law_thing_here"] ["_law_state"] (aK Bu):=by walk_at "sc"
def Ps:aX ["_law_state"] ["_law_state"] (aK Bv):=by walk_at "sc"
def xl:aX ["_law_state","_law_many","_law_pairs_here","_law_k","_law_variable_here"] ["_law_state","_law_many"] (aK Bw):=by walk_at "sc"
def xm:aX ["_law_state","_law_word","_law_bound","_law_some"] ["_law_state"] (aK Bx):=by walk_at "sc"
def Ce:aX ["_law_state","_law_way","_law_one"] ["_law_state"] (aK By):=by walk_at "sc"
def Pt:aX ["_law_state"] ["_law_state"] (aK Bz):=by walk_at "sc"
def lb:aX ["_law_state","_law_way","_law_body_here","_law_pairs_here","_law_name_here","_law_at","_law_some","_law_low","_law_high"] ["_law_state"] (aK BA):=by walk_at "sc"
def uw:aX ["_law_thing_here","_law_words_here","_law_k","_law_arg_here"] ["_law_thing_here"] (aK BB):=by walk_at "sc"
def ux:aX ["_law_some","_law_state","_law_words_here","_law_thing_here","_law_worth"] ["_law_some","_law_state"] (aK BC):=by walk_at "sc"
def uz:aX ["_law_opening","_law_pairs_here","_law_words_here","_law_variable_here","_law_kind"] ["_law_opening","_law_pairs_here"] (aK BD):=by walk_at "sc"
def Ic:aX ["_law_part_here","_law_state","_law_words_here"] ["_law_part_here","_law_state"] (aK BE):=by walk_at "sc"
def xo:aX ["_law_opening","_law_body_here","_law_state","_law_words_here","_law_part_here"] ["_law_opening","_law_body_here","_law_state"] (aK BF):=by walk_at "sc"
def xp:aX ["_law_row_here","_law_state","_law_words_here"] ["_law_row_here","_law_state"] (aK BG):=by walk_at "sc"
def m6:aX ["_law_words_here","_law_state","_law_line_here","_law_last","_law_word","_law_gap"] ["_law_words_here","_law_state"] (aK BH):=by walk_at "sc"
def Ie:aX ["_law_state","_law_some"] ["_law_state"] (aK BI):=by walk_at "sc"
def Pu:aX ["_law_word"] ["_law_word"] (aK BJ):=by walk_at "sc"
def o7:aX ["_law_words_here","_law_state","_law_way","_law_kind","_law_at","_law_some","_law_spots","_law_spot"] ["_law_words_here","_law_state"] (aK BK):=by walk_at "sc"
def lf:aX ["_law_state","_law_way","_law_body_here","_law_pairs_here","_law_thing_here"] ["_law_state"] (aK BL):=by walk_at "sc"
def xq:aX ["_law_words_here","_law_state","_law_way","_law_sign","_law_line_here"] ["_law_words_here","_law_state"] (aK BM):=by walk_at "sc"
def Cf:aX ["_law_line_here","_law_found","e"] ["_law_line_here"] (aK BN):=by walk_at "sc"
def Cg:aX ["_law_text","_law_found","e"] ["_law_text"] (aK BO):=by walk_at "sc"
def j7:aX ["_law_script","_law_many","_law_seed","_law_state","_law_due","_law_words_here","_law_good","_law_bad","_law_rows","_law_alone"] ["_law_script"] (aK BQ):=by walk_at "sc"
def Pv:aX ["self","words"] ["self","words"] (aK BS):=by walk_at "sc"
def Ig:aX ["self","behind","place"] ["self","behind"] (aK s_8):=by walk_at "sc"
def Ih:aX ["self","word"] ["self"] (aK BU):=by walk_at "sc"
def Pw:aX ["self","word"] ["self","word"] (aK s_1):=by walk_at "sc"
def Ii:aX ["self","word"] ["self","word"] (aK s_2):=by walk_at "sc"
def Ij:aX ["self"] ["self"] (aK BV):=by walk_at "sc"
def xr:aX ["self","word"] ["self"] (aK BW):=by walk_at "sc"
def m7:aX ["self","low","high"] ["self"] (aK BX):=by walk_at "sc"
def uA:aX ["self","body"] ["self"] (aK BY):=by walk_at "sc"
def xt:aX ["self","word"] ["self"] (aK s_3):=by walk_at "sc"
def uB:aX ["self","names"] ["self"] (aK BZ):=by walk_at "sc"
def xu:aX ["self","word"] ["self"] (aK B0):=by walk_at "sc"
def xv:aX ["self","word"] ["self"] (aK s_7):=by walk_at "sc"
def Ik:aX ["self"] ["self"] (aK s_9):=by walk_at "sc"
def uC:aX ["self","name"] ["self"] (aK s_5):=by walk_at "sc"
def uD:aX ["self","args"] ["self"] (aK B1):=by walk_at "sc"
def Il:aX ["self"] ["self"] (aK B2):=by walk_at "sc"
def uE:aX ["self","body"] ["self"] (aK B3):=by walk_at "sc"
def Im:aX ["self"] ["self"] (aK B4):=by walk_at "sc"
def uF:aX ["self","first"] ["self"] (aK B5):=by walk_at "sc"
def o8:aX ["self","word","number"] ["self"] (aK B6):=by walk_at "sc"
def uG:aX ["self","items"] ["self"] (aK B7):=by walk_at "sc"
def uH:aX ["self","worth"] ["self"] (aK B8):=by walk_at "sc"
def Io:aX ["self"] ["self"] (aK B9):=by walk_at "sc"
def Ip:aX ["self"] ["self"] (aK Ca):=by walk_at "sc"
def uI:aX ["self","pairs"] ["self"] (aK Cb):=by walk_at "sc"
def uJ:aX ["self","variable"] ["self"] (aK Cc):=by walk_at "sc"
set_option genInjectivity false
set_option genSizeOf false
structure Wa where
(e_40 e_49 e_61 e_50 e_41 e_55 e_4 e_6 e_0 e_53 e_43 e_38 e_27 e_54 e_35 e_32 e_34 e_57 e_44 e_31 e_46 e_56 e_58 e_36 e_37 e_47 e_42 e_62 e_51 e_48 e_28 e_63 e_64 e_45 e_39 e_52 e_59 e_60 e_29 e_65 e_8 e_24 e_1 e_2 e_33 e_17 e_18 e_21 e_3 e_25 e_19 e_7 e_9 e_5 e_30 e_10 e_16 e_20 e_26 e_22 e_11 e_12 e_23 e_13 e_14 e_15:Addr×fD)
 (cl:Str->Addr)
 (C_BadName C_NoRow C_NoThing C_StillError C_Wide:Addr)
structure Wd(K:bo)(mg:MGT)(a:Wa):Prop where
 e_40:Df K mg "words_of" Bg ["line"] a.e_40
 e_49:Df K mg "is_made_of" Bh ["word","signs","most"] a.e_49
 e_61:Df K mg "is_name" Bi ["word"] a.e_61
 e_50:Df K mg "is_variable" Bj ["word"] a.e_50
 e_41:Df K mg "is_number" Bk ["word"] a.e_41
 e_55:Df K mg "read" Bl ["text"] a.e_55
 e_4:Df K mg "read_row" s_4 ["line"] a.e_4
 e_6:Df K mg "at_most" s_6 ["listed","most"] a.e_6
 e_0:Df K mg "_law_next" s_0 ["_law_state","_law_many"] a.e_0
 e_53:Df K mg "_law_seeds" Bm ["_law_script","_law_many"] a.e_53
 e_43:Df K mg "_law_small" Bn ["_law_state","_law_many","_law_span"] a.e_43
 e_38:Df K mg "_law_kept" Bo ([]:LSt) a.e_38
 e_27:Df K mg "_law_name" Bp ["_law_state"] a.e_27
 e_54:Df K mg "_law_variable" Bq ["_law_state"] a.e_54
 e_35:Df K mg "_law_number" Br ["_law_state"] a.e_35
 e_32:Df K mg "_law_arg" Bs ["_law_state"] a.e_32
 e_34:Df K mg "_law_thing" Bt ["_law_state"] a.e_34
 e_57:Df K mg "_law_item" Bu ["_law_state"] a.e_57
 e_44:Df K mg "_law_items" Bv ["_law_state"] a.e_44
 e_31:Df K mg "_law_pairs" Bw ["_law_state","_law_many"] a.e_31
 e_46:Df K mg "_law_count" Bx ["_law_state"] a.e_46
 e_56:Df K mg "_law_part" By ["_law_state"] a.e_56
 e_58:Df K mg "_law_body" Bz ["_law_state"] a.e_58
 e_36:Df K mg "_law_row" BA ["_law_state"] a.e_36
 e_37:Df K mg "_law_thing_words" BB ["_law_thing_here"] a.e_37
 e_47:Df K mg "_law_items_words" BC ["_law_some","_law_state"] a.e_47
 e_42:Df K mg "_law_pairs_words" BD ["_law_opening","_law_pairs_here"] a.e_42
 e_62:Df K mg "_law_part_words" BE ["_law_part_here","_law_state"] a.e_62
 e_51:Df K mg "_law_body_words" BF ["_law_opening","_law_body_here","_law_state"] a.e_51
 e_48:Df K mg "_law_words" BG ["_law_row_here","_law_state"] a.e_48
 e_28:Df K mg "_law_line" BH ["_law_words_here","_law_state"] a.e_28
 e_63:Df K mg "_law_alien" BI ["_law_state"] a.e_63
 e_64:Df K mg "_law_is_name" BJ ["_law_word"] a.e_64
 e_45:Df K mg "_law_spoiled" BK ["_law_words_here","_law_state"] a.e_45
 e_39:Df K mg "_law_too_many" BL ["_law_state"] a.e_39
 e_52:Df K mg "_law_bad_line" BM ["_law_words_here","_law_state"] a.e_52
 e_59:Df K mg "_law_refusal" BN ["_law_line_here"] a.e_59
 e_60:Df K mg "_law_refusal_of_text" BO ["_law_text"] a.e_60
 e_29:Df K mg "law" BQ ["_law_script"] a.e_29
 e_65:Dm K (a.cl "Reader") "__init__" "Reader.__init__" BS ["self","words"] a.e_65
 e_8:Dm K (a.cl "Reader") "coming" "Reader.coming" s_8 ["self","behind"] a.e_8
 e_24:Dm K (a.cl "Reader") "take" "Reader.take" BU ["self"] a.e_24
 e_1:Dm K (a.cl "Reader") "passes" "Reader.passes" s_1 ["self","word"] a.e_1
 e_2:Dm K (a.cl "Reader") "must_pass" "Reader.must_pass" s_2 ["self","word"] a.e_2
 e_33:Dm K (a.cl "Reader") "must_end" "Reader.must_end" BV ["self"] a.e_33
 e_17:Dm K (a.cl "Reader") "read_form" "Reader.read_form" BW ["self"] a.e_17
 e_18:Dm K (a.cl "Reader") "read_choose" "Reader.read_choose" BX ["self"] a.e_18
 e_21:Dm K (a.cl "Reader") "read_never" "Reader.read_never" BY ["self"] a.e_21
 e_3:Dm K (a.cl "Reader") "read_name" "Reader.read_name" s_3 ["self"] a.e_3
 e_25:Dm K (a.cl "Reader") "read_names" "Reader.read_names" BZ ["self"] a.e_25
 e_19:Dm K (a.cl "Reader") "read_variable" "Reader.read_variable" B0 ["self"] a.e_19
 e_7:Dm K (a.cl "Reader") "read_number" "Reader.read_number" s_7 ["self"] a.e_7
 e_9:Dm K (a.cl "Reader") "read_arg" "Reader.read_arg" s_9 ["self"] a.e_9
 e_5:Dm K (a.cl "Reader") "read_thing" "Reader.read_thing" s_5 ["self"] a.e_5
 e_30:Dm K (a.cl "Reader") "read_args" "Reader.read_args" B1 ["self"] a.e_30
 e_10:Dm K (a.cl "Reader") "read_if" "Reader.read_if" B2 ["self"] a.e_10
 e_16:Dm K (a.cl "Reader") "read_body" "Reader.read_body" B3 ["self"] a.e_16
 e_20:Dm K (a.cl "Reader") "read_part" "Reader.read_part" B4 ["self"] a.e_20
 e_26:Dm K (a.cl "Reader") "read_unlike" "Reader.read_unlike" B5 ["self"] a.e_26
 e_22:Dm K (a.cl "Reader") "read_count" "Reader.read_count" B6 ["self"] a.e_22
 e_11:Dm K (a.cl "Reader") "read_items" "Reader.read_items" B7 ["self"] a.e_11
 e_12:Dm K (a.cl "Reader") "read_item" "Reader.read_item" B8 ["self"] a.e_12
 e_23:Dm K (a.cl "Reader") "read_over" "Reader.read_over" B9 ["self"] a.e_23
 e_13:Dm K (a.cl "Reader") "read_for" "Reader.read_for" Ca ["self"] a.e_13
 e_14:Dm K (a.cl "Reader") "read_pairs" "Reader.read_pairs" Cb ["self"] a.e_14
 e_15:Dm K (a.cl "Reader") "read_pair" "Reader.read_pair" Cc ["self"] a.e_15
 g_Reader:mg "Reader"=aa (.ref (a.cl "Reader"))
 cl_Reader:Cls K (a.cl "Reader")
 mk_Reader:Mk K (a.cl "Reader") a.e_65.1
 na_Reader_words:ji K (a.cl "Reader") "words"
 na_Reader_place:ji K (a.cl "Reader") "place"
 g_BadName:mg "BadName"=aa (.ref a.C_BadName)
 g_NoRow:mg "NoRow"=aa (.ref a.C_NoRow)
 g_NoThing:mg "NoThing"=aa (.ref a.C_NoThing)
 g_StillError:mg "StillError"=aa (.ref a.C_StillError)
 g_Wide:mg "Wide"=aa (.ref a.C_Wide)
 x_NoRow:cT K a.C_NoRow=ac
 x_StillError:cT K a.C_StillError=ac
 ec_NoRow:m5 K a.C_NoRow
 mr_NoRow:iU K a.C_NoRow (.ref a.C_NoRow)=aa ac
 mr_StillError:iU K a.C_NoRow (.ref a.C_StillError)=aa ac
 ke_NoRow:kn K (.ref a.C_NoRow) (.ref a.C_NoRow)=aa ac
 ke_StillError:kn K (.ref a.C_NoRow) (.ref a.C_StillError)=aa ac
 kv_ValueError:kn K (.ref a.C_NoRow) (.type "ValueError")=aa ac
 km_BadName_Wide_NoThing:W.kitAny K (.ref a.C_NoRow) [.ref a.C_BadName,.ref a.C_Wide,.ref a.C_NoThing]=aa ai
 g_KEPT:G9 K mg "KEPT" ["kind","rule","may","choose","never","if","and","not","unlike","least","most","of","to","over","in","for"]
 g_SMALL:∃t,mg "SMALL"=aa (.str "abcdefghijklmnopqrstuvwxyz" t)
 g_GREAT:∃t,mg "GREAT"=aa (.str "ABCDEFGHIJKLMNOPQRSTUVWXYZ" t)
 g_FIGURES:∃t,mg "FIGURES"=aa (.str "0123456789" t)
 g_LONE:∃t,mg "LONE"=aa (.str "()," t)
 z_ValueError:mg "ValueError"=ae
 z_abs:mg "abs"=ae
 z_all:mg "all"=ae
 z_enumerate:mg "enumerate"=ae
 z_int:mg "int"=ae
 z_isinstance:mg "isinstance"=ae
 z_len:mg "len"=ae
 z_max:mg "max"=ae
 z_range:mg "range"=ae
 z_str:mg "str"=ae
set_option genInjectivity true
set_option genSizeOf true
nonrec abbrev dX(P:eC)(w:World)(K:bo)(mg:MGT)(base:Heap)(a:Wa)(k:Nat)(x:Str)(e:Addr×fD)(ps:LSt)(m:Addr->LD->LD->Option (LD×D)):Prop:=Pm P w K mg base CX0 k (a.cl "Reader") x e ps (oP ⟨K,a.cl⟩ "Reader" ["words","place"] ps.length m)
nonrec abbrev eX(P:eC)(w:World)(K:bo)(mg:MGT)(base:Heap)(a:Wa)(k:Nat)(x:Str)(e:Addr×fD)(ps:LSt)(C:Addr)(r:Addr->LD->LD->Bool):Prop:=Pm P w K mg base (CX1 P w) k (a.cl "Reader") x e ps (oY ⟨K,a.cl⟩ "Reader" ["words","place"] ps.length C r)
nonrec abbrev qM(P:eC)(w:World)(K:bo)(mg:MGT)(base:Heap)(a:Wa)(k:Nat)(x:Str)(e:Addr×fD)(ps:LSt)(n0:Nat)(m:Addr->LD->LD->LD->Option (LD×D)):Prop:=Pk P w K mg base CX0 k x e ps (spM ⟨K,a.cl⟩ n0 ps.length m)
nonrec abbrev qD(P:eC)(w:World)(K:bo)(mg:MGT)(base:Heap)(a:Wa)(k:Nat)(x:Str)(e:Addr×fD)(ps:LSt)(m:LD->OD):Prop:=Pk P w K mg base CX0 k x e ps (spD ⟨K,a.cl⟩ ps.length m)
abbrev b_0:MF3:=
 (au (qN 0 (kI 0) (m2 il (m2 bB (m2 lM (mIx (wU 0) (kI 0)) (kI 1181783497276652981)) (kI 12345678910987)) (m2 jP (m2 jQ (kI 2) (kI 61)) (kI 1))))
  (cB (m2 il (m2 An (mIx (wU 0) (kI 0)) (kI 65537)) (ah 1))))
abbrev m_0:=dO 2 b_0
abbrev xw:MF3:=
 (au (dS 2 (kSt ""))
  (au (dS 3 (kSt "("))
  (au (iw (fG (ah 0)) (bZ 4) (au (aP 5 (aE 1 m_0 (ag (mX (kI 3)) af)))
  (au (aY (iZ (mB (m2 dEq (ah 5) (kI 0))) (iZ (mB (m2 jm (ah 4) (aZ (aj (kSt "(") (aj (kSt ")") (aj (kSt ",") nZ)))))) (mB (m2 jm (ah 3) (aZ (aj (kSt "(") (aj (kSt ")") (aj (kSt ",") nZ)))))))) (dS 5 (kI 1)) aU)
  (au (qO 2 (mX (m2 bB (m2 mV (kSt " ") (ah 5)) (ah 4))))
  (dS 3 (ah 4))))))
  (bi (mX2 bB (mX (ah 2)) (mX2 mV (mX (kSt " ")) (aE 1 m_0 (ag (mX (kI 3)) af))))))))
abbrev lT:=dO 6 xw
abbrev Ch:MF3:=
 (au (dS 0 (aZ (aj (kSt "kind") (aj (kSt "rule") (aj (kSt "may") (aj (kSt "choose") (aj (kSt "never") (aj (kSt "if") (aj (kSt "and") (aj (kSt "not") nZ))))))))))
  (oy (gL (ah 0) (aZ (aj (kSt "unlike") (aj (kSt "least") (aj (kSt "most") (aj (kSt "of") (aj (kSt "to") (aj (kSt "over") (aj (kSt "in") (aj (kSt "for") nZ))))))))))))
abbrev lU:=fj 1 Ch
abbrev xy:MF3:=
 (au (dS 3 (kSt ""))
  (au (iw (ir (aj (ah 1) nZ)) (bZ 4) (qO 3 (mX2 mU (mX (kSt "abcdefghijklmnopqrstuvwxyz")) (aE 0 m_0 (ag (mX (ah 2)) af)))))
  (cB (ah 3))))
abbrev rj:=dO 5 xy
abbrev uK:MF3:=
 (au (aP 1 (aE 0 m_0 (ag (mX (kI 12)) af)))
  (au (aY (mB (m2 dEq (ah 1) (kI 0))) (bi (mX2 bB (mX2 dU (mX (aS lU nZ)) (aE 0 m_0 (ag (mX (kI 16)) af))) (aE 0 rj (ag (mX (kI 1)) (ag (mX (kI 26)) af))))) aU)
  (au (aY (mB (m2 dEq (ah 1) (kI 1))) (bi (xg (mX2 dU (mX (aS lU nZ)) (aE 0 m_0 (ag (mX (kI 16)) af))) (λ_=>aa ae) (mPt (m1 kD (kI 1))))) aU)
  (au (aP 2 (aE 0 rj (ag (mX2 bB (mX (kI 1)) (aE 0 m_0 (ag (mX (kI 8)) af))) (ag (mX (mIx (aj (kI 26) (aj (kI 2) nZ)) (m2 il (ah 1) (kI 2)))) af))))
  (au (aY (mB (m2 dIn (ah 2) (aS lU nZ))) (cB (m2 bB (kSt "z") (ah 2))) aU)
  (cB (ah 2)))))))
abbrev j8:=dO 3 uK
abbrev xz:MF3:=
 (au (dS 1 (aZ (aj (kSt "9a") (aj (kSt "-0") (aj (kSt "007") (aj (kSt "Ab1") (aj (kSt "abcdefghi") (aj (kSt "Abcdefghi") (aj (kSt "*") (aj (kSt "a.b") (aj (m2 mV (kSt "1") (kI 31)) (aj (kSt "-") (aj (kSt "+1") (aj (kSt "aB") (aj (kSt "a\tb") nZ)))))))))))))))
  (bi (mX2 dU (mX (ah 1)) (aE 0 m_0 (ag (mX (kI 13)) af)))))
abbrev Ci:=dO 2 xz
abbrev Cj:MF3:=
 (fW (kz (m1 (rh sN) (ah 0)) (kz (m1 (rh sO) (ah 0)) (m2 jm (ah 0) (aS lU nZ)))))
abbrev xA:=fj 1 Cj
abbrev uL:MF3:=
 (au (aP 2 (aE 1 m_0 (ag (mX (kI 5)) af)))
  (au (dS 3 (m2 dEq (mIx (bO 0) (kI 0)) (kSt "kind")))
  (au (aP 4 (aE 1 m_0 (ag (mX (aS dJ (aj (ah 0) nZ))) af)))
  (au (aY (mB (m2 dEq (ah 2) (kI 0))) (bi (mX2 bB (mX2 bB (mX (aZ (mSl (ah 0) (λ_=>aa ae) (mPt (ah 4))))) (dT (ag (aE 1 Ci af) af))) (Bf (mX (ah 0)) (mX2 bB (mX (ah 4)) (aE 1 m_0 (ag (mX (kI 2)) af)))))) aU)
  (au (aY (iZ (mB (m2 dEq (ah 2) (kI 1))) (eG (ah 3))) (cB (aZ (mSl (ah 0) (λ_=>aa ae) (mPt (kI 2))))) aU)
  (au (aY (mB (m2 dEq (ah 2) (kI 1))) (cB (aZ (mSl (ah 0) (λ_=>aa ae) (mPt (m1 kD (kI 1)))))) aU)
  (au (aY (iZ (mB (m2 dEq (ah 2) (kI 2))) (eG (ah 3))) (cB (aZ (gL (aZ (aj (kSt "kind") nZ)) (ah 0)))) aU)
  (au (aY (mB (m2 dEq (ah 2) (kI 2))) (cB (aZ (gL (aZ (gL (aZ (mSl (ah 0) (λ_=>aa ae) (mPt (ah 4)))) (aZ (aj (mIx (bO 0) (ah 4)) nZ)))) (aZ (mSl (ah 0) (mPt (ah 4)) (λ_=>aa ae)))))) aU)
  (au (aY (mB (m2 dEq (ah 2) (kI 3))) (au (dS 5 (aZ (aj (kSt "if") (aj (kSt "and") (aj (kSt "not") (aj (kSt "unlike") (aj (kSt "least") (aj (kSt "a") (aj (kSt "A") (aj (kSt "1") (aj (kSt "for") (aj (kSt "kinds") (aj (kSt "rules") (aj (kSt "Rule") (aj (kSt "Never") nZ)))))))))))))))
  (bi (mX2 bB (dT (ag (mX2 dU (mX (ah 5)) (aE 1 m_0 (ag (mX (kI 13)) af))) af)) (mX (aZ (mSl (ah 0) (mPt (kI 1)) (λ_=>aa ae))))))) aU)
  (au (dS 6 (aZ (fh 1 [0] (ir (aj (aS dJ (aj (ah 0) nZ)) nZ)) (bZ 0) (eG (aS xA (aj (mIx (bO 1) (ah 0)) nZ))) (ah 0))))
  (au (aP 7 (mX2 dU (mX (ah 6)) (aE 1 m_0 (ag (mX (aS dJ (aj (ah 6) nZ))) af))))
  (bi (mX2 bB (mX2 bB (mX (aZ (mSl (ah 0) (λ_=>aa ae) (mPt (ah 7))))) (dT (ag (mX2 dU (mX (aS lU nZ)) (aE 1 m_0 (ag (mX (kI 16)) af))) af))) (mX (aZ (mSl (ah 0) (mPt (m2 bB (ah 7) (kI 1))) (λ_=>aa ae)))))))))))))))))
abbrev Ck:=dO 8 uL
abbrev uM:MF3:=
 (au (aP 1 (mX2 mU (mX (kSt "ABCDEFGHIJKLMNOPQRSTUVWXYZ")) (aE 0 m_0 (ag (mX2 dU (mX (aZ (aj (kI 26) (aj (kI 2) nZ)))) (aE 0 m_0 (ag (mX (kI 2)) af))) af))))
  (bi (mX2 bB (mX (ah 1)) (aE 0 rj (ag (aE 0 m_0 (ag (mX (kI 8)) af)) (ag (mX2 dU (mX (aZ (aj (kI 26) (aj (kI 2) nZ)))) (aE 0 m_0 (ag (mX (kI 2)) af))) af))))))
abbrev xB:=dO 2 uM
abbrev uN:MF3:=
 (au (eS (mBX (mX2 dEq (aE 0 m_0 (ag (mX (kI 2)) af)) (mX (kI 0)))) (bi (aE 0 xB af)) aU)
  (bi (aE 0 j8 af)))
abbrev lg:=dO 1 uN
abbrev xC:MF3:=
 (au (aP 1 (aE 0 m_0 (ag (mX (kI 9)) af)))
  (au (eS (mBX (mX2 dEq (aE 0 m_0 (ag (mX (kI 3)) af)) (mX (kI 0)))) (au (iw (ir (aj (kI 2) nZ)) (bZ 2) (aP 1 (mX2 bB (mX (m2 lM (ah 1) (m2 jQ (kI 10) (kI 10)))) (aE 0 m_0 (ag (mX (m2 jQ (kI 10) (kI 10))) af)))))
  (aP 1 (mX2 bB (mX (m2 lM (ah 1) (m2 jQ (kI 10) (kI 9)))) (aE 0 m_0 (ag (mX (m2 jQ (kI 10) (kI 9))) af))))) aU)
  (au (eS (mBX (mX2 dEq (aE 0 m_0 (ag (mX (kI 3)) af)) (mX (kI 0)))) (cB (m1 kD (ah 1))) aU)
  (cB (ah 1)))))
abbrev o9:=dO 3 xC
abbrev uO:MF3:=
 (au (aP 1 (aE 0 j8 af))
  (bi (cc (ag (mX (ah 1)) (ag (gN 1 [0] 0 0 (jt (ag (eR wR (ag (mX (kI 0)) (ag (mX2 jP (aE 0 m_0 (ag (mX (kI 5)) af)) (mX (kI 1))) af))) af)) (bZ 0) (aE 1 lg af)) af)))))
abbrev m8:=dO 2 uO
abbrev uP:MF3:=
 (au (aP 1 (aE 0 m8 af))
  (au (eS (mBX (mX2 dEq (aE 0 m_0 (ag (mX (kI 2)) af)) (mX (kI 0)))) (cB (gr (aj (ah 1) (aj (kI 1) nZ)))) aU)
  (bi (cc (ag (mX (ah 1)) (ag (eR xf (ag (aE 0 o9 af) af)) af))))))
abbrev Cm:=dO 2 uP
abbrev xD:MF3:=
 (bi (gN 1 [0] 0 0 (jt (ag (mX2 bB (mX (kI 1)) (aE 0 m_0 (ag (mX2 dU (mX (aZ (aj (kI 4) (aj (kI 9) nZ)))) (mX1 qL (mX2 dEq (aE 0 m_0 (ag (mX (kI 6)) af)) (mX (kI 0))))) af))) af)) (bZ 0) (aE 1 Cm af)))
abbrev m9:=dO 1 xD
abbrev xE:MF3:=
 (au (gh 2 nZ)
  (au (iw (ir (aj (ah 1) nZ)) (bZ 3) (au (aP 4 (aE 0 xB af))
  (dP 2 (cc (ag (mX (ah 4)) (ag (aE 0 j8 af) af))))))
  (gJ 2 (cB (ah 2)))))
abbrev lh:=dO 5 xE
abbrev uQ:MF3:=
 (au (aP 1 (mX2 dU (mX (aZ (aj (kSt "least") (aj (kSt "most") nZ)))) (aE 0 m_0 (ag (mX (kI 2)) af))))
  (au (aP 2 (aE 0 o9 af))
  (au (aP 3 (aE 0 m9 af))
  (bi (cc (ag (mX (ah 1)) (ag (mX (ah 2)) (ag (mX (ah 3)) (ag (aE 0 lh (ag (aE 0 m_0 (ag (mX (kI 3)) af)) af)) af)))))))))
abbrev xF:=dO 4 uQ
abbrev uR:MF3:=
 (au (aP 1 (aE 0 m_0 (ag (mX (kI 5)) af)))
  (au (aY (mB (m2 dLt (ah 1) (kI 2))) (bi (aE 0 xF af)) aU)
  (au (aY (mB (m2 dEq (ah 1) (kI 2))) (au (aP 2 (aE 0 lg af))
  (bi (cc (ag (mX (kSt "unlike")) (ag (mX (ah 2)) (ag (aE 0 lg af) af)))))) aU)
  (bi (cc (ag (mX (mIx (aj (kSt "is") (aj (kSt "not") nZ)) (m2 jP (ah 1) (kI 3)))) (ag (aE 0 m8 af) af)))))))
abbrev Cn:=dO 3 uR
abbrev xG:MF3:=
 (bi (gN 1 [0] 0 0 (jt (ag (aE 0 m_0 (ag (mX (kI 4)) af)) af)) (bZ 0) (aE 1 Cn af)))
abbrev xH:=dO 1 xG
abbrev uS:MF3:=
 (au (aP 1 (aE 0 m_0 (ag (mX (kI 6)) af)))
  (au (aP 2 (aE 0 xH af))
  (au (aP 3 (aE 0 lh (ag (aE 0 m_0 (ag (mX (kI 4)) af)) af)))
  (au (aP 4 (aE 0 m8 af))
  (au (aY (mB (m2 dEq (ah 1) (kI 0))) (aP 4 (cc (ag (mX (mIx (bO 4) (kI 0))) (ag (gN 1 [0] 0 0 (jt (ag (mX2 bB (mX (kI 4)) (aE 0 m_0 (ag (mX (kI 3)) af))) af)) (bZ 0) (aE 1 lg af)) af)))) aU)
  (au (aY (mB (m2 dEq (ah 1) (kI 1))) (aP 3 (aE 0 lh (ag (mX2 bB (mX (kI 4)) (aE 0 m_0 (ag (mX (kI 2)) af))) af))) aU)
  (au (aY (mB (m2 dEq (ah 1) (kI 2))) (aP 2 (mX2 bB (mX (ah 2)) (dT (ag (cc (ag (mX (kSt "least")) (ag (mX (kI 1)) (ag (aE 0 m9 af) (ag (aE 0 lh (ag (mX2 bB (mX (kI 3)) (aE 0 m_0 (ag (mX (kI 2)) af))) af)) af))))) af)))) aU)
  (au (aY (mB (m2 dEq (ah 1) (kI 3))) (aP 2 (mX2 bB (mX (ah 2)) (dT (ag (cc (ag (mX (kSt "most")) (ag (mX (kI 1)) (ag (mX2 bB (aE 0 m9 af) (dT (ag (cc (ag (mX (ah 4)) (ag (mX2 jP (mX (m1 kD (kI 1))) (aE 0 m_0 (ag (mX (kI 9)) af))) af))) af))) (ag (mX (aZ nZ)) af))))) af)))) aU)
  (au (aY (mB (m2 dEq (ah 1) (kI 4))) (bi (cc (ag (mX (kSt "kind")) (ag (mX (mIx (bO 4) (kI 0))) (ag (gN 1 [0] 0 0 (jt (ag (mX2 dU (dT (ag (mX (kI 0)) (ag (mX2 bB (mX (kI 13)) (aE 0 m_0 (ag (mX (kI 4)) af))) af))) (aE 0 m_0 (ag (mX (kI 2)) af))) af)) (bZ 0) (aE 1 j8 af)) af))))) aU)
  (au (aY (mB (m2 dEq (ah 1) (kI 5))) (au (aP 2 (gN 1 [0] 0 0 (jt (ag (mX2 bB (mX (kI 1)) (aE 0 m_0 (ag (mX (kI 3)) af))) af)) (bZ 0) (cc (ag (mX (kSt "unlike")) (ag (aE 1 lg af) (ag (aE 1 lg af) af))))))
  (cB (gr (aj (kSt "never") (aj (ah 2) (aj (ah 3) nZ)))))) aU)
  (au (eS (mBX (mX2 dEq (aE 0 m_0 (ag (mX (kI 2)) af)) (mX (kI 0)))) (cB (gr (aj (kSt "never") (aj (aZ (gL (ah 2) (aZ (aj (gr (aj (kSt "is") (aj (ah 4) nZ))) nZ)))) (aj (ah 3) nZ))))) aU)
  (cB (gr (aj (kSt "rule") (aj (ah 4) (aj (ah 2) (aj (ah 3) nZ)))))))))))))))))
abbrev Co:=dO 5 uS
abbrev Cp:MF3:=
 (au (gh 1 (aj (mIx (bO 0) (kI 0)) nZ))
  (au (iw (mO (aj (mIx (bO 0) (kI 1)) nZ)) (oq (kK (bZ 2) (kK (bZ 3) tL))) (k9 1 (mX (aZ (aj (mIx (aj (kSt "(") (aj (kSt ",") nZ)) (oI (m2 dGt (ah 2) (kI 0)))) (aj (ah 3) nZ))))))
  (au (aY (mB (m2 dGt (aS dJ (aj (mIx (bO 0) (kI 1)) nZ)) (kI 0))) (lI 1 (kSt ")")) aU)
  (iu 1))))
abbrev na:=fj 4 Cp
abbrev xI:MF3:=
 (au (gh 2 nZ)
  (au (iw (fG (ah 0)) (oq (kK (bZ 3) (kK (bZ 4) tL))) (au (aY (mB (m2 dGt (aS dJ (aj (mE 2) nZ)) (kI 0))) (lI 2 (kSt ",")) aU)
  (au (eS (mT (mTX (mB (m2 dNe (ah 4) (kI 1)))) (mBX (mX2 dEq (aE 1 m_0 (ag (mX (kI 3)) af)) (mX (kI 0))))) (lI 2 (m1 jV (ah 4))) aU)
  (k9 2 (mX (aS na (aj (ah 3) nZ)))))))
  (gJ 2 (cB (ah 2)))))
abbrev xJ:=dO 5 xI
abbrev Cq:MF3:=
 (au (gh 2 nZ)
  (au (iw (fG (ah 1)) (oq (kK (bZ 3) (kK (bZ 4) tL))) (k9 2 (mX (aZ (aj (mIx (aj (ah 0) (aj (kSt ",") nZ)) (oI (m2 dGt (aS dJ (aj (mE 2) nZ)) (kI 0)))) (aj (ah 3) (aj (kSt "in") (aj (ah 4) nZ))))))))
  (iu 2)))
abbrev rk:=fj 5 Cq
abbrev xK:MF3:=
 (au (aY (mB (m2 dEq (mIx (bO 0) (kI 0)) (kSt "unlike"))) (cB (aZ (aj (mIx (bO 0) (kI 1)) (aj (kSt "unlike") (aj (mIx (bO 0) (kI 2)) nZ))))) aU)
  (au (aY (mB (m2 dEq (mIx (bO 0) (kI 0)) (kSt "is"))) (cB (aS na (aj (mIx (bO 0) (kI 1)) nZ))) aU)
  (au (aY (mB (m2 dEq (mIx (bO 0) (kI 0)) (kSt "not"))) (cB (aZ (gL (aZ (aj (kSt "not") nZ)) (aS na (aj (mIx (bO 0) (kI 1)) nZ))))) aU)
  (au (aP 2 (mX2 bB (mX (aZ (aj (mIx (bO 0) (kI 0)) (aj (m1 jV (mIx (bO 0) (kI 1))) (aj (kSt "of") nZ))))) (iA 1 xJ (ag (mX (mIx (bO 0) (kI 2))) af))))
  (cB (m2 bB (ah 2) (aS rk (aj (kSt "over") (aj (mIx (bO 0) (kI 3)) nZ)))))))))
abbrev Cr:=dO 3 xK
abbrev xL:MF3:=
 (au (gh 3 nZ)
  (au (iw (fG (ah 1)) (bZ 4) (au (lI 3 (mIx (aj (ah 0) (aj (kSt "and") nZ)) (oI (m2 dGt (aS dJ (aj (mE 3) nZ)) (kI 0)))))
  (k9 3 (iA 2 Cr (ag (mX (ah 4)) af)))))
  (gJ 3 (cB (ah 3)))))
abbrev xM:=dO 5 xL
abbrev xN:MF3:=
 (au (aY (mB (m2 dEq (mIx (bO 0) (kI 0)) (kSt "kind"))) (cB (aZ (gL (aZ (aj (kSt "kind") (aj (mIx (bO 0) (kI 1)) nZ))) (mIx (bO 0) (kI 2))))) aU)
  (au (aY (mB (m2 dEq (mIx (bO 0) (kI 0)) (kSt "never"))) (bi (mX2 bB (iA 1 xM (ag (mX (kSt "never")) (ag (mX (mIx (bO 0) (kI 1))) af))) (mX (aS rk (aj (kSt "for") (aj (mIx (bO 0) (kI 2)) nZ)))))) aU)
  (au (aY (mB (m2 dEq (mIx (bO 0) (kI 0)) (kSt "choose"))) (au (uh 2 (mX (aZ (aj (kSt "choose") (aj (m1 jV (mIx (bO 0) (kI 1))) (aj (kSt "to") (aj (m1 jV (mIx (bO 0) (kI 2))) (aj (kSt "of") nZ))))))) (iA 1 xJ (ag (mX (mIx (bO 0) (kI 3))) af)))
  (k9 2 (mX (aS rk (aj (kSt "over") (aj (mIx (bO 0) (kI 4)) nZ)))))) (gh 2 (gL (aZ (aj (mIx (bO 0) (kI 0)) nZ)) (aS na (aj (mIx (bO 0) (kI 1)) nZ)))))
  (gJ 2 (bi (mX2 bB (mX2 bB (mX (ah 2)) (iA 1 xM (ag (mX (kSt "if")) (ag (mX (mIx (bO 0) (m1 kD (kI 2)))) af)))) (mX (aS rk (aj (kSt "for") (aj (mIx (bO 0) (m1 kD (kI 1))) nZ))))))))))
abbrev uT:=dO 3 xN
abbrev uU:MF3:=
 (au (aP 2 (aE 1 m_0 (ag (mX (kI 9)) af)))
  (au (aY (mB (m2 dEq (ah 2) (kI 8))) (au (aP 3 (mX2 mU (mX (kSt "\n\t")) (aE 1 m_0 (ag (mX (kI 2)) af))))
  (au (aP 4 (AU 1 lT (jr (ah 0) (jq nZ))))
  (bi (mX2 dU (mX (aZ (aj (m2 bB (ah 3) (ah 4)) (aj (m2 bB (ah 4) (ah 3)) nZ)))) (aE 1 m_0 (ag (mX (kI 2)) af)))))) aU)
  (au (aY (mB (m2 dEq (ah 2) (kI 0))) (bi (iA 1 lT (ag (dT (ag (mX (kSt "rule")) (ag (aE 1 j8 af) (ag (mX (kSt "(")) (ag (mX (kSt ")")) af))))) af))) aU)
  (au (aY (mB (m2 dEq (ah 2) (kI 1))) (bi (mX2 mV (mX (kSt " ")) (aE 1 m_0 (ag (mX (kI 4)) af)))) aU)
  (au (aY (mB (m2 dLt (ah 2) (kI 4))) (bi (iA 1 lT (ag (iA 1 uT (ag (aE 1 Co af) af)) af))) aU)
  (bi (iA 1 lT (ag (iA 1 Ck (ag (mX (ah 0)) af)) af))))))))
abbrev xO:=dO 5 uU
abbrev xP(a:LD):Option (LSt×LD):=Gq 2 [("words",(ah 1)),("place",(kI 0))] a
abbrev Cs:MF3:=
 (aY (mB (m2 dLt (jW 0 "Reader" "place") (aS dJ (aj (jW 0 "Reader" "words") nZ)))) (λ_=>ae) aU)
abbrev Ct:=c4 1 "Reader" ["words","place"] Cs
abbrev Cu:LS->Bool:=
 (rIf (mTX (mB (m2 dLt (jW 0 "Reader" "place") (aS dJ (aj (jW 0 "Reader" "words") nZ))))) (rOf (aj (kSt "something is left over behind the row") nZ)) rNo)
abbrev Cv:Addr->LD->LD->Bool:=λl ds xs=>Cu (dC 1 l "Reader" ["words","place"] ds xs)
abbrev b_8:MF3:=
 (au (dS 2 (m2 bB (jW 0 "Reader" "place") (ah 1)))
  (cB (vIf (mB (m2 dLt (ah 2) (aS dJ (aj (jW 0 "Reader" "words") nZ)))) (mIx (fG (jW 0 "Reader" "words")) (ah 2)) (kSt ""))))
abbrev m_8:=c4 3 "Reader" ["words","place"] b_8
abbrev b_1:MF3:=
 (au (eS (mBX (mX2 dNe (aw 0 "Reader" "coming" ["words","place"] m_8 (ag (mX (kI 0)) af)) (mX (ah 1)))) (cB (kBl ai)) aU)
  (au (ue 0 "Reader" "place" (kI 1))
  (cB (kBl ac))))
abbrev m_1:=c4 2 "Reader" ["words","place"] b_1
abbrev b_2:MF3:=
 (eS (qQ (cC (aw 0 "Reader" "passes" ["words","place"] m_1 (ag (mX (ah 1)) af)))) (λ_=>ae) aU)
abbrev m_2:=c4 2 "Reader" ["words","place"] b_2
abbrev Cw:LS->Bool:=
 (rIf (qQ (cC (aw 0 "Reader" "passes" ["words","place"] m_1 (ag (mX (ah 1)) af)))) (rOf (aj (mFs (mFv (ah 1) (mFc " is missing" nZ))) nZ)) rNo)
abbrev r_2:Addr->LD->LD->Bool:=λl ds xs=>Cw (dC 2 l "Reader" ["words","place"] ds xs)
abbrev Cy:MF3:=
 (au (aP 1 (aw 0 "Reader" "coming" ["words","place"] m_8 (ag (mX (kI 0)) af)))
  (au (ue 0 "Reader" "place" (kI 1))
  (cB (ah 1))))
abbrev i9:=c4 2 "Reader" ["words","place"] Cy
abbrev Cz:MF3:=
 (fW (kz (qJ dLe dLe (kI 1) (aS dJ (aj (ah 0) nZ)) (ah 2)) (aS mM (aj (aZ (fh 1 [1] (qP (ah 0)) (bZ 0) kY (m2 mW (ah 0) (ah 1)))) nZ))))
abbrev rl:=fj 3 Cz
abbrev CA:MF3:=
 (fW (kz (aS rl (aj (ah 0) (aj (kSt "abcdefghijklmnopqrstuvwxyz") (aj (kI 8) nZ)))) (m2 jm (ah 0) (λ_=>aa (.kt (List.map D.str ["kind","rule","may","choose","never","if","and","not","unlike","least","most","of","to","over","in","for"]))))))
abbrev xQ:=fj 1 CA
abbrev b_3:MF3:=
 (au (aP 1 (aw 0 "Reader" "take" ["words","place"] i9 af))
  (au (aY (jl (eG (aS xQ (aj (ah 1) nZ)))) (λ_=>ae) aU)
  (cB (ah 1))))
abbrev m_3:=c4 2 "Reader" ["words","place"] b_3
abbrev CB:LS->Bool:=
 (cg rNo (aP 1 (aw 0 "Reader" "take" ["words","place"] i9 af))
  (rIf (mTX (jl (eG (aS xQ (aj (ah 1) nZ))))) (rOf (aj (mFs (mFr (ah 1) (mFc " is no name" nZ))) nZ)) rNo))
abbrev r_3:Addr->LD->LD->Bool:=λl ds xs=>CB (dC 2 l "Reader" ["words","place"] ds xs)
abbrev CC:MF3:=
 (fW (kz (aS rl (aj (oO (ah 0) (λ_=>aa ae) (mPt (kI 1))) (aj (kSt "ABCDEFGHIJKLMNOPQRSTUVWXYZ") (aj (kI 1) nZ)))) (vOr (m2 dEq (aS dJ (aj (ah 0) nZ)) (kI 1)) (aS rl (aj (oO (ah 0) (mPt (kI 1)) (λ_=>aa ae)) (aj (kSt "abcdefghijklmnopqrstuvwxyz") (aj (kI 7) nZ)))))))
abbrev rn:=fj 1 CC
abbrev CD:MF3:=
 (au (aP 1 (aw 0 "Reader" "take" ["words","place"] i9 af))
  (au (aY (jl (eG (aS rn (aj (ah 1) nZ)))) (λ_=>ae) aU)
  (cB (ah 1))))
abbrev rq:=c4 2 "Reader" ["words","place"] CD
abbrev CF:LS->Bool:=
 (cg rNo (aP 1 (aw 0 "Reader" "take" ["words","place"] i9 af))
  (rIf (mTX (jl (eG (aS rn (aj (ah 1) nZ))))) (rOf (aj (mFs (mFr (ah 1) (mFc " is no variable" nZ))) nZ)) rNo))
abbrev xR:Addr->LD->LD->Bool:=λl ds xs=>CF (dC 2 l "Reader" ["words","place"] ds xs)
abbrev CG:MF3:=
 (au (aP 1 (aw 0 "Reader" "read_variable" ["words","place"] rq af))
  (au (fJ (aw 0 "Reader" "must_pass" ["words","place"] m_2 (ag (mX (kSt "in")) af)))
  (bi (cc (ag (mX (ah 1)) (ag (aw 0 "Reader" "read_name" ["words","place"] m_3 af) af))))))
abbrev pb:=c4 2 "Reader" ["words","place"] CG
abbrev CH:LS->Bool:=
 (cg (bj 0 "Reader" "read_variable" ["words","place"] xR af) (aP 1 (aw 0 "Reader" "read_variable" ["words","place"] rq af))
  (cg (bj 0 "Reader" "must_pass" ["words","place"] r_2 (ag (mX (kSt "in")) af)) (fJ (aw 0 "Reader" "must_pass" ["words","place"] m_2 (ag (mX (kSt "in")) af)))
  (dK rNo (mX (ah 1)) (bj 0 "Reader" "read_name" ["words","place"] r_3 af))))
abbrev xS:Addr->LD->LD->Bool:=λl ds xs=>CH (dC 2 l "Reader" ["words","place"] ds xs)
abbrev CI:MF3:=
 (au (fT 1 (aw 0 "Reader" "read_pair" ["words","place"] pb af))
  (au (dm (cC (aw 0 "Reader" "passes" ["words","place"] m_1 (ag (mX (kSt ",")) af))) (dP 1 (aw 0 "Reader" "read_pair" ["words","place"] pb af)) 1000000000)
  (gJ 1 (cB (ah 1)))))
abbrev pc:=c4 2 "Reader" ["words","place"] CI
abbrev CJ:LS->Bool:=
 (cg (bj 0 "Reader" "read_pair" ["words","place"] xS af) (fT 1 (aw 0 "Reader" "read_pair" ["words","place"] pb af))
  (gw (cC (aw 0 "Reader" "passes" ["words","place"] m_1 (ag (mX (kSt ",")) af))) (dP 1 (aw 0 "Reader" "read_pair" ["words","place"] pb af)) (j6 1 (bj 0 "Reader" "read_pair" ["words","place"] xS af)) 1000000000))
abbrev xT:Addr->LD->LD->Bool:=λl ds xs=>CJ (dC 2 l "Reader" ["words","place"] ds xs)
abbrev b_6:MF3:=
 (au (aY (mB (m2 dGt (aS dJ (aj (ah 0) nZ)) (ah 1))) (λ_=>ae) aU)
  (iu 0))
abbrev m_6:=fj 2 b_6
abbrev xU:LS->Bool:=
 (rIf (mTX (mB (m2 dGt (aS dJ (aj (ah 0) nZ)) (ah 1)))) (rOf (aj (mFs (mFc "more than " (mFv (ah 1) (mFc " in a row" nZ)))) nZ)) rNo)
abbrev r_6:LD->Bool:=λds=>xU (iy 2 ds)
abbrev CK:MF3:=
 (bi (jv (cC (aw 0 "Reader" "passes" ["words","place"] m_1 (ag (mX (kSt "for")) af))) (eR m_6 (ag (aw 0 "Reader" "read_pairs" ["words","place"] pc af) (ag (mX (kI 3)) af))) (mX (aZ nZ))))
abbrev nc:=c4 1 "Reader" ["words","place"] CK
abbrev CL:LS->Bool:=
 (rIf (cC (aw 0 "Reader" "passes" ["words","place"] m_1 (ag (mX (kSt "for")) af))) (hZ (bj 0 "Reader" "read_pairs" ["words","place"] xT af) r_6 (ag (aw 0 "Reader" "read_pairs" ["words","place"] pc af) (ag (mX (kI 3)) af))) rNo)
abbrev uV:Addr->LD->LD->Bool:=λl ds xs=>CL (dC 1 l "Reader" ["words","place"] ds xs)
abbrev xV:MF3:=
 (au (aY (mB (m2 dEq (ah 0) (kSt "0"))) (fW (kBl ac)) aU)
  (au (dS 1 (vIf (eG (m2 xa (ah 0) (kSt "-"))) (oO (ah 0) (mPt (kI 1)) (λ_=>aa ae)) (ah 0)))
  (fW (kz (aS rl (aj (ah 1) (aj (kSt "0123456789") (aj (kI 30) nZ)))) (tI (m2 xa (ah 1) (kSt "0")))))))
abbrev pd:=fj 2 xV
abbrev b_7:MF3:=
 (au (aP 1 (aw 0 "Reader" "take" ["words","place"] i9 af))
  (au (aY (jl (eG (aS pd (aj (ah 1) nZ)))) (λ_=>ae) aU)
  (cB (m1 xb (ah 1)))))
abbrev m_7:=c4 2 "Reader" ["words","place"] b_7
abbrev CM:LS->Bool:=
 (cg rNo (aP 1 (aw 0 "Reader" "take" ["words","place"] i9 af))
  (rIf (mTX (jl (eG (aS pd (aj (ah 1) nZ))))) (rOf (aj (mFs (mFr (ah 1) (mFc " is no number" nZ))) nZ)) rNo))
abbrev r_7:Addr->LD->LD->Bool:=λl ds xs=>CM (dC 2 l "Reader" ["words","place"] ds xs)
abbrev b_9:MF3:=
 (bi (jv (cC (eR rn (ag (aw 0 "Reader" "coming" ["words","place"] m_8 (ag (mX (kI 0)) af)) af))) (aw 0 "Reader" "read_variable" ["words","place"] rq af) (aw 0 "Reader" "read_name" ["words","place"] m_3 af)))
abbrev m_9:=c4 1 "Reader" ["words","place"] b_9
abbrev CN:LS->Bool:=
 (rIf (cC (eR rn (ag (aw 0 "Reader" "coming" ["words","place"] m_8 (ag (mX (kI 0)) af)) af))) (bj 0 "Reader" "read_variable" ["words","place"] xR af) (bj 0 "Reader" "read_name" ["words","place"] r_3 af))
abbrev r_9:Addr->LD->LD->Bool:=λl ds xs=>CN (dC 1 l "Reader" ["words","place"] ds xs)
abbrev CO:MF3:=
 (au (fT 1 (aw 0 "Reader" "read_arg" ["words","place"] m_9 af))
  (au (dm (cC (aw 0 "Reader" "passes" ["words","place"] m_1 (ag (mX (kSt ",")) af))) (dP 1 (aw 0 "Reader" "read_arg" ["words","place"] m_9 af)) 1000000000)
  (au (fJ (aw 0 "Reader" "must_pass" ["words","place"] m_2 (ag (mX (kSt ")")) af)))
  (gJ 1 (cB (aS m_6 (aj (ah 1) (aj (kI 3) nZ))))))))
abbrev xW:=c4 2 "Reader" ["words","place"] CO
abbrev CP:LS->Bool:=
 (cg (bj 0 "Reader" "read_arg" ["words","place"] r_9 af) (fT 1 (aw 0 "Reader" "read_arg" ["words","place"] m_9 af))
  (cg (gw (cC (aw 0 "Reader" "passes" ["words","place"] m_1 (ag (mX (kSt ",")) af))) (dP 1 (aw 0 "Reader" "read_arg" ["words","place"] m_9 af)) (j6 1 (bj 0 "Reader" "read_arg" ["words","place"] r_9 af)) 1000000000) (dm (cC (aw 0 "Reader" "passes" ["words","place"] m_1 (ag (mX (kSt ",")) af))) (dP 1 (aw 0 "Reader" "read_arg" ["words","place"] m_9 af)) 1000000000)
  (cg (bj 0 "Reader" "must_pass" ["words","place"] r_2 (ag (mX (kSt ")")) af)) (fJ (aw 0 "Reader" "must_pass" ["words","place"] m_2 (ag (mX (kSt ")")) af)))
  (rg 1 (hZ rNo r_6 (ag (mX (ah 1)) (ag (mX (kI 3)) af)))))))
abbrev CQ:Addr->LD->LD->Bool:=λl ds xs=>CP (dC 2 l "Reader" ["words","place"] ds xs)
abbrev b_5:MF3:=
 (au (aP 1 (aw 0 "Reader" "read_name" ["words","place"] m_3 af))
  (bi (cc (ag (mX (ah 1)) (ag (jv (cC (aw 0 "Reader" "passes" ["words","place"] m_1 (ag (mX (kSt "(")) af))) (aw 0 "Reader" "read_args" ["words","place"] xW af) (mX (aZ nZ))) af)))))
abbrev m_5:=c4 2 "Reader" ["words","place"] b_5
abbrev CS:LS->Bool:=
 (cg (bj 0 "Reader" "read_name" ["words","place"] r_3 af) (aP 1 (aw 0 "Reader" "read_name" ["words","place"] m_3 af))
  (dK rNo (mX (ah 1)) (rIf (cC (aw 0 "Reader" "passes" ["words","place"] m_1 (ag (mX (kSt "(")) af))) (bj 0 "Reader" "read_args" ["words","place"] CQ af) rNo)))
abbrev r_5:Addr->LD->LD->Bool:=λl ds xs=>CS (dC 2 l "Reader" ["words","place"] ds xs)
abbrev CT:MF3:=
 (au (aP 1 (jv (cC (eR pd (ag (aw 0 "Reader" "coming" ["words","place"] m_8 (ag (mX (kI 0)) af)) af))) (aw 0 "Reader" "read_number" ["words","place"] m_7 af) (mX (kI 1))))
  (au (aY (mB (m2 dLt (ah 1) (kI 0))) (λ_=>ae) aU)
  (bi (cc (ag (aw 0 "Reader" "read_thing" ["words","place"] m_5 af) (ag (mX (ah 1)) af))))))
abbrev ph:=c4 2 "Reader" ["words","place"] CT
abbrev CU:LS->Bool:=
 (cg (rIf (cC (eR pd (ag (aw 0 "Reader" "coming" ["words","place"] m_8 (ag (mX (kI 0)) af)) af))) (bj 0 "Reader" "read_number" ["words","place"] r_7 af) rNo) (aP 1 (jv (cC (eR pd (ag (aw 0 "Reader" "coming" ["words","place"] m_8 (ag (mX (kI 0)) af)) af))) (aw 0 "Reader" "read_number" ["words","place"] m_7 af) (mX (kI 1))))
  (cg (rIf (mTX (mB (m2 dLt (ah 1) (kI 0)))) (rOf (aj (kSt "a worth below 0") nZ)) rNo) (aY (mB (m2 dLt (ah 1) (kI 0))) (λ_=>ae) aU)
  (bj 0 "Reader" "read_thing" ["words","place"] r_5 af)))
abbrev xX:Addr->LD->LD->Bool:=λl ds xs=>CU (dC 2 l "Reader" ["words","place"] ds xs)
abbrev CV:MF3:=
 (au (fT 1 (aw 0 "Reader" "read_item" ["words","place"] ph af))
  (au (dm (cC (aw 0 "Reader" "passes" ["words","place"] m_1 (ag (mX (kSt ",")) af))) (dP 1 (aw 0 "Reader" "read_item" ["words","place"] ph af)) 1000000000)
  (gJ 1 (cB (ah 1)))))
abbrev pi:=c4 2 "Reader" ["words","place"] CV
abbrev CW:LS->Bool:=
 (cg (bj 0 "Reader" "read_item" ["words","place"] xX af) (fT 1 (aw 0 "Reader" "read_item" ["words","place"] ph af))
  (gw (cC (aw 0 "Reader" "passes" ["words","place"] m_1 (ag (mX (kSt ",")) af))) (dP 1 (aw 0 "Reader" "read_item" ["words","place"] ph af)) (j6 1 (bj 0 "Reader" "read_item" ["words","place"] xX af)) 1000000000))
abbrev xY:Addr->LD->LD->Bool:=λl ds xs=>CW (dC 2 l "Reader" ["words","place"] ds xs)
abbrev CY:MF3:=
 (bi (jv (cC (aw 0 "Reader" "passes" ["words","place"] m_1 (ag (mX (kSt "over")) af))) (eR m_6 (ag (aw 0 "Reader" "read_pairs" ["words","place"] pc af) (ag (mX (kI 2)) af))) (mX (aZ nZ))))
abbrev rA:=c4 1 "Reader" ["words","place"] CY
abbrev CZ:LS->Bool:=
 (rIf (cC (aw 0 "Reader" "passes" ["words","place"] m_1 (ag (mX (kSt "over")) af))) (hZ (bj 0 "Reader" "read_pairs" ["words","place"] xT af) r_6 (ag (aw 0 "Reader" "read_pairs" ["words","place"] pc af) (ag (mX (kI 2)) af))) rNo)
abbrev xZ:Addr->LD->LD->Bool:=λl ds xs=>CZ (dC 1 l "Reader" ["words","place"] ds xs)
abbrev C0:MF3:=
 (au (aP 1 (aw 0 "Reader" "take" ["words","place"] i9 af))
  (au (aP 2 (aw 0 "Reader" "read_number" ["words","place"] m_7 af))
  (au (fJ (aw 0 "Reader" "must_pass" ["words","place"] m_2 (ag (mX (kSt "of")) af)))
  (bi (cc (ag (mX (ah 1)) (ag (mX (ah 2)) (ag (aw 0 "Reader" "read_items" ["words","place"] pi af) (ag (aw 0 "Reader" "read_over" ["words","place"] rA af) af)))))))))
abbrev uW:=c4 3 "Reader" ["words","place"] C0
abbrev C1:LS->Bool:=
 (cg rNo (aP 1 (aw 0 "Reader" "take" ["words","place"] i9 af))
  (cg (bj 0 "Reader" "read_number" ["words","place"] r_7 af) (aP 2 (aw 0 "Reader" "read_number" ["words","place"] m_7 af))
  (cg (bj 0 "Reader" "must_pass" ["words","place"] r_2 (ag (mX (kSt "of")) af)) (fJ (aw 0 "Reader" "must_pass" ["words","place"] m_2 (ag (mX (kSt "of")) af)))
  (dK rNo (mX (ah 1)) (dK rNo (mX (ah 2)) (dK (bj 0 "Reader" "read_items" ["words","place"] xY af) (aw 0 "Reader" "read_items" ["words","place"] pi af) (bj 0 "Reader" "read_over" ["words","place"] xZ af)))))))
abbrev C3:Addr->LD->LD->Bool:=λl ds xs=>C1 (dC 3 l "Reader" ["words","place"] ds xs)
abbrev C4:MF3:=
 (au (aP 1 (aw 0 "Reader" "read_arg" ["words","place"] m_9 af))
  (au (fJ (aw 0 "Reader" "must_pass" ["words","place"] m_2 (ag (mX (kSt "unlike")) af)))
  (bi (cc (ag (mX (kSt "unlike")) (ag (mX (ah 1)) (ag (aw 0 "Reader" "read_arg" ["words","place"] m_9 af) af)))))))
abbrev uX:=c4 2 "Reader" ["words","place"] C4
abbrev C5:LS->Bool:=
 (cg (bj 0 "Reader" "read_arg" ["words","place"] r_9 af) (aP 1 (aw 0 "Reader" "read_arg" ["words","place"] m_9 af))
  (cg (bj 0 "Reader" "must_pass" ["words","place"] r_2 (ag (mX (kSt "unlike")) af)) (fJ (aw 0 "Reader" "must_pass" ["words","place"] m_2 (ag (mX (kSt "unlike")) af)))
  (dK rNo (mX (kSt "unlike")) (dK rNo (mX (ah 1)) (bj 0 "Reader" "read_arg" ["words","place"] r_9 af)))))
abbrev C6:Addr->LD->LD->Bool:=λl ds xs=>C5 (dC 2 l "Reader" ["words","place"] ds xs)
abbrev C7:MF3:=
 (au (eS (cC (aw 0 "Reader" "passes" ["words","place"] m_1 (ag (mX (kSt "not")) af))) (bi (cc (ag (mX (kSt "not")) (ag (aw 0 "Reader" "read_thing" ["words","place"] m_5 af) af)))) aU)
  (au (eS (mBX (mX2 dIn (aw 0 "Reader" "coming" ["words","place"] m_8 (ag (mX (kI 0)) af)) (mX (gr (aj (kSt "least") (aj (kSt "most") nZ)))))) (bi (aw 0 "Reader" "read_count" ["words","place"] uW af)) aU)
  (au (eS (mBX (mX2 dEq (aw 0 "Reader" "coming" ["words","place"] m_8 (ag (mX (kI 1)) af)) (mX (kSt "unlike")))) (bi (aw 0 "Reader" "read_unlike" ["words","place"] uX af)) aU)
  (bi (cc (ag (mX (kSt "is")) (ag (aw 0 "Reader" "read_thing" ["words","place"] m_5 af) af)))))))
abbrev pj:=c4 1 "Reader" ["words","place"] C7
abbrev C8:LS->Bool:=
 (cg (rIf (cC (aw 0 "Reader" "passes" ["words","place"] m_1 (ag (mX (kSt "not")) af))) (dK rNo (mX (kSt "not")) (bj 0 "Reader" "read_thing" ["words","place"] r_5 af)) rNo) (eS (cC (aw 0 "Reader" "passes" ["words","place"] m_1 (ag (mX (kSt "not")) af))) (bi (cc (ag (mX (kSt "not")) (ag (aw 0 "Reader" "read_thing" ["words","place"] m_5 af) af)))) aU)
  (cg (rIf (mBX (mX2 dIn (aw 0 "Reader" "coming" ["words","place"] m_8 (ag (mX (kI 0)) af)) (mX (gr (aj (kSt "least") (aj (kSt "most") nZ)))))) (bj 0 "Reader" "read_count" ["words","place"] C3 af) rNo) (eS (mBX (mX2 dIn (aw 0 "Reader" "coming" ["words","place"] m_8 (ag (mX (kI 0)) af)) (mX (gr (aj (kSt "least") (aj (kSt "most") nZ)))))) (bi (aw 0 "Reader" "read_count" ["words","place"] uW af)) aU)
  (cg (rIf (mBX (mX2 dEq (aw 0 "Reader" "coming" ["words","place"] m_8 (ag (mX (kI 1)) af)) (mX (kSt "unlike")))) (bj 0 "Reader" "read_unlike" ["words","place"] C6 af) rNo) (eS (mBX (mX2 dEq (aw 0 "Reader" "coming" ["words","place"] m_8 (ag (mX (kI 1)) af)) (mX (kSt "unlike")))) (bi (aw 0 "Reader" "read_unlike" ["words","place"] uX af)) aU)
  (dK rNo (mX (kSt "is")) (bj 0 "Reader" "read_thing" ["words","place"] r_5 af)))))
abbrev x6:Addr->LD->LD->Bool:=λl ds xs=>C8 (dC 1 l "Reader" ["words","place"] ds xs)
abbrev C9:MF3:=
 (au (fT 1 (aw 0 "Reader" "read_part" ["words","place"] pj af))
  (au (dm (cC (aw 0 "Reader" "passes" ["words","place"] m_1 (ag (mX (kSt "and")) af))) (dP 1 (aw 0 "Reader" "read_part" ["words","place"] pj af)) 1000000000)
  (gJ 1 (cB (ah 1)))))
abbrev rB:=c4 2 "Reader" ["words","place"] C9
abbrev Da:LS->Bool:=
 (cg (bj 0 "Reader" "read_part" ["words","place"] x6 af) (fT 1 (aw 0 "Reader" "read_part" ["words","place"] pj af))
  (gw (cC (aw 0 "Reader" "passes" ["words","place"] m_1 (ag (mX (kSt "and")) af))) (dP 1 (aw 0 "Reader" "read_part" ["words","place"] pj af)) (j6 1 (bj 0 "Reader" "read_part" ["words","place"] x6 af)) 1000000000))
abbrev x8:Addr->LD->LD->Bool:=λl ds xs=>Da (dC 2 l "Reader" ["words","place"] ds xs)
abbrev Db:MF3:=
 (bi (jv (cC (aw 0 "Reader" "passes" ["words","place"] m_1 (ag (mX (kSt "if")) af))) (aw 0 "Reader" "read_body" ["words","place"] rB af) (mX (aZ nZ))))
abbrev lV:=c4 1 "Reader" ["words","place"] Db
abbrev Dc:LS->Bool:=
 (rIf (cC (aw 0 "Reader" "passes" ["words","place"] m_1 (ag (mX (kSt "if")) af))) (bj 0 "Reader" "read_body" ["words","place"] x8 af) rNo)
abbrev x9:Addr->LD->LD->Bool:=λl ds xs=>Dc (dC 1 l "Reader" ["words","place"] ds xs)
abbrev Dd:MF3:=
 (au (aP 1 (aw 0 "Reader" "read_number" ["words","place"] m_7 af))
  (au (fJ (aw 0 "Reader" "must_pass" ["words","place"] m_2 (ag (mX (kSt "to")) af)))
  (au (aP 2 (aw 0 "Reader" "read_number" ["words","place"] m_7 af))
  (au (fJ (aw 0 "Reader" "must_pass" ["words","place"] m_2 (ag (mX (kSt "of")) af)))
  (bi (cc (ag (mX (kSt "choose")) (ag (mX (ah 1)) (ag (mX (ah 2)) (ag (aw 0 "Reader" "read_items" ["words","place"] pi af) (ag (aw 0 "Reader" "read_over" ["words","place"] rA af) (ag (aw 0 "Reader" "read_if" ["words","place"] lV af) (ag (aw 0 "Reader" "read_for" ["words","place"] nc af) af)))))))))))))
abbrev uY:=c4 3 "Reader" ["words","place"] Dd
abbrev De:LS->Bool:=
 (cg (bj 0 "Reader" "read_number" ["words","place"] r_7 af) (aP 1 (aw 0 "Reader" "read_number" ["words","place"] m_7 af))
  (cg (bj 0 "Reader" "must_pass" ["words","place"] r_2 (ag (mX (kSt "to")) af)) (fJ (aw 0 "Reader" "must_pass" ["words","place"] m_2 (ag (mX (kSt "to")) af)))
  (cg (bj 0 "Reader" "read_number" ["words","place"] r_7 af) (aP 2 (aw 0 "Reader" "read_number" ["words","place"] m_7 af))
  (cg (bj 0 "Reader" "must_pass" ["words","place"] r_2 (ag (mX (kSt "of")) af)) (fJ (aw 0 "Reader" "must_pass" ["words","place"] m_2 (ag (mX (kSt "of")) af)))
  (dK rNo (mX (kSt "choose")) (dK rNo (mX (ah 1)) (dK rNo (mX (ah 2)) (dK (bj 0 "Reader" "read_items" ["words","place"] xY af) (aw 0 "Reader" "read_items" ["words","place"] pi af) (dK (bj 0 "Reader" "read_over" ["words","place"] xZ af) (aw 0 "Reader" "read_over" ["words","place"] rA af) (dK (bj 0 "Reader" "read_if" ["words","place"] x9 af) (aw 0 "Reader" "read_if" ["words","place"] lV af) (bj 0 "Reader" "read_for" ["words","place"] uV af)))))))))))
abbrev Dg:Addr->LD->LD->Bool:=λl ds xs=>De (dC 3 l "Reader" ["words","place"] ds xs)
abbrev Dh:MF3:=
 (au (fT 1 (aw 0 "Reader" "read_name" ["words","place"] m_3 af))
  (au (dm (mBX (mX2 dNe (aw 0 "Reader" "coming" ["words","place"] m_8 (ag (mX (kI 0)) af)) (mX (kSt "")))) (dP 1 (aw 0 "Reader" "read_name" ["words","place"] m_3 af)) 1000000000)
  (gJ 1 (cB (aS m_6 (aj (ah 1) (aj (kI 12) nZ)))))))
abbrev uZ:=c4 2 "Reader" ["words","place"] Dh
abbrev Di:LS->Bool:=
 (cg (bj 0 "Reader" "read_name" ["words","place"] r_3 af) (fT 1 (aw 0 "Reader" "read_name" ["words","place"] m_3 af))
  (cg (gw (mBX (mX2 dNe (aw 0 "Reader" "coming" ["words","place"] m_8 (ag (mX (kI 0)) af)) (mX (kSt "")))) (dP 1 (aw 0 "Reader" "read_name" ["words","place"] m_3 af)) (j6 1 (bj 0 "Reader" "read_name" ["words","place"] r_3 af)) 1000000000) (dm (mBX (mX2 dNe (aw 0 "Reader" "coming" ["words","place"] m_8 (ag (mX (kI 0)) af)) (mX (kSt "")))) (dP 1 (aw 0 "Reader" "read_name" ["words","place"] m_3 af)) 1000000000)
  (rg 1 (hZ rNo r_6 (ag (mX (ah 1)) (ag (mX (kI 12)) af))))))
abbrev Dj:Addr->LD->LD->Bool:=λl ds xs=>Di (dC 2 l "Reader" ["words","place"] ds xs)
abbrev Dk:MF3:=
 (au (aP 1 (aw 0 "Reader" "read_body" ["words","place"] rB af))
  (au (aY (eG (aS mM (aj (aZ (fh 1 [] (fG (ah 1)) (bZ 0) kY (m2 dEq (mIx (bO 0) (kI 0)) (kSt "unlike")))) nZ))) (λ_=>ae) aU)
  (bi (cc (ag (mX (kSt "never")) (ag (mX (ah 1)) (ag (aw 0 "Reader" "read_for" ["words","place"] nc af) af)))))))
abbrev u3:=c4 2 "Reader" ["words","place"] Dk
abbrev ya:LS->Bool:=
 (cg (bj 0 "Reader" "read_body" ["words","place"] x8 af) (aP 1 (aw 0 "Reader" "read_body" ["words","place"] rB af))
  (cg (rIf (mTX (eG (aS mM (aj (aZ (fh 1 [] (fG (ah 1)) (bZ 0) kY (m2 dEq (mIx (bO 0) (kI 0)) (kSt "unlike")))) nZ)))) (rOf (aj (kSt "a never-row with unlike-parts alone") nZ)) rNo) (aY (eG (aS mM (aj (aZ (fh 1 [] (fG (ah 1)) (bZ 0) kY (m2 dEq (mIx (bO 0) (kI 0)) (kSt "unlike")))) nZ))) (λ_=>ae) aU)
  (dK rNo (mX (kSt "never")) (dK rNo (mX (ah 1)) (bj 0 "Reader" "read_for" ["words","place"] uV af)))))
abbrev yb:Addr->LD->LD->Bool:=λl ds xs=>ya (dC 2 l "Reader" ["words","place"] ds xs)
abbrev Dl:MF3:=
 (au (aP 1 (aw 0 "Reader" "take" ["words","place"] i9 af))
  (au (aY (mB (m2 dEq (ah 1) (kSt "kind"))) (bi (cc (ag (mX (kSt "kind")) (ag (aw 0 "Reader" "read_name" ["words","place"] m_3 af) (ag (aw 0 "Reader" "read_names" ["words","place"] uZ af) af))))) aU)
  (au (aY (mB (m2 dIn (ah 1) (gr (aj (kSt "rule") (aj (kSt "may") nZ))))) (bi (cc (ag (mX (ah 1)) (ag (aw 0 "Reader" "read_thing" ["words","place"] m_5 af) (ag (aw 0 "Reader" "read_if" ["words","place"] lV af) (ag (aw 0 "Reader" "read_for" ["words","place"] nc af) af)))))) aU)
  (au (aY (mB (m2 dEq (ah 1) (kSt "choose"))) (bi (aw 0 "Reader" "read_choose" ["words","place"] uY af)) aU)
  (au (aY (mB (m2 dEq (ah 1) (kSt "never"))) (bi (aw 0 "Reader" "read_never" ["words","place"] u3 af)) aU)
  (λ_=>ae))))))
abbrev rC:=c4 2 "Reader" ["words","place"] Dl
abbrev yc:LS->Bool:=
 (cg rNo (aP 1 (aw 0 "Reader" "take" ["words","place"] i9 af))
  (cg (rIf (mTX (mB (m2 dEq (ah 1) (kSt "kind")))) (dK rNo (mX (kSt "kind")) (dK (bj 0 "Reader" "read_name" ["words","place"] r_3 af) (aw 0 "Reader" "read_name" ["words","place"] m_3 af) (bj 0 "Reader" "read_names" ["words","place"] Dj af))) rNo) (aY (mB (m2 dEq (ah 1) (kSt "kind"))) (bi (cc (ag (mX (kSt "kind")) (ag (aw 0 "Reader" "read_name" ["words","place"] m_3 af) (ag (aw 0 "Reader" "read_names" ["words","place"] uZ af) af))))) aU)
  (cg (rIf (mTX (mB (m2 dIn (ah 1) (gr (aj (kSt "rule") (aj (kSt "may") nZ)))))) (dK rNo (mX (ah 1)) (dK (bj 0 "Reader" "read_thing" ["words","place"] r_5 af) (aw 0 "Reader" "read_thing" ["words","place"] m_5 af) (dK (bj 0 "Reader" "read_if" ["words","place"] x9 af) (aw 0 "Reader" "read_if" ["words","place"] lV af) (bj 0 "Reader" "read_for" ["words","place"] uV af)))) rNo) (aY (mB (m2 dIn (ah 1) (gr (aj (kSt "rule") (aj (kSt "may") nZ))))) (bi (cc (ag (mX (ah 1)) (ag (aw 0 "Reader" "read_thing" ["words","place"] m_5 af) (ag (aw 0 "Reader" "read_if" ["words","place"] lV af) (ag (aw 0 "Reader" "read_for" ["words","place"] nc af) af)))))) aU)
  (cg (rIf (mTX (mB (m2 dEq (ah 1) (kSt "choose")))) (bj 0 "Reader" "read_choose" ["words","place"] Dg af) rNo) (aY (mB (m2 dEq (ah 1) (kSt "choose"))) (bi (aw 0 "Reader" "read_choose" ["words","place"] uY af)) aU)
  (cg (rIf (mTX (mB (m2 dEq (ah 1) (kSt "never")))) (bj 0 "Reader" "read_never" ["words","place"] yb af) rNo) (aY (mB (m2 dEq (ah 1) (kSt "never"))) (bi (aw 0 "Reader" "read_never" ["words","place"] u3 af)) aU)
  (rOf (aj (mFs (mFc "no row begins with " (mFr (ah 1) nZ))) nZ)))))))
abbrev u4:Addr->LD->LD->Bool:=λl ds xs=>yc (dC 2 l "Reader" ["words","place"] ds xs)
abbrev yd:MF3:=
 (au (wZ 1 2 "()," (ah 0))
  (oy (fh 1 [] (fG (m2 lO (ah 1) (kSt " "))) (bZ 0) (mB (m2 dNe (ah 0) (kSt ""))) (ah 0))))
abbrev lW:=fj 3 yd
abbrev b_4:MF3:=
 (au (oU 1 "Reader" xP (aj (aS lW (aj (ah 0) nZ)) nZ))
  (au (aP 2 (mZ 1 "Reader" "read_form" ["words","place"] rC af))
  (au (fJ (mZ 1 "Reader" "must_end" ["words","place"] Ct af))
  (iu 2))))
abbrev m_4:=fj 3 b_4
abbrev u5:LS->Bool:=
 (cg rNo (oU 1 "Reader" xP (aj (aS lW (aj (ah 0) nZ)) nZ))
  (cg (oZ 1 "Reader" "read_form" ["words","place"] u4 af) (aP 2 (mZ 1 "Reader" "read_form" ["words","place"] rC af))
  (oZ 1 "Reader" "must_end" ["words","place"] Cv af)))
abbrev r_4:LD->Bool:=λds=>u5 (iy 3 ds)
abbrev Dn:MF3:=
 (au (dS 1 (aZ nZ))
  (au (qZ (hZ rNo r_4 (ag (mX (ah 0)) af)) 1 [ac,ac,ai])
  (iu 1)))
abbrev ye:=fj 3 Dn
abbrev SN:MF3:=
 (oy (fh 1 [] (fG (m2 lO (ah 0) (kSt "\n"))) (bZ 0) (eG (aS lW (aj (ah 0) nZ))) (aS m_4 (aj (ah 0) nZ))))
abbrev Do:LS->Bool:=
 (rf 1 [] (fG (m2 lO (ah 0) (kSt "\n"))) (bZ 0) (eG (aS lW (aj (ah 0) nZ))) (aS m_4 (aj (ah 0) nZ)) (hZ rNo r_4 (ag (mX (ah 0)) af)))
abbrev rE:LD->Bool:=λds=>Do (iy 1 ds)
abbrev Dr:MF3:=
 (au (dS 1 (aZ nZ))
  (au (qZ (hZ rNo rE (ag (mX (ah 0)) af)) 1 [ac,ac,ai])
  (iu 1)))
abbrev yf:=fj 3 Dr
abbrev u6:MF3:=
 (au (aP 1 (aE 0 m_0 (ag (mX (kI 9)) af)))
  (au (aP 2 (aE 0 xH af))
  (au (aP 3 (aE 0 lh (ag (aE 0 m_0 (ag (mX (kI 4)) af)) af)))
  (au (aY (mB (m2 dEq (ah 1) (kI 0))) (au (aP 4 (aE 0 j8 af))
  (bi (cc (ag (mX (kSt "kind")) (ag (mX (ah 4)) (ag (gN 1 [0] 0 0 (jt (ag (mX2 bB (mX (kI 1)) (aE 0 m_0 (ag (mX (kI 12)) af))) af)) (bZ 0) (aE 1 j8 af)) af)))))) aU)
  (au (aY (mB (m2 dLt (ah 1) (kI 3))) (au (aP 5 (aE 0 m_0 (ag (mX (m2 bB (aS dJ (aj (ah 2) nZ)) (kI 1))) af)))
  (au (aP 6 (dT (ag (aE 0 xF af) (ag (cc (ag (mX (kSt "is")) (ag (aE 0 m8 af) af))) (ag (cc (ag (mX (kSt "not")) (ag (aE 0 m8 af) af))) af)))))
  (bi (cc (ag (mX (kSt "never")) (ag (mX2 bB (mX2 bB (mX (aZ (mSl (ah 2) (λ_=>aa ae) (mPt (ah 5))))) (dT (ag (mX2 dU (mX (ah 6)) (aE 0 m_0 (ag (mX (kI 3)) af))) af))) (mX (aZ (mSl (ah 2) (mPt (ah 5)) (λ_=>aa ae))))) (ag (mX (ah 3)) af))))))) aU)
  (au (aY (mB (m2 dLt (ah 1) (kI 5))) (au (aP 7 (aE 0 o9 af))
  (au (aP 8 (aE 0 o9 af))
  (au (aP 6 (aE 0 m9 af))
  (bi (cc (ag (mX (kSt "choose")) (ag (mX (ah 7)) (ag (mX (ah 8)) (ag (mX (ah 6)) (ag (aE 0 lh (ag (aE 0 m_0 (ag (mX (kI 3)) af)) af)) (ag (mX (ah 2)) (ag (mX (ah 3)) af)))))))))))) aU)
  (bi (cc (ag (mX (mIx (aj (kSt "rule") (aj (kSt "may") nZ)) (m2 il (ah 1) (kI 2)))) (ag (aE 0 m8 af) (ag (mX (ah 2)) (ag (mX (ah 3)) af))))))))))))
abbrev yg:=dO 9 u6
abbrev yh:MF3:=
 (au (gh 2 (fh 1 [] (ir (aj (ah 1) nZ)) (bZ 0) kY (m2 bB (m2 lM (ah 0) (kI 7368787)) (kI 1000003))))
  (au (iw (mO (aj (ah 0) nZ)) (oq (kK (bZ 3) (kK (bZ 4) tL))) (au (dS 5 (m2 bB (m2 lM (mIx (bO 2) (m2 il (ah 3) (ah 1))) (kI 1000003)) (m2 il (ah 4) (m2 jQ (kI 10) (kI 30)))))
  (oF 2 (m2 il (ah 3) (ah 1)) (m2 il (m2 bB (ah 5) (ah 3)) (m2 jP (m2 jQ (kI 2) (kI 61)) (kI 1))))))
  (iu 2)))
abbrev Ds:=fj 6 yh
abbrev Dt:MF3:=
 (au (dS 1 (kI 1))
  (au (aY (mB (m2 dGt (aS dJ (aj (ah 0) nZ)) (kI 0))) (dS 1 (m2 bB (kI 1) (m2 il (mIx (bO 0) (kI 0)) (kI 3)))) aU)
  (au (iw (fG (aS Ds (aj (ah 0) (aj (ah 1) nZ)))) (bZ 2) (au (gh 3 (aj (ah 2) nZ))
  (au (aP 4 (lN 3 yg af))
  (au (aP 5 (kX 3 uT (jr (ah 4) (jq nZ))))
  (au (aP 6 (kX 3 lT (jr (ah 5) (jq nZ))))
  (au (aP 7 (kX 3 xO (jr (ah 5) (jq nZ))))
  (au (aY (mOr (mB (m2 dNe (aS m_4 (aj (ah 6) nZ)) (ah 4))) (mB (m2 dNe (aS ye (aj (ah 7) nZ)) (aZ (aj (kBl ac) (aj (kBl ac) (aj (kBl ai) nZ))))))) (fW (kBl ai)) aU)
  (au (gh 8 (aj (ah 6) (aj (ah 6) nZ)))
  (au (uo 8 (ag (lN 3 m_0 (ag (mX (kI 3)) af)) (ag (mX (ah 7)) af)))
  (au (dS 9 (vOr (m2 dEq (m2 ut (ah 7) (kSt " ")) (kSt "")) (m2 mW (kSt "\n") (ah 7))))
  (au (aY (iZ (jl (eG (ah 9))) (mB (m2 dNe (aS yf (aj (m2 uf (kSt "\n") (mE 8)) nZ)) (aZ (aj (kBl ac) (aj (kBl ac) (aj (kBl ai) nZ))))))) (fW (kBl ai)) aU)
  (aY (mB (m2 dNe (aS m_4 (aj (ah 6) nZ)) (ah 4))) (fW (kBl ai)) aU))))))))))))
  (fW (kBl ac)))))
abbrev Iq:=fj 10 Dt
variable{P:eC}{K:bo}{mg:MGT}{base:Heap}{a:Wa}
def bM{w:World}(W:Wd K mg a):qM P w K mg base a 1 "_law_next" a.e_0 ["_law_state","_law_many"] 0 m_0:=by
 refine W.e_0.pk (eO (F:=b_0) W.e_0.F Pq λ_ _ _ _ _ _ b=>?_);unfold b_0;exact (az (NZ (pv 0) am (cD lH (cD cA (cD tX (bU (GQ 0) am) am) am) (cD tJ (cD oj am am) am)))
 (aB (cR (cD lH (cD M7 (bU (GQ 0) am) am) (dv 1)))))
def u7{w:World}(W:Wd K mg a):qM P w K mg base a 2 "_law_line" a.e_28 ["_law_words_here","_law_state"] 1 lT:=by
 refine W.e_28.pk (eO (F:=xw) W.e_28.F m6 λ_ _ _ _ _ _ b=>?_);have c:=b.units;unfold xw;exact (az (gu 2 m6.nd aq)
 (az (gu 3 m6.nd aq)
 (az (kP gE rfl (kL (dv 0)) (iq 4 6 m6.nd) (az (ba 5 m6.nd (aJ (bM W) b (aN 1 (ak (DE.dx am) ao))))
 (az (bH (DW.dt (tF (bp (bP c) cx (DE.db (dv 5)) (DE.db am)) (tF (bp wB wA (DE.db (dv 4)) (DE.db (DO.de (cj (av aq (av aq (av aq aI))))))) (wr (bp wB wA (DE.db (dv 3)) (DE.db (DO.de (cj (av aq (av aq (av aq aI))))))))))) (aB (gu 5 m6.nd am)) bg)
 (az (GU 2 m6.nd (DE.dx (cD cA (cD w6 aq (dv 5)) (dv 4))))
 (aB (gu 3 m6.nd (dv 4)))))))
 (aB (bG (cY cA (DE.dx (dv 2)) (cY w6 (DE.dx aq) (aJ (bM W) b (aN 1 (ak (DE.dx am) ao))))))))))
def u8{w:World}(W:Wd K mg a):qD P w K mg base a 1 "_law_kept" a.e_38 ([]:LSt) lU:=by
 refine W.e_38.pk (g0 (F:=Ch) W.e_38.F HY λ_ _ _ _ _ _ b=>?_);unfold Ch;exact (az (gu 0 HY.nd (DO.de (cj (av aq (av aq (av aq (av aq (av aq (av aq (av aq (av aq aI)))))))))))
 (aB (Gm (mP (dv 0) (DO.de (cj (av aq (av aq (av aq (av aq (av aq (av aq (av aq (av aq aI))))))))))))))
def Du{w:World}(W:Wd K mg a):qM P w K mg base a 2 "_law_small" a.e_43 ["_law_state","_law_many","_law_span"] 0 rj:=by
 refine W.e_43.pk (eO (F:=xy) W.e_43.F xk λ_ _ _ _ _ _ b=>?_);unfold xy;exact (az (gu 3 xk.nd aq)
 (az (kP gE rfl (tM rfl W.z_range (av (dv 1) aI)) (iq 4 5 xk.nd) (aB (GU 3 xk.nd (AZ (DE.dx aq) (aJ (bM W) b (aN 0 (ak (DE.dx (dv 2)) ao)))))))
 (aB (cR (dv 3)))))
def pw{w:World}(W:Wd K mg a):qM P w K mg base a 3 "_law_name" a.e_27 ["_law_state"] 0 j8:=by
 refine W.e_27.pk (eO (F:=uK) W.e_27.F Cd λ_ _ _ _ _ _ b=>?_);have c:=b.units;unfold uK;exact (az (ba 1 Cd.nd (aJ (bM W) b (aN 0 (ak (DE.dx am) ao))))
 (az (bH (bp (bP c) cx (DE.db (dv 1)) (DE.db am)) (aB (bG (cY cA (i8 (DE.dx (ud (u8 W) b)) (aJ (bM W) b (aN 0 (ak (DE.dx am) ao)))) (aJ (Du W) b (aN 0 (ak (DE.dx am) (ak (DE.dx am) ao))))))) bg)
 (az (bH (bp (bP c) cx (DE.db (dv 1)) (DE.db am)) (aB (bG (Ot (i8 (DE.dx (ud (u8 W) b)) (aJ (bM W) b (aN 0 (ak (DE.dx am) ao)))) io (ip (qB am))))) bg)
 (az (ba 2 Cd.nd (aJ (Du W) b (aN 0 (ak (cY cA (DE.dx am) (aJ (bM W) b (aN 0 (ak (DE.dx am) ao)))) (ak (DE.dx (bU (DO.dc (cj (av am (av am aI)))) (cD lH (dv 1) am))) ao)))))
 (az (bH (bp om wz (DE.db (dv 2)) (DE.db (ud (u8 W) b))) (aB (cR (cD cA aq (dv 2)))) bg)
 (aB (cR (dv 2))))))))
def Px{w:World}(W:Wd K mg a):qM P w K mg base a 2 "_law_alien" a.e_63 ["_law_state"] 0 Ci:=by
 refine W.e_63.pk (eO (F:=xz) W.e_63.F Ie λ_ _ _ _ _ _ b=>?_);unfold xz;refine az ?_ ?_;refine gu 1 ?_ ?_;exact Ie.nd;refine DO.de ?_;refine cj ?_;refine av aq ?_;refine av aq ?_;refine av aq ?_;refine av aq ?_;refine av aq ?_;refine av aq ?_;refine av aq ?_;refine av aq ?_;refine av ?_ ?_;exact(cD w6 aq am);refine av aq ?_;refine av aq ?_;refine av aq ?_;exact(av aq aI);refine aB ?_;refine bG (i8 (DE.dx (dv 1)) (aJ (bM W) b (aN 0 (ak (DE.dx am) ao))))
def Py{w:World}(W:Wd K mg a):qD P w K mg base a 2 "_law_is_name" a.e_64 ["_law_word"] xA:=by
 refine W.e_64.pk (g0 (F:=Cj) W.e_64.F Pu λ_ _ _ _ _ _ b=>?_);unfold Cj;exact(aB (kO (qA (HS (FR mr PySem.F.slot_str_isalpha PySem.F.type_str_isalpha Pf (dv 0))) (qA (HS (FR mr PySem.F.slot_str_islower PySem.F.type_str_islower Pg (dv 0))) (oi (iY wB wA (DE.db (dv 0)) (DE.db (ud (u8 W) b))))))))
def Pz{w:World}(W:Wd K mg a):qM P w K mg base a 3 "_law_spoiled" a.e_45 ["_law_words_here","_law_state"] 1 Ck:=by
 refine W.e_45.pk (eO (F:=uL) W.e_45.F o7 λ_ _ _ _ _ _ d=>?_);have e:=d.units;unfold uL;refine az ?_ ?_;refine ba 2 ?_ (aJ (bM W) d (aN 1 (ak (DE.dx am) ao)));exact o7.nd;refine az ?_ ?_;refine gu 3 ?_ ?_;exact o7.nd;refine iY (bP e) cx ?_ ?_;exact(DE.db (bU (dvC 0) am));exact(DE.db aq);refine az ?_ ?_;refine ba 4 ?_ (aJ (bM W) d (aN 1 (ak (DE.dx (fS gH gI rfl W.z_len gD (fR (DE.db (dv 0)) fQ))) ao)));exact o7.nd;refine az ?_ ?_;refine bH ?_ ?_ bg;refine bp (bP e) cx ?_ ?_;exact(DE.db (dv 2));exact(DE.db am);refine aB ?_
 refine bG (cY cA (cY cA (DE.dx (DO.de (by refine kH ?a ?b ?c;(case a=>exact(dv 0));(case b=>exact io);(case c=>exact(ip (dv 4)))))) (kZ (ak (aJ (Px W) d (aN 1 ao)) ao))) (Pj (DE.dx (dv 0)) (cY cA (DE.dx (dv 4)) (aJ (bM W) d (aN 1 (ak (DE.dx am) ao))))))
 refine az ?_ ?_;refine bH ?_ ?_ bg;refine DW.dt ?_;refine tF ?_ ?_;refine bp (bP e) cx ?_ ?_;exact(DE.db (dv 2));exact(DE.db am);exact(wr (gZ (DE.db (dv 3))));refine aB ?_;refine cR ?_;refine DO.de ?_
 (focus (refine kH ?a ?b ?c;(case a=>exact(dv 0));(case b=>exact io);(case c=>exact(ip am))))
 refine az ?_ ?_;refine bH ?_ ?_ bg;refine bp (bP e) cx ?_ ?_;exact(DE.db (dv 2));exact(DE.db am);refine aB ?_;refine cR ?_;refine DO.de ?_
 (focus (refine kH ?a ?b ?c;(case a=>exact(dv 0));(case b=>exact io);(case c=>exact(ip (qB am)))))
 refine az ?_ ?_;refine bH ?_ ?_ bg;refine DW.dt ?_;refine tF ?_ ?_;refine bp (bP e) cx ?_ ?_;exact(DE.db (dv 2));exact(DE.db am);exact(wr (gZ (DE.db (dv 3))));refine aB ?_;refine cR ?_;refine DO.de ?_;refine mP ?_ (dv 0);refine DO.de ?_;exact(cj (av aq aI));refine az ?_ ?_;refine bH ?_ ?_ bg;refine bp (bP e) cx ?_ ?_;exact(DE.db (dv 2));exact(DE.db am);refine aB ?_;refine cR ?_;refine DO.de ?_;refine mP ?_ ?_;refine DO.de ?_;refine mP ?_ ?_;refine DO.de ?_
 (focus (refine kH ?a ?b ?c;(case a=>exact(dv 0));(case b=>exact io);(case c=>exact(ip (dv 4)))))
 refine DO.de ?_;refine cj ?_;exact(av (bU (dvC 0) (dv 4)) aI);refine DO.de ?_
 (focus (refine kH ?a ?b ?c;(case a=>exact(dv 0));(case b=>exact(ip (dv 4)));(case c=>exact io)))
 refine az ?_ ?_;refine bH ?_ ?_ bg;refine bp (bP e) cx ?_ ?_;exact(DE.db (dv 2));exact(DE.db am);refine az ?_ ?_;refine gu 5 ?_ ?_;exact o7.nd;refine DO.de ?_;refine cj ?_;refine av aq ?_;refine av aq ?_;refine av aq ?_;refine av aq ?_;refine av aq ?_;refine av aq ?_;refine av aq ?_;refine av aq ?_;refine av aq ?_;refine av aq ?_;refine av aq ?_;refine av aq ?_;exact(av aq aI);refine aB ?_
 refine bG (cY cA (kZ (ak (i8 (DE.dx (dv 5)) (aJ (bM W) d (aN 1 (ak (DE.dx am) ao)))) ao)) (DE.dx (DO.de (by refine kH ?a ?b ?c;(case a=>exact(dv 0));(case b=>exact(ip am));(case c=>exact io)))))
 refine az ?_ ?_;refine Nh 6 1 [0] ["_law_k","_law_words_here"] ?_ rfl ?_ (λ_ _ _ _ _=>(dgc 0 1)) (λ_ _ _ _ _=>(Ax (gZ (DE.db (di (Py W) d (av (bU (wI 1) (dvc 0)) aI)))))) (λ_ _ _ _ _=>(dvc 0));exact o7.nd;refine DI.de ?_;refine tM rfl W.z_range ?_;refine av ?_ aI;refine fS gH gI rfl W.z_len gD ?_;exact(fR (DE.db (dv 0)) fQ);refine az ?_ ?_;refine ba 7 ?_ (i8 (DE.dx (dv 6)) (aJ (bM W) d (aN 1 (ak (DE.dx (fS gH gI rfl W.z_len gD (fR (DE.db (dv 6)) fQ))) ao))));exact o7.nd;refine aB ?_
 refine bG (cY cA (cY cA (DE.dx (DO.de (by refine kH ?a ?b ?c;(case a=>exact(dv 0));(case b=>exact io);(case c=>exact(ip (dv 7)))))) (kZ (ak (i8 (DE.dx (ud (u8 W) d)) (aJ (bM W) d (aN 1 (ak (DE.dx am) ao)))) ao))) (DE.dx (DO.de (by refine kH ?a ?b ?c;(case a=>exact(dv 0));(case b=>exact(ip (cD cA (dv 7) am)));(case c=>exact io)))))
def Ir{w:World}(W:Wd K mg a):qM P w K mg base a 3 "_law_variable" a.e_54 ["_law_state"] 0 xB:=by
 refine W.e_54.pk (eO (F:=uM) W.e_54.F HZ λ_ _ _ _ _ _ b=>?_);unfold uM;exact (az (ba 1 HZ.nd (AZ (DE.dx aq) (aJ (bM W) b (aN 0 (ak (i8 (DE.dx (DO.de (cj (av am (av am aI))))) (aJ (bM W) b (aN 0 (ak (DE.dx am) ao)))) ao)))))
 (aB (bG (cY cA (DE.dx (dv 1)) (aJ (Du W) b (aN 0 (ak (aJ (bM W) b (aN 0 (ak (DE.dx am) ao))) (ak (i8 (DE.dx (DO.de (cj (av am (av am aI))))) (aJ (bM W) b (aN 0 (ak (DE.dx am) ao)))) ao))))))))
def rF{w:World}(W:Wd K mg a):qM P w K mg base a 4 "_law_arg" a.e_32 ["_law_state"] 0 lg:=by
 refine W.e_32.pk (eO (F:=uN) W.e_32.F Pr λ_ _ _ _ _ _ b=>?_);have c:=b.units;unfold uN;exact (az (iz (gM (bP c) (aJ (bM W) b (aN 0 (ak (DE.dx am) ao))) (DE.dx am)) (aB (bG (aJ (Ir W) b (aN 0 ao)))) bg)
 (aB (bG (aJ (pw W) b (aN 0 ao)))))
def yi{w:World}(W:Wd K mg a):qM P w K mg base a 2 "_law_number" a.e_35 ["_law_state"] 0 o9:=by
 refine W.e_35.pk (eO (F:=xC) W.e_35.F uv λ_ _ _ _ _ _ b=>?_);have c:=b.units;unfold xC;exact (az (ba 1 uv.nd (aJ (bM W) b (aN 0 (ak (DE.dx am) ao))))
 (az (iz (gM (bP c) (aJ (bM W) b (aN 0 (ak (DE.dx am) ao))) (DE.dx am)) (az (kP gE rfl (tM rfl W.z_range (av am aI)) (iq 2 3 uv.nd) (aB (ba 1 uv.nd (cY cA (DE.dx (cD tX (dv 1) (cD oj am am))) (aJ (bM W) b (aN 0 (ak (DE.dx (cD oj am am)) ao)))))))
 (aB (ba 1 uv.nd (cY cA (DE.dx (cD tX (dv 1) (cD oj am am))) (aJ (bM W) b (aN 0 (ak (DE.dx (cD oj am am)) ao))))))) bg)
 (az (iz (gM (bP c) (aJ (bM W) b (aN 0 (ak (DE.dx am) ao))) (DE.dx am)) (aB (cR (qB (dv 1)))) bg)
 (aB (cR (dv 1))))))
def rG{w:World}(W:Wd K mg a):qM P w K mg base a 5 "_law_thing" a.e_34 ["_law_state"] 0 m8:=by
 refine W.e_34.pk (eO (F:=uO) W.e_34.F Ia λ_ _ _ _ _ _ b=>?_);unfold uO;exact (az (ba 1 Ia.nd (aJ (pw W) b (aN 0 ao)))
 (aB (bG (cZ (ak (DE.dx (dv 1)) (ak (qR 1 [0] 0 0 ["_law_k","_law_state"] rfl (oN rfl W.z_range (ak (Hs (NR rfl) rfl W.z_max boot_max (ak (DE.dx am) (ak (cY tJ (aJ (bM W) b (aN 0 (ak (DE.dx am) ao))) (DE.dx am)) ao))) ao)) (λ_ _ _ _ _=>(dgc 0 1)) (λ_ _ _ _ _=>(aJ (rF W) b (m3 1 ao)))) ao))))))
def PC{w:World}(W:Wd K mg a):qM P w K mg base a 6 "_law_item" a.e_57 ["_law_state"] 0 Cm:=by
 refine W.e_57.pk (eO (F:=uP) W.e_57.F Ib λ_ _ _ _ _ _ b=>?_);have c:=b.units;unfold uP;exact (az (ba 1 Ib.nd (aJ (rG W) b (aN 0 ao)))
 (az (iz (gM (bP c) (aJ (bM W) b (aN 0 (ak (DE.dx am) ao))) (DE.dx am)) (aB (cR (jO (av (dv 1) (av am aI))))) bg)
 (aB (bG (cZ (ak (DE.dx (dv 1)) (ak (Hs Op rfl W.z_abs boot_abs (ak (aJ (yi W) b (aN 0 ao)) ao)) ao)))))))
def yj{w:World}(W:Wd K mg a):qM P w K mg base a 7 "_law_items" a.e_44 ["_law_state"] 0 m9:=by
 refine W.e_44.pk (eO (F:=xD) W.e_44.F Ps λ_ _ _ _ _ _ b=>?_);have c:=b.units;unfold xD;exact(aB (bG (qR 1 [0] 0 0 ["_law_k","_law_state"] rfl (oN rfl W.z_range (ak (cY cA (DE.dx am) (aJ (bM W) b (aN 0 (ak (i8 (DE.dx (DO.de (cj (av am (av am aI))))) (Oq rfl W.z_int (Os (bP c) (aJ (bM W) b (aN 0 (ak (DE.dx am) ao))) (DE.dx am)))) ao)))) ao)) (λ_ _ _ _ _=>(dgc 0 1)) (λ_ _ _ _ _=>(aJ (PC W) b (m3 1 ao))))))
def rH{w:World}(W:Wd K mg a):qM P w K mg base a 4 "_law_pairs" a.e_31 ["_law_state","_law_many"] 0 lh:=by
 refine W.e_31.pk (eO (F:=xE) W.e_31.F xl λ_ _ _ _ _ _ b=>?_);unfold xE;exact (az (mL 2 xl.nd (cj aI))
 (az (kP gE rfl (tM rfl W.z_range (av (dv 1) aI)) (iq 3 5 xl.nd) (az (ba 4 xl.nd (aJ (Ir W) b (aN 0 ao)))
 (aB (i7 (dR (dB eN e7 e8 ff (pv 2) (bW (cZ (ak (DE.dx (dv 4)) (ak (aJ (pw W) b (aN 0 ao)) ao))) cN)))))))
 (aB (lJ 2 (cR (dv 2))))))
def Is{w:World}(W:Wd K mg a):qM P w K mg base a 8 "_law_count" a.e_46 ["_law_state"] 0 xF:=by
 refine W.e_46.pk (eO (F:=uQ) W.e_46.F xm λ_ _ _ _ _ _ b=>?_);unfold uQ;exact (az (ba 1 xm.nd (i8 (DE.dx (DO.de (cj (av aq (av aq aI))))) (aJ (bM W) b (aN 0 (ak (DE.dx am) ao)))))
 (az (ba 2 xm.nd (aJ (yi W) b (aN 0 ao)))
 (az (ba 3 xm.nd (aJ (yj W) b (aN 0 ao)))
 (aB (bG (cZ (ak (DE.dx (dv 1)) (ak (DE.dx (dv 2)) (ak (DE.dx (dv 3)) (ak (aJ (rH W) b (aN 0 (ak (aJ (bM W) b (aN 0 (ak (DE.dx am) ao))) ao))) ao))))))))))
def PD{w:World}(W:Wd K mg a):qM P w K mg base a 9 "_law_part" a.e_56 ["_law_state"] 0 Cn:=by
 refine W.e_56.pk (eO (F:=uR) W.e_56.F Ce λ_ _ _ _ _ _ b=>?_);have c:=b.units;unfold uR;exact (az (ba 1 Ce.nd (aJ (bM W) b (aN 0 (ak (DE.dx am) ao))))
 (az (bH (bp kA kC (DE.db (dv 1)) (DE.db am)) (aB (bG (aJ (Is W) b (aN 0 ao)))) bg)
 (az (bH (bp (bP c) cx (DE.db (dv 1)) (DE.db am)) (az (ba 2 Ce.nd (aJ (rF W) b (aN 0 ao)))
 (aB (bG (cZ (ak (DE.dx aq) (ak (DE.dx (dv 2)) (ak (aJ (rF W) b (aN 0 ao)) ao))))))) bg)
 (aB (bG (cZ (ak (DE.dx (bU (DO.dc (cj (av aq (av aq aI)))) (cD tJ (dv 1) am))) (ak (aJ (rG W) b (aN 0 ao)) ao))))))))
def Iu{w:World}(W:Wd K mg a):qM P w K mg base a 10 "_law_body" a.e_58 ["_law_state"] 0 xH:=by
 refine W.e_58.pk (eO (F:=xG) W.e_58.F Pt λ_ _ _ _ _ _ b=>?_);unfold xG;exact(aB (bG (qR 1 [0] 0 0 ["_law_k","_law_state"] rfl (oN rfl W.z_range (ak (aJ (bM W) b (aN 0 (ak (DE.dx am) ao))) ao)) (λ_ _ _ _ _=>(dgc 0 1)) (λ_ _ _ _ _=>(aJ (PD W) b (m3 1 ao))))))
def PF{w:World}(W:Wd K mg a):qM P w K mg base a 11 "_law_too_many" a.e_39 ["_law_state"] 0 Co:=by
 refine W.e_39.pk (eO (F:=uS) W.e_39.F lf λ_ _ _ _ _ _ b=>?_);have c:=b.units;unfold uS;exact (az (ba 1 lf.nd (aJ (bM W) b (aN 0 (ak (DE.dx am) ao))))
 (az (ba 2 lf.nd (aJ (Iu W) b (aN 0 ao)))
 (az (ba 3 lf.nd (aJ (rH W) b (aN 0 (ak (aJ (bM W) b (aN 0 (ak (DE.dx am) ao))) ao))))
 (az (ba 4 lf.nd (aJ (rG W) b (aN 0 ao)))
 (az (bH (bp (bP c) cx (DE.db (dv 1)) (DE.db am)) (aB (ba 4 lf.nd (cZ (ak (DE.dx (bU (dvC 4) am)) (ak (qR 1 [0] 0 0 ["_law_k","_law_state"] rfl (oN rfl W.z_range (ak (cY cA (DE.dx am) (aJ (bM W) b (aN 0 (ak (DE.dx am) ao)))) ao)) (λ_ _ _ _ _=>(dgc 0 1)) (λ_ _ _ _ _=>(aJ (rF W) b (m3 1 ao)))) ao))))) bg)
 (az (bH (bp (bP c) cx (DE.db (dv 1)) (DE.db am)) (aB (ba 3 lf.nd (aJ (rH W) b (aN 0 (ak (cY cA (DE.dx am) (aJ (bM W) b (aN 0 (ak (DE.dx am) ao)))) ao))))) bg)
 (az (bH (bp (bP c) cx (DE.db (dv 1)) (DE.db am)) (aB (ba 2 lf.nd (cY cA (DE.dx (dv 2)) (kZ (ak (cZ (ak (DE.dx aq) (ak (DE.dx am) (ak (aJ (yj W) b (aN 0 ao)) (ak (aJ (rH W) b (aN 0 (ak (cY cA (DE.dx am) (aJ (bM W) b (aN 0 (ak (DE.dx am) ao)))) ao))) ao))))) ao))))) bg)
 (az (bH (bp (bP c) cx (DE.db (dv 1)) (DE.db am)) (aB (ba 2 lf.nd (cY cA (DE.dx (dv 2)) (kZ (ak (cZ (ak (DE.dx aq) (ak (DE.dx am) (ak (cY cA (aJ (yj W) b (aN 0 ao)) (kZ (ak (cZ (ak (DE.dx (dv 4)) (ak (cY tJ (DE.dx (qB am)) (aJ (bM W) b (aN 0 (ak (DE.dx am) ao)))) ao))) ao))) (ak (DE.dx (DO.de (cj aI))) ao))))) ao))))) bg)
 (az (bH (bp (bP c) cx (DE.db (dv 1)) (DE.db am)) (aB (bG (cZ (ak (DE.dx aq) (ak (DE.dx (bU (dvC 4) am)) (ak (qR 1 [0] 0 0 ["_law_k","_law_state"] rfl (oN rfl W.z_range (ak (i8 (kZ (ak (DE.dx am) (ak (cY cA (DE.dx am) (aJ (bM W) b (aN 0 (ak (DE.dx am) ao)))) ao))) (aJ (bM W) b (aN 0 (ak (DE.dx am) ao)))) ao)) (λ_ _ _ _ _=>(dgc 0 1)) (λ_ _ _ _ _=>(aJ (pw W) b (m3 1 ao)))) ao)))))) bg)
 (az (bH (bp (bP c) cx (DE.db (dv 1)) (DE.db am)) (az (OB 2 1 [0] 0 0 ["_law_k","_law_state"] lf.nd rfl (oN rfl W.z_range (ak (cY cA (DE.dx am) (aJ (bM W) b (aN 0 (ak (DE.dx am) ao)))) ao)) (λ_ _ _ _ _=>(dgc 0 1)) (λ_ _ _ _ _=>(cZ (ak (DE.dx aq) (ak (aJ (rF W) b (m3 1 ao)) (ak (aJ (rF W) b (m3 1 ao)) ao))))))
 (aB (cR (jO (av aq (av (dv 2) (av (dv 3) aI))))))) bg)
 (az (iz (gM (bP c) (aJ (bM W) b (aN 0 (ak (DE.dx am) ao))) (DE.dx am)) (aB (cR (jO (av aq (av (DO.de (mP (dv 2) (DO.de (cj (av (jO (av aq (av (dv 4) aI))) aI))))) (av (dv 3) aI)))))) bg)
 (aB (cR (jO (av aq (av (dv 4) (av (dv 2) (av (dv 3) aI))))))))))))))))))
def ym{w:World}(W:Wd K mg a):qD P w K mg base a 1 "_law_thing_words" a.e_37 ["_law_thing_here"] na:=by
 refine W.e_37.pk (g0 (F:=Cp) W.e_37.F uw λ_ _ _ _ _ _ b=>?_);unfold Cp;exact (az (mL 1 uw.nd (cj (av (bU (dvC 0) am) aI)))
 (az (kP gE rfl (GC rfl W.z_enumerate (av (bU (dvC 0) am) aI)) (wF rfl (mH (iq 2 4 uw.nd) (mH (iq 3 4 uw.nd) wC))) (aB (ug 1 uw.nd (DE.dx (DO.de (cj (av (bU (DO.dc (cj (av aq (av aq aI)))) (AX rfl W.z_int (iY mF mG (DE.db (dv 2)) (DE.db am)))) (av (dv 3) aI))))))))
 (az (bH (bp mF mG (DE.db (fS gH gI rfl W.z_len gD (fR (DE.db (bU (dvC 0) am)) fQ))) (DE.db am)) (aB (wL (dR (dB eN e7 e8 ff (pv 1) (bW aq cN))))) bg)
 (aB (oz 1)))))
def Iv{w:World}(W:Wd K mg a):qM P w K mg base a 2 "_law_items_words" a.e_47 ["_law_some","_law_state"] 1 xJ:=by
 refine W.e_47.pk (eO (F:=xI) W.e_47.F ux λ_ _ _ _ _ _ b=>?_);have c:=b.units;unfold xI;exact (az (mL 2 ux.nd (cj aI))
 (az (kP gE rfl (kL (dv 0)) (wF rfl (mH (iq 3 5 ux.nd) (mH (iq 4 5 ux.nd) wC))) (az (bH (bp mF mG (DE.db (fS gH gI rfl W.z_len gD (fR (dvB 2) fQ))) (DE.db am)) (aB (wL (dR (dB eN e7 e8 ff (pv 2) (bW aq cN))))) bg)
 (az (iz (DWX.dtx (N4 (DT.dtx (bp (kG c) qC (DE.db (dv 4)) (DE.db am))) (N3 (gM (bP c) (aJ (bM W) b (aN 1 (ak (DE.dx am) ao))) (DE.dx am))))) (aB (wL (dR (dB eN e7 e8 ff (pv 2) (bW (xc rfl W.z_str (dv 4)) cN))))) bg)
 (aB (ug 2 ux.nd (DE.dx (di (ym W) b (av (dv 3) aI))))))))
 (aB (lJ 2 (cR (dv 2))))))
def yn{w:World}(W:Wd K mg a):qD P w K mg base a 1 "_law_pairs_words" a.e_42 ["_law_opening","_law_pairs_here"] rk:=by
 refine W.e_42.pk (g0 (F:=Cq) W.e_42.F uz λ_ _ _ _ _ _ b=>?_);unfold Cq;exact (az (mL 2 uz.nd (cj aI))
 (az (kP gE rfl (kL (dv 1)) (wF rfl (mH (iq 3 5 uz.nd) (mH (iq 4 5 uz.nd) wC))) (aB (ug 2 uz.nd (DE.dx (DO.de (cj (av (bU (DO.dc (cj (av (dv 0) (av aq aI)))) (AX rfl W.z_int (iY mF mG (DE.db (fS gH gI rfl W.z_len gD (fR (dvB 2) fQ))) (DE.db am)))) (av (dv 3) (av aq (av (dv 4) aI))))))))))
 (aB (oz 2))))
def PH{w:World}(W:Wd K mg a):qM P w K mg base a 3 "_law_part_words" a.e_62 ["_law_part_here","_law_state"] 1 Cr:=by
 refine W.e_62.pk (eO (F:=xK) W.e_62.F Ic λ_ _ _ _ _ _ b=>?_);have c:=b.units;unfold xK;exact (az (bH (bp (bP c) cx (DE.db (bU (dvC 0) am)) (DE.db aq)) (aB (cR (DO.de (cj (av (bU (dvC 0) am) (av aq (av (bU (dvC 0) am) aI))))))) bg)
 (az (bH (bp (bP c) cx (DE.db (bU (dvC 0) am)) (DE.db aq)) (aB (cR (di (ym W) b (av (bU (dvC 0) am) aI)))) bg)
 (az (bH (bp (bP c) cx (DE.db (bU (dvC 0) am)) (DE.db aq)) (aB (cR (DO.de (mP (DO.de (cj (av aq aI))) (di (ym W) b (av (bU (dvC 0) am) aI)))))) bg)
 (az (ba 2 Ic.nd (cY cA (DE.dx (DO.de (cj (av (bU (dvC 0) am) (av (xc rfl W.z_str (bU (dvC 0) am)) (av aq aI)))))) (k8 (Iv W) b (jx (DE.dx (bU (dvC 0) am)) (k7 1)))))
 (aB (cR (cD cA (dv 2) (di (yn W) b (av aq (av (bU (dvC 0) am) aI))))))))))
def Iw{w:World}(W:Wd K mg a):qM P w K mg base a 4 "_law_body_words" a.e_51 ["_law_opening","_law_body_here","_law_state"] 2 xM:=by
 refine W.e_51.pk (eO (F:=xL) W.e_51.F xo λ_ _ _ _ _ _ b=>?_);unfold xL;exact (az (mL 3 xo.nd (cj aI))
 (az (kP gE rfl (kL (dv 1)) (iq 4 5 xo.nd) (az (wL (dR (dB eN e7 e8 ff (pv 3) (bW (bU (DO.dc (cj (av (dv 0) (av aq aI)))) (AX rfl W.z_int (iY mF mG (DE.db (fS gH gI rfl W.z_len gD (fR (dvB 3) fQ))) (DE.db am)))) cN))))
 (aB (ug 3 xo.nd (k8 (PH W) b (jx (DE.dx (dv 4)) (k7 2)))))))
 (aB (lJ 3 (cR (dv 3))))))
def Ix{w:World}(W:Wd K mg a):qM P w K mg base a 5 "_law_words" a.e_48 ["_law_row_here","_law_state"] 1 uT:=by
 refine W.e_48.pk (eO (F:=xN) W.e_48.F xp λ_ _ _ _ _ _ b=>?_);have c:=b.units;unfold xN;exact (az (bH (bp (bP c) cx (DE.db (bU (dvC 0) am)) (DE.db aq)) (aB (cR (DO.de (mP (DO.de (cj (av aq (av (bU (dvC 0) am) aI)))) (bU (dvC 0) am))))) bg)
 (az (bH (bp (bP c) cx (DE.db (bU (dvC 0) am)) (DE.db aq)) (aB (bG (cY cA (k8 (Iw W) b (jx (DE.dx aq) (jx (DE.dx (bU (dvC 0) am)) (k7 1)))) (DE.dx (di (yn W) b (av aq (av (bU (dvC 0) am) aI))))))) bg)
 (az (bH (bp (bP c) cx (DE.db (bU (dvC 0) am)) (DE.db aq)) (az (OA 2 xp.nd (DE.dx (DO.de (cj (av aq (av (xc rfl W.z_str (bU (dvC 0) am)) (av aq (av (xc rfl W.z_str (bU (dvC 0) am)) (av aq aI)))))))) (k8 (Iv W) b (jx (DE.dx (bU (dvC 0) am)) (k7 1))))
 (aB (ug 2 xp.nd (DE.dx (di (yn W) b (av aq (av (bU (dvC 0) am) aI))))))) (aB (mL 2 xp.nd (mP (DO.de (cj (av (bU (dvC 0) am) aI))) (di (ym W) b (av (bU (dvC 0) am) aI))))))
 (aB (lJ 2 (bG (cY cA (cY cA (DE.dx (dv 2)) (k8 (Iw W) b (jx (DE.dx aq) (jx (DE.dx (bU (dvC 0) (qB am))) (k7 1))))) (DE.dx (di (yn W) b (av aq (av (bU (dvC 0) (qB am)) aI)))))))))))
def PJ{w:World}(W:Wd K mg a):qM P w K mg base a 12 "_law_bad_line" a.e_52 ["_law_words_here","_law_state"] 1 xO:=by
 refine W.e_52.pk (eO (F:=uU) W.e_52.F xq λ_ _ _ _ _ _ b=>?_);have c:=b.units;unfold uU;exact (az (ba 2 xq.nd (aJ (bM W) b (aN 1 (ak (DE.dx am) ao))))
 (az (bH (bp (bP c) cx (DE.db (dv 2)) (DE.db am)) (az (ba 3 xq.nd (AZ (DE.dx aq) (aJ (bM W) b (aN 1 (ak (DE.dx am) ao)))))
 (az (ba 4 xq.nd (NU (u7 W) b (wT (dv 0) (wS 1 aI))))
 (aB (bG (i8 (DE.dx (DO.de (cj (av (cD cA (dv 3) (dv 4)) (av (cD cA (dv 4) (dv 3)) aI))))) (aJ (bM W) b (aN 1 (ak (DE.dx am) ao)))))))) bg)
 (az (bH (bp (bP c) cx (DE.db (dv 2)) (DE.db am)) (aB (bG (k8 (u7 W) b (jx (kZ (ak (DE.dx aq) (ak (aJ (pw W) b (aN 1 ao)) (ak (DE.dx aq) (ak (DE.dx aq) ao))))) (k7 1))))) bg)
 (az (bH (bp (bP c) cx (DE.db (dv 2)) (DE.db am)) (aB (bG (cY w6 (DE.dx aq) (aJ (bM W) b (aN 1 (ak (DE.dx am) ao)))))) bg)
 (az (bH (bp kA kC (DE.db (dv 2)) (DE.db am)) (aB (bG (k8 (u7 W) b (jx (k8 (Ix W) b (jx (aJ (PF W) b (aN 1 ao)) (k7 1))) (k7 1))))) bg)
 (aB (bG (k8 (u7 W) b (jx (k8 (Pz W) b (jx (DE.dx (dv 0)) (k7 1))) (k7 1))))))))))
def Iy{w:World}(W:Wd K mg a):Pm P w K mg base CX0 1 (a.cl "Reader") "__init__" a.e_65 ["self","words"] (spI ⟨K,a.cl⟩ "Reader" ["self","words"].length xP):=
 W.e_65.pk W.cl_Reader (Nm W.e_65.F Pv λ_ _ _ _ _ _ b=>(Gn W.cl_Reader W.na_Reader_words (pv 0) (dv 1) (Gn W.cl_Reader W.na_Reader_place (pv 0) am Nl)))
def PK{w:World}(W:Wd K mg a):dX P w K mg base a 1 "must_end" a.e_33 ["self"] Ct:=by
 refine W.e_33.pk W.cl_Reader (dW (F:=Cs) W.e_33.F Ij λ_ _ _ _ _ _ b=>?_);unfold Cs;exact(aB (bH (bp kA kC (DE.db (oQ "Reader" W.cl_Reader W.na_Reader_place (pv 0))) (DE.db (fS gH gI rfl W.z_len gD (fR (DE.db (oQ "Reader" W.cl_Reader W.na_Reader_words (pv 0))) fQ)))) (aB jX) bg))
variable{C:Addr}
def PL{w:World}(W:Wd K mg a)(c:cT K C=ac)(b:mg "NoRow"=aa (.ref C)):eX P w K mg base a 1 "must_end" a.e_33 ["self"] C Cv:=by
 refine W.e_33.pk W.cl_Reader (eU (r:=Cu) W.e_33.F Ij λ_ _ _ _ _ _ d=>?_);unfold Cu;exact(ce (hV (DT.dtx (bp kA kC (DE.db (oQ "Reader" W.cl_Reader W.na_Reader_place (pv 0))) (DE.db (fS gH gI rfl W.z_len gD (fR (DE.db (oQ "Reader" W.cl_Reader W.na_Reader_words (pv 0))) fQ))))) (ce (lR c rfl lQ rfl b (av aq aI))) hJ))
def gO{w:World}(W:Wd K mg a):dX P w K mg base a 1 "coming" a.e_8 ["self","behind"] m_8:=by
 refine W.e_8.pk W.cl_Reader (dW (F:=b_8) W.e_8.F Ig λ_ _ _ _ _ _ b=>?_);unfold b_8;exact (az (gu 2 Ig.nd (cD cA (oQ "Reader" W.cl_Reader W.na_Reader_place (pv 0)) (dv 1)))
 (aB (cR (F3 (bp kA kC (DE.db (dv 2)) (DE.db (fS gH gI rfl W.z_len gD (fR (DE.db (oQ "Reader" W.cl_Reader W.na_Reader_words (pv 0))) fQ)))) (bU (DE.dc (oQ "Reader" W.cl_Reader W.na_Reader_words (pv 0))) (dv 2)) aq))))
def fw{w:World}(W:Wd K mg a):dX P w K mg base a 2 "passes" a.e_1 ["self","word"] m_1:=by
 refine W.e_1.pk W.cl_Reader (dW (F:=b_1) W.e_1.F Pw λ_ _ _ _ _ _ b=>?_);have c:=b.units;unfold b_1;exact (az (iz (gM (kG c) (bS (pv 0) (gO W) b (ak (DE.dx am) ao)) (DE.dx (dv 1))) (aB (cR iX)) bg)
 (az (Hh "Reader" W.cl_Reader W.na_Reader_place (pv 0) am)
 (aB (cR iX))))
def jz{w:World}(W:Wd K mg a):dX P w K mg base a 3 "must_pass" a.e_2 ["self","word"] m_2:=by
 refine W.e_2.pk W.cl_Reader (dW (F:=b_2) W.e_2.F Ii λ_ _ _ _ _ _ b=>?_);unfold b_2;exact(aB (iz (Hi (dQ (bS (pv 0) (fw W) b (ak (DE.dx (dv 1)) ao)))) (aB jX) bg))
def rJ{w:World}(W:Wd K mg a)(c:cT K C=ac)(b:mg "NoRow"=aa (.ref C)):eX P w K mg base a 3 "must_pass" a.e_2 ["self","word"] C r_2:=by
 refine W.e_2.pk W.cl_Reader (eU (r:=Cw) W.e_2.F Ii λ_ _ _ _ _ _ d=>?_);unfold Cw;exact(ce (hV (Hi (dQ (bS (pv 0) (fw W) d (ak (DE.dx (dv 1)) ao)))) (ce (lR c rfl lQ rfl b (av (qT (Hv (dv 1) (oW qS))) aI))) hJ))
def li{w:World}(W:Wd K mg a):dX P w K mg base a 2 "take" a.e_24 ["self"] i9:=by
 refine W.e_24.pk W.cl_Reader (dW (F:=Cy) W.e_24.F Ih λ_ _ _ _ _ _ b=>?_);unfold Cy;exact (az (ba 1 Ih.nd (bS (pv 0) (gO W) b (ak (DE.dx am) ao)))
 (az (Hh "Reader" W.cl_Reader W.na_Reader_place (pv 0) am)
 (aB (cR (dv 1)))))
def yo{w:World}(W:Wd K mg a):qD P w K mg base a 1 "is_made_of" a.e_49 ["word","signs","most"] rl:=by
 refine W.e_49.pk (g0 (F:=Cz) W.e_49.F Pl λ_ _ _ _ _ _ b=>?_);unfold Cz;exact(aB (kO (qA (NO F4 F5 F4 F5 (DE.db am) (DE.db (fS gH gI rfl W.z_len gD (fR (DE.db (dv 0)) fQ))) (DE.db (dv 2))) (oi (fS (wP rfl) wQ rfl W.z_all boot_all (fR (DE.db (DO.de (tN 1 [1] ["sign","signs"] rfl (DI.de (Oc (dv 0))) (λ_ _ _ _ _=>(dgc 0 1)) (λ_ _ _ _ _=>ox) (λ_ _ _ _ _=>(iY G3 G2 (DE.db (dvc 0)) (DE.db (dvc 1))))))) fQ))))))
def Iz{w:World}(W:Wd K mg a):qD P w K mg base a 2 "is_name" a.e_61 ["word"] xQ:=by
 refine W.e_61.pk (g0 (F:=CA) W.e_61.F Pn λ_ _ _ _ _ _ b=>?_);unfold CA;exact(aB (kO (qA (di (yo W) b (av (dv 0) (av (w9 rfl W.g_SMALL) (av am aI)))) (oi (iY wB wA (DE.db (dv 0)) (DE.db (Oi rfl W.g_KEPT)))))))
def jA{w:World}(W:Wd K mg a):dX P w K mg base a 3 "read_name" a.e_3 ["self"] m_3:=by
 refine W.e_3.pk W.cl_Reader (dW (F:=b_3) W.e_3.F xt λ_ _ _ _ _ _ b=>?_);unfold b_3;exact (az (ba 1 xt.nd (aM (pv 0) (li W) b))
 (az (bH (oh (gZ (DE.db (di (Iz W) b (av (dv 1) aI))))) (aB jX) bg)
 (aB (cR (dv 1)))))
def rK{w:World}(W:Wd K mg a)(d:cT K C=ac)(c:mg "NoRow"=aa (.ref C)):eX P w K mg base a 3 "read_name" a.e_3 ["self"] C r_3:=by
 refine W.e_3.pk W.cl_Reader (eU (r:=CB) W.e_3.F xt λ_ _ _ _ _ _ b=>?_);unfold CB;exact (cG (ba 1 xt.nd (aM (pv 0) (li W) b)) qV
 (ce (hV (DT.dtx (oh (gZ (DE.db (di (Iz W) b (av (dv 1) aI)))))) (ce (lR d rfl lQ rfl c (av (qT (xj (dv 1) (oW qS))) aI))) hJ)))
def yq{w:World}(W:Wd K mg a):qD P w K mg base a 2 "is_variable" a.e_50 ["word"] rn:=by
 refine W.e_50.pk (g0 (F:=CC) W.e_50.F Po λ_ _ _ _ _ _ b=>?_);have c:=b.units;unfold CC;exact(aB (kO (qA (di (yo W) b (av (A2 (dv 0) io (ip am)) (av (w9 rfl W.g_GREAT) (av am aI)))) (oi (F2 (iY (bP c) cx (DE.db (fS gH gI rfl W.z_len gD (fR (DE.db (dv 0)) fQ))) (DE.db am)) (oi (di (yo W) b (av (A2 (dv 0) (ip am) io) (av (w9 rfl W.g_SMALL) (av am aI))))))))))
def Dv{w:World}(W:Wd K mg a):dX P w K mg base a 3 "read_variable" a.e_19 ["self"] rq:=by
 refine W.e_19.pk W.cl_Reader (dW (F:=CD) W.e_19.F xu λ_ _ _ _ _ _ b=>?_);unfold CD;exact (az (ba 1 xu.nd (aM (pv 0) (li W) b))
 (az (bH (oh (gZ (DE.db (di (yq W) b (av (dv 1) aI))))) (aB jX) bg)
 (aB (cR (dv 1)))))
def IA{w:World}(W:Wd K mg a)(d:cT K C=ac)(c:mg "NoRow"=aa (.ref C)):eX P w K mg base a 3 "read_variable" a.e_19 ["self"] C xR:=by
 refine W.e_19.pk W.cl_Reader (eU (r:=CF) W.e_19.F xu λ_ _ _ _ _ _ b=>?_);unfold CF;exact (cG (ba 1 xu.nd (aM (pv 0) (li W) b)) qV
 (ce (hV (DT.dtx (oh (gZ (DE.db (di (yq W) b (av (dv 1) aI)))))) (ce (lR d rfl lQ rfl c (av (qT (xj (dv 1) (oW qS))) aI))) hJ)))
def yr{w:World}(W:Wd K mg a):dX P w K mg base a 4 "read_pair" a.e_15 ["self"] pb:=by
 refine W.e_15.pk W.cl_Reader (dW (F:=CG) W.e_15.F uJ λ_ _ _ _ _ _ b=>?_);unfold CG;exact (az (ba 1 uJ.nd (aM (pv 0) (Dv W) b))
 (az (i6 (bS (pv 0) (jz W) b (ak (DE.dx aq) ao)))
 (aB (bG (cZ (ak (DE.dx (dv 1)) (ak (aM (pv 0) (jA W) b) ao)))))))
def IB{w:World}(W:Wd K mg a)(d:cT K C=ac)(c:mg "NoRow"=aa (.ref C)):eX P w K mg base a 4 "read_pair" a.e_15 ["self"] C xS:=by
 refine W.e_15.pk W.cl_Reader (eU (r:=CH) W.e_15.F uJ λ_ _ _ _ _ _ b=>?_);unfold CH;exact (cG (ba 1 uJ.nd (aM (pv 0) (Dv W) b)) (iB 1 uJ.nd (ci (pv 0) (IA W d c) bD b))
 (cG (i6 (bS (pv 0) (jz W) b (ak (DE.dx aq) ao))) (oX (qX (pv 0) (rJ W d c) bD b (ak (DE.dx aq) ao)))
 (ce (fu (jY (fq (DE.dx (dv 1)) fU (eV (ci (pv 0) (rK W d c) bD b))))))))
def yt{w:World}(W:Wd K mg a):dX P w K mg base a 5 "read_pairs" a.e_14 ["self"] pc:=by
 refine W.e_14.pk W.cl_Reader (dW (F:=CI) W.e_14.F uI λ_ _ _ _ _ _ b=>?_);unfold CI;exact (az (k6 1 uI.nd (aM (pv 0) (yr W) b))
 (az (oS 1000000000 gE (dQ (bS (pv 0) (fw W) b (ak (DE.dx aq) ao))) (aB (i7 (dR (dB eN e7 e8 ff (pv 1) (bW (aM (pv 0) (yr W) b) cN))))))
 (aB (lJ 1 (cR (dv 1))))))
def IC{w:World}(W:Wd K mg a)(d:cT K C=ac)(c:mg "NoRow"=aa (.ref C)):eX P w K mg base a 5 "read_pairs" a.e_14 ["self"] C xT:=by
 refine W.e_14.pk W.cl_Reader (eU (r:=CJ) W.e_14.F uI λ_ _ _ _ _ _ b=>?_);unfold CJ;exact (cG (k6 1 uI.nd (aM (pv 0) (yr W) b)) (iB 1 uI.nd (uk (eV (ci (pv 0) (IB W d c) bD b))))
 (ce (uq 1000000000 nR (dQ (bS (pv 0) (fw W) b (ak (DE.dx aq) ao))) (aB (i7 (dR (dB eN e7 e8 ff (pv 1) (bW (aM (pv 0) (yr W) b) cN))))) (ce (ur (dR (dB eN e7 e8 ff (pv 1) (eV (ci (pv 0) (IB W d c) bD b)))))))))
def yu{w:World}(W:Wd K mg a):qD P w K mg base a 1 "at_most" a.e_6 ["listed","most"] m_6:=by
 refine W.e_6.pk (g0 (F:=b_6) W.e_6.F HX λ_ _ _ _ _ _ b=>?_);unfold b_6;exact (az (bH (bp mF mG (DE.db (fS gH gI rfl W.z_len gD (fR (DE.db (dv 0)) fQ))) (DE.db (dv 1))) (aB jX) bg)
 (aB (oz 0)))
def yv{w:World}(W:Wd K mg a)(c:cT K C=ac)(b:mg "NoRow"=aa (.ref C)):Pk P w K mg base (CX1 P w) 1 "at_most" a.e_6 ["listed","most"] (spR ⟨K,a.cl⟩ ["listed","most"].length C r_6):=by
 refine W.e_6.pk (A8 (r:=xU) W.e_6.F HX λ_ _ _ _ _ _ d=>?_);unfold xU;exact(ce (hV (DT.dtx (bp mF mG (DE.db (fS gH gI rfl W.z_len gD (fR (DE.db (dv 0)) fQ))) (DE.db (dv 1)))) (ce (lR c rfl lQ rfl b (av (qT (oW (Hv (dv 1) (oW qS)))) aI))) hJ))
def yw{w:World}(W:Wd K mg a):dX P w K mg base a 6 "read_for" a.e_13 ["self"] nc:=by
 refine W.e_13.pk W.cl_Reader (dW (F:=CK) W.e_13.F Ip λ_ _ _ _ _ _ b=>?_);unfold CK;exact(aB (bG (oR (dQ (bS (pv 0) (fw W) b (ak (DE.dx aq) ao))) (oK (yu W) b (ak (aM (pv 0) (yt W) b) (ak (DE.dx am) ao))) (DE.dx (DO.de (cj aI))))))
def Dw{w:World}(W:Wd K mg a)(d:cT K C=ac)(c:mg "NoRow"=aa (.ref C)):eX P w K mg base a 6 "read_for" a.e_13 ["self"] C uV:=by
 refine W.e_13.pk W.cl_Reader (eU (r:=CL) W.e_13.F Ip λ_ _ _ _ _ _ b=>?_);unfold CL;exact(ce (fu (qW (dQ (bS (pv 0) (fw W) b (ak (DE.dx aq) ao))) (o5 (yv W d c) bD b (ak (aM (pv 0) (yt W) b) (ak (DE.dx am) ao)) (eV (ci (pv 0) (IC W d c) bD b))) fU)))
def u9{w:World}(W:Wd K mg a):qD P w K mg base a 2 "is_number" a.e_41 ["word"] pd:=by
 refine W.e_41.pk (g0 (F:=xV) W.e_41.F HW λ_ _ _ _ _ _ b=>?_);have c:=b.units;unfold xV;exact (az (bH (bp (bP c) cx (DE.db (dv 0)) (DE.db aq)) (aB (kO iX)) bg)
 (az (gu 1 HW.nd (F3 (gZ (DE.db (G8 (dB mr E1 E2 G7 (dv 0) (bW aq cN))))) (A2 (dv 0) (ip am) io) (dv 0)))
 (aB (kO (qA (di (yo W) b (av (dv 1) (av (w9 rfl W.g_FIGURES) (av am aI)))) (oi (M6 (G8 (dB mr E1 E2 G7 (dv 1) (bW aq cN))))))))))
def nh{w:World}(W:Wd K mg a):dX P w K mg base a 3 "read_number" a.e_7 ["self"] m_7:=by
 refine W.e_7.pk W.cl_Reader (dW (F:=b_7) W.e_7.F xv λ_ _ _ _ _ _ b=>?_);unfold b_7;exact (az (ba 1 xv.nd (aM (pv 0) (li W) b))
 (az (bH (oh (gZ (DE.db (di (u9 W) b (av (dv 1) aI))))) (aB jX) bg)
 (aB (cR (Oh rfl W.z_int (dv 1))))))
def yx{w:World}(W:Wd K mg a)(d:cT K C=ac)(c:mg "NoRow"=aa (.ref C)):eX P w K mg base a 3 "read_number" a.e_7 ["self"] C r_7:=by
 refine W.e_7.pk W.cl_Reader (eU (r:=CM) W.e_7.F xv λ_ _ _ _ _ _ b=>?_);unfold CM;exact (cG (ba 1 xv.nd (aM (pv 0) (li W) b)) qV
 (ce (hV (DT.dtx (oh (gZ (DE.db (di (u9 W) b (av (dv 1) aI)))))) (ce (lR d rfl lQ rfl c (av (qT (xj (dv 1) (oW qS))) aI))) hJ)))
def ni{w:World}(W:Wd K mg a):dX P w K mg base a 4 "read_arg" a.e_9 ["self"] m_9:=by
 refine W.e_9.pk W.cl_Reader (dW (F:=b_9) W.e_9.F Ik λ_ _ _ _ _ _ b=>?_);unfold b_9;exact(aB (bG (oR (dQ (oK (yq W) b (ak (bS (pv 0) (gO W) b (ak (DE.dx am) ao)) ao))) (aM (pv 0) (Dv W) b) (aM (pv 0) (jA W) b))))
def yy{w:World}(W:Wd K mg a)(d:cT K C=ac)(c:mg "NoRow"=aa (.ref C)):eX P w K mg base a 4 "read_arg" a.e_9 ["self"] C r_9:=by
 refine W.e_9.pk W.cl_Reader (eU (r:=CN) W.e_9.F Ik λ_ _ _ _ _ _ b=>?_);unfold CN;exact(ce (fu (qW (dQ (oK (yq W) b (ak (bS (pv 0) (gO W) b (ak (DE.dx am) ao)) ao))) (ci (pv 0) (IA W d c) bD b) (ci (pv 0) (rK W d c) bD b))))
def PM{w:World}(W:Wd K mg a):dX P w K mg base a 5 "read_args" a.e_30 ["self"] xW:=by
 refine W.e_30.pk W.cl_Reader (dW (F:=CO) W.e_30.F uD λ_ _ _ _ _ _ b=>?_);unfold CO;exact (az (k6 1 uD.nd (aM (pv 0) (ni W) b))
 (az (oS 1000000000 gE (dQ (bS (pv 0) (fw W) b (ak (DE.dx aq) ao))) (aB (i7 (dR (dB eN e7 e8 ff (pv 1) (bW (aM (pv 0) (ni W) b) cN))))))
 (az (i6 (bS (pv 0) (jz W) b (ak (DE.dx aq) ao)))
 (aB (lJ 1 (cR (di (yu W) b (av (dv 1) (av am aI)))))))))
def PN{w:World}(W:Wd K mg a)(d:cT K C=ac)(c:mg "NoRow"=aa (.ref C)):eX P w K mg base a 5 "read_args" a.e_30 ["self"] C CQ:=by
 refine W.e_30.pk W.cl_Reader (eU (r:=CP) W.e_30.F uD λ_ _ _ _ _ _ b=>?_);unfold CP;exact (cG (k6 1 uD.nd (aM (pv 0) (ni W) b)) (iB 1 uD.nd (uk (eV (ci (pv 0) (yy W d c) bD b))))
 (cG (oS 1000000000 nR (dQ (bS (pv 0) (fw W) b (ak (DE.dx aq) ao))) (aB (i7 (dR (dB eN e7 e8 ff (pv 1) (bW (aM (pv 0) (ni W) b) cN)))))) (uq 1000000000 nR (dQ (bS (pv 0) (fw W) b (ak (DE.dx aq) ao))) (aB (i7 (dR (dB eN e7 e8 ff (pv 1) (bW (aM (pv 0) (ni W) b) cN))))) (ce (ur (dR (dB eN e7 e8 ff (pv 1) (eV (ci (pv 0) (yy W d c) bD b)))))))
 (cG (i6 (bS (pv 0) (jz W) b (ak (DE.dx aq) ao))) (oX (qX (pv 0) (rJ W d c) bD b (ak (DE.dx aq) ao)))
 (ce (HR 1 (fu (o5 (yv W d c) bD b (ak (DE.dx (dv 1)) (ak (DE.dx am) ao)) uj)))))))
def pz{w:World}(W:Wd K mg a):dX P w K mg base a 6 "read_thing" a.e_5 ["self"] m_5:=by
 refine W.e_5.pk W.cl_Reader (dW (F:=b_5) W.e_5.F uC λ_ _ _ _ _ _ b=>?_);unfold b_5;exact (az (ba 1 uC.nd (aM (pv 0) (jA W) b))
 (aB (bG (cZ (ak (DE.dx (dv 1)) (ak (oR (dQ (bS (pv 0) (fw W) b (ak (DE.dx aq) ao))) (aM (pv 0) (PM W) b) (DE.dx (DO.de (cj aI)))) ao))))))
def yz{w:World}(W:Wd K mg a)(d:cT K C=ac)(c:mg "NoRow"=aa (.ref C)):eX P w K mg base a 6 "read_thing" a.e_5 ["self"] C r_5:=by
 refine W.e_5.pk W.cl_Reader (eU (r:=CS) W.e_5.F uC λ_ _ _ _ _ _ b=>?_);unfold CS;exact (cG (ba 1 uC.nd (aM (pv 0) (jA W) b)) (iB 1 uC.nd (ci (pv 0) (rK W d c) bD b))
 (ce (fu (jY (fq (DE.dx (dv 1)) fU (eV (qW (dQ (bS (pv 0) (fw W) b (ak (DE.dx aq) ao))) (ci (pv 0) (PN W d c) bD b) fU)))))))
def yA{w:World}(W:Wd K mg a):dX P w K mg base a 7 "read_item" a.e_12 ["self"] ph:=by
 refine W.e_12.pk W.cl_Reader (dW (F:=CT) W.e_12.F uH λ_ _ _ _ _ _ b=>?_);unfold CT;exact (az (ba 1 uH.nd (oR (dQ (oK (u9 W) b (ak (bS (pv 0) (gO W) b (ak (DE.dx am) ao)) ao))) (aM (pv 0) (nh W) b) (DE.dx am)))
 (az (bH (bp kA kC (DE.db (dv 1)) (DE.db am)) (aB jX) bg)
 (aB (bG (cZ (ak (aM (pv 0) (pz W) b) (ak (DE.dx (dv 1)) ao)))))))
def ID{w:World}(W:Wd K mg a)(d:cT K C=ac)(c:mg "NoRow"=aa (.ref C)):eX P w K mg base a 7 "read_item" a.e_12 ["self"] C xX:=by
 refine W.e_12.pk W.cl_Reader (eU (r:=CU) W.e_12.F uH λ_ _ _ _ _ _ b=>?_);unfold CU;exact (cG (ba 1 uH.nd (oR (dQ (oK (u9 W) b (ak (bS (pv 0) (gO W) b (ak (DE.dx am) ao)) ao))) (aM (pv 0) (nh W) b) (DE.dx am))) (iB 1 uH.nd (qW (dQ (oK (u9 W) b (ak (bS (pv 0) (gO W) b (ak (DE.dx am) ao)) ao))) (ci (pv 0) (yx W d c) bD b) fU))
 (cG (bH (bp kA kC (DE.db (dv 1)) (DE.db am)) (aB jX) bg) (hV (DT.dtx (bp kA kC (DE.db (dv 1)) (DE.db am))) (ce (lR d rfl lQ rfl c (av aq aI))) hJ)
 (ce (fu (jY (eV (ci (pv 0) (yz W d c) bD b)))))))
def yB{w:World}(W:Wd K mg a):dX P w K mg base a 8 "read_items" a.e_11 ["self"] pi:=by
 refine W.e_11.pk W.cl_Reader (dW (F:=CV) W.e_11.F uG λ_ _ _ _ _ _ b=>?_);unfold CV;exact (az (k6 1 uG.nd (aM (pv 0) (yA W) b))
 (az (oS 1000000000 gE (dQ (bS (pv 0) (fw W) b (ak (DE.dx aq) ao))) (aB (i7 (dR (dB eN e7 e8 ff (pv 1) (bW (aM (pv 0) (yA W) b) cN))))))
 (aB (lJ 1 (cR (dv 1))))))
def IE{w:World}(W:Wd K mg a)(d:cT K C=ac)(c:mg "NoRow"=aa (.ref C)):eX P w K mg base a 8 "read_items" a.e_11 ["self"] C xY:=by
 refine W.e_11.pk W.cl_Reader (eU (r:=CW) W.e_11.F uG λ_ _ _ _ _ _ b=>?_);unfold CW;exact (cG (k6 1 uG.nd (aM (pv 0) (yA W) b)) (iB 1 uG.nd (uk (eV (ci (pv 0) (ID W d c) bD b))))
 (ce (uq 1000000000 nR (dQ (bS (pv 0) (fw W) b (ak (DE.dx aq) ao))) (aB (i7 (dR (dB eN e7 e8 ff (pv 1) (bW (aM (pv 0) (yA W) b) cN))))) (ce (ur (dR (dB eN e7 e8 ff (pv 1) (eV (ci (pv 0) (ID W d c) bD b)))))))))
def Dx{w:World}(W:Wd K mg a):dX P w K mg base a 6 "read_over" a.e_23 ["self"] rA:=by
 refine W.e_23.pk W.cl_Reader (dW (F:=CY) W.e_23.F Io λ_ _ _ _ _ _ b=>?_);unfold CY;exact(aB (bG (oR (dQ (bS (pv 0) (fw W) b (ak (DE.dx aq) ao))) (oK (yu W) b (ak (aM (pv 0) (yt W) b) (ak (DE.dx am) ao))) (DE.dx (DO.de (cj aI))))))
def IF{w:World}(W:Wd K mg a)(d:cT K C=ac)(c:mg "NoRow"=aa (.ref C)):eX P w K mg base a 6 "read_over" a.e_23 ["self"] C xZ:=by
 refine W.e_23.pk W.cl_Reader (eU (r:=CZ) W.e_23.F Io λ_ _ _ _ _ _ b=>?_);unfold CZ;exact(ce (fu (qW (dQ (bS (pv 0) (fw W) b (ak (DE.dx aq) ao))) (o5 (yv W d c) bD b (ak (aM (pv 0) (yt W) b) (ak (DE.dx am) ao)) (eV (ci (pv 0) (IC W d c) bD b))) fU)))
def IG{w:World}(W:Wd K mg a):dX P w K mg base a 9 "read_count" a.e_22 ["self"] uW:=by
 refine W.e_22.pk W.cl_Reader (dW (F:=C0) W.e_22.F o8 λ_ _ _ _ _ _ b=>?_);unfold C0;exact (az (ba 1 o8.nd (aM (pv 0) (li W) b))
 (az (ba 2 o8.nd (aM (pv 0) (nh W) b))
 (az (i6 (bS (pv 0) (jz W) b (ak (DE.dx aq) ao)))
 (aB (bG (cZ (ak (DE.dx (dv 1)) (ak (DE.dx (dv 2)) (ak (aM (pv 0) (yB W) b) (ak (aM (pv 0) (Dx W) b) ao))))))))))
def PP{w:World}(W:Wd K mg a)(d:cT K C=ac)(c:mg "NoRow"=aa (.ref C)):eX P w K mg base a 9 "read_count" a.e_22 ["self"] C C3:=by
 refine W.e_22.pk W.cl_Reader (eU (r:=C1) W.e_22.F o8 λ_ _ _ _ _ _ b=>?_);unfold C1;exact (cG (ba 1 o8.nd (aM (pv 0) (li W) b)) qV
 (cG (ba 2 o8.nd (aM (pv 0) (nh W) b)) (iB 2 o8.nd (ci (pv 0) (yx W d c) bD b))
 (cG (i6 (bS (pv 0) (jz W) b (ak (DE.dx aq) ao))) (oX (qX (pv 0) (rJ W d c) bD b (ak (DE.dx aq) ao)))
 (ce (fu (jY (fq (DE.dx (dv 1)) fU (fq (DE.dx (dv 2)) fU (fq (aM (pv 0) (yB W) b) (ci (pv 0) (IE W d c) bD b) (eV (ci (pv 0) (IF W d c) bD b)))))))))))
def IH{w:World}(W:Wd K mg a):dX P w K mg base a 5 "read_unlike" a.e_26 ["self"] uX:=by
 refine W.e_26.pk W.cl_Reader (dW (F:=C4) W.e_26.F uF λ_ _ _ _ _ _ b=>?_);unfold C4;exact (az (ba 1 uF.nd (aM (pv 0) (ni W) b))
 (az (i6 (bS (pv 0) (jz W) b (ak (DE.dx aq) ao)))
 (aB (bG (cZ (ak (DE.dx aq) (ak (DE.dx (dv 1)) (ak (aM (pv 0) (ni W) b) ao))))))))
def PQ{w:World}(W:Wd K mg a)(d:cT K C=ac)(c:mg "NoRow"=aa (.ref C)):eX P w K mg base a 5 "read_unlike" a.e_26 ["self"] C C6:=by
 refine W.e_26.pk W.cl_Reader (eU (r:=C5) W.e_26.F uF λ_ _ _ _ _ _ b=>?_);unfold C5;exact (cG (ba 1 uF.nd (aM (pv 0) (ni W) b)) (iB 1 uF.nd (ci (pv 0) (yy W d c) bD b))
 (cG (i6 (bS (pv 0) (jz W) b (ak (DE.dx aq) ao))) (oX (qX (pv 0) (rJ W d c) bD b (ak (DE.dx aq) ao)))
 (ce (fu (jY (fq (DE.dx aq) fU (fq (DE.dx (dv 1)) fU (eV (ci (pv 0) (yy W d c) bD b)))))))))
def yC{w:World}(W:Wd K mg a):dX P w K mg base a 10 "read_part" a.e_20 ["self"] pj:=by
 refine W.e_20.pk W.cl_Reader (dW (F:=C7) W.e_20.F Im λ_ _ _ _ _ _ b=>?_);have c:=b.units;unfold C7;exact (az (iz (dQ (bS (pv 0) (fw W) b (ak (DE.dx aq) ao))) (aB (bG (cZ (ak (DE.dx aq) (ak (aM (pv 0) (pz W) b) ao))))) bg)
 (az (iz (gM om (bS (pv 0) (gO W) b (ak (DE.dx am) ao)) (DE.dx (jO (av aq (av aq aI))))) (aB (bG (aM (pv 0) (IG W) b))) bg)
 (az (iz (gM (bP c) (bS (pv 0) (gO W) b (ak (DE.dx am) ao)) (DE.dx aq)) (aB (bG (aM (pv 0) (IH W) b))) bg)
 (aB (bG (cZ (ak (DE.dx aq) (ak (aM (pv 0) (pz W) b) ao))))))))
def II{w:World}(W:Wd K mg a)(d:cT K C=ac)(c:mg "NoRow"=aa (.ref C)):eX P w K mg base a 10 "read_part" a.e_20 ["self"] C x6:=by
 refine W.e_20.pk W.cl_Reader (eU (r:=C8) W.e_20.F Im λ_ _ _ _ _ _ b=>?_);have e:=b.units;unfold C8;exact (cG (iz (dQ (bS (pv 0) (fw W) b (ak (DE.dx aq) ao))) (aB (bG (cZ (ak (DE.dx aq) (ak (aM (pv 0) (pz W) b) ao))))) bg) (hV (dQ (bS (pv 0) (fw W) b (ak (DE.dx aq) ao))) (ce (fu (jY (fq (DE.dx aq) fU (eV (ci (pv 0) (yz W d c) bD b)))))) hJ)
 (cG (iz (gM om (bS (pv 0) (gO W) b (ak (DE.dx am) ao)) (DE.dx (jO (av aq (av aq aI))))) (aB (bG (aM (pv 0) (IG W) b))) bg) (hV (gM om (bS (pv 0) (gO W) b (ak (DE.dx am) ao)) (DE.dx (jO (av aq (av aq aI))))) (ce (fu (ci (pv 0) (PP W d c) bD b))) hJ)
 (cG (iz (gM (bP e) (bS (pv 0) (gO W) b (ak (DE.dx am) ao)) (DE.dx aq)) (aB (bG (aM (pv 0) (IH W) b))) bg) (hV (gM (bP e) (bS (pv 0) (gO W) b (ak (DE.dx am) ao)) (DE.dx aq)) (ce (fu (ci (pv 0) (PQ W d c) bD b))) hJ)
 (ce (fu (jY (fq (DE.dx aq) fU (eV (ci (pv 0) (yz W d c) bD b)))))))))
def Dy{w:World}(W:Wd K mg a):dX P w K mg base a 11 "read_body" a.e_16 ["self"] rB:=by
 refine W.e_16.pk W.cl_Reader (dW (F:=C9) W.e_16.F uE λ_ _ _ _ _ _ b=>?_);unfold C9;exact (az (k6 1 uE.nd (aM (pv 0) (yC W) b))
 (az (oS 1000000000 gE (dQ (bS (pv 0) (fw W) b (ak (DE.dx aq) ao))) (aB (i7 (dR (dB eN e7 e8 ff (pv 1) (bW (aM (pv 0) (yC W) b) cN))))))
 (aB (lJ 1 (cR (dv 1))))))
def IJ{w:World}(W:Wd K mg a)(d:cT K C=ac)(c:mg "NoRow"=aa (.ref C)):eX P w K mg base a 11 "read_body" a.e_16 ["self"] C x8:=by
 refine W.e_16.pk W.cl_Reader (eU (r:=Da) W.e_16.F uE λ_ _ _ _ _ _ b=>?_);unfold Da;exact (cG (k6 1 uE.nd (aM (pv 0) (yC W) b)) (iB 1 uE.nd (uk (eV (ci (pv 0) (II W d c) bD b))))
 (ce (uq 1000000000 nR (dQ (bS (pv 0) (fw W) b (ak (DE.dx aq) ao))) (aB (i7 (dR (dB eN e7 e8 ff (pv 1) (bW (aM (pv 0) (yC W) b) cN))))) (ce (ur (dR (dB eN e7 e8 ff (pv 1) (eV (ci (pv 0) (II W d c) bD b)))))))))
def va{w:World}(W:Wd K mg a):dX P w K mg base a 12 "read_if" a.e_10 ["self"] lV:=by
 refine W.e_10.pk W.cl_Reader (dW (F:=Db) W.e_10.F Il λ_ _ _ _ _ _ b=>?_);unfold Db;exact(aB (bG (oR (dQ (bS (pv 0) (fw W) b (ak (DE.dx aq) ao))) (aM (pv 0) (Dy W) b) (DE.dx (DO.de (cj aI))))))
def IK{w:World}(W:Wd K mg a)(d:cT K C=ac)(c:mg "NoRow"=aa (.ref C)):eX P w K mg base a 12 "read_if" a.e_10 ["self"] C x9:=by
 refine W.e_10.pk W.cl_Reader (eU (r:=Dc) W.e_10.F Il λ_ _ _ _ _ _ b=>?_);unfold Dc;exact(ce (fu (qW (dQ (bS (pv 0) (fw W) b (ak (DE.dx aq) ao))) (ci (pv 0) (IJ W d c) bD b) fU)))
def IL{w:World}(W:Wd K mg a):dX P w K mg base a 13 "read_choose" a.e_18 ["self"] uY:=by
 refine W.e_18.pk W.cl_Reader (dW (F:=Dd) W.e_18.F m7 λ_ _ _ _ _ _ b=>?_);unfold Dd;exact (az (ba 1 m7.nd (aM (pv 0) (nh W) b))
 (az (i6 (bS (pv 0) (jz W) b (ak (DE.dx aq) ao)))
 (az (ba 2 m7.nd (aM (pv 0) (nh W) b))
 (az (i6 (bS (pv 0) (jz W) b (ak (DE.dx aq) ao)))
 (aB (bG (cZ (ak (DE.dx aq) (ak (DE.dx (dv 1)) (ak (DE.dx (dv 2)) (ak (aM (pv 0) (yB W) b) (ak (aM (pv 0) (Dx W) b) (ak (aM (pv 0) (va W) b) (ak (aM (pv 0) (yw W) b) ao))))))))))))))
def PR{w:World}(W:Wd K mg a)(d:cT K C=ac)(c:mg "NoRow"=aa (.ref C)):eX P w K mg base a 13 "read_choose" a.e_18 ["self"] C Dg:=by
 refine W.e_18.pk W.cl_Reader (eU (r:=De) W.e_18.F m7 λ_ _ _ _ _ _ b=>?_);unfold De;exact (cG (ba 1 m7.nd (aM (pv 0) (nh W) b)) (iB 1 m7.nd (ci (pv 0) (yx W d c) bD b))
 (cG (i6 (bS (pv 0) (jz W) b (ak (DE.dx aq) ao))) (oX (qX (pv 0) (rJ W d c) bD b (ak (DE.dx aq) ao)))
 (cG (ba 2 m7.nd (aM (pv 0) (nh W) b)) (iB 2 m7.nd (ci (pv 0) (yx W d c) bD b))
 (cG (i6 (bS (pv 0) (jz W) b (ak (DE.dx aq) ao))) (oX (qX (pv 0) (rJ W d c) bD b (ak (DE.dx aq) ao)))
 (ce (fu (jY (fq (DE.dx aq) fU (fq (DE.dx (dv 1)) fU (fq (DE.dx (dv 2)) fU (fq (aM (pv 0) (yB W) b) (ci (pv 0) (IE W d c) bD b) (fq (aM (pv 0) (Dx W) b) (ci (pv 0) (IF W d c) bD b) (fq (aM (pv 0) (va W) b) (ci (pv 0) (IK W d c) bD b) (eV (ci (pv 0) (Dw W d c) bD b)))))))))))))))
def IM{w:World}(W:Wd K mg a):dX P w K mg base a 4 "read_names" a.e_25 ["self"] uZ:=by
 refine W.e_25.pk W.cl_Reader (dW (F:=Dh) W.e_25.F uB λ_ _ _ _ _ _ b=>?_);have c:=b.units;unfold Dh;exact (az (k6 1 uB.nd (aM (pv 0) (jA W) b))
 (az (oS 1000000000 gE (gM (kG c) (bS (pv 0) (gO W) b (ak (DE.dx am) ao)) (DE.dx aq)) (aB (i7 (dR (dB eN e7 e8 ff (pv 1) (bW (aM (pv 0) (jA W) b) cN))))))
 (aB (lJ 1 (cR (di (yu W) b (av (dv 1) (av am aI))))))))
def PU{w:World}(W:Wd K mg a)(d:cT K C=ac)(c:mg "NoRow"=aa (.ref C)):eX P w K mg base a 4 "read_names" a.e_25 ["self"] C Dj:=by
 refine W.e_25.pk W.cl_Reader (eU (r:=Di) W.e_25.F uB λ_ _ _ _ _ _ b=>?_);have e:=b.units;unfold Di;exact (cG (k6 1 uB.nd (aM (pv 0) (jA W) b)) (iB 1 uB.nd (uk (eV (ci (pv 0) (rK W d c) bD b))))
 (cG (oS 1000000000 nR (gM (kG e) (bS (pv 0) (gO W) b (ak (DE.dx am) ao)) (DE.dx aq)) (aB (i7 (dR (dB eN e7 e8 ff (pv 1) (bW (aM (pv 0) (jA W) b) cN)))))) (uq 1000000000 nR (gM (kG e) (bS (pv 0) (gO W) b (ak (DE.dx am) ao)) (DE.dx aq)) (aB (i7 (dR (dB eN e7 e8 ff (pv 1) (bW (aM (pv 0) (jA W) b) cN))))) (ce (ur (dR (dB eN e7 e8 ff (pv 1) (eV (ci (pv 0) (rK W d c) bD b)))))))
 (ce (HR 1 (fu (o5 (yv W d c) bD b (ak (DE.dx (dv 1)) (ak (DE.dx am) ao)) uj))))))
def IN{w:World}(W:Wd K mg a):dX P w K mg base a 12 "read_never" a.e_21 ["self"] u3:=by
 refine W.e_21.pk W.cl_Reader (dW (F:=Dk) W.e_21.F uA λ_ _ _ _ _ _ b=>?_);have c:=b.units;unfold Dk;exact (az (ba 1 uA.nd (aM (pv 0) (Dy W) b))
 (az (bH (gZ (DE.db (fS (wP rfl) wQ rfl W.z_all boot_all (fR (DE.db (DO.de (tN 1 [] ["part"] rfl (DI.de (kL (dv 1))) (λ_ _ _ _ _=>(dgc 0 1)) (λ_ _ _ _ _=>ox) (λ_ _ _ _ _=>(iY (bP c) cx (DE.db (bU (wI 0) am)) (DE.db aq)))))) fQ)))) (aB jX) bg)
 (aB (bG (cZ (ak (DE.dx aq) (ak (DE.dx (dv 1)) (ak (aM (pv 0) (yw W) b) ao))))))))
def PV{w:World}(W:Wd K mg a)(d:cT K C=ac)(c:mg "NoRow"=aa (.ref C)):eX P w K mg base a 12 "read_never" a.e_21 ["self"] C yb:=by
 refine W.e_21.pk W.cl_Reader (eU (r:=ya) W.e_21.F uA λ_ _ _ _ _ _ b=>?_);have e:=b.units;unfold ya;exact (cG (ba 1 uA.nd (aM (pv 0) (Dy W) b)) (iB 1 uA.nd (ci (pv 0) (IJ W d c) bD b))
 (cG (bH (gZ (DE.db (fS (wP rfl) wQ rfl W.z_all boot_all (fR (DE.db (DO.de (tN 1 [] ["part"] rfl (DI.de (kL (dv 1))) (λ_ _ _ _ _=>(dgc 0 1)) (λ_ _ _ _ _=>ox) (λ_ _ _ _ _=>(iY (bP e) cx (DE.db (bU (wI 0) am)) (DE.db aq)))))) fQ)))) (aB jX) bg) (hV (DT.dtx (gZ (DE.db (fS (wP rfl) wQ rfl W.z_all boot_all (fR (DE.db (DO.de (tN 1 [] ["part"] rfl (DI.de (kL (dv 1))) (λ_ _ _ _ _=>(dgc 0 1)) (λ_ _ _ _ _=>ox) (λ_ _ _ _ _=>(iY (bP e) cx (DE.db (bU (wI 0) am)) (DE.db aq)))))) fQ))))) (ce (lR d rfl lQ rfl c (av aq aI))) hJ)
 (ce (fu (jY (fq (DE.dx aq) fU (fq (DE.dx (dv 1)) fU (eV (ci (pv 0) (Dw W d c) bD b)))))))))
def IP{w:World}(W:Wd K mg a):dX P w K mg base a 14 "read_form" a.e_17 ["self"] rC:=by
 refine W.e_17.pk W.cl_Reader (dW (F:=Dl) W.e_17.F xr λ_ _ _ _ _ _ b=>?_);have c:=b.units;unfold Dl;exact (az (ba 1 xr.nd (aM (pv 0) (li W) b))
 (az (bH (bp (bP c) cx (DE.db (dv 1)) (DE.db aq)) (aB (bG (cZ (ak (DE.dx aq) (ak (aM (pv 0) (jA W) b) (ak (aM (pv 0) (IM W) b) ao)))))) bg)
 (az (bH (bp om wz (DE.db (dv 1)) (DE.db (jO (av aq (av aq aI))))) (aB (bG (cZ (ak (DE.dx (dv 1)) (ak (aM (pv 0) (pz W) b) (ak (aM (pv 0) (va W) b) (ak (aM (pv 0) (yw W) b) ao))))))) bg)
 (az (bH (bp (bP c) cx (DE.db (dv 1)) (DE.db aq)) (aB (bG (aM (pv 0) (IL W) b))) bg)
 (az (bH (bp (bP c) cx (DE.db (dv 1)) (DE.db aq)) (aB (bG (aM (pv 0) (IN W) b))) bg)
 (aB jX))))))
def PY{w:World}(W:Wd K mg a)(d:cT K C=ac)(c:mg "NoRow"=aa (.ref C)):eX P w K mg base a 14 "read_form" a.e_17 ["self"] C u4:=by
 refine W.e_17.pk W.cl_Reader (eU (r:=yc) W.e_17.F xr λ_ _ _ _ _ _ b=>?_);have e:=b.units;unfold yc;exact (cG (ba 1 xr.nd (aM (pv 0) (li W) b)) qV
 (cG (bH (bp (bP e) cx (DE.db (dv 1)) (DE.db aq)) (aB (bG (cZ (ak (DE.dx aq) (ak (aM (pv 0) (jA W) b) (ak (aM (pv 0) (IM W) b) ao)))))) bg) (hV (DT.dtx (bp (bP e) cx (DE.db (dv 1)) (DE.db aq))) (ce (fu (jY (fq (DE.dx aq) fU (fq (aM (pv 0) (jA W) b) (ci (pv 0) (rK W d c) bD b) (eV (ci (pv 0) (PU W d c) bD b))))))) hJ)
 (cG (bH (bp om wz (DE.db (dv 1)) (DE.db (jO (av aq (av aq aI))))) (aB (bG (cZ (ak (DE.dx (dv 1)) (ak (aM (pv 0) (pz W) b) (ak (aM (pv 0) (va W) b) (ak (aM (pv 0) (yw W) b) ao))))))) bg) (hV (DT.dtx (bp om wz (DE.db (dv 1)) (DE.db (jO (av aq (av aq aI)))))) (ce (fu (jY (fq (DE.dx (dv 1)) fU (fq (aM (pv 0) (pz W) b) (ci (pv 0) (yz W d c) bD b) (fq (aM (pv 0) (va W) b) (ci (pv 0) (IK W d c) bD b) (eV (ci (pv 0) (Dw W d c) bD b)))))))) hJ)
 (cG (bH (bp (bP e) cx (DE.db (dv 1)) (DE.db aq)) (aB (bG (aM (pv 0) (IL W) b))) bg) (hV (DT.dtx (bp (bP e) cx (DE.db (dv 1)) (DE.db aq))) (ce (fu (ci (pv 0) (PR W d c) bD b))) hJ)
 (cG (bH (bp (bP e) cx (DE.db (dv 1)) (DE.db aq)) (aB (bG (aM (pv 0) (IN W) b))) bg) (hV (DT.dtx (bp (bP e) cx (DE.db (dv 1)) (DE.db aq))) (ce (fu (ci (pv 0) (PV W d c) bD b))) hJ)
 (ce (lR d rfl lQ rfl c (av (qT (oW (xj (dv 1) qS))) aI))))))))
def Dz{w:World}(W:Wd K mg a):qD P w K mg base a 1 "words_of" a.e_40 ["line"] lW:=by
 refine W.e_40.pk (g0 (F:=yd) W.e_40.F HV λ_ _ _ _ _ _ b=>?_);have c:=b.units;unfold yd;exact (N8 1 2 gE rfl HV.nd rfl W.g_LONE (dv 0)
 (aB (Gm (tN 1 [] ["word"] rfl (DI.de (kL (G0 (dB mr PySem.F.slot_str_split PySem.F.type_str_split GZ (dv 1) (bW aq cN))))) (λ_ _ _ _ _=>(dgc 0 1)) (λ_ _ _ _ _=>(Ax (bp (kG c) qC (DE.db (dvc 0)) (DE.db aq)))) (λ_ _ _ _ _=>(dvc 0))))))
def DD{w:World}(W:Wd K mg a):qD P w K mg base a 15 "read_row" a.e_4 ["line"] m_4:=by
 refine W.e_4.pk (g0 (F:=b_4) W.e_4.F o6 λ_ _ _ _ _ _ c=>?_);unfold b_4;exact (az (Hj 1 "Reader" o6.nd W.mk_Reader (Iy W).ok (c.mono (by decide)) rfl W.g_Reader W.e_65.b (av (di (Dz W) c (av (dv 0) aI)) aI))
 (az (ba 2 o6.nd (A3 (pv 1) (IP W) c))
 (az (i6 (A3 (pv 1) (PK W) c))
 (aB (oz 2)))))
def IQ{w:World}(W:Wd K mg a)(e:cT K C=ac)(d:mg "NoRow"=aa (.ref C)):Pk P w K mg base (CX1 P w) 15 "read_row" a.e_4 ["line"] (spR ⟨K,a.cl⟩ ["line"].length C r_4):=by
 refine W.e_4.pk (A8 (r:=u5) W.e_4.F o6 λ_ _ _ _ _ _ c=>?_);unfold u5;exact (cG (Hj 1 "Reader" o6.nd W.mk_Reader (Iy W).ok (c.mono (by decide)) rfl W.g_Reader W.e_65.b (av (di (Dz W) c (av (dv 0) aI)) aI)) qV
 (cG (ba 2 o6.nd (A3 (pv 1) (IP W) c)) (iB 2 o6.nd (Hx (pv 1) (PY W e d) bD c))
 (ce (oX (Hx (pv 1) (PL W e d) bD c)))))
def PZ{w:World}(W:Wd K mg a):qD P w K mg base a 16 "_law_refusal" a.e_59 ["_law_line_here"] ye:=by
 refine W.e_59.pk (g0 (F:=Dn) W.e_59.F Cf λ_ _ _ _ _ _ c=>?_);unfold Dn;exact (az (gu 1 Cf.nd (DO.de (cj aI)))
 (az (HF (λE pn xe b=>(o5 (IQ W W.x_NoRow W.g_NoRow) b c (ak (DE.dx (dv 0)) ao) uj)) (λ_=>(qY (HB W.ec_NoRow rfl W.z_isinstance (pv 2) rfl W.g_NoRow W.ke_NoRow) (qY (HC W.ec_NoRow rfl W.z_isinstance (pv 2) rfl W.z_ValueError HP W.kv_ValueError) (qY (by refine HD W.ec_NoRow ?_ W.z_isinstance (pv 2) ?_ W.g_BadName ?_ W.g_Wide ?_ W.g_NoThing W.km_BadName_Wide_NoThing <;> rfl) HA)))) rfl rfl rfl W.x_NoRow W.x_StillError (HQ W.mr_StillError) rfl W.g_StillError Cf.nd rfl rfl rfl (by first | exact bV rfl | exact bA rfl) (by first | exact bV rfl | exact bA rfl) (by first | exact bV rfl | exact bA rfl) (by first | exact bV rfl | exact bA rfl) (λ_=>rfl) (by decide) (by decide))
 (aB (oz 1))))
def P0{w:World}(W:Wd K mg a)(d:cT K C=ac)(c:mg "NoRow"=aa (.ref C)):Pk P w K mg base (CX1 P w) 16 "read" a.e_55 ["text"] (spR ⟨K,a.cl⟩ ["text"].length C rE):=by
 refine W.e_55.pk (A8 (r:=Do) W.e_55.F Pp λ_ _ _ _ _ _ b=>?_);unfold Do;exact(ce (fu (O9 1 [] ["line"] rfl rfl rfl rfl O5 (DI.de (kL (G0 (dB mr PySem.F.slot_str_split PySem.F.type_str_split GZ (dv 0) (bW aq cN))))) (λ_ _ _ _ _=>(dgc 0 1)) (λ_ _ _ _ _=>(Ax (gZ (DE.db (di (Dz W) b (av (dvc 0) aI)))))) (λ_ _ _ _ _=>(di (DD W) b (av (dvc 0) aI))) (λ_ _ _ _ _ _ e=>(o5 (IQ W d c) e b (DAX.toE (ak (DE.dx (dvc 0)) ao)) uj)))))
def P1{w:World}(W:Wd K mg a):qD P w K mg base a 17 "_law_refusal_of_text" a.e_60 ["_law_text"] yf:=by
 refine W.e_60.pk (g0 (F:=Dr) W.e_60.F Cg λ_ _ _ _ _ _ c=>?_);unfold Dr;exact (az (gu 1 Cg.nd (DO.de (cj aI)))
 (az (HF (λE pn xe b=>(o5 (P0 W W.x_NoRow W.g_NoRow) b c (ak (DE.dx (dv 0)) ao) uj)) (λ_=>(qY (HB W.ec_NoRow rfl W.z_isinstance (pv 2) rfl W.g_StillError W.ke_StillError) (qY (HC W.ec_NoRow rfl W.z_isinstance (pv 2) rfl W.z_ValueError HP W.kv_ValueError) (qY (by refine HD W.ec_NoRow ?_ W.z_isinstance (pv 2) ?_ W.g_BadName ?_ W.g_Wide ?_ W.g_NoThing W.km_BadName_Wide_NoThing <;> rfl) HA)))) rfl rfl rfl W.x_NoRow W.x_NoRow (HQ W.mr_NoRow) rfl W.g_NoRow Cg.nd rfl rfl rfl (by first | exact bV rfl | exact bA rfl) (by first | exact bV rfl | exact bA rfl) (by first | exact bV rfl | exact bA rfl) (by first | exact bV rfl | exact bA rfl) (λ_=>rfl) (by decide) (by decide))
 (aB (oz 1))))
def P2{w:World}(W:Wd K mg a):qM P w K mg base a 11 "_law_row" a.e_36 ["_law_state"] 0 yg:=by
 refine W.e_36.pk (eO (F:=u6) W.e_36.F lb λ_ _ _ _ _ _ d=>?_);have e:=d.units;unfold u6;exact (az (ba 1 lb.nd (aJ (bM W) d (aN 0 (ak (DE.dx am) ao))))
 (az (ba 2 lb.nd (aJ (Iu W) d (aN 0 ao)))
 (az (ba 3 lb.nd (aJ (rH W) d (aN 0 (ak (aJ (bM W) d (aN 0 (ak (DE.dx am) ao))) ao))))
 (az (bH (bp (bP e) cx (DE.db (dv 1)) (DE.db am)) (az (ba 4 lb.nd (aJ (pw W) d (aN 0 ao)))
 (aB (bG (cZ (ak (DE.dx aq) (ak (DE.dx (dv 4)) (ak (qR 1 [0] 0 0 ["_law_k","_law_state"] rfl (oN rfl W.z_range (ak (cY cA (DE.dx am) (aJ (bM W) d (aN 0 (ak (DE.dx am) ao)))) ao)) (λ_ _ _ _ _=>(dgc 0 1)) (λ_ _ _ _ _=>(aJ (pw W) d (m3 1 ao)))) ao))))))) bg)
 (az (bH (bp kA kC (DE.db (dv 1)) (DE.db am)) (az (ba 5 lb.nd (aJ (bM W) d (aN 0 (ak (DE.dx (cD cA (fS gH gI rfl W.z_len gD (fR (DE.db (dv 2)) fQ)) am)) ao))))
 (az (ba 6 lb.nd (kZ (ak (aJ (Is W) d (aN 0 ao)) (ak (cZ (ak (DE.dx aq) (ak (aJ (rG W) d (aN 0 ao)) ao))) (ak (cZ (ak (DE.dx aq) (ak (aJ (rG W) d (aN 0 ao)) ao))) ao)))))
 (aB (bG (cZ (ak (DE.dx aq) (ak (cY cA (cY cA (DE.dx (DO.de (by refine kH ?a ?b ?c;(case a=>exact(dv 2));(case b=>exact io);(case c=>exact(ip (dv 5)))))) (kZ (ak (i8 (DE.dx (dv 6)) (aJ (bM W) d (aN 0 (ak (DE.dx am) ao)))) ao))) (DE.dx (DO.de (by refine kH ?a ?b ?c;(case a=>exact(dv 2));(case b=>exact(ip (dv 5)));(case c=>exact io))))) (ak (DE.dx (dv 3)) ao)))))))) bg)
 (az (bH (bp kA kC (DE.db (dv 1)) (DE.db am)) (az (ba 7 lb.nd (aJ (yi W) d (aN 0 ao)))
 (az (ba 8 lb.nd (aJ (yi W) d (aN 0 ao)))
 (az (ba 6 lb.nd (aJ (yj W) d (aN 0 ao)))
 (aB (bG (cZ (ak (DE.dx aq) (ak (DE.dx (dv 7)) (ak (DE.dx (dv 8)) (ak (DE.dx (dv 6)) (ak (aJ (rH W) d (aN 0 (ak (aJ (bM W) d (aN 0 (ak (DE.dx am) ao))) ao))) (ak (DE.dx (dv 2)) (ak (DE.dx (dv 3)) ao))))))))))))) bg)
 (aB (bG (cZ (ak (DE.dx (bU (DO.dc (cj (av aq (av aq aI)))) (cD lH (dv 1) am))) (ak (aJ (rG W) d (aN 0 ao)) (ak (DE.dx (dv 2)) (ak (DE.dx (dv 3)) ao)))))))))))))
def P3{w:World}(W:Wd K mg a):qD P w K mg base a 1 "_law_seeds" a.e_53 ["_law_script","_law_many"] Ds:=by
 refine W.e_53.pk (g0 (F:=yh) W.e_53.F uu λ_ _ _ _ _ _ b=>?_);unfold yh;exact (az (Ng 2 1 [] ["_law_k"] uu.nd rfl (DI.de (tM rfl W.z_range (av (dv 1) aI))) (λ_ _ _ _ _=>(dgc 0 1)) (λ_ _ _ _ _=>ox) (λ_ _ _ _ _=>(cD cA (cD tX (dvc 0) am) am)))
 (az (kP gE rfl (GC rfl W.z_enumerate (av (dv 0) aI)) (wF rfl (mH (iq 3 6 uu.nd) (mH (iq 4 6 uu.nd) wC))) (az (gu 5 uu.nd (cD cA (cD tX (bU (dvC 2) (cD lH (dv 3) (dv 1))) am) (cD lH (dv 4) (cD oj am am))))
 (aB (NG (pv 2) (cD lH (dv 3) (dv 1)) (cD lH (cD cA (dv 5) (dv 3)) (cD tJ (cD oj am am) am))))))
 (aB (oz 2))))
def P4{w:World}(W:Wd K mg a):qD P w K mg base a 18 "law" a.e_29 ["_law_script"] Iq:=by
 refine W.e_29.pk (g0 (F:=Dt) W.e_29.F j7 λ_ _ _ _ _ _ b=>?_);have c:=b.units;unfold Dt;exact (az (gu 1 j7.nd am)
 (az (bH (bp mF mG (DE.db (fS gH gI rfl W.z_len gD (fR (DE.db (dv 0)) fQ))) (DE.db am)) (aB (gu 1 j7.nd (cD cA am (cD lH (bU (dvC 0) am) am)))) bg)
 (az (kP gE rfl (kL (di (P3 W) b (av (dv 0) (av (dv 1) aI)))) (iq 2 10 j7.nd) (az (mL 3 j7.nd (cj (av (dv 2) aI)))
 (az (ba 4 j7.nd (GS (P2 W) b (aN 3 ao)))
 (az (ba 5 j7.nd (AV (Ix W) b (wT (dv 4) (wS 3 aI))))
 (az (ba 6 j7.nd (AV (u7 W) b (wT (dv 5) (wS 3 aI))))
 (az (ba 7 j7.nd (AV (PJ W) b (wT (dv 5) (wS 3 aI))))
 (az (bH (DW.dt (M5 (bp (kG c) qC (DE.db (di (DD W) b (av (dv 6) aI))) (DE.db (dv 4))) (M4 (bp (kG c) qC (DE.db (di (PZ W) b (av (dv 7) aI))) (DE.db (DO.de (cj (av iX (av iX (av iX aI)))))))))) (aB (kO iX)) bg)
 (az (mL 8 j7.nd (cj (av (dv 6) (av (dv 6) aI))))
 (az (Pc (dR (dB eN PySem.F.slot_list_insert PySem.F.type_list_insert Pb (pv 8) (DAX.pa (ak (GS (bM W) b (aN 3 (ak (DE.dx am) ao))) (ak (DE.dx (dv 7)) ao))))))
 (az (gu 9 j7.nd (F2 (iY (bP c) cx (DE.db (Pi (dB mr PySem.F.slot_str_strip PySem.F.type_str_strip Ph (dv 7) (bW aq cN)))) (DE.db aq)) (oi (iY G3 G2 (DE.db aq) (DE.db (dv 7))))))
 (az (bH (DW.dt (tF (oh (gZ (DE.db (dv 9)))) (wr (bp (kG c) qC (DE.db (di (P1 W) b (av (Pe (dB mr PySem.F.slot_str_join PySem.F.type_str_join Ou aq (bW (dvB 8) cN))) aI))) (DE.db (DO.de (cj (av iX (av iX (av iX aI)))))))))) (aB (kO iX)) bg)
 (aB (bH (bp (kG c) qC (DE.db (di (DD W) b (av (dv 6) aI))) (DE.db (dv 4))) (aB (kO iX)) bg)))))))))))))
 (aB (kO iX)))))
local macro_rules | `(tactic| walk_at "evS")=>`(tactic| first | decide | lia | assumption | exact ⟨by decide,by decide⟩ | exact ⟨by lia,by lia⟩ | exact .inl ⟨by decide,by decide⟩ | exact .inr ⟨by decide,by decide⟩ | exact .inl ⟨by lia,by lia⟩ | exact .inr ⟨by lia,by lia⟩ | exact ⟨by decide,by decide,by decide⟩)
local macro_rules | `(tactic| walk_at "evO")=>`(tactic| first | with_reducible exact fX | with_reducible exact tW | with_reducible exact kW | with_reducible exact oG | with_reducible exact AM | with_reducible exact dGe_eq | with_reducible exact gv _ _ | with_reducible exact AG _ _ | ((with_reducible apply lK); (focus walk_at "evS")) | ((with_reducible apply GI); (focus walk_at "evS")) | ((with_reducible apply dMul_eq); (focus walk_at "evS")) | ((with_reducible apply qK); (focus first | assumption | exact .inl (by walk_at "evS") | exact .inr ⟨by lia,by lia⟩)) | ((with_reducible apply mR); (focus walk_at "evS")) | ((with_reducible apply dShr_eq); (focus walk_at "evS")) | with_reducible exact AF _ _ | with_reducible exact Gu _ _ | with_reducible exact dEq_bl _ _ | with_reducible exact dAndB_eq | exact dEq_nil _ _ | exact dNe_nil _ _ | assumption | rfl)
local macro_rules | `(tactic| walk_at "ev")=>`(tactic| first
 | with_reducible assumption
 | ((with_reducible apply aH); (focus walk_at "ev"); (focus walk_at "ev"); (focus walk_at "evO"))
 | ((with_reducible apply bq); (focus walk_at "ev"))
 | ((with_reducible apply gK); (focus walk_at "ev"); (focus first | assumption | rfl))
 | ((with_reducible apply qH); (focus walk_at "ev"); (focus walk_at "ev"))
 | ((with_reducible apply Gv); (focus walk_at "ev"); (focus walk_at "ev"))
 | ((with_reducible apply oA); (focus walk_at "ev"))
 | ((with_reducible apply oB); (focus walk_at "ev"); (focus walk_at "ev"))
 | ((with_reducible apply AH); (focus walk_at "ev"); (focus walk_at "ev"))
 | ((with_reducible apply Gw); (focus walk_at "ev"))
 | ((with_reducible apply aV); (focus walk_at "ev"); (focus walk_at "ev"))
 | ((with_reducible apply wN); (focus walk_at "ev"))
 | ((with_reducible apply fm); (focus walk_at "ev"))
 | ((with_reducible apply bL); (focus walk_at "ev"); (focus first | with_reducible assumption | with_reducible exact lL _ _ | assumption | exact lL _ _ | exact GJ _ _ | rfl))
 | ((with_reducible apply callS_is); (focus walk_at "ev"); (focus assumption); (focus rfl))
 | ((with_reducible apply cb); (focus walk_at "ev"); (focus walk_at "ev"); (focus first | assumption | rfl))
 | ((with_reducible apply sl_kl); (focus walk_at "ev"); (focus rfl); (focus rfl))
 | ((with_reducible apply qI); (focus walk_at "ev"); (focus rfl); (focus rfl))
 | ((with_reducible apply tT); (focus walk_at "ev"); (focus rfl))
 | rfl)
local macro_rules | `(tactic| walk_at "nrm")=>`(tactic| simp only [GD,set_cons_succ,set_cons_zero])
local macro_rules | `(tactic| walk_at "set")=>`(tactic| (apply ay; (first | with_reducible apply gj | with_reducible apply kQ); (focus walk_at "ev"); walk_at "nrm"))
local macro_rules | `(tactic| walk_at "if0")=>`(tactic| ((with_reducible first | apply br | apply mQ); (focus walk_at "ev")))
open PySem.Builtin PySem.Builtin.Str
@[reducible]noncomputable def tx(l:LN):Str:=⟨l.toArray⟩
def c5(l:LN):(tx l).length=l.length:=by show l.toArray.size=_;simp
def pA(a b:LN):tx a++tx b=tx (a++b):=by
 apply Str.ext';rw[Str.cps_append];simp
def nj(z:Str):tx z.cps.toList=z:=by
 apply Str.ext';simp
def ja{a b:LN}(h:tx a=tx b):a=b:=by
 have:=congrArg (λz:Str=>z.cps.toList) h
 simpa using this
variable{ρ:LS}{d:D}
def aA{f:MF1}(h:f ρ=aa d):mX f ρ=aa (d,ρ):=by
 unfold mX;rw[h];rfl
variable{f:Xe}{ρ1 hT:LS}{x:D}
def bv{m:D->D->OD}{g:Xe}{y:D}(b:f ρ=aa (x,ρ1))(c:g ρ1=aa (y,hT))(e:m x y=aa d):mX2 m f g ρ=aa (d,hT):=by
 unfold mX2;rw[b,aD,c,aD,e];rfl
variable{ds:LD}
def aC{g:Xa}(b:f ρ=aa (d,ρ1))(c:g ρ1=aa (ds,hT)):ag f g ρ=aa (d::ds,hT):=by
 unfold ag;rw[b,aD,c];rfl
variable{f:Xa}
def P5{b:LD}(c:f ρ=aa (b,ρ1))(e:mI b=aa ds):jt f ρ=aa (ds,ρ1):=by
 unfold jt;rw[c,aD,e];rfl
variable{i:Nat}{m:Addr->LD->LD->LD->Option (LD×D)}{l l0:Addr}{j4 xs ys:LD}
def iC(b:ρ[i]?=aa (.pin l0 j4))(c:f ρ=aa (ds,ρ1))(e:ρ1[i]?=aa (.pin l xs))(g:m l [] ds xs=aa (ys,d)):aE i m f ρ=aa (d,ρ1.set i (.pin l ys)):=by
 unfold aE;rw[b,c,aD,e];show(m l [] ds xs).map _=_;rw[g];rfl
open Classical in
def IR(c:ρ[i]?=aa (.own j4))(g:f ρ=aa (ds,ρ1))(j:ρ1[i]?=aa (.own xs))(b:∀l,m l [] ds xs=aa (ys,d)):lN i m f ρ=aa (d,ρ1.set i (.own ys)):=by
 unfold lN;rw[c];show(f ρ).bind _=_;rw[g,aD];dsimp only;rw[j];show(if h:∃q,∀l,m l [] ds xs=aa q then _ else ae)=_;rw[dif_pos ⟨(ys,d),b⟩]
 have e:(⟨(ys,d),b⟩:∃q,∀l,m l [] ds xs=aa q).choose=(ys,d):=by
  have:=(⟨(ys,d),b⟩:∃q,∀l,m l [] ds xs=aa q).choose_spec 0;rw[b 0]at this;exact dz this.symm
 rw[e]
variable{f:Xe}{K:Fl->Prop}
def bw(h:f ρ=aa (d,ρ1))(k:K (.nx (ρ1.set i (.im d)))):wp (aP i f) ρ K:=⟨_,by unfold aP;rw[h];rfl,k⟩
def bI(h:f ρ=aa (d,ρ1))(k:K (.rtS d ρ1)):wp (bi f) ρ K:=⟨_,by unfold bi;rw[h];rfl,k⟩
def IS{z:D}(b:ρ[i]?=aa (.im x))(h:f ρ=aa (d,ρ1))(c:oM x d=aa z)(k:K (.nx (ρ1.set i (.im z)))):wp (qO i f) ρ K:=⟨_,by
 unfold qO;rw[b];show(f ρ).bind _=_;rw[h,aD,c];rfl,k⟩
variable{t:Xt}{b:Bool}
def fY{F c:MF3}(h:t ρ=aa (b,ρ1))(g:b=ac->wp F ρ1 K)(e:b=ai->wp c ρ1 K):wp (eS t F c) ρ K:=by
 unfold wp eS;rw[h]
 cases b with
 |true=>exact g rfl
 |false=>exact e rfl
abbrev nx(s:Int):Int:=(s*1181783497276652981+12345678910987) % (2 ^ 61-1)
abbrev okS(s:Int):Prop:=0<=s/\s<2305843009213693951
def aT(s:Int):okS (nx s):=by
 unfold okS nx;lia
abbrev dr(s k:Int):Int:=nx s / 65537 % k
variable{k:Int}
def bn(s:Int)(h:0<k):0<=dr s k/\dr s k<k:=⟨Int.emod_nonneg _ (by lia),zz _ h⟩
def rL(l:Addr)(s k:Int)(h:okS s)(g:0<k):m_0 l [] [.int k] [.int s]=aa ([.int (nx s)],.int (dr s k)):=by
 obtain⟨j,n⟩:=h
 have w:wp b_0 [.pin l [.int s],.im (.int k)] (λo=>o=.rtS (.int (dr s k)) [.pin l [.int (nx s)],.im (.int k)]):=by
  apply ay;have c:mS s 1181783497276652981:=.inr ⟨by lia,by decide⟩;exact N0 (aH (aH (aH rfl rfl (qK c)) rfl fX) (aH (aH rfl rfl (mR (by decide))) rfl tW) (lK (by decide))) rfl rfl (by decide) (by show _<1;decide) (cS (aH (aH rfl rfl (GI (by have:=aT s;unfold okS at this;walk_at "evS"))) rfl (lK g)) rfl)
 obtain⟨o,e,rfl⟩:=w;exact eQ e rfl
abbrev smL:LN:=("abcdefghijklmnopqrstuvwxyz":Str).cps.toList
def DF:smL.length=26:=by decide +kernel
def smT:("abcdefghijklmnopqrstuvwxyz":Str)=tx smL:=(nj _).symm
abbrev stp(sp:Int)(p:Int×LN):Int×LN:=(nx p.1,p.2++[smL.getD (dr p.1 sp).toNat 0])
abbrev its(sp:Int):Nat->Int×LN->Int×LN
 | 0,p=>p
 |n+1,p=>stp sp (its sp n p)
def DH(sp:Int)(p:Int×LN)(h:okS p.1):∀n,okS (its sp n p).1/\(its sp n p).2.length=p.2.length+n
 | 0=>⟨h,rfl⟩
 |n+1=>by
  obtain⟨a,c⟩:=DH sp p h n;refine⟨aT _,?_⟩;show((its sp n p).2++[_]).length=_;rw[aO,c];rfl
def DJ(a b:LN)(h:a.length+b.length<=2000):bB (.str (tx a)) (.str (tx b))=aa (.str (tx (a++b))):=by
 show(if (tx a).length+(tx b).length<=16777216 then aa _ else ae)=_;rw[c5,c5,if_pos (by lia),pA]
def IT(c:LN)(v:Int)(h:0<=v/\v<(c.length:Nat))(g:c.length<=1000):mU (.str (tx c)) (.int v)=aa (.str (tx [c.getD v.toNat 0])):=by
 show(if 0<=v/\v<2 ^ 63/\v<_ then ((tx c).cps[v.toNat]?).map _ else ae)=_;rw[if_pos ⟨h.1,by lia,by rw[c5];exact h.2⟩];have e:v.toNat<c.length:=by lia
 rw[List.getElem?_toArray,du e,eA,du e];rfl
def yD(v:Int)(a:0<=v)(b:v<=500):mI [D.int v]=aa ((dG v.toNat).map λ(i:Nat)=>D.int i):=by
 show(if -_<=v/\v<2 ^ 62 then aa _ else ae)=_;rw[if_pos ⟨by lia,by lia⟩,Gs];simp
abbrev smP(n sp s:Int):Int×LN:=its sp n.toNat (s,[])
def rM(n sp s:Int)(h:okS s)(e:0<=n):okS (smP n sp s).1/\((smP n sp s).2.length:Int)=n:=by
 obtain⟨a,c⟩:=DH sp (s,[]) h n.toNat;refine⟨a,?_⟩;unfold smP;rw[c];simp only[iN];lia
def P6(l:Addr)(s n sp:Int)(h:okS s)(c:0<=n/\n<=500)(j:0<sp/\sp<=26):rj l [] [.int n,.int sp] [.int s]=aa ([.int (smP n sp s).1],.str (tx (smP n sp s).2)):=by
 have w:wp xy [.pin l [.int s],.im (.int n),.im (.int sp),.no,.no] (λo=>∃a,o=.rtS (.str (tx (smP n sp s).2)) [.pin l [.int (smP n sp s).1],.im (.int n),.im (.int sp),.im (.str (tx (smP n sp s).2)),a]):=by
  apply ay;refine gj rfl ?_;show wp _ [.pin l _,.im _,.im _,.im (.str (tx [])),.no] _;apply ay;refine kU (dG n.toNat) (λi=>D.int i) (λpre ρ=>∃a,ρ=[.pin l [.int (its sp pre.length (s,[])).1],.im _,.im _,.im (.str (tx (its sp pre.length (s,[])).2)),a]) ?_ ⟨_,rfl⟩ ?_ ?_
  .have r:aj (ah 1) nZ [.pin l [.int s],.im _,.im (.int sp),.im (.str (tx [])),.no]=aa [.int n]:=rfl;unfold ir;rw[r,aD,yD n c.1 c.2]
  .rintro pre x post ρ u ⟨a,rfl⟩;refine⟨_,rfl,?_⟩;obtain⟨k1,k3⟩:=(DH sp (s,[]) h) pre.length
   have g:pre.length<n.toNat:=by
    have:=congrArg ie u;rw[ic,aO,aQ]at this;lia
   generalize v:its sp pre.length _=p at k1 k3;have y:=bn p.1 j.1;have q:aE 0 m_0 (ag (mX (ah 2)) af) _=aa _:=iC (ρ1:=[.pin l _,.im (.int n),.im _,.im (.str (tx p.2)),.im (.int x)]) rfl (aC (aA rfl) rfl) rfl (rL l p.1 sp k1 j.1);refine IS (z:=.str (tx (stp sp p).2)) rfl (bv (aA (by rw[smT])) q (IT smL _ (by rw[DF];lia) (by rw[DF];decide))) ?_ ?_
   .show(if (tx p.2).length+(tx [_]).length<=16777216 then aa _ else ae)=_;rw[c5,c5,if_pos (by rw[k3];simp only[iN,aQ];lia),pA];rfl
   .refine⟨.im (.int x),?_⟩;rw[aO,show([x]:LN).length=1 from rfl];show _=[Sl.pin l [.int (stp sp _).1],.im _,.im _,.im (.str (tx (stp sp _).2)),.im _];rw[v];rfl
  .rintro ρ ⟨a,rfl⟩;rw[ic];exact cS rfl ⟨a,rfl⟩
 obtain⟨o,e,a,rfl⟩:=w;exact eQ e rfl
def cI(l:Addr)(s k:Int)(r:LS){f:MF1}(c:f (.pin l [.int s]::r)=aa (.int k))(h:okS s)(e:0<k):aE 0 m_0 (ag (mX f) af) (.pin l [.int s]::r)=aa (.int (dr s k),.pin l [.int (nx s)]::r):=iC (ρ1:=.pin l _::r) rfl (aC (aA c) rfl) rfl (rL l s k h e)
abbrev itP{c:Type}(F:Int->Int×c):Nat->Int->Int×List c
 | 0,s=>(s,[])
 |n+1,s=>((itP F n (F s).1).1,(F s).2::(itP F n (F s).1).2)
def gy{e:Type}{F:Int->Int×e}(c:∀s,okS (F s).1):∀n s,okS s->okS (itP F n s).1/\(itP F n s).2.length=n
 | 0,s,h=>⟨h,rfl⟩
 |n+1,s,_=>⟨(gy c n _ (c s)).1,by show(_::(itP F n (F s).1).2).length=_;rw[aQ,(gy c n _ (c s)).2]⟩
def iD{g:Type}{F:Int->Int×g}{P:g->Prop}(c:∀s,P (F s).2):∀n s,∀x∈(itP F n s).2,P x
 | 0,_,x,h=>(iM h).elim
 |n+1,s,x,h=>by
  rcases bC.mp (h)with e |e
  .rw[e];exact c s
  .exact iD c n _ x e
variable{α:Type}{F:Int->Int×α}{s0:Sl}
def P7{toD:α->D}{tl:LS}(e:∀s,okS s->m l [] [] [.int s]=aa ([.int (F s).1],toD (F s).2))(d:D)(s:Int)(h:okS s):oV 1 [0] 0 0 (bZ 0) (aE 1 m af) (s0::tl) l d [.int s]=aa (toD (F s).2,[.int (F s).1]):=by
 have c:aE 1 m af _=aa _:=iC (ρ1:=[.im d,.pin l _]) rfl rfl rfl (e s h);show(aa [Sl.im d,Sl.pin l _]).bind _=_;rw[aD,c,aD];refine if_pos λi hi=>?_
 cases i with
 |zero=>nomatch hi
 |succ i=>rfl
def IU{toD:α->D}{tl:LS}(e:∀s,okS s->m l [] [] [.int s]=aa ([.int (F s).1],toD (F s).2))(c:∀s,okS (F s).1):∀(ds:LD) (s:Int),okS s->g9 1 [0] 0 0 (bZ 0) (aE 1 m af) (s0::tl) l ds [.int s]=aa ((itP F ds.length s).2.map toD,[.int (itP F ds.length s).1])
 | [],s,_=>rfl
 |d::ds,s,h=>by
  unfold g9;rw[P7 e d s h,aD,IU e c ds (F s).1 (c s)];rfl
variable{fi:Xa}{s:Int}
def rO{toD:α->D}{tl:LS}(e:∀s,okS s->m l [] [] [.int s]=aa ([.int (F s).1],toD (F s).2))(c:∀s,okS (F s).1)(h:okS s)(hi:fi ρ=aa (ds,.pin l [.int s]::tl))(g:ds.length<=1000):
  gN 1 [0] 0 0 fi (bZ 0) (aE 1 m af) ρ=aa (.lst ((itP F ds.length s).2.map toD),.pin l [.int (itP F ds.length s).1]::tl):=by
 unfold gN;rw[hi,aD];show(if ds.length<=16777216/\_[0]?=aa 0/\_=ac then (g9 1 [0] 0 0 _ _ _ l ds _).map λq=>_ else ae)=_;rw[if_pos ⟨by lia,rfl,rfl⟩,IU e c ds s h];rfl
abbrev grL:LN:=("ABCDEFGHIJKLMNOPQRSTUVWXYZ":Str).cps.toList
def grT:("ABCDEFGHIJKLMNOPQRSTUVWXYZ":Str)=tx grL:=(nj _).symm
def DK:grL.length=26:=by decide +kernel
abbrev kpS:LSt:=["kind","rule","may","choose","never","if","and","not","unlike","least","most","of","to","over","in","for"]
abbrev kpW:L2N:=kpS.map λz=>z.cps.toList
abbrev kept(w:LN):Bool:=kpW.any λk=>k==w
def yE:lU []=aa (.lst (kpW.map λw=>D.str (tx w))):=by
 rfl
def inK(w:LN):dIn (.str (tx w)) (.lst (kpW.map λw=>D.str (tx w)))=aa (.bl (kept w)):=by
 show Option.map D.bl (if ((D.str (tx w)).scalar && (kpW.map λw=>D.str (tx w)).all D.scalar)=ac then aa _ else ae)=_;rw[if_pos (by rw[all_map];exact(cq _ _).mpr ⟨rfl,all_eq_true.mpr λ_ _=>rfl⟩),any_map];show aa _=_
 congr 2
 refine congrArg _ (funext λk=>?_);show(tx k==tx w)=_;apply kf.mpr;rw[beq_iff_eq,beq_iff_eq];exact⟨ja,λe=>by rw[e]⟩
abbrev lX(c w:LN):Bool:=w.all λx=>decide (x∈c)
abbrev made(w c:LN)(most:Nat):Bool:=(decide (1<=w.length) && decide (w.length<=most)) && lX c w
abbrev bz(w:LN):Bool:=made w smL 8 && !kept w
abbrev sp2(v:Int):Int:=if v=0 then 26 else 2
def rP(v:Int):0<sp2 v/\sp2 v<=26:=by unfold sp2;split <;> decide
abbrev nk(k:Int):LN:=kpW.getD k.toNat []
abbrev cr(s:Int):Int×LN:=
 if dr s 12=0 then ((smP 1 26 (nx (nx s))).1,nk (dr (nx s) 16)++(smP 1 26 (nx (nx s))).2)
 else if dr s 12=1 then (nx (nx s),(nk (dr (nx s) 16)).dropLast)
 else ((smP (1+dr (nx s) 8) (sp2 (dr s 12 % 2)) (nx (nx s))).1,if kept (smP (1+dr (nx s) 8) (sp2 (dr s 12 % 2)) (nx (nx s))).2 then 122::(smP (1+dr (nx s) 8) (sp2 (dr s 12 % 2)) (nx (nx s))).2 else (smP (1+dr (nx s) 8) (sp2 (dr s 12 % 2)) (nx (nx s))).2)
def DL:kpW.length=16:=rfl
def P8:∀w∈kpW,w.length<=6:=by decide +kernel
def DM(h:0<=k/\k<16):nk k∈kpW:=by
 have c:k.toNat<kpW.length:=by rw[DL];lia
 unfold nk;rw[eA,du c];exact lA c
def P9(h:0<=k/\k<16):dU (.lst (kpW.map λw=>D.str (tx w))) (.int k)=aa (.str (tx (nk k))):=by
 have c:k.toNat<kpW.length:=by rw[DL];lia
 show atI _ k=_;unfold atI ixN;rw[if_pos h.1,if_pos (by rw[cf,DL];lia),aD,fL,du c];unfold nk;rw[eA,du c];rfl
def IV(sp:Int)(g:0<sp/\sp<=26)(p:Int×LN)(h:∀x∈p.2,x∈smL):∀n,∀x∈(its sp n p).2,x∈smL
 | 0,x,hx=>h x hx
 |n+1,x,hx=>by
  rcases dw.mp (hx)with e |e
  .exact IV sp g p h n x e
  .have d:=bn (its sp n p).1 g.1;rw[bR]at e;have c:(dr (its sp n p).1 sp).toNat<smL.length:=by rw[DF];lia
   rw[e,eA,du c];exact lA c
def DN(n sp s:Int)(e:0<sp/\sp<=26):lX smL (smP n sp s).2=ac:=all_eq_true.mpr λx c=>decide_eq_true (IV sp e _ (λx c=>(iM c).elim) n.toNat x c)
def Qa:∀k∈kpW,∀x∈smL,bz (k++[x])=ac:=by decide +kernel
def Qb:∀k∈kpW,bz k.dropLast=ac:=by decide +kernel
def Qc:∀k∈kpW,bz (122::k)=ac:=by decide +kernel
def h7(s:Int):okS (cr s).1/\bz (cr s).2=ac:=by
 have g:=bn (nx s) (k:=16) (by decide);have o:=bn (nx s) (k:=8) (by decide);unfold cr;split
 .obtain⟨a,b⟩:=rM 1 26 _ (aT _) (by decide);have c:=DN 1 26 (nx (nx s)) (by decide);refine⟨a,?_⟩;generalize (smP 1 26 _).2=w at b c
  match w,b,c with
  | [x],_,c=>
   exact Qa _ (DM g) x (of_decide_eq_true (all_eq_true.mp c x be))
  | [],b,_=>simp at b
  | _::_::_,b,_=>exfalso;simp at b;lia
 .split
  .exact⟨aT _,Qb _ (DM g)⟩
  .have h:=rP (dr s 12 % 2);obtain⟨a,b⟩:=rM (1+dr (nx s) 8) _ _ (aT _) (by lia);have c:=DN (1+dr (nx s) 8) _ (nx (nx s)) h;generalize smP _ _ _=q at a b c;refine⟨a,?_⟩
   cases j:kept q.2 with
   |true=>
    obtain⟨k,n,e⟩:=any_eq_true.mp j;rw[<- beq_iff_eq.mp e]
    exact Qc k n
   |false=>
    rw[if_neg (cp)];unfold bz made;rw[j,c,decide_eq_true (show 1<=q.2.length by lia),decide_eq_true (show q.2.length<=8 by lia)];rfl
@[reducible]noncomputable def sT(w:LN):D:=.str (tx w)
def dY{α:Type}{F:Int->Int×α}{toD:α->D}(c:∀s,okS s->m l [] [] [.int s]=aa ([.int (F s).1],toD (F s).2))(s:Int)(r:LS)(h:okS s):aE 0 m af (.pin l [.int s]::r)=aa (toD (F s).2,.pin l [.int (F s).1]::r):=iC (ρ1:=.pin l _::r) rfl rfl rfl (c s h)
def DP(l:Addr)(s n sp:Int)(r:LS){c:Xa}(e:ρ[0]?=aa (.pin l xs))(g:c ρ=aa ([.int n,.int sp],.pin l [.int s]::r))(h:okS s)(j:0<=n/\n<=500)(o:0<sp/\sp<=26):aE 0 rj c ρ=aa (.str (tx (smP n sp s).2),.pin l [.int (smP n sp s).1]::r):=iC e g rfl (P6 l s n sp h j o)
def DQ(v:Int)(h:0<=v/\v<2):dU (.lst [.int 26,.int 2]) (.int v)=aa (.int (sp2 v)):=by
 have:v=0\/v=1:=by lia
 rcases this with e |e <;> (rw[e];rfl)
def zT:("z":Str)=tx [122]:=by decide +kernel
def Qd:∀w∈kpW,gV (tx w) ae (aa (-1))=tx w.dropLast:=by decide +kernel
variable{ρ':LS}
def bxX{g:Xe}{m:D->D->OD}(h:mX2 m f g ρ=aa (.bl b,ρ')):mBX (mX2 m f g) ρ=aa (b,ρ'):=by
 unfold mBX;rw[h];rfl
def pB(l:Addr)(s:Int)(I:okS s):j8 l [] [] [.int s]=aa ([.int (cr s).1],.str (tx (cr s).2)):=by
 have j:=bn s (k:=12) (by decide);have c:=bn (nx s) (k:=16) (by decide);have E:=bn (nx s) (k:=8) (by decide);have r:=aT s;have h:=aT (nx s)
 have w:wp uK [.pin l [.int s],.no,.no] (λo=>∃u y,o=.rtS (.str (tx (cr s).2)) [.pin l [.int (cr s).1],u,y]):=by
  unfold uK cr;apply ay;refine bw (cI l s 12 _ rfl I (by decide)) ?_;show wp _ [.pin l _,.im _,.no] _;generalize dr s 12=v at j;generalize nx s=s1 at c E r h;apply ay;have z:mX2 dU (mX (aS lU nZ)) (aE 0 m_0 (ag (mX (λ_=>aa _)) af)) _=aa (.str _,[.pin l _,.im (.int v),.no]):=bv (aA (bL rfl yE)) (cI l s1 16 _ rfl r (by decide)) (P9 c);have g:=DM c;have H:=P8 _ g;refine br (bq (aH rfl rfl (gv _ _))) (λe=>?_) λe=>bc ?_
  .have n:v=0:=by simpa using e
   rw[if_pos n];obtain⟨A,B⟩:=rM 1 26 _ h (by decide);exact bI (bv z (DP l _ 1 26 _ rfl rfl h (by decide) (by decide)) (DJ _ _ (by lia))) ⟨_,_,rfl⟩
  have n:¬v=0:=by simpa using e
  rw[if_neg n];apply ay;refine br (bq (aH rfl rfl (gv _ _))) (λe=>?_) λe=>bc ?_
  .have p:v=1:=by simpa using e
   rw[if_pos p];refine bI (ρ1:=[.pin l _,.im (.int v),.no]) ?_ ⟨_,_,rfl⟩;unfold xg;rw[z,aD];show(mY _ ae _).map _=_
   have:mY (.str (tx (nk (dr s1 16)))) ae (aa (-1))=aa (.str (gV (tx (nk (dr s1 16))) ae (aa (-1)))):=by
    show(if (tx _).length<=16777216 then aa _ else ae)=_;rw[c5,if_pos (by lia)]
   rw[this,Qd _ g];rfl
  have p:¬v=1:=by simpa using e
  rw[if_neg p];apply ay;have G:mIx (aj (λ_=>aa _) (aj (λ_=>aa _) nZ)) (m2 il (ah 1) (λ_=>aa _)) [.pin l [.int (nx s1)],.im _,.no]=aa _:=cb rfl (aH rfl rfl (lK (by decide))) (DQ (v % 2) ⟨by lia,by lia⟩);refine bw (DP l _ _ _ _ rfl (aC (bv (aA rfl) (cI l s1 8 _ rfl r (by decide)) fX) (aC (aA G) rfl)) h ⟨by lia,by lia⟩ (rP _)) ?_;obtain⟨A,B⟩:=rM (1+dr s1 8) _ _ h (by lia);generalize smP _ _ _=q at A B;apply ay;refine br (bq (aH rfl (bL rfl yE) (inK q.2))) (λe=>?_) λe=>bc ?_
  .rw[e];exact cS (aH (by rw[zT]) rfl (DJ _ q.2 (by rw[f7];lia))) ⟨_,_,rfl⟩
  .rw[e];exact cS rfl ⟨_,_,rfl⟩
 obtain⟨o,e,u,y,rfl⟩:=w;exact eQ e rfl
abbrev iE(s:Int):Int×LN:=
 ((smP (dr (nx (nx s)) 8) (sp2 (dr (nx (nx (nx s))) 2)) (nx (nx (nx (nx s))))).1,grL.getD (dr (nx s) (sp2 (dr s 2))).toNat 0::(smP (dr (nx (nx s)) 8) (sp2 (dr (nx (nx (nx s))) 2)) (nx (nx (nx (nx s))))).2)
abbrev dZ(w:LN):Bool:=made (w.take 1) grL 1 && (decide (w.length=1) || made (w.drop 1) smL 7)
def yF(s:Int):okS (iE s).1/\dZ (iE s).2=ac:=by
 have j:=rP (dr s 2);have p:=bn (nx s) j.1;have n:=bn (nx (nx s)) (k:=8) (by decide);obtain⟨a,b⟩:=rM _ _ _ (aT _) n.1;have c:=DN (dr (nx (nx s)) 8) _ (nx (nx (nx (nx s)))) (rP (dr (nx (nx (nx s))) 2));unfold iE;generalize smP _ _ _=q at a b c;refine⟨a,?_⟩;have h:(dr (nx s) (sp2 (dr s 2))).toNat<grL.length:=by rw[DK];lia
 have g:grL.getD (dr (nx s) (sp2 (dr s 2))).toNat 0∈grL:=by
  rw[eA,du h];exact lA h
 generalize grL.getD (dr _ _).toNat 0=x at g;show(made [x] grL 1 && (decide _ || made q.2 smL 7))=ac
 have o:made [x] grL 1=ac:=by
  unfold made lX;rw[nK,decide_eq_true g];rfl
 rw[o,Bool.true_and,aQ];unfold made;rw[c]
 by_cases e:q.2.length=0
 .rw[decide_eq_true (show q.2.length+1=1 by lia)];rfl
 .rw[decide_eq_true (show 1<=q.2.length by lia),decide_eq_true (show q.2.length<=7 by lia)];simp
def IW(l:Addr)(s:Int)(r:okS s):xB l [] [] [.int s]=aa ([.int (iE s).1],.str (tx (iE s).2)):=by
 have n:=rP (dr s 2);have u:=bn (nx s) n.1;have p:=bn (nx (nx s)) (k:=8) (by decide);have c:=bn (nx (nx (nx s))) (k:=2) (by decide);have h:=rP (dr (nx (nx (nx s))) 2)
 have w:wp uM [.pin l [.int s],.no] (λo=>∃j,o=.rtS (.str (tx (iE s).2)) [.pin l [.int (iE s).1],j]):=by
  unfold uM iE;apply ay
  have q:aE 0 m_0 (ag (mX2 dU (mX (aZ (aj (λ_=>aa _) (aj (λ_=>aa _) nZ)))) (aE 0 m_0 (ag (mX (λ_=>aa _)) af))) af) _=aa _:=
   iC (ρ1:=[.pin l _,.no]) rfl (aC (bv (aA rfl) (cI l s 2 _ rfl r (by decide)) (DQ _ (bn s (by decide)))) rfl) rfl (rL l _ _ (aT _) n.1)
  refine bw (bv (aA (by rw[grT])) q (IT grL _ (by rw[DK];lia) (by rw[DK];decide))) ?_;generalize grL.getD (dr _ _).toNat 0=x;have g:=aT (nx s);generalize nx (nx s)=s2 at *;obtain⟨a,b⟩:=rM _ (sp2 (dr (nx s2) 2)) (nx (nx s2)) (aT _) p.1;refine bI (bv (aA rfl) (DP l _ _ _ _ rfl (aC (cI l s2 8 _ rfl g (by decide)) (aC (bv (aA rfl) (cI l _ 2 _ rfl (aT _) (by decide)) (DQ _ c)) rfl)) (aT _) ⟨by lia,by lia⟩ h) (DJ [x] _ (by rw[f7];lia))) ⟨_,rfl⟩
 obtain⟨o,e,j,rfl⟩:=w;exact eQ e rfl
abbrev dD(s:Int):Int×LN:=if dr s 2=0 then iE (nx s) else cr (nx s)
abbrev cO(w:LN):Bool:=dZ w || bz w
def h8(s:Int):okS (dD s).1/\cO (dD s).2=ac:=by
 unfold dD cO;split
 .exact⟨(yF _).1,by rw[(yF _).2];rfl⟩
 .exact⟨(h7 _).1,by rw[(h7 _).2,md]⟩
def rQ(l:Addr)(s:Int)(g:okS s):lg l [] [] [.int s]=aa ([.int (dD s).1],.str (tx (dD s).2)):=by
 have w:wp uN [.pin l [.int s]] (λo=>o=.rtS (.str (tx (dD s).2)) [.pin l [.int (dD s).1]]):=by
  unfold uN dD;apply ay;refine fY (bxX (bv (cI l s 2 _ rfl g (by decide)) (aA rfl) (gv _ _))) (λe=>?_) λe=>bc ?_
  .have c:dr s 2=0:=by simpa using e
   rw[if_pos c];exact bI (dY (toD:=sT) (λs h=>IW l s h) _ [] (aT _)) rfl
  .have c:¬dr s 2=0:=by simpa using e
   rw[if_neg c];exact bI (dY (toD:=sT) (λs h=>pB l s h) _ [] (aT _)) rfl
 obtain⟨o,e,rfl⟩:=w;exact eQ e rfl
abbrev gk(s:Int):Int×Int:=if dr (nx s) 3=0 then (nx (nx (nx (nx (nx s)))),((dr s 9*10 ^ 10+dr (nx (nx s)) (10 ^ 10))*10 ^ 10+dr (nx (nx (nx s))) (10 ^ 10))*10 ^ 9+dr (nx (nx (nx (nx s)))) (10 ^ 9)) else (nx (nx s),dr s 9)
abbrev bu(s:Int):Int×Int:=(nx (gk s).1,if dr (gk s).1 3=0 then -(gk s).2 else (gk s).2)
def IY(s:Int):okS (gk s).1/\0<=(gk s).2/\(gk s).2<10 ^ 30:=by
 have e:=bn s (k:=9) (by decide);have a:=bn (nx (nx s)) (k:=10 ^ 10) (by decide);have b:=bn (nx (nx (nx s))) (k:=10 ^ 10) (by decide);have c:=bn (nx (nx (nx (nx s)))) (k:=10 ^ 9) (by decide);unfold gk;split
 .refine⟨aT _,?_,?_⟩
  .show 0<=_*10 ^ 9+dr _ _;lia
  .show _*10 ^ 9+dr _ _<10 ^ 30;lia
 .exact⟨aT _,e.1,by show dr s 9<10 ^ 30;lia⟩
def pE(s:Int):okS (bu s).1/\-(10 ^ 30)<(bu s).2/\(bu s).2<10 ^ 30:=by
 obtain⟨a,b,c⟩:=IY s;refine⟨aT _,?_⟩;show -_<(if dr (gk s).1 3=0 then -(gk s).2 else (gk s).2)/\(if dr (gk s).1 3=0 then -(gk s).2 else (gk s).2)<10 ^ 30
 split <;> lia
def yG(l:Addr)(s:Int)(z:okS s):o9 l [] [] [.int s]=aa ([.int (bu s).1],.int (bu s).2):=by
 have u:=bn s (k:=9) (by decide)
 have w:wp xC [.pin l [.int s],.no,.no] (λo=>∃q c,o=.rtS (.int (bu s).2) [.pin l [.int (bu s).1],q,c]):=by
  apply ay;refine bw (cI l s 9 _ rfl z (by decide)) ?_;refine jT (λρ=>∃c,ρ=[.pin l [.int (gk s).1],.im (.int (gk s).2),c]) ?_ ?_
  .unfold gk;refine fY (bxX (bv (cI l _ 3 _ rfl (aT _) (by decide)) (aA rfl) (gv _ _))) (λe=>?_) λe=>bc ?_
   .have g:dr (nx s) 3=0:=by simpa using e
    rw[if_pos g];have a:=bn (nx (nx s)) (k:=10 ^ 10) (by decide);have b:=bn (nx (nx (nx s))) (k:=10 ^ 10) (by decide);generalize I:dr s 9=n at u;have j:=aT (nx s);generalize nx (nx s)=s2 at *;apply ay;refine kU [0,1] (λi=>D.int i) (λpre ρ=>∃c,ρ=[.pin l [.int (if pre.length=0 then s2 else if pre.length=1 then nx s2 else nx (nx s2))],.im (.int (if pre.length=0 then n else if pre.length=1 then n*10 ^ 10+dr s2 (10 ^ 10) else (n*10 ^ 10+dr s2 (10 ^ 10))*10 ^ 10+dr (nx s2) (10 ^ 10))),c]) rfl ⟨_,rfl⟩ ?_ ?_
    .rintro pre k post ρ h ⟨c,rfl⟩;refine⟨_,rfl,?_⟩
     have step:∀(t n:Int),okS t->0<=n->n<10 ^ 21->mX2 bB (mX (m2 lM (ah 1) (m2 jQ (λ_=>aa _) (kI 10)))) (aE 0 m_0 (ag (mX (m2 jQ (λ_=>aa _) (kI 10))) af)) _=aa (.int (n*10 ^ 10+dr t _),[.pin l _,.im _,.im (.int k)]):=λt n A G H=>
      bv (aA (aH rfl (aH rfl rfl (mR (by decide))) (qK (.inr ⟨by lia,by decide⟩)))) (cI l t (10 ^ 10) _ (aH rfl rfl (mR (by decide))) A (by decide)) fX
     match pre,h with
     | [],_=>
      exact bw (step s2 n j u.1 (by lia)) ⟨_,rfl⟩
     | [x],_=>
      exact bw (step _ _ (aT _) (by lia) (by lia)) ⟨_,rfl⟩
     |x::y::r,h=>exfalso;have:=congrArg ie h;simp at this
    .rintro ρ ⟨c,rfl⟩;exact bw (bv (aA (aH rfl (aH rfl rfl (mR (by decide))) (qK (.inr ⟨by lia,by decide⟩)))) (cI l _ _ _ (aH rfl rfl (mR (by decide))) (aT _) (by decide)) fX) (k_J ⟨_,rfl⟩)
   .have g:¬dr (nx s) 3=0:=by simpa using e
    rw[if_neg g];exact k_J ⟨_,rfl⟩
  .rintro ρ ⟨c,rfl⟩;obtain⟨v,B,E⟩:=IY s;unfold bu;generalize gk s=p at v B E;apply ay;refine fY (bxX (bv (cI l p.1 3 _ rfl v (by decide)) (aA rfl) (gv _ _))) (λe=>?_) λe=>bc ?_
   .have g:dr p.1 3=0:=by simpa using e
    rw[if_pos g];exact cS rfl ⟨_,_,rfl⟩
   .have g:¬dr p.1 3=0:=by simpa using e
    rw[if_neg g];exact cS rfl ⟨_,_,rfl⟩
 obtain⟨o,e,q,c,rfl⟩:=w;exact eQ e rfl
def DR(c:ρ[i]?=aa (.own j4))(h:f ρ=aa (d,ρ1))(e:ρ1[i]?=aa (.own xs))(g:xs.length<16777216)(k:K (.nx (ρ1.set i (.own (xs++[d]))))):wp (dP i f) ρ K:=⟨_,by
 unfold dP;rw[c,h,aD,e];exact if_pos g,k⟩
def dq{f:Xa}(h:f ρ=aa (ds,ρ1)):cc f ρ=aa (.tup ds,ρ1):=by
 unfold cc;rw[h];rfl
@[reducible]noncomputable def Th:=LN×L2N
@[reducible]noncomputable def Ti:=Th×Int×Bool
abbrev thD(t:Th):D:=.tup [.str (tx t.1),.lst (t.2.map sT)]
abbrev cP(z:Ti):D:=.tup [thD z.1,.int z.2.1]
abbrev prD(p:LN×LN):D:=.tup [.str (tx p.1),.str (tx p.2)]
inductive Pa where
 |is (t:Th)
 |no (t:Th)
 |un (a b:LN)
 |ct (w:Bool) (n:Int) (its:List Ti) (ov:List (LN×LN))
abbrev ctS(w:Bool):Str:=if w then "least" else "most"
abbrev Pa.toD:Pa->D
 |.is t=>.tup [.str "is",thD t]
 |.no t=>.tup [.str "not",thD t]
 |.un a b=>.tup [.str "unlike",.str (tx a),.str (tx b)]
 |.ct w n its ov=>.tup [.str (ctS w),.int n,.lst (its.map cP),.lst (ov.map prD)]
inductive Ro where
 |kind (n:LN) (ns:L2N)
 |rule (b:Bool) (t:Th) (bd:List Pa) (ps:List (LN×LN))
 |choose (lo hi:Int) (its:List Ti) (ov:List (LN×LN)) (bd:List Pa) (ps:List (LN×LN))
 |never (bd:List Pa) (ps:List (LN×LN))
abbrev ruS(b:Bool):Str:=if b then "rule" else "may"
abbrev Ro.toD:Ro->D
 |.kind n ns=>.tup [.str "kind",.str (tx n),.lst (ns.map sT)]
 |.rule b t bd ps=>.tup [.str (ruS b),thD t,.lst (bd.map Pa.toD),.lst (ps.map prD)]
 |.choose lo hi its ov bd ps=>.tup [.str "choose",.int lo,.int hi,.lst (its.map cP),.lst (ov.map prD),.lst (bd.map Pa.toD),.lst (ps.map prD)]
 |.never bd ps=>.tup [.str "never",.lst (bd.map Pa.toD),.lst (ps.map prD)]
abbrev eJ(n:Int):Prop:=-(10 ^ 30)<n/\n<10 ^ 30
abbrev lj(t:Th):Prop:=bz t.1=ac/\(∀a∈t.2,cO a=ac)/\t.2.length<=3
abbrev lY(z:Ti):Prop:=lj z.1/\0<=z.2.1/\z.2.1<10 ^ 30
abbrev iF(p:LN×LN):Prop:=dZ p.1=ac/\bz p.2=ac
abbrev jB:Pa->Prop
 |.is t=>lj t
 |.no t=>lj t
 |.un a b=>cO a=ac/\cO b=ac
 |.ct _ n its ov=>eJ n/\(∀z∈its,lY z)/\(0<its.length/\its.length<=9)/\(∀p∈ov,iF p)/\ov.length<=2
abbrev Pa.unl:Pa->Bool
 |.un _ _=>ac
 | _=>ai
abbrev gz(bd:List Pa):Prop:=(∀p∈bd,jB p)/\bd.length<=4
abbrev ll(ps:List (LN×LN)):Prop:=(∀p∈ps,iF p)/\ps.length<=3
abbrev jb:Ro->Prop
 |.kind n ns=>bz n=ac/\(∀w∈ns,bz w=ac)/\0<ns.length/\ns.length<=12
 |.rule _ t bd ps=>lj t/\gz bd/\ll ps
 |.choose lo hi its ov bd ps=>(eJ lo/\eJ hi)/\((∀z∈its,lY z)/\0<its.length/\its.length<=9)/\((∀p∈ov,iF p)/\ov.length<=2)/\gz bd/\ll ps
 |.never bd ps=>gz bd/\(∃p∈bd,p.unl=ai)/\ll ps
abbrev mx0(v:Int):Int:=if v>0 then v else 0
abbrev thP(s:Int):Int×Th:=((itP dD (mx0 (dr (cr s).1 5-1)).toNat (nx (cr s).1)).1,((cr s).2,(itP dD (mx0 (dr (cr s).1 5-1)).toNat (nx (cr s).1)).2))
def jC(s:Int):okS (thP s).1/\lj (thP s).2:=by
 obtain⟨a,b⟩:=h7 s;have e:=bn (cr s).1 (k:=5) (by decide)
 have g:0<=mx0 (dr (cr s).1 5-1)/\mx0 (dr (cr s).1 5-1)<=3:=by unfold mx0;split <;> lia
 obtain⟨c,d⟩:=gy (λs=>(h8 s).1) (mx0 _).toNat _ (aT _);refine⟨c,b,iD (λs=>(h8 s).2) _ _,?_⟩;show(itP dD _ _).2.length<=3;lia
def pG{v:Int}(h:f ρ=aa (.int v,ρ1))(a:0<=v)(b:v<=500):jt (ag f af) ρ=aa ((dG v.toNat).map (λ(i:Nat)=>D.int i),ρ1):=P5 (aC h rfl) (yD v a b)
def iG(v:Int):((dG v.toNat).map λ(i:Nat)=>D.int i).length=v.toNat:=by rw[cf,ic]
def rR(l:Addr)(s:Int)(r:okS s):m8 l [] [] [.int s]=aa ([.int (thP s).1],thD (thP s).2):=by
 obtain⟨a,_⟩:=h7 s;have n:=bn (cr s).1 (k:=5) (by decide)
 have j:0<=mx0 (dr (cr s).1 5-1)/\mx0 (dr (cr s).1 5-1)<=3:=by unfold mx0;split <;> lia
 have w:wp uO [.pin l [.int s],.no] (λo=>∃c,o=.rtS (thD (thP s).2) [.pin l [.int (thP s).1],c]):=by
  unfold uO thP;apply ay;refine bw (dY (toD:=sT) (λs h=>pB l s h) s _ r) ?_;generalize cr s=q at a n j
  have p:eR wR (ag (mX (kI 0)) (ag (mX2 jP (aE 0 m_0 (ag (mX (kI 5)) af)) (mX (kI 1))) af)) [.pin l [.int q.1],.im (.str (tx q.2))]=aa (.int (mx0 (dr q.1 5-1)),[.pin l [.int (nx q.1)],.im (.str (tx q.2))]):=by
   unfold eR;rw[aC (aA rfl) (aC (bv (cI l q.1 5 _ rfl a (by decide)) (aA rfl) tW) rfl)];rfl
  have g:=rO (toD:=sT) (λs h=>rQ l s h) (λs=>(h8 s).1) (aT q.1) (pG p j.1 (by lia)) (by rw[iG];lia);rw[iG]at g;exact bI (dq (aC (aA rfl) (aC g rfl))) ⟨_,rfl⟩
 obtain⟨o,e,c,rfl⟩:=w;exact eQ e rfl
abbrev j9(s:Int):Int×Ti:=if dr (thP s).1 2=0 then (nx (thP s).1,((thP s).2,1,ai)) else ((bu (nx (thP s).1)).1,((thP s).2,(if (bu (nx (thP s).1)).2<0 then -(bu (nx (thP s).1)).2 else (bu (nx (thP s).1)).2),ai))
def DU(s:Int):okS (j9 s).1/\lY (j9 s).2:=by
 obtain⟨a,b⟩:=jC s;obtain⟨c,d,e⟩:=pE _;unfold j9;split
 .exact⟨aT _,b,by show _<=1;decide,by show 1<10 ^ 30;decide⟩
 .refine⟨c,b,?_⟩;show 0<=(if (bu _).2<0 then -(bu _).2 else (bu _).2)/\(if (bu _).2<0 then -(bu _).2 else (bu _).2)<10 ^ 30
  split <;> lia
def Qe(l:Addr)(s:Int)(n:okS s):Cm l [] [] [.int s]=aa ([.int (j9 s).1],cP (j9 s).2):=by
 obtain⟨a,_⟩:=jC s
 have w:wp uP [.pin l [.int s],.no] (λo=>∃g,o=.rtS (cP (j9 s).2) [.pin l [.int (j9 s).1],g]):=by
  unfold uP j9;apply ay;refine bw (dY (λs h=>rR l s h) s _ n) ?_;generalize thP s=q at a;apply ay;refine fY (bxX (bv (cI l q.1 2 _ rfl a (by decide)) (aA rfl) (gv _ _))) (λe=>?_) λe=>bc ?_
  .have c:dr q.1 2=0:=by simpa using e
   rw[if_pos c];exact cS rfl ⟨_,rfl⟩
  .have c:¬dr q.1 2=0:=by simpa using e
   rw[if_neg c]
   have j:eR xf (ag (aE 0 o9 af) af) [.pin l [.int (nx q.1)],.im (thD q.2)]=aa (.int (if (bu (nx q.1)).2<0 then -(bu (nx q.1)).2 else (bu (nx q.1)).2),[.pin l [.int (bu (nx q.1)).1],.im (thD q.2)]):=by
    unfold eR;rw[aC (dY (λs h=>yG l s h) _ _ (aT _)) rfl];rfl
   exact bI (dq (aC (aA rfl) (aC j rfl))) ⟨_,rfl⟩
 obtain⟨o,e,g,rfl⟩:=w;exact eQ e rfl
abbrev rS(v:Int):Int:=if v=0 then 9 else 4
abbrev cE(s:Int):Int×List Ti:=itP j9 (1+dr (nx s) (rS (dr s 6))).toNat (nx (nx s))
def IZ(v:Int):0<rS v/\rS v<=9:=by unfold rS;split <;> decide
def rT(s:Int):okS (cE s).1/\(∀z∈(cE s).2,lY z)/\0<(cE s).2.length/\(cE s).2.length<=9:=by
 have h:=IZ (dr s 6);have d:=bn (nx s) h.1;obtain⟨c,e⟩:=gy (λs=>(DU s).1) (1+dr _ _).toNat _ (aT _);refine⟨c,iD (λs=>(DU s).2) _ _,?_⟩;show 0<(itP j9 _ _).2.length/\(itP j9 _ _).2.length<=9;lia
def yH(l:Addr)(s:Int)(p:okS s):m9 l [] [] [.int s]=aa ([.int (cE s).1],.lst ((cE s).2.map cP)):=by
 have h:=IZ (dr s 6);have d:=bn (nx s) h.1
 have w:wp xD [.pin l [.int s]] (λo=>o=.rtS (.lst ((cE s).2.map cP)) [.pin l [.int (cE s).1]]):=by
  have j:mX1 qL (mX2 dEq (aE 0 m_0 (ag (mX (kI 6)) af)) (mX (kI 0))) [.pin l [.int s]]=aa (.int (if dr s 6==0 then 1 else 0),[.pin l [.int (nx s)]]):=by
   unfold mX1;rw[bv (cI l s 6 _ rfl p (by decide)) (aA rfl) (gv _ _)];rfl
  have c:dU (.lst [.int 4,.int 9]) (.int (if dr s 6==0 then 1 else 0))=aa (.int (rS (dr s 6))):=by
   unfold rS
   by_cases e:dr s 6=0
   .rw[if_pos e,e];rfl
   .rw[if_neg e,if_neg (by simpa using e)];rfl
  have n:aE 0 m_0 (ag (mX2 dU (mX (aZ (aj (λ_=>aa _) (aj (λ_=>aa _) nZ)))) _) af) _=aa _:=
   iC rfl (aC (bv (aA rfl) j c) rfl) rfl (rL l _ _ (aT _) h.1)
  have g:=rO (λs h=>Qe l s h) (λs=>(DU s).1) (aT _) (pG (bv (aA (f:=λ_=>aa (.int 1)) rfl) n fX) (by lia) (by lia)) (by rw[iG];lia);rw[iG]at g;exact bI g rfl
 obtain⟨o,e,rfl⟩:=w;exact eQ e rfl
abbrev cU(s:Int):Int×(LN×LN):=((cr (iE s).1).1,((iE s).2,(cr (iE s).1).2))
def iH(s:Int):okS (cU s).1/\iF (cU s).2:=⟨(h7 _).1,(yF _).2,(h7 _).2⟩
def I0{α:Type}(F:Int->Int×α):∀(n:Nat) (s:Int),itP F (n+1) s=((F (itP F n s).1).1,(itP F n s).2++[(F (itP F n s).1).2])
 | 0,s=>rfl
 |n+1,s=>by
  show((itP F _ (F s).1).1,(F s).2::(itP F _ (F s).1).2)=_;rw[I0 F n (F s).1];rfl
def Qf(l:Addr)(s n:Int)(v:okS s)(r:0<=n/\n<=100):lh l [] [.int n] [.int s]=aa ([.int (itP cU n.toNat s).1],.lst ((itP cU n.toNat s).2.map prD)):=by
 have w:wp xE [.pin l [.int s],.im (.int n),.no,.no,.no] (λo=>∃c g,o=.rtS (.lst ((itP cU n.toNat s).2.map prD)) [.pin l [.int (itP cU n.toNat s).1],.im (.int n),.im (.lst ((itP cU n.toNat s).2.map prD)),c,g]):=by
  apply ay;refine kQ rfl ?_;apply ay;refine kU (dG n.toNat) (λi=>D.int i) (λpre ρ=>∃c g,ρ=[.pin l [.int (itP cU pre.length s).1],.im _,.own ((itP cU pre.length s).2.map prD),c,g]) ?_ ⟨_,_,rfl⟩ ?_ ?_
  .unfold ir;rw[show aj _ _ _=aa _ from rfl,aD,yD n r.1 (by lia)]
  .rintro pre x post ρ q ⟨c,g,rfl⟩;obtain⟨k1,k2⟩:=gy (λs=>(iH s).1) pre.length s v
   have u:pre.length<n.toNat:=by
    have:=congrArg ie q;rw[ic,aO,aQ]at this;lia
   have j:itP cU (pre++[x]).length s=((cU (itP cU pre.length s).1).1,(itP cU pre.length s).2++[(cU (itP cU pre.length s).1).2]):=by
    rw[aO];exact I0 cU pre.length s
   rw[j];generalize itP cU pre.length s=p at k1 k2;refine⟨_,rfl,?_⟩;apply ay;refine bw (dY (toD:=sT) (λs h=>IW l s h) p.1 _ k1) ?_;refine DR rfl (dq (aC (aA rfl) (aC (dY (toD:=sT) (λs h=>pB l s h) (iE p.1).1 _ (yF _).1) rfl))) rfl (by rw[cf];lia) ?_;refine⟨.im (.int x),.im (.str (tx (iE p.1).2)),?_⟩;rw[mh];rfl
  .rintro ρ ⟨c,g,rfl⟩;rw[ic];exact cS rfl ⟨c,g,rfl⟩
 obtain⟨o,e,c,g,rfl⟩:=w;exact eQ e rfl
abbrev eL(s:Int):Int×Pa:=((itP cU (dr (cE (bu (nx s)).1).1 3).toNat (nx (cE (bu (nx s)).1).1)).1,.ct (decide (dr s 2=0)) (bu (nx s)).2 (cE (bu (nx s)).1).2 (itP cU (dr (cE (bu (nx s)).1).1 3).toNat (nx (cE (bu (nx s)).1).1)).2)
def yI(s:Int):okS (eL s).1/\jB (eL s).2/\(eL s).2.unl=ai:=by
 obtain⟨a,b⟩:=pE _;obtain⟨c,d,e⟩:=rT (bu _).1;have h:=bn (cE (bu (nx s)).1).1 (k:=3) (by decide);obtain⟨f,g⟩:=gy (λs=>(iH s).1) (dr (cE (bu _).1).1 3).toNat _ (aT _);refine⟨f,⟨b,d,e,iD (λs=>(iH s).2) _ _,?_⟩,rfl⟩;lia
def rV(l:Addr)(n s:Int)(r:LS){c:Xe}(e:ρ[0]?=aa (.pin l xs))(g:c ρ=aa (.int n,.pin l [.int s]::r))(h:okS s)(j:0<=n/\n<=100):aE 0 lh (ag c af) ρ=aa (.lst ((itP cU n.toNat s).2.map prD),.pin l [.int (itP cU n.toNat s).1]::r):=iC (ρ1:=.pin l _::r) e (aC g rfl) rfl (Qf l s n h j)
def Ja(l:Addr)(s:Int)(u:okS s):xF l [] [] [.int s]=aa ([.int (eL s).1],(eL s).2.toD):=by
 have v:=bn s (k:=2) (by decide);obtain⟨a,_⟩:=pE _;obtain⟨c,_⟩:=rT (bu _).1;have p:=bn (cE (bu (nx s)).1).1 (k:=3) (by decide)
 have w:wp uQ [.pin l [.int s],.no,.no,.no] (λo=>∃g j n,o=.rtS (eL s).2.toD [.pin l [.int (eL s).1],g,j,n]):=by
  unfold uQ eL;apply ay
  have r:dU (.lst [.str "least",.str "most"]) (.int (dr s 2))=aa (.str (ctS (decide (dr s 2=0)))):=by
   have:dr s 2=0\/dr s 2=1:=by lia
   rcases this with e |e <;> (rw[e];rfl)
  refine bw (bv (aA rfl) (cI l s 2 _ rfl u (by decide)) r) ?_;apply ay;refine bw (dY (λs h=>yG l s h) _ _ (aT _)) ?_;generalize bu _=q at a c p;apply ay;refine bw (dY (toD:=λz=>.lst _) (λs h=>yH l s h) q.1 _ a) ?_;generalize cE q.1=z at c p;exact bI (dq (aC (aA rfl) (aC (aA rfl) (aC (aA rfl) (aC (rV l _ _ _ rfl (cI l z.1 3 _ rfl c (by decide)) (aT _) ⟨by lia,by lia⟩) rfl))))) ⟨_,_,_,rfl⟩
 obtain⟨o,e,g,j,n,rfl⟩:=w;exact eQ e rfl
abbrev lm(s:Int):Int×Pa:=
 if dr s 5<2 then eL (nx s)
 else if dr s 5=2 then ((dD (dD (nx s)).1).1,.un (dD (nx s)).2 (dD (dD (nx s)).1).2)
 else ((thP (nx s)).1,if dr s 5=3 then .is (thP (nx s)).2 else .no (thP (nx s)).2)
def DV(s:Int):okS (lm s).1/\jB (lm s).2:=by
 unfold lm;split
 .exact⟨(yI _).1,(yI _).2.1⟩
 .split
  .exact⟨(h8 _).1,(h8 _).2,(h8 _).2⟩
  .refine⟨(jC _).1,?_⟩;split
   .exact(jC _).2
   .exact(jC _).2
def Qg(l:Addr)(s:Int)(u:okS s):Cn l [] [] [.int s]=aa ([.int (lm s).1],(lm s).2.toD):=by
 have q:=bn s (k:=5) (by decide)
 have w:wp uR [.pin l [.int s],.no,.no] (λo=>∃n p,o=.rtS (lm s).2.toD [.pin l [.int (lm s).1],n,p]):=by
  unfold uR lm;apply ay;refine bw (cI l s 5 _ rfl u (by decide)) ?_;have g:=aT s;generalize nx s=s1 at g;generalize dr s 5=v at q;apply ay;refine br (bq (aH rfl rfl kW)) (λe=>?_) λe=>bc ?_
  .rw[if_pos (of_decide_eq_true e)];exact bI (dY (λs h=>Ja l s h) s1 _ g) ⟨_,_,rfl⟩
  rw[if_neg (of_decide_eq_false e)];have y:=of_decide_eq_false e;apply ay;refine br (bq (aH rfl rfl (gv _ _))) (λe=>?_) λe=>bc ?_
  .have j:v=2:=by simpa using e
   rw[if_pos j];apply ay;exact bw (dY (toD:=sT) (λs h=>rQ l s h) s1 _ g) (bI (dq (aC (aA rfl) (aC (aA rfl) (aC (dY (toD:=sT) (λs h=>rQ l s h) (dD s1).1 _ (h8 _).1) rfl)))) ⟨_,_,rfl⟩)
  have j:¬v=2:=by simpa using e
  rw[if_neg j]
  have r:mIx (aj (kSt "is") (aj (kSt "not") nZ)) (m2 jP (ah 1) (kI 3)) [.pin l [.int s1],.im (.int v),.no]=aa (.str (if v=3 then "is" else "not")):=by
   have:v=3\/v=4:=by lia
   rcases this with e |e <;> subst e <;> rfl
  refine bI (ρ1:=[.pin l _,.im (.int v),.no]) ((dq (aC (aA r) (aC (dY (λs h=>rR l s h) s1 _ g) rfl))).trans ?_) ⟨_,_,rfl⟩
  by_cases c:v=3
  .rw[if_pos c,if_pos c];rfl
  .rw[if_neg c,if_neg c];rfl
 obtain⟨o,e,n,p,rfl⟩:=w;exact eQ e rfl
abbrev d6(s:Int):Int×List Pa:=itP lm (dr s 4).toNat (nx s)
def DY(s:Int):okS (d6 s).1/\(∀p∈(d6 s).2,jB p)/\(d6 s).2.length<=3:=by
 have d:=bn s (k:=4) (by decide);obtain⟨c,e⟩:=gy (λs=>(DV s).1) (dr s 4).toNat _ (aT _);refine⟨c,iD (λs=>(DV s).2) _ _,?_⟩;show(itP lm _ _).2.length<=3;lia
def Jb(l:Addr)(s:Int)(g:okS s):xH l [] [] [.int s]=aa ([.int (d6 s).1],.lst ((d6 s).2.map Pa.toD)):=by
 have d:=bn s (k:=4) (by decide)
 have w:wp xG [.pin l [.int s]] (λo=>o=.rtS (.lst ((d6 s).2.map Pa.toD)) [.pin l [.int (d6 s).1]]):=by
  have c:=rO (λs h=>Qg l s h) (λs=>(DV s).1) (aT s) (pG (cI l s 4 [] (f:=λ_=>aa _) rfl g (by decide)) (by lia) (by lia)) (by rw[iG];lia);rw[iG]at c;exact bI c rfl
 obtain⟨o,e,rfl⟩:=w;exact eQ e rfl
abbrev vb(k:Int)(a b c:Pa):Pa:=if k=0 then a else if k=1 then b else c
abbrev Jc(s:Int):Int×Ro:=((itP cr (1+dr (cr s).1 12).toNat (nx (cr s).1)).1,.kind (cr s).2 (itP cr (1+dr (cr s).1 12).toNat (nx (cr s).1)).2)
abbrev DZ(bd:List Pa)(ps:List (LN×LN))(s:Int):Int×Ro:=
 (nx (thP (thP (eL (nx s)).1).1).1,.never (bd.take (dr s (bd.length+1)).toNat++[vb (dr (thP (thP (eL (nx s)).1).1).1 3) (eL (nx s)).2 (.is (thP (eL (nx s)).1).2) (.no (thP (thP (eL (nx s)).1).1).2)]++bd.drop (dr s (bd.length+1)).toNat) ps)
abbrev Jd(bd:List Pa)(ps:List (LN×LN))(s:Int):Int×Ro:=
 ((itP cU (dr (cE (bu (bu s).1).1).1 3).toNat (nx (cE (bu (bu s).1).1).1)).1,.choose (bu s).2 (bu (bu s).1).2 (cE (bu (bu s).1).1).2 (itP cU (dr (cE (bu (bu s).1).1).1 3).toNat (nx (cE (bu (bu s).1).1).1)).2 bd ps)
abbrev Qh(v:Int)(bd:List Pa)(ps:List (LN×LN))(s:Int):Int×Ro:=((thP s).1,.rule (decide (v % 2=0)) (thP s).2 bd ps)
abbrev vc(v:Int)(bd:List Pa)(ps:List (LN×LN))(s:Int):Int×Ro:=if v=0 then Jc s else if v<3 then DZ bd ps s else if v<5 then Jd bd ps s else Qh v bd ps s
abbrev ln(s:Int):Int×Ro:=vc (dr s 9) (d6 (nx s)).2 (itP cU (dr (d6 (nx s)).1 4).toNat (nx (d6 (nx s)).1)).2 (itP cU (dr (d6 (nx s)).1 4).toNat (nx (d6 (nx s)).1)).1
def Qi(v:Int)(bd:List Pa)(ps:List (LN×LN))(s:Int)(n:(∀p∈bd,jB p)/\bd.length<=3)(o:ll ps):okS (vc v bd ps s).1/\jb (vc v bd ps s).2:=by
 have h:gz bd:=⟨n.1,by lia⟩;unfold vc;split
 .have d:=bn (cr s).1 (k:=12) (by decide);obtain⟨c,e⟩:=gy (λs=>(h7 s).1) (1+dr (cr s).1 12).toNat _ (aT _);refine⟨c,(h7 s).2,iD (λs=>(h7 s).2) _ _,?_⟩;lia
 .split
  .obtain⟨H,u,y⟩:=yI _;obtain⟨t1,B⟩:=jC (eL _).1;obtain⟨J,E⟩:=jC (thP (eL _).1).1;unfold DZ;generalize A:vb _ (eL _).2 _ _=x
   have j:jB x/\x.unl=ai:=by
    rw[<- A];unfold vb;split
    .exact⟨u,y⟩
    .split
     .exact⟨B,rfl⟩
     .exact⟨E,rfl⟩
   refine⟨aT _,⟨λp z=>?_,?_⟩,⟨x,by simp,j.2⟩,o⟩
   .rcases dw.mp z with q |q
    .rcases dw.1 q with q |q
     .exact n.1 p (vI q)
     .rw[bR]at q;rw[q];exact j.1
    .exact n.1 p (mem_of_mem_drop q)
   .show(bd.take _++[x]++bd.drop _).length<=4;rw[aO,aO,f7,fA,f8];lia
  .split
   .obtain⟨G,r⟩:=pE s;obtain⟨b1,b2⟩:=pE (bu s).1;obtain⟨c,d,e⟩:=rT (bu (bu s).1).1;have I:=bn (cE (bu (bu s).1).1).1 (k:=3) (by decide);obtain⟨f,g⟩:=gy (λs=>(iH s).1) (dr (cE (bu (bu s).1).1).1 3).toNat _ (aT _);refine⟨f,⟨r,b2⟩,⟨d,e⟩,⟨iD (λs=>(iH s).2) _ _,?_⟩,h,o⟩;lia
   .exact⟨(jC s).1,(jC s).2,h,o⟩
def Qj(s:Int):okS (ln s).1/\jb (ln s).2:=by
 obtain⟨_,b⟩:=DY _;have c:=bn (d6 (nx s)).1 (k:=4) (by decide);obtain⟨f,g⟩:=gy (λs=>(iH s).1) (dr (d6 _).1 4).toNat _ (aT _);exact Qi _ _ _ _ b ⟨iD (λs=>(iH s).2) _ _,by rw[g];lia⟩
def Qk{α:Type}(f:α->D)(bd:List α)(v:Int)(h:0<=v/\v<=bd.length):((bd.drop (HT.sIx bd.length 0 ae)).take (HT.sIx bd.length bd.length (aa v)-HT.sIx bd.length 0 ae))=bd.take v.toNat/\((bd.drop (HT.sIx bd.length 0 (aa v))).take (HT.sIx bd.length bd.length ae-HT.sIx bd.length 0 (aa v)))=bd.drop v.toNat:=by
 obtain⟨n,rfl⟩:∃n:Nat,v=n:=⟨v.toNat,by lia⟩;have c:n<=bd.length:=by lia
 rw[HT.sIx_none,HT.sIx_none,HT.sIx_nat,HT.sIx_nat,Nat.min_eq_left c,drop_zero,Nat.sub_zero,nF];exact⟨rfl,sE (by rw[f8];lia)⟩
def Ql(l:Addr)(s:Int)(hs:okS s):yg l [] [] [.int s]=aa ([.int (ln s).1],(ln s).2.toD):=by
 have d9:=bn s (k:=9) (by decide);obtain⟨b1,b2,b3⟩:=DY (nx s);have d4:=bn (d6 (nx s)).1 (k:=4) (by decide);obtain⟨L,p2⟩:=gy (λs=>(iH s).1) (dr (d6 (nx s)).1 4).toNat (nx (d6 (nx s)).1) (aT _)
 have w:wp u6 [.pin l [.int s],.no,.no,.no,.no,.no,.no,.no,.no] (λo=>∃y A N O Q T U Y,o=.rtS (ln s).2.toD [.pin l [.int (ln s).1],y,A,N,O,Q,T,U,Y]):=by
  unfold u6 ln;apply ay;refine bw (cI l s 9 _ rfl hs (by decide)) ?_;generalize dr s 9=v at d9;apply ay;refine bw (dY (F:=d6) (toD:=λz=>.lst _) (λs h=>Jb l s h) _ _ (aT _)) ?_;generalize d6 _=B at *;apply ay;refine bw (rV l _ _ _ rfl (cI l B.1 4 _ rfl b1 (by decide)) (aT _) ⟨by lia,by lia⟩) ?_;generalize itP cU (dr B.1 4).toNat _=P at *;generalize j:D.lst _=u;generalize r:D.lst _=J;unfold vc;apply ay;refine br (bq (aH rfl rfl (gv _ _))) (λe=>?_) λe=>bc ?_
  .have e0:v=0:=by simpa using e
   rw[if_pos e0];unfold Jc;obtain⟨n1,_⟩:=h7 P.1;have d12:=bn (cr P.1).1 (k:=12) (by decide);apply ay;refine bw (dY (F:=cr) (toD:=sT) (λs h=>pB l s h) P.1 _ L) ?_;generalize cr P.1=q at n1 d12;have ec:=rO (F:=cr) (toD:=sT) (λs h=>pB l s h) (λs=>(h7 s).1) (tl:=[.im (.int v),.im u,.im J,.im (.str (tx q.2)),.no,.no,.no,.no]) (aT q.1) (pG (bv (aA (f:=λ_=>aa (.int 1)) rfl) (cI l q.1 12 _ (f:=λ_=>aa (.int 12)) rfl n1 (by decide)) fX) (by lia) (by lia)) (by rw[iG];lia);rw[iG]at ec;exact bI (dq (aC (aA rfl) (aC (aA rfl) (aC ec rfl)))) ⟨_,_,_,_,_,_,_,_,rfl⟩
  have e0:¬v=0:=by simpa using e
  rw[if_neg e0];apply ay;refine br (b:=decide (v<3)) (bq (aH rfl rfl kW)) (λe=>?_) λe=>bc ?_
  .rw[if_pos (of_decide_eq_true e)];unfold DZ;have da:=bn P.1 (k:=(B.2.length:Int)+1) (by lia);have E:dJ [u]=aa (.int (B.2.length:Nat)):=by subst j;show aa (D.int ((B.2.map Pa.toD).length:Int))=_;rw[cf]
   apply ay;refine bw (cI l P.1 ((B.2.length:Int)+1) _ (aH (bL rfl E) rfl fX) L (by lia)) ?_;have G:=aT P.1;generalize dr P.1 ((B.2.length:Int)+1)=at_ at da;generalize nx P.1=s1 at G;obtain⟨c1,_⟩:=yI s1;obtain⟨t1,_⟩:=jC (eL s1).1;obtain⟨u1,_⟩:=jC (thP (eL s1).1).1;apply ay;have lstX {f:Xa} {ρ ρ1:LS} {ds:LD} (h:f ρ=aa (ds,ρ1)):dT f ρ=aa (.lst ds,ρ1):=by unfold dT;rw[h];rfl
   refine bw (lstX (aC (dY (F:=eL) (toD:=Pa.toD) (λs h=>Ja l s h) s1 _ G) (aC (dq (aC (aA rfl) (aC (dY (F:=thP) (toD:=thD) (λs h=>rR l s h) (eL s1).1 _ c1) rfl))) (aC (dq (aC (aA rfl) (aC (dY (F:=thP) (toD:=thD) (λs h=>rR l s h) (thP (eL s1).1).1 _ t1) rfl))) rfl)))) ?_;generalize (eL s1).2=M at *;generalize thP (eL s1).1=p at *;generalize thP p.1=g at *;have d3:=bn g.1 (k:=3) (by decide)
   have e3:dU (.lst [M.toD,.tup [.str "is",thD p.2],.tup [.str "not",thD g.2]]) (.int (dr g.1 3))=aa (vb (dr g.1 3) M (.is p.2) (.no g.2)).toD:=by
    have:dr g.1 3=0\/dr g.1 3=1\/dr g.1 3=2:=by lia
    rcases this with e |e |e <;> (rw[e];rfl)
   generalize vb (dr g.1 3) M (.is p.2) (.no g.2)=x at e3;obtain⟨k1,k2⟩:=Qk Pa.toD B.2 at_ ⟨da.1,by lia⟩
   have s1':∀H I:Sl,aZ (mSl (ah 2) (λ_=>aa ae) (mPt (ah 5))) [H,.im (.int v),.im u,.im J,.no,.im (.int at_),I,.no,.no]=aa (.lst ((B.2.take at_.toNat).map Pa.toD)):=λH I=>by
    subst j;rw[<- k1];exact fm (qI rfl rfl rfl)
   have s2':∀H I:Sl,aZ (mSl (ah 2) (mPt (ah 5)) (λ_=>aa ae)) [H,.im (.int v),.im u,.im J,.no,.im (.int at_),I,.no,.no]=aa (.lst ((B.2.drop at_.toNat).map Pa.toD)):=λH I=>by
    subst j;rw[<- k2];exact fm (qI rfl rfl rfl)
   have n:∀a b:LD,a.length+b.length<=1000->bB (.lst a) (.lst b)=aa (.lst (a++b)):=λa b h=>by
    show(if a.length+b.length<=16777216 then aa (D.lst (a++b)) else ae)=_;rw[if_pos (by lia)]
   refine bI (dq (aC (aA rfl) (aC (bv (bv (aA (s1' _ _)) (lstX (aC (bv (aA rfl) (cI l g.1 3 _ rfl u1 (by decide)) e3) rfl)) (n _ _ ?_)) (aA (s2' _ _)) (n _ _ ?_)) (aC (aA rfl) rfl)))) ?_
   .rw[cf,fA,f7];lia
   .rw[aO,cf,cf,fA,f8,f7];lia
   .subst r;refine⟨.im (.int v),.im u,.im (.lst (P.2.map prD)),.no,.im (.int at_),.im (.lst [M.toD,.tup [.str "is",thD p.2],.tup [.str "not",thD g.2]]),.no,.no,?_⟩;show Fl.rtS (.tup [.str "never",.lst _,.lst (P.2.map prD)]) _=Fl.rtS (.tup [.str "never",.lst (List.map Pa.toD (_++[x]++_)),.lst (P.2.map prD)]) _;rw[mh,mh];rfl
  rw[if_neg (of_decide_eq_false e)];apply ay;refine br (b:=decide (v<5)) (bq (aH rfl rfl kW)) (λe=>?_) λe=>bc ?_
  .rw[if_pos (of_decide_eq_true e)];unfold Jd;obtain⟨y,_⟩:=pE P.1;obtain⟨A,_⟩:=pE (bu P.1).1;obtain⟨c,_⟩:=rT (bu (bu P.1).1).1;have d3:=bn (cE (bu (bu P.1).1).1).1 (k:=3) (by decide);apply ay;refine bw (dY (F:=bu) (toD:=D.int) (λs h=>yG l s h) P.1 _ L) ?_;generalize bu P.1=p at *;apply ay;refine bw (dY (F:=bu) (toD:=D.int) (λs h=>yG l s h) p.1 _ y) ?_;generalize bu p.1=g at *;apply ay;refine bw (dY (F:=cE) (toD:=λz=>.lst (z.map cP)) (λs h=>yH l s h) g.1 _ A) ?_;generalize cE g.1=z at *;subst j r;exact bI (dq (aC (aA rfl) (aC (aA rfl) (aC (aA rfl) (aC (aA rfl) (aC (rV l (dr z.1 3) (nx z.1) _ rfl (cI l z.1 3 _ rfl c (by decide)) (aT _) ⟨by lia,by lia⟩) (aC (aA rfl) (aC (aA rfl) rfl)))))))) ⟨_,_,_,_,_,_,_,_,rfl⟩
  rw[if_neg (of_decide_eq_false e)]
  have ei:mIx (aj (kSt "rule") (aj (kSt "may") nZ)) (m2 il (ah 1) (kI 2)) [.pin l [.int P.1],.im (.int v),.im u,.im J,.no,.no,.no,.no,.no]=aa (.str (ruS (decide (v % 2=0)))):=by
   refine cb rfl (aH rfl rfl (lK (by decide))) ?_;have:v % 2=0\/v % 2=1:=by lia
   rcases this with e |e <;> (rw[e];rfl)
  subst j r;exact bI (dq (aC (aA ei) (aC (dY (F:=thP) (toD:=thD) (λs h=>rR l s h) P.1 _ L) (aC (aA rfl) (aC (aA rfl) rfl))))) ⟨_,_,_,_,_,_,_,_,rfl⟩
 obtain⟨o,e,y,A,N,O,Q,T,U,Y,rfl⟩:=w;exact eQ (ρ:=[.pin l [.int (ln s).1],y,A,N,O,Q,T,U,Y]) e rfl
def Je(a b:LN)(h:a.length+b.length<=100000):bB (.str (tx a)) (.str (tx b))=aa (.str (tx (a++b))):=by
 show(if (tx a).length+(tx b).length<=16777216 then aa _ else ae)=_;rw[c5,c5,if_pos (by lia),pA]
def Qm(a b:LN)(h:a.length+b.length<=100000):oM (.str (tx a)) (.str (tx b))=aa (.str (tx (a++b))):=by
 show(if (tx a).length+(tx b).length<=16777216 then aa _ else ae)=_;rw[c5,c5,if_pos (by lia),pA]
def yJ{w:LN}(h:cO w=ac):0<w.length/\w.length<=8:=by
 unfold cO at h;rw[jH]at h
 rcases h with h |h
 .unfold dZ at h;rw[cq]at h;obtain⟨c,e⟩:=h;unfold made at c e;simp only[cq,jH,decide_eq_true_eq,f8]at c e;lia
 .unfold bz made at h;simp only[cq,decide_eq_true_eq]at h;lia
def yK{w:LN}(h:bz w=ac):0<w.length/\w.length<=8:=yJ (by unfold cO;rw[h,md])
def Jf{w:LN}(h:dZ w=ac):0<w.length/\w.length<=8:=yJ (by unfold cO;rw[h];rfl)
def cmT:(",":Str)=tx [44]:=by decide +kernel
def opT:("(":Str)=tx [40]:=by decide +kernel
def clT:(")":Str)=tx [41]:=by decide +kernel
variable{f:MF1}
def pH{g:MF1}{a b:LD}(h:f ρ=aa (.lst a))(h':g ρ=aa (.lst b))(c:a.length+b.length<=16777216):gL f g ρ=aa (a++b):=by
 unfold gL;rw[h,h'];show(if a.length+b.length<=16777216 then aa _ else ae)=_;rw[if_pos c]
abbrev bE(n:Int):LN:=(Str.ofString (sR n)).cps.toList
def Qn(n:Int):Str.ofString (sR n)=tx (bE n):=(nj _).symm
def vd(m:Nat):bE (-((m+1:Nat):Int))=45::bE ((m+1:Nat):Int):=by
 rfl
def yL(m:Nat)(h:(m:Int)<10 ^ 30):0<(bE (m:Int)).length/\(bE (m:Int)).length<=30:=by
 have e:(Str.ofString _).length=(bE m).length:=rfl;refine⟨?_,by rw[<- e];exact(toString_length_le (by lia) (by decide) h)⟩;unfold bE;rw[W.KIN.signs_num,cf];exact mf.mpr Nat.toDigits_ne_nil
variable{n:Int}
def yM(h:eJ n):0<(bE n).length/\(bE n).length<=31:=by
 obtain⟨g,c⟩:=h
 by_cases e:0<=n
 .obtain⟨m,rfl⟩:∃m:Nat,n=m:=⟨n.toNat,by lia⟩;have:=yL m c;lia
 .obtain⟨m,rfl⟩:∃m:Nat,n=-((m+1:Nat):Int):=⟨(-n).toNat-1,by lia⟩;have:=yL (m+1) (by lia);rw[vd,aQ];lia
def Qo(h:eJ n):n.natAbs.log2<1920:=by
 obtain⟨g,j⟩:=h
 have e:n.natAbs<2 ^ 100:=by
  lia
 by_cases c:n.natAbs=0
 .rw[c];decide
 .have:=(Nat.log2_lt c).mpr e;lia
def D0(h:eJ n):jV (.int n)=aa (.str (tx (bE n))):=by
 show(if n.natAbs.log2<1920 then aa _ else ae)=_;rw[if_pos (Qo h),Qn]
abbrev cw(z:Str):LN:=z.cps.toList
def cwT(z:Str):z=tx (cw z):=(nj z).symm
def cwD(z:Str):D.str z=sT (cw z):=by show D.str z=D.str (tx (cw z));rw[<- cwT]
open PySem.Builtin PySem.Builtin.Str
abbrev spr(c:Nat)(l:LN):LN:=l.flatMap λx=>if x=c then [32,c,32] else [x]
def Jg(c:Nat)(a b:LN):spr c (a++b)=spr c a++spr c b:=by unfold spr;rw[flatMap_append]
def D1(c:Nat):∀l:LN,c∉l->spr c l=l
 | [],_=>rfl
 |k::r,h=>by
  obtain⟨j,o⟩:=not_or.mp (λe=>h (bC.mpr e));have g:=D1 c r o;unfold spr at g ⊢;rw[flatMap_cons,if_neg (eM j),g];rfl
def rW(c:Nat):∀l:LN,(spr c l).length<=3*l.length
 | []=>bN _
 |k::r=>by
  have e:=rW c r;unfold spr at e ⊢;rw[flatMap_cons,aO,aQ]
  split <;> (simp only[aQ,iN];lia)
def Qp(c:Nat):(wW c).cps.toList=[32,c,32]:=rfl
def Jh(c:Nat):∀e:LSt,(∀p∈e,c∉p.cps.toList)->spr c (kj ⟨#[c]⟩ e).cps.toList=(kj (wW c) e).cps.toList
 | [],_=>rfl
 | [p],h=>D1 c _ (h p (bR.mpr rfl))
 |p::q::r,h=>by
  show spr c (p++⟨#[c]⟩++kj ⟨#[c]⟩ _).cps.toList=(p++wW c++kj _ _).cps.toList;simp only[Array.toList_append,Str.cps_append];rw[Jg,Jg,(Jh c _ λa g=>h a (bQ _ g)),D1 c _ (h p (be ..)),Qp];have:spr c [c]=[32,c,32]:=by unfold spr;simp
  rw[this]
def ve(l:LN)(c:Nat):fo (tx l) c=tx (spr c l):=by
 rw[<- nj (fo _ c)];unfold fo;rw[StrLaws.replace_one,<- Jh c _ (zQ _ c),zR]
abbrev d7(c:Nat):LN->LN->L2N
 | [],cur=>[cur]
 |x::r,cur=>if x=c then cur::d7 c r [] else d7 c r (cur++[x])
def D2(c:Nat):∀(p r e:LN),c∉p->d7 c (p++r) e=d7 c r (e++p)
 | [],r,e,_=>by rw[qe,cM]
 |k::p,r,e,h=>by
  rw[nJ,d7,if_neg ((ne_of_not_mem_cons h).symm),(D2 c p r _ λm=>h (bQ _ m)),c7];rfl
def yN(c:Nat):∀e:LSt,e≠[]->(∀p∈e,c∉p.cps.toList)->d7 c (kj ⟨#[c]⟩ e).cps.toList []=e.map λp=>p.cps.toList
 | [],h,_=>absurd rfl h
 | [p],_,h=>by
  have:=D2 c p.cps.toList [] [] (h p (bR.mpr rfl));rw[cM,qe]at this
  exact this
 |p::q::r,_,h=>by
  show d7 c (p++⟨#[c]⟩++kj ⟨#[c]⟩ _).cps.toList []=_;simp only[Str.cps_append,Array.toList_append,c7];rw[D2 c _ _ _ (h p (be ..)),qe];show d7 c (c::(kj ⟨#[c]⟩ _).cps.toList) p.cps.toList=_;rw[d7,if_pos rfl,(yN c _ (by simp) λa g=>h a (bQ _ g))];rfl
def Ji(x y:Str):lE x y≠[]:=by
 unfold lE;split
 .simp
 .split
  .simp
  .rw[StrLaws.partsBetween_eq];obtain⟨p,r,e⟩:=StrLaws.partsFrom_ne x y.length 0 _;rw[e];simp
def Qq(l:LN):lE (tx l) (" ":Str)=(d7 32 l []).map tx:=by
 have e:(" ":Str)=⟨#[32]⟩:=rfl;rw[e];have h:=yN 32 _ (Ji _ _) (zQ (tx l) 32);rw[zR]at h;rw[h,map_map]
 conv=>lhs;rw[<- map_id (lE _ ⟨#[32]⟩)]
 apply vJ;intro p _;exact(nj p).symm
def Jj(x y:Str):(w5 x y).length<=x.length+2:=by
 unfold w5 partsBetween;have c:=StrLaws.occ_length_le x y 0 x.length (x.length+1);simp only[cf,length_zip,aQ];lia
def Qr(l:LN)(h:l.length<=1000000):lO (.str (tx l)) (.str " ")=aa (.lst ((d7 32 l []).map λw=>.str (tx w))):=by
 unfold lO;dsimp only;have:=Jj (tx l) (" ":Str);rw[c5]at this;rw[if_pos ⟨by decide,by rw[c5];lia,by lia⟩,Qq,map_map];rfl
abbrev gl(x:Nat):Bool:=x==40 || x==41 || x==44
abbrev fl(c:LN):L2N:=if c=[] then [] else [c]
abbrev ws:LN->LN->L2N
 | [],cur=>fl cur
 |x::r,cur=>if x=32 then fl cur++ws r [] else if gl x=ac then fl cur++[x]::ws r [] else ws r (cur++[x])
abbrev ka(l:LN):LN:=spr 44 (spr 41 (spr 40 l))
def Qs(x:Nat)(r:LN):ka (x::r)=(if gl x=ac then [32,x,32] else [x])++ka r:=by
 unfold ka
 congr 1
 by_cases c:x=40
 .subst c;rfl
 .by_cases e:x=41
  .subst e;rfl
  .by_cases g:x=44
   .subst g;rfl
   .have h:gl x=ai:=by simp[gl,c,e,g]
    rw[h];simp[spr,c,e,g]
def yO:∀(l c:LN),(d7 32 (ka l) c).filter (λw=>!decide (w=[]))=ws l c
 | [],c=>by
  show([c]:List _).filter _=fl c;unfold fl
  by_cases h:c=[] <;> simp[h]
 |x::r,c=>by
  have e:∀z,(c::z).filter (λw=>!decide (w=[]))=fl c++z.filter (λw=>!decide (w=[])):=λz=>by
   unfold fl
   by_cases h:c=[] <;> simp[h]
  rw[Qs];unfold ws
  by_cases h:x=32
  .subst h;rw[if_pos rfl,if_neg (by decide)];show(d7 32 (32::ka r) c).filter _=_;rw[d7,if_pos rfl,e,yO r []]
  .rw[if_neg h]
   by_cases g:gl x=ac
   .rw[if_pos g,if_pos g];show(d7 32 (32::x::32::ka r) c).filter _=_;rw[d7,if_pos rfl,e,d7,if_neg h,d7,if_pos rfl];show _++([x]::d7 32 _ []).filter _=_;rw[filter_cons,if_pos (by simp),yO r []]
   .rw[if_neg g,if_neg g];show(d7 32 (x::ka r) c).filter _=_;rw[d7,if_neg h,yO r _]
def Qt(l:LN):(ka l).length<=27*l.length:=by
 have c:=rW 40 l;have e:=rW 41 (spr 40 l);have g:=rW 44 (spr 41 (spr 40 l));unfold ka;lia
abbrev plain(w:LN):Prop:=∀x∈w,x≠32/\gl x=ai
def kc:∀(w r c:LN),plain w->ws (w++r) c=ws r (c++w)
 | [],r,c,_=>by rw[qe,cM]
 |x::w,r,c,h=>by
  have e:=h x (be ..);rw[nJ,ws,if_neg e.1,if_neg (by rw[e.2];decide),(kc w r _ λy g=>h y (bQ _ g)),c7];rfl
def vf:∀(n:Nat) (r:LN),ws (cQ n 32++r) []=ws r []
 | 0,r=>rfl
 |n+1,r=>by
  rw[replicate_succ,nJ,ws,if_pos rfl,vf n r];rfl
def lZ(n:Nat)(r c:LN):ws (cQ (n+1) 32++r) c=fl c++ws r []:=by
 rw[replicate_succ,nJ,ws,if_pos rfl,vf n r]
def lq{x:Nat}(r c:LN)(h:gl x=ac):ws (x::r) c=fl c++[x]::ws r []:=by
 have g:¬x=32:=λe=>by subst e;nomatch h
 rw[ws,if_neg g,if_pos h]
abbrev wD(ws:L2N):LD:=ws.map λw=>.str (tx w)
def Qu(l:LN)(h:l.length<=37000):wp yd [.im (.str (tx l)),.no,.no] (λo=>o=.rtO (wD (ws l []))):=by
 have y:=rW 40 l;have z:=rW 41 (spr 40 l);have A:=Qt l
 have hok:wX (tx l) [40,41,44]=ac:=by
  show((decide (4*(tx l).length+3<=16777216)) && ((decide (4*(fo _ 40).length+3<=16777216)) && ((decide (4*(fo _ 41).length+3<=16777216)) && ac)))=ac;rw[ve,ve,c5,c5,c5,decide_eq_true (by lia),decide_eq_true (by lia),decide_eq_true (by lia)];rfl
 have q:wZ 1 2 "()," (ah 0) [.im (.str (tx l)),.no,.no]=aa (.nx [.im (.str (tx l)),.im (.str (tx (ka l))),.im (.str ⟨#[44]⟩)]):=by
  show(if wX _ [40,41,44]=ac then _ else ae)=_;rw[if_pos hok];show aa (Fl.nx [.im _,.im (.str (fo _ 44)),.im _])=_;rw[ve,ve,ve];rfl
 apply ay;refine i5 q ?_;refine NI ?_ rfl;rw[<- yO l []]
 have u:∀(r c:LN),(d7 32 r c).length<=r.length+1:=by
  intro r
  induction r with
  |nil=>intro c;exact bN _
  |cons x r j=>
   intro c;unfold d7;split
   .have:=j [];simp only[aQ];lia
   .have:=j (c++[x]);simp only[aQ];lia
 have v:=u (ka l) [];refine Gr _ _ _ _ (tT (aH rfl rfl (Qr _ (by lia))) rfl) (by lia) λw _=>?_
 have p:((tx w)==("":Str))=decide (w=[]):=by
  by_cases g:w=[]
  .subst g;rfl
  .rw[decide_eq_false g]
   cases e:(_==("":Str))with
   |false=>rfl
   |true=>exact absurd (ja ((eq_of_beq e).trans (rfl))) g
 exact(AI rfl (bq (aH rfl rfl (by rw[Gu,p]))) λ_=>rfl)
def yP(l:LN)(h:l.length<=37000):lW [.str (tx l)]=aa (.lst (wD (ws l []))):=by
 obtain⟨o,e,rfl⟩:=Qu l h;exact Nq e
open NumText PySem.Builtin PySem.Builtin.Str
abbrev dgL:LN:=("0123456789":Str).cps.toList
def pI(x:Nat):x∈dgL↔48<=x/\x<=57:=by
 have e:dgL=[48,49,50,51,52,53,54,55,56,57]:=rfl;rw[e];simp only[bC,iM,or_false];omega
abbrev fgs(w:LN):LN:=if w.head?=aa 45 then w.tail else w
abbrev fz(w:LN):Bool:=if w==[48] then ac else made (fgs w) dgL 30 && !decide ((fgs w).head?=aa 48)
nonrec abbrev asc(w:LN):Prop:=w.all (· < 128)=ac
def Qv{w:LN}(h:asc w):(tx w).cps.all (· < 128)=ac:=by
 simpa using h
def Jk(x:Nat)(c:LN):inS ⟨#[x]⟩ (tx c)=decide (x∈c):=StrLaws.found_one _ x
def Jl(w:LN)(h:w.length<=1000):dJ [.str (tx w)]=aa (.int (w.length:Int)):=by
 show(if (tx w).length<=16777216 then aa _ else ae)=_;rw[c5,if_pos (by lia)]
def Qw{w:LN}(h:f ρ=aa (.str (tx w)))(c:asc w):qP f ρ=aa (w.map λx=>D.str ⟨#[x]⟩):=by
 unfold qP;rw[h,aD];show(if (tx w).cps.all (· < 128)=ac then aa _ else ae)=_;rw[if_pos (Qv c)]
def Jm(bs:List Bool):mM [.lst (bs.map D.bl)]=aa (.bl (bs.all id)):=by
 have:∀l:List Bool,jR (l.map D.bl)=aa l:=by
  intro l
  induction l with
  |nil=>rfl
  |cons a l c=>rw[jd];unfold jR;rw[c];rfl
 show((jR _).map λbs=>D.bl _)=_;rw[this];rfl
def yQ(w c:LN)(most:Nat)(o:w.length<=1000)(e:asc w):rl [.str (tx w),.str (tx c),.int (most:Int)]=aa (.bl (made w c most)):=by
 apply jo;show wp _ [.im _,.im _,.im _] _;refine mQ ?_ (jS rfl);refine oB ?_ ?_
 .have:=NP (f:=λ_=>aa (.int 1)) (g:=aS dJ (aj (ah 0) nZ)) (h:=ah 2) (ρ:=[.im _,.im (.str (tx c)),.im (.int most)]) rfl (bL rfl (Jl w o)) AM rfl AM;rw[this]
  congr 3 <;> exact decide_eq_decide.mpr (by lia)
 .have j:fh 1 [1] (qP (ah 0)) (bZ 0) kY (m2 mW (ah 0) (ah 1)) [.im (.str (tx w)),.im (.str (tx c)),.im (.int most)]=aa ((w.map λx=>decide (x∈c)).map D.bl):=by
   rw[map_map];exact tQ w _ (λx=>D.bl _) (Qw rfl e) (by lia) λx _=>tS rfl rfl (aH rfl rfl (show aa _=_ by rw[Jk]))
  refine bL (aV (fm j) rfl) ?_;rw[Jm,all_map];rfl
def Qx(w:LN):jm (.str (tx w)) (.kt (kpS.map D.str))=aa (.bl (!kept w)):=by
 show aa (D.bl (!((kpW.map λw=>D.str (tx w)).any λd=>eqX d _)))=_;rw[any_map]
 congr 3
 refine congrArg _ (funext λk=>?_);show(tx k==tx w)=_;apply kf.mpr;rw[beq_iff_eq,beq_iff_eq];exact⟨ja,λe=>by rw[e]⟩
def Jn(w:LN)(e:w.length<=1000)(c:asc w):xQ [.str (tx w)]=aa (.bl (bz w)):=by
 apply jo;exact mQ (oB (yQ w smL 8 e c) (aH rfl rfl (Qx w))) (jS rfl)
def Jo(w:LN)(i:Int)(h:0<=i/\i<=w.length):gV (tx w) (aa i) ae=tx (w.drop i.toNat):=by
 have:=StrLaws.sliceText_from (x:=tx w) ⟨h.1,h.2⟩;show StrLaws.sliceText _ _ ae=_;rw[this]
 congr 2
 show(w.drop i.toNat).take _=_;rw[sE (by rw[f8];show _<=(w.length-i).toNat;lia)]
def Qy(w:LN)(i:Int)(h:(w.length:Int)<=i):gV (tx w) (aa i) ae=tx (w.drop i.toNat):=by
 have e:zH (aa i) ae 1 (tx w).length=zH (aa ((tx w).length:Int)) ae 1 (tx w).length:=by
  have p:=c5 w;have g:¬i<0:=by lia
  have j:¬(((tx w).length:Nat):Int)<0:=by lia
  have o:min i (((tx w).length:Nat):Int)=((tx w).length:Nat):=by lia
  simp[zH,g,j,o]
 have c:gV (tx w) (aa i) ae=gV (tx w) (aa w.length) ae:=by
  unfold gV;rw[e,c5]
 rw[c,Jo w _ ⟨by lia,by lia⟩,drop_of_length_le (by lia),drop_of_length_le (by lia)]
def Jp(w:LN)(i:Int)(h:0<=i):gV (tx w) (aa i) ae=tx (w.drop i.toNat):=by
 by_cases hi:i<=w.length
 .exact Jo w i ⟨h,hi⟩
 .exact Qy w i (by lia)
def Qz(w:LN)(j:Int)(h:0<=j/\j<=w.length):gV (tx w) ae (aa j)=tx (w.take j.toNat):=by
 have:=StrLaws.sliceText_to (x:=tx w) ⟨h.1,h.2⟩;show StrLaws.sliceText _ ae _=_;rw[this];simp
def QA(w:LN):gV (tx w) ae (aa 1)=tx (w.take 1):=by
 cases w with
 |nil=>rfl
 |cons a w=>exact Qz _ 1 ⟨by decide,by rw[aQ];lia⟩
def QB(w:LN)(lo hi:Option Int)(h:w.length<=1000):mY (.str (tx w)) lo hi=aa (.str (gV (tx w) lo hi)):=by
 show(if (tx w).length<=16777216 then aa _ else ae)=_;rw[c5,if_pos (by lia)]
variable{h:LS->Option (Option Int)}
def D3{l:LS->Option (Option Int)}{w:LN}{lo hi:Option Int}{r:Str}(c:f ρ=aa (.str (tx w)))(e:l ρ=aa lo)(g:h ρ=aa hi)(o:w.length<=1000)(j:gV (tx w) lo hi=r):oO f l h ρ=aa (.str r):=by
 unfold oO;rw[c,aD,e,aD,g,aD,QB w lo hi o,j]
def D4{a b:LN}(h:asc b)(c:a ⊆ b):asc a:=all_eq_true.mpr λx e=>all_eq_true.mp h x (c e)
def yR(w:LN)(c:w.length<=1000)(g:asc w):rn [.str (tx w)]=aa (.bl (dZ w)):=by
 apply jo;refine mQ (oB ?_ (AH ?_ ?_)) (jS rfl)
 .exact bL (aV (D3 rfl rfl rfl c (QA w)) (aV rfl (aV rfl rfl))) (yQ _ grL 1 (by rw[fA];lia) (D4 g (take_subset _ _)))
 .refine aH (bL rfl (Jl w c)) rfl ((gv _ _).trans ?_)
  congr 2
  by_cases e:w.length=1
  .rw[e];rfl
  .rw[decide_eq_false e];exact beq_eq_false_iff_ne.mpr (by lia)
 .exact bL (aV (D3 rfl rfl rfl c (Jp w 1 (by decide))) (aV rfl (aV rfl rfl))) (yQ _ smL 7 (by rw[f8];lia) (D4 g (drop_subset _ _)))
def Jq(w:LN)(x:Nat):vY (tx w) ⟨#[x]⟩=decide (w.head?=aa x):=by
 unfold vY
 cases w with
 |nil=>rfl
 |cons a w=>
  rw[StrLaws.subAt_eq];show(decide (0+1<=(tx _).length) && (((a::w).drop 0).take 1==[x]))=_;rw[c5,decide_eq_true (by simp)]
  by_cases e:a=x
  .subst e;simp
  .simp[e]
def vg(w:LN)(j:w.length<=1000)(g:asc w):pd [.str (tx w)]=aa (.bl (fz w)):=by
 apply jo;unfold xV fz
 have c:((tx w)==("0":Str))=(w==[48]):=by
  by_cases h:w=[48]
  .subst h;rfl
  .rw[beq_eq_false_iff_ne.mpr h];exact beq_eq_false_iff_ne.mpr λe=>h (ja (e.trans (rfl)))
 apply ay;refine br (bq (aH rfl rfl ((AF _ _).trans (by rw[c])))) (λh=>?_) (λh=>?_)
 .rw[h];exact mQ rfl (jS rfl)
 .rw[h];refine bc ?_;apply ay;refine gj (d:=.str (tx (fgs w))) (GH (gK (aH rfl rfl (congrArg (λb=>aa _) (Jq w 45))) rfl) (λe=>?_) (λe=>?_)) ?_
  .have e:=of_decide_eq_true e;unfold fgs;rw[if_pos e];refine D3 rfl rfl rfl j ((Jp w 1 (by decide)).trans ?_)
   cases w <;> rfl
  .have e:=of_decide_eq_false e;unfold fgs;rw[if_neg e];rfl
  .show wp _ _ _
   have fl:(fgs w).length<=w.length/\fgs w ⊆ w:=by
    unfold fgs;split
    .exact⟨by rw[length_tail];lia,λ_ h=>mem_of_mem_tail h⟩
    .exact⟨bN _,λ_ h=>h⟩
   exact mQ (oB (yQ _ dgL 30 (by lia) (D4 g fl.2)) (Gw (aH rfl rfl (congrArg (λb=>aa _) (Jq _ 48))))) (jS rfl)
open NumText PySem.Builtin PySem.Builtin.Str
abbrev nz(e:LN):LN:=match e.dropWhile (·==48)with
 | []=>[48]
 |c::r=>c::r
variable{cs:LN}
def QC(h:lX dgL cs=ac):∀x∈nz cs,48<=x/\x<=57:=by
 intro x c;unfold nz at c;split at c
 .rw[bR.mp c];decide
 .rename_i e;have:x∈cs.dropWhile (·==48):=by rw[e];exact c
  exact(pI x).mp (of_decide_eq_true (all_eq_true.mp h x ((dropWhile_sublist _).subset this)))
def Jr(h:lX dgL cs=ac):(Nat.toDigits 10 (digitsVal cs)).map Char.toNat=nz cs:=by
 rw[toDigits_all cs (λx g=>(pI x).mp (of_decide_eq_true (all_eq_true.mp h x g)))];have nd:=QC h;unfold nz at nd ⊢;split
 .rename_i e;rw[e];rfl
 .rename_i c r e;rw[e]at nd ⊢;rw[map_map]
  conv=>rhs;rw[<- map_id (c::r)]
  apply vJ;intro x g;have:=nd x g;have j:∀y:Fin 58,(Char.ofNat y.val).toNat=y.val:=by decide
  exact j ⟨x,by lia⟩
abbrev dig(m:Nat):LN:=(Nat.toDigits 10 m).map Char.toNat
def nl(m:Nat):bE ((m:Nat):Int)=dig m:=W.KIN.signs_num m
def rX(m:Nat):AllDigits (dig m):=by
 intro c e;obtain⟨ch,g,rfl⟩:=mem_map.mp e;exact digit_range (Nat.isDigit_of_mem_toDigits (by decide) (by decide) g)
def D5(m:Nat):lX dgL (dig m)=ac:=all_eq_true.mpr λx c=>decide_eq_true ((pI x).mpr (rX m x c))
def yS(m:Nat):digitsVal (dig m)=m:=W.KIN.val_back m
def QD(m:Nat):dig m=nz (dig m):=by
 have:=Jr (D5 m);rw[yS]at this;exact this
def Js(m:Nat)(h:dig m≠[48]):(dig m).head?≠aa 48:=by
 have e:=QD m;unfold nz at e;split at e
 .exact absurd e h
 .rename_i c r hd;rw[e];intro z;have g:c=48:=by simpa using z
  have:=head_dropWhile_not (p:=λx:Nat=>x==48) (by rw[hd];simp);simp only[hd,head_cons]at this;rw[g]at this;exact absurd this (by decide)
def Jt(m:Nat):dig m≠[]:=by
 unfold dig;simp[Nat.toDigits_ne_nil]
def yT(h:eJ n):fz (bE n)=ac:=by
 obtain⟨p,g⟩:=h
 by_cases o:0<=n
 .obtain⟨m,rfl⟩:∃m:Nat,n=m:=⟨n.toNat,by lia⟩;have l:=yL m g;rw[nl]at l ⊢;unfold fz
  by_cases e:dig m=[48]
  .rw[e];rfl
  .rw[if_neg (by simpa using e)]
   have c:fgs (dig m)=dig m:=by
    refine if_neg λz=>?_;have:=rX m 45 (mem_of_mem_head? z);lia
   rw[c,decide_eq_false (Js m e)];unfold made;rw[D5,decide_eq_true (show 1<=(dig m).length by lia),decide_eq_true l.2];rfl
 .obtain⟨m,rfl⟩:∃m:Nat,n=-((m+1:Nat):Int):=⟨(-n).toNat-1,by lia⟩;have l:=yL (m+1) (by lia);rw[vd];rw[nl]at l ⊢;unfold fz;have c:fgs (45::dig _)=dig (m+1):=rfl
  have j:dig _≠[48]:=λe=>by
   have:=yS (m+1);rw[e]at this;exact absurd this (by show ¬0=m+1;lia)
  rw[c,decide_eq_false (Js _ j)];unfold made;rw[D5,decide_eq_true (show 1<=(dig _).length by lia),decide_eq_true l.2];rfl
def Ju(h:eJ n):xb (.str (tx (bE n)))=aa (.int n):=by
 have l:=yM h;show(if (tx _).length<=640 then (vT _).map D.int else ae)=_;rw[c5,if_pos (by lia)]
 by_cases c:0<=n
 .obtain⟨m,rfl⟩:∃m:Nat,n=m:=⟨n.toNat,by lia⟩;rw[nl]at l ⊢;rw[intText_digits (rX m) (Jt m) (by rw[c5];lia)];show aa _=_;rw[yS]
 .obtain⟨m,rfl⟩:∃m:Nat,n=-((m+1:Nat):Int):=⟨(-n).toNat-1,by lia⟩;rw[vd,nl]at l ⊢;rw[intText_neg rfl (rX _) (Jt _) (by rw[c5];lia)];show aa _=_;rw[yS]
def D6:∀x∈bE n,x=45\/(48<=x/\x<=57):=by
 intro x c
 by_cases g:0<=n
 .obtain⟨m,rfl⟩:∃m:Nat,n=m:=⟨n.toNat,by lia⟩;rw[nl]at c;exact .inr (rX m x c)
 .obtain⟨m,rfl⟩:∃m:Nat,n=-((m+1:Nat):Int):=⟨(-n).toNat-1,by lia⟩;rw[vd,nl]at c
  rcases bC.mp c with e |e
  .exact .inl e
  .exact .inr (rX _ x e)
def Jv:∀x∈smL,97<=x/\x<=122:=by decide +kernel
def QE:∀x∈grL,65<=x/\x<=90:=by decide +kernel
def vh{c w:LN}(h:lX c w=ac):∀x∈w,x∈c:=λx e=>of_decide_eq_true (all_eq_true.mp h x e)
def vi{w:LN}(h:bz w=ac):∀x∈w,97<=x/\x<=122:=by
 unfold bz made at h;simp only[(cq)]at h;exact λx c=>Jv x (vh h.1.2 x c)
def rY{w:LN}(h:dZ w=ac):(∀x∈w,65<=x/\x<=122)/\∃c r,w=c::r/\c<=90:=by
 have p:=Jf h;unfold dZ at h;rw[cq,jH]at h;obtain⟨g,j⟩:=h;unfold made at g j;simp only[cq,decide_eq_true_eq]at g j
 cases w with
 |nil=>exact absurd p.1 (by decide)
 |cons c r=>
  have o:=QE c (vh g.2 c (by simp));refine⟨λx u=>?_,c,r,rfl,o.2⟩
  rcases bC.mp u with e |e
  .rw[e];lia
  .rcases j with q |q
   .have:r=[]:=eq_nil_of_length_eq_zero (by rw[aQ]at q;lia);rw[this]at e;exact(iM e).elim
   .have:=Jv x (vh q.2 x e);lia
def D7{w:LN}(h:cO w=ac):∀x∈w,65<=x/\x<=122:=by
 unfold cO at h;rw[jH]at h
 rcases h with h |h
 .exact(rY h).1
 .intro x c;have:=vi h x c;lia
def QF{w:LN}(h:∀x∈w,65<=x/\x<=122):plain w:=λx c=>by
 have:=h x c;unfold gl;simp only[sB,beq_eq_false_iff_ne];lia
def QG(n:Int):plain (bE n):=λx c=>by
 have:=D6 x c;unfold gl;simp only[sB,beq_eq_false_iff_ne];lia
def D8{w:LN}(h:∀x∈w,x<128):asc w:=all_eq_true.mpr λx c=>decide_eq_true (h x c)
def vj{w:LN}(h:cO w=ac):asc w:=D8 λx c=>by have:=D7 h x c;lia
def l5{w:LN}(h:bz w=ac):cO w=ac:=by unfold cO;rw[h,md]
def D9{w:LN}(h:dZ w=ac):cO w=ac:=by unfold cO;rw[h];rfl
def Ea(n:Int):asc (bE n):=D8 λx c=>by have:=D6 x c;lia
def QH{w:LN}(h:bz w=ac):dZ w=ai:=by
 cases e:dZ w with
 |false=>rfl
 |true=>
  obtain⟨_,c,r,rfl,g⟩:=rY e;have:=vi h c be;lia
def Jw{w:LN}(h:bz w=ac):fz w=ai:=by
 cases w with
 |nil=>exact absurd (yK h).1 (by decide)
 |cons c r=>
  have j:=vi h c be;unfold fz;rw[if_neg (by simp;lia)];have e:fgs (c::r)=c::r:=by unfold fgs;rw[if_neg (by simp;lia)]
  have g:made (c::r) dgL 30=ai:=by
   unfold made lX;have:decide _=ai:=decide_eq_false λz=>by have:=(pI c).mp z;lia
   rw[nK,this,sC,Bool.and_false]
  rw[e,g,sC]
abbrev fZ(c:L2N):List L2N->L2N
 | []=>[]
 | [x]=>x
 |x::y::r=>x++c++fZ c (y::r)
abbrev c6(t:Th):L2N:=t.1::(if t.2=[] then [] else [40]::(fZ [[44]] (t.2.map λa=>[a])++[[41]]))
abbrev gP(p:LN×LN):L2N:=[p.1,cw "in",p.2]
abbrev cu(ps:List (LN×LN)):L2N:=fZ [[44]] (ps.map gP)
abbrev iI(z:Ti):L2N:=(if z.2.1=1/\z.2.2=ai then [] else [bE z.2.1])++c6 z.1
abbrev cy(its:List Ti):L2N:=fZ [[44]] (its.map iI)
abbrev bJ(w:LN)(xs:L2N):L2N:=if xs=[] then [] else w::xs
abbrev l6(its:List Ti)(ov:List (LN×LN)):L2N:=cy its++bJ (cw "over") (cu ov)
abbrev pWd:Pa->L2N
 |.is t=>c6 t
 |.no t=>cw "not" :: c6 t
 |.un a b=>[a,cw "unlike",b]
 |.ct w n its ov=>[cw (ctS w),bE n,cw "of"]++l6 its ov
abbrev bWd(bd:List Pa):L2N:=fZ [cw "and"] (bd.map pWd)
abbrev dE(bd:List Pa)(ps:List (LN×LN)):L2N:=bJ (cw "if") (bWd bd)++bJ (cw "for") (cu ps)
abbrev cv:Ro->L2N
 |.kind n ns=>cw "kind" :: n::ns
 |.never bd ps=>cw "never" :: (bWd bd++bJ (cw "for") (cu ps))
 |.choose lo hi its ov bd ps=>[cw "choose",bE lo,cw "to",bE hi,cw "of"]++(l6 its ov++dE bd ps)
 |.rule b t bd ps=>cw (ruS b)::(c6 t++dE bd ps)
def yU{α:Type}{c:L2N}{g:α->L2N}{L:List α}(h:∀x∈L,g x≠[]):fZ c (L.map g)=[]↔L=[]:=by
 match L with
 | []=>exact⟨λ_=>rfl,λ_=>rfl⟩
 | [x]=>exact⟨λe=>absurd e (h x be),λe=>by nomatch e⟩
 |x::y::r=>
  refine⟨λe=>?_,λe=>by nomatch e⟩;have:=(append_eq_nil_iff.mp (append_eq_nil_iff.mp e).1).1;exact absurd this (h x be)
def Jx(p:Pa):pWd p≠[]:=by
 cases p <;> (intro e;cases e)
@[reducible]noncomputable def rN:LSt:=["words","place"]
@[reducible]noncomputable def fls(W:L2N)(p:Nat):LD:=[.lst (wD W),.int ((p:Nat):Int)]
@[reducible]noncomputable def rd(l:Addr)(W:L2N)(p:Nat):Sl:=.pino l "Reader" rN (fls W p)
abbrev kR(l:Addr)(W:L2N)(p:Nat)(d:D)(o:Fl):Prop:=∃ρ,(o=.rtS d (rd l W p::ρ)\/(d=.non/\o=.nx (rd l W p::ρ)))
variable{p:Nat}
def cJ{W:L2N}:kR l W p d (.rtS d (rd l W p::ρ)):=⟨ρ,.inl rfl⟩
def Eb{W:L2N}:kR l W p .non (.nx (rd l W p::ρ)):=⟨ρ,.inr ⟨rfl,rfl⟩⟩
variable{N:Nat}{F:MF3}
def dF{W:L2N}(w:wp F (dC N l "Reader" rN ds xs) (kR l W p d)):c4 N "Reader" rN F l ds xs=aa (fls W p,d):=by
 obtain⟨o,e,ρ,h⟩:=w;unfold c4;rw[e,aD]
 rcases h with h |⟨hd,h⟩
 .subst h;show(ju l "Reader" rN _).map _=_;rw[Hb rfl];rfl
 .subst h hd;show(ju l "Reader" rN _).map _=_;rw[Hb rfl];rfl
def fK{nm:Str}{m:Addr->LD->LD->Option (LD×D)}{f:Xa}{W:L2N}{q:Nat}{tl c:LS}(j:rN.contains nm=ai)(e:f (rd l W p::tl)=aa (ds,rd l W p::c))(g:m l ds (fls W p)=aa (fls W q,d)):aw 0 "Reader" nm rN m f (rd l W p::tl)=aa (d,rd l W q::c):=by
 show(if ("Reader":Str)="Reader" /\ rN=rN/\rN.contains nm=ai then (f _).bind _ else ae)=_;rw[if_pos ⟨rfl,rfl,j⟩,e,aD];show(if ("Reader":Str)="Reader" /\ rN=rN then (m l ds _).map _ else ae)=_;rw[if_pos ⟨rfl,rfl⟩,g];rfl
def Ec(l:Addr)(W:L2N)(p:Nat)(tl:LS):jW 0 "Reader" "words" (rd l W p::tl)=aa (.lst (wD W)):=rfl
def Jy(l:Addr)(W:L2N)(p:Nat)(tl:LS):jW 0 "Reader" "place" (rd l W p::tl)=aa (.int ((p:Nat):Int)):=rfl
def Jz(l:Addr)(W:L2N)(p:Nat)(tl:LS):ue 0 "Reader" "place" (kI 1) (rd l W p::tl)=aa (.nx (rd l W (p+1)::tl)):=rfl
def jD{f:Xe}(h:f ρ=aa (.bl b,ρ1)):cC f ρ=aa (b,ρ1):=by
 unfold cC;rw[h];rfl
def JA{f:Xt}(h:f ρ=aa (b,ρ1)):qQ f ρ=aa (!b,ρ1):=by
 unfold qQ;rw[h];rfl
def h9{f g:Xe}{r:Option (D×LS)}(h:t ρ=aa (b,ρ1))(e:b=ac->f ρ1=r)(c:b=ai->g ρ1=r):jv t f g ρ=r:=by
 unfold jv;rw[h,aD]
 cases b with
 |true=>exact e rfl
 |false=>exact c rfl
def nq{m:LD->OD}{f:Xa}(c:f ρ=aa (ds,ρ1))(e:m ds=aa d):eR m f ρ=aa (d,ρ1):=by
 unfold eR;rw[c,aD,e];rfl
def eqT(a b:LN):dEq (sT a) (sT b)=aa (.bl (decide (a=b))):=by
 show aa (D.bl (tx a==tx b))=_
 congr 2
 apply kf.mpr;rw[beq_iff_eq,decide_eq_true_iff];exact⟨ja,λe=>by rw[e]⟩
def neT(a b:LN):dNe (sT a) (sT b)=aa (.bl (!decide (a=b))):=by
 show aa (D.bl (!(tx a==tx b)))=_
 congr 3
 apply kf.mpr;rw[beq_iff_eq,decide_eq_true_iff];exact⟨ja,λe=>by rw[e]⟩
def yV(W:L2N):dJ [.lst (wD W)]=aa (.int W.length):=lL W sT
def QI(l:Addr)(W:L2N)(p b:Nat):m_8 l [.int ((b:Nat):Int)] (fls W p)=aa (fls W p,sT (W.getD (p+b) [])):=by
 refine dF ?_;apply ay;refine gj (aH (Jy l W p _) rfl fX) ?_;refine cS (GH (bq (aH rfl (bL (aV (Ec l W p _) rfl) (yV W)) kW)) (λe=>?_) λe=>?_) cJ
 .have h:=of_decide_eq_true e;have c:p+b<W.length:=by lia
  refine cb (tT (Ec l W p _) rfl) rfl ?_;unfold atI ixN;rw[if_pos (by lia),if_pos (by unfold wD;rw[cf];lia),aD];have g:(p+(b:Int)).toNat=p+b:=by lia
  unfold wD;rw[g,fL,du c,eA,du c];rfl
 .have h:=of_decide_eq_false e;rw[eA,sD (by lia)];rfl
def gm(l:Addr)(W:L2N)(p b:Nat)(tl:LS)(c:f (rd l W p::tl)=aa (.int ((b:Nat):Int))):aw 0 "Reader" "coming" rN m_8 (ag (mX f) af) (rd l W p::tl)=aa (sT (W.getD (p+b) []),rd l W p::tl):=fK rfl (aC (aA c) rfl) (QI l W p b)
variable{z:LN}
def yW{W:L2N}(h:W.getD p []=z):m_1 l [sT z] (fls W p)=aa (fls W (p+1),.bl ac):=by
 refine dF ?_;apply ay;refine fY (b:=ai) (bxX (bv (gm l W p 0 _ rfl) (aA rfl) ((neT _ _).trans (by rw[ii,decide_eq_true h];rfl)))) (λe=>by nomatch e) λ_=>bc ?_;apply ay;exact i5 (Jz l W p _) (cS rfl cJ)
def Ed{W:L2N}(h:W.getD p []≠z):m_1 l [sT z] (fls W p)=aa (fls W p,.bl ai):=by
 refine dF ?_;apply ay;exact fY (b:=ac) (bxX (bv (gm l W p 0 _ rfl) (aA rfl) ((neT _ _).trans (by rw[ii,decide_eq_false h];rfl)))) (λ_=>(cS rfl cJ)) λe=>by nomatch e
def pJ(l:Addr)(W:L2N)(p:Nat):i9 l [] (fls W p)=aa (fls W (p+1),sT (W.getD p [])):=by
 refine dF ?_;apply ay;refine bw (gm l W p 0 _ rfl) ?_;apply ay;exact i5 (Jz l W p _) (cS rfl cJ)
def QJ{W:L2N}(h:W.getD p []=z):m_2 l [sT z] (fls W p)=aa (fls W (p+1),.non):=by
 refine dF ?_;refine fY (JA (jD (fK rfl (aC (aA rfl) rfl) (yW h)))) (λe=>by nomatch e) λ_=>bc Eb
def QK{W:L2N}(h:W.length<=p):Ct l [] (fls W p)=aa (fls W p,.non):=by
 refine dF ?_;refine br (b:=ai) (bq (aH (Jy l W p _) (bL (aV (Ec l W p _) rfl) (yV W)) (kW.trans (by congr 2;exact decide_eq_false (by lia))))) (λe=>by nomatch e) λ_=>bc Eb
@[reducible]noncomputable def hd(ys:L2N):LN:=ys.headD []
abbrev Rds(m:Addr->LD->LD->Option (LD×D))(bad xs:L2N)(d:D):Prop:=∀l W p post,W.drop p=xs++post->hd post∉bad->m l [] (fls W p)=aa (fls W (p+xs.length),d)
def JB{W ys:L2N}(h:W.drop p=ys)(b:Nat):W.getD (p+b) []=ys.getD b []:=by
 rw[<- h,eA,eA,List.getElem?_drop]
def yX{W ys:L2N}(h:W.drop p=ys):W.getD p []=hd ys:=by
 have:=JB h 0;rw[ii]at this;rw[this]
 cases ys <;> rfl
variable{x:LN}
def jc{W ys:L2N}(h:W.drop p=x::ys):W.getD p []=x:=yX h
def gp{W xs post:L2N}(h:W.drop p=xs++post):W.drop (p+xs.length)=post:=by
 rw[<- drop_drop,h,drop_left]
def gQ{W post:L2N}(h:W.drop p=x::post):W.drop (p+1)=post:=gp (xs:=[x]) h
variable{m:Addr->LD->LD->Option (LD×D)}{bad post:L2N}
def cK{xs:L2N}(R:Rds m bad xs d){nm:Str}(e:rN.contains nm=ai){W:L2N}{tl:LS}(h:W.drop p=xs++post)(c:hd post∉bad):aw 0 "Reader" nm rN m af (rd l W p::tl)=aa (d,rd l W (p+xs.length)::tl):=fK e rfl (R l W p post h c)
variable{z:Str}
def rZ{W post:L2N}{tl:LS}(c:D.str z=sT x)(h:W.drop p=x::post):aw 0 "Reader" "must_pass" rN m_2 (ag (mX (λ_=>aa (.str z))) af) (rd l W p::tl)=aa (.non,rd l W (p+1)::tl):=fK rfl (aC (aA (congrArg aa c)) rfl) (QJ (jc h))
def r6{W post:L2N}{tl:LS}(c:D.str z=sT x)(h:W.drop p=x::post):cC (aw 0 "Reader" "passes" rN m_1 (ag (mX (λ_=>aa (.str z))) af)) (rd l W p::tl)=aa (ac,rd l W (p+1)::tl):=jD (fK rfl (aC (aA (congrArg aa c)) rfl) (yW (jc h)))
def noX{W post:L2N}{tl:LS}(e:D.str z=sT x)(h:W.drop p=post)(c:hd post≠x):cC (aw 0 "Reader" "passes" rN m_1 (ag (mX (λ_=>aa (.str z))) af)) (rd l W p::tl)=aa (ai,rd l W p::tl):=jD (fK rfl (aC (aA (congrArg aa e)) rfl) (Ed (by rw[yX h];exact c)))
def cmS:D.str ","=sT [44]:=by rw[cmT]
def opS:D.str "("=sT [40]:=by rw[opT]
def clS:D.str ")"=sT [41]:=by rw[clT]
def pK{w:LN}(h:bz w=ac):Rds m_3 [] [w] (sT w):=λl W p post hd _=>by
 have c:=yK h;refine dF ?_;apply ay;refine bw (fK rfl rfl (pJ l W p)) ?_;rw[jc hd];apply ay;exact br (oA (gK (bL rfl (Jn w (by lia) (vj (l5 h)))) (by rw[h];rfl))) (λe=>by nomatch e) λ_=>bc (cS rfl cJ)
def JC{w:LN}(h:dZ w=ac):Rds rq [] [w] (sT w):=λl W p post hd _=>by
 have c:=Jf h;refine dF ?_;apply ay;refine bw (fK rfl rfl (pJ l W p)) ?_;rw[jc hd];apply ay;exact br (oA (gK (bL rfl (yR w (by lia) (vj (D9 h)))) (by rw[h];rfl))) (λe=>by nomatch e) λ_=>bc (cS rfl cJ)
def yY(h:eJ n):Rds m_7 [] [bE n] (.int n):=λl W p post hd _=>by
 have c:=yM h;refine dF ?_;apply ay;refine bw (fK rfl rfl (pJ l W p)) ?_;rw[jc hd];apply ay;exact br (oA (gK (bL rfl (vg _ (by lia) (Ea n))) (by rw[yT h];rfl))) (λe=>by nomatch e) λ_=>bc (cS (Ju h) cJ)
def Ee{w:LN}(h:cO w=ac):Rds m_9 [] [w] (sT w):=λl W p post hd c=>by
 have g:=yJ h;refine dF ?_;refine bI (h9 (jD (nq (aC (gm l W p 0 [] rfl) rfl) ?_)) (λe=>(cK (JC e) rfl hd c)) λe=>?_) cJ
 .rw[ii,jc hd];exact yR w (by lia) (vj h)
 .unfold cO at h;rw[e,Bool.false_or]at h;exact cK (pK h) rfl hd c
def QL{q:LN×LN}(h:iF q):Rds pb [] (gP q) (prD q):=λl W p post hd g=>by
 have c:W.drop p=[q.1]++_:=hd;have e:=gp c;refine dF ?_;apply ay;refine bw (cK (JC h.1) rfl c (by simp)) ?_;apply ay;exact oH (rZ (cwD "in") e) (bI (dq (aC (aA rfl) (aC (cK (pK h.2) rfl (gQ e) (by simp)) rfl))) cJ)
abbrev tlW{α:Type}(c:LN)(g:α->L2N)(L:List α):L2N:=L.flatMap λx=>c::g x
def jE{α:Type}(c:LN)(g:α->L2N):∀(x:α) (L:List α),fZ [c] ((x::L).map g)=g x++tlW c g L
 |x,[]=>by show g x=g x++[];rw[cM]
 |x,y::L=>by
  show g x++[c]++fZ [c] ((y::L).map g)=g x++(c::g y++tlW c g L);rw[jE c g y L];simp
variable{g:α->L2N}{toD:α->D}{c:LN}{cs:Str}
def JD{nm:Str}{W:L2N}(A:rN.contains nm=ai)(j:D.str cs=sT c)(v:c∉bad){post:L2N}(u:hd post∉bad)(B:hd post≠c):∀(L:List α) (n p:Nat) (acc:LD),(∀x∈L,Rds m bad (g x) (toD x))->L.length<n->acc.length+L.length<=1000->W.drop p=tlW c g L++post ->
  dm (cC (aw 0 "Reader" "passes" rN m_1 (ag (mX (λ_=>aa (.str cs))) af))) (dP 1 (aw 0 "Reader" nm rN m af)) n [rd l W p,.own acc]=aa (.nx [rd l W (p+(tlW c g L).length),.own (acc++L.map toD)])
 | [],n+1,p,acc,_,_,_,h=>by
  unfold dm;rw[noX j h B,aD];show aa _=aa (Fl.nx [rd l W (p+0),.own (acc++[])])
  rw[cM,ii]
 |x::L,n+1,p,acc,hR,hl,ha,h=>by
  have q:W.drop p=c::(g x++(tlW c g L++post)):=by
   rw[h];show(c::g x++tlW c g L)++post=_;simp
  have r:=gQ q
  have e:hd (tlW c g L++post)∉bad:=by
   cases L with
   |nil=>exact u
   |cons y L=>exact v
  obtain⟨o,H,J⟩:=DR (i:=1) rfl (cK (hR x be) A (tl:=[.own acc]) r e) rfl (by simp only[aQ]at ha;lia) rfl;subst J;unfold dm;rw[r6 j q,aD,H,aD];show dm _ _ n [rd l W _,.own _]=_;rw[(JD A j v u B L n _ _ (λy I=>hR y (bQ _ I)) (by simp only[aQ]at hl;lia) (by simp only[aQ,aO,iN]at ha ⊢;lia) (gp r))]
  have E:(tlW c g (x::L)).length=1+(g x).length+(tlW c g L).length:=by
   show(c::g x++tlW c g L).length=_;simp only[aO,aQ];lia
  rw[E,jd,c7];have G:p+1+(g x).length+(tlW c g L).length=p+(1+(g x).length+(tlW c g L).length):=by lia
  rw[G];rfl
def yZ{nm:Str}{W:L2N}{bF:MF3}(L:List α)(v:rN.contains nm=ai)(G:D.str cs=sT c)(r:c∉bad)(q:hd post∉bad)(B:hd post≠c)(j:∀x∈L,Rds m bad (g x) (toD x))(A:L≠[])(u:L.length<=900)(h:W.drop p=fZ [c] (L.map g)++post)(k:wp bF [rd l W (p+(fZ [c] (L.map g)).length),.own (L.map toD)] K):
  wp (au (fT 1 (aw 0 "Reader" nm rN m af)) (au (dm (cC (aw 0 "Reader" "passes" rN m_1 (ag (mX (λ_=>aa (.str cs))) af))) (dP 1 (aw 0 "Reader" nm rN m af)) 1000000000) bF)) [rd l W p,.no] K:=by
 cases L with
 |nil=>exact absurd rfl A
 |cons x L=>
  rw[jE]at h k;rw[c7]at h
  have e:hd (tlW c g L++post)∉bad:=by
   cases L with
   |nil=>exact q
   |cons y L=>exact r
  apply ay;refine i5 (o:=.nx [rd l W (p+(g x).length),.own [toD x]]) ?_ ?_
  .unfold fT;rw[cK (j x be) v h e];rfl
  .show wp _ _ _;apply ay;refine i5 (JD v G r q B L 1000000000 _ _ (λy E=>j y (bQ _ E)) (by simp only[aQ]at u;lia) (by simp only[aQ,iN]at u ⊢;lia) (gp h)) ?_;rw[aO,<- sG]at k;exact k
def r9(xs:LD)(n:Nat)(h:xs.length<=n):m_6 [.lst xs,.int ((n:Nat):Int)]=aa (.lst xs):=by
 apply jo;apply ay;exact br (b:=ai) (bq (aH (bL rfl (rfl)) rfl (oG.trans (by congr 2;exact decide_eq_false (by lia))))) (λe=>by nomatch e) λ_=>bc (GL rfl (jS rfl))
variable{ps:List (LN×LN)}
def JE(h:∀q∈ps,iF q)(r:ps≠[])(o:ps.length<=900):Rds pc [[44]] (cu ps) (.lst (ps.map prD)):=λl W p post hd j=>by
 refine dF ?_;exact yZ ps rfl cmS (by simp) (by simp) (λe=>j (by rw[e];exact bR.mpr rfl)) (λx u=>QL (h x u)) r o hd (cS rfl cJ)
def vk{xs q:L2N}{w:LN}(e:w∉bad)(j:hd q∉bad):hd (bJ w xs++q)∉bad:=by
 unfold bJ;split
 .exact j
 .exact e
def Ef:cu ps=[]↔ps=[]:=yU λ_ _ e=>by cases e
variable{bd:List Pa}
def Eg:bWd bd=[]↔bd=[]:=yU λp _=>Jx p
def JF(h:ll ps):Rds nc [cw "for",[44]] (bJ (cw "for") (cu ps)) (.lst (ps.map prD)):=λl W p post hd j=>by
 refine dF ?_
 by_cases e:ps=[]
 .subst e;exact bI (h9 (noX (cwD "for") (show W.drop p=post from hd) λz=>j (by rw[z];exact be)) (λe=>by nomatch e) λ_=>aA rfl) cJ
 .have o:bJ _ _=cw "for" :: cu ps:=if_neg λz=>e (Ef.mp z);rw[o]at hd ⊢;refine bI (h9 (r6 (cwD "for") hd) (λ_=>nq (aC (cK (JE h.1 e (by have:=h.2;lia)) rfl (gQ (hd)) λz=>j (bQ _ z)) (aC (aA rfl) rfl)) (r9 _ 3 (by rw[cf];exact h.2))) λe=>by nomatch e) ?_;rw[aQ,show p+_=p+1+(cu ps).length by lia];exact cJ
def JG(h:(∀p∈ps,iF p)/\ps.length<=2):Rds rA [cw "over",[44]] (bJ (cw "over") (cu ps)) (.lst (ps.map prD)):=λl W p post hd j=>by
 refine dF ?_
 by_cases e:ps=[]
 .subst e;exact bI (h9 (noX (cwD "over") (show W.drop p=post from hd) λz=>j (by rw[z];exact be)) (λe=>by nomatch e) λ_=>aA rfl) cJ
 .have o:bJ _ _=cw "over" :: cu ps:=if_neg λz=>e (Ef.mp z);rw[o]at hd ⊢;refine bI (h9 (r6 (cwD "over") hd) (λ_=>nq (aC (cK (JE h.1 e (by have:=h.2;lia)) rfl (gQ (hd)) λz=>j (bQ _ z)) (aC (aA rfl) rfl)) (r9 _ 2 (by rw[cf];exact h.2))) λe=>by nomatch e) ?_;rw[aQ,show p+_=p+1+(cu ps).length by lia];exact cJ
def QM{e:L2N}(h:∀a∈e,cO a=ac)(q:e≠[])(o:e.length<=3):Rds xW [] (fZ [[44]] (e.map λa=>[a])++[[41]]) (.lst (e.map sT)):=λl W p post hd u=>by
 have j:W.drop p=fZ [[44]] (e.map λa=>[a])++([41]::post):=by rw[hd];simp
 refine dF ?_;refine yZ (post:=[41]::post) e rfl cmS (by simp) (by simp) (show([41]:LN)≠[44] by decide) (λx r=>Ee (h x r)) q (by lia) j ?_;apply ay;refine oH (rZ clS (gp j)) ?_;refine cS (bL (aV rfl (aV rfl rfl)) (r9 _ 3 (by rw[cf];exact o))) ?_;rw[aO,f7,<- sG];exact cJ
variable{t:Th}
def y0(h:lj t):Rds m_5 [[40]] (c6 t) (thD t):=λl W p post hd A=>by
 obtain⟨o,v,y⟩:=h;refine dF ?_;unfold c6 at hd ⊢;apply ay
 by_cases e:t.2=[]
 .rw[if_pos e]at hd ⊢;refine bw (cK (pK o) rfl (hd) (by simp)) ?_;have j:=gQ (show W.drop p=t.1::post from hd);refine bI (dq (aC (aA rfl) (aC (h9 (noX opS j λz=>A (by rw[z];exact be)) (λe=>by nomatch e) λ_=>by rw[e];exact aA rfl) rfl))) cJ
 .rw[if_neg e]at hd ⊢;have j:W.drop p=[t.1]++([40]::(fZ [[44]] (t.2.map λa=>[a])++[[41]]++post)):=by rw[hd];rfl
  have r:=gp j;refine bw (cK (pK o) rfl j (by simp)) ?_;refine bI (dq (aC (aA rfl) (aC (h9 (r6 opS r) (λ_=>cK (QM v e y) rfl (gQ r) (by simp)) λe=>by nomatch e) rfl))) ?_;have u:∀q:Nat,p+(q+1+1)=p+1+1+q:=λq=>by lia
  rw[aQ,aQ,u];exact cJ
variable{z:Ti}
def QN(h:lY z):Rds ph [[40]] (iI z) (cP z):=λl W p post hd B=>by
 obtain⟨o,A⟩:=h;refine dF ?_;unfold iI at hd ⊢;apply ay
 have j:∀q:Nat,wp (au (aY (mB (m2 dLt (ah 1) (kI 0))) (λ_=>ae) aU) (bi (cc (ag (aw 0 "Reader" "read_thing" rN m_5 af) (ag (mX (ah 1)) af))))) [rd l W q,.im (.int z.2.1)] _\/¬W.drop q=c6 z.1++post:=λq=>by
  by_cases y:W.drop q=c6 z.1++post
  .left;apply ay;exact br (b:=ai) (bq (aH rfl rfl (kW.trans (by congr 2;exact decide_eq_false (by lia))))) (λe=>by nomatch e) λ_=>bc (bI (dq (aC (cK (y0 o) rfl y B) (aC (aA rfl) rfl))) cJ)
  .exact .inr y
 by_cases e:z.2.1=1/\z.2.2=ai
 .rw[if_pos e,qe]at hd ⊢;have E:=yK o.1;refine bw (h9 (b:=ai) (r:=aa (.int z.2.1,_)) (jD (nq (aC (gm l W p 0 _ rfl) rfl) ?_)) (λe=>by nomatch e) λ_=>by rw[e.1];exact aA rfl) ?_
  .rw[ii,(jc (hd)),vg _ (by lia) (vj (l5 o.1)),Jw o.1]
  .exact(j p).resolve_right λq=>q hd
 .rw[if_neg e]at hd ⊢;have v:eJ z.2.1:=⟨by have G:0<10 ^ 30:=(by decide);lia,A.2⟩;have E:=yM v;have u:W.drop p=[bE z.2.1]++(c6 z.1++post):=by rw[hd];rfl
  refine bw (h9 (b:=ac) (jD (nq (aC (gm l W p 0 _ rfl) rfl) ?_)) (λ_=>cK (yY v) rfl u (by simp)) λe=>by nomatch e) ?_
  .rw[ii,jc (u),vg _ (by lia) (Ea _),yT v]
  .have:=(j _).resolve_right λq=>q (gp u);rw[aO,f7,<- sG];exact this
def JH{its:List Ti}(h:∀z∈its,lY z)(q:its≠[])(o:its.length<=900):Rds pi [[40],[44]] (cy its) (.lst (its.map cP)):=λl W p post hd j=>by
 refine dF ?_;refine yZ its rfl cmS (by decide) (λz=>j ?_) (λe=>j (by rw[e];decide)) (λx r=>QN (h x r)) q o hd ?_
 .rw[bR.mp z];decide
 exact cS rfl cJ
def JI:cw "over" ∉ ([[40],[44]]:L2N):=by decide +kernel
variable{ov:List (LN×LN)}
def QO{w:Bool}{its:List Ti}(h:jB (.ct w n its ov)):Rds uW [[40],[44],cw "over"] (pWd (.ct w n its ov)) (Pa.toD (.ct w n its ov)):=λl W p post hd v=>by
 obtain⟨y,A,u,B,E⟩:=(h);have G:its≠[]:=λe=>by rw[e]at u;exact absurd u.1 (by decide)
 have j:W.drop p=cw (ctS w)::([bE n]++(cw "of" :: (cy its++(bJ (cw "over") (cu ov)++post)))):=by
  rw[hd];show _++(cy its++bJ _ _)++post=_;simp
 have o:=gQ j;have q:=gp o;have r:=gQ q;refine dF ?_;apply ay;refine bw (fK rfl rfl (pJ l W p)) ?_;rw[jc j];apply ay;refine bw (cK (yY y) rfl o (by simp)) ?_;apply ay;refine oH (rZ (cwD "of") q) ?_;refine bI (d:=Pa.toD (.ct w n its ov)) (ρ1:=[rd l W (p+1+1+1+(cy its).length+(bJ (cw "over") (cu ov)).length),.im (sT (cw (ctS w))),.im (.int n)]) ((dq (aC (aA rfl) (aC (aA rfl) (aC (cK (JH A G (by lia)) rfl r (vk JI λz=>v ?_)) (aC (cK (JG ⟨B,E⟩) rfl (gp r) λz=>v ?_) rfl))))).trans ?_) ?_
 .rcases bC.mp z with e |e
  .rw[e];simp
  .rw[bR.mp e];simp
 .rcases bC.mp z with e |e
  .rw[e];simp
  .rw[bR.mp e];simp
 .show aa _=aa _;rfl
 .have e:p+(pWd (.ct w n its ov)).length=p+1+1+1+(cy its).length+(bJ (cw "over") (cu ov)).length:=by
   show p+(_++(cy its++bJ _ _)).length=_;simp only[aO,aQ,iN];lia
  rw[e];exact cJ
def QP:∀k∈kpW,k≠[]/\∀x∈k,97<=x:=by decide +kernel
def sd{w k:LN}(h:cO w=ac)(j:k∈kpW):w≠k:=λe=>by
 subst e;unfold cO at h;rw[jH]at h
 rcases h with h |h
 .obtain⟨_,c,r,rfl,o⟩:=rY h;have:=(QP _ j).2 c be;lia
 .unfold bz at h;rw[cq]at h;have:kept w=ac:=any_eq_true.mpr ⟨w,j,beq_self_eq_true _⟩;rw[this]at h;exact absurd h.2 (by decide)
def JJ:cw "not" ∈ kpW:=by decide +kernel
def JK:cw "least" ∈ kpW:=by decide +kernel
def JL:cw "most" ∈ kpW:=by decide +kernel
def Eh{w:LN}(j:w≠cw "least")(o:w≠cw "most"):dIn (sT w) (.tup [.str "least",.str "most"])=aa (.bl ai):=by
 show aa (D.bl ((_==tx w) || ((_==tx w) || false)))=_;rw[(beq_eq_false_iff_ne.mpr λe=>j (ja (e.symm.trans (cwT "least")))),(beq_eq_false_iff_ne.mpr λe=>o (ja (e.symm.trans (cwT "most"))))];rfl
def Ei(b:Bool):dIn (sT (cw (ctS b))) (.tup [.str "least",.str "most"])=aa (.bl ac):=by
 cases b <;> rfl
def QQ{a b:LN}(o:cO a=ac)(q:cO b=ac):Rds uX [] [a,cw "unlike",b] (Pa.toD (.un a b)):=λl W p post hd r=>by
 have e:W.drop p=[a]++_:=hd;have j:=gp e;refine dF ?_;apply ay;refine bw (cK (Ee o) rfl e (by simp)) ?_;apply ay;exact oH (rZ (cwD "unlike") j) (bI (dq (aC (aA rfl) (aC (aA rfl) (aC (cK (Ee q) rfl (gQ j) r) rfl)))) cJ)
@[reducible]noncomputable def bdP:L2N:=[[40],[44],cw "over",cw "unlike"]
def QR:([40]:LN)≠cw "unlike":=by decide +kernel
def QS(w:Bool):cw (ctS w)≠cw "not":=by cases w <;> decide +kernel
def QT{q:Pa}(h:jB q):Rds pj bdP (pWd q) q.toD:=λl W p post hd r=>by
 refine dF ?_;apply ay
 cases q with
 |no t=>
  have j:=hd;refine fY (r6 (cwD "not") j) (λ_=>?_) λe=>by nomatch e
  refine bI (dq (aC (aA rfl) (aC (cK (y0 (h)) rfl (gQ j) λz=>r (by rw[bR.mp z];exact be)) rfl))) ?_;show kR l W (p+((c6 t).length+1)) _ _;rw[show p+_=p+1+(c6 t).length by lia]
  exact cJ
 |ct w n its ov=>
  have j:=hd;refine fY (noX (cwD "not") j (QS w)) (λe=>by nomatch e) λ_=>bc ?_;apply ay;refine fY (bxX (bv (gm l W p 0 [] rfl) (aA rfl) (by rw[ii,jc j];exact Ei w))) (λ_=>?_) λe=>by nomatch e
  refine bI (cK (QO h) rfl hd λz=>r ?_) cJ
  rcases bC.mp z with e |z
  .rw[e];simp
  rcases bC.mp z with e |z
  .rw[e];simp
  .rw[bR.mp z];simp
 |un a b=>
  obtain⟨o,y⟩:=(h);have j:=hd;refine fY (noX (cwD "not") j (sd o JJ)) (λe=>by nomatch e) λ_=>bc ?_;apply ay;refine fY (bxX (bv (gm l W p 0 [] rfl) (aA rfl) (by rw[ii,jc j];exact Eh (sd o JK) (sd o JL)))) (λe=>by nomatch e) λ_=>bc ?_;apply ay
  exact fY (b:=ac) (bxX (bv (gm l W p 1 [] rfl) (aA (congrArg aa (cwD "unlike"))) ((eqT _ _).trans (by rw[JB j 1];exact congrArg (λb=>aa _) (decide_eq_true rfl))))) (λ_=>(bI (cK (QQ o y) rfl hd (by simp)) cJ)) λe=>by nomatch e
 |is t=>
  have v:=h;have u:=l5 v.1;have j:=hd;refine fY (noX (cwD "not") j (sd u JJ)) (λe=>by nomatch e) λ_=>bc ?_;apply ay;refine fY (bxX (bv (gm l W p 0 [] rfl) (aA rfl) (by rw[ii,jc j];exact Eh (sd u JK) (sd u JL)))) (λe=>by nomatch e) λ_=>bc ?_;apply ay
  have A:W.getD (p+1) []≠cw "unlike":=by
   rw[yX (gQ j)];split
   .exact λz=>r (by rw[show N_k75.hd post=cw "unlike" from z];simp)
   .exact QR
  exact fY (bxX (bv (gm l W p 1 [] rfl) (aA (congrArg aa (cwD "unlike"))) ((eqT _ _).trans (by rw[decide_eq_false A])))) (λe=>by nomatch e) λ_=>bc (bI (dq (aC (aA rfl) (aC (cK (y0 v) rfl (hd) λz=>r (by rw[bR.mp z];exact be)) rfl))) cJ)
@[reducible]noncomputable def bdB:L2N:=[cw "and",[40],[44],cw "over",cw "unlike"]
def QU:cw "and" ∉ bdP:=by decide +kernel
def Ej(h:gz bd)(o:bd≠[]):Rds rB bdB (bWd bd) (.lst (bd.map Pa.toD)):=λl W p post hd j=>by
 refine dF ?_;exact yZ bd rfl (cwD "and") QU (λz=>j (bQ _ z)) (λe=>j (by rw[e];exact be)) (λx q=>QT (h.1 x q)) o (by have:=h.2;lia) hd (cS rfl cJ)
def QV(h:gz bd):Rds lV (cw "if" :: bdB) (bJ (cw "if") (bWd bd)) (.lst (bd.map Pa.toD)):=λl W p post hd j=>by
 refine dF ?_
 by_cases e:bd=[]
 .subst e;exact bI (h9 (noX (cwD "if") (show W.drop p=post from hd) λz=>j (by rw[z];exact be)) (λe=>by nomatch e) λ_=>aA rfl) cJ
 .have o:bJ _ _=cw "if" :: bWd bd:=if_neg λz=>e (Eg.mp z);rw[o]at hd ⊢;refine bI (h9 (r6 (cwD "if") hd) (λ_=>cK (Ej h e) rfl (gQ (hd)) λz=>j (bQ _ z)) λe=>by nomatch e) ?_;rw[aQ,show p+_=p+1+(bWd bd).length by lia];exact cJ
def QW:cw "for" ∉ (cw "if" :: bdB):=by decide +kernel
def QX(bd:List Pa)(ps:List (LN×LN)):hd (dE bd ps)=cw "if" \/ hd (dE bd ps)=cw "for" \/ hd (dE bd ps)=[]:=by
 unfold dE bJ;split
 .split
  .exact .inr (.inr rfl)
  .exact .inr (.inl rfl)
 .exact .inl rfl
def JM(bd:List Pa)(ps:List (LN×LN)):hd (dE bd ps)∉bdB:=by
 rcases QX bd ps with e |e |e <;> (rw[e];decide +kernel)
def JN(h:gz bd)(o:ll ps){W:L2N}{tl:LS}(hd:W.drop p=dE bd ps):
  ag (aw 0 "Reader" "read_if" rN lV af) (ag (aw 0 "Reader" "read_for" rN nc af) af) (rd l W p::tl)=aa ([.lst (bd.map Pa.toD),.lst (ps.map prD)],rd l W (p+(dE bd ps).length)::tl):=by
 have j:W.drop p=bJ (cw "if") (bWd bd)++(bJ (cw "for") (cu ps)++[]):=by rw[hd,cM];rfl
 have e:p+(dE bd ps).length=p+(bJ (cw "if") (bWd bd)).length+(bJ (cw "for") (cu ps)).length:=by unfold dE;rw[aO,sG]
 rw[e];exact aC (cK (QV h) rfl j (vk QW (by decide +kernel))) (aC (cK (JF o) rfl (gp j) (by decide +kernel)) rfl)
def JO{l:Addr}{W:L2N}:∀(L:L2N) (n p:Nat) (acc:LD),(∀x∈L,bz x=ac)->L.length<n->acc.length+L.length<=1000->W.drop p=L ->
  dm (mBX (mX2 dNe (aw 0 "Reader" "coming" rN m_8 (ag (mX (kI 0)) af)) (mX (kSt "")))) (dP 1 (aw 0 "Reader" "read_name" rN m_3 af)) n [rd l W p,.own acc]=aa (.nx [rd l W (p+L.length),.own (acc++L.map sT)])
 | [],n+1,p,acc,_,_,_,h=>by
  unfold dm;rw[bxX (b:=ai) (bv (gm l W p 0 _ rfl) (aA rfl) ((neT _ _).trans (by rw[ii,yX h];rfl))),aD];show aa _=aa (Fl.nx [rd l W (p+0),.own (acc++[])])
  rw[cM,ii]
 |x::L,n+1,p,acc,hR,hl,ha,h=>by
  have q:=hR x be;have j:x≠[]:=λe=>by have:=(yK q).1;rw[e]at this;exact absurd this (by decide)
  obtain⟨o,r,v⟩:=DR (i:=1) rfl (cK (nm:="read_name") (pK q) rfl (tl:=[.own acc]) (h) (by simp)) rfl (by simp only[aQ]at ha;lia) rfl;subst v;unfold dm;rw[bxX (b:=ac) (bv (gm l W p 0 _ rfl) (aA (d:=sT []) rfl) ((neT _ _).trans (by rw[ii,jc h,decide_eq_false j];rfl))),aD,r,aD];show dm _ _ n [rd l W (p+1),.own _]=_;rw[(JO L n _ _ (λy u=>hR y (bQ _ u)) (by simp only[aQ]at hl;lia) (by simp only[aQ,aO,iN]at ha ⊢;lia) (gQ h)),aQ,jd,c7,show p+1+L.length=p+(L.length+1) by lia];rfl
def QY{ns:L2N}(h:∀x∈ns,bz x=ac)(j:ns≠[])(e:ns.length<=12){W:L2N}(hd:W.drop p=ns):uZ l [] (fls W p)=aa (fls W (p+ns.length),.lst (ns.map sT)):=by
 cases ns with
 |nil=>exact absurd rfl j
 |cons x L=>
  refine dF ?_;show wp _ [rd l W p,.no] _;apply ay;refine i5 (o:=.nx [rd l W (p+1),.own [sT x]]) ?_ ?_
  .unfold fT;rw[cK (pK (h x be)) rfl (hd) (by simp)];rfl
  .show wp _ _ _;apply ay;refine i5 (JO L 1000000000 _ _ (λy q=>h y (bQ _ q)) (by simp only[aQ]at e;lia) (by simp only[aQ,iN]at e ⊢;lia) (gQ hd)) ?_;show wp _ [rd l W _,.own ((x::L).map sT)] _;refine cS (bL (aV rfl (aV rfl rfl)) (r9 _ 12 (by rw[cf];exact e))) ?_;rw[aQ,show p+_=p+1+L.length by lia];exact cJ
def Ek(bs:List Bool):mM [.lst (bs.map D.bl)]=aa (.bl (bs.all id)):=Jm bs
def JP(q:Pa):m2 dEq (mIx (bO 0) (kI 0)) (kSt "unlike") [.im q.toD]=aa (.bl q.unl):=by
 cases q with
 |is t=>rfl
 |no t=>rfl
 |un a b=>rfl
 |ct w n its ov=>cases w <;> rfl
def QZ(r:gz bd)(u:∃p∈bd,p.unl=ai)(v:ll ps){W:L2N}(hd:W.drop p=bWd bd++bJ (cw "for") (cu ps)):u3 l [] (fls W p)=aa (fls W (p+(bWd bd++bJ (cw "for") (cu ps)).length),Ro.toD (.never bd ps)):=by
 have A:bd≠[]:=λe=>by obtain⟨q,j,_⟩:=u;rw[e]at j;exact iM j
 have B:=r.2;refine dF ?_;apply ay
 have o:N_k75.hd (bJ (cw "for") (cu ps))∉bdB:=by
  have:=vk (bad:=bdB) (xs:=cu ps) (q:=[]) (w:=cw "for") (by decide +kernel) (by decide +kernel);rw[cM]at this;exact this
 refine bw (cK (Ej r A) rfl hd o) ?_;apply ay
 have y:fh 1 [] (fG (ah 1)) (bZ 0) kY (m2 dEq (mIx (bO 0) (kI 0)) (kSt "unlike")) [rd l W (p+(bWd bd).length),.im (.lst (bd.map Pa.toD))]=aa ((bd.map Pa.unl).map D.bl):=by
  rw[map_map];exact tQ bd Pa.toD _ rfl (by lia) λq _=>tS rfl rfl (JP q)
 refine br (b:=ai) (gK (bL (aV (fm y) rfl) (Ek _)) ?_) (λe=>by nomatch e) λ_=>bc ?_
 .have:(bd.map Pa.unl).all id=ai:=by
   obtain⟨q,j,e⟩:=u;rw[all_map];exact all_eq_false.mpr ⟨q,j,by show ¬q.unl=ac;rw[e];decide⟩
  rw[this];rfl
 .refine bI (dq (aC (aA rfl) (aC (aA rfl) (aC (cK (JF v) rfl (by rw[cM];exact(gp hd)) (by decide +kernel)) rfl)))) ?_;rw[aO,<- sG];exact cJ
def Q0{lo hi:Int}{its:List Ti}(h:jb (.choose lo hi its ov bd ps)){W:L2N}(hd:W.drop p=[bE lo,cw "to",bE hi,cw "of"]++(l6 its ov++dE bd ps)):uY l [] (fls W p)=aa (fls W (p+([bE lo,cw "to",bE hi,cw "of"]++(l6 its ov++dE bd ps)).length),Ro.toD (.choose lo hi its ov bd ps)):=by
 obtain⟨B,j,E,G,H⟩:=(h);have I:its≠[]:=λe=>by rw[e]at j;exact absurd j.2.1 (by decide)
 have o:W.drop p=[bE lo]++(cw "to" :: ([bE hi]++(cw "of" :: (cy its++(bJ (cw "over") (cu ov)++dE bd ps))))):=by
  rw[hd];show _++(cy its++bJ _ _++dE bd ps)=_;simp
 have q:=gp o;have r:=gQ q;have u:=gp r;have v:=gQ u;have y:=gp v;have A:=JM bd ps;refine dF ?_;apply ay;refine bw (cK (yY B.1) rfl o (by simp)) ?_;apply ay;refine oH (rZ (cwD "to") q) ?_;apply ay;refine bw (cK (yY B.2) rfl r (by simp)) ?_;apply ay;refine oH (rZ (cwD "of") u) ?_;refine bI (dq (aC (aA rfl) (aC (aA rfl) (aC (aA rfl) (aC (cK (JH j.1 I (by lia)) rfl v (vk JI λz=>A ?_)) (aC (cK (JG E) rfl y λz=>A ?_) (JN G H (gp y)))))))) ?_
 .rcases bC.mp z with e |z
  .rw[e];simp
  .rw[bR.mp z];simp
 .rcases bC.mp z with e |z
  .rw[e];simp
  .rw[bR.mp z];simp
 .have e:p+([bE lo,cw "to",bE hi,cw "of"]++(l6 its ov++dE bd ps)).length=p+1+1+1+1+(cy its).length+(bJ (cw "over") (cu ov)).length+(dE bd ps).length:=by
   unfold l6;simp only[aO,aQ,iN];lia
  rw[e];exact cJ
def y4{w:LN}(j:w≠cw "rule")(o:w≠cw "may"):dIn (sT w) (.tup [.str "rule",.str "may"])=aa (.bl ai):=by
 show aa (D.bl ((_==tx w) || ((_==tx w) || false)))=_;rw[(beq_eq_false_iff_ne.mpr λe=>j (ja (e.symm.trans (cwT "rule")))),(beq_eq_false_iff_ne.mpr λe=>o (ja (e.symm.trans (cwT "may"))))];rfl
def El(b:Bool):dIn (sT (cw (ruS b))) (.tup [.str "rule",.str "may"])=aa (.bl ac):=by
 cases b <;> rfl
def eqC(w:LN)(z:Str):dEq (sT w) (.str z)=aa (.bl (decide (w=cw z))):=by rw[cwD z];exact eqT _ _
variable{r:Ro}
def Em(h:jb r)(l:Addr):rC l [] (fls (cv r) 0)=aa (fls (cv r) (cv r).length,r.toD):=by
 refine dF ?_;apply ay;refine bw (fK rfl rfl (pJ l _ 0)) ?_
 cases r with
 |kind n ns=>
  obtain⟨u,v,q,G⟩:=(h);have B:ns≠[]:=λe=>by rw[e]at q;exact absurd q (by decide)
  show wp _ [rd l _ _,.im (sT (cw "kind"))] _;have j:(cw "kind" :: n::ns).drop (0+1)=[n]++ns:=rfl;have y:=gp j;apply ay;refine br (bq (aH rfl rfl ((eqC _ _).trans (by rw[decide_eq_true rfl])))) (λ_=>?_) λe=>by nomatch e
  refine bI (dq (aC (aA rfl) (aC (cK (pK u) rfl j (by simp)) (aC (fK rfl rfl (QY v B G y)) rfl)))) ?_;show kR l _ (ns.length+1+1) _ _;rw[show ns.length+1+1=0+1+1+ns.length by lia]
  exact cJ
 |rule b t bd ps=>
  obtain⟨u,v,q⟩:=(h);show wp _ [rd l (cw _::_) _,.im (sT (cw _))] _;have j:(cw (ruS b)::_).drop (0+1)=c6 t++dE bd ps:=rfl;have y:=gp j;generalize E:cw _::_=W at j y;have A:W.length=0+1+(c6 t).length+(dE bd ps).length:=by rw[<- E,aQ,aO];lia
  apply ay
  refine br (bq (aH rfl rfl ((eqC _ _).trans (by rw[decide_eq_false (by cases b <;> decide +kernel)])))) (λe=>by nomatch e) λ_=>bc ?_
  apply ay;refine br (bq (aH rfl rfl (El b))) (λ_=>?_) λe=>by nomatch e
  refine bI (d:=Ro.toD (.rule b t bd ps)) (ρ1:=[rd l W (0+1+(c6 t).length+(dE bd ps).length),.im (sT (cw (ruS b)))]) ((dq (aC (aA rfl) (aC (cK (y0 u) rfl j λz=>(JM bd ps) (by rw[bR.mp z];simp)) (JN v q y)))).trans ?_) ?_
  .show aa _=aa (D.tup _,_);rw[<- cwD]
  .have:cv (.rule b t bd ps)=W:=E;rw[this,A]
   exact cJ
 |choose lo hi its ov bd ps=>
  show wp _ [rd l (cw "choose" :: (_++_)) _,.im (sT (cw "choose"))] _;have j:(cw "choose" :: _).drop (0+1)=[bE lo,cw "to",bE hi,cw "of"]++(l6 its ov++dE bd ps):=rfl;generalize o:_++(l6 its ov++dE bd ps)=X at j;apply ay;refine br (bq (aH rfl rfl ((eqC _ _).trans (by rw[decide_eq_false (by decide +kernel)])))) (λe=>by nomatch e) λ_=>bc ?_;apply ay;refine br (b:=ai) (bq (aH rfl rfl (y4 (by decide +kernel) (by decide +kernel)))) (λe=>by nomatch e) λ_=>bc ?_;apply ay;have em:=Q0 h (l:=l) (W:=cw "choose" :: X) (p:=0+1) (by rw[o];exact j);rw[o]at em;refine bI (fK (ds:=[]) rfl rfl em) ?_;have:cv (.choose lo hi its ov bd ps)=cw "choose" :: X:=by rw[<- o];rfl
  rw[this,aQ,show X.length+1=0+1+X.length by lia]
  exact cJ
 |never bd ps=>
  obtain⟨u,v,q⟩:=(show gz bd/\(∃p∈bd,p.unl=ai)/\ll ps from h);show wp _ [rd l (cw "never" :: (bWd bd++bJ (cw "for") (cu ps))) (0+1),.im (sT (cw "never"))] _;have j:(cw "never" :: (bWd bd++bJ (cw "for") (cu ps))).drop (0+1)=bWd bd++bJ (cw "for") (cu ps):=rfl;generalize o:bWd bd++bJ (cw "for") (cu ps)=X at j;apply ay;refine br (b:=ai) (bq (aH rfl rfl ((eqC _ _).trans (by rw[decide_eq_false (by decide +kernel)])))) (λe=>by nomatch e) λ_=>bc ?_;apply ay;refine br (b:=ai) (bq (aH rfl rfl (y4 (by decide +kernel) (by decide +kernel)))) (λe=>by nomatch e) λ_=>bc ?_;apply ay;refine br (b:=ai) (bq (aH rfl rfl ((eqC _ _).trans (by rw[decide_eq_false (by decide +kernel)])))) (λe=>by nomatch e) λ_=>bc ?_;apply ay;have em:=QZ u v q (l:=l) (W:=cw "never" :: X) (p:=0+1) (by rw[o];exact j);rw[o]at em;refine bI (fK (ds:=[]) rfl rfl em) ?_;have:cv (.never bd ps)=cw "never" :: X:=by rw[<- o];rfl
  rw[this,aQ,show X.length+1=0+1+X.length by lia];exact cJ
variable{q:Nat}
open Classical in
def En{nm:Str}{W:L2N}{a b:Sl}(j:rN.contains nm=ai)(h:∀l,m l [] (fls W p)=aa (fls W q,d)):mZ 1 "Reader" nm rN m af [a,.obj "Reader" rN (fls W p),b]=aa (d,[a,.obj "Reader" rN (fls W q),b]):=by
 unfold mZ;show(if ("Reader":Str)="Reader" /\ rN=rN/\rN.contains nm=ai then _ else ae)=_;rw[if_pos ⟨rfl,rfl,j⟩];show(if ("Reader":Str)="Reader" /\ rN=rN then (if h:∃q,∀l,m l [] (fls W p)=aa q then aa (h.choose.2,[a,.obj "Reader" rN h.choose.1,b]) else ae) else ae)=_;rw[if_pos ⟨rfl,rfl⟩,dif_pos ⟨(fls W q,d),h⟩]
 have e:(⟨(fls W q,d),h⟩:∃q,∀l,m l [] (fls W p)=aa q).choose=(fls W q,d):=by
  have:=(⟨(fls W q,d),h⟩:∃q,∀l,m l [] (fls W p)=aa q).choose_spec 0;rw[h 0]at this;exact dz this.symm
 rw[e]
def Q1{T:LN}(h:jb r)(e:lW [.str (tx T)]=aa (.lst (wD (cv r)))):m_4 [.str (tx T)]=aa r.toD:=by
 apply jo;apply ay;refine i5 (o:=.nx [.im (.str (tx T)),.obj "Reader" rN (fls (cv r) 0),.no]) ?_ ?_
 .unfold oU;rw[aV (bL rfl e) rfl];rfl
 apply ay;refine bw (En rfl λl=>Em h l) ?_;apply ay;exact oH (En rfl λl=>QK (bN _)) (GL rfl (jS rfl))
def Q2{α:Type}{f:MF2}{g:α->D}{xs:List α}(d:α)(e:f ρ=aa [.kl (xs.map g)]):mO f ρ=aa ((dG xs.length).map λi=>D.tup [.int (i:Nat),g (xs.getD i d)]):=by
 unfold mO;rw[e,<- GK];rfl
def Q3(ns:List Int)(many:Int)(L:0<many/\many<=6):∃j:List Int,j.length=many.toNat/\(∀s∈j,okS s)/\Ds [.kl (ns.map D.int),.int many]=aa (.lst (j.map D.int)):=by
 have w:wp yh [.im (.kl (ns.map D.int)),.im (.int many),.no,.no,.no,.no] (tU λd=>∃j:List Int,d=.lst (j.map D.int)/\j.length=many.toNat/\∀s∈j,okS s):=by
  generalize H:D.kl _=y;apply ay
  have U:fh 1 [] (ir (aj (ah 1) nZ)) (bZ 0) kY (m2 bB (m2 lM (ah 0) (kI 7368787)) (kI 1000003)) [.im y,.im (.int many),.no,.no,.no,.no]=aa (((dG many.toNat).map λ(k:Nat)=>(k:Int)*7368787+1000003).map D.int):=by
   rw[map_map];refine tQ _ (λ(i:Nat)=>D.int i) _ ?_ (by rw[ic];lia) λi hi=>?_
   .unfold ir;rw[show aj _ _ _=aa _ from rfl,aD,yD _ (by lia) (by lia)]
   .have Y:=kg.mp hi;exact tS rfl rfl (aH (aH rfl rfl (qK (.inl (.inr ⟨by decide,by decide⟩)))) rfl fX)
  refine kQ U ?_;apply ay;refine kU _ _ (λ_ ρ=>∃(j:List Int) (A B E:Sl),(j.length=many.toNat/\∀s∈j,okS s)/\ρ=[.im y,.im _,.own (j.map D.int),A,B,E]) (by subst H;exact Q2 0 rfl) ⟨_,_,_,_,⟨by rw[cf,ic],λs o=>?_⟩,rfl⟩ ?_ ?_
  .obtain⟨k,hk,rfl⟩:=mem_map.mp o;have:=kg.mp hk;unfold okS;lia
  .rintro pre i post ρ he ⟨j,A,B,E,⟨u,o⟩,rfl⟩;refine⟨_,rfl,?_⟩;generalize ns.getD i 0=c;have I:0<=i % many/\i % many<many:=⟨Int.emod_nonneg _ (by lia),zz _ L.1⟩;have G:∀(O Q:Sl),m2 il (ah 3) (ah 1) [.im y,.im _,.own (j.map D.int),.im _,O,Q]=aa (.int (i % many)):=λ_ _=>aH rfl rfl (lK L.1);generalize _ % many=q at I G;have v:q.toNat<j.length:=by lia
   have J:atI (j.map D.int) q=aa (.int j[q.toNat]):=by
    unfold atI ixN;rw[if_pos I.1,if_pos (by rw[cf];lia),aD,fL,du v];rfl
   have M:=o _ (lA v);unfold okS at M;generalize j[q.toNat]=s at J M;apply ay;refine gj (aH (aH (cb rfl (G _ _) J) rfl (qK (.inr ⟨by lia,by decide⟩))) (aH rfl (aH rfl rfl (mR (by decide))) (lK (by decide))) fX) ?_;refine NK (aH (aH rfl rfl fX) (aH (aH rfl rfl (mR (by decide))) rfl tW) (lK (by decide))) (G _ _) rfl I.1 (by rw[cf];lia) ?_;refine⟨j.set q.toNat ((s*1000003+c % 10 ^ 30+i) % (2 ^ 61-1)),.im (.int i),.im (.int c),.im (.int (s*1000003+c % 10 ^ 30)),⟨by rw[qd];exact u,λz hz=>?_⟩,?_⟩
   .rcases mem_or_eq_of_mem_set hz with e |e
    .exact o z e
    .have T:=Int.emod_nonneg (s*1000003+c % 10 ^ 30+i) (show(2 ^ 61-1:Int)≠0 by decide);rw[e];exact⟨T,(zz _ (show _<2 ^ 61-1 by decide))⟩
   .rw[map_set];rfl
  .rintro ρ ⟨j,A,B,E,⟨u,o⟩,rfl⟩;exact AN rfl (AL ⟨j,rfl,u,o⟩)
 obtain⟨d,e,j,rfl,u,o⟩:=GG (n:=6) (ds:=[.kl _,.int many]) w;exact⟨j,u,o,e⟩
abbrev ThW(t:Th):Prop:=bz t.1=ac/\(∀a∈t.2,cO a=ac)/\t.2.length<=6
abbrev ItW(z:Ti):Prop:=ThW z.1/\eJ z.2.1
abbrev PaW:Pa->Prop
 |.is t=>ThW t
 |.no t=>ThW t
 |.un a b=>cO a=ac/\cO b=ac
 |.ct _ n its ov=>eJ n/\(∀z∈its,ItW z)/\(0<its.length/\its.length<=10)/\(∀p∈ov,iF p)/\ov.length<=4
abbrev BdW(bd:List Pa):Prop:=(∀p∈bd,PaW p)/\bd.length<=5
abbrev PsW(ps:List (LN×LN)):Prop:=(∀p∈ps,iF p)/\ps.length<=5
abbrev RoW:Ro->Prop
 |.kind n ns=>bz n=ac/\(∀w∈ns,bz w=ac)/\ns.length<=16
 |.rule _ t bd ps=>ThW t/\BdW bd/\PsW ps
 |.choose lo hi its ov bd ps=>(eJ lo/\eJ hi)/\((∀z∈its,ItW z)/\0<its.length/\its.length<=10)/\((∀p∈ov,iF p)/\ov.length<=4)/\(BdW bd/\bd.length<=4)/\PsW ps
 |.never bd ps=>BdW bd/\bd≠[]/\PsW ps
def lj.w(h:lj t):ThW t:=⟨h.1,h.2.1,by have:=h.2.2;lia⟩
def lY.w(h:lY z):ItW z:=⟨h.1.w,by have:=h.2.1;have:=h.2.2;constructor <;> lia⟩
variable{p:Pa}
def paW(h:jB p):PaW p:=by
 cases p with
 |is t=>exact lj.w h
 |no t=>exact lj.w h
 |un a b=>exact h
 |ct w n its ov=>
  obtain⟨e,j,v,o,y⟩:=h;exact⟨e,λz u=>(j z u).w,by lia,o,by lia⟩
def gz.w(h:gz bd):BdW bd:=⟨λp e=>paW (h.1 p e),by have:=h.2;lia⟩
def ll.w(h:ll ps):PsW ps:=⟨h.1,by have:=h.2;lia⟩
def roW(h:jb r):RoW r:=by
 cases r with
 |kind n ns=>obtain⟨j,u,o,v⟩:=h;exact⟨j,u,by lia⟩
 |rule b t bd ps=>obtain⟨j,u,o⟩:=h;exact⟨j.w,u.w,o.w⟩
 |choose lo hi its ov bd ps=>
  obtain⟨j,u,o,v,A⟩:=h
  exact⟨j,⟨λz B=>(u.1 z B).w,by lia⟩,⟨o.1,by lia⟩,⟨v.w,v.2⟩,A.w⟩
 |never bd ps=>
  obtain⟨j,⟨p,y,_⟩,o⟩:=h;exact⟨j.w,λe=>by(rw[e]at y;nomatch y),o.w⟩
def vm{f:Xe}(e:ρ[i]?=aa (.own j4))(h:f ρ=aa (.lst ds,ρ1))(h':ρ1[i]?=aa (.own xs))(j:xs.length+ds.length<=16777216)(k:K (.nx (ρ1.set i (.own (xs++ds))))):wp (k9 i f) ρ K:=⟨_,by
 unfold k9;rw[e,h,aD,h'];show(if xs.length+ds.length<=16777216 then aa _ else ae)=_;rw[if_pos j],k⟩
def Q4{f g:Xe}(e:f ρ=aa (.lst xs,ρ1))(j:g ρ1=aa (.lst ys,hT))(o:xs.length+ys.length<=16777216)(k:K (.nx (hT.set i (.own (xs++ys))))):wp (uh i f g) ρ K:=⟨_,by
 unfold uh;rw[e,aD,j,aD];dsimp only;rw[if_pos o],k⟩
def ke{m:Addr->LD->LD->LD->Option (LD×D)}{f:Xa}(e:ρ[i]?=aa (.pin l0 j4))(j:f ρ=aa (ds,ρ1))(o:ρ1[i]?=aa (.pin l xs))(u:m l ds [] xs=aa (ys,d)):iA i m f ρ=aa (d,ρ1.set i (.pin l ys)):=by
 unfold iA;rw[e,j,aD,o];show(m l ds [] xs).map _=_;rw[u];rfl
open Classical in
def Eo{j o fn:MF1}{a b:D}{n:Nat}(u:j ρ=aa a)(v:o ρ=aa b)(y:fn ρ=aa (.int (n:Nat))):mIx (aj j (aj o nZ)) (oI (m2 dGt fn (kI 0))) ρ=aa (if n=0 then a else b):=by
 refine cb (i:=if decide ((n:Int)>0) then 1 else 0) (aV u (aV v rfl)) ?_ ?_
 .unfold oI;rw[aH y rfl oG];rfl
 .by_cases e:n=0
  .subst e;rfl
  .rw[if_pos (by exact decide_eq_true (show _>0 by lia)),if_neg e];rfl
abbrev opW{α:Type}(a c:LN)(g:α->L2N):List α->L2N
 | []=>[]
 |x::L=>a::(g x++tlW c g L)
def JQ(L:List α)(x:α):tlW c g (L++[x])=tlW c g L++(c::g x):=by
 unfold tlW;simp
variable{a:LN}
def Ep(L:List α)(x:α):opW a c g (L++[x])=opW a c g L++((if L=[] then a else c)::g x):=by
 cases L with
 |nil=>show a::_=_;simp[tlW,opW]
 |cons y L=>
  show a::(g y++tlW c g (L++[x]))=a::_++_;rw[JQ,if_neg (by simp)];simp
variable{L:List α}
def Er(h:∀x∈L,g x≠[]):bJ a (fZ [c] (L.map g))=opW a c g L:=by
 cases L with
 |nil=>rfl
 |cons x L=>
  unfold bJ;rw[jE,if_neg λe=>h x be (append_eq_nil_iff.mp e).1];rfl
def JR:opW a c g L=[]↔L=[]:=by
 cases L with
 |nil=>exact⟨λ_=>rfl,λ_=>rfl⟩
 |cons x L=>exact⟨λe=>(by nomatch e),λe=>(by nomatch e)⟩
def Es(L:List α)(x:α):fZ [c] ((L++[x]).map g)=(if L=[] then [] else fZ [c] (L.map g)++[c])++g x:=by
 cases L with
 |nil=>rfl
 |cons y L=>
  rw[if_neg (by simp),nJ,jE,jE,JQ];simp
def Et{B:Nat}:∀L:List α,(∀x∈L,(g x).length<=B)->(tlW c g L).length<=L.length*(B+1)
 | [],_=>gB _
 |x::L,h=>by
  have j:=Et L λy e=>h y (bQ _ e);have o:=h x be;show(_++tlW c g L).length<=_;rw[aO,aQ,aQ,qi];lia
variable{B:Nat}
def se(L:List α)(h:∀x∈L,(g x).length<=B):(opW a c g L).length<=L.length*(B+1):=by
 cases L with
 |nil=>exact gB _
 |cons x L=>
  have j:=Et (c:=c) L λy e=>h y (bQ _ e);have o:=h x be;show(a::_).length<=_;rw[aQ,aO,aQ,qi];lia
def Q5(L:List α)(h:∀x∈L,(g x).length<=B):(fZ [c] (L.map g)).length<=L.length*(B+1):=by
 cases L with
 |nil=>exact gB _
 |cons x L=>
  have j:=Et (c:=c) L λy e=>h y (bQ _ e);have o:=h x be;rw[jE,aO,aQ,qi];lia
def ia(a b:L2N):wD (a++b)=wD a++wD b:=mh
def c8(a:L2N):(wD a).length=a.length:=cf ..
def JS(t:Th):c6 t=t.1::(opW [40] [44] (λa=>[a]) t.2++(if t.2=[] then [] else [[41]])):=by
 unfold c6
 by_cases e:t.2=[]
 .rw[if_pos e,if_pos e,e];rfl
 .rw[if_neg e,if_neg e,<- Er λ_ _ e=>by cases e];unfold bJ;rw[if_neg λz=>e ((yU λ_ _ e=>by nomatch e).mp z)];rfl
def pL(h:ThW t):0<(c6 t).length/\(c6 t).length<=14:=by
 rw[JS,aQ,aO];have e:=se (a:=[40]) (c:=[44]) (g:=λa:LN=>[a]) (B:=1) t.2 λ_ _=>bN _;have j:=h.2.2
 have o:(if t.2=[] then [] else [[41]]:List _).length<=1:=by split <;> decide
 lia
def y6(t:Th)(h:ThW t):na [thD t]=aa (.lst (wD (c6 t))):=by
 obtain⟨Q,H,T⟩:=h;rw[JS];apply jo;apply ay;refine kQ (aV (cb rfl rfl rfl) rfl) ?_;apply ay;refine kU _ _ (λpre ρ=>∃u v,ρ=[.im _,.own (wD (t.1::opW [40] [44] (λa=>[a]) (t.2.take pre.length))),u,v]) (NM [] (aV (cb rfl rfl rfl) rfl)) ⟨_,_,rfl⟩ ?_ ?_
 .rintro pre i post ρ J ⟨u,v,rfl⟩
  have hi:i=pre.length/\i<t.2.length:=by
   have H:(dG t.2.length)[pre.length]?=aa i:=by rw[J,nG (bN _),Nat.sub_self];rfl
   obtain⟨j,e⟩:=cV.mp H;rw[List.getElem_range]at e;rw[ic]at j;lia
  obtain⟨A,E⟩:=hi;have M:t.2[i]?=aa (t.2.getD i []):=by rw[eA,du E];rfl
  have G:t.2.take (i+1)=t.2.take i++[t.2.getD i []]:=by rw[take_add_one,M];rfl
  rw[aO,show([i]:LN).length=1 from rfl,<- A,G,Ep];have j:(t.2.take i).length=i:=by rw[fA];lia
  have o:t.2.take i=[]↔i=0:=⟨λe=>by rw[e]at j;exact j.symm,λe=>by rw[e];rfl⟩;have I:=se (a:=[40]) (c:=[44]) (g:=λa:LN=>[a]) (B:=1) (t.2.take i) λ_ _=>bN _;generalize t.2.getD i []=w;generalize t.2.take i=O at j o I;refine⟨_,rfl,?_⟩;refine vm (ds:=wD [if O=[] then [40] else [44],w]) rfl (aA ?_) rfl ?_ ⟨.im (.int i),.im (.str (tx w)),?_⟩
  .unfold aZ;rw[aV (Eo rfl rfl rfl) (aV rfl rfl)]
   by_cases e:i=0
   .rw[if_pos e,if_pos (o.mpr e),opS];rfl
   .rw[if_neg e,if_neg λz=>e (o.mp z),cmS];rfl
  .rw[c8,c8,aQ];show _+2<=_;lia
  .show _=_;rw[<- ia];rfl
 .rintro ρ ⟨u,v,rfl⟩;rw[ic,take_length];have I:=se (a:=[40]) (c:=[44]) (g:=λa:LN=>[a]) (B:=1) t.2 λ_ _=>bN _;refine jT (λρ=>ρ=[.im (thD t),.own (wD (t.1::(opW [40] [44] (λa=>[a]) t.2++(if t.2=[] then [] else [[41]])))),u,v]) ?_ ?_
  .refine br (bq (aH (bL (aV (cb rfl rfl rfl) rfl) (lL t.2 sT)) rfl oG)) (λe=>?_) λe=>bc (k_J ?_)
   .have y:t.2≠[]:=λz=>by rw[z]at e;nomatch e
    rw[if_neg y];refine tV rfl rfl (by rw[c8,aQ];lia) (k_J ?_);rw[clS,show[sT [41]]=wD [[41]]from rfl,<- ia];rfl
   .have y:t.2=[]:=by
     have:=of_decide_eq_false e;exact lz.mp (by lia)
    rw[if_pos y,cM]
  .rintro ρ rfl;exact AN rfl (AL rfl)
abbrev stI(p:Int×List Ti)(z:Ti):Int×List Ti:=if z.2.1=1 then (nx p.1,p.2++[(z.1,z.2.1,decide (dr p.1 3=0))]) else (p.1,p.2++[(z.1,z.2.1,ai)])
abbrev cF(L:List Ti)(s:Int):Int×List Ti:=L.foldl stI (s,[])
def JT:∀(L:List Ti) (p:Int×List Ti),okS p.1->okS (L.foldl stI p).1/\(L.foldl stI p).2.map cP=p.2.map cP++L.map cP
 | [],p,h=>⟨h,by simp⟩
 |z::L,p,h=>by
  have e:okS (stI p z).1/\(stI p z).2.map cP=p.2.map cP++[cP z]:=by
   unfold stI;split
   .exact⟨aT _,by simp[cP]⟩
   .exact⟨h,by simp[cP]⟩
  obtain⟨j,o⟩:=JT L _ e.1;refine⟨j,?_⟩;rw[qf,o,e.2];simp
def Q6{y:Ti}(h:cP z=cP y):z.1=y.1/\z.2.1=y.2.1:=by
 injection h with h
 injection h with j o
 injection j with j
 injection j with j u
 injection j with j
 injection u with u _
 injection u with u
 injection o with o _
 injection o with o
 refine⟨Prod.ext (ja j) ((map_inj_right λa b e=>?_).mp u),o⟩
 injection e with e
 exact ja e
variable{I:Ti->Prop}{L:List Ti}
def Q7(G:∀t n b o,I (t,n,b)->I (t,n,o)){j:List Ti}(e:j.map cP=L.map cP)(h:∀z∈L,I z):∀z∈j,I z:=λz M=>by
 have H:cP z∈L.map cP:=by rw[<- e];exact mem_map_of_mem M
 obtain⟨y,J,u⟩:=mem_map.mp H;obtain⟨A,E⟩:=Q6 u;have v:=h y J;obtain⟨O,Q,T⟩:=y;subst A;subst E;exact G _ _ _ _ v
def nr(u:∀t n b j,I (t,n,b)->I (t,n,j))(v:okS s)(h:∀z∈L,I z):okS (cF L s).1/\(cF L s).2.map cP=L.map cP/\(∀z∈(cF L s).2,I z)/\(cF L s).2.length=L.length:=by
 obtain⟨o,e⟩:=JT L (s,[]) v;refine⟨o,e,Q7 u e h,?_⟩;have:=congrArg ie e;unfold cF
 simpa using this
def sh:∀t n b e,ItW (t,n,b)->ItW (t,n,e):=λ_ _ _ _ h=>h
def Q8(z:Ti):iI z≠[]:=by
 unfold iI c6
 split <;> simp
def Q9(h:ItW z):(iI z).length<=15:=by
 have e:=pL h.1;unfold iI
 split <;> (simp only[aO,iN,f7];lia)
def vn(h:∀z∈L,ItW z):(cy L).length<=L.length*16:=Q5 L λz e=>Q9 (h z e)
def JU:cy L=[]↔L=[]:=yU λz _=>Q8 z
def Ra{f g:Xt}(h:f ρ=aa (ac,ρ1)):mT f g ρ=aa (ac,ρ1):=by
 unfold mT;rw[h];rfl
def Rb{f g:Xt}{r:Option (Bool×LS)}(h:f ρ=aa (ai,ρ1))(e:g ρ1=r):mT f g ρ=r:=by
 unfold mT;rw[h];exact e
def nv{f:MF4}(h:f ρ=aa b):mTX f ρ=aa (b,ρ):=by
 unfold mTX;rw[h];rfl
def iJ(i:Nat)(l:Addr)(s k:Int)(e:ρ[i]?=aa (.pin l [.int s]))(j:f ρ=aa (.int k))(h:okS s)(o:0<k):aE i m_0 (ag (mX f) af) ρ=aa (.int (dr s k),ρ.set i (.pin l [.int (nx s)])):=iC e (aC (aA j) rfl) e (rL l s k h o)
def JV(l:Addr)(its:List Ti)(s:Int)(h:∀z∈its,ItW z)(hl:its.length<=10)(hs:okS s):xJ l [.lst (its.map cP)] [] [.int s]=aa ([.int (cF its s).1],.lst (wD (cy (cF its s).2))):=by
 generalize hS:D.lst _=u
 have w:wp xI [.im u,.pin l [.int s],.no,.no,.no] (λo=>∃E G,o=.rtS (.lst (wD (cy (cF its s).2))) [.im u,.pin l [.int (cF its s).1],.im (.lst (wD (cy (cF its s).2))),E,G]):=by
  apply ay;refine kQ rfl ?_;apply ay;refine kU its cP (λpre ρ=>∃E G,ρ=[.im u,.pin l [.int (cF pre s).1],.own (wD (cy (cF pre s).2)),E,G]) (by rw[<- hS];rfl) ⟨_,_,rfl⟩ ?_ ?_
  .rintro pre z post ρ M ⟨E,G,rfl⟩;have Q:=h z (by rw[M];simp);have hp:∀y∈pre,ItW y:=λy hy=>h y (by rw[M];simp[hy]);have hX:pre.length<=10:=by have:=congrArg ie M;rw[aO]at this;lia
   obtain⟨o1,o2,o3,o4⟩:=nr sh hs hp;have O:cF (pre++[z]) s=stI (cF pre s) z:=by unfold cF;rw[qc];rfl
   rw[O];generalize cF pre s=p at o1 o2 o3 o4;have b1:=vn o3;have b2:=pL Q.1;refine⟨_,rfl,?_⟩;show wp _ [.im u,.pin l _,.own _,.im _,.im _] _;refine jT (λρ=>ρ=[.im u,.pin l [.int p.1],.own (wD (if p.2=[] then [] else cy p.2++[[44]])),.im (thD z.1),.im (.int z.2.1)]) ?_ ?_
   .refine br (bq (aH (bL (aV rfl rfl) (lL _ sT)) rfl oG)) (λe=>?_) λe=>bc (k_J ?_)
    .have v:p.2≠[]:=λq=>by rw[JU.mpr q]at e;nomatch e
     rw[if_neg v];refine tV rfl rfl (by rw[c8];lia) (k_J ?_);show[_,_,Sl.own _,_,_]=_;rw[cmS,show[sT [44]]=wD [[44]]from rfl,<- ia]
    .have v:cy p.2=[]:=by
      have:=of_decide_eq_false e;exact lz.mp (by lia)
     rw[if_pos (JU.mp v),v]
   .rintro ρ rfl
    have b3:(if p.2=[] then [] else cy p.2++[[44]]).length<=161:=by
     split
     .exact gB _
     .simp only[aO,f7];lia
    have U:cy _=(if p.2=[] then [] else cy p.2++_)++iI (z.1,z.2.1,decide (dr p.1 3=0)):=Es ..;have J:cy _=(if p.2=[] then [] else cy p.2++_)++iI (z.1,z.2.1,ai):=Es ..;generalize (if p.2=[] then [] else cy p.2++_)=X at b3 U J;have T:=Q.2
    have j:∀q Y,Y.length<=1->wp (k9 2 (mX (aS na (aj (ah 3) nZ)))) [.im u,.pin l _,.own _,.im _,.im _] (λo=>o=.nx [.im u,.pin l [.int q],.own (wD (X++(Y++c6 z.1))),.im _,.im (.int z.2.1)]):=λq Y hY=>by
     refine vm (xs:=wD (X++Y)) rfl (aA (bL (aV rfl rfl) (y6 z.1 Q.1))) rfl (by rw[c8,c8,aO];lia) ?_;show Fl.nx [_,_,Sl.own _,_,_]=_;rw[<- ia,c7]
    by_cases H:z.2.1=1
    .have es:stI p z=_:=if_pos H;rw[es,U];unfold iI
     have et:mT (mTX (mB (m2 dNe (ah 4) (kI 1)))) (mBX (mX2 dEq (aE 1 m_0 (ag (mX (kI 3)) af)) (mX (kI 0)))) [.im u,.pin l [.int p.1],.own (wD X),.im (thD z.1),.im (.int z.2.1)]=aa (dr p.1 3==0,[.im u,.pin l [.int (nx p.1)],.own (wD X),.im (thD z.1),.im (.int z.2.1)]):=by
      refine Rb (nv (bq (aH rfl rfl (AG _ _ |>.trans ?_)))) (bxX (bv (iJ 1 l p.1 3 rfl rfl o1 (by decide)) (aA rfl) (gv _ _)));rw[H];rfl
     apply ay;refine fY et (λe=>?_) λe=>bc ?_
     .have v:dr p.1 3=0:=by simpa using e
      rw[if_neg (by rw[decide_eq_true v];simp)];refine tV (by show(ah 4 _).bind jV=_;exact D0 T) rfl (by rw[c8];lia) ?_;obtain⟨o,A,rfl⟩:=j _ [bE z.2.1] (bN _);rw[ia]at A;exact⟨_,A,⟨_,_,rfl⟩⟩
     .have v:¬dr p.1 3=0:=by simpa using e
      rw[if_pos ⟨H,decide_eq_false v⟩];obtain⟨o,A,rfl⟩:=j _ [] (by decide);rw[cM]at A;exact⟨_,A,⟨_,_,rfl⟩⟩
    .have es:stI p z=_:=if_neg H;rw[es,J];unfold iI;rw[if_neg λq=>H q.1];apply ay;refine fY (Ra (nv (bq (aH rfl rfl (AG _ _ |>.trans ?_))))) (λ_=>?_) λe=>by nomatch e
     .rw[show(z.2.1==1)=ai from beq_eq_false_iff_ne.mpr H];rfl
     refine tV (d:=.str (tx (bE z.2.1))) (xs:=wD X) (by show(ah 4 _).bind jV=_;exact D0 T) rfl (by rw[c8];lia) ?_;obtain⟨o,A,rfl⟩:=j p.1 [bE z.2.1] (bN _);rw[ia]at A;exact⟨_,A,⟨_,_,rfl⟩⟩
  .rintro ρ ⟨E,G,rfl⟩;exact cS rfl ⟨_,_,rfl⟩
 obtain⟨o,e,E,G,rfl⟩:=w;exact eQ (ρ:=[.im u,.pin l [.int (cF its s).1],.im (.lst (wD (cy (cF its s).2))),E,G]) e rfl
def vo(z:Str)(ps:List (LN×LN))(E:ps.length<=5):rk [.str z,.lst (ps.map prD)]=aa (.lst (wD (opW (cw z) [44] gP ps))):=by
 apply jo;apply ay;refine kQ rfl ?_;apply ay;refine kU ps prD (λpre ρ=>∃o u,ρ=[.im _,.im _,.own (wD (opW (cw z) [44] gP pre)),o,u]) rfl ⟨_,_,rfl⟩ ?_ ?_
 .rintro pre q post ρ y ⟨o,u,rfl⟩;have A:pre.length<=5:=by have:=congrArg ie y;rw[aO]at this;lia
  have v:=se (a:=cw z) (c:=[44]) (g:=gP) (B:=3) pre λ_ _=>bN _;refine⟨_,rfl,?_⟩;rw[Ep];have j:opW (cw z) [44] gP pre=[]↔pre=[]:=JR;generalize opW _ [44] gP pre=X at v j;refine vm (ds:=wD ((if pre=[] then cw z else [44])::gP q)) rfl (aA ?_) rfl ?_ ⟨.im (.str (tx q.1)),.im (.str (tx q.2)),?_⟩
  .unfold aZ;rw[aV (Eo rfl rfl (bL (aV rfl rfl) (lL X sT))) (aV rfl (aV rfl (aV rfl rfl)))]
   by_cases e:pre=[]
   .rw[if_pos e,j.mpr e,if_pos (show([]:List _).length=0 from rfl),cwD z,cwD "in"];rfl
   .rw[if_neg e,if_neg λq=>e (j.mp (lz.mp q)),cmS,cwD "in"];rfl
  .rw[c8,c8];show _+4<=_;lia
  .show[_,_,Sl.own _,_,_]=_;rw[<- ia]
 .rintro ρ ⟨o,u,rfl⟩;exact AN rfl (AL rfl)
abbrev prS(s:Int):Pa->Int×Pa
 |.ct w n its ov=>((cF its s).1,.ct w n (cF its s).2 ov)
 |p=>(s,p)
def vp(e:okS s)(h:PaW p):okS (prS s p).1/\PaW (prS s p).2/\(prS s p).2.toD=p.toD/\(prS s p).2.unl=p.unl:=by
 cases p with
 |ct w n its ov=>
  obtain⟨j,o,u,v⟩:=h;obtain⟨y,A,E,G⟩:=nr sh e o;refine⟨y,⟨j,E,by rw[G];exact u,v⟩,?_,rfl⟩;show D.tup _=_;rw[A]
  rfl
 | _=>exact⟨e,h,rfl,rfl⟩
def Rc(v:okS s)(h:jB p):jB (prS s p).2:=by
 cases p with
 |ct w n its ov=>
  obtain⟨e,j,o,u⟩:=h;obtain⟨E,G,y,A⟩:=nr (λ_ _ _ _ h=>h) v j
  exact⟨e,y,by rw[A];exact o,u⟩
 | _=>exact h
def Re(q:LN×LN):gP q≠[]:=λe=>by cases e
def lr(a:LN)(ps:List (LN×LN)):bJ a (cu ps)=opW a [44] gP ps:=Er λq _=>Re q
def si(a:LN)(bd:List Pa):bJ a (bWd bd)=opW a (cw "and") pWd bd:=Er λq _=>Jx q
def lu(a:LN)(h:ps.length<=5):(opW a [44] gP ps).length<=20:=by
 have:=se (a:=a) (c:=[44]) (g:=gP) (B:=3) ps λ_ _=>bN _;lia
def JW(h:PaW p):(pWd p).length<=200:=by
 cases p with
 |is t=>have:=pL h;show(c6 t).length<=200;lia
 |no t=>have:=pL h;show(cw "not" :: c6 t).length<=200;rw[aQ];lia
 |un a b=>show 3<=200;decide
 |ct w n its ov=>
  obtain⟨u,e,v,y,A⟩:=h;have j:=vn e;have o:=lu (cw "over") (ps:=ov) (by lia);show(_++(cy its++bJ _ _)).length<=200;rw[lr];simp only[aO,aQ,iN];lia
def eqZ{a b:Str}{t:Bool}(h:decide (cw a=cw b)=t):dEq (.str a) (.str b)=aa (.bl t):=by
 rw[cwD a,cwD b,eqT,h]
def m1S(h:f ρ=aa (.int n))(e:eJ n):m1 jV f ρ=aa (.str (tx (bE n))):=by
 unfold m1;rw[h];exact D0 e
def Rf(l:Addr)(p:Pa)(s:Int)(h:PaW p)(v:okS s):Cr l [p.toD] [] [.int s]=aa ([.int (prS s p).1],.lst (wD (pWd (prS s p).2))):=by
 have w:wp xK [.im p.toD,.pin l [.int s],.no] (λo=>∃j,o=.rtS (.lst (wD (pWd (prS s p).2))) [.im p.toD,.pin l [.int (prS s p).1],j]):=by
  cases p with
  |un a b=>
   apply ay;refine br (bq (aH (cb rfl rfl rfl) rfl rfl)) (λ_=>?_) λe=>by nomatch e
   refine cS ?_ ⟨_,rfl⟩
   rfl
  |is t=>
   apply ay;refine br (b:=ai) (bq (aH (cb rfl rfl rfl) rfl (eqZ (by decide +kernel)))) (λe=>by nomatch e) λ_=>bc ?_;apply ay
   exact cS (bL (aV (cb rfl rfl rfl) rfl) (y6 t h)) ⟨_,rfl⟩
  |no t=>
   have O:=pL h;apply ay;refine br (b:=ai) (bq (aH (cb rfl rfl rfl) rfl (eqZ (by decide +kernel)))) (λe=>by nomatch e) λ_=>bc ?_;apply ay;refine br (b:=ai) (bq (aH (cb rfl rfl rfl) rfl (eqZ (by decide +kernel)))) (λe=>by nomatch e) λ_=>bc ?_;apply ay;refine cS ?_ ⟨_,rfl⟩;have e:gL (aZ (aj (λ_=>aa _) nZ)) (aS na (aj (mIx (bO 0) (kI 1)) nZ)) [.im (Pa.toD (.no t)),.pin l [.int s],.no]=aa ([.str "not"]++wD _):=pH rfl (bL (aV (cb rfl rfl rfl) rfl) (y6 t h)) (by rw[c8];show 1+_<=_;lia);show(gL _ _ _).map D.lst=_;rw[e,cwD "not"]
   rfl
  |ct w n its ov=>
   obtain⟨A,u,E,J,M⟩:=h;obtain⟨Q,T,H,U⟩:=nr sh v u;have b1:=vn H;have b2:=lu (cw "over") (ps:=ov) (by lia)
   have ne:∀z:Str,z="unlike" \/ z="is" \/ z="not" -> dEq (.str (ctS w)) (.str z)=aa (.bl ai):=λz G=>by
    rcases G with rfl |rfl |rfl <;> (cases w <;> exact eqZ (by decide +kernel))
   apply ay;refine br (bq (aH (cb rfl rfl rfl) rfl (ne _ (by simp)))) (λe=>by nomatch e) λ_=>bc ?_;apply ay;refine br (bq (aH (cb rfl rfl rfl) rfl (ne _ (by simp)))) (λe=>by nomatch e) λ_=>bc ?_;apply ay;refine br (bq (aH (cb rfl rfl rfl) rfl (ne _ (by simp)))) (λe=>by nomatch e) λ_=>bc ?_
   have y:mX (aZ (aj (mIx (bO 0) (kI 0)) (aj (m1 jV (mIx (bO 0) (kI 1))) (aj (kSt "of") nZ)))) [.im (Pa.toD (.ct w n its ov)),.pin l [.int s],.no]=aa (.lst (wD [cw (ctS w),bE n,cw "of"]),[.im (Pa.toD (.ct w n its ov)),.pin l [.int s],.no]):=by
    refine aA ?_;unfold aZ;rw[aV (cb rfl rfl rfl) (aV (m1S (cb rfl rfl rfl) A) (aV rfl rfl)),cwD "of",cwD (ctS w)];rfl
   apply ay;refine bw (bv y (ke rfl (aC (aA (cb rfl rfl rfl)) rfl) rfl (JV l its s u E.2 v)) (d:=.lst (wD ([cw (ctS w),bE n,cw "of"]++cy (cF its s).2))) ?_) ?_
   .show(if (wD [cw (ctS w),bE n,cw "of"]).length+(wD (cy (cF its s).2)).length<=16777216 then aa (D.lst (wD _++wD _)) else ae)=_;rw[if_pos (by rw[c8,c8];show 3+_<=_;lia),ia]
   .show wp _ [.im (Pa.toD (.ct w n its ov)),.pin l [.int (cF its s).1],.im (.lst (wD ([cw (ctS w),bE n,cw "of"]++cy (cF its s).2)))] _;refine cS (d:=.lst (wD (pWd (prS s (.ct w n its ov)).2))) (aH rfl (bL (aV rfl (aV (cb rfl rfl rfl) rfl)) (vo "over" ov (by lia))) ?_) ⟨_,rfl⟩;show(if (wD ([cw (ctS w),bE n,cw "of"]++cy (cF its s).2)).length+(wD (opW (cw "over") [44] gP ov)).length<=16777216 then aa (D.lst (wD _++wD _)) else ae)=_;rw[if_pos (by rw[c8,c8,aO];show 3+_+_<=_;lia),<- ia];show _=aa (D.lst (wD ([cw (ctS w),bE n,cw "of"]++(cy (cF its s).2++bJ (cw "over") (cu ov)))));rw[lr,c7]
 obtain⟨o,e,j,rfl⟩:=w;exact eQ (ρ:=[.im p.toD,.pin l [.int (prS s p).1],j]) e rfl
abbrev stB(p:Int×List Pa)(q:Pa):Int×List Pa:=((prS p.1 q).1,p.2++[(prS p.1 q).2])
abbrev bdS(L:List Pa)(s:Int):Int×List Pa:=L.foldl stB (s,[])
def JX{P:Pa->Prop}(o:∀s p,okS s->P p->P (prS s p).2):∀(L:List Pa) (p:Int×List Pa),okS p.1->(∀q∈L,PaW q)->okS (L.foldl stB p).1/\(L.foldl stB p).2.map Pa.toD=p.2.map Pa.toD++L.map Pa.toD/\(L.foldl stB p).2.map Pa.unl=p.2.map Pa.unl++L.map Pa.unl/\((∀z∈p.2,P z)->(∀q∈L,P q)->∀z∈(L.foldl stB p).2,P z)
 | [],p,h,_=>⟨h,by simp,by simp,λa _=>a⟩
 |q::L,p,h,hL=>by
  obtain⟨u,M,v,A⟩:=vp h (hL q be);obtain⟨E,G,H,J⟩:=JX o L (stB p q) u λy j=>hL y (bQ _ j);refine⟨E,?_,?_,λb c=>J (λz e=>?_) λy j=>c y (bQ _ j)⟩
  .rw[qf,G];show(p.2++_).map Pa.toD++_=_;simp[v]
  .rw[qf,H];show(p.2++_).map Pa.unl++_=_;simp[A]
  .rcases dw.1 e with e |e
   .exact b z e
   .rw[bR.1 e];exact o _ _ h (c q be)
def JY{P:Pa->Prop}(v:∀s p,okS s->P p->P (prS s p).2){L:List Pa}(y:okS s)(h:∀q∈L,PaW q):okS (bdS L s).1/\(bdS L s).2.map Pa.toD=L.map Pa.toD/\(bdS L s).2.map Pa.unl=L.map Pa.unl/\((∀q∈L,P q)->∀z∈(bdS L s).2,P z)/\(bdS L s).2.length=L.length:=by
 obtain⟨j,e,o,u⟩:=JX v L (s,[]) y h;refine⟨j,e,o,u (λ_ h=>by nomatch h),?_⟩;have:=congrArg ie e;unfold bdS
 simpa using this
def sj{L:List Pa}(u:okS s)(h:∀q∈L,PaW q):okS (bdS L s).1/\(bdS L s).2.map Pa.toD=L.map Pa.toD/\(bdS L s).2.map Pa.unl=L.map Pa.unl/\(∀z∈(bdS L s).2,PaW z)/\(bdS L s).2.length=L.length:=by
 obtain⟨a,b,c,d,e⟩:=JY (P:=PaW) (λ_ _ j o=>(vp j o).2.1) u h;exact⟨a,b,c,d h,e⟩
def Eu(a:LN)(h:∀q∈bd,PaW q):(opW a (cw "and") pWd bd).length<=bd.length*201:=se bd λq e=>JW (h q e)
def Ev(l:Addr)(z:Str)(bd:List Pa)(s:Int)(h:BdW bd)(Y:okS s):xM l [.str z,.lst (bd.map Pa.toD)] [] [.int s]=aa ([.int (bdS bd s).1],.lst (wD (opW (cw z) (cw "and") pWd (bdS bd s).2))):=by
 obtain⟨H,h2⟩:=h;generalize Q:D.lst _=v
 have w:wp xL [.im (.str z),.im v,.pin l [.int s],.no,.no] (λo=>∃u,o=.rtS (.lst (wD (opW (cw z) (cw "and") pWd (bdS bd s).2))) [.im (.str z),.im v,.pin l [.int (bdS bd s).1],.im (.lst (wD (opW (cw z) (cw "and") pWd (bdS bd s).2))),u]):=by
  apply ay;refine kQ rfl ?_;apply ay;refine kU bd Pa.toD (λpre ρ=>∃u,ρ=[.im _,.im v,.pin l [.int (bdS pre s).1],.own (wD (opW (cw z) (cw "and") pWd (bdS pre s).2)),u]) (by rw[<- Q];rfl) ⟨_,rfl⟩ ?_ ?_
  .rintro pre q post ρ A ⟨u,rfl⟩;have J:=H q (by rw[A];simp);have T:∀y∈pre,PaW y:=λy hy=>H y (by rw[A];simp[hy]);have U:pre.length<=5:=by have:=congrArg ie A;rw[aO]at this;lia
   obtain⟨G,o2,_,M,o4⟩:=sj Y T;have E:bdS (pre++[q]) s=stB (bdS pre s) q:=by unfold bdS;rw[qc];rfl
   rw[E];generalize bdS pre s=p at G o2 M o4;have b1:=Eu (cw z) M;obtain⟨q1,q2,_,_⟩:=vp G J;have b2:=JW q2;unfold stB;rw[Ep];have j:opW (cw z) (cw "and") pWd p.2=[]↔p.2=[]:=JR;generalize opW _ _ pWd p.2=X at b1 j;refine⟨_,rfl,?_⟩;apply ay
   have O:(if X.length=0 then D.str z else D.str "and")=sT (if p.2=[] then cw z else cw "and"):=by
    by_cases e:p.2=[]
    .rw[if_pos e,j.mpr e,if_pos (show([]:List _).length=0 from rfl),cwD z]
    .rw[if_neg e,if_neg λy=>e (j.mp (lz.mp y)),cwD "and"]
   refine tV (d:=sT _) (by rw[<- O];exact Eo rfl rfl (bL (aV rfl rfl) (lL X sT))) rfl (by rw[c8];lia) ?_;show wp _ [.im _,.im v,.pin l _,.own (wD X++wD [if p.2=[] then cw z else cw "and"]),.im q.toD] _;rw[<- ia];refine vm rfl (ke rfl (aC (aA rfl) rfl) rfl (Rf l q p.1 J G)) rfl (by rw[c8,c8,aO,f7];lia) ⟨.im q.toD,?_⟩;rw[<- ia,c7];rfl
  .rintro ρ ⟨u,rfl⟩;exact cS rfl ⟨_,rfl⟩
 obtain⟨o,e,u,rfl⟩:=w;exact eQ e rfl
abbrev roS(s:Int):Ro->Int×Ro
 |.kind n ns=>(s,.kind n ns)
 |.rule b t bd ps=>((bdS bd s).1,.rule b t (bdS bd s).2 ps)
 |.choose lo hi its ov bd ps=>((bdS bd (cF its s).1).1,.choose lo hi (cF its s).2 ov (bdS bd (cF its s).1).2 ps)
 |.never bd ps=>((bdS bd s).1,.never (bdS bd s).2 ps)
def l7(e:okS s)(h:BdW bd):okS (bdS bd s).1/\BdW (bdS bd s).2/\(bdS bd s).2.map Pa.toD=bd.map Pa.toD:=by
 obtain⟨a,b,_,c,d⟩:=sj e h.1;exact⟨a,⟨c,by rw[d];exact h.2⟩,b⟩
def y7(o:okS s)(h:gz bd):gz (bdS bd s).2:=by
 obtain⟨_,_,_,c,d⟩:=JY (λ_ _ e j=>Rc e j) o h.w.1;exact⟨c h.1,by rw[d];exact h.2⟩
def Ew(v:okS s)(h:RoW r):okS (roS s r).1/\RoW (roS s r).2:=by
 cases r with
 |kind n ns=>exact⟨v,h⟩
 |rule b t bd ps=>
  obtain⟨o,j,u⟩:=h;obtain⟨a,c,d⟩:=l7 v j
  exact⟨a,o,c,u⟩
 |choose lo hi its ov bd ps=>
  obtain⟨o,j,u,y,E⟩:=h;obtain⟨A,J,G,H⟩:=nr sh v j.1;obtain⟨a,c,d⟩:=l7 A y.1
  exact⟨a,o,⟨G,by rw[H];exact j.2⟩,u,⟨c,by rw[(sj A y.1.1).2.2.2.2];exact y.2⟩,E⟩
 |never bd ps=>
  obtain⟨o,j,u⟩:=h;obtain⟨a,c,d⟩:=l7 v o;refine⟨a,c,λe=>j ?_,u⟩;rw[e]at d;exact map_eq_nil_iff.mp d.symm
def Rg(u:okS s)(h:jb r):okS (roS s r).1/\jb (roS s r).2/\(roS s r).2.toD=r.toD:=by
 cases r with
 |kind n ns=>exact⟨u,h,rfl⟩
 |rule b t bd ps=>
  obtain⟨j,o,v⟩:=h;obtain⟨a,c,d⟩:=l7 u o.w;refine⟨a,⟨j,y7 u o,v⟩,?_⟩;show D.tup _=_
  rw[d];rfl
 |choose lo hi its ov bd ps=>
  obtain⟨j,o,v,y,H⟩:=h;obtain⟨E,O,Q,T⟩:=nr (λ_ _ _ _ h=>h) u o.1;obtain⟨a,c,d⟩:=l7 E y.w;refine⟨a,⟨j,⟨Q,by rw[T];exact o.2⟩,v,y7 E y,H⟩,?_⟩;show D.tup _=_
  rw[d,O];rfl
 |never bd ps=>
  obtain⟨j,o,v⟩:=h;obtain⟨a,c,d⟩:=l7 u j.w;refine⟨a,⟨y7 u j,?_,v⟩,?_⟩
  .obtain⟨p,J,e⟩:=o;have A:=mem_map.2 ⟨p,J,e⟩;rw[<- (sj u j.w.1).2.2.1]at A;obtain⟨q,M,G⟩:=mem_map.1 A;exact⟨q,M,G⟩
  .show D.tup _=_;rw[d];rfl
def sk{a b:L2N}(h:a.length+b.length<=100000):bB (.lst (wD a)) (.lst (wD b))=aa (.lst (wD (a++b))):=by
 show(if (wD a).length+(wD b).length<=16777216 then aa _ else ae)=_;rw[if_pos (by rw[c8,c8];lia),ia]
def vq(a:LN)(h:BdW bd):(opW a (cw "and") pWd bd).length<=1005:=by
 have:=Eu a h.1;have:=h.2;lia
def JZ(l:Addr)(r:Ro)(s:Int)(h:RoW r)(y:okS s):uT l [r.toD] [] [.int s]=aa ([.int (roS s r).1],.lst (wD (cv (roS s r).2))):=by
 have w:wp xN [.im r.toD,.pin l [.int s],.no] (λo=>∃A,o=.rtS (.lst (wD (cv (roS s r).2))) [.im r.toD,.pin l [.int (roS s r).1],A]):=by
  cases r with
  |kind n ns=>
   obtain⟨j,u,E⟩:=h;apply ay;refine cS ?_ ⟨_,rfl⟩;show(gL _ _ _).map D.lst=_;rw[pH (a:=[.str "kind",.str (tx n)]) ?_ (cb rfl rfl rfl) (by rw[cf];show 2+_<=_;lia),cwD "kind"]
   .rfl
   .show(aj _ _ _).map D.lst=_
    rfl
  |never bd ps=>
   obtain⟨j,u,v⟩:=h;obtain⟨a,c,d⟩:=l7 y j;have b1:=vq (cw "never") c;have b2:=lu (cw "for") v.2;apply ay;refine br (b:=ai) (bq (aH (cb rfl rfl rfl) rfl (eqZ (by decide +kernel)))) (λe=>by nomatch e) λ_=>bc ?_;apply ay;refine bI (bv (ke rfl (aC (aA rfl) (aC (aA (cb rfl rfl rfl)) rfl)) rfl (Ev l "never" bd s j y)) (aA (bL (aV rfl (aV (cb rfl rfl rfl) rfl)) (vo "for" ps v.2))) ?_) ⟨_,rfl⟩;rw[sk (by lia),<- si,<- lr]
   have G:bWd (bdS bd s).2≠[]:=λe=>by
    have:=(sj y j.1).2.2.2.2;rw[(Eg.mp e)]at this;exact u (lz.mp this.symm)
   rw[show bJ (cw "never") (bWd (bdS bd s).2)=cw "never" :: bWd (bdS bd s).2 from if_neg G]
   rfl
  |choose lo hi its ov bd ps=>
   obtain⟨j,u,v,E,H⟩:=h;obtain⟨J,T,O,U⟩:=nr sh y u.1;obtain⟨a,c,d⟩:=l7 J E.1;have b0:=vn O;have b1:=vq (cw "if") c;have b2:=lu (cw "for") H.2;have Q:=lu (cw "over") (ps:=ov) (by have:=v.2;lia);apply ay;refine br (b:=ai) (bq (aH (cb rfl rfl rfl) rfl (eqZ (by decide +kernel)))) (λe=>by nomatch e) λ_=>bc ?_;apply ay;refine br (b:=ai) (bq (aH (cb rfl rfl rfl) rfl (eqZ (by decide +kernel)))) (λe=>by nomatch e) λ_=>bc ?_;refine jT (λρ=>ρ=[.im (Ro.toD (.choose lo hi its ov bd ps)),.pin l [.int (cF its s).1],.own (wD ([cw "choose",bE lo,cw "to",bE hi,cw "of"]++cy (cF its s).2++opW (cw "over") [44] gP ov))]) ?_ ?_
   .refine br (b:=ac) (bq (aH (cb rfl rfl rfl) rfl (eqZ (by decide +kernel)))) (λ_=>?_) λe=>by nomatch e
    apply ay;refine Q4 (xs:=wD [cw "choose",bE lo,cw "to",bE hi,cw "of"]) (aA ?_) (ke rfl (aC (aA (cb rfl rfl rfl)) rfl) rfl (JV l its s u.1 u.2.2 y)) (by rw[c8,c8];show 5+_<=_;lia) ?_
    .show(aj _ _ _).map D.lst=_;rw[aV rfl (aV (m1S (cb rfl rfl rfl) j.1) (aV rfl (aV (m1S (cb rfl rfl rfl) j.2) (aV rfl rfl)))),cwD "choose",cwD "to",cwD "of"];rfl
    refine vm (xs:=wD ([cw "choose",bE lo,cw "to",bE hi,cw "of"]++cy (cF its s).2)) rfl (aA (bL (aV rfl (aV (cb rfl rfl rfl) rfl)) (vo "over" ov (by have:=v.2;lia)))) rfl (by rw[c8,c8,aO];show 5+_+_<=_;lia) (k_J ?_);show[_,_,Sl.own (wD _++wD _)]=_;rw[<- ia]
   .rintro ρ rfl;refine bI (d:=.lst (wD (cv (roS s (.choose lo hi its ov bd ps)).2))) (bv (bv (aA rfl) (ke rfl (aC (aA rfl) (aC (aA (cb rfl rfl rfl)) rfl)) rfl (Ev l "if" bd (cF its s).1 E.1 J)) (sk (by rw[aO,aO];show 5+_+_+_<=_;lia))) (aA (bL (aV rfl (aV (cb rfl rfl rfl) rfl)) (vo "for" ps H.2))) ?_) ⟨_,rfl⟩;rw[sk (by rw[aO,aO,aO];show 5+_+_+_+_<=_;lia),<- si,<- lr,<- lr]
    congr 3
    show _=[cw "choose",bE lo,cw "to",bE hi,cw "of"]++((cy (cF its s).2++bJ (cw "over") (cu ov))++(bJ (cw "if") (bWd (bdS bd (cF its s).1).2)++bJ (cw "for") (cu ps)))
    simp only[c7]
  |rule b t bd ps=>
   obtain⟨j,u,v⟩:=h;obtain⟨a,c,d⟩:=l7 y u;have b0:=pL j;have b1:=vq (cw "if") c;have b2:=lu (cw "for") v.2
   have ne:∀z:Str,z="kind" \/ z="never" \/ z="choose" -> dEq (.str (ruS b)) (.str z)=aa (.bl ai):=λz M=>by
    rcases M with rfl |rfl |rfl <;> (cases b <;> exact eqZ (by decide +kernel))
   apply ay;refine br (b:=ai) (bq (aH (cb rfl rfl rfl) rfl (ne _ (by simp)))) (λe=>by nomatch e) λ_=>bc ?_;apply ay;refine br (b:=ai) (bq (aH (cb rfl rfl rfl) rfl (ne _ (by simp)))) (λe=>by nomatch e) λ_=>bc ?_;refine jT (λρ=>ρ=[.im (Ro.toD (.rule b t bd ps)),.pin l [.int s],.own (wD ([cw (ruS b)]++c6 t))]) ?_ ?_
   .refine br (b:=ai) (bq (aH (cb rfl rfl rfl) rfl (ne _ (by simp)))) (λe=>by nomatch e) λ_=>?_;refine kQ (d:=[.str (ruS b)]++wD (c6 t)) (pH ?_ (bL (aV (cb rfl rfl rfl) rfl) (y6 t j)) (by rw[c8];show 1+_<=_;lia)) (k_J ?_)
    .show(aj _ _ _).map D.lst=_;rfl
    .rw[cwD (ruS b)];rfl
   .rintro ρ rfl;refine bI (d:=.lst (wD (cv (roS s (.rule b t bd ps)).2))) (bv (bv (aA rfl) (ke rfl (aC (aA rfl) (aC (aA (cb rfl rfl rfl)) rfl)) rfl (Ev l "if" bd s u y)) (sk (by rw[aO];show 1+_+_<=_;lia))) (aA (bL (aV rfl (aV (cb rfl rfl rfl) rfl)) (vo "for" ps v.2))) ?_) ⟨_,rfl⟩;rw[sk (by rw[aO,aO];show 1+_+_+_<=_;lia),<- si,<- lr]
    congr 3
    simp only[c7,singleton_append];rfl
 obtain⟨o,e,A,rfl⟩:=w;exact eQ (ρ:=[.im r.toD,.pin l [.int (roS s r).1],A]) e rfl
abbrev lon(w:LN):Bool:=decide (w=[40]) || decide (w=[41]) || decide (w=[44])
abbrev GW(w:LN):Prop:=((plain w/\w≠[])\/lon w=ac)/\w.length<=31
abbrev gap(s:Int)(w e:LN):Int:=if dr s 3=0/\lon w=ai/\lon e=ai then 1 else dr s 3
abbrev stL(p:Int×LN×LN)(w:LN):Int×LN×LN:=(nx p.1,p.2.1++(cQ (gap p.1 w p.2.2).toNat 32++w),w)
abbrev lnS(W:L2N)(s:Int):Int×LN×LN:=W.foldl stL (s,[],[40])
abbrev lnP(W:L2N)(s:Int):Int×LN:=(nx (lnS W s).1,(lnS W s).2.1++cQ (dr (lnS W s).1 3).toNat 32)
def Ey(s:Int)(w e:LN):0<=gap s w e/\gap s w e<3:=by
 have:=bn s (k:=3) (by decide);unfold gap;split
 .exact⟨by decide,by decide⟩
 .exact this
variable{w:LN}
def Rh{e:LN}(h:gap s w e=0):lon w=ac\/lon e=ac:=by
 unfold gap at h;split at h
 .nomatch h
 .rename_i q
  cases j:lon w with
  |true=>exact .inl rfl
  |false=>
   cases o:lon e with
   |true=>exact .inr rfl
   |false=>exact absurd ⟨h,j,o⟩ q
def Ez(h:lon w=ac):∃c,gl c=ac/\w=[c]:=by
 unfold lon at h;simp only[jH,decide_eq_true_eq]at h
 rcases h with(h |h) |h
 .exact⟨40,rfl,h⟩
 .exact⟨41,rfl,h⟩
 .exact⟨44,rfl,h⟩
def Ri(h:plain w):lon w=ai:=by
 cases e:lon w with
 |false=>rfl
 |true=>
  obtain⟨c,j,rfl⟩:=Ez e;have:=(h c be).2;rw[j]at this
  nomatch this
abbrev brk(r:LN):Prop:=r=[]\/∃x q,r=x::q/\(x=32\/gl x=ac)
def Rj(h:plain w)(j:w≠[]){r:LN}(u:brk r):ws (w++r) []=w::ws r []:=by
 rw[kc w r [] h,qe]
 rcases u with rfl |⟨x,q,rfl,rfl |hx⟩
 .show fl w=w::fl [];unfold fl;rw[if_neg j];rfl
 .have e:=lZ 0 q w;have o:=lZ 0 q [];rw[show cQ _ 32++q=32::q from rfl]at e o;rw[e,o];unfold fl;rw[if_neg j];rfl
 .rw[lq q w hx,lq q [] hx];unfold fl;rw[if_neg j];rfl
def J0:∀(W:L2N) (p:Int×LN×LN) (V:L2N),(∀w∈W,GW w)->(∀r,brk r\/lon p.2.2=ac->ws (p.2.1++r) []=V++ws r [])->∀r,brk r\/lon (W.foldl stL p).2.2=ac->ws ((W.foldl stL p).2.1++r) []=V++W++ws r []
 | [],p,V,_,h=>λr j=>by rw[cM];exact h r j
 |w::W,p,V,hW,h=>by
  have:=J0 W (stL p w) (V++[w]) (λy H=>hW y (bQ _ H)) λr j=>?_
  .intro r j;rw[qf]at j ⊢;rw[this r j];simp
  .show ws (p.2.1++_++r) []=_;replace j:brk r\/lon w=ac:=j;have J:=Ey p.1 w p.2.2;rw[c7,c7,h]
   .rw[vf]
    rcases((hW w be).1)with⟨E,v⟩ |o
    .have G:=j.resolve_right λe=>by rw[Ri E]at e;cases e
     rw[Rj E v G];simp
    .obtain⟨c,u,rfl⟩:=Ez o;show V++ws (c::r) []=_;rw[lq r [] u];show V++([]++_)=_;simp
   .by_cases A:gap p.1 w p.2.2=0
    .rcases Rh A with o |o
     .obtain⟨c,u,rfl⟩:=Ez o;rw[A];exact .inl (.inr ⟨c,r,rfl,.inr u⟩)
     .exact .inr o
    .obtain⟨n,v⟩:∃n,(gap p.1 w p.2.2).toNat=n+1:=⟨(gap p.1 w p.2.2).toNat-1,by lia⟩;rw[v];exact .inl (.inr ⟨32,_,rfl,.inl rfl⟩)
def y8{W:L2N}(s:Int)(h:∀w∈W,GW w):ws (lnP W s).2 []=W:=by
 have:=J0 W (s,[],[40]) [] h (λr _=>rfl) (cQ (dr (lnS W s).1 3).toNat 32) (.inl ?_)
 .refine this.trans ?_;have e:=vf (dr (lnS W s).1 3).toNat [];rw[cM]at e;rw[e];show[]++W++fl []=W;simp[fl]
 .cases (dr (lnS W s).1 3).toNat with
  |zero=>exact .inl rfl
  |succ n=>exact .inr ⟨32,_,rfl,.inl rfl⟩
def J1:∀(W:L2N) (p:Int×LN×LN),okS p.1->(∀w∈W,GW w)->okS (W.foldl stL p).1/\(W.foldl stL p).2.1.length<=p.2.1.length+W.length*33
 | [],p,h,_=>⟨h,bN _⟩
 |w::W,p,h,hW=>by
  have j:=Ey p.1 w p.2.2;have o:=(hW w be).2;obtain⟨a,b⟩:=J1 W (stL p w) (aT _) λy e=>hW y (bQ _ e);refine⟨a,?_⟩;rw[qf];replace b:_<=(p.2.1++_).length+W.length*33:=b;rw[aO,aO,gA]at b;rw[aQ,qi];lia
def EA{W:L2N}(e:okS s)(h:∀w∈W,GW w):okS (lnS W s).1/\(lnS W s).2.1.length<=W.length*33:=by
 have:=J1 W (s,[],[40]) e h;rw[show((s,[],[40]):Int×LN×LN).2.1.length=0 from rfl,vP]at this;exact this
def J2(w:LN):jm (sT w) (.lst [.str "(",.str ")",.str ","])=aa (.bl (!lon w)):=by
 show aa (D.bl (!((tx [40]==tx w) || ((tx [41]==tx w) || ((tx [44]==tx w) || false)))))=_
 have e:∀a:LN,(tx a==tx w)=decide (w=a):=λa=>by
  apply kf.mpr;rw[beq_iff_eq,decide_eq_true_eq];exact⟨λh=>(ja h).symm,λh=>by rw[h]⟩
 rw[e,e,e,Bool.or_false];unfold lon;rw[Bool.or_assoc]
def J3(g:Int)(h:0<=g/\g<3):mV (.str " ") (.int g)=aa (.str (tx (cQ g.toNat 32))):=by
 show(if (" ":Str).length=1/\0<=g/\g<=1000 then aa _ else ae)=_;rw[if_pos ⟨by decide,h.1,by lia⟩];rfl
def vt(l:Addr)(W:L2N)(s:Int)(O:okS s)(h:∀w∈W,GW w)(hl:W.length<=1110):lT l [.lst (wD W)] [] [.int s]=aa ([.int (lnP W s).1],.str (tx (lnP W s).2)):=by
 generalize T:D.lst _=v
 have w:wp xw [.im v,.pin l [.int s],.no,.no,.no,.no] (λo=>∃J M j u,o=.rtS (.str (tx (lnP W s).2)) [.im v,.pin l [.int (lnP W s).1],J,M,j,u]):=by
  apply ay;refine gj rfl ?_;apply ay;refine gj (congrArg aa opS) ?_;apply ay;refine kU W sT (λpre ρ=>∃j u,ρ=[.im v,.pin l [.int (lnS pre s).1],.im (.str (tx (lnS pre s).2.1)),.im (sT (lnS pre s).2.2),j,u]) (by rw[<- T];rfl) ⟨_,_,rfl⟩ ?_ ?_
  .rintro pre w post ρ G ⟨j,u,rfl⟩;have Y:∀y∈pre,GW y:=λy hy=>h y (by rw[G];simp[hy]);have hX:pre.length<=1110:=by have:=congrArg ie G;rw[aO]at this;lia
   obtain⟨A,Q⟩:=EA O Y;have H:lnS (pre++[w]) s=stL (lnS pre s) w:=by unfold lnS;rw[qc];rfl
   rw[H];generalize lnS pre s=p at A Q;have U:=Ey p.1 w p.2.2;have hwl:=(h w (by rw[G];simp)).2;refine⟨_,rfl,?_⟩;apply ay;refine bw (iJ 1 l p.1 3 rfl rfl A (by decide)) ?_;show wp _ [.im v,.pin l _,.im _,.im _,.im _,.im _] _;refine jT (λρ=>ρ=[.im v,.pin l [.int (nx p.1)],.im (.str (tx p.2.1)),.im (sT p.2.2),.im (sT w),.im (.int (gap p.1 w p.2.2))]) ?_ ?_
   .refine br (qH (bq (aH rfl rfl (gv _ _))) (qH (bq (aH rfl rfl (J2 w))) (bq (aH rfl rfl (J2 p.2.2))))) (λe=>?_) λe=>bc (k_J ?_)
    .have E:gap p.1 w p.2.2=1:=by
      unfold gap;simp only[cq,beq_iff_eq,Bool.not_eq_true']at e;rw[if_pos ⟨e.1,e.2.1,e.2.2⟩]
     rw[E];exact gj rfl (k_J rfl)
    .have E:gap p.1 w p.2.2=dr p.1 3:=by
      unfold gap;rw[if_neg];rintro⟨q1,q2,q3⟩;rw[q1,q2,q3]at e
      nomatch e
     rw[E]
   .rintro ρ rfl;apply ay;have ea:(cQ (gap p.1 w p.2.2).toNat 32++w).length<=40:=by rw[aO,gA];lia
    exact IS rfl (aA (aH (aH rfl rfl (J3 _ U)) rfl (Je _ w (by rw[gA];lia)))) (Qm _ _ (by lia)) (gj rfl ⟨_,_,rfl⟩)
  .rintro ρ ⟨j,u,rfl⟩;obtain⟨A,Q⟩:=EA O h;have hd:=bn (lnS W s).1 (k:=3) (by decide);refine bI (bv (aA rfl) (bv (aA rfl) (iJ 1 l (lnS W s).1 3 rfl rfl A (by decide)) (J3 _ hd)) (Je _ _ (by rw[gA];lia))) ⟨_,_,_,_,rfl⟩
 obtain⟨o,e,J,M,j,u,rfl⟩:=w;exact eQ e rfl
def y9{α:Type}{g:α->L2N}{L:List α}(h:w∈fZ [c] (L.map g)):w=c\/∃x∈L,w∈g x:=by
 cases L with
 |nil=>nomatch h
 |cons x L=>
  rw[jE]at h
  rcases dw.1 h with h |h
  .exact .inr ⟨x,be,h⟩
  .obtain⟨y,e,h⟩:=mem_flatMap.1 h
   rcases bC.1 h with h |h
   .exact .inl h
   .exact .inr ⟨y,bQ _ e,h⟩
variable{xs:L2N}
def Rk(h:w∈bJ a xs):w=a\/w∈xs:=by
 unfold bJ at h;split at h
 .nomatch h
 .exact bC.1 h
def Rl(h:cO w=ac):GW w:=by
 have:=yJ h;exact⟨.inl ⟨QF (D7 h),λe=>by rw[e]at this;exact absurd this.1 (by decide)⟩,by lia⟩
def Rm(h:eJ n):GW (bE n):=by
 have:=yM h;exact⟨.inl ⟨QG n,λe=>by rw[e]at this;exact absurd this.1 (by decide)⟩,this.2⟩
def za(h:RoW r):(cv r).length<=1100:=by
 have A:∀{bd ps},BdW bd->PsW ps->(dE bd ps).length<=1025:=λ{bd ps} u o=>by
  unfold dE;rw[si,lr,aO];have:=vq (cw "if") u;have:=lu (cw "for") o.2;lia
 cases r with
 |kind n ns=>
  have:=h.2.2;show ns.length+1+1<=1100
  lia
 |rule b t bd ps=>
  have:=pL h.1;have:=A h.2.1 h.2.2;show(c6 t++dE bd ps).length+1<=1100;rw[aO]
  lia
 |never bd ps=>
  have j:=vq (cw "and") h.1;have v:=lu (cw "for") h.2.2.2;rw[<- si]at j
  have y:(bWd bd).length<=1006:=by
   unfold bJ at j;split at j
   .rename_i e;rw[e];exact gB _
   .rw[aQ]at j;lia
  show(bWd bd++bJ _ _).length+1<=1100;rw[lr,aO]
  lia
 |choose lo hi its ov bd ps=>
  obtain⟨u,o,E,G,H⟩:=h;have j:=vn o.1;have v:=lu (cw "over") (ps:=ov) (by have:=E.2;lia)
  have y:(dE bd ps).length<=825:=by
   unfold dE;rw[si,lr,aO];have:=Eu (cw "if") G.1.1;have:=lu (cw "for") H.2;lia
  show(_++((cy its++bJ _ _)++dE bd ps)).length<=1100;rw[lr,aO,aO,aO];show 5+_<=1100;lia
abbrev jn(a:LN):L2N->LN
 | []=>[]
 | [x]=>x
 |x::y::r=>x++a++jn a (y::r)
def J4(a:LN):∀ws:L2N,Txt.join (tx a) (ws.map tx)=tx (jn a ws):=by
 intro ws;show Builtin.Str.glued _ _=_;rw[StrLaws.glued_eq_join]
 induction ws with
 |nil=>rfl
 |cons x r e=>
  cases r with
  |nil=>rfl
  |cons y r=>
   show tx x++tx a++kj _ _=_;rw[e,pA,pA];rfl
abbrev nA(ws:L2N):Nat:=(ws.map ie).sum
def Ka(a:LN):∀ws,(jn a ws).length<=nA ws+ws.length*a.length
 | []=>gB _
 | [x]=>by show x.length<=_;unfold nA;simp
 |x::y::r=>by
  have e:=Ka a (y::r);show(x++a++jn a _).length<=_;rw[aO,aO];unfold nA at e ⊢;rw[jd,sum_cons,aQ,qi];lia
def Kb(b:Nat):∀ws:L2N,(∀w∈ws,w.length<=b)->nA ws<=ws.length*b
 | [],_=>gB _
 |w::ws,h=>by
  have j:=Kb b ws λx e=>h x (bQ _ e);have o:=h w be;unfold nA at j ⊢;rw[jd,sum_cons,aQ,qi];lia
def Rn(a:LN)(ws:L2N)(j:a.length<=16)(o:nA ws+ws.length<=900000):uf (.str (tx a)) (.lst (ws.map sT))=aa (.str (tx (jn a ws))):=by
 have e:ws.map sT=(ws.map tx).map D.str:=by rw[map_map];rfl
 show(lP _).bind _=_;rw[e,Hq,aD,if_pos,J4];refine joinOk_of_weight ?_ (by rw[c5];exact j);rw[map_map,cf];have:(λx=>x.length) ∘ tx=ie:=funext λw=>c5 w;rw[this];unfold nA at o;lia
def Rp(l:LN):lE (tx l) ("\n":Str)=(d7 10 l []).map tx:=by
 have e:("\n":Str)=⟨#[10]⟩:=rfl;rw[e];have h:=yN 10 _ (Ji _ _) (zQ (tx l) 10);rw[zR]at h;rw[h,map_map]
 conv=>lhs;rw[<- map_id (lE _ ⟨#[10]⟩)]
 apply vJ;intro p _;exact(nj p).symm
def Rq(l:LN)(h:l.length<=1000000):lO (.str (tx l)) (.str "\n")=aa (.lst ((d7 10 l []).map λw=>.str (tx w))):=by
 unfold lO;dsimp only;have:=Jj (tx l) ("\n":Str);rw[c5]at this;rw[if_pos ⟨by decide,by rw[c5];lia,by lia⟩,Rp,map_map];rfl
def Rr(Ls:L2N)(o:Ls≠[])(h:∀l∈Ls,10∉l):d7 10 (jn [10] Ls) []=Ls:=by
 have q:=yN 10 (Ls.map tx) (by intro e; exact o (map_eq_nil_iff.mp e)) (λp u=>by
  obtain⟨l,j,rfl⟩:=mem_map.mp u;exact h l j)
 have e:(kj ⟨#[10]⟩ (Ls.map tx))=tx (jn [10] Ls):=by
  have:=J4 [10] Ls;rw[show Txt.join _ _=kj _ _ from StrLaws.glued_eq_join ..]at this;exact this
 rw[e,map_map]at q;rw[q]
 conv=>rhs;rw[<- map_id Ls]
 rfl
abbrev ful(l:LN):Bool:=!decide (ws l []=[])
def Kc(l:LN)(h:l.length<=37000):qz (.lst (wD (ws l [])))=aa (ful l):=by
 unfold ful
 by_cases e:ws l []=[]
 .rw[e];rfl
 .rw[decide_eq_false e]
  cases q:ws l []with
  |nil=>exact absurd q e
  |cons a r=>rfl
def Rt(Ls:L2N)(H:Ls≠[])(u:∀l∈Ls,10∉l)(j:∀l∈Ls,l.length<=37000)(M:(jn [10] Ls).length<=1000000)(Q:Ls.length<=1000)(f:LN->D)(pre post:L2N)(b:LN)(e:Ls=pre++b::post)
 (J:∀l∈pre,ful l=ac->m_4 [.str (tx l)]=aa (f l))(G:ful b=ac)(v:r_4 [.str (tx b)]=ac):rE [.str (tx (jn [10] Ls))]=ac:=by
 show rf _ _ _ _ _ _ _ _=ac;unfold rf;rw[show fG _ _=aa _ from tT (aH rfl rfl (Rq _ M)) (by rw[Rr Ls H u];rfl)];show(decide _ && jy _ _ _ _ _ _)=ac;rw[decide_eq_true (by rw[cf];lia),Bool.true_and]
 have go:∀p:List _,(∀l∈p,l∈pre)->jy (bZ 0) (eG _) (aS m_4 _) (hZ rNo r_4 _) _ ((p++b::post).map λw=>D.str (tx w))=ac:=λp=>by
  induction p with
  |nil=>
   intro _;show jy _ _ _ _ _ (D.str _::_)=ac;unfold jy;rw[show bZ 0 _ [.no]=aa [.im _]from rfl];dsimp only;rw[show eG (aS lW (aj (ah 0) nZ)) _=aa ac from(gK (bL rfl (yP b (j b (by rw[e];simp)))) (Kc b (j b (by rw[e];simp)))).trans (by rw[G]),show hZ rNo r_4 (ag (mX (ah 0)) af) [.im _]=ac from v]
   rfl
  |cons l p o=>
   intro E;have A:=E l be;have y:=j l (by rw[e];exact fN _ A);have o:=o λx O=>E x (bQ _ O);show jy _ _ _ _ _ (D.str _::_)=ac;unfold jy;rw[show bZ 0 _ _=aa _ from rfl];dsimp only;rw[show eG _ _=aa _ from gK (bL rfl (yP l y)) (Kc l y)]
   cases q:ful l with
   |false=>exact o
   |true=>
    rw[show aS m_4 (aj (ah 0) nZ) _=aa _ from bL rfl (J l A q)];show(_ || (ac && _))=ac;rw[Bool.true_and,jH];exact .inr o
 have:=go pre λ_ h=>h;rw[<- e]at this;exact this
variable{r1 r2:LS->Bool}
def zb(h:r1 ρ=ac):cg r1 F r2 ρ=ac:=by unfold cg;rw[h];rfl
def l8(h:F ρ=aa (.nx ρ'))(e:r2 ρ'=ac):cg r1 F r2 ρ=ac:=by unfold cg;rw[h];dsimp only;rw[e,md]
def Ru{f:Xe}(h:r1 ρ=ac):dK r1 f r2 ρ=ac:=by unfold dK;rw[h];rfl
def Rv{f:Xe}(h:f ρ=aa (d,ρ'))(e:r2 ρ'=ac):dK r1 f r2 ρ=ac:=by unfold dK;rw[h];dsimp only;rw[e,md]
variable{ra rb:LS->Bool}
def pM{t:Xt}(h:t ρ=aa (ac,ρ'))(e:ra ρ'=ac):rIf t ra rb ρ=ac:=by unfold rIf;rw[h];exact e
def EB{t:Xt}(h:t ρ=aa (ai,ρ'))(e:rb ρ'=ac):rIf t ra rb ρ=ac:=by unfold rIf;rw[h];exact e
variable{p:Nat}
def Rw{nm:Str}{r:Addr->LD->LD->Bool}{W:L2N}{tl:LS}(e:rN.contains nm=ai)(h:r l [] (fls W p)=ac):bj 0 "Reader" nm rN r af (rd l W p::tl)=ac:=by
 show(decide _ && (decide _ && r l [] _))=ac;rw[decide_eq_true ⟨rfl,rfl,e⟩,decide_eq_true ⟨rfl,rfl⟩,h];rfl
open Classical in
def Kd{nm:Str}{r:Addr->LD->LD->Bool}{W:L2N}{a b:Sl}(e:rN.contains nm=ai)(h:∀l,r l [] (fls W p)=ac):oZ 1 "Reader" nm rN r af [a,.obj "Reader" rN (fls W p),b]=ac:=by
 unfold oZ;show(decide (("Reader":Str)="Reader" /\ rN=rN/\rN.contains nm=ai) && (decide (("Reader":Str)="Reader" /\ rN=rN) && decide (∀l,r l [] (fls W p)=ac)))=ac;rw[decide_eq_true ⟨rfl,rfl,e⟩,decide_eq_true ⟨rfl,rfl⟩,decide_eq_true h];rfl
variable{zs:LSt}
def Ke{g:LS->Option LSt}(h:f ρ=aa (sT w))(j:(jJ (tx w)).length<=16777216)(e:g ρ=aa zs):mFr f g ρ=aa (jJ (tx w)::zs):=by
 unfold mFr;rw[h,aD];show(if (jJ _).length<=16777216 then aa _ else ae).bind _=_;rw[if_pos j,aD,e];rfl
def Kf{x:Str}{g:LS->Option LSt}(e:g ρ=aa zs):mFc x g ρ=aa (x::zs):=by unfold mFc;rw[e];rfl
def sr{f:LS->Option LSt}(h:f ρ=aa zs)(j:(jw iR zs).length<=16777216):rOf (aj (mFs f) nZ) ρ=ac:=by
 have e:mFs f ρ=aa (.str (jw iR zs)):=by unfold mFs;rw[h,aD,if_pos j]
 unfold rOf;rw[aV e rfl];rfl
def Rx{W:L2N}(h:p<W.length):Cv l [] (fls W p)=ac:=by
 refine pM (nv (bq (aH rfl (bL rfl (yV W)) (kW.trans ?_)))) rfl;rw[decide_eq_true (by lia)]
nonrec abbrev Wrd(w:LN):Prop:=cO w=ac\/fz w=ac\/kept w=ac\/w=[40]\/w=[41]\/w=[44]
def nB(h:cO w=ac):Wrd w:=.inl h
def zc(h:eJ n):Wrd (bE n):=.inr (.inl (yT h))
def EC:Wrd [44]:=.inr (.inr (.inr (.inr (.inr rfl))))
def zd(h:ThW t):∀w∈c6 t,Wrd w:=λw e=>by
 obtain⟨j,o,u⟩:=h
 rcases bC.1 e with rfl |e
 .exact nB (l5 j)
 .split at e
  .nomatch e
  .rcases bC.1 e with rfl |e
   .exact(by decide +kernel)
   .rcases dw.1 e with e |e
    .rcases y9 e with rfl |⟨x,hx,e⟩
     .exact EC
     .rw[bR.1 e];exact nB (o x hx)
    .rw[bR.1 e];exact(by decide +kernel)
def ED(h:∀q∈ps,iF q):∀w∈cu ps,Wrd w:=λw e=>by
 rcases y9 e with rfl |⟨q,hq,e⟩
 .exact EC
 .obtain⟨a,b⟩:=h q hq
  rcases bC.1 e with rfl |e
  .exact nB (D9 a)
  .rcases bC.1 e with rfl |e
   .exact by decide +kernel
   .rw[bR.1 e];exact nB (l5 b)
def Ry{its:List Ti}(h:∀z∈its,ItW z):∀w∈cy its,Wrd w:=λw e=>by
 rcases y9 e with rfl |⟨z,hz,e⟩
 .exact EC
 .unfold iI at e
  rcases dw.1 e with e |e
  .split at e
   .nomatch e
   .rw[bR.1 e];exact zc ((h z hz).2)
  .exact zd (h z hz).1 w e
def ze(j:Wrd a)(o:∀w∈xs,Wrd w):∀w∈bJ a xs,Wrd w:=λw e=>by
 rcases Rk e with rfl |e
 .exact j
 .exact o w e
def pN{ys:L2N}(j:∀w∈xs,Wrd w)(o:∀w∈ys,Wrd w):∀w∈xs++ys,Wrd w:=λw e=>by
 rcases dw.1 e with e |e
 .exact j w e
 .exact o w e
def gR{ys:L2N}(j:Wrd a)(o:∀w∈ys,Wrd w):∀w∈a::ys,Wrd w:=λw e=>by
 rcases bC.1 e with rfl |e
 .exact j
 .exact o w e
def EE:∀w∈([]:L2N),Wrd w:=λw e=>by cases e
def Kg{its:List Ti}(h:∀z∈its,ItW z)(e:∀q∈ov,iF q):∀w∈l6 its ov,Wrd w:=pN (Ry h) (ze (by decide +kernel) (ED e))
def Rz{p:Pa}(h:PaW p):∀w∈pWd p,Wrd w:=by
 cases p with
 |is t=>exact zd h
 |no t=>exact gR (by decide +kernel) (zd h)
 |un a b=>exact gR (nB h.1) (gR (by decide +kernel) (gR (nB h.2) EE))
 |ct w n its ov=>
  obtain⟨e,j,u,o,v⟩:=h
  exact pN (gR (by cases w <;> decide +kernel) (gR (zc e) (gR (by decide +kernel) EE))) (Kg j o)
def Kh(h:BdW bd):∀w∈bWd bd,Wrd w:=λw e=>by
 rcases y9 e with rfl |⟨p,hp,e⟩
 .exact by decide +kernel
 .exact Rz (h.1 p hp) w e
def Ki(h:BdW bd)(e:PsW ps):∀w∈dE bd ps,Wrd w:=pN (ze (by decide +kernel) (Kh h)) (ze (by decide +kernel) (ED e.1))
def su(h:RoW r):∀w∈cv r,Wrd w:=by
 cases r with
 |kind n ns=>exact gR (by decide +kernel) (gR (nB (l5 h.1)) λw y=>nB (l5 (h.2.1 w y)))
 |rule b t bd ps=>exact gR (by cases b <;> decide +kernel) (pN (zd h.1) (Ki h.2.1 h.2.2))
 |never bd ps=>exact gR (by decide +kernel) (pN (Kh h.1) (ze (by decide +kernel) (ED h.2.2.1)))
 |choose lo hi its ov bd ps=>
  obtain⟨e,j,o,u,v⟩:=h;exact pN (gR (by decide +kernel) (gR (zc e.1) (gR (by decide +kernel) (gR (zc e.2) (gR (by decide +kernel) EE))))) (pN (Kg j.1 o.1) (Ki u.1 v))
inductive Rs where
 |nx (p:Nat) (tl:LS)
 |rt (p:Nat) (d:D) (tl:LS)
abbrev Rs.fl(W:L2N)(l:Addr):Rs->Fl
 |.nx p tl=>.nx (rd l W p::tl)
 |.rt p d tl=>.rtS d (rd l W p::tl)
abbrev SR(W:L2N)(F:MF3)(r:LS->Bool)(p:Nat)(tl:LS)(K:Rs->Prop):Prop:=(∀l,r (rd l W p::tl)=ac/\F (rd l W p::tl)=ae)\/∃o:Rs,(∀l,F (rd l W p::tl)=aa (o.fl W l))/\K o
abbrev XR{α:Type}(W:L2N)(f:LS->Option (α×LS))(r:LS->Bool)(p:Nat)(tl:LS)(K:Nat->α->Prop):Prop:=(∀l,r (rd l W p::tl)=ac/\f (rd l W p::tl)=ae)\/∃q d,(∀l,f (rd l W p::tl)=aa (d,rd l W q::tl))/\K q d
abbrev MR(W:L2N)(m:Addr->LD->LD->Option (LD×D))(r:Addr->LD->LD->Bool)(ds:LD)(p:Nat)(K:Nat->D->Prop):Prop:=(∀l,r l ds (fls W p)=ac/\m l ds (fls W p)=ae)\/∃q d,(∀l,m l ds (fls W p)=aa (fls W q,d))/\K q d
abbrev kM(K:Nat->D->Prop):Rs->Prop
 |.nx q _=>K q .non
 |.rt q d _=>K q d
abbrev kS(K e:Nat->LS->Prop)(R:Rs->Prop):Rs->Prop
 |.nx q tl=>K q tl/\e q tl
 |o=>R o
variable{r:LS->Bool}{K:Nat->D->Prop}
def MR.of{W:L2N}{tl:LS}(e:∀l,dC N l "Reader" rN ds (fls W p)=rd l W p::tl)(h:SR W F r p tl (kM K)):MR W (c4 N "Reader" rN F) (λl ds xs=>r (dC N l "Reader" rN ds xs)) ds p K:=by
 rcases h with h |⟨o,h,k⟩
 .refine .inl λl=>⟨by show r _=ac;rw[e];exact(h l).1,?_⟩;unfold c4;rw[e,(h l).2];rfl
 .cases o with
  |nx q t=>exact .inr ⟨q,_,λl=>dF ⟨_,by rw[e];exact h l,Eb⟩,k⟩
  |rt q d t=>exact .inr ⟨q,d,λl=>dF ⟨_,by rw[e];exact h l,cJ⟩,k⟩
variable{fa:Xa}
section
variable{W:L2N}{tl:LS}
def RB{nm:Str}(j:rN.contains nm=ai)(e:fa (rd l W p::tl)=aa (ds,rd l W p::tl))(h:m l ds (fls W p)=ae):aw 0 "Reader" nm rN m fa (rd l W p::tl)=ae:=by
 show(if ("Reader":Str)="Reader" /\ rN=rN/\rN.contains nm=ai then (fa _).bind _ else ae)=ae;rw[if_pos ⟨rfl,rfl,j⟩,e,aD];show(if ("Reader":Str)="Reader" /\ rN=rN then (m l ds _).map _ else ae)=ae;rw[if_pos ⟨rfl,rfl⟩,h];rfl
end
variable{rr:Addr->LD->LD->Bool}
section
variable{W:L2N}{tl:LS}
def RC{nm:Str}(j:rN.contains nm=ai)(e:fa (rd l W p::tl)=aa (ds,rd l W p::tl))(h:rr l ds (fls W p)=ac):bj 0 "Reader" nm rN rr fa (rd l W p::tl)=ac:=by
 unfold bj;dsimp only[List.getElem?_cons_zero];rw[decide_eq_true ⟨rfl,rfl,j⟩,e];show(ac && (decide _ && rr l ds _))=ac;rw[decide_eq_true ⟨rfl,rfl⟩,h];rfl
end
section
variable{W:L2N}{tl:LS}
def XR.methA{nm:Str}(j:rN.contains nm=ai)(e:∀l,fa (rd l W p::tl)=aa (ds,rd l W p::tl))(h:MR W m rr ds p K):XR W (aw 0 "Reader" nm rN m fa) (bj 0 "Reader" nm rN rr fa) p tl K:=by
 rcases h with h |⟨q,d,h,k⟩
 .exact .inl λl=>⟨RC j (e l) (h l).1,RB j (e l) (h l).2⟩
 .exact .inr ⟨q,d,λl=>fK j (e l) (h l),k⟩
end
def XR.meth{W:L2N}{tl:LS}{nm:Str}(e:rN.contains nm=ai)(h:MR W m rr [] p K):XR W (aw 0 "Reader" nm rN m af) (bj 0 "Reader" nm rN rr af) p tl K:=XR.methA e (λ_=>rfl) h
section
variable{W:L2N}{tl:LS}
def XR.pure{α:Type}{f:LS->Option (α×LS)}{d:α}{K:Nat->α->Prop}(h:∀l,f (rd l W p::tl)=aa (d,rd l W q::tl))(k:K q d):XR W f r p tl K:=.inr ⟨q,d,h,k⟩
end
def XR.imp{W:L2N}{tl:LS}{α:Type}{f:LS->Option (α×LS)}{K e:Nat->α->Prop}(h:XR W f r p tl K)(k:∀q d,K q d->e q d):XR W f r p tl e:=Or.imp id (λ⟨q,d,h,z⟩=>⟨q,d,h,k q d z⟩) h
def MR.imp{W:L2N}{e:Nat->D->Prop}(h:MR W m rr ds p K)(k:∀q d,K q d->e q d):MR W m rr ds p e:=Or.imp id (λ⟨q,d,h,z⟩=>⟨q,d,h,k q d z⟩) h
variable{f:Xe}{K:Nat->LD->Prop}
def AR.cons{W:L2N}{tl:LS}(h:XR W f r1 p tl λq d=>XR W fa r2 q tl λe ds=>K e (d::ds)):XR W (ag f fa) (dK r1 f r2) p tl K:=by
 rcases h with h |⟨q,d,h,h2⟩
 .exact .inl λl=>⟨Ru (h l).1,by unfold ag;rw[(h l).2];rfl⟩
 .rcases h2 with h2 |⟨q2,ds,h2,k⟩
  .exact .inl λl=>⟨Rv (h l) (h2 l).1,by unfold ag;rw[h l,aD,(h2 l).2];rfl⟩
  .exact .inr ⟨q2,d::ds,λl=>aC (h l) (h2 l),k⟩
section
variable{W:L2N}{tl:LS}
def RD{α:Type}{f:LS->Option (α×LS)}{K:Nat->α->Prop}(h:XR W f rNo p tl K):∃q d,(∀l,f (rd l W p::tl)=aa (d,rd l W q::tl))/\K q d:=h.elim (λh=>by cases (h 0).1) id
end
def AR.head{W:L2N}{tl:LS}(h:XR W f r1 p tl λq d=>XR W fa rNo q tl λj ds=>K j (d::ds)):XR W (ag f fa) r1 p tl K:=by
 rcases h with h |⟨q,d,h,e⟩
 .exact .inl λl=>⟨(h l).1,by unfold ag;rw[(h l).2];rfl⟩
 .obtain⟨o,ds,e,k⟩:=RD e;exact .inr ⟨o,d::ds,λl=>aC (h l) (e l),k⟩
def AR.nil{W:L2N}{tl:LS}(k:K p []):XR W af r p tl K:=.inr ⟨p,[],λ_=>rfl,k⟩
variable{K:Nat->D->Prop}
def XR.tup{W:L2N}{tl:LS}(h:XR W fa r p tl λq ds=>K q (.tup ds)):XR W (cc fa) r p tl K:=by
 rcases h with h |⟨q,d,h,k⟩
 .exact .inl λl=>⟨(h l).1,by unfold cc;rw[(h l).2];rfl⟩
 .exact .inr ⟨q,.tup d,λl=>by unfold cc;rw[h l];rfl,k⟩
variable{g:Xe}
section
variable{W:L2N}{tl:LS}
def XR.ifE{t:Xt}(j:∀l,t (rd l W p::tl)=aa (b,rd l W q::tl))(u:b=ac->XR W f r1 q tl K)(o:b=ai->XR W g r2 q tl K):XR W (jv t f g) (rIf t r1 r2) p tl K:=by
 cases b with
 |true=>
  rcases u rfl with h |⟨q2,d,h,k⟩
  .exact .inl λl=>⟨pM (j l) (h l).1,h9 (j l) (λ_=>(h l).2) (λe=>by nomatch e)⟩
  .exact .inr ⟨q2,d,λl=>h9 (j l) (λ_=>h l) (λe=>by nomatch e),k⟩
 |false=>
  rcases o rfl with h |⟨q2,d,h,k⟩
  .exact .inl λl=>⟨EB (j l) (h l).1,h9 (j l) (λe=>by nomatch e) (λ_=>(h l).2)⟩
  .exact .inr ⟨q2,d,λl=>h9 (j l) (λe=>by nomatch e) (λ_=>h l),k⟩
end
def XR.call{W:L2N}{tl:LS}{j:LD->OD}{o:LD->Bool}(h:XR W fa r p tl λq ds=>(o ds=ac/\j ds=ae)\/∃d,j ds=aa d/\K q d):XR W (eR j fa) (hZ r o fa) p tl K:=by
 rcases h with h |⟨q,ds,h,e⟩
 .exact .inl λl=>⟨by unfold hZ;rw[(h l).1];rfl,by unfold eR;rw[(h l).2];rfl⟩
 .rcases e with⟨e,u⟩ |⟨d,e,k⟩
  .exact .inl λl=>⟨by unfold hZ;rw[h l];dsimp only;rw[e,md],by unfold eR;rw[h l,aD];dsimp only;rw[u];rfl⟩
  .exact .inr ⟨q,d,λl=>nq (h l) e,k⟩
variable{G:MF3}{K:Rs->Prop}
def SR.seq{W:L2N}{tl:LS}(h:SR W F r1 p tl λo=>match o with |.nx q t=>SR W G r2 q t K |o=>K o):SR W (au F G) (cg r1 F r2) p tl K:=by
 rcases h with h |⟨o,h,h2⟩
 .exact .inl λl=>⟨zb (h l).1,by unfold au;rw[(h l).2];rfl⟩
 .cases o with
  |nx q t=>
   rcases h2 with h2 |⟨o,h2,k⟩
   .exact .inl λl=>⟨l8 (h l) (h2 l).1,by unfold au;rw[h l,aD];exact(h2 l).2⟩
   .exact .inr ⟨o,λl=>by unfold au;rw[h l,aD];exact h2 l,k⟩
  |rt q d t=>exact .inr ⟨.rt q d t,λl=>by unfold au;rw[h l];rfl,h2⟩
def SR.seqT{W:L2N}{tl:LS}(h:SR W F r p tl λo=>match o with |.nx q t=>SR W G rNo q t K |o=>K o):SR W (au F G) r p tl K:=by
 rcases h with h |⟨o,h,h2⟩
 .exact .inl λl=>⟨(h l).1,by unfold au;rw[(h l).2];rfl⟩
 .cases o with
  |nx q t=>
   rcases h2 with h2 |⟨o,h2,k⟩
   .cases (h2 0).1
   .exact .inr ⟨o,λl=>by unfold au;rw[h l,aD];exact h2 l,k⟩
  |rt q d t=>exact .inr ⟨.rt q d t,λl=>by unfold au;rw[h l];rfl,h2⟩
section
variable{W:L2N}{tl:LS}
def SR.pure{o:Rs}(h:∀l,F (rd l W p::tl)=aa (o.fl W l))(k:K o):SR W F r p tl K:=.inr ⟨o,h,k⟩
end
def SR.setX{W:L2N}{tl:LS}(h:XR W f r p tl λq d=>K (.nx q (tl.set i (.im d)))):SR W (aP (i+1) f) r p tl K:=by
 rcases h with h |⟨q,d,h,k⟩
 .exact .inl λl=>⟨(h l).1,by unfold aP;rw[(h l).2];rfl⟩
 .exact .inr ⟨_,λl=>by unfold aP;rw[h l];rfl,k⟩
def SR.set1{W:L2N}{tl:LS}(h:XR W f r p tl λq d=>K (.nx q (tl.set i (.own [d])))):SR W (fT (i+1) f) r p tl K:=by
 rcases h with h |⟨q,d,h,k⟩
 .exact .inl λl=>⟨(h l).1,by unfold fT;rw[(h l).2];rfl⟩
 .exact .inr ⟨_,λl=>by unfold fT;rw[h l];rfl,k⟩
def SR.ret{W:L2N}{tl:LS}(h:XR W f r p tl λq d=>K (.rt q d tl)):SR W (bi f) r p tl K:=by
 rcases h with h |⟨q,d,h,k⟩
 .exact .inl λl=>⟨(h l).1,by unfold bi;rw[(h l).2];rfl⟩
 .exact .inr ⟨_,λl=>by unfold bi;rw[h l];rfl,k⟩
def SR.drop{W:L2N}{tl:LS}(h:XR W f r p tl λq _=>K (.nx q tl)):SR W (fJ f) r p tl K:=by
 rcases h with h |⟨q,d,h,k⟩
 .exact .inl λl=>⟨(h l).1,by unfold fJ;rw[(h l).2];rfl⟩
 .exact .inr ⟨_,λl=>by unfold fJ;rw[h l];rfl,k⟩
section
variable{W:L2N}{tl:LS}
def SR.ifX{t:Xt}(e:∀l,t (rd l W p::tl)=aa (b,rd l W q::tl))(u:b=ac->SR W F r1 q tl K)(j:b=ai->SR W G r2 q tl K):SR W (eS t F G) (rIf t r1 r2) p tl K:=by
 cases b with
 |true=>
  rcases u rfl with h |⟨o,h,k⟩
  .exact .inl λl=>⟨pM (e l) (h l).1,by unfold eS;rw[e l];exact(h l).2⟩
  .exact .inr ⟨o,λl=>by unfold eS;rw[e l];exact h l,k⟩
 |false=>
  rcases j rfl with h |⟨o,h,k⟩
  .exact .inl λl=>⟨EB (e l) (h l).1,by unfold eS;rw[e l];exact(h l).2⟩
  .exact .inr ⟨o,λl=>by unfold eS;rw[e l];exact h l,k⟩
end
section
variable{W:L2N}{tl:LS}
def SR.ifS{t:MF4}(e:∀l,t (rd l W p::tl)=aa b)(u:b=ac->SR W F r1 p tl K)(j:b=ai->SR W G r2 p tl K):SR W (aY t F G) (rIf (mTX t) r1 r2) p tl K:=by
 cases b with
 |true=>
  rcases u rfl with h |⟨o,h,k⟩
  .exact .inl λl=>⟨pM (nv (e l)) (h l).1,by unfold aY;rw[e l];exact(h l).2⟩
  .exact .inr ⟨o,λl=>by unfold aY;rw[e l];exact h l,k⟩
 |false=>
  rcases j rfl with h |⟨o,h,k⟩
  .exact .inl λl=>⟨EB (nv (e l)) (h l).1,by unfold aY;rw[e l];exact(h l).2⟩
  .exact .inr ⟨o,λl=>by unfold aY;rw[e l];exact h l,k⟩
end
section
variable{W:L2N}{tl:LS}
def SR.raise(h:∀l,r (rd l W p::tl)=ac):SR W (λ_=>ae) r p tl K:=.inl λl=>⟨h l,rfl⟩
end
def SR.next{W:L2N}{tl:LS}(k:K (.nx p tl)):SR W aU r p tl K:=.inr ⟨.nx p tl,λ_=>rfl,k⟩
variable{xs:LD}
section
variable{W:L2N}{tl:LS}
def SR.app(hi:tl[i]?=aa (.own xs))(j:xs.length<16777216)(h:XR W f r p tl λq d=>K (.nx q (tl.set i (.own (xs++[d]))))):SR W (dP (i+1) f) (j6 (i+1) r) p tl K:=by
 have e:∀l q,(rd l W q::tl)[i+1]?=aa _:=λl q=>by rw[qb];exact hi
 rcases h with h |⟨q,d,h,k⟩
 .exact .inl λl=>⟨by unfold j6;rw[e];exact(h l).1,by unfold dP;rw[e,(h l).2];rfl⟩
 .refine .inr ⟨_,λl=>?_,k⟩;unfold dP;rw[e,h l,aD,e];dsimp only;rw[if_pos j];rfl
end
section
variable{W:L2N}{tl:LS}
def SR.loop{t:Xt}(I:Nat->LS->Prop){K:Rs->Prop}(A:∀p tl,I p tl->(∃q,(∀l,t (rd l W p::tl)=aa (ai,rd l W q::tl))/\K (.nx q tl))\/∃q,p<W.length/\(∀l,t (rd l W p::tl)=aa (ac,rd l W q::tl))/\SR W F r q tl λo=>∃v t',o=.nx v t'/\p<v/\I v t'):
  ∀(n p:Nat) (tl:LS),W.length-p<n->I p tl->SR W (dm t F n) (gw t F r n) p tl K
 | 0,p,tl,h,_=>absurd h (Nat.not_lt_zero _)
 |n+1,p,tl,h,i=>by
  rcases A p tl i with⟨q,u,k⟩ |⟨q,E,u,j⟩
  .exact .inr ⟨_,λl=>by unfold dm;rw[u l];rfl,k⟩
  .rcases j with j |⟨o,j,v,t',rfl,hq,i'⟩
   .refine .inl λl=>⟨?_,?_⟩
    .unfold gw;rw[u l];dsimp only;rw[(j l).1];rfl
    .unfold dm;rw[u l,aD,if_pos rfl,(j l).2];rfl
   .have e:∀l,gw t F r _ _=(r _ || gw t F r n _):=λl=>by
     rw[show gw t F r (n+1) _=(match t _ with |some (ac,ρ1)=>r ρ1 || _ | _=>ai)from rfl,u l]
     dsimp only;rw[j l];rfl
    have y:∀l,dm t F _ _=dm t F n _:=λl=>by
     rw[show dm t F (n+1) _=(t _).bind _ from rfl,u l,aD,if_pos rfl,j l];rfl
    rcases SR.loop I A n v t' (by lia) i' with h3 |⟨o,h3,k⟩
    .exact .inl λl=>⟨by rw[e,(h3 l).1,md],by rw[y];exact(h3 l).2⟩
    .exact .inr ⟨o,λl=>by rw[y];exact h3 l,k⟩
end
section
variable{W:L2N}{tl:LS}
def SR.fix(hi:tl[i]?=aa (.own xs))(h:SR W F r p (tl.set i (.im (.lst xs))) K):SR W (gJ (i+1) F) (rg (i+1) r) p tl K:=by
 have e:∀l q,(rd l W q::tl)[i+1]?=aa _:=λl q=>by rw[qb];exact hi
 have j:∀l,wK _ _=rd l W p::tl.set i _:=λl=>by unfold wK;rw[e];rfl
 rcases h with h |⟨o,h,k⟩
 .exact .inl λl=>⟨by unfold rg;rw[e];exact(h l).1,by unfold gJ;rw[j];exact(h l).2⟩
 .exact .inr ⟨o,λl=>by unfold gJ;rw[j];exact h l,k⟩
end
inductive Cl where
 |nm |vr |nu |ng |lp |rp |cm |no
 |kp (w:LN)
 deriving DecidableEq
abbrev cls(w:LN):Cl:=if bz w then .nm else if dZ w then .vr else if fz w then (if w.head?=aa 45 then .ng else .nu) else if w=[40] then .lp else if w=[41] then .rp else if w=[44] then .cm else if kept w then .kp w else .no
abbrev kIn(w:LN)(e:LSt):Bool:=e.any λk=>decide (w=cw k)
abbrev pO(v:LN)(c:Cl):Bool:=if kIn v ["rule","may","not","in"] then decide (c=.nm) else if kIn v ["never","if","and"] then (match c with |.nm=>ac |.vr=>ac |.kp w=>kIn w ["not","least","most"] | _=>ai) else if kIn v ["choose","least","most","to"] then decide (c=.nu\/c=.ng) else if kIn v ["of"] then decide (c=.nu\/c=.nm) else if kIn v ["over","for"] then decide (c=.vr) else if kIn v ["unlike"] then decide (c=.nm\/c=.vr) else ai
abbrev nxt:Cl->Cl->Bool
 |.no,.kp w=>kIn w ["rule","may","choose","never"]
 |.kp v,c=>pO v c
 |.nu,.nm=>ac
 |.nu,.kp w=>kIn w ["to","of"]
 |.ng,.kp w=>kIn w ["to","of"]
 |.cm,c=>decide (c=.nu\/c=.nm\/c=.vr)
 |.nm,.lp=>ac
 |.nm,.cm=>ac
 |.nm,.kp w=>kIn w ["if","and","for","over","unlike"]
 |.rp,.cm=>ac
 |.rp,.kp w=>kIn w ["if","and","for","over"]
 |.vr,.kp w=>kIn w ["unlike","in","and","for"]
 | _,_=>ai
def vv(v:LN)(c:Cl):nxt (.kp v) c=pO v c:=by cases c <;> rfl
structure Sq where
 c:Cl
 b:Nat
 q:Nat
abbrev stS(s:Sq)(c:Cl):Option Sq:=
 if s.b=0 then (if nxt s.c c then (match c with
  |.lp=>aa ⟨.lp,1,s.q⟩
  |.kp w=>if w=cw "over" then aa ⟨.kp w,0,2⟩ else if w=cw "for" then aa ⟨.kp w,0,3⟩ else if w=cw "in" then (if s.q=0 then ae else aa ⟨.kp w,0,s.q-1⟩) else aa ⟨.kp w,0,s.q⟩
  |c=>aa ⟨c,0,s.q⟩) else ae)
 else if decide ((s.c=.lp\/s.c=.cm)/\(c=.nm\/c=.vr)) then aa ⟨c,s.b,s.q⟩
 else if decide ((s.c=.nm\/s.c=.vr)/\c=.rp) then aa ⟨.rp,0,s.q⟩
 else if decide ((s.c=.nm\/s.c=.vr)/\c=.cm/\s.b<3) then aa ⟨.cm,s.b+1,s.q⟩
 else ae
abbrev goW:Sq->L2N->Option Sq
 |s,[]=>aa s
 |s,w::r=>(stS s (cls w)).bind λs'=>goW s' r
abbrev sq0:Sq:=⟨.no,0,0⟩
abbrev acc(s:Sq):Prop:=s.b=0/\(s.c=.nm\/s.c=.rp\/s.c=.vr)
def zf:∀(a b:L2N) (s:Sq),goW s (a++b)=(goW s a).bind λs'=>goW s' b
 | [],_,_=>rfl
 |w::a,b,s=>by
  show(stS s _).bind _=((stS s _).bind _).bind _
  cases stS s _ with
  |none=>rfl
  |some s'=>exact zf a b s'
abbrev bX(W:L2N)(p:Nat)(s:Sq):Prop:=p<=W.length/\goW sq0 (W.take p)=aa s
def sv{W:L2N}(h:W.getD p []≠[]):p<W.length:=by
 rcases qh p W.length with h' |h'
 .exact h'
 .rw[eA,sD h']at h;exact absurd rfl h
variable{s s':Sq}
def bX.step{W:L2N}{c:Cl}(h:bX W p s)(u:W.getD p []≠[])(j:cls (W.getD p [])=c)(o:stS s c=aa s'):bX W (p+1) s':=by
 have e:=sv u;refine⟨e,?_⟩;rw[take_succ,du e,zf,h.2,aD];rw[eA,du e]at j;show(stS s _).bind _=_;rw[show cls W[p]=c from j,o];rfl
def vw(h:fz w=ac):w≠[]/\∀x∈w,x=45\/(48<=x/\x<=57):=by
 unfold fz at h;split at h
 .rename_i e;rw[beq_iff_eq]at e;subst e;refine⟨(by decide),λx j=>?_⟩;rw[bR.mp j];lia
 .rw[cq]at h;have o:=h.1;unfold made at o;rw[cq]at o;have u:=vh o.2;have y:=o.1;rw[cq]at y;have v:=of_decide_eq_true y.1;unfold fgs at u v;split at u
  .rename_i e
   cases w with
   |nil=>nomatch e
   |cons a r=>
    refine⟨(λe=>by nomatch e),λx j=>?_⟩
    rcases bC.mp j with rfl |j
    .exact .inl (dz e)
    .exact .inr ((pI x).mp (u x j))
  .rename_i e;exact⟨(λe=>by rw[e]at v;exact absurd v (by decide)),λx j=>.inr ((pI x).mp (u x j))⟩
def EF(h:kept w=ac):bz w=ai/\dZ w=ai/\fz w=ai/\w≠[40]/\w≠[41]/\w≠[44]:=by
 have j:∀k∈kpW,bz k=ai/\dZ k=ai/\fz k=ai/\k≠[40]/\k≠[41]/\k≠[44]:=by decide +kernel
 obtain⟨k,o,e⟩:=any_eq_true.mp h;rw[<- beq_iff_eq.mp e];exact j k o
def pP(h:kept w=ac):cls w=.kp w:=by
 obtain⟨e,j,o,u,v,y⟩:=EF h;unfold cls;rw[e,j,o,if_neg cp,if_neg cp,if_neg cp,if_neg u,if_neg v,if_neg y,if_pos h]
def pQ(h:bz w=ac):cls w=.nm:=by unfold cls;rw[if_pos h]
def Kj(h:dZ w=ac):bz w=ai:=by
 cases e:bz w with
 |false=>rfl
 |true=>rw[QH e]at h;nomatch h
def zg(h:dZ w=ac):cls w=.vr:=by unfold cls;rw[Kj h,if_neg cp,if_pos h]
def vz(h:bz w=ac):w≠[]:=λe=>by rw[e]at h;exact absurd h (by decide +kernel)
def Kk(h:dZ w=ac):w≠[]:=λe=>by rw[e]at h;exact absurd h (by decide +kernel)
def EG(h:fz w=ac):bz w=ai/\dZ w=ai:=by
 obtain⟨j,o⟩:=vw h;refine⟨?_,?_⟩
 .cases e:bz w with
  |false=>rfl
  |true=>rw[Jw e]at h;nomatch h
 .cases e:dZ w with
  |false=>rfl
  |true=>
   cases w with
   |nil=>exact absurd rfl j
   |cons a r=>
    have u:=(rY e).1 a be;have v:=o a be;lia
def EH(h:fz w=ac):cls w=if w.head?=aa 45 then .ng else .nu:=by
 unfold cls;rw[(EG h).1,(EG h).2,if_neg cp,if_neg cp,if_pos h]
def EI:cls [44]=.cm:=by decide +kernel
def RE:cls [40]=.lp:=by decide +kernel
def RF:cls [41]=.rp:=by decide +kernel
open NumText
abbrev WOk(W:L2N):Prop:=(∀w∈W,asc w/\w.length<=1000)/\W.length<=100000
def WOk.at{W:L2N}(h:WOk W)(p:Nat):asc (W.getD p [])/\(W.getD p []).length<=1000:=by
 rw[eA]
 cases e:W[p]? with
 |none=>exact⟨by unfold asc;decide,gB _⟩
 |some w=>exact h.1 w (me e)
def EJ(a b:Str):(jw iR [a,b]).length=a.length+b.length:=by
 show(_++b).length=_;rw[zP,zP];show 0+a.length+b.length=_;lia
def Kl(h:asc w/\w.length<=1000):(jJ (tx w)).length<=10002:=by
 have:=StrLaws.reprText_len (tx w) λc o=>by
  have j:c∈w:=by simpa using o
  exact vO (of_decide_eq_true (all_eq_true.mp h.1 c j)) (by decide)
 have e:=c5 w;lia
variable{z:Str}
def EK(h:asc w/\w.length<=1000)(o:z.length<=1000)(e:ah 1 ρ=aa (sT w)):rOf (aj (mFs (mFr (ah 1) (mFc z nZ))) nZ) ρ=ac:=by
 have j:=Kl h;exact sr (Ke e (by lia) (Kf rfl)) (by rw[EJ];lia)
def vA{W:L2N}{tl:LS}(k:K (.nx (p+1) (tl.set 0 (.im (sT (W.getD p [])))))):SR W (aP 1 (aw 0 "Reader" "take" rN i9 af)) r p tl K:=SR.setX (XR.pure (λl=>fK rfl rfl (pJ l W p)) k)
def sw{W:L2N}(u:WOk W)(p:Nat):MR W m_3 r_3 [] p λq d=>q=p+1/\bz (W.getD p [])=ac:=by
 refine MR.of (λ_=>rfl) ?_;refine SR.seq (vA ?_);have j:=u.at p;generalize W.getD p []=w at j;exact SR.seqT (SR.ifS (λl=>oA (gK (bL rfl (Jn w j.2 j.1)) rfl)) (λe=>SR.raise λl=>EK j (by decide) rfl) λe=>SR.next (SR.pure (o:=.rt _ _ _) (λ_=>rfl) ⟨rfl,by simpa using e⟩))
def Km{W:L2N}(u:WOk W)(p:Nat):MR W rq xR [] p λq d=>q=p+1/\dZ (W.getD p [])=ac:=by
 refine MR.of (λ_=>rfl) ?_;refine SR.seq (vA ?_);have j:=u.at p;generalize W.getD p []=w at j;exact SR.seqT (SR.ifS (λl=>oA (gK (bL rfl (yR w j.2 j.1)) rfl)) (λe=>SR.raise λl=>EK j (by decide) rfl) λe=>SR.next (SR.pure (o:=.rt _ _ _) (λ_=>rfl) ⟨rfl,by simpa using e⟩))
def RG{cs:LN}(h:lX dgL cs=ac):digitsVal cs<10 ^ cs.length:=by
 have o:∀(l:LN) a,(∀x∈l,x<=57)->l.foldl (λacc c=>acc*10+(c-48)) a<(a+1)*10 ^ l.length:=by
  intro l
  induction l with
  |nil=>intro a _;simp
  |cons x l v=>
   intro a j;have e:=v (a*10+(x-48)) λy u=>j y (bQ _ u);have A:=j x be;rw[aQ,qf,Nat.pow_succ];refine fO e ?_;rw[Nat.mul_comm (10 ^ l.length) 10,<- Nat.mul_assoc];exact Nat.mul_le_mul_right _ (show _<=_ by lia)
 have e:=o cs 0 λx j=>((pI x).mp (vh h x j)).2;rw[vP,Nat.one_mul]at e;exact e
def Kn(h:fz w=ac):∃n,eJ n/\bE n=w/\(n<0↔w.head?=aa 45):=by
 unfold fz at h;split at h
 .rename_i e;rw[beq_iff_eq]at e;subst e;exact⟨0,by unfold eJ;decide,by decide +kernel,by decide⟩
 .rw[cq]at h;have j:=h.1;have v:(fgs w).head?≠aa 48:=by simpa using h.2
  unfold made at j;rw[cq,cq]at j;have o:=of_decide_eq_true j.1.1;have hd:=j.2
  have J:nz (fgs w)=fgs w:=by
   unfold nz
   cases e:fgs w with
   |nil=>rw[e]at o;exact absurd o (by decide)
   |cons a r=>
    rw[e]at v;have E:(a==48)=ai:=beq_eq_false_iff_ne.mpr λz=>v (by rw[z];rfl);rw[dropWhile_cons,E];rfl
  have y:dig _=fgs w:=(Jr hd).trans J
  have H:digitsVal (fgs w)<10 ^ 30:=by
   have:=RG hd;exact fO this (Nat.pow_le_pow_right (by decide) (of_decide_eq_true j.1.2))
  have A:0<digitsVal (fgs w):=by
   rcases Nat.eq_zero_or_pos (digitsVal _)with e |e
   .rw[e]at y;rw[<- y]at v;exact absurd (by decide +kernel) v
   .exact e
  by_cases u:w.head?=aa 45
  .refine⟨-(digitsVal (fgs w):Int),by unfold eJ;lia,?_,by rw[u];simp;lia⟩;obtain⟨m,em⟩:∃m,digitsVal (fgs w)=m+1:=⟨digitsVal (fgs w)-1,by lia⟩;rw[em,vd,nl,<- em,y]
   cases w with
   |nil=>nomatch u
   |cons a r=>cases u;rfl
  .refine⟨(digitsVal (fgs w):Int),by unfold eJ;lia,?_,⟨λz=>by lia,λz=>absurd z u⟩⟩;rw[nl,y];unfold fgs;rw[if_neg u]
def zh{W:L2N}(E:WOk W)(p:Nat):MR W m_7 r_7 [] p λq d=>q=p+1/\fz (W.getD p [])=ac/\∃n,d=.int n/\(n<0↔(W.getD p []).head?=aa 45):=by
 refine MR.of (λ_=>rfl) ?_;refine SR.seq (vA ?_);have j:=E.at p;generalize W.getD p []=w at j;refine SR.seqT (SR.ifS (λl=>oA (gK (bL rfl (vg w j.2 j.1)) rfl)) (λe=>SR.raise λl=>EK j (by decide) rfl) λe=>SR.next ?_);have u:fz w=ac:=by simpa using e
 obtain⟨n,v,y,A⟩:=Kn u;refine SR.pure (o:=.rt _ _ [.im (sT w)]) (λl=>?_) ⟨rfl,u,n,rfl,A⟩;unfold cB m1;rw[show ah 1 _=aa _ from rfl,aD,<- y,Ju v];rfl
section
variable{W:L2N}{tl:LS}
def psX(j:D.str z=sT x):∃q,(∀l,cC (aw 0 "Reader" "passes" rN m_1 (ag (mX (λ_=>aa (.str z))) af)) (rd l W p::tl)=aa (decide (W.getD p []=x),rd l W q::tl))/\(W.getD p []=x->q=p+1)/\(W.getD p []≠x->q=p):=by
 by_cases h:W.getD p []=x
 .rw[decide_eq_true h];exact⟨p+1,λl=>jD (fK rfl (aC (aA (by rw[j])) rfl) (yW h)),λ_=>rfl,λe=>absurd h e⟩
 .rw[decide_eq_false h];exact⟨p,λl=>jD (fK rfl (aC (aA (by rw[j])) rfl) (Ed h)),λe=>absurd e h,λ_=>rfl⟩
end
section
variable{W:L2N}
def RH(j:D.str z=sT x)(v:x.length<=100)(p:Nat):MR W m_2 r_2 [.str z] p λq d=>q=p+1/\W.getD p []=x:=by
 refine MR.of (λ_=>rfl) ?_
 have o:∃q,(∀l,cC (aw 0 "Reader" "passes" rN m_1 (ag (mX (ah 1)) af)) (rd l W p::[.im (.str z)])=aa (decide (W.getD p []=x),rd l W q::[.im (.str z)]))/\(W.getD p []=x->q=p+1):=by
  by_cases h:W.getD p []=x
  .rw[decide_eq_true h];exact⟨p+1,λl=>jD (fK rfl (aC (aA (congrArg aa j)) rfl) (yW h)),λ_=>rfl⟩
  .rw[decide_eq_false h];exact⟨p,λl=>jD (fK rfl (aC (aA (congrArg aa j)) rfl) (Ed h)),λe=>absurd e h⟩
 obtain⟨q,u,y⟩:=o;refine SR.ifX (λl=>JA (u l)) (λ_=>SR.raise λl=>?_) λe=>SR.next ?_
 .have A:z.length<=100:=by
   have:z=tx x:=by injection j
   rw[this,c5];exact v
  refine sr (zs:=[z," is missing"]) ?_ (by rw[EJ];show z.length+11<=_;lia);show(if z.length<=16777216 then aa z else ae).bind _=_;rw[if_pos (by lia),aD];rfl
 .have h:W.getD p []=x:=by simpa using e
  exact⟨y h,h⟩
end
def sx{W:L2N}{tl:LS}(u:D.str z=sT x)(o:x.length<=100)(k:W.getD p []=x->K (.nx (p+1) tl)):SR W (fJ (aw 0 "Reader" "must_pass" rN m_2 (ag (mX (λ_=>aa (.str z))) af))) (bj 0 "Reader" "must_pass" rN r_2 (ag (mX (λ_=>aa (.str z))) af)) p tl K:=
 SR.drop (XR.methA rfl (λ_=>rfl) ((RH u o p).imp λq d ⟨e,j⟩=>by rw[e];exact k j))
def zi{W:L2N}(e:WOk W)(p:Nat):MR W m_9 r_9 [] p λq d=>q=p+1/\cO (W.getD p [])=ac:=by
 refine MR.of (λ_=>rfl) ?_;have j:=e.at p;refine SR.ret (XR.ifE (λl=>jD (nq (aC (gm l W p 0 [] rfl) rfl) (yR _ j.2 j.1))) (λ_=>XR.meth rfl ((Km e p).imp λq d h=>⟨h.1,D9 h.2⟩)) λ_=>XR.meth rfl ((sw e p).imp λq d h=>⟨h.1,l5 h.2⟩))
def Ko{W:L2N}{nm cs:Str}(y:WOk W)(O:rN.contains nm=ai)(Y:D.str cs=sT c)(H:c≠[])(J:Nat->LD->Prop)(M:∀p xs,J p xs->xs.length<=p)
 (T:∀p xs,J p xs->W.getD p []=c->MR W m rr [] (p+1) λq d=>p<q/\J q (xs++[d]))(h:J p xs)(k:∀q ys,J q ys->K (.nx q [.own ys])):
  SR W (dm (cC (aw 0 "Reader" "passes" rN m_1 (ag (mX (λ_=>aa (.str cs))) af))) (dP 1 (aw 0 "Reader" nm rN m af)) 1000000000) (gw (cC (aw 0 "Reader" "passes" rN m_1 (ag (mX (λ_=>aa (.str cs))) af))) (dP 1 (aw 0 "Reader" nm rN m af)) (j6 1 (bj 0 "Reader" nm rN rr af)) 1000000000) p [.own xs] K:=by
 refine SR.loop (λp tl=>∃xs,tl=[.own xs]/\J p xs) ?_ _ p _ (by have:=y.2;lia) ⟨xs,rfl,h⟩;rintro p _ ⟨xs,rfl,j⟩;obtain⟨q,u,U,v⟩:=psX Y
 by_cases e:W.getD p []=c
 .rw[decide_eq_true e]at u;have Q:=sv (by rw[e];exact H);have o:=U e;subst o;refine .inr ⟨p+1,Q,u,SR.app rfl (by have:=M p xs j;have:=y.2;lia) (XR.meth O ((T p xs j e).imp λq d ⟨A,E⟩=>⟨q,_,rfl,A,_,rfl,E⟩))⟩
 .rw[decide_eq_false e]at u;have o:=v e;subst o;exact .inl ⟨q,u,k q xs j⟩
def EL{W:L2N}{nm cs:Str}(v:WOk W)(e:rN.contains nm=ai)(H:D.str cs=sT c)(y:c≠[])(J:Nat->LD->Prop)(A:∀p xs,J p xs->xs.length<=p)
 (u:MR W m rr [] p λq d=>J q [d])(E:∀p xs,J p xs->W.getD p []=c->MR W m rr [] (p+1) λq d=>p<q/\J q (xs++[d])):
  SR W (au (fT 1 (aw 0 "Reader" nm rN m af)) (au (dm (cC (aw 0 "Reader" "passes" rN m_1 (ag (mX (λ_=>aa (.str cs))) af))) (dP 1 (aw 0 "Reader" nm rN m af)) 1000000000) (gJ 1 (cB (ah 1))))) (cg (bj 0 "Reader" nm rN rr af) (fT 1 (aw 0 "Reader" nm rN m af)) (gw (cC (aw 0 "Reader" "passes" rN m_1 (ag (mX (λ_=>aa (.str cs))) af))) (dP 1 (aw 0 "Reader" nm rN m af)) (j6 1 (bj 0 "Reader" nm rN rr af)) 1000000000)) p [.no] (kM λq d=>∃xs,d=.lst xs/\J q xs):=by
 exact SR.seq (SR.set1 (XR.meth e (u.imp λq d j=>(SR.seqT (Ko v e H y J A E j λq ys j=>SR.pure (o:=.rt q _ _) (λ_=>rfl) ⟨ys,rfl,j⟩)))))
variable{c:Cl}
def pR(o:s.b=0)(u:nxt s.c c=ac)(e:c≠.lp)(j:∀w,c≠.kp w):stS s c=aa ⟨c,0,s.q⟩:=by
 unfold stS;rw[if_pos o,if_pos u]
 cases c <;> first |rfl |exact absurd rfl e |exact absurd rfl (j _)
def RI(u:s.b=0)(v:nxt s.c (.kp w)=ac)(e:w≠cw "over")(j:w≠cw "for")(o:w≠cw "in"):stS s (.kp w)=aa ⟨.kp w,0,s.q⟩:=by
 unfold stS;rw[if_pos u,if_pos v];dsimp only;rw[if_neg e,if_neg j,if_neg o]
abbrev TE(W:L2N)(q:Nat):Prop:=∃s,bX W q s/\s.b=0/\(s.c=.nm\/s.c=.rp)
abbrev PEn(W:L2N)(q:Nat):Prop:=∃s,bX W q s/\acc s
def TE.pe{W:L2N}(h:TE W q):PEn W q:=by
 obtain⟨s,e,j,o⟩:=h;exact⟨s,e,j,o.elim .inl λz=>.inr (.inl z)⟩
def bX.nm{W:L2N}(h:bX W p s)(o:s.b=0)(u:nxt s.c .nm=ac)(j:bz (W.getD p [])=ac):bX W (p+1) ⟨.nm,0,s.q⟩:=h.step (vz j) (pQ j) (pR o u (λe=>by nomatch e) λw e=>by nomatch e)
def bX.vr{W:L2N}(h:bX W p s)(o:s.b=0)(u:nxt s.c .vr=ac)(j:dZ (W.getD p [])=ac):bX W (p+1) ⟨.vr,0,s.q⟩:=h.step (Kk j) (zg j) (pR o u (λe=>by nomatch e) λw e=>by nomatch e)
def bX.ar{W:L2N}(h:bX W p s)(j:s.b=0)(o:nxt s.c .nm=ac)(u:nxt s.c .vr=ac)(v:cO (W.getD p [])=ac):∃c,(c=.nm\/c=.vr)/\bX W (p+1) ⟨c,0,s.q⟩:=by
 rcases lw.mp v with e |e
 .exact⟨_,.inr rfl,h.vr j u e⟩
 .exact⟨_,.inl rfl,h.nm j o e⟩
def bX.kw{W:L2N}(h:bX W p s)(v:s.b=0){x:Str}(u:W.getD p []=cw x)(o:kept (cw x)=ac)(y:nxt s.c (.kp (cw x))=ac)(j:cw x≠cw "over" /\ cw x≠cw "for" /\ cw x≠cw "in"):bX W (p+1) ⟨.kp (cw x),0,s.q⟩:=h.step (by rw[u];intro e;rw[e]at o;exact absurd o (by decide +kernel)) (by rw[u];exact pP o) (RI v y j.1 j.2.1 j.2.2)
def bX.num{W:L2N}(h:bX W p s)(o:s.b=0)(u:nxt s.c .nu=ac)(v:(W.getD p []).head?=aa 45->nxt s.c .ng=ac)(j:fz (W.getD p [])=ac):∃c,(c=.nu\/c=.ng/\(W.getD p []).head?=aa 45)/\bX W (p+1) ⟨c,0,s.q⟩:=by
 by_cases e:(W.getD p []).head?=aa 45
 .exact⟨.ng,.inr ⟨rfl,e⟩,h.step (vw j).1 (by rw[EH j,if_pos e]) (pR o (v e) (λe=>by nomatch e) λw e=>by nomatch e)⟩
 .exact⟨.nu,.inl rfl,h.step (vw j).1 (by rw[EH j,if_neg e]) (pR o u (λe=>by nomatch e) λw e=>by nomatch e)⟩
def bX.cm{W:L2N}(h:bX W p s)(o:s.b=0)(u:nxt s.c .cm=ac)(j:W.getD p []=[44]):bX W (p+1) ⟨.cm,0,s.q⟩:=h.step (by rw[j];decide) (by rw[j];exact EI) (pR o u (λe=>by nomatch e) λw e=>by nomatch e)
variable{k:Nat}
def bX.arB{W:L2N}{b:Nat}{o:Cl}(h:bX W p ⟨o,b+1,k⟩)(v:o=.lp\/o=.cm)(y:cO (W.getD p [])=ac):∃c,(c=.nm\/c=.vr)/\bX W (p+1) ⟨c,b+1,k⟩:=by
 have j:∀c,(c=.nm\/c=.vr)->stS ⟨o,b+1,k⟩ c=aa ⟨c,b+1,k⟩:=λc u=>by
  unfold stS;rw[if_neg (by show ¬b+1=0;lia),if_pos (decide_eq_true ⟨v,u⟩)]
 rcases lw.mp y with e |e
 .exact⟨_,.inr rfl,h.step (Kk e) (zg e) (j _ (.inr rfl))⟩
 .exact⟨_,.inl rfl,h.step (vz e) (pQ e) (j _ (.inl rfl))⟩
variable{n:Nat}
def Kp(j:n=2\/n=3\/n=12)(h:n<xs.length):r_6 [.lst xs,.int ((n:Nat):Int)]=ac/\m_6 [.lst xs,.int ((n:Nat):Int)]=ae:=by
 have e:mB (m2 dGt (aS dJ (aj (ah 0) nZ)) (ah 1)) [.im (.lst xs),.im (.int n)]=aa ac:=by
  refine bq (aH (x:=.int xs.length) (bL rfl ?_) rfl (oG.trans ?_))
  .have:=lL xs id;rw[map_id]at this;exact this
  .rw[decide_eq_true (by lia)]
 refine⟨?_,?_⟩
 .show xU _=ac;refine pM (nv e) ?_
  rcases j with rfl |rfl |rfl
  .exact sr rfl (by decide +kernel)
  .exact sr rfl (by decide +kernel)
  .exact sr rfl (by decide +kernel)
 .show(b_6 [.im _,.im _]).bind Az=ae;unfold b_6 au aY;rw[e];rfl
def Kq{W:L2N}(o:n=2\/n=3\/n=12)(k:xs.length<=n->K (.rt p (.lst xs) [.im (.lst xs)])):SR W (cB (aS m_6 (aj (ah 1) (aj (λ_=>aa (.int ((n:Nat):Int))) nZ)))) (hZ rNo r_6 (ag (mX (ah 1)) (ag (mX (λ_=>aa (.int ((n:Nat):Int)))) af))) p [.im (.lst xs)] K:=by
 rcases qh n xs.length with h |h
 .obtain⟨e,j⟩:=Kp o h;refine .inl λl=>⟨?_,?_⟩
  .show(ai || r_6 _)=ac;rw[e];rfl
  .show(m_6 _).map _=ae;rw[j];rfl
 .refine .inr ⟨_,λl=>?_,k h⟩;show(m_6 _).map _=_;rw[r9 xs n h];rfl
def Kr{W:L2N}{tl:LS}{K:Nat->D->Prop}(j:n=2\/n=3\/n=12)(h:XR W f r p tl λq d=>∃xs,d=.lst xs/\(xs.length<=n->K q (.lst xs))):XR W (eR m_6 (ag f (ag (mX (λ_=>aa (.int ((n:Nat):Int)))) af))) (hZ r r_6 (ag f (ag (mX (λ_=>aa (.int ((n:Nat):Int)))) af))) p tl K:=by
 refine XR.call (AR.head (h.imp λq d ⟨xs,e,k⟩=>AR.head (XR.pure (λ_=>rfl) (AR.nil ?_))));subst e
 rcases qh n xs.length with h |h
 .exact .inl (Kp j h)
 .exact .inr ⟨_,r9 xs n h,k h⟩
def Ks{W:L2N}(j:WOk W)(p:Nat):MR W pb xS [] p λq d=>q=p+3/\dZ (W.getD p [])=ac/\W.getD (p+1) []=cw "in" /\ bz (W.getD (p+2) [])=ac:=by
 refine MR.of (λ_=>rfl) ?_;refine SR.seq (SR.setX (XR.meth rfl ((Km j p).imp λq d ⟨e,o⟩=>?_)));subst e;exact SR.seq (sx (cwD "in") (by decide +kernel) λu=>(SR.ret (XR.tup (AR.cons (XR.pure (λ_=>rfl) (AR.head (XR.meth rfl ((sw j _).imp λq d ⟨e,v⟩=>AR.nil ⟨e,o,u,v⟩))))))))
def bX.pair{W:L2N}(h:bX W p ⟨c,0,k+1⟩)(u:nxt c .vr=ac)(j:dZ (W.getD p [])=ac)(e:W.getD (p+1) []=cw "in")(o:bz (W.getD (p+2) [])=ac):bX W (p+3) ⟨.nm,0,k⟩:=by
 have s2:=(h.vr rfl u j).step (c:=.kp _) (by rw [e]; decide +kernel) (by rw [e]; exact pP (by decide +kernel)) (by
  rfl)
 exact s2.nm rfl (show nxt (.kp _) .nm=ac by decide +kernel) o
def Kt{W:L2N}(A:WOk W)(O:0<k)(h:bX W p ⟨c,0,k⟩)(J:nxt c .vr=ac):MR W pc xT [] p λq d=>∃xs,d=.lst xs/\p<q/\(xs.length<=k->bX W q ⟨.nm,0,k-xs.length⟩):=by
 refine(MR.of (λ_=>rfl) (EL A rfl cmS (by decide) (λq xs=>xs.length<=q/\p<q/\0<xs.length/\_) (λ_ _ j=>j.1) ?_ ?_)).imp λq d ⟨xs,e,j⟩=>⟨xs,e,j.2.1,j.2.2.2⟩
 .refine(Ks A p).imp λq d ⟨e,u,v,y⟩=>⟨(by show 1<=q;lia),(by lia),(by show 0<1;lia),λ_=>?_⟩;subst e;obtain⟨o,rfl⟩:∃o,k=o+1:=⟨k-1,by lia⟩;exact h.pair J u v y
 .rintro q xs ⟨U,Y,j3,M⟩ H;refine(Ks A _).imp λq' d ⟨e,u,v,y⟩=>⟨(by lia),?_⟩;have Q:(xs++[d]).length=xs.length+1:=by simp
  refine⟨(by lia),(by lia),(by lia),λT=>?_⟩;subst e;obtain⟨o,E⟩:∃o,k-xs.length=o+1:=⟨k-xs.length-1,by lia⟩;have s0:=M (by lia);rw[E]at s0;rw[show k-_=o by lia];exact(bX.pair (s0.cm rfl rfl H) (by decide) u v y)
def EM{W:L2N}(A:WOk W)(h:PEn W p):MR W nc uV [] p λq d=>p<=q/\PEn W q:=by
 refine MR.of (λ_=>rfl) ?_;obtain⟨q,E,H,o⟩:=psX (cwD "for");refine SR.ret (XR.ifE E (λe=>?_) λe=>?_)
 .have e:=of_decide_eq_true e;have j:=H e;subst j;obtain⟨s,u,v,y⟩:=h
  have s1:=u.step (c:=.kp _) (by rw [e]; decide +kernel) (by rw [e]; exact pP (by decide +kernel)) (by
   unfold stS
   rw[if_pos v,if_pos (by rcases y with z |z |z <;> (rw[z];decide +kernel))]
   dsimp only;rw[if_neg (by decide +kernel),if_pos rfl])
  refine Kr (.inr (.inl rfl)) (XR.meth rfl ((Kt A (by decide) s1 (by decide +kernel)).imp λq d ⟨xs,e,O,M⟩=>⟨xs,e,λJ=>⟨by lia,_,M J,rfl,.inl rfl⟩⟩))
 .have e:=of_decide_eq_false e;have j:=o e;subst j;exact XR.pure (λ_=>rfl) ⟨bN _,h⟩
def Ku{W:L2N}(A:WOk W)(h:TE W p):MR W rA xZ [] p λq d=>p<=q/\TE W q:=by
 refine MR.of (λ_=>rfl) ?_;obtain⟨q,E,H,o⟩:=psX (cwD "over");refine SR.ret (XR.ifE E (λe=>?_) λe=>?_)
 .have e:=of_decide_eq_true e;have j:=H e;subst j;obtain⟨s,u,v,y⟩:=h
  have s1:=u.step (c:=.kp _) (by rw [e]; decide +kernel) (by rw [e]; exact pP (by decide +kernel)) (by
   unfold stS
   rw[if_pos v,if_pos (by rcases y with z |z <;> (rw[z];decide +kernel))]
   dsimp only;rw[if_pos rfl])
  refine Kr (.inl rfl) (XR.meth rfl ((Kt A (by decide) s1 (by decide +kernel)).imp λq d ⟨xs,e,O,M⟩=>⟨xs,e,λJ=>⟨by lia,_,M J,rfl,.inl rfl⟩⟩))
 .have e:=of_decide_eq_false e;have j:=o e;subst j;exact XR.pure (λ_=>rfl) ⟨bN _,h⟩
def RJ{W:L2N}(y:WOk W)(h:bX W p ⟨.lp,1,k⟩):MR W xW CQ [] p λq d=>p<q/\TE W q:=by
 refine MR.of (λ_=>rfl) ?_;refine SR.seq (SR.set1 (XR.meth rfl ((zi y p).imp λq d ⟨e,v⟩=>?_)));subst e
 let J:Nat->LD->Prop:=λq xs=>xs.length<=q/\p<q/\0<xs.length/\(xs.length<=3->∃c,(c=.nm\/c=.vr)/\bX W q ⟨c,xs.length,k⟩)
 refine SR.seq (Ko y rfl cmS (by decide) J (λ_ _ j=>j.1) ?_ ⟨(by show 1<=p+1;lia),(by lia),(by show 0<1;lia),λ_=>h.arB (.inl rfl) v⟩ λq xs j=>?_)
 .rintro q xs ⟨M,O,Q,A⟩ u;refine(zi y _).imp λT d ⟨e,v⟩=>⟨(by lia),?_⟩;subst e;have H:(xs++[d]).length=xs.length+1:=by simp
  show(xs++[d]).length<=_/\_;rw[H];refine⟨(by lia),(by lia),(by lia),λE=>?_⟩;obtain⟨c,o,s0⟩:=A (by lia)
  have s1:=s0.step (c:=.cm) (by rw [u]; decide) (by rw [u]; exact EI) (by
   unfold stS
   rw[if_neg (by show ¬xs.length=0;lia),if_neg (by rcases o with rfl |rfl <;> simp),if_neg (by simp),if_pos (decide_eq_true ⟨o,rfl,by show xs.length<3;lia⟩)])
  exact s1.arB (.inr rfl) v
 .obtain⟨M,O,Q,A⟩:=j;refine SR.seq (sx clS (by decide) λu=>?_);refine SR.fix rfl (Kq (.inr (.inl rfl)) λE=>?_);obtain⟨c,o,s0⟩:=A E
  have s1:=s0.step (c:=.rp) (by rw [u]; decide) (by rw [u]; exact RF) (by
   unfold stS
   rw[if_neg (by show ¬xs.length=0;lia),if_neg (by rcases o with rfl |rfl <;> simp),if_pos (decide_eq_true ⟨o,rfl⟩)])
  exact⟨by lia,_,s1,rfl,.inr rfl⟩
def zj{W:L2N}(u:WOk W)(h:bX W p s)(A:s.b=0)(E:nxt s.c .nm=ac):MR W m_5 r_5 [] p λq d=>p<q/\TE W q:=by
 refine MR.of (λ_=>rfl) ?_;refine SR.seq (SR.setX (XR.meth rfl ((sw u p).imp λq d ⟨e,v⟩=>?_)));subst e;have s1:=h.nm A E v;refine SR.ret (XR.tup (AR.cons (XR.pure (λ_=>rfl) (AR.head ?_))));obtain⟨q,H,J,o⟩:=psX opS;refine XR.ifE H (λe=>?_) λe=>?_
 .have e:=of_decide_eq_true e;have j:=J e;subst j;exact XR.meth rfl ((RJ u (s1.step (c:=.lp) (by rw[e];decide) (by rw[e];exact RE) rfl)).imp λq d ⟨M,y⟩=>AR.nil ⟨by lia,y⟩)
 .have e:=of_decide_eq_false e;have j:=o e;subst j;exact XR.pure (λ_=>rfl) (AR.nil ⟨by lia,_,s1,rfl,.inl rfl⟩)
abbrev PB(s:Sq):Prop:=s.b=0/\(s.c=.kp (cw "if")\/s.c=.kp (cw "and")\/s.c=.kp (cw "never"))
abbrev Tg(x:D):Prop:=∃z ds,x=.tup (.str z::ds)
def Kv{W:L2N}(v:WOk W)(A:p<=q){n:Int}(h:0<=n->∃s',bX W q s'/\s'.b=0/\nxt s'.c .nm=ac):SR W (au (aY (mB (m2 dLt (ah 1) (kI 0))) (λ_=>ae) aU) (bi (cc (ag (aw 0 "Reader" "read_thing" rN m_5 af) (ag (mX (ah 1)) af))))) (cg (rIf (mTX (mB (m2 dLt (ah 1) (kI 0)))) (rOf (aj (kSt "a worth below 0") nZ)) rNo) (aY (mB (m2 dLt (ah 1) (kI 0))) (λ_=>ae) aU) (bj 0 "Reader" "read_thing" rN r_5 af)) q [.im (.int n)] (kM λq d=>p<q/\TE W q):=by
 refine SR.seq (SR.ifS (λl=>bq (aH rfl rfl kW)) (λ_=>SR.raise λ_=>rfl) λe=>SR.next ?_);obtain⟨s',j,o,u⟩:=h (by have:=of_decide_eq_false e;lia);exact SR.ret (XR.tup (AR.head (XR.meth rfl ((zj v j o u).imp λE d ⟨H,y⟩=>AR.head (XR.pure (λ_=>rfl) (AR.nil ⟨by lia,y⟩))))))
def Kw{W:L2N}(o:WOk W)(h:bX W p s)(u:s.b=0)(v:s.c=.kp (cw "of")\/s.c=.cm):MR W ph xX [] p λq d=>p<q/\TE W q:=by
 refine MR.of (λ_=>rfl) ?_;have y:=o.at p
 refine SR.seq (SR.setX (XR.ifE (λl=>jD (nq (aC (gm l W p 0 _ rfl) rfl) (vg _ y.2 y.1))) (λ_=>XR.meth rfl ((zh o p).imp λq d ⟨e,J,n,A,H⟩=>?_)) λ_=>XR.pure (λ_=>rfl) (Kv o (bN _) λ_=>⟨s,h,u,by rcases v with z |z <;> (rw[z];decide +kernel)⟩)))
 subst e A;refine Kv o (by lia) λM=>?_;have j:(W.getD p []).head?≠aa 45:=λz=>by have:=H.mpr z;lia
 obtain⟨c,E,s1⟩:=h.num u (by rcases v with z |z <;> (rw[z];decide +kernel)) (λz=>absurd z j) J
 rcases E with rfl |⟨_,z⟩
 .exact⟨_,s1,rfl,rfl⟩
 .exact absurd z j
def Kx{W:L2N}(v:WOk W)(h:bX W p s)(A:s.b=0)(H:s.c=.kp (cw "of")):MR W pi xY [] p λq d=>p<q/\TE W q:=by
 refine(MR.of (λ_=>rfl) (EL v rfl cmS (by decide) (λq xs=>xs.length<=q/\p<q/\TE W q) (λ_ _ j=>j.1) ((Kw v h A (.inl H)).imp λq d ⟨o,u⟩=>⟨by show 1<=q;lia,o,u⟩) ?_)).imp λq d ⟨xs,e,j⟩=>⟨j.2.1,j.2.2⟩;rintro q xs ⟨O,Q,s',o,u,y⟩ E
 refine(Kw v (o.cm u (by rcases y with z |z <;> (rw[z];rfl)) E) rfl (.inr rfl)).imp λT d ⟨U,J⟩=>⟨by lia,?_,by lia,J⟩
 have M:(xs++[d]).length=xs.length+1:=by simp
 lia
def RK{W:L2N}(o:WOk W)(h:bX W p s)(j:PB s)(M:W.getD p []=cw "least" \/ W.getD p []=cw "most"):MR W uW C3 [] p λq d=>p<q/\TE W q/\Tg d:=by
 refine MR.of (λ_=>rfl) ?_
 have s1:∃v,(v=cw "least" \/ v=cw "most")/\bX W (p+1) ⟨.kp v,0,s.q⟩:=by
  rcases M with z |z
  .exact⟨_,.inl rfl,h.kw j.1 z (by decide +kernel) (by rcases j.2 with y |y |y <;> (rw[y];decide +kernel)) (by decide +kernel)⟩
  .exact⟨_,.inr rfl,h.kw j.1 z (by decide +kernel) (by rcases j.2 with y |y |y <;> (rw[y];decide +kernel)) (by decide +kernel)⟩
 obtain⟨v,u,s1⟩:=s1;refine SR.seq (vA ?_);refine SR.seq (SR.setX (XR.meth rfl ((zh o _).imp λq d O=>?_)));obtain⟨e,H,n,A,Y⟩:=O;subst e A
 obtain⟨c,E,s2⟩:=s1.num rfl (by rcases u with rfl |rfl <;> (dsimp only;decide +kernel)) (λ_=>by rcases u with rfl |rfl <;> (dsimp only;decide +kernel)) H
 refine SR.seq (sx (cwD "of") (by decide +kernel) λJ=>?_)
 refine SR.ret (XR.tup (AR.cons (XR.pure (λ_=>rfl) (AR.cons (XR.pure (λ_=>rfl) (AR.cons (XR.meth rfl ((Kx o (s2.kw rfl J (by decide +kernel) (by rcases E with rfl |⟨rfl,_⟩ <;> (dsimp only;decide +kernel)) (by decide +kernel)) rfl rfl).imp λq d ⟨z1,T⟩=>AR.head (XR.meth rfl ((Ku o T).imp λq' U ⟨y1,Q⟩=>AR.nil ⟨by lia,Q,_,_,rfl⟩))))))))))
def RL{W:L2N}(u:WOk W)(h:bX W p s)(o:PB s):MR W uX C6 [] p λq d=>p<q/\PEn W q/\Tg d:=by
 refine MR.of (λ_=>rfl) ?_;refine SR.seq (SR.setX (XR.meth rfl ((zi u p).imp λq d ⟨e,v⟩=>?_)));subst e
 obtain⟨c,E,s1⟩:=h.ar o.1 (by rcases o.2 with y |y |y <;> (rw[y];decide +kernel)) (by rcases o.2 with y |y |y <;> (rw[y];decide +kernel)) v
 refine SR.seq (sx (cwD "unlike") (by decide +kernel) λH=>?_);refine SR.ret (XR.tup (AR.cons (XR.pure (λ_=>rfl) (AR.cons (XR.pure (λ_=>rfl) (AR.head (XR.meth rfl ((zi u _).imp λq O ⟨e,A⟩=>AR.nil ?_))))))));subst e
 obtain⟨M,j,J⟩:=(s1.kw rfl H (by decide +kernel) (by rcases E with rfl |rfl <;> (dsimp only;decide +kernel)) (by decide +kernel)).ar rfl (show nxt (.kp _) .nm=ac by decide +kernel) (show nxt (.kp _) .vr=ac by decide +kernel) A
 exact⟨by lia,⟨_,J,rfl,by rcases j with rfl |rfl <;> simp⟩,_,_,rfl⟩
section
variable{W:L2N}
def RM(l:Addr)(p:Nat)(tl:LS):mBX (mX2 dIn (aw 0 "Reader" "coming" rN m_8 (ag (mX (kI 0)) af)) (mX (gr (aj (kSt "least") (aj (kSt "most") nZ))))) (rd l W p::tl)=aa (decide (W.getD p []=cw "least" \/ W.getD p []=cw "most"),rd l W p::tl):=by
 have e:=gm l W p 0 tl (f:=λ_=>aa (.int 0)) rfl;rw[ii]at e;unfold mBX mX2;rw[e,aD,show mX _ _=aa _ from rfl,aD]
 by_cases j:W.getD p []=cw "least"
 .rw[j,show dIn (sT (cw "least")) _=aa _ from Ei ac,decide_eq_true (.inl rfl)];rfl
 .by_cases o:W.getD p []=cw "most"
  .rw[o,show dIn (sT (cw "most")) _=aa _ from Ei ai,decide_eq_true (.inr rfl)];rfl
  .rw[Eh j o,decide_eq_false (λz=>z.elim j o)];rfl
end
section
variable{W:L2N}
def RN(l:Addr)(p:Nat)(tl:LS):mBX (mX2 dEq (aw 0 "Reader" "coming" rN m_8 (ag (mX (kI 1)) af)) (mX (kSt "unlike"))) (rd l W p::tl)=aa (decide (W.getD (p+1) []=cw "unlike"),rd l W p::tl):=by
 unfold mBX mX2;rw[(gm l W p 1 tl rfl),aD,show mX _ _=aa _ from rfl,aD,eqC];rfl
end
def Ky{W:L2N}(v:WOk W)(h:bX W p s)(o:PB s):MR W pj x6 [] p λq d=>p<q/\PEn W q/\Tg d:=by
 refine MR.of (λ_=>rfl) ?_;obtain⟨q,H,J,E⟩:=psX (cwD "not");refine SR.seq (SR.ifX H (λe=>?_) λe=>SR.next ?_)
 .have e:=of_decide_eq_true e;have j:=J e;subst j
  exact SR.ret (XR.tup (AR.cons (XR.pure (λ_=>rfl) (AR.head (XR.meth rfl ((zj v (h.kw o.1 e (by decide +kernel) (by rcases o.2 with y |y |y <;> (rw[y];decide +kernel)) (by decide +kernel)) rfl (show nxt (.kp _) .nm=ac by decide +kernel)).imp λq d ⟨A,u⟩=>AR.nil ⟨by lia,u.pe,_,_,rfl⟩))))))
 have e:=of_decide_eq_false e;have j:=E e;subst j;refine SR.seq (SR.ifX (λl=>RM l q []) (λe=>?_) λe=>SR.next ?_)
 .exact SR.ret (XR.meth rfl ((RK v h o (of_decide_eq_true e)).imp λq d ⟨A,u,M⟩=>⟨A,u.pe,M⟩))
 refine SR.seq (SR.ifX (λl=>RN l q []) (λe=>?_) λe=>SR.next ?_)
 .exact SR.ret (XR.meth rfl (RL v h o))
 exact SR.ret (XR.tup (AR.cons (XR.pure (λ_=>rfl) (AR.head (XR.meth rfl ((zj v h o.1 (by rcases o.2 with y |y |y <;> (rw[y];decide +kernel))).imp λq d ⟨A,u⟩=>AR.nil ⟨A,u.pe,_,_,rfl⟩))))))
def Kz{W:L2N}(A:WOk W)(h:bX W p s)(J:PB s):MR W rB x8 [] p λq d=>p<q/\PEn W q/\∃xs,d=.lst xs/\xs.length<=q/\∀x∈xs,Tg x:=by
 refine(MR.of (λ_=>rfl) (EL A rfl (cwD "and") (by decide +kernel) (λq xs=>xs.length<=q/\p<q/\PEn W q/\∀x∈xs,Tg x) (λ_ _ j=>j.1) ((Ky A h J).imp λq d ⟨o,u,v⟩=>⟨by show 1<=q;lia,o,u,λx E=>by rw[bR.mp E];exact v⟩) ?_)).imp λq d ⟨xs,e,j⟩=>⟨j.2.1,j.2.2.1,xs,e,j.1,j.2.2.2⟩;rintro q xs ⟨U,Y,⟨s',o,u,v⟩,M⟩ H
 refine(Ky A (o.kw u H (by decide +kernel) (by rcases v with z |z |z <;> (rw[z];decide +kernel)) (by decide +kernel)) ⟨rfl,.inr (.inl rfl)⟩).imp λq' d ⟨z1,O,Q⟩=>⟨by lia,?_,by lia,O,λx E=>?_⟩
 .have T:(xs++[d]).length=xs.length+1:=by simp
  lia
 .rcases dw.mp E with y |y
  .exact M x y
  .rw[bR.mp y];exact Q
def KA{W:L2N}(A:WOk W)(h:TE W p):MR W lV x9 [] p λq d=>p<=q/\PEn W q:=by
 refine MR.of (λ_=>rfl) ?_;obtain⟨q,E,H,o⟩:=psX (cwD "if");refine SR.ret (XR.ifE E (λe=>?_) λe=>?_)
 .have e:=of_decide_eq_true e;have j:=H e;subst j;obtain⟨s,u,v,y⟩:=h
  exact XR.meth rfl ((Kz A (u.kw v e (by decide +kernel) (by rcases y with z |z <;> (rw[z];decide +kernel)) (by decide +kernel)) ⟨rfl,.inl rfl⟩).imp λq d ⟨M,J,_⟩=>⟨by lia,J⟩)
 .have e:=of_decide_eq_false e;have j:=o e;subst j;exact XR.pure (λ_=>rfl) ⟨bN _,h.pe⟩
def RO{W:L2N}(o:WOk W)(h:bX W p s)(M:s.b=0)(J:s.c=.kp (cw "choose")):MR W uY Dg [] p λq d=>PEn W q:=by
 refine MR.of (λ_=>rfl) ?_;refine SR.seq (SR.setX (XR.meth rfl ((zh o p).imp λq d E=>?_)));obtain⟨e,y,n,u,Q⟩:=E;subst e u;obtain⟨c,O,s1⟩:=h.num M (by rw[J];decide +kernel) (λ_=>by rw[J];decide +kernel) y;refine SR.seq (sx (cwD "to") (by decide +kernel) λA=>?_);refine SR.seq (SR.setX (XR.meth rfl ((zh o _).imp λq d E=>?_)));obtain⟨e,y,Y,u,Q⟩:=E;subst e u
 obtain⟨U,v,T⟩:=(s1.kw rfl A (by decide +kernel) (by rcases O with rfl |⟨rfl,_⟩ <;> (dsimp only;decide +kernel)) (by decide +kernel)).num rfl (show nxt (.kp _) .nu=ac by decide +kernel) (λ_=>show nxt (.kp _) .ng=ac by decide +kernel) y
 refine SR.seq (sx (cwD "of") (by decide +kernel) λA=>?_)
 exact SR.ret (XR.tup (AR.cons (XR.pure (λ_=>rfl) (AR.cons (XR.pure (λ_=>rfl) (AR.cons (XR.pure (λ_=>rfl) (AR.cons (XR.meth rfl ((Kx o (T.kw rfl A (by decide +kernel) (by rcases v with rfl |⟨rfl,_⟩ <;> (dsimp only;decide +kernel)) (by decide +kernel)) rfl rfl).imp λq d ⟨H,j⟩=>AR.cons (XR.meth rfl ((Ku o j).imp λq d ⟨H,j⟩=>AR.cons (XR.meth rfl ((KA o j).imp λq d ⟨H,j⟩=>AR.head (XR.meth rfl ((EM o j).imp λq d ⟨H,j⟩=>AR.nil j))))))))))))))))
def RP{W:L2N}(j:WOk W)(h:bX W p s)(y:PB s):MR W u3 yb [] p λq d=>PEn W q:=by
 refine MR.of (λ_=>rfl) ?_;refine SR.seq (SR.setX (XR.meth rfl ((Kz j h y).imp λq d E=>?_)));obtain⟨J,e,xs,o,M,A⟩:=E;subst o
 have O:xs.length<=100000:=by
  obtain⟨s',H,_⟩:=e;have:=H.1;have:=j.2;lia
 let un:D->Bool:=λx=>match x with |.tup (.str z::_)=>z == "unlike" | _=>ai
 have u:∀l,fh 1 [] (fG (ah 1)) (bZ 0) kY (m2 dEq (mIx (bO 0) (λ_=>aa _)) (kSt "unlike")) [rd l W q,.im (.lst xs)]=aa ((xs.map un).map D.bl):=λl=>by
  rw[map_map];refine tQ xs id _ (by rw[map_id];rfl) (by lia) λx v=>?_;obtain⟨z,ds,rfl⟩:=A x v;refine tS rfl rfl (aH (x:=.str z) (cb (i:=0) rfl rfl ?_) rfl rfl);unfold atI ixN;rw[if_pos (Int.le_refl 0),if_pos (by rw[aQ];lia)];rfl
 exact SR.seq (SR.ifS (λl=>gK (bL (aV (fm (u l)) rfl) (Ek _)) rfl) (λ_=>SR.raise λ_=>rfl) λ_=>SR.next (SR.ret (XR.tup (AR.cons (XR.pure (λ_=>rfl) (AR.cons (XR.pure (λ_=>rfl) (AR.head (XR.meth rfl ((EM j e).imp λq d ⟨J,e⟩=>AR.nil e))))))))))
def RQ{W:L2N}(o:WOk W)(p:Nat):MR W uZ Dj [] p λq d=>∃n,1<=n/\n<=12/\q=p+n/\∀i,p<=i->i<q->bz (W.getD i [])=ac:=by
 refine MR.of (λ_=>rfl) ?_;refine SR.seq (SR.set1 (XR.meth rfl ((sw o p).imp λq d ⟨e,u⟩=>?_)));subst e
 let J:Nat->LS->Prop:=λq tl=>∃xs:LD,tl=[.own xs]/\1<=xs.length/\q=p+xs.length/\q<=W.length/\∀i,p<=i->i<q->bz (W.getD i [])=ac
 refine SR.seq (SR.loop J ?_ _ _ _ (by have:=o.2;lia) ⟨[d],rfl,bN _,rfl,(sv (vz u)),λi v Q=>by rw[show i=p by lia];exact u⟩);rintro q _ ⟨xs,rfl,H,M,U,y⟩
 have j:∀l,mBX (mX2 dNe (aw 0 "Reader" "coming" rN m_8 _) (mX _)) _=aa (!decide (W.getD q []=[]),rd l W q::_):=λl=>by
  have e:=gm l W q 0 [.own xs] (f:=λ_=>aa _) rfl;unfold mBX mX2;rw[e,aD,show mX (λ_=>aa _) _=aa _ from rfl,aD,neT];rfl
 by_cases e:W.getD q []=[]
 .rw[decide_eq_true e]at j;refine .inl ⟨q,j,?_⟩;refine SR.fix rfl (Kq (.inr (.inr rfl)) λE=>⟨xs.length,H,E,M,y⟩)
 .rw[decide_eq_false e]at j;refine .inr ⟨q,sv e,j,SR.app rfl (by have:=o.2;lia) (XR.meth rfl ((sw o q).imp λY d ⟨A,v⟩=>?_))⟩;subst A;have T:(xs++[d]).length=xs.length+1:=by simp
  refine⟨_,_,rfl,by lia,_,rfl,by lia,by lia,sv e,λi O y2=>?_⟩
  by_cases hi:i=q
  .rw[hi];exact v
  .exact y i O (by lia)
abbrev KdS(W:L2N)(q:Nat):Prop:=W.getD 0 []=cw "kind" /\ ∃n,1<=n/\n<=12/\q=2+n/\∀i,1<=i->i<q->bz (W.getD i [])=ac
def KB{W:L2N}(j:WOk W):MR W rC u4 [] 0 λq d=>KdS W q\/PEn W q:=by
 refine MR.of (λ_=>rfl) ?_;refine SR.seq (vA ?_);have s0:bX W 0 sq0:=⟨gB _,rfl⟩;have o:∀z l,mB (m2 dEq (ah 1) (λ_=>aa _)) (rd l W (0+1)::[Sl.no].set 0 (.im _))=aa (decide (W.getD 0 []=cw z)):=λz l=>bq (aH rfl rfl (eqC _ _));refine SR.seq (SR.ifS (o "kind") (λe=>?_) λe=>SR.next ?_)
 .have e:=of_decide_eq_true e;refine SR.ret (XR.tup (AR.cons (XR.pure (λ_=>rfl) (AR.cons (XR.meth rfl ((sw j 1).imp λq d ⟨H,u⟩=>?_))))));subst H;refine AR.head (XR.meth rfl ((RQ j 2).imp λq d ⟨n,M,O,Q,T⟩=>AR.nil (.inl ⟨e,n,M,O,Q,λi Y U=>?_⟩)))
  by_cases hi:i=1
  .rw[hi];exact u
  .exact T i (by lia) U
 have inR:∀l,mB (m2 dIn (ah 1) (gr (aj (λ_=>aa _) (aj (λ_=>aa _) nZ)))) (rd l W (0+1)::[Sl.no].set 0 (.im (sT (W.getD 0 []))))=aa (decide (W.getD 0 []=cw "rule" \/ W.getD 0 []=cw "may")):=λl=>by
  refine bq (aH rfl rfl ?_)
  by_cases u:W.getD 0 []=cw "rule"
  .rw[u,decide_eq_true (.inl rfl)];exact El ac
  .by_cases A:W.getD 0 []=cw "may"
   .rw[A,decide_eq_true (.inr rfl)];exact El ai
   .rw[decide_eq_false (λz=>z.elim u A)];exact y4 u A
 refine SR.seq (SR.ifS inR (λe=>?_) λe=>SR.next ?_)
 .have s1:∃v,(v=cw "rule" \/ v=cw "may")/\bX W 1 ⟨.kp v,0,0⟩:=by
   rcases of_decide_eq_true e with z |z
   .exact⟨_,.inl rfl,s0.kw rfl z (by decide +kernel) (by decide +kernel) (by decide +kernel)⟩
   .exact⟨_,.inr rfl,s0.kw rfl z (by decide +kernel) (by decide +kernel) (by decide +kernel)⟩
  obtain⟨v,J,s1⟩:=s1
  exact SR.ret (XR.tup (AR.cons (XR.pure (λ_=>rfl) (AR.cons (XR.meth rfl ((zj j s1 rfl (by rcases J with rfl |rfl <;> (dsimp only;decide +kernel))).imp λq d ⟨E,y⟩=>AR.cons (XR.meth rfl ((KA j y).imp λq d ⟨E,y⟩=>AR.head (XR.meth rfl ((EM j y).imp λq d ⟨E,y⟩=>AR.nil (.inr y)))))))))))
 refine SR.seq (SR.ifS (o "choose") (λe=>?_) λe=>SR.next ?_)
 .exact SR.ret (XR.meth rfl ((RO j (s0.kw rfl (of_decide_eq_true e) (by decide +kernel) (by decide +kernel) (by decide +kernel)) rfl rfl).imp λq d z=>.inr z))
 refine SR.seq (SR.ifS (o "never") (λe=>?_) λe=>SR.next ?_)
 .exact SR.ret (XR.meth rfl ((RP j (s0.kw rfl (of_decide_eq_true e) (by decide +kernel) (by decide +kernel) (by decide +kernel)) ⟨rfl,.inr (.inr rfl)⟩).imp λq d z=>.inr z))
 refine SR.raise λl=>?_;have u:=Kl (j.at 0);exact sr (Kf (Ke rfl (by lia) rfl)) (by rw[EJ];show 19+_<=_;lia)
abbrev iK(W:L2N):Prop:=(∃ns,W=cw "kind" :: ns/\(∀w∈ns,bz w=ac)/\2<=ns.length/\ns.length<=13)\/∃s,goW sq0 W=aa s/\acc s
def RT{W:L2N}(h:KdS W q)(u:W.length<=q):∃ns,W=cw "kind" :: ns/\(∀w∈ns,bz w=ac)/\2<=ns.length/\ns.length<=13:=by
 obtain⟨j,n,y,A,E,o⟩:=h
 cases W with
 |nil=>exact absurd j (by decide +kernel)
 |cons w r=>
  subst j;rw[aQ]at u;refine⟨r,rfl,λx v=>?_,?_,by lia⟩
  .obtain⟨i,hi,e⟩:=mem_iff_getElem.mp v;have:=o (i+1) (by lia) (by lia);rw[getD_cons_succ,eA,du hi]at this;rw[<- e];exact this
  .have:=sv (vz (o 2 (by lia) (by lia)));rw[aQ]at this;lia
variable{b:LN}
def KC(e:b.length<=37000):oU 1 "Reader" xP (aj (aS lW (aj (ah 0) nZ)) nZ) [.im (.str (tx b)),.no,.no]=aa (.nx [.im (.str (tx b)),.obj "Reader" rN (fls (ws b []) 0),.no]):=by
 unfold oU;rw[aV (bL rfl (yP b e)) rfl];rfl
def KD(e:b.length<=37000)(h:∀l,u4 l [] (fls (ws b []) 0)=ac):r_4 [.str (tx b)]=ac:=by
 show u5 _=ac;exact l8 (KC e) (zb (Kd rfl h))
def RU(e:b.length<=37000)(h:∀l,rC l [] (fls (ws b []) 0)=aa (fls (ws b []) q,d))(j:q<(ws b []).length):r_4 [.str (tx b)]=ac:=by
 show u5 _=ac;refine l8 (KC e) (l8 (ρ':=[.im (.str (tx b)),.obj "Reader" rN _,.im d]) ?_ (Kd rfl λl=>Rx j));unfold aP;rw[En rfl h];rfl
def KE{W:L2N}(h:KdS W q\/PEn W q)(j:W.length<=q):iK W:=by
 rcases h with h |⟨s,h1,h2⟩
 .exact .inl (RT h j)
 .have e:=Nat.le_antisymm h1.1 j;subst e;have:=h1.2;rw[take_length]at this;exact .inr ⟨s,this,h2⟩
def RV(e:b.length<=37000)(j:WOk (ws b []))(h:¬iK (ws b [])):r_4 [.str (tx b)]=ac:=by
 rcases KB j with h1 |⟨q,d,h1,k⟩
 .exact KD e λl=>(h1 l).1
 .rcases qh q (ws b []).length with hq |hq
  .exact RU e h1 hq
  .exact absurd (KE k hq) h
def RW{r:Ro}(h:jb r)(j:WOk (cv r)):iK (cv r):=by
 rcases KB j with h1 |⟨q,d,h1,k⟩
 .have:=(h1 0).2;rw[Em h 0]at this
  nomatch this
 .have e:=h1 0;rw[Em h 0]at e
  have o:(cv r).length=q:=by
   injection e with e
   injection e with e _
   injection e with _ e
   injection e with e _
   injection e with e
   exact Int.ofNat.inj e
  exact KE k (by lia)
def RY(p:Cl):nxt p .no=ai:=by
 cases p <;> first |rfl |skip
 rw[vv];unfold pO;dsimp only
 repeat' split
 all_goals first |rfl |exact decide_eq_false (by simp)
def vB(h:stS s c=aa s'):s'.c=c:=by
 unfold stS at h;split at h
 .split at h
  .cases c with
   |kp w=>
    dsimp only at h;split at h
    .cases h;rfl
    .split at h
     .cases h;rfl
     .split at h
      .split at h
       .nomatch h
       .cases h;rfl
      .cases h;rfl
   | _=>cases h;rfl
  .nomatch h
 .split at h
  .cases h;rfl
  .split at h
   .rename_i e;cases h;exact(of_decide_eq_true e).2.symm
   .split at h
    .rename_i e;cases h;exact(of_decide_eq_true e).2.1.symm
    .nomatch h
def jF(e:s.b=0)(h:stS s c=aa s'):nxt s.c c=ac:=by
 unfold stS at h;rw[if_pos e]at h;split at h
 .assumption
 .nomatch h
def pS(j:s.b≠0)(h:stS s c=aa s'):(s.c=.lp\/s.c=.cm)/\(c=.nm\/c=.vr)\/(s.c=.nm\/s.c=.vr)/\(c=.rp\/c=.cm):=by
 unfold stS at h;rw[if_neg j]at h;split at h
 .rename_i e;exact .inl (of_decide_eq_true e)
 .split at h
  .rename_i e;exact .inr ⟨(of_decide_eq_true e).1,.inl (of_decide_eq_true e).2⟩
  .split at h
   .rename_i e;exact .inr ⟨(of_decide_eq_true e).1,.inr (of_decide_eq_true e).2.1⟩
   .nomatch h
def c9{r:L2N}(h:goW s (w::r)=aa s'):∃s1,stS s (cls w)=aa s1/\goW s1 r=aa s':=sH.mp h
variable{a b:L2N}
def zk(h:goW s (a++b)=aa s'):∃s1,goW s a=aa s1/\goW s1 b=aa s':=by
 rw[zf]at h;exact sH.mp h
def pT{r:L2N}(h:goW sq0 (cw "kind" :: r)=aa s):False:=by
 obtain⟨s1,e,_⟩:=c9 h;have:=jF rfl e;exact absurd this (by decide +kernel)
def KG:∀{W:L2N} {s s':Sq},goW s W=aa s'->∀w∈W,cls w≠.no
 | [],_,_,_,w,hw=>by cases hw
 |v::W,s,s',h,w,hw=>by
  obtain⟨s1,j,u⟩:=c9 h
  rcases bC.mp hw with rfl |hw
  .intro e;rw[e]at j
   by_cases o:s.b=0
   .have:=jF o j;rw[RY]at this;cases this
   .rcases pS o j with⟨_,z |z⟩ |⟨_,z |z⟩ <;> cases z
  .exact KG u w hw
def vC{W:L2N}(w:LN)(j:w∈W)(e:cls w=.no):¬iK W:=λh=>by
 rcases h with⟨ns,rfl,o,_⟩ |⟨s,o,_⟩
 .rcases bC.mp j with rfl |j
  .exact absurd e (by decide +kernel)
  .rw[pQ (o w j)]at e;nomatch e
 .exact KG o w j e
def RZ(c:Cl):nxt c c=ai:=by
 cases c <;> first |rfl |skip
 have u:∀o w,kIn w o=ac->∃k∈o,w=cw k:=λo w h=>by
  obtain⟨k,j,e⟩:=any_eq_true.mp h;exact⟨k,j,of_decide_eq_true e⟩
 rw[vv];unfold pO;split
 .exact decide_eq_false (by simp)
 .split
  .rename_i h;obtain⟨k,j,rfl⟩:=u _ _ h;simp only[bC,iM,or_false]at j
   rcases j with rfl |rfl |rfl <;> decide +kernel
  .repeat' split
   all_goals first |rfl |exact decide_eq_false (by simp)
variable{pre:L2N}
def R0(w:LN):goW s (pre++(w::w::post))=ae:=by
 cases h:goW s _ with
 |none=>rfl
 |some s'=>
  obtain⟨s1,_,u⟩:=zk h;obtain⟨s2,v,A⟩:=c9 u;obtain⟨E,j,_⟩:=c9 A;have e:=vB v
  by_cases o:s2.b=0
  .have:=jF o j;rw[e,RZ]at this
   nomatch this
  .rcases pS o j with⟨z,y⟩ |⟨z,y⟩
   .rw[e]at z;rcases z with z |z <;> rcases y with y |y <;> (rw[z]at y;nomatch y)
   .rw[e]at z;rcases z with z |z <;> rcases y with y |y <;> (rw[z]at y;nomatch y)
def R1{W:L2N}(h:goW sq0 (W++[w])=aa s)(H:acc s):¬iK W:=λE=>by
 rcases E with⟨ns,rfl,_⟩ |⟨s0,u,e⟩
 .exact pT h
 .obtain⟨s1,j,v⟩:=zk h;rw[u]at j;cases j;obtain⟨s2,o,A⟩:=c9 v;cases A;have:=jF e.1 o;rw[<- vB o]at this
  rcases e.2 with z |z |z <;> rcases H.2 with y |y |y <;> (rw[z,y]at this;exact absurd this (by decide))
def R3{k:LN}(M:bz w=ac)(hk:kept k=ac)(h:iK (pre++w::post)):¬iK (pre++k::post):=λY=>by
 rcases h with⟨ns,e,J,_⟩ |⟨s,J,h2⟩
 .cases pre with
  |nil=>
   injection e with e _
   rw[e]at M
   exact absurd M (by decide +kernel)
  |cons a pre=>
   injection e with e e2
   subst e
   rcases Y with⟨O,o,y,_⟩ |⟨s',y,_⟩
   .injection o with _ o
    have:=y k (by rw[<- o];simp);rw[(EF hk).1]at this;cases this
   .exact pT y
 .rcases Y with⟨O,o,y,_⟩ |⟨s',y,h4⟩
  .cases pre with
   |nil=>
    obtain⟨s1,U,_⟩:=c9 J;rw[pQ M]at U
    exact absurd (jF (s:=sq0) rfl U) (by decide)
   |cons a pre=>
    injection o with o _
    subst o;exact pT J
  .obtain⟨s1,g1,g2⟩:=zk J;obtain⟨s2,Q,g4⟩:=zk y;rw[g1]at Q;cases Q;obtain⟨t,H,g6⟩:=c9 g2;obtain⟨u,j,T⟩:=c9 g4;rw[pQ M]at H;rw[pP hk]at j
   have A:s1.b=0:=by
    by_cases A:s1.b=0
    .exact A
    .rcases pS A j with⟨_,z |z⟩ |⟨_,z |z⟩ <;> cases z
   have n1:=jF A H;have et:=pR A n1 (λe=>by cases e) λw e=>by cases e
   rw[et]at H;cases H;have uc:=vB j
   have ub:u.b=0:=by
    unfold stS at j;rw[if_pos A]at j;split at j
    .dsimp only at j;split at j
     .cases j;rfl
     .split at j
      .cases j;rfl
      .split at j
       .split at j
        .nomatch j
        .cases j;rfl
       .cases j;rfl
    .nomatch j
   cases post with
   |nil=>
    cases T
    rcases h4.2 with z |z |z <;> (rw[uc]at z;nomatch z)
   |cons n post=>
    obtain⟨_,a1,_⟩:=c9 g6;obtain⟨_,a2,_⟩:=c9 T;have b1:nxt .nm (cls n)=ac:=jF (s:=⟨.nm,0,s1.q⟩) rfl a1;have b2:=jF ub a2;rw[uc]at b2
    cases E:cls n with
    |lp=>
     rw[E,vv]at b2
     revert b2
     unfold pO;dsimp only
     repeat' split
     all_goals simp
    |cm=>
     rw[E,vv]at b2
     revert b2
     unfold pO;dsimp only
     repeat' split
     all_goals simp
    |kp v=>
     rw[E]at b1;rw[E,vv]at b2;have hv:=b1;obtain⟨x,hx,e⟩:=any_eq_true.mp hv;have e:=of_decide_eq_true e;subst e
     revert b2
     unfold pO;simp only[bC,iM,or_false]at hx;split
     .simp
     .split
      .dsimp only
       rcases hx with rfl |rfl |rfl |rfl |rfl <;> decide +kernel
      .repeat' split
       all_goals simp
    | _=>rw[E]at b1;exact absurd b1 (by decide)
abbrev Bad(b:L2N):Prop:=∀(s:Sq) (post:L2N),goW s (b++post)=ae
def Bad.in{c:L2N}(h:Bad b):Bad (a++(b++c)):=λs post=>by
 rw[c7,c7,zf]
 cases goW s a with
 |none=>rfl
 |some s'=>exact h s' _
def Bad.hd{c:L2N}(h:Bad b):Bad (b++c):=Bad.in (a:=[]) h
def Bad.tl(h:Bad b):Bad (a++b):=by
 have:=Bad.in (a:=a) (c:=[]) h;rw[cM]at this;exact this
def Bad.no(h:Bad b)(v:w≠cw "kind"):¬iK (w::b):=λu=>by
 rcases u with⟨ns,e,_⟩ |⟨s,j,_⟩
 .injection e with e _
  exact v e
 .obtain⟨s1,_,o⟩:=c9 j;have:=h s1 [];rw[cM,o]at this
  nomatch this
def EN(o:s.b≠0)(u:cO w=ac)(h:stS s (cls w)=aa s'):s'.b=s.b:=by
 have j:cls w=.nm\/cls w=.vr:=by
  rcases lw.mp u with e |e
  .exact .inr (zg e)
  .exact .inl (pQ e)
 unfold stS at h;rw[if_neg o]at h;split at h
 .cases h;rfl
 .split at h
  .rename_i e;have:=(of_decide_eq_true e).2
   rcases j with z |z <;> (rw[z]at this;nomatch this)
  .split at h
   .cases h;rename_i e;have:=(of_decide_eq_true e).2.1
    rcases j with z |z <;> (rw[z]at this;nomatch this)
   .nomatch h
def EO(j:s.b≠0)(h:stS s (cls [44])=aa s'):s.b<3/\s'.b=s.b+1:=by
 unfold stS at h;rw[if_neg j]at h;split at h
 .rename_i e;have:=(of_decide_eq_true e).2
  rcases this with z |z <;> nomatch z
 .split at h
  .rename_i e;cases (of_decide_eq_true e).2
  .split at h
   .rename_i e;cases h;exact⟨(of_decide_eq_true e).2.2,rfl⟩
   .nomatch h
def EQ(h:ThW t)(Q:4<=t.2.length):Bad (c6 t):=λs post=>by
 obtain⟨h1,u,_⟩:=h;obtain⟨n,y⟩:=t
 rcases y with _ |⟨a1,_ |⟨a2,_ |⟨a3,_ |⟨a4,r⟩⟩⟩⟩ <;> first |(exfalso;simp only[aQ,iN]at Q;lia) |skip
 cases j:goW s _ with
 |none=>rfl
 |some s'=>
  exfalso
  have e:c6 (n,a1::a2::a3::a4::r)++post=n::[40]::a1::[44]::a2::[44]::a3::[44]::(a4::(tlW [44] (λa=>[a]) r++[[41]]++post)):=by
   show n::_++post=_;rw[jE];unfold tlW;simp
  obtain⟨s1,g1,j⟩:=c9 j;obtain⟨s2,o,j⟩:=c9 j;obtain⟨s3,A,j⟩:=c9 j;obtain⟨s4,E,j⟩:=c9 j;obtain⟨s5,H,j⟩:=c9 j;obtain⟨s6,J,j⟩:=c9 j;obtain⟨s7,M,j⟩:=c9 j;obtain⟨s8,O,j⟩:=c9 j
  have b1:s2.b=1:=by
   by_cases v:s1.b=0
   .unfold stS at o;rw[if_pos v]at o;split at o
    .cases o;rfl
    .nomatch o
   .rcases pS v o with⟨_,z |z⟩ |⟨_,z |z⟩ <;> cases z
  have b2:=EN (by lia) (u a1 (by simp)) A;have T:=EO (by lia) E;have U:=EN (by lia) (u a2 (by simp)) H;have Y:=EO (by lia) J;have b6:=EN (by lia) (u a3 (by simp)) M;have b7:=EO (by lia) O;lia
def KH:∀(ps:List (LN×LN)) (c:Cl) (k:Nat) (post:L2N),(∀p∈ps,iF p)->k<ps.length->goW ⟨c,0,k⟩ (cu ps++post)=ae
 | [],_,_,_,_,h=>absurd h (Nat.not_lt_zero _)
 |p::ps,c,k,post,hp,h=>by
  obtain⟨E,H⟩:=hp p be
  cases j:goW ⟨c,0,k⟩ _ with
  |none=>rfl
  |some s'=>
   exfalso
   have e:cu (p::ps)++post=p.1::cw "in" :: p.2::(tlW [44] gP ps++post):=by
    unfold cu;rw[jE];rfl
   rw[e]at j;obtain⟨s1,u,j⟩:=c9 j;obtain⟨s2,o,j⟩:=c9 j;obtain⟨M,v,j⟩:=c9 j;rw[zg E]at u;rw[pR rfl (jF rfl u) (λe=>by cases e) λw e=>by cases e]at u;cases u;rw[pP (by decide +kernel)]at o;unfold stS at o;rw[if_pos rfl,if_pos (show nxt .vr _=ac by decide +kernel)]at o;dsimp only at o;rw[if_neg (by decide +kernel),if_neg (by decide +kernel),if_pos rfl]at o;split at o
   .cases o
   cases o;rw[pQ H]at v;cases v
   cases ps with
   |nil=>rw[f7]at h;lia
   |cons q ps=>
    have A:tlW [44] gP (q::ps)++post=[44]::(cu (q::ps)++post):=by
     unfold cu;rw[jE];rfl
    rw[A]at j;obtain⟨O,y,j⟩:=c9 j;rw[EI]at y;cases y;rw[aQ]at h;have:=KH _ .cm (k-1) post (λz J=>hp z (bQ _ J)) (by rw[aQ]at h ⊢;lia);rw[this]at j;cases j
def ER{v:LN}(y:v=cw "over" /\ k=2\/v=cw "for" /\ k=3)(J:∀p∈ps,iF p)(h:k<ps.length):Bad (bJ v (cu ps)):=λs post=>by
 have H:cu ps≠[]:=λe=>by rw[Ef.mp e]at h;exact absurd h (Nat.not_lt_zero _)
 rw[show bJ v _=v::cu ps from if_neg H]
 cases o:goW s _ with
 |none=>rfl
 |some s'=>
  exfalso;obtain⟨s1,j,o⟩:=c9 o
  have E:kept v=ac:=by rcases y with⟨rfl,_⟩ |⟨rfl,_⟩ <;> decide +kernel
  rw[pP E]at j
  have A:s1=⟨.kp v,0,k⟩:=by
   by_cases u:s.b=0
   .unfold stS at j;rw[if_pos u]at j;split at j
    .dsimp only at j
     rcases y with⟨rfl,rfl⟩ |⟨rfl,rfl⟩
     .rw[if_pos rfl]at j;cases j;rfl
     .rw[if_neg (by decide +kernel),if_pos rfl]at j;cases j;rfl
    .nomatch j
   .rcases pS u j with⟨_,z |z⟩ |⟨_,z |z⟩ <;> nomatch z
  subst A;have:=KH ps (.kp v) k post J h;rw[show goW ⟨.kp v,0,k⟩ (cu ps++post)=aa s' from o]at this
  nomatch this
def R4{n:Int}(y:eJ n)(A:n<0)(r:L2N):Bad ([44]::bE n::r):=λs post=>by
 cases e:goW s _ with
 |none=>rfl
 |some s'=>
  exfalso;obtain⟨s1,v,e⟩:=c9 e;obtain⟨s2,j,e⟩:=c9 e
  have u:cls (bE n)=.ng:=by
   rw[EH (yT y)];obtain⟨m,rfl⟩:∃m:Nat,n=-((m+1:Nat):Int):=⟨(-n).toNat-1,by lia⟩;rfl
  rw[u]at j
  by_cases o:s1.b=0
  .have:=jF o j;rw[(vB v)]at this;exact absurd this (by decide)
  .rcases pS o j with⟨_,z |z⟩ |⟨_,z |z⟩ <;> nomatch z
abbrev BP:Pa->Prop
 |.is t=>4<=t.2.length
 |.no t=>4<=t.2.length
 |.un _ _=>False
 |.ct _ _ its ov=>2<ov.length\/∃a z,its=a++[z]/\a≠[]/\z.2.1<0
def R5{p:Pa}(h:PaW p)(j:BP p):Bad (pWd p):=by
 cases p with
 |is t=>exact EQ h j
 |no t=>exact Bad.tl (a:=[cw "not"]) (EQ h j)
 |un a b=>exact j.elim
 |ct w n its ov=>
  obtain⟨y,u,A,v,E⟩:=h;show Bad (_++(cy its++bJ _ _))
  rcases j with j |⟨a,z,rfl,ha,hz⟩
  .exact Bad.tl (Bad.tl (ER (.inl ⟨rfl,rfl⟩) v j))
  .have o:=u z (by simp)
   have e:cy (a++[z])=cy a++([44]::bE z.2.1::c6 z.1):=by
    unfold cy;rw[Es,if_neg ha,c7]
    congr 1
    unfold iI;rw[if_neg (by lia)];rfl
   rw[e];exact Bad.tl (Bad.hd (Bad.tl (R4 o.2 hz _)))
variable{s:Int}
def R6{p:Pa}(u:okS s)(h:PaW p)(j:BP p):BP (prS s p).2:=by
 cases p with
 |ct w n its ov=>
  obtain⟨A,o,E,H,J⟩:=h
  rcases j with j |⟨a,z,rfl,ha,hz⟩
  .exact .inl j
  .refine .inr ⟨(cF a s).2,(z.1,z.2.1,ai),?_,λe=>ha ?_,hz⟩
   .show(cF _ s).2=_;unfold cF;rw[qc];show(stI _ z).2=_;unfold stI;rw[if_neg (by lia)]
   .have:=(nr sh u (L:=a) λy v=>o y (by simp[v])).2.2.2;rw[e]at this
    exact lz.mp this.symm
 | _=>exact j
def KI:∀(L:List Pa) (p:Int×List Pa),okS p.1->(∀q∈L,PaW q)->(∀z∈p.2,z∈(L.foldl stB p).2)/\∀q∈L,∃s',okS s'/\(prS s' q).2∈(L.foldl stB p).2
 | [],p,_,_=>⟨λ_ h=>h,λ_ h=>by cases h⟩
 |q::L,p,h,hL=>by
  obtain⟨j,_⟩:=vp h (hL q be);obtain⟨b1,b2⟩:=KI L (stB p q) j λy e=>hL y (bQ _ e);refine⟨λz o=>b1 z (fN _ o),λy e=>?_⟩
  rcases bC.mp e with rfl |e
  .exact⟨p.1,h,b1 _ (fM _ be)⟩
  .exact b2 y e
def KJ(u:okS s)(h:BdW bd)(j:∃q∈bd,BP q):∃q∈(bdS bd s).2,PaW q/\BP q:=by
 obtain⟨q,e,b⟩:=j;obtain⟨s',o,m⟩:=(KI bd (s,[]) u h.1).2 q e;exact⟨_,m,(vp o (h.1 q e)).2.1,R6 o (h.1 q e) b⟩
def ES{α:Type}{c:LN}{g:α->L2N}{L:List α}{x:α}(h:x∈L):∃a b,fZ [c] (L.map g)=a++(g x++b):=by
 induction L with
 |nil=>nomatch h
 |cons y L j=>
  rw[jE]
  rcases bC.mp h with rfl |h
  .exact⟨[],_,rfl⟩
  .obtain⟨a,b,e⟩:=j h
   cases L with
   |nil=>nomatch h
   |cons z L=>
    refine⟨g y++(c::a),b,?_⟩;rw[jE]at e;show g y++(c::g z++tlW c g L)=_;rw[nJ,e,c7];rfl
def KL(u:∃q∈bd,PaW q/\BP q):Bad (bWd bd):=by
 obtain⟨q,v,j,o⟩:=u;obtain⟨a,b,e⟩:=ES v;unfold bWd;rw[e];exact Bad.in (R5 j o)
abbrev BR:Ro->Prop
 |.rule _ t bd ps=>4<=t.2.length\/(∃q∈bd,BP q)\/3<ps.length
 |.never bd ps=>(∃q∈bd,BP q)\/3<ps.length
 |.kind _ ns=>ns=[]\/12<ns.length
 |.choose ..=>False
variable{r:Ro}
def R7(A:okS s)(h:RoW r)(u:BR r):¬iK (cv (roS s r).2):=by
 cases r with
 |choose lo hi its ov bd ps=>exact u.elim
 |kind n ns=>
  rintro(⟨J,e,_,j,o⟩ |⟨s',j,_⟩)
  .injection e with _ e
   rw[<- e,aQ]at j o
   rcases u with z |z
   .rw[z]at j;exact absurd j (by decide)
   .omega
  .exact pT j
 |rule b t bd ps=>
  obtain⟨j,o,v⟩:=h
  have H:cw (ruS b)≠cw "kind":=by cases b <;> decide +kernel
  refine Bad.no ?_ H
  rcases u with z |z |z
  .exact Bad.hd (EQ j z)
  .refine Bad.tl (Bad.hd ?_);have E:=KJ A o z;have:=KL E
   rw[show bJ _ (bWd (bdS bd s).2)=[cw "if"]++bWd (bdS bd s).2 from if_neg λe=>by
    obtain⟨q,y,_⟩:=E;rw[Eg.mp e]at y;cases y]
   exact Bad.tl this
  .exact Bad.tl (Bad.tl (ER (.inr ⟨rfl,rfl⟩) v.1 z))
 |never bd ps=>
  obtain⟨j,o,v⟩:=h;refine Bad.no ?_ (by decide +kernel)
  rcases u with z |z
  .exact Bad.hd (KL (KJ A j z))
  .exact Bad.tl (ER (.inr ⟨rfl,rfl⟩) v.1 z)
def ET{t:MF4}(h:t ρ=aa ai):aY t F aU ρ=aa (.nx ρ):=by
 unfold aY;rw[h];rfl
def R8(o:gz bd)(E:bd≠[])(J:∀p∈bd,p.unl=ac)(l:Addr):u4 l [] (fls (cv (.never bd ps)) 0)=ac:=by
 show yc [rd l (cw "never" :: _) 0,.no]=ac;generalize u:cw "never" :: _=W;have y:W.drop 1=bWd bd++bJ (cw "for") (cu ps):=by rw[<- u];rfl
 have v:W.getD 0 []=cw "never":=by rw[<- u];rfl
 have j:N_k75.hd (bJ (cw "for") (cu ps))∉bdB:=by
  have:=vk (bad:=bdB) (xs:=cu ps) (q:=[]) (w:=cw "for") (by decide +kernel) (by decide +kernel);rw[cM]at this;exact this
 have A:yb l [] (fls W 1)=ac:=by
  show ya [rd l W 1,.no]=ac;refine l8 (ρ':=[rd l W (1+(bWd bd).length),.im (.lst (bd.map Pa.toD))]) ?_ (zb (pM (nv (gK (d:=.bl ((bd.map Pa.unl).all id)) (bL (aV (fm ?_) rfl) (Ek _)) ?_)) rfl))
  .unfold aP;rw[cK (Ej o E) rfl y j];rfl
  .rw[map_map];exact tQ bd Pa.toD _ rfl (by have:=o.2;lia) λq _=>tS rfl rfl (JP q)
  .have:(bd.map Pa.unl).all id=ac:=by
    rw[all_map];exact all_eq_true.mpr λp H=>J p H
   rw[this];rfl
 have e:∀z t,decide _=t->mB (m2 dEq (ah 1) (λ_=>aa (.str z))) [rd l W 1,.im (sT (cw "never"))]=aa t:=λz t h=>bq (aH rfl rfl ((eqC _ _).trans (by rw[h])));refine l8 ?_ (l8 (ET (e _ ai (by decide +kernel))) (l8 (ET (bq (aH rfl rfl (y4 (by decide +kernel) (by decide +kernel))))) (l8 (ET (e _ ai (by decide +kernel))) (zb (pM (nv (e _ ac (by decide +kernel))) (Rw rfl A))))));unfold aP;rw[fK rfl rfl (pJ l W 0),v];rfl
abbrev EU:L2N:=[[57,97],[45,48],[48,48,55],[65,98,49],cw "abcdefghi",cw "Abcdefghi",[42],[97,46,98],cQ 31 49,[45],[43,49],[97,66],[97,9,98]]
abbrev pU(k:Int):LN:=EU.getD k.toNat []
def R9:[D.str "9a",.str "-0",.str "007",.str "Ab1",.str "abcdefghi",.str "Abcdefghi",.str "*",.str "a.b",.str (tx (cQ 31 49)),.str "-",.str "+1",.str "aB",.str "a\tb"]=EU.map sT:=by
 rfl
def ixW{L:L2N}{k:Int}(h:0<=k/\k<L.length):dU (.lst (L.map sT)) (.int k)=aa (sT (L.getD k.toNat []))/\L.getD k.toNat []∈L:=by
 have e:k.toNat<L.length:=by lia
 rw[eA,du e];refine⟨?_,lA e⟩;show atI _ k=_;unfold atI ixN;rw[if_pos h.1,if_pos (by rw[cf];lia),aD,fL,du e];rfl
def Sa:∀w∈EU,cls w=.no/\10∉w/\w.all (λx=>decide (x<128/\x≠32/\gl x=ai))=ac/\w≠[]/\w.length<=31:=by decide +kernel
def Sb(l:Addr)(s:Int)(v:okS s):Ci l [] [] [.int s]=aa ([.int (nx s)],sT (pU (dr s 13))):=by
 have u:=bn s (k:=13) (by decide)
 have w:wp xz [.pin l [.int s],.no] (λo=>∃j,o=.rtS (sT (pU (dr s 13))) [.pin l [.int (nx s)],j]):=by
  apply ay;refine gj ?_ (bI (bv (aA rfl) (cI l s 13 _ rfl v (by decide)) (ixW (by show _/\_<13;lia)).1) ⟨_,rfl⟩);rw[<- R9];rfl
 obtain⟨o,e,j,rfl⟩:=w;exact eQ e rfl
def EV:∀x,x<123->97<=x->v0 x=ac/\zS x=ac/\sP x=ai/\v4 x=ai:=by decide +kernel
def Sd:∀x,x<91->65<=x->v0 x=ac/\sP x=ac:=by decide +kernel
def Se:∀x,x<58->40<=x->v0 x=ai:=by decide +kernel
abbrev alp(w:LN):Bool:=decide (w.length>0) && w.all v0
abbrev pV(w:LN):Bool:=w.any zS && !w.any λc=>sP c || v4 c
def Sf(w:LN):sN (tx w)=alp w:=by
 unfold sN alp
 congr 1
 simp
def Sg(w:LN):sO (tx w)=pV w:=by
 unfold sO pV;simp
def Sh:∀k∈kpW,(∀x∈k,x≠32/\gl x=ai)/\k≠[]/\k.length<=31/\10∉k/\asc k:=by decide +kernel
def lv(h:Wrd w):GW w/\10∉w/\asc w:=by
 rcases h with h |h |h |rfl |rfl |rfl
 .exact⟨Rl h,λj=>absurd (D7 h 10 j) (by decide),vj h⟩
 .obtain⟨n,o,rfl,_⟩:=Kn h;exact⟨Rm o,λj=>by have:=D6 10 j;lia,Ea n⟩
 .unfold kept at h;obtain⟨k,u,e⟩:=any_eq_true.mp h;rw[<- beq_iff_eq.mp e];obtain⟨a,b,c,d,f⟩:=Sh k u;exact⟨⟨.inl ⟨a,b⟩,c⟩,d,f⟩
 .exact⟨⟨.inr rfl,by decide⟩,by decide,by decide⟩
 .exact⟨⟨.inr rfl,by decide⟩,by decide,by decide⟩
 .exact⟨⟨.inr rfl,by decide⟩,by decide,by decide⟩
def Si(h:w≠[])(e:∀x∈w,97<=x/\x<=122):alp w=ac/\pV w=ac:=by
 refine⟨?_,?_⟩
 .unfold alp;rw[decide_eq_true (mf.mpr h),all_eq_true.mpr λx j=>(EV x (by have:=e x j;lia) (e x j).1).1];rfl
 .unfold pV;obtain⟨a,r,rfl⟩:=vF h;have y:=e a be;have o:(a::r).any zS=ac:=any_eq_true.mpr ⟨a,be,(EV a (by lia) y.1).2.1⟩
  have v:((a::r).any λc=>sP c || v4 c)=ai:=any_eq_false.mpr λx j=>by
   have A:=e x j;obtain⟨_,_,u,t⟩:=EV x (by lia) A.1;rw[u,t];decide
  rw[o,v];rfl
def Sj:∀k∈kpW,k≠[]/\∀x∈k,97<=x/\x<=122:=by decide +kernel
def Sk(h:Wrd w):(alp w && (pV w && !kept w))=bz w:=by
 have no:∀x∈w,(40<=x/\x<58)->alp w=ai:=λx A j=>by
  unfold alp;rw[all_eq_false.mpr ⟨x,A,by rw[Se x j.2 j.1];decide⟩,Bool.and_false]
 rcases h with h |h |h |rfl |rfl |rfl
 .unfold cO at h
  rcases lw.mp h with e |e
  .rw[Kj e];obtain⟨u,c,r,rfl,E⟩:=rY e;have o:((c::r).any λc=>sP c || v4 c)=ac:=any_eq_true.mpr ⟨c,be,by rw[((Sd c (by lia) (u c be).1).2)];rfl⟩;unfold pV;rw[o];simp
  .obtain⟨a,b⟩:=Si (vz e) (vi e);rw[a,b,e];unfold bz at e;rw[cq]at e;rw[e.2];rfl
 .obtain⟨v,y⟩:=vw h;rw[(EG h).1];obtain⟨a,r,rfl⟩:=vF v;rw[no a be (by have:=y a be;lia)];rfl
 .rw[(EF h).1,h];simp
 .rw[no 40 (by simp) (by lia)];decide +kernel
 .rw[no 41 (by simp) (by lia)];decide +kernel
 .rw[no 44 (by simp) (by lia)];decide +kernel
def Sm(w:LN):jm (.str (tx w)) (.lst (kpW.map λw=>D.str (tx w)))=aa (.bl (!kept w)):=by
 have h:=inK w;unfold dIn at h;unfold jm
 cases e:inD _ _ with
 |none=>rw[e]at h;nomatch h
 |some b=>
  rw[e]at h
  injection h with h
  injection h with h
  show aa _=_;rw[h]
def Sn(h:Wrd w):xA [sT w]=aa (.bl (bz w)):=by
 rw[<- Sk h];apply jo;refine mQ ?_ (jS rfl)
 have e:m1 (rh sN) (ah 0) [.im (sT w)]=aa (.bl (alp w)):=by
  show aa _=_;rw[Sf]
 have j:m1 (rh sO) (ah 0) [.im (sT w)]=aa (.bl (pV w)):=by
  show aa _=_;rw[Sg]
 have o:m2 jm (ah 0) (aS lU nZ) [.im (sT w)]=aa (.bl (!kept w)):=by
  exact aH rfl (bL rfl yE) (Sm w)
 exact oB e (oB j o)
variable{j:Nat}
def zl{W:L2N}{f:MF1}(e:f ρ=aa (.lst (wD W)))(o:h ρ=aa (aa (j:Int)))(u:j<=W.length):mSl f (λ_=>aa ae) h ρ=aa (wD (W.take j)):=by
 refine(qI e rfl o).trans ?_;rw[HT.sIx_none,HT.sIx_nat,drop_zero,Nat.sub_zero,Nat.min_eq_left u];rfl
def zm{W:L2N}{f:MF1}{l:LS->Option (Option Int)}(e:f ρ=aa (.lst (wD W)))(o:l ρ=aa (aa (j:Int))):mSl f l (λ_=>aa ae) ρ=aa (wD (W.drop j)):=by
 refine(qI e o rfl).trans ?_;rw[HT.sIx_none,HT.sIx_nat,sE (by rw[f8];lia)]
 rcases Nat.le_total j W.length with h |h
 .rw[Nat.min_eq_left h];rfl
 .rw[Nat.min_eq_right h,drop_of_length_le h,drop_length];rfl
def vD(e:f ρ=aa (.lst (wD a),ρ1))(o:g ρ1=aa (.lst (wD b),hT))(u:a.length+b.length<=100000):mX2 bB f g ρ=aa (.lst (wD (a++b)),hT):=bv e o (sk u)
def So(h:jb r):∃w∈cv r,bz w=ac:=by
 have o:∀t:Th,t.1∈c6 t:=λt=>by unfold c6;exact be
 have u:∀its:List Ti,(∀z∈its,lY z)->0<its.length->∃w∈cy its,bz w=ac:=λits y A=>by
  obtain⟨z,L,rfl⟩:=vF (mf.mp A);obtain⟨a,b,e⟩:=ES be;refine⟨z.1.1,?_,(y z be).1.1⟩;unfold cy;rw[e];exact fM _ (fN _ (by unfold iI;exact fM _ (o _)))
 cases r with
 |kind n ns=>exact⟨n,by show n∈cw "kind" :: n::ns;simp,h.1⟩
 |rule b t bd ps=>exact⟨t.1,bQ _ (fN _ (o t)),h.1.1⟩
 |choose lo hi its ov bd ps=>
  obtain⟨y,A,_⟩:=h;obtain⟨w,v,e⟩:=u its A.1 A.2.1
  exact⟨w,fM _ (fN _ (fN _ v)),e⟩
 |never bd ps=>
  obtain⟨y,⟨p,E,Q⟩,U⟩:=h;obtain⟨a,b,e⟩:=ES E
  have O:∃w∈pWd p,bz w=ac:=by
   have hok:=y.1 p E
   cases p with
   |is t=>exact⟨t.1,o t,hok.1⟩
   |no t=>exact⟨t.1,bQ _ (o t),hok.1⟩
   |un a b=>cases Q
   |ct w n its ov=>
    obtain⟨_,J,M,_⟩:=hok;obtain⟨T,v,e⟩:=u its J M.1;exact⟨T,fM _ (fN _ v),e⟩
  obtain⟨w,v,H⟩:=O;refine⟨w,bQ _ (fN _ ?_),H⟩;unfold bWd;rw[e];exact fM _ (fN _ v)
abbrev pW:L2N:=(["if","and","not","unlike","least","a","A","1","for","kinds","rules","Rule","Never"]:LSt).map λz=>cw z
def KM:∀w∈pW,w≠cw "kind" /\ nxt .no (cls w)=ai/\Wrd w\/w∈[cw "kinds",cw "rules",cw "Rule",cw "Never"]/\w≠cw "kind" /\ nxt .no (cls w)=ai:=by decide +kernel
def hd0(V X:L2N)(a:Nat)(h:V≠[]):(V.take (a+1)++X).getD 0 []=V.getD 0 []:=by
 cases V with
 |nil=>exact absurd rfl h
 |cons v V=>rfl
abbrev Spl(n:Nat)(W:L2N):Prop:=¬iK W/\(∀w∈W,GW w/\10∉w/\asc w)/\W.length<=n
abbrev nE(v:Int)(e:Bool)(a:Nat)(s2:Int)(W:L2N):Int×L2N:=
 if decide (v=0) then (nx (nx s2),(W.take a++[pU (dr s2 13)])++W.drop (a+(dr (nx s2) 2).toNat))
 else if decide (v=1) && e then (s2,W.take 2)
 else if decide (v=1) then (s2,W.take (W.length-1))
 else if decide (v=2) && e then (s2,cw "kind" :: W)
 else if decide (v=2) then (s2,W.take a++[W.getD a []]++W.drop a)
 else if decide (v=3) then (nx s2,[pW.getD (dr s2 13).toNat []]++W.drop 1)
 else (nx (nx s2),(W.take (((dG W.length).filter λk=>bz (W.getD k [])).getD (dr s2 (((dG W.length).filter λk=>bz (W.getD k [])).length:Nat)).toNat 0)++[kpW.getD (dr (nx s2) 16).toNat []])++W.drop (((dG W.length).filter λk=>bz (W.getD k [])).getD (dr s2 (((dG W.length).filter λk=>bz (W.getD k [])).length:Nat)).toNat 0+1))
abbrev ma(s:Int)(W:L2N):Int×L2N:=nE (dr s 5) (decide (W.getD 0 []=cw "kind")) (dr (nx s) (W.length:Nat)).toNat (nx (nx s)) W
def Sr(l:Addr)(hR:jb r)(s:Int)(hs:okS s)(hA:iK (cv r))(hw:∀w∈cv r,Wrd w)(hl:(cv r).length<=1100):okS (ma s (cv r)).1/\Spl ((cv r).length+1) (ma s (cv r)).2/\Ck l [.lst (wD (cv r))] [] [.int s]=aa ([.int (ma s (cv r)).1],.lst (wD (ma s (cv r)).2)):=by
 obtain⟨nw,U,hnm⟩:=So hR;generalize cv r=W at hA hw hl U;have hn0:0<W.length:=mf.mpr λe=>by rw[e]at U;cases U
 have E:=λw h=>lv (hw w h);have gt:∀n,∀w∈W.take n,GW w/\10∉w/\asc w:=λn w h=>E w (vI h);have gd:∀n,∀w∈W.drop n,GW w/\10∉w/\asc w:=λn w h=>E w (mem_of_mem_drop h)
 have g3:∀{a b:List _} {x:LN},(∀w∈a,GW w/\10∉w/\asc w)->_->(∀w∈b,GW w/\10∉w/\asc w)->∀w∈a++x::b,GW w/\10∉w/\asc w:=λ{a b x} y A u w h=>by
  rcases dw.mp h with h |h
  .exact y w h
  .rcases bC.mp h with rfl |h
   .exact A
   .exact u w h
 have h0:=vF (mf.mp hn0);have d5:=bn s (k:=5) (by decide);have dn:=bn (nx s) (k:=W.length) (by lia);obtain⟨a,ea⟩:∃a:Nat,dr (nx s) W.length=a:=⟨(dr (nx s) W.length).toNat,by lia⟩;have O:a<W.length:=by lia
 generalize hS:D.lst _=H;have g5:∀ρ:LS,ah 0 ρ=aa H->aS dJ (aj _ nZ) ρ=aa _:=λρ h=>bL (aV h rfl) (by rw[<- hS];exact yV W)
 suffices hwp:wp uL [.im H,.pin l _,.no,.no,.no,.no,.no,.no] (λo=>∃s' W' a2 a3 a4 a5 a6 a7,(s',W')=ma s W/\okS s'/\Spl _ W'/\o=.rtS (.lst (wD W')) [.im H,.pin l [.int s'],a2,a3,a4,a5,a6,a7]) by
  obtain⟨o,e,s',W',a2,a3,a4,a5,a6,a7,h0,y,A,rfl⟩:=hwp;rw[<- h0];exact⟨y,A,eQ e rfl⟩
 have e1:=aT s;have e2:=aT (nx s);unfold uL ma;rw[show(dr _ _).toNat=a by lia];apply ay;refine bw (iJ 1 l s 5 rfl rfl hs (by decide)) ?_;generalize dr s 5=v at d5;apply ay
 have ix0:∀i j (ρ:LS) f,i=j->j<W.length->bO 0 ρ=aa (wD W)->f ρ=aa (.int i)->mIx _ f ρ=aa (sT (W.getD j [])):=λi j ρ f hi hj y A=>by
  subst hi;refine cb y A ?_;unfold atI ixN;rw[if_pos (by lia),if_pos (by rw[c8];lia),aD,nF,eA];unfold wD;rw[fL,du hj];rfl
 refine gj (aH (ix0 0 0 _ _ rfl hn0 (by rw[<- hS];rfl) rfl) rfl (eqC _ _)) ?_;apply ay;refine bw (iJ 1 l _ _ rfl (g5 _ rfl) e1 (by lia)) ?_;rw[ea];generalize J:decide (W.getD 0 []=cw "kind")=kd;generalize nx _=s2 at e2
 have kdA:kd=ac->∃ns,W=cw "kind" :: ns/\(∀w∈ns,bz w=ac)/\2<=ns.length:=λe=>by
  rw[e]at J;have J:=of_decide_eq_true J
  rcases hA with⟨ns,y,A,u,_⟩ |⟨s',y,_⟩
  .exact⟨ns,y,A,u⟩
  .obtain⟨w0,W1,rfl⟩:=h0;subst J;exact(pT y).elim
 have kdB:kd=ai->∃s',goW sq0 W=aa s'/\acc s':=λe=>by
  rw[e]at J;have J:=of_decide_eq_false J
  rcases hA with⟨ns,y,_⟩ |h
  .rw[y]at J;exact absurd rfl J
  .exact h
 have T:∀(a1 a2 a3 a4 a5 a6 a7:Sl),ah 0 [.im H,a1,a2,a3,a4,a5,a6,a7]=aa (.lst _):=λ_ _ _ _ _ _ _=>by rw[hS];rfl
 have two:∀z,mB (m2 dEq (ah 2) (λ_=>aa _)) [.im H,.pin l [.int s2],.im _,.im (.bl kd),.im (.int a),.no,.no,.no]=aa _:=λz=>bq (aH rfl rfl (gv v z));apply ay;refine br (b:=decide _) (two 0) (λe=>?_) λq0=>bc ?_
 .have d2:=bn (nx s2) (k:=2) (by decide);obtain⟨k,ek⟩:∃k:Nat,dr (nx s2) 2=k:=⟨(dr (nx s2) 2).toNat,by lia⟩;have al:=Sa _ (ixW (k:=dr s2 13) (by have:=bn s2 (k:=13) (by decide);show _/\_<(13:Int);lia)).2
  have alg:GW (pU (dr s2 13))/\10∉pU (dr s2 13)/\asc (pU (dr s2 13)):=by
   obtain⟨_,A,u,h4,h5⟩:=al;have u:=all_eq_true.mp u;refine⟨⟨.inl ⟨λx hx=>(of_decide_eq_true (u x hx)).2,h4⟩,h5⟩,A,D8 λx hx=>(of_decide_eq_true (u x hx)).1⟩
  refine bI (d:=.lst (wD (_++W.drop (a+k)))) (ρ1:=[.im H,.pin l _,.im (.int v),.im (.bl kd),.im (.int a),.no,.no,.no]) (vD (ρ1:=[.im H,.pin l [.int (nx s2)],.im (.int v),.im (.bl kd),.im (.int a),.no,.no,.no]) (vD (aA (fm (zl (T ..) rfl (by lia)))) ?_ ?_) ?_ ?_) ⟨nx _,_,_,_,_,_,_,_,by unfold nE;rw[if_pos e,ek];rfl,aT _,⟨?_,?_,?_⟩,rfl⟩
  .unfold dT;rw[aC (iC rfl rfl rfl (Sb l s2 e2)) rfl];rfl
  .rw[fA];show _+1<=_;lia
  .unfold Bf;rw[aA (T ..),aD,bv (aA rfl) (iJ 1 l _ 2 rfl rfl (aT _) (by decide)) fX,aD,ek];show aa _=_;have:=zm (ρ:=[]) (f:=λ_=>aa (.lst (wD W))) (l:=λ_=>aa (aa ((a+k:Nat):Int))) rfl rfl
   have e3:on (wD W) (aa (a+k)) ae=wD (W.drop (a+k)):=by
    exact dz this
   rw[e3];rfl
  .rw[aO,fA,f8];show _+1+_<=_;lia
  .rw[c7];exact vC (pU _) (by simp) al.1
  .rw[c7];exact g3 (gt a) alg (gd _)
  .rw[aO,aO,fA,f8];show _+1+_<=_;lia
 apply ay;refine br (b:=decide _ && kd) (qH (two 1) (gK rfl rfl)) (λe=>?_) λq1=>bc ?_
 .rw[cq]at e;obtain⟨ns,hW,hns,A⟩:=kdA e.2;refine cS (fm (zl (j:=2) (T ..) rfl (by rw[hW,aQ];lia))) ⟨s2,_,_,_,_,_,_,_,by unfold nE;rw[if_neg (cL.mp q0),if_pos (by rw[cq];exact e)],e2,⟨?_,gt 2,by rw[fA];lia⟩,rfl⟩
  rintro(⟨ns',M,_,u,_⟩ |⟨s',u,_⟩)
  .have:=congrArg ie M;rw[fA,aQ]at this;lia
  .rw[hW]at u;exact pT u
 apply ay;refine br (b:=decide _) (two 1) (λe=>?_) λq2=>bc ?_
 .have hkd:kd=ai:=by
   rw[e]at q1
   cases kd with
   |false=>rfl
   |true=>cases q1
  obtain⟨s',y,A⟩:=kdB hkd
  have e3:mSl (ah 0) (λ_=>aa ae) (mPt (m1 kD (kI 1))) [.im H,.pin l [.int s2],.im (.int v),.im (.bl kd),.im (.int a),.no,.no,.no]=aa (wD (W.take (W.length-1))):=by
   refine(qI (T _ _ _ _ _ _ _) rfl rfl).trans ?_
   have:HT.sIx W.length W.length (aa (-1))=W.length-1:=by
    show(if (-1:Int)<0 then (_+(W.length:Int)).toNat else min (-1:Int).toNat W.length)=_;rw[if_pos (by decide)];lia
   rw[HT.sIx_none,this,drop_zero,Nat.sub_zero];rfl
  refine cS (fm e3) ⟨s2,_,_,_,_,_,_,_,by unfold nE;rw[if_neg (cL.mp q0),if_neg (cL.mp q1),if_pos e],e2,⟨?_,gt _,by rw[fA];lia⟩,rfl⟩
  .have hlt:W.length-1<W.length:=by lia
   have eW:W=W.take (W.length-1)++[W[W.length-1]]:=by
    have:=take_append_getElem hlt;rw[show W.length-1+1=W.length by lia,take_length]at this;exact this.symm
   rw[eW]at y;exact R1 y A
 apply ay;refine br (b:=decide _ && kd) (qH (two 2) (gK rfl rfl)) (λe=>?_) λq3=>bc ?_
 .rw[cq]at e;obtain⟨ns,hW,hns,A⟩:=kdA e.2;refine cS (d:=.lst (wD (cw "kind" :: W))) (fm ((pH rfl (T ..) (by rw[c8];show 1+_<=_;lia)).trans (by rw[cwD "kind"];rfl))) ⟨s2,_,_,_,_,_,_,_,by unfold nE;rw[if_neg (cL.mp q0),if_neg (cL.mp q1),if_neg (cL.mp q2),if_pos (by rw[cq];exact e)],e2,⟨?_,?_,by rw[aQ];lia⟩,rfl⟩
  .rintro(⟨ns',M,u,_⟩ |⟨s',u,_⟩)
   .injection M with _ M
    have:=u (cw "kind") (by rw[<- M,hW];simp);exact absurd this (by decide +kernel)
   .exact pT u
  .intro w hm
   rcases bC.mp hm with rfl |hm
   .exact lv (by decide +kernel)
   .exact E w hm
 apply ay;refine br (b:=decide _) (two 2) (λe=>?_) λq4=>bc ?_
 .have hkd:kd=ai:=by
   rw[e]at q3
   cases kd with
   |false=>rfl
   |true=>cases q3
  have hne:W.getD 0 []≠cw "kind":=by rw[hkd]at J;exact of_decide_eq_false J
  have ew:W.getD a []=W[a]:=by rw[eA,du O];rfl
  have ed:=zB O;refine cS (fm ((pH (a:=wD (W.take a++[W[a]])) (fm ((pH (b:=[sT W[a]]) (fm (zl (T ..) rfl (by lia))) (fm (aV (by rw[<- ew];exact ix0 _ a _ _ rfl O (by rw[<- hS];rfl) rfl) rfl)) (by rw[c8,fA];show _+1<=_;lia)).trans (by rw[ia];rfl))) (fm (zm (T ..) rfl)) (by rw[c8,c8,aO,fA,f8];show _+1+_<=_;lia)).trans (by rw[<- ia]))) ⟨s2,_,_,_,_,_,_,_,by unfold nE;rw[if_neg (cL.mp q0),if_neg (cL.mp q1),if_neg (cL.mp q2),if_neg (cL.mp q3),if_pos e,ew],e2,⟨?_,?_,?_⟩,rfl⟩
  .rw[c7,ed]
   rintro(⟨ns',M,u,_⟩ |⟨s',u,_⟩)
   .apply hne;have hh:=congrArg (λL=>L.getD 0 []) M
    cases a with
    |zero=>rw[<- show W[0]=W.getD 0 [] by rw[eA,du O];rfl];exact hh
    |succ a=>exact(hd0 W _ a (mf.mp hn0)).symm.trans hh
   .rw[show W.take a++(_++W[a]::W.drop _)=W.take a++(W[a]::W[a]::W.drop _)from rfl,R0]at u;cases u
  .rw[c7];exact g3 (gt a) (E _ (lA O)) (gd a)
  .rw[aO,aO,fA,f8];show _+1+_<=_;lia
 apply ay;refine br (b:=decide _) (two 3) (λe=>?_) λq5=>bc ?_
 .apply ay;refine gj (d:=.lst (pW.map sT)) ?_ ?_
  .unfold pW;rfl
  .have hm:=ixW (L:=pW) (k:=dr s2 13) (by have:=bn s2 (k:=13) (by decide);show _/\_<(13:Int);lia);generalize hmw:pW.getD (dr s2 13).toNat []=m at hm;refine bI (ρ1:=[.im H,.pin l _,.im (.int v),.im (.bl kd),.im (.int a),.im (.lst (pW.map sT)),.no,.no]) (vD ?_ (aA (fm (zm (T ..) rfl))) ?_) ⟨nx s2,_,_,_,_,_,_,_,by unfold nE;rw[if_neg (cL.mp q0),if_neg (cL.mp q1),if_neg (cL.mp q2),if_neg (cL.mp q3),if_neg (cL.mp q4),if_pos e,hmw],aT _,⟨?_,?_,?_⟩,rfl⟩
   .unfold dT;rw[aC (bv (aA rfl) (iJ 1 l s2 13 rfl rfl e2 (by decide)) hm.1) rfl];rfl
   .rw[f8];show 1+_<=_;lia
   .have hmo:m≠cw "kind" /\ nxt .no (cls m)=ai:=by
     rcases KM m hm.2 with⟨y,A,_⟩ |⟨_,y,A⟩ <;> exact⟨y,A⟩
    rintro(⟨ns',M,_⟩ |⟨s',u,_⟩)
    .injection M with M _
     exact hmo.1 M
    .obtain⟨s3,h4,_⟩:=c9 u;have:=jF rfl h4;rw[show nxt sq0.c _=nxt .no _ from rfl,hmo.2]at this;cases this
   .refine g3 (a:=[]) (λ_ h=>by cases h) ?_ (gd 1)
    rcases KM m hm.2 with⟨_,_,y⟩ |⟨y,_⟩
    .exact lv y
    .have:∀w∈[cw "kinds",cw "rules",cw "Rule",cw "Never"],(∀x∈w,x≠32/\gl x=ai)/\w≠[]/\w.length<=31/\10∉w/\asc w:=by decide +kernel
     obtain⟨b1,b2,b3,b4,b5⟩:=this m y;exact⟨⟨.inl ⟨b1,b2⟩,b3⟩,b4,b5⟩
   .rw[aO,f8];show 1+_<=_;lia
 have Q:fh 1 [0] (ir (aj (aS dJ (aj (ah 0) nZ)) nZ)) (bZ 0) (eG (aS xA (aj (mIx (bO 1) (ah 0)) nZ))) (ah 0) [.im H,.pin l [.int s2],.im (.int v),.im (.bl kd),.im (.int a),.no,.no,.no]=aa (((dG W.length).filter λk=>bz (W.getD k [])).map λ(k:Nat)=>D.int k):=by
  refine Gr _ (λ(k:Nat)=>D.int k) _ _ ?_ (by rw[ic];lia) λk J=>?_
  .have:=Ny (f:=aj _ nZ) (aV (g5 [.im H,.pin l [.int s2],.im (.int v),.im (.bl kd),.im (.int a),.no,.no,.no] rfl) rfl) (by lia) (by lia);exact this
  .have hkl:=kg.mp J;have hg:W.getD k []∈W:=by rw[eA,du hkl];exact lA hkl
   refine AI rfl (gK (bL (aV ?_ rfl) (Sn (hw _ hg))) rfl) λ_=>rfl;refine cb (by rw[<- hS];rfl) rfl ?_;unfold atI ixN;rw[if_pos (by lia),if_pos (by rw[c8];lia),aD,nF,eA];unfold wD;rw[fL,du hkl];rfl
 generalize Y:(dG W.length).filter _=sp at Q
 have hspn:0<sp.length:=by
  obtain⟨i,hi,e⟩:=mem_iff_getElem.mp U;refine mf.mpr λz=>?_
  have:i∈sp:=by
   rw[<- Y];refine mem_filter.mpr ⟨kg.mpr hi,?_⟩;rw[eA,du hi];rw[e];exact hnm
  rw[z]at this;cases this
 have hspl:sp.length<=1100:=by
  rw[<- Y];have:=length_filter_le (λk=>bz (W.getD k [])) (dG W.length);rw[ic]at this;lia
 apply ay;refine gj (fm Q) ?_;have dsp:=bn s2 (k:=sp.length) (by lia);obtain⟨i,ei⟩:∃i:Nat,dr s2 sp.length=i:=⟨(dr s2 sp.length).toNat,by lia⟩;have hil:i<sp.length:=by lia
 have gs:=lA hil;generalize ks:sp[i]=q at gs
 obtain⟨hq1,hq2⟩:q<W.length/\bz _=ac:=by
  rw[<- Y]at gs;have:=mem_filter.mp gs;exact⟨kg.mp this.1,this.2⟩
 have ew:W.getD q []=W[q]:=by rw[eA,du hq1];rfl
 apply ay;refine bw (d:=.int q) (bv (aA rfl) (iJ 1 l s2 _ rfl (bL (aV rfl rfl) (lL sp λk=>D.int k)) e2 (by lia)) ?_) ?_
 .rw[ei];show atI _ _=_;unfold atI ixN;rw[if_pos (by lia),if_pos (by rw[cf];lia),aD,nF,fL,du hil,ks];rfl
 have hkp:=ixW (L:=kpW) (k:=dr (nx s2) 16) (by have:=bn (nx s2) (k:=16) (by decide);show _/\_<(16:Int);lia);generalize hkw:kpW.getD (dr (nx s2) 16).toNat []=kw at hkp
 have hkk:kept kw=ac:=by
  exact any_eq_true.mpr ⟨kw,hkp.2,beq_iff_eq.mpr rfl⟩
 have eW:W=W.take q++W[q]::W.drop (q+1):=by
  rw[<- zB hq1,take_append_drop]
 refine bI (d:=.lst (wD ((W.take q++[kw])++W.drop (q+1)))) (ρ1:=[.im H,.pin l [.int (nx (nx s2))],.im (.int v),.im (.bl kd),.im (.int (a:Nat)),.no,.im (.lst (sp.map λ(k:Nat)=>D.int k)),.im (.int (q:Nat))]) (vD (ρ1:=[.im H,.pin l [.int (nx (nx s2))],.im (.int v),.im (.bl kd),.im (.int (a:Nat)),.no,.im (.lst (sp.map λ(k:Nat)=>D.int k)),.im (.int (q:Nat))]) (vD (aA (fm (zl (T ..) rfl (by lia)))) (b:=[kw]) ?_ ?_) (aA (fm (zm (j:=q+1) (T ..) ?_))) ?_) ⟨nx (nx s2),_,_,_,_,_,_,_,by unfold nE;rw[if_neg (cL.mp q0),if_neg (cL.mp q1),if_neg (cL.mp q2),if_neg (cL.mp q3),if_neg (cL.mp q4),if_neg (cL.mp q5),Y,ei,hkw,eA,nF,du hil,ks];rfl,aT _,⟨?_,?_,?_⟩,rfl⟩
 .unfold dT;rw[aC (bv (aA (bL rfl yE)) (iJ 1 l (nx s2) 16 rfl rfl (aT _) (by decide)) hkp.1) rfl];rfl
 .rw[fA];show _+1<=_;lia
 .unfold mPt;rfl
 .rw[aO,fA,f8];show _+1+_<=_;lia
 .rw[c7];rw[eW]at hA;exact R3 (by rw[<- ew];exact hq2) hkk hA
 .rw[c7];exact g3 (gt q) (lv (.inr (.inr (.inl hkk)))) (gd _)
 .rw[aO,aO,fA,f8];show _+1+_<=_;lia
def Ss{α:Type}{fe:Xe}{F:Int->Int×α}{toD:α->D}{tl:LS}(u:∀d s,okS s->fe [.im d,.pin l [.int s]]=aa (toD (F s).2,[.im d,.pin l [.int (F s).1]]))(o:∀s,okS (F s).1)(h:okS s)(hi:fi ρ=aa (ds,.pin l [.int s]::tl))(y:ds.length<=1000):
  gN 1 [0] 0 0 fi (bZ 0) fe ρ=aa (.lst ((itP F ds.length s).2.map toD),.pin l [.int (itP F ds.length s).1]::tl):=by
 have e:∀s0 d s,okS s->oV 1 [0] 0 0 (bZ 0) fe (s0::tl) l d _=aa _:=λs0 d s h=>by
  show(aa [Sl.im d,Sl.pin l _]).bind _=_;rw[aD,u d s h,aD];refine if_pos λi hi=>?_
  cases i with
  |zero=>cases hi
  |succ i=>rfl
 have loop:∀s0 ds s,okS s->g9 1 [0] 0 0 _ fe _ l ds [.int s]=aa ((itP F ds.length s).2.map toD,[.int (itP F ds.length s).1]):=λs0 ds=>by
  induction ds with
  |nil=>intro s _;rfl
  |cons d ds v=>
   intro s h;unfold g9;rw[e s0 d s h,aD,v (F s).1 (o s)];rfl
 unfold gN;rw[hi,aD];show(if ds.length<=16777216/\_[0]?=aa 0/\_=ac then (g9 1 [0] 0 0 _ fe _ l ds _).map λq=>_ else ae)=_;rw[if_pos ⟨by lia,rfl,rfl⟩,loop _ ds s h];rfl
def zn{f:Xa}(h:f ρ=aa (ds,ρ1)):dT f ρ=aa (.lst ds,ρ1):=by
 unfold dT;rw[h];rfl
structure Tm(v:Int)(k:Int)(bd:List Pa)(ps:List (LN×LN))(t:Th):Prop where
 bd1:∀q∈bd,PaW q
 bd2:bd.length<=4
 bd3:k<=2\/v≠2->k<=3->bd.length<=3
 ps1:PsW ps
 ps2:k<=1\/v≠1->ps.length<=3
 t1:ThW t
 b0:0<k->v=0->4<=t.2.length
 b1:1<k->v=1->3<ps.length
 b2:2<k->v=2\/v=3/\3<k->∃q∈bd,BP q
abbrev unP(s:Int):Int×Pa:=((dD (dD s).1).1,.un (dD s).2 (dD (dD s).1).2)
abbrev tmA(v s:Int)(t:Th):Int×Th:=if decide (v=0) then ((itP dD (4+dr s 3).toNat (nx s)).1,(t.1,(itP dD (4+dr s 3).toNat (nx s)).2)) else (s,t)
abbrev tmB(v s:Int)(ps:List (LN×LN)):Int×List (LN×LN):=if decide (v=1) then itP cU (4+dr s 2).toNat (nx s) else (s,ps)
abbrev tmC(v s:Int)(bd:List Pa):Int×List Pa:=if decide (v=2) then ((itP cU (3+dr (cE s).1 2).toNat (nx (cE s).1)).1,bd++[.ct ac 1 (cE s).2 (itP cU (3+dr (cE s).1 2).toNat (nx (cE s).1)).2]) else (s,bd)
abbrev tmD(v s:Int)(bd:List Pa)(t:Th):Int×List Pa:=if decide (v=3) then (nx (cE s).1,bd++[.ct ai 1 ((cE s).2++[(t,-1-dr (cE s).1 9,ai)]) []]) else (s,bd)
abbrev tmN(s:Int):Nat:=if dr (nx s) 2=0 then 0 else (13+dr s 4).toNat
abbrev tmE(v s:Int)(bd:List Pa)(ps:List (LN×LN))(t:Th):Int×Ro:=
 if decide (v=4) then ((itP cr (tmN s) (nx (nx s))).1,.kind t.1 (itP cr (tmN s) (nx (nx s))).2)
 else if decide (v=5) then ((itP unP (1+dr s 3).toNat (nx s)).1,.never (itP unP (1+dr s 3).toNat (nx s)).2 ps)
 else if decide (dr s 2=0) then (nx s,.never (bd++[.is t]) ps) else (nx s,.rule ac t bd ps)
abbrev KN(v s:Int)(bd:List Pa)(ps:List (LN×LN))(t:Th):Int×Ro:=tmE v (tmD v (tmC v (tmB v (tmA v s t).1 ps).1 bd).1 (tmC v (tmB v (tmA v s t).1 ps).1 bd).2 (tmA v s t).2).1 (tmD v (tmC v (tmB v (tmA v s t).1 ps).1 bd).1 (tmC v (tmB v (tmA v s t).1 ps).1 bd).2 (tmA v s t).2).2 (tmB v (tmA v s t).1 ps).2 (tmA v s t).2
abbrev zo(s2:Int):Int×List (LN×LN):=itP cU (dr s2 4).toNat (nx s2)
abbrev f6(s:Int):Int×Ro:=KN (dr s 6) (thP (zo (d6 (nx s)).1).1).1 (d6 (nx s)).2 (zo (d6 (nx s)).1).2 (thP (zo (d6 (nx s)).1).1).2
def KO(l:Addr)(s:Int)(hs:okS s):okS (f6 s).1/\RoW (f6 s).2/\(BR (f6 s).2\/∃bd ps,(f6 s).2=.never bd ps/\gz bd/\bd≠[]/\∀p∈bd,p.unl=ac)/\Co l [] [] [.int s]=aa ([.int (f6 s).1],(f6 s).2.toD):=by
 suffices hwp:wp uS _ (λo=>∃s' r a1 a2 a3 a4,(s',r)=f6 s/\okS s'/\RoW r/\(BR r\/∃bd ps,r=.never bd ps/\gz bd/\bd≠[]/\∀p∈bd,p.unl=ac)/\o=.rtS r.toD [.pin l [.int s'],a1,a2,a3,a4]) by
  obtain⟨o,e,s',r,a1,a2,a3,a4,h0,h1,h2,h3,rfl⟩:=hwp;rw[<- h0];exact⟨h1,h2,h3,eQ e rfl⟩
 have dv:=bn s (k:=6) (by decide);have e1:=aT s;unfold uS f6;apply ay;refine bw (cI l s 6 _ rfl hs (by decide)) ?_;generalize dr s 6=v at dv;generalize nx s=s1 at e1;apply ay;refine bw (dY (F:=d6) (toD:=λb=>.lst _) (λs h=>Jb l s h) s1 _ e1) ?_;obtain⟨o2,hb1,hb2⟩:=DY s1;generalize (d6 s1).2=bd at hb1 hb2;generalize (d6 s1).1=s2 at o2;have d4:=bn s2 (k:=4) (by decide);apply ay;refine bw (rV l _ _ _ rfl (cI l s2 4 _ rfl o2 (by decide)) (aT _) (by lia)) ?_;obtain⟨o3,hp2⟩:=gy (λs=>(iH s).1) (dr s2 4).toNat _ (aT _);have hp1:=iD (λs=>(iH s).2) (dr s2 4).toNat (nx s2);unfold zo;generalize itP cU (dr s2 4).toNat _=pp at o3 hp1 hp2;obtain⟨s3,ps⟩:=pp;dsimp only at o3 hp1 hp2 ⊢;apply ay;refine bw (dY (λs h=>rR l s h) s3 _ o3) ?_;obtain⟨H,ht⟩:=jC s3;generalize (thP s3).2=t at ht;generalize (thP s3).1=y at H;have Y:Tm v 0 bd ps t:=⟨λq hq=>paW (hb1 q hq),by lia,λ_ _=>hb2,⟨hp1,by lia⟩,λ_=>by lia,ht.w,λh=>absurd h (by decide),λh=>absurd h (by decide),λh=>absurd h (by decide)⟩;have U:∀z (a0 a2 a3 a4:Sl),mB (m2 dEq (ah 1) (λ_=>aa _)) [a0,.im _,a2,a3,a4]=aa _:=λz _ _ _ _=>bq (aH rfl rfl (gv v z));have thix:∀t (a0 a1 a2 a3:Sl),mIx (bO 4) (kI 0) [a0,a1,a2,a3,.im (thD t)]=aa _:=λt _ _ _ _=>cb rfl rfl rfl;refine jT (λρ=>∃s t',(s,t')=tmA v y t/\okS s/\Tm v 1 bd ps t'/\ρ=[.pin l [.int s],.im (.int v),.im (.lst (bd.map Pa.toD)),.im (.lst (ps.map prD)),.im (thD t')]) ?_ ?_
 .refine br (b:=decide _) (U ..) (λe=>?_) λe=>bc (k_J ⟨y,t,by unfold tmA;rw[if_neg (cL.mp e)],H,⟨Y.bd1,Y.bd2,λ_ _=>Y.bd3 (.inl (by decide)) (by decide),Y.ps1,λ_=>Y.ps2 (.inl (by decide)),Y.t1,λ_ z=>absurd z (of_decide_eq_false e),λh=>absurd h (by decide),λh=>absurd h (by decide)⟩,rfl⟩);have d3:=bn y (k:=3) (by decide);have ec:=rO (toD:=sT) (λs h=>rQ l s h) (λs=>(h8 s).1) (tl:=[.im (.int v),.im (.lst (bd.map Pa.toD)),.im (.lst (ps.map prD)),.im (thD t)]) (aT y) (pG (bv (aA (f:=λ_=>aa (.int 4)) rfl) (cI l y 3 _ (f:=λ_=>aa _) rfl H (by decide)) fX) (by lia) (by lia)) (by rw[iG];lia);rw[iG]at ec;obtain⟨Q,c2⟩:=gy (λs=>(h8 s).1) (4+dr y 3).toNat _ (aT _);have O:=iD (P:=λa=>cO a=ac) (λs=>(h8 s).2) (4+dr y 3).toNat (nx y);have hA:tmA v y t=((itP dD (4+dr y 3).toNat (nx y)).1,(t.1,(itP dD (4+dr y 3).toNat (nx y)).2)):=by unfold tmA;rw[if_pos e]
  rw[hA];generalize itP dD (4+dr y 3).toNat _=q at ec Q c2 O;refine bw (dq (aC (aA (thix ..)) (aC ec rfl))) (k_J ⟨q.1,_,rfl,Q,⟨Y.bd1,Y.bd2,λ_ _=>Y.bd3 (.inl (by decide)) (by decide),Y.ps1,λ_=>Y.ps2 (.inl (by decide)),⟨Y.t1.1,O,by show q.2.length<=6;lia⟩,λ_ _=>by show 4<=q.2.length;lia,λh=>absurd h (by decide),λh=>absurd h (by decide)⟩,rfl⟩)
 rintro _ ⟨s5,t',hA,H,T,rfl⟩;unfold KN;rw[<- hA];generalize s5=y at H;generalize t'=t at T;refine jT (λρ=>∃s ps',(s,ps')=tmB v y ps/\okS s/\Tm v 2 bd ps' t/\ρ=[.pin l [.int s],.im (.int v),.im (.lst (bd.map Pa.toD)),.im (.lst (ps'.map prD)),.im (thD t)]) ?_ ?_
 .refine br (b:=decide _) (U ..) (λe=>?_) λe=>bc (k_J ⟨y,ps,by unfold tmB;rw[if_neg (cL.mp e)],H,⟨T.bd1,T.bd2,λ_ _=>T.bd3 (.inl (by decide)) (by decide),T.ps1,λ_=>T.ps2 (.inl (by decide)),T.t1,λ_=>T.b0 (by decide),λ_ z=>absurd z (of_decide_eq_false e),λh=>absurd h (by decide)⟩,rfl⟩);have d2:=bn y (k:=2) (by decide);obtain⟨Q,c2⟩:=gy (λs=>(iH s).1) (4+dr y 2).toNat _ (aT _);have O:=iD (λs=>(iH s).2) (4+dr y 2).toNat (nx y);have ep:=rV l _ _ _ (ρ:=[.pin l _,.im (.int v),.im (.lst (bd.map Pa.toD)),.im (.lst (ps.map prD)),.im (thD t)]) rfl (bv (aA (f:=λ_=>aa (.int 4)) rfl) (cI l y 2 _ (f:=λ_=>aa _) rfl H (by decide)) fX) (aT _) (by lia);have hB:tmB v y ps=itP cU (4+dr y 2).toNat (nx y):=by unfold tmB;rw[if_pos e]
  rw[hB];generalize itP cU (4+dr y 2).toNat _=q at ep Q c2 O;have ev:=of_decide_eq_true e;exact bw ep (k_J ⟨q.1,q.2,rfl,Q,⟨T.bd1,T.bd2,λ_ _=>T.bd3 (.inl (by decide)) (by decide),⟨O,by lia⟩,λh=>h.elim (λh=>absurd h (by decide)) λh=>absurd ev h,T.t1,λ_=>T.b0 (by decide),λ_ _=>by lia,λh=>absurd h (by decide)⟩,rfl⟩)
 rintro _ ⟨s5,ps',hB,H,M,rfl⟩;rw[<- hB];generalize s5=y at H;generalize ps'=ps at M
 have snoc:∀{bd:List Pa} {q:Pa},(∀x∈bd,PaW x)->PaW q->∀x∈bd++[q],PaW x:=λ{bd q} h1 h2 x hx=>by
  rcases dw.mp hx with h |h
  .exact h1 x h
  .rw[bR.mp h];exact h2
 have addB:∀{bd:List Pa} {q:Pa},bd.length<=100->bB (.lst _) (.lst [q.toD])=aa (.lst ((bd++[q]).map Pa.toD)):=λ{bd q} h=>by
  show(if (bd.map Pa.toD).length+1<=16777216 then aa _ else ae)=_;rw[if_pos (by rw[cf];lia),mh];rfl
 have g5:∀bd (q:Pa),(bd++[q]).length=bd.length+1:=λbd q=>by simp
 refine jT (λρ=>∃s A,(s,A)=tmC v y bd/\okS s/\Tm v 3 A ps t/\ρ=[.pin l [.int s],.im (.int v),.im (.lst (A.map Pa.toD)),.im (.lst (ps.map prD)),.im (thD t)]) ?_ ?_
 .refine br (b:=decide _) (U ..) (λe=>?_) λe=>bc (k_J ⟨y,bd,by unfold tmC;rw[if_neg (cL.mp e)],H,⟨M.bd1,M.bd2,λ_ _=>M.bd3 (.inl (by decide)) (by decide),M.ps1,λh=>M.ps2 (h.imp (λh=>absurd h (by decide)) id),M.t1,λ_=>M.b0 (by decide),λ_=>M.b1 (by decide),λ_ z=>z.elim (λz=>absurd z (of_decide_eq_false e)) λz=>absurd z.2 (by decide)⟩,rfl⟩);have ev:=of_decide_eq_true e;obtain⟨i1,i2,i3,i4⟩:=rT y;have ei:=dY (F:=cE) (toD:=λb=>.lst _) (λs h=>yH l s h) y [.im (.int v),.im (.lst (bd.map Pa.toD)),.im (.lst (ps.map prD)),.im (thD t)] H;unfold tmC;rw[if_pos e];generalize cE y=q at ei i1 i2 i3 i4;have d2:=bn q.1 (k:=2) (by decide);obtain⟨Q,c2⟩:=gy (λs=>(iH s).1) (3+dr q.1 2).toNat _ (aT _);have O:=iD (λs=>(iH s).2) (3+dr q.1 2).toNat (nx q.1);have ep:=rV l _ _ _ (ρ:=[.pin l _,.im (.int v),.im (.lst (bd.map Pa.toD)),.im (.lst (ps.map prD)),.im (thD t)]) rfl (bv (aA (f:=λ_=>aa (.int 3)) rfl) (cI l q.1 2 _ (f:=λ_=>aa _) rfl i1 (by decide)) fX) (aT _) (by lia);generalize itP cU (3+dr q.1 2).toNat _=u at ep Q c2 O;have hb3:=M.bd3 (.inl (by decide)) (by decide)
  have em:dT (ag (cc (ag (mX (kSt "least")) (ag (mX (kI 1)) (ag (aE 0 m9 af) (ag (aE 0 lh (ag (mX2 bB (mX (kI 3)) (aE 0 m_0 (ag (mX (kI 2)) af))) af)) af))))) af) [.pin l [.int y],.im (.int v),.im (.lst (bd.map Pa.toD)),.im (.lst (ps.map prD)),.im (thD t)]=aa (.lst [Pa.toD (.ct ac 1 q.2 u.2)],[.pin l [.int u.1],.im (.int v),.im (.lst (bd.map Pa.toD)),.im (.lst (ps.map prD)),.im (thD t)]):=by
   exact zn (aC (dq (aC (aA rfl) (aC (aA rfl) (aC ei (aC ep rfl))))) rfl)
  have hPW:PaW (.ct ac 1 q.2 u.2):=⟨by unfold eJ;decide,λz hz=>(i2 z hz).w,⟨i3,by lia⟩,O,by lia⟩;have hPB:BP (.ct ac 1 q.2 u.2):=.inl (by lia);refine bw (bv (aA rfl) em (addB (by lia))) (k_J ⟨u.1,bd++_,rfl,Q,⟨snoc M.bd1 hPW,by rw[g5];lia,λh=>h.elim (λh=>absurd h (by decide)) λh=>absurd ev h,M.ps1,λ_=>M.ps2 (.inr (by lia)),M.t1,λ_=>M.b0 (by decide),λ_=>M.b1 (by decide),λ_ _=>⟨_,fM _ be,hPB⟩⟩,rfl⟩)
 rintro _ ⟨s5,A,hC,H,J,rfl⟩;rw[<- hC];generalize s5=y at H;generalize A=bd at J;refine jT (λρ=>∃s A,(s,A)=tmD v y bd t/\okS s/\Tm v 4 A ps t/\ρ=[.pin l [.int s],.im (.int v),.im (.lst (A.map Pa.toD)),.im (.lst (ps.map prD)),.im (thD t)]) ?_ ?_
 .refine br (b:=decide _) (U ..) (λe=>?_) λe=>bc (k_J ⟨y,bd,by unfold tmD;rw[if_neg (cL.mp e)],H,⟨J.bd1,J.bd2,λ_ h=>absurd h (by decide),J.ps1,λh=>J.ps2 (h.imp (λh=>absurd h (by decide)) id),J.t1,λ_=>J.b0 (by decide),λ_=>J.b1 (by decide),λ_ z=>J.b2 (by decide) (z.imp id λz=>absurd z.1 (of_decide_eq_false e))⟩,rfl⟩);have ev:=of_decide_eq_true e;obtain⟨i1,i2,i3,i4⟩:=rT y;have ei:=dY (F:=cE) (toD:=λb=>.lst _) (λs h=>yH l s h) y [.im (.int v),.im (.lst (bd.map Pa.toD)),.im (.lst (ps.map prD)),.im (thD t)] H;unfold tmD;rw[if_pos e];generalize cE y=q at ei i1 i2 i3 i4;have d9:=bn q.1 (k:=9) (by decide);have hb3:=J.bd3 (.inr (by lia)) (by decide)
  have em:dT (ag (cc (ag (mX (kSt "most")) (ag (mX (kI 1)) (ag (mX2 bB (aE 0 m9 af) (dT (ag (cc (ag (mX (ah 4)) (ag (mX2 jP (mX (m1 kD (kI 1))) (aE 0 m_0 (ag (mX (kI 9)) af))) af))) af))) (ag (mX (aZ nZ)) af))))) af) [.pin l [.int y],.im (.int v),.im (.lst (bd.map Pa.toD)),.im (.lst (ps.map prD)),.im (thD t)]=aa (.lst [Pa.toD (.ct ai 1 (q.2++[(t,-1-dr q.1 9,ai)]) [])],[.pin l [.int (nx q.1)],.im (.int v),.im (.lst (bd.map Pa.toD)),.im (.lst (ps.map prD)),.im (thD t)]):=by
   have ez:dT (ag (cc (ag (mX (ah 4)) (ag (mX2 jP (mX (m1 kD (kI 1))) (aE 0 m_0 (ag (mX (kI 9)) af))) af))) af) [.pin l [.int q.1],.im (.int v),.im (.lst (bd.map Pa.toD)),.im (.lst (ps.map prD)),.im (thD t)]=aa (.lst [cP (t,-1-dr q.1 9,ai)],[.pin l [.int (nx q.1)],.im (.int v),.im (.lst (bd.map Pa.toD)),.im (.lst (ps.map prD)),.im (thD t)]):=by
    exact zn (aC (dq (aC (aA rfl) (aC (bv (aA rfl) (cI l q.1 9 _ (f:=λ_=>aa (.int 9)) rfl i1 (by decide)) tW) rfl))) rfl)
   have ea:bB (.lst (q.2.map cP)) (.lst [cP (t,-1-dr q.1 9,ai)])=aa (.lst ((q.2++[(t,-1-dr q.1 9,ai)]).map cP)):=by
    show(if (q.2.map cP).length+1<=16777216 then aa (D.lst (q.2.map cP++[cP (t,-1-dr q.1 9,ai)])) else ae)=_;rw[if_pos (by rw[cf];lia),mh];rfl
   exact zn (aC (dq (aC (aA rfl) (aC (aA rfl) (aC (bv ei ez ea) (aC (aA rfl) rfl))))) rfl)
  have hPW:PaW (.ct ai 1 (q.2++[(t,-1-dr q.1 9,ai)]) []):=by
   refine⟨by unfold eJ;decide,λz hz=>?_,⟨by simp,by rw[aO,f7];lia⟩,(λ_ h=>by cases h),by decide⟩
   rcases dw.mp hz with hz |hz
   .exact(i2 z hz).w
   .rw[bR.mp hz];exact⟨J.t1,by show -(10 ^ 30) < -1-dr q.1 9/\-1-dr q.1 9<10 ^ 30;lia⟩
  have hPB:BP (.ct ai 1 (q.2++[(t,-1-dr q.1 9,ai)]) []):=.inr ⟨_,_,rfl,mf.mp i3,by show -1-dr q.1 9<0;lia⟩;exact bw (bv (aA rfl) em (addB (q:=.ct ai 1 (q.2++[(t,-1-dr q.1 9,ai)]) []) (by lia))) (k_J ⟨nx q.1,bd++[.ct ai 1 (q.2++[(t,-1-dr q.1 9,ai)]) []],rfl,aT _,⟨snoc J.bd1 hPW,by rw[g5];lia,λ_ h=>absurd h (by decide),J.ps1,λ_=>J.ps2 (.inr (by lia)),J.t1,λ_=>J.b0 (by decide),λ_=>J.b1 (by decide),λ_ _=>⟨_,fM _ be,hPB⟩⟩,rfl⟩)
 rintro _ ⟨s5,A,hD,H,E,rfl⟩;rw[<- hD];generalize s5=y at H;generalize A=bd at E;unfold tmE;apply ay;refine br (b:=decide (v=4)) (U ..) (λe=>?_) λe4=>bc ?_
 .have d4:=bn y (k:=4) (by decide);have d2:=bn (nx y) (k:=2) (by decide);rw[if_pos e]
  obtain⟨n,hn0,hn,hn2,en⟩:∃n:Nat,tmN y=n/\(n=0\/12<n)/\n<=16/\dU (.lst [.int 0,.int (13+dr y 4)]) (.int (dr (nx y) 2))=aa (.int (n:Nat)):=by
   rcases(show dr (nx y) 2=0\/dr (nx y) 2=1 by lia)with z |z
   .exact⟨0,by unfold tmN;rw[if_pos z],.inl rfl,by lia,by rw[z];rfl⟩
   .refine⟨(13+dr y 4).toNat,by unfold tmN;rw[if_neg (by lia)],.inr (by lia),by lia,?_⟩;rw[z,Int.toNat_of_nonneg (by lia)];rfl
  have er:mX2 dU (dT (ag (mX (kI 0)) (ag (mX2 bB (mX (kI 13)) (aE 0 m_0 (ag (mX (kI 4)) af))) af))) (aE 0 m_0 (ag (mX (kI 2)) af)) [.pin l [.int y],.im (.int v),.im (.lst (bd.map Pa.toD)),.im (.lst (ps.map prD)),.im (thD t)]=aa (.int (n:Nat),[.pin l [.int (nx (nx y))],.im (.int v),.im (.lst (bd.map Pa.toD)),.im (.lst (ps.map prD)),.im (thD t)]):=by
   refine bv (ρ1:=[.pin l [.int (nx y)],.im (.int v),.im (.lst (bd.map Pa.toD)),.im (.lst (ps.map prD)),.im (thD t)]) ?_ (cI l (nx y) 2 _ (f:=λ_=>aa (.int 2)) rfl (aT _) (by decide)) en;unfold dT;rw[aC (aA rfl) (aC (bv (aA rfl) (cI l y 4 _ (f:=λ_=>aa (.int 4)) rfl H (by decide)) fX) rfl)];rfl
  have ec:=rO (F:=cr) (toD:=sT) (λs h=>pB l s h) (λs=>(h7 s).1) (tl:=[.im (.int v),.im (.lst (bd.map Pa.toD)),.im (.lst (ps.map prD)),.im (thD t)]) (aT (nx y)) (pG er (by lia) (by lia)) (by rw[iG];lia);rw[iG,nF]at ec;obtain⟨Q,c2⟩:=gy (λs=>(h7 s).1) n (nx (nx y)) (aT _);have O:=iD (P:=λa=>bz a=ac) (λs=>(h7 s).2) n (nx (nx y));rw[hn0];generalize itP cr n (nx (nx y))=q at ec Q c2 O;refine bI (dq (aC (aA rfl) (aC (aA (thix ..)) (aC ec rfl)))) ⟨q.1,.kind t.1 q.2,_,_,_,_,rfl,Q,⟨E.t1.1,O,by lia⟩,.inl ?_,rfl⟩
  rcases hn with z |z
  .exact .inl (lz.mp (by lia))
  .exact .inr (by lia)
 apply ay;rw[if_neg (cL.mp e4)];refine br (b:=decide (v=5)) (U ..) (λe=>?_) λe5=>bc ?_
 .rw[if_pos e];have d3:=bn y (k:=3) (by decide);have ec:=Ss (fe:=cc (ag (mX (kSt "unlike")) (ag (aE 1 lg af) (ag (aE 1 lg af) af)))) (F:=unP) (toD:=Pa.toD) (l:=l) (λd s h=>dq (aC (aA rfl) (aC (iC (i:=1) (ρ1:=[.im d,.pin l [.int s]]) rfl rfl rfl (rQ l s h)) (aC (iC (i:=1) (ρ1:=[.im d,.pin l [.int (dD s).1]]) rfl rfl rfl (rQ l (dD s).1 (h8 s).1)) rfl)))) (λs=>(h8 _).1) (tl:=[.im (.int v),.im (.lst (bd.map Pa.toD)),.im (.lst (ps.map prD)),.im (thD t)]) (aT y) (pG (bv (aA (f:=λ_=>aa (.int 1)) rfl) (cI l y 3 _ (f:=λ_=>aa (.int 3)) rfl H (by decide)) fX) (by lia) (by lia)) (by rw[iG];lia);rw[iG]at ec;obtain⟨Q,c2⟩:=gy (F:=unP) (λs=>(h8 _).1) (1+dr y 3).toNat (nx y) (aT _);have O:=iD (F:=unP) (P:=λp=>jB p/\p.unl=ac) (λs=>⟨⟨(h8 _).2,(h8 _).2⟩,rfl⟩) (1+dr y 3).toNat (nx y);generalize itP unP (1+dr y 3).toNat (nx y)=q at ec Q c2 O;apply ay;refine bw ec ?_;have hne:q.2≠[]:=λz=>by rw[z]at c2;simp at c2;lia
  have hB:gz q.2:=⟨λp hp=>(O p hp).1,by lia⟩;exact cS (wN (aV rfl (aV rfl (aV rfl rfl)))) ⟨q.1,.never q.2 ps,_,_,_,_,rfl,Q,⟨hB.w,hne,E.ps1⟩,.inr ⟨_,_,rfl,hB,hne,λp hp=>(O p hp).2⟩,rfl⟩
 rw[if_neg (cL.mp e5)];have n4:=of_decide_eq_false e4;have n5:=of_decide_eq_false e5;have hv:v=0\/v=1\/v=2\/v=3:=by lia
 have hbd:BdW bd:=⟨E.bd1,by have:=E.bd2;lia⟩;apply ay;refine fY (b:=decide (dr y 2=0)) (bxX (bv (cI l y 2 _ rfl H (by decide)) (aA rfl) (gv _ _))) (λe=>?_) λe=>bc ?_
 .refine cS (d:=Ro.toD (.never (bd++[.is t]) ps)) (wN (aV rfl (aV (d:=.lst ((bd++[Pa.is t]).map Pa.toD)) (fm ((pH (a:=bd.map Pa.toD) (b:=[Pa.toD (.is t)]) rfl rfl (by rw[cf];have:=E.bd2;show _+1<=_;lia)).trans (by rw[mh];rfl))) (aV rfl rfl)))) ⟨nx y,.never (bd++[.is t]) ps,_,_,_,_,by rw[if_pos e],aT _,⟨⟨snoc (q:=.is t) E.bd1 E.t1,by rw[g5];have:=E.bd2;lia⟩,by simp,E.ps1⟩,.inl ?_,rfl⟩
  rcases hv with z |z |z |z
  .exact .inl ⟨.is t,by simp,E.b0 (by decide) z⟩
  .exact .inr (E.b1 (by decide) z)
  .obtain⟨q,hq,hb⟩:=E.b2 (by decide) (.inl z);exact .inl ⟨q,fN _ hq,hb⟩
  .obtain⟨q,hq,hb⟩:=E.b2 (by decide) (.inr ⟨z,by decide⟩);exact .inl ⟨q,fN _ hq,hb⟩
 .refine cS (d:=Ro.toD (.rule ac t bd ps)) (wN (aV rfl (aV rfl (aV rfl (aV rfl rfl))))) ⟨nx y,.rule ac t bd ps,_,_,_,_,by rw[if_neg (cL.mp e)],aT _,⟨E.t1,hbd,E.ps1⟩,.inl ?_,rfl⟩
  rcases hv with z |z |z |z
  .exact .inl (E.b0 (by decide) z)
  .exact .inr (.inr (E.b1 (by decide) z))
  .exact .inr (.inl (E.b2 (by decide) (.inl z)))
  .exact .inr (.inl (E.b2 (by decide) (.inr ⟨z,by decide⟩)))
def EW:∀(r o:LN),o≠[]->∃w u,ws r o=w::u/\∀e,ws r (e++o)=(e++w)::u
 | [],o,h=>⟨o,[],by show fl o=_;unfold fl;rw[if_neg h],λe=>by show fl _=_;unfold fl;rw[if_neg (by simp[h])]⟩
 |x::r,o,h=>by
  by_cases A:x=32
  .subst A;refine⟨o,ws r [],?_,λe=>?_⟩
   .have:=lZ 0 r o;rw[show cQ _ 32++r=32::r from rfl]at this;rw[this];unfold fl;rw[if_neg h];rfl
   .have:=lZ 0 r (e++o);rw[show cQ _ 32++r=32::r from rfl]at this;rw[this];unfold fl;rw[if_neg (by simp[h])];rfl
  .by_cases v:gl x=ac
   .refine⟨o,[x]::ws r [],?_,λe=>?_⟩
    .rw[lq r o v];unfold fl;rw[if_neg h];rfl
    .rw[lq r _ v];unfold fl;rw[if_neg (by simp[h])];rfl
   .have E:plain [x]:=λy M=>by rw[bR.mp M];exact⟨A,by simpa using v⟩
    obtain⟨w,u,H,J⟩:=EW r (o++[x]) (by simp);refine⟨w,u,(kc [x] r o E).trans H,λe=>?_⟩;rw[show x::r=[x]++r from rfl,kc [x] r _ E,c7];exact J e
def Su(l e:LN)(h:e≠[]):ws l e=e::ws l []\/∃w o,ws l []=w::o/\ws l e=(e++w)::o:=by
 cases l with
 |nil=>exact .inl (by show fl e=e::fl [];unfold fl;rw[if_neg h,if_pos rfl])
 |cons x r=>
  by_cases E:x=32
  .subst E;refine .inl ?_;have v:=lZ 0 r e;have A:=lZ 0 r [];rw[show cQ _ 32++r=32::r from rfl]at v A;rw[v,A];unfold fl;rw[if_neg h,if_pos rfl];rfl
  .by_cases u:gl x=ac
   .refine .inl ?_;rw[lq r e u,lq r [] u];unfold fl;rw[if_neg h,if_pos rfl];rfl
   .have H:plain [x]:=λy O=>by rw[bR.mp O];exact⟨E,by simpa using u⟩
    obtain⟨w,o,J,M⟩:=EW r [x] (by simp);refine .inr ⟨w,o,(kc [x] r [] H).trans J,(kc [x] r e H).trans (M e)⟩
def zp(c:Nat)(v:plain [c]):∀(l o:LN),ws (l++[c]) o=ws l o++[[c]]\/∃u w,ws l o=u++[w]/\ws (l++[c]) o=u++[w++[c]]
 | [],o=>by
  have e:ws ([]++[c]) o=[o++[c]]:=by
   rw[show([]++[c]:LN)=[c]++[]from rfl,kc [c] [] o v];show fl _=_;unfold fl;rw[if_neg (by simp)]
  by_cases h:o=[]
  .subst h;exact .inl e
  .exact .inr ⟨[],o,by show fl o=_;unfold fl;rw[if_neg h];rfl,e⟩
 |x::l,o=>by
  by_cases J:x=32
  .subst J;have E:=lZ 0 (l++[c]) o;have H:=lZ 0 l o;rw[show cQ _ 32++_=32::l++[c]from rfl]at E;rw[show cQ _ 32++l=32::l from rfl]at H;rw[E,H]
   rcases zp c v l []with e |⟨u,w,e1,e2⟩
   .exact .inl (by rw[e,c7])
   .exact .inr ⟨fl o++u,w,by rw[e1,c7],by rw[e2,c7]⟩
  .by_cases A:gl x=ac
   .rw[show x::l++[c]=x::(l++[c])from rfl,lq _ o A,lq l o A]
    rcases zp c v l []with e |⟨u,w,e1,e2⟩
    .exact .inl (by rw[e];simp)
    .exact .inr ⟨fl o++[x]::u,w,by rw[e1];simp,by rw[e2];simp⟩
   .have M:plain [x]:=λy O=>by rw[bR.mp O];exact⟨J,by simpa using A⟩
    rw[show x::l++[c]=[x]++_ from rfl,show x::l=[x]++l from rfl,kc [x] _ o M,kc [x] l o M];exact zp c v l _
def zq{c:Nat}(E:c=9\/c=10)(h:c∈w):cls w=.no:=by
 have u:bz w=ai:=by
  cases e:bz w with
  |false=>rfl
  |true=>have:=vi e c h;lia
 have v:dZ w=ai:=by
  cases e:dZ w with
  |false=>rfl
  |true=>have:=(rY e).1 c h;lia
 have y:fz w=ai:=by
  cases e:fz w with
  |false=>rfl
  |true=>have:=(vw e).2 c h;lia
 have o:∀x,40<=x->w≠[x]:=λx J e=>by rw[e]at h;rw[bR.mp h]at E;lia
 have A:kept w=ai:=by
  cases e:kept w with
  |false=>rfl
  |true=>
   obtain⟨k,H,e⟩:=any_eq_true.mp e;rw[<- beq_iff_eq.mp e]at h;have:=(Sj k H).2 c h;lia
 unfold cls;rw[u,v,y,A,if_neg cp,if_neg cp,if_neg cp,if_neg (o 40 (by lia)),if_neg (o 41 (by lia)),if_neg (o 44 (by lia)),if_neg cp]
abbrev NoL(b:LN):Prop:=r_4 [.str (tx b)]=ac/\b.length<=37000
variable{b:LN}
def sy{W:L2N}(o:b.length<=37000)(e:ws b []=W)(h:∀w∈W,asc w/\w.length<=1000)(v:W.length<=100000)(u:¬iK W):NoL b:=by
 subst e;exact⟨RV o ⟨h,v⟩ u,o⟩
def vE{W:L2N}(o:okS s)(h:∀w∈W,GW w)(u:W.length<=1110):(lnP W s).2.length<=36632:=by
 have e:=(EA o h).2;have hd:=bn (lnS W s).1 (k:=3) (by decide);show(_++cQ _ 32).length<=_;rw[aO,gA];lia
def EX{W:L2N}(u:okS s)(h:∀w∈W,GW w/\10∉w/\asc w)(v:W.length<=1110)(o:¬iK W):NoL (lnP W s).2:=by
 refine sy (by have:=vE u (λw e=>(h w e).1) v;lia) (y8 s λw e=>(h w e).1) (λw e=>⟨(h w e).2.2,by have:=(h w e).1.2;lia⟩) (by lia) o
def KP:∀(W:L2N) (p:Int×LN×LN),(∀w∈W,10∉w)->10∉p.2.1->10∉(W.foldl stL p).2.1
 | [],_,_,h=>h
 |w::W,p,hw,h=>by
  refine KP W _ (λx e=>hw x (bQ _ e)) ?_;intro e
  rcases dw.1 e with e |e
  .exact h e
  .rcases dw.1 e with e |e
   .exact absurd (vG e) (by decide)
   .exact hw w be e
def Sv{W:L2N}(h:∀w∈W,10∉w):10∉(lnP W s).2:=λe=>by
 rcases dw.1 (e)with e |e
 .exact KP W _ h (λz=>by nomatch z) e
 .exact absurd (vG e) (by decide)
def Sw{W:L2N}{c:Nat}(v:c=9\/c=10)(Y:okS s)(h:∀w∈W,GW w/\10∉w/\asc w)(H:W.length<=1110):NoL ([c]++(lnP W s).2)/\NoL ((lnP W s).2++[c]):=by
 have M:plain [c]:=λy hy=>by rw[bR.mp hy];rcases v with rfl |rfl <;> decide
 have hl:=vE Y (λw o=>(h w o).1) H;have e:=y8 s λw o=>(h w o).1
 have A:asc [c]:=by rcases v with rfl |rfl <;> (unfold asc;decide)
 have app:∀{a b:LN},asc a->asc b->asc (a++b):=λ{a b} T U=>by
  unfold asc at *;rw[all_append,T,U];rfl
 have ok:∀w∈W,asc w/\w.length<=1000:=λw o=>⟨(h w o).2.2,by have:=(h w o).1.2;lia⟩;refine⟨?_,?_⟩
 .have J:ws _ []=ws (lnP W s).2 [c]:=kc [c] _ [] M
  rcases Su (lnP W s).2 [c] (by simp)with e2 |⟨w,r',e2,e3⟩
  .rw[e]at e2;refine sy (by rw[aO];show 1+_<=_;lia) (J.trans e2) (λw o=>?_) (by rw[aQ];lia) (vC [c] be (zq v be))
   rcases bC.mp o with rfl |o
   .exact⟨A,by show 1<=1000;decide⟩
   .exact ok w o
  .rw[e]at e2;subst e2;refine sy (by rw[aO];show 1+_<=_;lia) (J.trans e3) (λx u=>?_) (by rw[aQ]at H ⊢;lia) (vC _ be (zq v (by simp)))
   rcases bC.mp u with rfl |u
   .obtain⟨E,O⟩:=ok w be;have Q:=(h w be).1.2;exact⟨app A E,by rw[aO];show 1+_<=_;lia⟩
   .exact ok x (bQ _ u)
 .rcases zp c M (lnP W s).2 []with e2 |⟨r',w,e2,e3⟩
  .rw[e]at e2;refine sy (by rw[aO];show _+1<=_;lia) e2 (λw o=>?_) (by rw[aO];show _+1<=_;lia) (vC [c] (by simp) (zq v be))
   rcases dw.mp o with o |o
   .exact ok w o
   .rw[bR.mp o];exact⟨A,by show 1<=1000;decide⟩
  .rw[e]at e2;subst e2;refine sy (by rw[aO];show _+1<=_;lia) e3 (λx u=>?_) (by rw[aO,f7]at H ⊢;lia) (vC (w++[c]) (by simp) (zq v (by simp)))
   rcases dw.mp u with u |u
   .exact ok x (fN _ u)
   .rw[bR.mp u];obtain⟨E,O⟩:=ok w (by simp);have Q:=(h w (by simp)).1.2;exact⟨app E A,by rw[aO];show _+1<=_;lia⟩
def KQ:∀(l:LN),ws l []=[]->∀x∈l,x=32
 | [],_,x,h=>by cases h
 |y::l,e,x,h=>by
  by_cases u:y=32
  .subst u;have o:=lZ 0 l [];rw[show cQ _ 32++l=32::l from rfl,e]at o
   rcases bC.mp h with rfl |h
   .rfl
   .exact KQ l o.symm x h
  .exfalso
   by_cases v:gl y=ac
   .rw[lq l [] v]at e;simp at e
   .have E:plain [y]:=λz H=>by rw[bR.mp H];exact⟨u,by simpa using v⟩
    obtain⟨w,J,A,_⟩:=EW l [y] (by simp);rw[show y::l=[y]++l from rfl,kc [y] l [] E]at e;rw[show([]++[y]:LN)=[y]from rfl,A]at e;cases e
abbrev sgn(k:Int):Nat:=if k=0 then 10 else 9
abbrev pX(s:Int)(W:L2N):Int×LN:=
 if decide (dr s 9=8) then (nx (lnP W (nx (nx s))).1,if dr (lnP W (nx (nx s))).1 2=0 then [sgn (dr (nx s) 2)]++(lnP W (nx (nx s))).2 else (lnP W (nx (nx s))).2++[sgn (dr (nx s) 2)])
 else if decide (dr s 9=0) then lnP [cw "rule",(cr (nx s)).2,[40],[41]] (cr (nx s)).1
 else if decide (dr s 9=1) then (nx (nx s),cQ (dr (nx s) 4).toNat 32)
 else if decide (dr s 9<4) then lnP (cv (roS (f6 (nx s)).1 (f6 (nx s)).2).2) (roS (f6 (nx s)).1 (f6 (nx s)).2).1
 else lnP (ma (nx s) W).2 (ma (nx s) W).1
def KR{a:LN}(h:a.length+b.length<=100000):bB (sT a) (sT b)=aa (sT (a++b)):=by
 show(if (tx a).length+(tx b).length<=16777216 then aa _ else ae)=_;rw[if_pos (by rw[c5,c5];lia),pA]
def Sx(U:okS s):okS (roS (f6 s).1 (f6 s).2).1/\RoW (f6 s).2/\okS (f6 s).1/\∀s',okS s'->NoL (lnP (cv (roS (f6 s).1 (f6 s).2).2) s').2:=by
 obtain⟨u,y,A,_⟩:=KO 0 s U;obtain⟨Y,H⟩:=Ew u y;refine⟨Y,y,u,λs' v=>?_⟩;have o:=λw o=>lv (su H w o);have M:=za H
 rcases A with A |⟨bd,ps,e,hB,hn,hu⟩
 .exact EX v o (by lia) (R7 u y A)
 .rw[e]at o M ⊢;have O:=vE v (λw h=>(o w h).1) (by lia);obtain⟨_,m1,m2,_,E⟩:=sj u hB.w.1;refine⟨KD (by lia) λl=>?_,by lia⟩;rw[(y8 s' (λw h=>(o w h).1))];refine R8 (y7 u hB) (λz=>hn ?_) (λp Q=>?_) l
  .rw[z]at E;exact lz.mp E.symm
  .have:p.unl∈bd.map Pa.unl:=by rw[<- m2];exact mem_map_of_mem Q
   obtain⟨q,T,J⟩:=mem_map.mp this;rw[<- J];exact hu q T
def KS(l:Addr)(Q:jb r)(s:Int)(hs:okS s):okS (pX s (cv r)).1/\NoL (pX s (cv r)).2/\xO l [.lst (wD (cv r))] [] [.int s]=aa ([.int (pX s (cv r)).1],sT (pX s (cv r)).2):=by
 have M:=λw h=>lv (su (roW Q) w h);have hl:=za (roW Q);have hA:=RW Q ⟨λw h=>⟨(M w h).2.2,by have:=(M w h).1.2;lia⟩,by lia⟩;have H:=aT s;have d9:=bn s (k:=9) (by decide);obtain⟨p1,p2,p3⟩:=Sr l Q _ H hA (su (roW Q)) hl;generalize hWr:cv r=W at M hl hA p1 p2 p3;generalize hS:D.lst _=u at p3
 suffices hwp:wp uU _ (λo=>∃s' b a2 a3 a4,(s',b)=pX s W/\okS s'/\NoL b/\o=.rtS (sT b) [.im u,.pin l [.int s'],a2,a3,a4]) by
  obtain⟨o,e,s',b,a2,a3,a4,h0,h1,h2,rfl⟩:=hwp;rw[<- h0];exact⟨h1,h2,eQ e rfl⟩
 unfold uU pX;apply ay;refine bw (iJ 1 l s 9 rfl rfl hs (by decide)) ?_;generalize dr s 9=v at d9;generalize nx s=s1 at H p1 p2 p3;have J:∀z,mB (m2 dEq (ah 2) (λ_=>aa _)) [.im u,.pin l [.int s1],.im _,.no,.no]=aa _:=λz=>bq (aH rfl rfl (gv v z));have d2:=bn s1 (k:=2) (by decide);apply ay;refine br (b:=decide _) (J 8) (λe=>?_) λq0=>bc ?_
 .rw[if_pos e]
  have Y:mU (.str "\n\t") (.int (dr s1 2))=aa (sT [sgn (dr s1 2)]):=by
   rcases(show dr s1 2=0\/dr s1 2=1 by lia)with z |z
   .rw[z];rfl
   .rw[z];rfl
  have hc:sgn (dr s1 2)=9\/sgn (dr s1 2)=10:=by unfold sgn;split <;> simp
  generalize sgn _=c at Y hc;have e2:=aT s1;apply ay;refine bw (bv (aA rfl) (iJ 1 l s1 2 rfl rfl H (by decide)) Y) ?_;generalize nx s1=s2 at e2;have A:=Sw hc e2 M (by lia);have T:=vE e2 (λw h=>(M w h).1) (show W.length<=1110 by lia);have o3:okS (lnP W s2).1:=aT _;apply ay;refine bw (d:=sT (lnP W s2).2) (ρ1:=[.im u,.pin l [.int (lnP W s2).1],.im (.int v),.im (sT [c]),.no]) ?_ ?_
  .show(jr (ah 0) (jq nZ) [.im u,.pin l [.int s2],.im (.int v),.im (sT [c]),.no]).bind (λp=>(lT l p.1 p.2 _).map λq=>(q.2,[Sl.im u,.pin l q.1,.im _,.im _,.no]))=_;rw[show jr _ _ _=aa _ from rfl,aD,<- hS,vt l W s2 e2 (λw h=>(M w h).1) (by lia)];rfl
  generalize lnP W s2=L at A T o3;obtain⟨E,b⟩:=L;dsimp only at A T o3 ⊢;have d3:=bn E (k:=2) (by decide)
  have em:aZ (aj (m2 bB (ah 3) (ah 4)) (aj (m2 bB (ah 4) (ah 3)) nZ)) [.im u,.pin l [.int E],.im (.int v),.im (sT [c]),.im (sT b)]=aa (.lst [sT ([c]++b),sT (b++[c])]):=by
   refine fm (aV (aH rfl rfl (KR (by show 1+_<=_;lia))) (aV (aH rfl rfl (KR (by show _+1<=_;lia))) rfl))
  by_cases hk:dr E 2=0
  .rw[if_pos hk];exact bI (bv (aA em) (iJ 1 l E 2 rfl rfl o3 (by decide)) (by rw[hk];rfl)) ⟨nx E,_,_,_,_,rfl,aT _,A.1,rfl⟩
  .rw[if_neg hk];exact bI (bv (aA em) (iJ 1 l E 2 rfl rfl o3 (by decide)) (by rw[show dr E 2=1 by lia];rfl)) ⟨nx E,_,_,_,_,rfl,aT _,A.2,rfl⟩
 rw[if_neg (cL.mp q0)];apply ay;refine br (b:=decide (v=0)) (J 0) (λe=>?_) λq1=>bc ?_
 .rw[if_pos e];obtain⟨o2,U⟩:=h7 s1;have en:=iC (i:=1) (m:=j8) (f:=af) (ρ:=[.im u,.pin l [.int s1],.im (.int v),.no,.no]) (ρ1:=[.im u,.pin l [.int s1],.im (.int v),.no,.no]) rfl rfl rfl (pB l s1 H);generalize cr s1=q at o2 U en;obtain⟨s2,n⟩:=q
  have hw:∀w∈[cw "rule",n,[40],[41]],GW w/\10∉w/\asc w:=λw h=>by
   refine lv ?_;simp only[bC,iM,or_false]at h
   rcases h with rfl |rfl |rfl |rfl
   .decide +kernel
   .exact .inl (l5 U)
   .exact .inr (.inr (.inr (.inl rfl)))
   .exact .inr (.inr (.inr (.inr (.inl rfl))))
  have ny:¬iK [cw "rule",n,[40],[41]]:=by
   rintro(⟨ns,O,_⟩ |⟨s',g,_⟩)
   .injection O with O _
    exact absurd O (by decide +kernel)
   .obtain⟨a1,_,g⟩:=c9 g;obtain⟨a2,_,g⟩:=c9 g;obtain⟨a3,g3,g⟩:=c9 g;obtain⟨a4,g4,_⟩:=c9 g;have ec:=vB g3
    by_cases hb:a3.b=0
    .have:=jF hb g4;rw[ec]at this;cases this
    .rcases pS hb g4 with⟨_,z |z⟩ |⟨z |z,_⟩
     .nomatch z
     .nomatch z
     .rw[ec]at z;nomatch z
     .rw[ec]at z;nomatch z
  have ew:dT (ag (mX (kSt "rule")) (ag (aE 1 j8 af) (ag (mX (kSt "(")) (ag (mX (kSt ")")) af)))) [.im u,.pin l [.int s1],.im (.int v),.no,.no]=aa (.lst (wD [cw "rule",n,[40],[41]]),[.im u,.pin l [.int s2],.im (.int v),.no,.no]):=by
   refine(zn (aC (aA rfl) (aC en (aC (aA rfl) (aC (aA rfl) rfl))))).trans ?_;rfl
  refine bI (ke (ρ1:=[.im u,.pin l [.int s2],.im (.int v),.no,.no]) rfl (aC ew rfl) rfl (vt l _ s2 o2 (λw h=>(hw w h).1) (by show 4<=1110;decide))) ⟨_,_,_,_,_,rfl,aT _,EX o2 hw (by show 4<=1110;decide) ny,rfl⟩
 rw[if_neg (cL.mp q1)];apply ay;refine br (b:=decide (v=1)) (J 1) (λe=>?_) λq2=>bc ?_
 .rw[if_pos e];have d4:=bn s1 (k:=4) (by decide)
  have em:mV (.str " ") (.int (dr s1 4))=aa (sT (cQ (dr s1 4).toNat 32)):=by
   show(if (" ":Str).length=1/\0<=dr s1 4/\dr s1 4<=1000 then aa (D.str ⟨(cQ (dr s1 4).toNat ((" ":Str).cps.getD 0 0)).toArray⟩) else ae)=_;rw[if_pos ⟨by decide,d4.1,by lia⟩];rfl
  have ew:ws (cQ (dr s1 4).toNat 32) []=[]:=by
   have:=vf (dr s1 4).toNat [];rw[cM]at this;exact this
  refine bI (bv (aA rfl) (iJ 1 l s1 4 rfl rfl H (by decide)) em) ⟨_,_,_,_,_,rfl,aT _,sy (W:=[]) (by rw[gA];lia) ew (λ_ h=>by nomatch h) (by decide) ?_,rfl⟩
  rintro(⟨ns,O,_⟩ |⟨s',g,ha⟩)
  .nomatch O
  .cases g
   rcases ha.2 with z |z |z <;> nomatch z
 rw[if_neg (cL.mp q2)];apply ay;refine br (b:=decide (v<4)) (bq (aH rfl rfl kW)) (λe=>?_) λq3=>bc ?_
 .rw[if_pos e];obtain⟨_,_,_,et⟩:=KO l s1 H;obtain⟨o1,y,o0,A⟩:=Sx H;generalize f6 s1=q at et o1 y o0 A;obtain⟨s2,r'⟩:=q;dsimp only at et o1 y o0 A ⊢;have hz:=za (Ew o0 y).2;exact bI (ke (ρ1:=[.im u,.pin l [.int (roS s2 r').1],.im (.int v),.no,.no]) rfl (aC (ke (ρ1:=[.im u,.pin l [.int s2],.im (.int v),.no,.no]) rfl (aC (iC (i:=1) (ρ1:=[.im u,.pin l [.int s1],.im (.int v),.no,.no]) rfl rfl rfl et) rfl) rfl (JZ l r' s2 y o0)) rfl) rfl (vt l _ _ o1 (λw h=>((λw h=>lv (su (Ew o0 y).2 w h)) w h).1) (by lia))) ⟨_,_,_,_,_,rfl,aT _,A _ o1,rfl⟩
 rw[if_neg (cL.mp q3)];obtain⟨g1,g2,g3⟩:=p2;exact bI (ke (ρ1:=[.im u,.pin l [.int (ma s1 W).1],.im (.int v),.no,.no]) rfl (aC (ke (ρ1:=[.im u,.pin l [.int s1],.im (.int v),.no,.no]) rfl (aC (aA rfl) rfl) rfl p3) rfl) rfl (vt l _ _ p1 (λw h=>(g2 w h).1) (by lia))) ⟨_,_,_,_,_,rfl,aT _,EX p1 g2 (by lia) g1,rfl⟩
def pY{α:Type}{f:α->D}(h:∀x,gi n (f x))(L:List α):∀d∈L.map f,gi n d:=λd hd=>by
 obtain⟨x,_,rfl⟩:=mem_map.mp hd;exact h x
def cH{x:D}(h:gi n x)(e:∀d∈xs,gi n d):∀d∈x::xs,gi n d:=λd hd=>by
 rcases bC.mp hd with rfl |hd
 .exact h
 .exact e d hd
def jG:∀d∈([]:LD),gi n d:=λd hd=>by cases hd
def gS(n:Nat)(z:Str):gi (n+1) (.str z):=rfl
def zr(n:Nat)(z:Int):gi (n+1) (.int z):=rfl
def zt(n:Nat)(t:Th):gi (n+3) (thD t):=cH (gS _ _) (cH (pY (λ_=>gS _ _) _) jG)
def KT(n:Nat)(z:Ti):gi (n+4) (cP z):=cH (zt n _) (cH (zr _ _) jG)
def KU(n:Nat)(p:LN×LN):gi (n+2) (prD p):=cH (gS _ _) (cH (gS _ _) jG)
def Sy(n:Nat)(p:Pa):gi (n+6) p.toD:=by
 cases p with
 |is t=>exact cH (gS _ _) (cH (zt _ t) jG)
 |no t=>exact cH (gS _ _) (cH (zt _ t) jG)
 |un a b=>exact cH (gS _ _) (cH (gS _ _) (cH (gS _ _) jG))
 |ct w m its ov=>exact cH (gS _ _) (cH (zr _ _) (cH (pY (KT n) its) (cH (pY (KU _) ov) jG)))
def Sz(r:Ro):gi 20 r.toD:=by
 have o:=λbd=>pY (Sy 12) bd;have e:=λps=>pY (KU 16) ps
 cases r with
 |kind n ns=>exact cH (gS _ _) (cH (gS _ _) (cH (pY (λ_=>gS _ _) ns) jG))
 |never bd ps=>exact cH (gS _ _) (cH (o bd) (cH (e ps) jG))
 |choose lo hi its ov bd ps=>exact cH (gS _ _) (cH (zr _ _) (cH (zr _ _) (cH (pY (KT 14) its) (cH (e ov) (cH (o bd) (cH (e ps) jG))))))
 |rule b t bd ps=>exact cH (gS _ _) (cH (zt 16 t) (cH (o bd) (cH (e ps) jG)))
def SA{t:LN}(h:r_4 [.str (tx t)]=ac):ye [.str (tx t)]=aa (.lst [.bl ac,.bl ac,.bl ai]):=by
 apply jo;apply ay;refine gj rfl ?_;apply ay;refine i5 (o:=.nx [.no,.im _,.no]) ?_ (i5 rfl (jS rfl));unfold qZ;rw[if_pos]
 .rfl
 .show(rNo _ || r_4 _)=ac;rw[h];rfl
def SB{t:LN}(h:rE [.str (tx t)]=ac):yf [.str (tx t)]=aa (.lst [.bl ac,.bl ac,.bl ai]):=by
 apply jo;apply ay;refine gj rfl ?_;apply ay;refine i5 (o:=.nx [.no,.im _,.no]) ?_ (i5 rfl (jS rfl));unfold qZ;rw[if_pos]
 .rfl
 .show(rNo _ || rE _)=ac;rw[h];rfl
def SD(h:b.length<=37000):∃z:Str,ut (sT b) (.str " ")=aa (.str z)/\(ful b=ai->z=""):=by
 refine⟨_,show _=_ from if_pos (by rw[c5];lia),λe=>?_⟩
 have u:ws b []=[]:=by
  unfold ful at e;exact of_decide_eq_true (by simpa using e)
 unfold Txt.stripChars;rw[stripBy_eq,<- nj (zE.Str.strSub _ _ _),StrLaws.strSub_toList]
 have o:(((" ":Str).cps.contains):Nat->Bool)=λx=>x==32:=by
  funext x;show(#[32]:Array Nat).contains x=_;simp[Array.contains]
 unfold stripLo;rw[if_pos rfl,o]
 have:b.takeWhile (λx=>x==32)=b:=by
  have:∀l:LN,(∀x∈l,x=32)->l.takeWhile (λx=>x==32)=l:=λl=>by
   induction l with
   |nil=>intro _;rfl
   |cons x l A=>intro h;rw[takeWhile_cons,if_pos (beq_iff_eq.mpr (h x be)),A λy v=>h y (bQ _ v)]
  exact this b (KQ b u)
 rw[this,drop_length,take_nil];rfl
def SE(e:jb r):m_4 [sT (lnP (cv r) s).2]=aa r.toD\/37000<(lnP (cv r) s).2.length:=by
 by_cases h:(lnP (cv r) s).2.length<=37000
 .refine .inl (Q1 e ((yP _ h).trans ?_));rw[y8 s λw o=>(lv (su (roW e) w o)).1]
 .exact .inr (by lia)
def SF{g:LN}(A:m_4 [sT g]=aa d)(M:10∉g)(O:10∉b)(T:g.length<=37000)(U:b.length<=37000)(E:ful b=ac)(J:r_4 [sT b]=ac)(k:Nat):rE [.str (tx (jn [10] ([g,g].take k++b::[g,g].drop k)))]=ac/\nA ([g,g].take k++b::[g,g].drop k)+([g,g].take k++b::[g,g].drop k).length<=900000:=by
 have v:([g,g].take k++b::[g,g].drop k).length=3:=by
  rw[aO,aQ,fA,f8];show min k 2+(2-k+1)=3;lia
 have mem:∀l∈[g,g].take k++b::[g,g].drop k,l=g\/l=b:=λl o=>by
  have two:∀x∈_,x=g:=λx u=>by
   rcases bC.1 u with e |u
   .exact e
   .exact bR.mp u
  rcases dw.1 o with o |o
  .exact .inl (two l (vI o))
  .rcases bC.1 o with o |o
   .exact .inr o
   .exact .inl (two l (mem_of_mem_drop o))
 have Q:=Kb 37000 _ λl o=>by
  rcases mem l o with z |z <;> rw[z] <;> assumption
 have H:=Ka [10] ([g,g].take k++b::[g,g].drop k);have y:([10]:LN).length=1:=rfl;rw[v,y]at H;refine⟨Rt _ (by simp) (λl o=>?_) (λl o=>?_) (by lia) (by rw[v];decide) (λ_=>d) _ _ b rfl (λl o q=>?_) E J,by rw[v];lia⟩
 .rcases mem l o with z |z <;> rw[z] <;> assumption
 .rcases mem l o with z |z <;> rw[z] <;> assumption
 .rcases bC.1 (vI o)with e |u
  .rw[e];exact A
  .rw[bR.mp u];exact A
def SG(G:L2N)(n:Nat)(b:LN):(G.map sT).take n++sT b::(G.map sT).drop n=(G.take n++b::G.drop n).map sT:=by rw[mh,jd,map_take,map_drop]
def KV:gi 20 (.lst [.bl ac,.bl ac,.bl ai]):=cH rfl (cH rfl (cH rfl jG))
def SH(E:D)(many s:Int)(hs:okS s)(a3 a4 a5 a6 a7 a8 J:Sl)(K:Fl->Prop)(k:∀b3 b4 b5 b6 b7 b8 b9,K (.nx [.im E,.im (.int many),.im (.int s),b3,b4,b5,b6,b7,b8,b9])):
  wp (au (gh 3 (aj (ah 2) nZ))
  (au (aP 4 (lN 3 yg af))
  (au (aP 5 (kX 3 uT (jr (ah 4) (jq nZ))))
  (au (aP 6 (kX 3 lT (jr (ah 5) (jq nZ))))
  (au (aP 7 (kX 3 xO (jr (ah 5) (jq nZ))))
  (au (aY (mOr (mB (m2 dNe (aS m_4 (aj (ah 6) nZ)) (ah 4))) (mB (m2 dNe (aS ye (aj (ah 7) nZ)) (aZ (aj (kBl ac) (aj (kBl ac) (aj (kBl ai) nZ))))))) (fW (kBl ai)) aU)
  (au (gh 8 (aj (ah 6) (aj (ah 6) nZ)))
  (au (uo 8 (ag (lN 3 m_0 (ag (mX (kI 3)) af)) (ag (mX (ah 7)) af)))
  (au (dS 9 (vOr (m2 dEq (m2 ut (ah 7) (kSt " ")) (kSt "")) (m2 mW (kSt "\n") (ah 7))))
  (au (aY (iZ (jl (eG (ah 9))) (mB (m2 dNe (aS yf (aj (m2 uf (kSt "\n") (mE 8)) nZ)) (aZ (aj (kBl ac) (aj (kBl ac) (aj (kBl ai) nZ))))))) (fW (kBl ai)) aU)
  (aY (mB (m2 dNe (aS m_4 (aj (ah 6) nZ)) (ah 4))) (fW (kBl ai)) aU)))))))))))
   [.im E,.im (.int many),.im (.int s),a3,a4,a5,a6,a7,a8,J] K:=by
 apply ay;refine kQ rfl ?_;obtain⟨o1,hR⟩:=Qj s;apply ay;refine bw (IR rfl rfl rfl λl=>Ql l s hs) ?_;generalize (ln s).2=r at hR;generalize (ln s).1=s1 at o1;show wp _ [.im E,.im _,.im _,.own _,.im r.toD,a5,a6,a7,a8,J] _;obtain⟨o2,y,hD⟩:=Rg o1 hR;apply ay;refine bw (AW rfl rfl λl=>JZ l r s1 (roW hR) o1) ?_;rw[<- hD];generalize (roS s1 r).2=r2 at y;generalize (roS s1 r).1=s2 at o2;have hW:=λw h=>lv (su (roW y) w h);have hl:=za (roW y);have hlt:=vE o2 (λw h=>(hW w h).1) (show(cv r2).length<=1110 by lia);have U:m_4 [sT (lnP _ s2).2]=aa r2.toD:=(SE y).resolve_right (by lia);have T:10∉(lnP _ s2).2:=Sv λw h=>(hW w h).2.1;have o3:okS (lnP (cv r2) s2).1:=aT _;apply ay;refine bw (AW rfl rfl λl=>vt l _ s2 o2 (λw h=>(hW w h).1) (by lia)) ?_;generalize lnP _ s2=q at hlt U T o3;obtain⟨s3,g⟩:=q;obtain⟨o4,⟨hb,O⟩,_⟩:=KS 0 y s3 o3;apply ay;refine bw (AW rfl rfl λl=>(KS l y s3 o3).2.2) ?_;generalize pX s3 _=q at o4 hb O;obtain⟨s4,b⟩:=q;generalize D.lst _=u;have Q:=AE (Sz r2);generalize r2.toD=R at Q U;apply ay;refine br (Gv (bq (aH (bL (aV rfl rfl) U) rfl Q)) (bq (aH (bL (aV rfl rfl) (SA hb)) rfl (AE KV)))) (λe=>by nomatch e) λ_=>bc ?_;apply ay;refine kQ rfl ?_;show wp _ [.im E,.im _,.im _,.own _,.im R,.im u,.im _,.im _,.own _,J] _;have hk:=bn s4 (k:=3) (by decide)
 have ef:ag (lN 3 m_0 (ag (mX (λ_=>aa _)) af)) (ag (mX (ah 7)) af) [.im E,.im _,.im _,.own _,.im R,.im u,.im _,.im _,.own _,J]=aa (_,[.im E,.im (.int many),.im (.int s),.own _,.im R,.im u,.im (sT g),.im (sT b),.own [sT g,sT g],J]):=
  aC (IR rfl (aC (aA rfl) rfl) rfl λl=>rL l s4 3 o4 (by decide)) (aC (aA rfl) rfl)
 generalize dr s4 3=A at hk ef;generalize nx s4=s5 at ef;apply ay;refine i5 (o:=.nx [.im E,.im (.int many),.im (.int s),.own [.int s5],.im R,.im u,.im (sT g),.im (sT b),.own (([g,g].take A.toNat++b::[g,g].drop A.toNat).map sT),J]) ?_ ?_
 .unfold uo;rw[ef,aD];show(if 0<=A/\A<=([g,g].map sT).length/\([g,g].map sT).length<16777216 then aa (Fl.nx [.im E,.im _,.im _,.own _,.im R,.im u,.im _,.im _,.own (([g,g].map sT).take A.toNat++sT b::([g,g].map sT).drop A.toNat),J]) else ae)=_;rw[if_pos ⟨hk.1,by show A<=2;lia,by show 2<16777216;decide⟩,SG]
 obtain⟨z,ez,hz⟩:=SD O;have Y:=SF (b:=b) (k:=A.toNat) U T;generalize [g,g].take A.toNat++b::[g,g].drop A.toNat=Ls at Y;apply ay;refine gj (AH (aH (aH rfl rfl ez) rfl (AF z "")) (aH rfl rfl (congrArg (λx=>aa _) (Jk 10 b)))) ?_
 have H:∀v:Sl,wp (aY (mB (m2 dNe (aS m_4 (aj (ah 6) nZ)) (ah 4))) (fW (kBl ai)) aU) [.im E,.im _,.im _,.own [.int s5],.im R,.im u,.im _,.im (sT b),.own (Ls.map sT),v] K:=λv=>
  br (bq (aH (bL (aV rfl rfl) U) rfl Q)) (λe=>by nomatch e) λ_=>bc (k _ _ _ _ _ _ _)
 apply ay
 by_cases M:(z == "" || decide (10∈b))=ac
 .rw[M];exact br rfl (λe=>by nomatch e) λ_=>bc (H _)
 .rw[cL.mpr M];have hq:=sB.mp (cL.mpr M)
  obtain ⟨t1,t2⟩:=Y (of_decide_eq_false hq.2) (by lia) O (by
   cases hf:ful b with
   |true=>rfl
   |false=>rw[hz hf]at hq;exact absurd hq.1 (by decide)) hb
  exact br (qH rfl (bq (aH (bL (aV (aH rfl rfl (Rn [10] Ls (by decide) t2)) rfl) (SB t1)) rfl (AE KV)))) (λe=>by nomatch e) λ_=>bc (H _)
def SI(ns:List Int)(h:ns.length<=63):Iq [.kl (ns.map D.int)]=aa (.bl ac):=by
 apply jo;generalize o:D.kl _=u;apply ay;refine gj rfl ?_;refine jT (λρ=>∃many:Int,(0<many/\many<=6)/\ρ=[.im u,.im (.int many),.no,.no,.no,.no,.no,.no,.no,.no]) ?_ ?_
 .subst o;refine br (bq (aH (bL rfl (GJ ns D.int)) rfl oG)) (λe=>?_) λe=>bc (k_J ⟨1,by decide,rfl⟩);have T:0<ns.length:=by have:=of_decide_eq_true e;lia
  have U:atI (ns.map D.int) 0=aa (.int ns[0]):=by
   unfold atI ixN;rw[if_pos (by decide),if_pos (by rw[cf];lia),aD,fL];show(ns[0]?).map D.int=_;rw[du T];rfl
  refine gj (aH rfl (aH (cb rfl rfl U) rfl (lK (by decide))) fX) (k_J ⟨1+ns[0] % 3,by lia,rfl⟩)
 .rintro ρ ⟨many,hm,rfl⟩;obtain⟨ss,T,Q,es⟩:=Q3 ns many hm;rw[o]at es;apply ay;refine kU ss D.int (λ_ ρ=>∃O v y A E H J M,ρ=[.im u,.im _,O,v,y,A,E,H,J,M]) (tT (bL (aV rfl (aV rfl rfl)) es) rfl) ⟨_,_,_,_,_,_,_,_,rfl⟩ ?_ ?_
  .rintro pre s post ρ Y ⟨O,v,y,A,E,H,J,M,rfl⟩;exact⟨[.im u,.im _,.im _,v,y,A,E,H,J,M],rfl,(SH u many s (Q s (by rw[Y];simp)) _ _ _ _ _ _ _ _ λb3 b4 b5 b6 b7 b8 b9=>⟨_,_,_,_,_,_,_,_,rfl⟩)⟩
  .rintro ρ ⟨O,v,y,A,E,H,J,M,rfl⟩;exact mQ rfl (jS rfl)
abbrev sp_law(K:bo):Sp:=λvs H Q _=>∃(a:Addr) (ns:List Int),vs=[.ref a]/\SqL K H a (ns.map V.int)/\ns.length<=63/\∀H',Q (.bl ac) H'
variable{K:bo}
def sp_law_of{H:Hp}{a:Addr}{ns:List Int}{E:XK}(o:ns.length<=63)(e:SqL K H a (ns.map V.int)):sp_law K [.ref a] H (λv _=>v=.bl ac) E:=⟨a,ns,rfl,e,o,λ_=>rfl⟩
variable{w:World}
def law_ok{a:Wa}(W:Wd K mg a):dH P w K mg base CX0 18 a.e_29.1 a.e_29.2 ["_law_script"] (sp_law K):=(P4 W).ok.imp λvs H Q E ⟨a,ns,e,o,u,k⟩=>
 ⟨H,[.kl (ns.map D.int)],.bl ac,aR.refl _,⟨.ref a,[],e,⟨a,_,rfl,o,aF.ints ns⟩,rfl⟩,rfl,SI ns u,λv Hf' H' x r=>by rw[show v=V.bl ac from r];exact k H'⟩
variable{P:LVa->Prop}
def zu(h:P []):∀us:LVa,us.length=0->P us:=λus e=>by
 rw[eq_nil_of_length_eq_zero e];exact h
def sA(h:∀a (us:LVa),us.length=n->P (a::us)):∀us:LVa,us.length=n+1->P us:=λus e=>by
 cases us with
 |nil=>cases e
 |cons a us=>exact h a us (Nat.succ.inj e)
def SJ(h:P []):∀us:LVa,us.length=0->P us:=zu (h)
def KW(h:∀e:Value,P [e]):∀us:LVa,us.length=1->P us:=sA (P:=λus=>P (us)) λe=>zu (h e)
def SK(h:∀e o:Value,P [e,o]):∀us:LVa,us.length=2->P us:=sA (P:=λus=>P (us)) λe=>sA (P:=λus=>P (e::us)) λo=>zu (h e o)
def SL(h:∀e o u:Value,P [e,o,u]):∀us:LVa,us.length=3->P us:=sA (P:=λus=>P (us)) λe=>sA (P:=λus=>P (e::us)) λo=>sA (P:=λus=>P (e::o::us)) λu=>zu (h e o u)
local macro_rules | `(tactic| walk_at "bd")=>`(tactic| exact λ_ _ _ _ _ _=>by first | exact SJ rfl | exact KW λ_=>rfl | exact SK λ_ _=>rfl | exact SL λ_ _ _=>rfl)
set_option autoImplicit true in
def all_mk{h:Heap}{fd_40 fd_49 fd_61 fd_50 fd_41 fd_55 fd_4 fd_6 fd_0 fd_53 fd_43 fd_38 fd_27 fd_54 fd_35 fd_32 fd_34 fd_57 fd_44 fd_31 fd_46 fd_56 fd_58 fd_36 fd_37 fd_47 fd_42 fd_62 fd_51 fd_48 fd_28 fd_63 fd_64 fd_45 fd_39 fd_52 fd_59 fd_60 fd_29 fd_65 fd_8 fd_24 fd_1 fd_2 fd_33 fd_17 fd_18 fd_21 fd_3 fd_25 fd_19 fd_7 fd_9 fd_5 fd_30 fd_10 fd_16 fd_20 fd_26 fd_22 fd_11 fd_12 fd_23 fd_13 fd_14 fd_15:fD}{U n_KEPT:Nat}{t_KEPT0 t_KEPT1 t_KEPT2 t_KEPT3 t_KEPT4 t_KEPT5 t_KEPT6 t_KEPT7 t_KEPT8 t_KEPT9 rm ro sg ui vS wh:Tok}{t_SMALL t_GREAT T t_LONE:Tok}{fa:Addr}(X:K.In h)(G:h.Ns cW mg)(hfa:mg "law"=aa (.ref fa))
 (A:fc K cW "Reader"=aa (aa (.ref C_Reader)))
 (u:fc K cW "BadName"=aa (aa (.ref C_BadName)))
 (Y:fc K cW "NoRow"=aa (aa (.ref C_NoRow)))
 (y:fc K cW "NoThing"=aa (aa (.ref C_NoThing)))
 (o:fc K cW "StillError"=aa (aa (.ref C_StillError)))
 (aC_Wide:fc K cW "Wide"=aa (aa (.ref C_Wide)))
 (q_40:Dq K "words_of" Bg f_40 fd_40)
 (q_49:Dq K "is_made_of" Bh f_49 fd_49)
 (q_61:Dq K "is_name" Bi f_61 fd_61)
 (q_50:Dq K "is_variable" Bj f_50 fd_50)
 (q_41:Dq K "is_number" Bk f_41 fd_41)
 (q_55:Dq K "read" Bl f_55 fd_55)
 (q_4:Dq K "read_row" s_4 f_4 fd_4)
 (q_6:Dq K "at_most" s_6 f_6 fd_6)
 (q_0:Dq K "_law_next" s_0 f_0 fd_0)
 (q_53:Dq K "_law_seeds" Bm f_53 fd_53)
 (q_43:Dq K "_law_small" Bn f_43 fd_43)
 (q_38:Dq K "_law_kept" Bo f_38 fd_38)
 (q_27:Dq K "_law_name" Bp f_27 fd_27)
 (q_54:Dq K "_law_variable" Bq f_54 fd_54)
 (q_35:Dq K "_law_number" Br f_35 fd_35)
 (q_32:Dq K "_law_arg" Bs f_32 fd_32)
 (q_34:Dq K "_law_thing" Bt f_34 fd_34)
 (q_57:Dq K "_law_item" Bu f_57 fd_57)
 (q_44:Dq K "_law_items" Bv f_44 fd_44)
 (q_31:Dq K "_law_pairs" Bw f_31 fd_31)
 (q_46:Dq K "_law_count" Bx f_46 fd_46)
 (q_56:Dq K "_law_part" By f_56 fd_56)
 (q_58:Dq K "_law_body" Bz f_58 fd_58)
 (q_36:Dq K "_law_row" BA f_36 fd_36)
 (q_37:Dq K "_law_thing_words" BB f_37 fd_37)
 (q_47:Dq K "_law_items_words" BC f_47 fd_47)
 (q_42:Dq K "_law_pairs_words" BD f_42 fd_42)
 (q_62:Dq K "_law_part_words" BE f_62 fd_62)
 (q_51:Dq K "_law_body_words" BF f_51 fd_51)
 (q_48:Dq K "_law_words" BG f_48 fd_48)
 (q_28:Dq K "_law_line" BH f_28 fd_28)
 (q_63:Dq K "_law_alien" BI f_63 fd_63)
 (q_64:Dq K "_law_is_name" BJ f_64 fd_64)
 (q_45:Dq K "_law_spoiled" BK f_45 fd_45)
 (q_39:Dq K "_law_too_many" BL f_39 fd_39)
 (q_52:Dq K "_law_bad_line" BM f_52 fd_52)
 (q_59:Dq K "_law_refusal" BN f_59 fd_59)
 (q_60:Dq K "_law_refusal_of_text" BO f_60 fd_60)
 (q_29:Dq K "law" BQ f_29 fd_29)
 (q_65:Dp K C_Reader "__init__" "Reader.__init__" BS f_65 fd_65)
 (q_8:Dp K C_Reader "coming" "Reader.coming" s_8 f_8 fd_8)
 (q_24:Dp K C_Reader "take" "Reader.take" BU f_24 fd_24)
 (q_1:Dp K C_Reader "passes" "Reader.passes" s_1 f_1 fd_1)
 (q_2:Dp K C_Reader "must_pass" "Reader.must_pass" s_2 f_2 fd_2)
 (q_33:Dp K C_Reader "must_end" "Reader.must_end" BV f_33 fd_33)
 (q_17:Dp K C_Reader "read_form" "Reader.read_form" BW f_17 fd_17)
 (q_18:Dp K C_Reader "read_choose" "Reader.read_choose" BX f_18 fd_18)
 (q_21:Dp K C_Reader "read_never" "Reader.read_never" BY f_21 fd_21)
 (q_3:Dp K C_Reader "read_name" "Reader.read_name" s_3 f_3 fd_3)
 (q_25:Dp K C_Reader "read_names" "Reader.read_names" BZ f_25 fd_25)
 (q_19:Dp K C_Reader "read_variable" "Reader.read_variable" B0 f_19 fd_19)
 (q_7:Dp K C_Reader "read_number" "Reader.read_number" s_7 f_7 fd_7)
 (q_9:Dp K C_Reader "read_arg" "Reader.read_arg" s_9 f_9 fd_9)
 (q_5:Dp K C_Reader "read_thing" "Reader.read_thing" s_5 f_5 fd_5)
 (q_30:Dp K C_Reader "read_args" "Reader.read_args" B1 f_30 fd_30)
 (q_10:Dp K C_Reader "read_if" "Reader.read_if" B2 f_10 fd_10)
 (q_16:Dp K C_Reader "read_body" "Reader.read_body" B3 f_16 fd_16)
 (q_20:Dp K C_Reader "read_part" "Reader.read_part" B4 f_20 fd_20)
 (q_26:Dp K C_Reader "read_unlike" "Reader.read_unlike" B5 f_26 fd_26)
 (q_22:Dp K C_Reader "read_count" "Reader.read_count" B6 f_22 fd_22)
 (q_11:Dp K C_Reader "read_items" "Reader.read_items" B7 f_11 fd_11)
 (q_12:Dp K C_Reader "read_item" "Reader.read_item" B8 f_12 fd_12)
 (q_23:Dp K C_Reader "read_over" "Reader.read_over" B9 f_23 fd_23)
 (q_13:Dp K C_Reader "read_for" "Reader.read_for" Ca f_13 fd_13)
 (q_14:Dp K C_Reader "read_pairs" "Reader.read_pairs" Cb f_14 fd_14)
 (q_15:Dp K C_Reader "read_pair" "Reader.read_pair" Cc f_15 fd_15)
 (M:sQ K C_Reader iR=ac)
 (H:W.hasDictIn K C_Reader=ac)
 (O:W.plainOver K C_Reader=ac)
 (Q:fE K (.ref C_Reader) "__setattr__"=aa (aa (.builtin "object.__setattr__")))
 (mk_Reader:W.makesIn K C_Reader=ac)
 (J:mw K (.ref C_Reader)=ac)
 (na_Reader_words:fE K (.ref C_Reader) "words"=aa ae)
 (na_Reader_place:fE K (.ref C_Reader) "place"=aa ae)
 (x_NoRow:W.excIn K C_NoRow [.type "ValueError",.type "Exception",.type "BaseException",.type "object"] "ValueError.__new__"=ac)
 (x_StillError:W.excIn K C_StillError [.type "ValueError",.type "Exception",.type "BaseException",.type "object"] "ValueError.__new__"=ac)
 (gax:fE K (.ref C_NoRow) "__getattribute__"=aa (aa (.builtin "BaseException.__getattribute__")))
 (hkx:fE K (.ref C_NoRow) "__getattr__"=aa ae)
 (bxx:iU K C_NoRow (.type "BaseException")=aa ac)
 (clx:W.clsIn K C_NoRow=aa cdx)
 (tAx:fE K (.ref C_NoRow) "__class__"=aa (aa (.builtin "object.__class__")))
 (tMx:iU K C_NoRow (.type "object")=aa ac)
 (mr_NoRow:iU K C_NoRow (.ref C_NoRow)=aa ac)
 (mr_StillError:iU K C_NoRow (.ref C_StillError)=aa ac)
 (ke_NoRow:kn K (.ref C_NoRow) (.ref C_NoRow)=aa ac)
 (ke_StillError:kn K (.ref C_NoRow) (.ref C_StillError)=aa ac)
 (kv_ValueError:kn K (.ref C_NoRow) (.type "ValueError")=aa ac)
 (km_BadName_Wide_NoThing:W.kitAny K (.ref C_NoRow) [.ref C_BadName,.ref C_Wide,.ref C_NoThing]=aa ai)
 (tG:W.specialIn K (.builtin "object.__class__") "__get__"=aa (aa (.builtin "getset_descriptor.__get__")))
 (tK:W.takesIn K (.builtin "object.__class__")=aa ac)
 (tA_Reader:fE K (.ref C_Reader) "__class__"=aa (aa (.builtin "object.__class__")))
 (tM_Reader:iU K C_Reader (.type "object")=aa ac)
 (a_KEPT:fc K cW "KEPT"=aa (aa (.ref U)))
 (l_KEPT:K.lookup U=aa ⟨.type "tuple",od_KEPT,.seq #[.str "kind" t_KEPT0,.str "rule" t_KEPT1,.str "may" t_KEPT2,.str "choose" t_KEPT3,.str "never" t_KEPT4,.str "if" t_KEPT5,.str "and" t_KEPT6,.str "not" t_KEPT7,.str "unlike" t_KEPT8,.str "least" t_KEPT9,.str "most" rm,.str "of" ro,.str "to" sg,.str "over" ui,.str "in" vS,.str "for" wh] n_KEPT,sl_KEPT⟩)
 (a_SMALL:fc K cW "SMALL"=aa (aa (.str "abcdefghijklmnopqrstuvwxyz" t_SMALL)))
 (a_GREAT:fc K cW "GREAT"=aa (aa (.str "ABCDEFGHIJKLMNOPQRSTUVWXYZ" t_GREAT)))
 (E:fc K cW "FIGURES"=aa (aa (.str "0123456789" T)))
 (a_LONE:fc K cW "LONE"=aa (aa (.str "()," t_LONE)))
 (z_ValueError:fc K cW "ValueError"=aa ae)
 (z_abs:fc K cW "abs"=aa ae)
 (z_all:fc K cW "all"=aa ae)
 (z_enumerate:fc K cW "enumerate"=aa ae)
 (z_int:fc K cW "int"=aa ae)
 (z_isinstance:fc K cW "isinstance"=aa ae)
 (z_len:fc K cW "len"=aa ae)
 (z_max:fc K cW "max"=aa ae)
 (z_range:fc K cW "range"=aa ae)
 (z_str:fc K cW "str"=aa ae)
  : ∃a:Wa,∃W:Wd K mg a,a.e_29.1=fa/\∀(s:ax) (v:Value),BindsTo s a.e_29.2 ⟨[v],[]⟩ [("_law_script",v)]:=by
 have e:=hfa.symm.trans (iT X G q_29.a);cases e;have hc:∃cl:Str->Addr,C_Reader=cl "Reader":=⟨λs=>if s="Reader" then C_Reader else 0,by dsimp only;rw[if_pos rfl]⟩;obtain⟨cl,rfl⟩:=hc
 exact⟨{
  e_40:=(f_40,fd_40),e_49:=(f_49,fd_49),e_61:=(f_61,fd_61),e_50:=(f_50,fd_50),e_41:=(f_41,fd_41),e_55:=(f_55,fd_55),e_4:=(f_4,fd_4),e_6:=(f_6,fd_6),e_0:=(f_0,fd_0),e_53:=(f_53,fd_53),e_43:=(f_43,fd_43),e_38:=(f_38,fd_38),e_27:=(f_27,fd_27),e_54:=(f_54,fd_54),e_35:=(f_35,fd_35),e_32:=(f_32,fd_32),e_34:=(f_34,fd_34),e_57:=(f_57,fd_57),e_44:=(f_44,fd_44),e_31:=(f_31,fd_31),e_46:=(f_46,fd_46),e_56:=(f_56,fd_56),e_58:=(f_58,fd_58),e_36:=(f_36,fd_36),e_37:=(f_37,fd_37),e_47:=(f_47,fd_47),e_42:=(f_42,fd_42),e_62:=(f_62,fd_62),e_51:=(f_51,fd_51),e_48:=(f_48,fd_48),e_28:=(f_28,fd_28),e_63:=(f_63,fd_63),e_64:=(f_64,fd_64),e_45:=(f_45,fd_45),e_39:=(f_39,fd_39),e_52:=(f_52,fd_52),e_59:=(f_59,fd_59),e_60:=(f_60,fd_60),e_29:=(f_29,fd_29),e_65:=(f_65,fd_65),e_8:=(f_8,fd_8),e_24:=(f_24,fd_24),e_1:=(f_1,fd_1),e_2:=(f_2,fd_2),e_33:=(f_33,fd_33),e_17:=(f_17,fd_17),e_18:=(f_18,fd_18),e_21:=(f_21,fd_21),e_3:=(f_3,fd_3),e_25:=(f_25,fd_25),e_19:=(f_19,fd_19),e_7:=(f_7,fd_7),e_9:=(f_9,fd_9),e_5:=(f_5,fd_5),e_30:=(f_30,fd_30),e_10:=(f_10,fd_10),e_16:=(f_16,fd_16),e_20:=(f_20,fd_20),e_26:=(f_26,fd_26),e_22:=(f_22,fd_22),e_11:=(f_11,fd_11),e_12:=(f_12,fd_12),e_23:=(f_23,fd_23),e_13:=(f_13,fd_13),e_14:=(f_14,fd_14),e_15:=(f_15,fd_15),cl:=cl,C_BadName:=C_BadName,C_NoRow:=C_NoRow,C_NoThing:=C_NoThing,C_StillError:=C_StillError,C_Wide:=C_Wide},{
  g_Reader:=iT X G A,
  cl_Reader:=⟨M,H,O,Q⟩,
  mk_Reader:=⟨mk_Reader,q_65.a,q_65.i,J⟩,
  na_Reader_words:=na_Reader_words,
  na_Reader_place:=na_Reader_place,
  g_BadName:=iT X G u,
  g_NoRow:=iT X G Y,
  g_NoThing:=iT X G y,
  g_StillError:=iT X G o,
  g_Wide:=iT X G aC_Wide,
  x_NoRow:=x_NoRow,
  x_StillError:=x_StillError,
  ec_NoRow:=⟨gax,hkx,bxx,(by rw[clx];rfl),tAx,tG,tK,tMx⟩,
  mr_NoRow:=mr_NoRow,
  mr_StillError:=mr_StillError,
  ke_NoRow:=ke_NoRow,
  ke_StillError:=ke_StillError,
  kv_ValueError:=kv_ValueError,
  km_BadName_Wide_NoThing:=km_BadName_Wide_NoThing,
  g_KEPT:=⟨_,_,_,_,iT X G a_KEPT,l_KEPT,rfl,rfl,(show 16<=bx by decide),.cons ⟨_,rfl⟩ (.cons ⟨_,rfl⟩ (.cons ⟨_,rfl⟩ (.cons ⟨_,rfl⟩ (.cons ⟨_,rfl⟩ (.cons ⟨_,rfl⟩ (.cons ⟨_,rfl⟩ (.cons ⟨_,rfl⟩ (.cons ⟨_,rfl⟩ (.cons ⟨_,rfl⟩ (.cons ⟨_,rfl⟩ (.cons ⟨_,rfl⟩ (.cons ⟨_,rfl⟩ (.cons ⟨_,rfl⟩ (.cons ⟨_,rfl⟩ (.cons ⟨_,rfl⟩ (.nil))))))))))))))))⟩,
  g_SMALL:=⟨_,iT X G a_SMALL⟩,
  g_GREAT:=⟨_,iT X G a_GREAT⟩,
  g_FIGURES:=⟨_,iT X G E⟩,
  g_LONE:=⟨_,iT X G a_LONE⟩,
  z_ValueError:=km X G z_ValueError,
  z_abs:=km X G z_abs,
  z_all:=km X G z_all,
  z_enumerate:=km X G z_enumerate,
  z_int:=km X G z_int,
  z_isinstance:=km X G z_isinstance,
  z_len:=km X G z_len,
  z_max:=km X G z_max,
  z_range:=km X G z_range,
  z_str:=km X G z_str,
  e_40:=q_40.mk2 X G,
  e_49:=q_49.mk2 X G,
  e_61:=q_61.mk2 X G,
  e_50:=q_50.mk2 X G,
  e_41:=q_41.mk2 X G,
  e_55:=q_55.mk2 X G,
  e_4:=q_4.mk2 X G,
  e_6:=q_6.mk2 X G,
  e_0:=q_0.mk2 X G,
  e_53:=q_53.mk2 X G,
  e_43:=q_43.mk2 X G,
  e_38:=q_38.mk2 X G,
  e_27:=q_27.mk2 X G,
  e_54:=q_54.mk2 X G,
  e_35:=q_35.mk2 X G,
  e_32:=q_32.mk2 X G,
  e_34:=q_34.mk2 X G,
  e_57:=q_57.mk2 X G,
  e_44:=q_44.mk2 X G,
  e_31:=q_31.mk2 X G,
  e_46:=q_46.mk2 X G,
  e_56:=q_56.mk2 X G,
  e_58:=q_58.mk2 X G,
  e_36:=q_36.mk2 X G,
  e_37:=q_37.mk2 X G,
  e_47:=q_47.mk2 X G,
  e_42:=q_42.mk2 X G,
  e_62:=q_62.mk2 X G,
  e_51:=q_51.mk2 X G,
  e_48:=q_48.mk2 X G,
  e_28:=q_28.mk2 X G,
  e_63:=q_63.mk2 X G,
  e_64:=q_64.mk2 X G,
  e_45:=q_45.mk2 X G,
  e_39:=q_39.mk2 X G,
  e_52:=q_52.mk2 X G,
  e_59:=q_59.mk2 X G,
  e_60:=q_60.mk2 X G,
  e_29:=q_29.mk2 X G,
  e_65:=q_65.mk2,
  e_8:=q_8.mk2,
  e_24:=q_24.mk2,
  e_1:=q_1.mk2,
  e_2:=q_2.mk2,
  e_33:=q_33.mk2,
  e_17:=q_17.mk2,
  e_18:=q_18.mk2,
  e_21:=q_21.mk2,
  e_3:=q_3.mk2,
  e_25:=q_25.mk2,
  e_19:=q_19.mk2,
  e_7:=q_7.mk2,
  e_9:=q_9.mk2,
  e_5:=q_5.mk2,
  e_30:=q_30.mk2,
  e_10:=q_10.mk2,
  e_16:=q_16.mk2,
  e_20:=q_20.mk2,
  e_26:=q_26.mk2,
  e_22:=q_22.mk2,
  e_11:=q_11.mk2,
  e_12:=q_12.mk2,
  e_23:=q_23.mk2,
  e_13:=q_13.mk2,
  e_14:=q_14.mk2,
  e_15:=q_15.mk2},rfl,q_29.bt (λ_ _ _ _ _ _=>KW λ_=>rfl)⟩
end N_k75
structure PySem.W.Fast:Prop where
 (te16597522342974540356 te3171205822742313217 te9602536010805551582 te8821624812059881156 te6213330497906120848 te5709903231555638713 te3683498672675037512 te12621936009481162869 te18322579040566468552 te17674328085932594716 te16338787315848775666 te2140477000952485511 te6234228908303513433 te14796937577288731841 te1228838723522960886 te2874089902724183887 te9992091977230643643 te9402015853904897177 te11568287207142671875 te7141071836842184278 te9996280250481983899 te6450383271699790837 te12377757529818736071 te15337499111084233328 te8208756545620101844 te14163597310978601564 te11610134761520383490 te3096500521973390697 te15040203296120907993 te8824019586803517162 te13359170971092536547 te10357848846291135835 te16536761997857316425 te12431661054544179673 te17253972608013855074 te13597460905090832726 te8550792310261795872 te12068695323731072230 te4927956101769314476 te3419234415917541458 te8042730610327679868 te9197212671945129205 te3056498681684318566 te1490213656344150136 te3788723315177892720 te17034041801496166859 te17801674120571116163 te4762231307366997078 te16409013705809866194 te3862456296892278568 te6292460813871479030 te18264174970419126494 te14964682018778603192 te7363322956067340726 te9901904018643241928 te6320489040599714681 te17981705990276164977 te7297760915556532545 te1738236572746481911 te15473996335652824908 te13799643927550979245 te7142588427776651146 te11929799765820571172 te1874639373063308946 te6262962218049834617 te18119164736163658427 te578268741565150160 te13843653327745126848 te1744340169959724528 te11347784124890901028 te15891818770535509722 te18036289949691013241 te7174579548978589041 te17214768736138930141 te15086767113727777940 te15915784041553200965 te16642892411075412922 te18006382492162733010 te16420558678548199105 te7146898638391920159 te7026764805345711133 te1927465427633150971 te2392409295729895540 te12003904458492591269 te13599778310310234164 te12130629933693210243 te13533298454681967612 te1377426730445458228 te17649249670552417375 te3576050945171555873 te9703115763817304065 te5674995005948029028 te11486084537122410412 te6453433546645394449 te8842564892199977290 te2605771070499239725 te6171421332348111873 te16775520642134623001 te1297072831018001219 te1527708507921884824 te50871888752737752 te12534413496709456187 te5409245161871106171 te27178046684501594 te8299482140157158033 te16438242261217226367 te7623868975523670942 te1170613749352462324 te13893840015553678177 te1896789962357155099 te1424572852731244191 te232636359217846543 te5000710049439490498 te5176982804102397594 te11053791960093570438 te11060645341113144460 te17718927870066554329 te12564762071635698189 te354196687484523988 te5828848588155325691 te1126745036017521695 te14428401811183883069 te3962214508372498223 te18079990341507484014 te5027179810899933842 te16898419460211776708 te17277757730320516825 te10572718024164734917 te1203403437061960922 te10153336670886929115 te1922778290232739843 te10647545931789664174 te12085556715623881451 te16320224666692158579 te8931153814580429361 te6852833381058867136 te5846249385981405168 te10216973806386743061 te7159857591044971724 te8183937615995488808 te2682704387981945013 te2591656525341634080 te8968655917082741041 te8409629547552737435 te13706174107862370752 te18288589362038469248 te10094303037072827261 te13168445068181794076 te5632261645193762757 te13421633155326429135 te833395993822705168 te3048812096240365578 te1965001903527067944 te4349846840146116724 te8654021872211928665 te8299710294355856168 te17292222452896697854 te6315507729771532345 te4433962827263160180 te14618582399557333068 te3984247390449439127 te8123767186350431859 te10437616062760293663 te8499459415413313977 te862556456683462990 te3228607450618333337 te4915771128502265003 te5831035366614578731 te210175214974784224 te4687115843742040039 te4834247339133521063 te6000916391646673931 te7497612838847637673 te4558940688506228908 te2984097196681836144 te13653533014230882912 te3546236992989266583 te12189943987256495971 te9080263715109236915 te11976567769041102079 te2181700960206434388 te10169842009205991042 te8604244993146822257 te16003655084491409172 te17550946068153920580 te7146427081550242400 te1252397849726254706 te7258165149259208937 te16609569867904623536 te7968522614933085092 te15684304708533545654 te14981375171533952831 te15201550465207001360 te132337405133155546 te8061667606127475627 te14802521032766628901 te11111585335502019766 te3909415705278822435 te1378208547202361918 te6291571982566981802 te3101043181421535016 te8295327699090534147 te17707128320242296845 te16761664840698198849 te1135775351847198208 te5910399031239190896 te13225615552368169900 te1130783333728946354 te13939277923541676180 te9759318422126193887 te7952336561711978776 te17579694029386896472 te4821691555636561311 te14984839539663434588 te14605178979682197754 te14529726825126391981 te3617909105764640029 te18004775800564927113 te985951445386947385 te4895423751526556248 te9001644730176919791 te10374602935233255221 te5135623088457663604 te2751736456479600746 te14801365484771587911 te12663792741148980790 te503454419223498131 te14069882298536136502 te7956397147875955319 te7695064608001587812 te1543920742276545318 te7466910297435727604 te13870438800581170690 te10696021945949132421 te17244181857745162340 te2662364716464082360 te10144110696773438302 te16815712966079640921 te17355657840094166687 te15549810967836920519 te13947287436285198834 te14996687778339149857 te14609006921516343350 te13749112593624327206 te6788278877910334303 te6696380968299712115 te12483266200351222340 te4305132169887179552 te1634238023236254841 te7547297175352719820 te13247614430826642885 te11850703968778098525 te7822121615579505355 te16140891221992285912 te14335425763946646721 te7451022803604259084 te6207389163899577974 te18166564348034166873 te6002099864881947183 te4031393896307558458 te1740793652856558194 te16613260412338129214 te3331118778875793415 te8160600037991057796 te2702930437025262938 te17721562281503882686 te13099383687247580696 te4945634192606246633 te56989824995244904 te17310205047705819658 te5877417203389507660 te9574804778829783093 te5882559959746251997 te12219681692911561811 te5246595882632430472 te9728594539068099744 te4548745651806308913 te13870905883363653469 te7464482287106867428 te16564697195333635258 te15377229492687936786 te11439965108299768147 te6854940616622387058 te6421373109437822645 te9065060217714383820 te13168758180275688511 te17297368172611791705 te12302512038045740893 te6954876886347383380 te8244460523492795047 te6724929844004051118 te3957959245628121386 te15425459149108765968 te17613780263828814174 te2831804956099252092 te9481163475879799953 te12760898648663505933 te9428226694834175197 te500703920406225650 te9949068055330529641 te3222192808741566641 te8243222425431332911 te4148190139870148656 te3026804370351677876 te7078284370987001270 te14577345723179290143 te1045264769454702497 te9743228607237439238 te18069682126459926808 te7985562476058653750 te6765261772063780812 te14258894141175076561 te12127815231631226253 te15809807031714676756 te5790128481652374399 te14543999094485917378 te18224961752005119230 te4443065914585006652 te7987274413109130678 te14919237939215397474 te8267489281979908440 te15157244501212949986 te16340896349369733691 te685277339777447441 te9651794350606988629 te4345682386993990149 te16922295561250954955 te6550503660886435949 te3520182059645028472 te18375176260147657204 te9217571358693763924 te3068789300599480350 te15968775148182871019 te17230816811400411626 te3832359737165040983 te1421183804472229318 te4199953252526254175 te14076784143521086099:True)
open PySem PySem.W PyProof.Rows
set_option maxRecDepth 100000 in
set_option maxHeartbeats 0 in
theorem PySem.Challenge.cw_standstill_k75_rows_refused_holds : PySem.Challenge.rw_standstill_k75_rows_refused.Holds := by
 w_on; o_law; k_head; (case hw=>w_witness2)
 k_fill
 refine L2.walk_ofK (l:=PySem.Challenge.rw_standstill_k75_rows_refused) (n:=63) (k:=18) (x:="_law_script") (CX:=L2.CX0) (sp:=N_k75.sp_law) rfl (by decide) rfl ⟨rfl,by decide,by decide⟩ (fun w h Y=>PySem.W.kIn_of Y) ?F (fun _ _ a ns hl _ hS=>N_k75.sp_law_of hl hS) (fun _ _ _ _ z=>z)
 case F =>
  intro w mg fa h KX G hmg
  have TT : ∃ a : N_k75.Wa,∃ W : N_k75.Wd (L2.KOf KX) mg a,a.e_29.1=fa /\ ∀ (s:Shared) (v:Value),BindsTo s a.e_29.2 ⟨[v],[]⟩ [("_law_script",v)]:=by
   dsimp only [L2.KOf]
   refine' N_k75.all_mk KX G hmg ..
   all_goals first | k_is | kit_is | k_exc | exact ⟨by k_is,L2.fun_mk (by k_is) (by k_is) (by k_is)⟩ | exact ⟨by k_is,by k_is,L2.fun_mk (by k_is) (by k_is) (by k_is)⟩ | (intro t ht; simp only [List.mem_cons,List.not_mem_nil,or_false] at ht; rcases ht with rfl | rfl | rfl | rfl | rfl | rfl | rfl <;> kit_is) | skip
  obtain ⟨a,W,e1,hb⟩:=TT
  subst e1
  exact ⟨_,hb,fun base kb nb=>N_k75.law_ok W⟩
