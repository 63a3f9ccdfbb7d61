import PyProof.Rows.All
import Wide.All
import OpenK.AllK
import Wide.FinOn
import Lean
import PyProof.EqAt
import PyProof.EqKinds
import PyProof.TupleCall
import PyProof.NeKinds
import PySem.Challenge.RW_standstill_k85_wide
set_option Elab.async false
set_option genSizeOf false
set_option linter.all false
set_option compiler.extract_closed false
set_option bootstrap.genMatcherCode false
local macro_rules
|`(def $d:declId $b* :$t $v:declVal)=>`(theorem $d $b* :$t $v:declVal)
|`(abbrev $d:declId $s:optDeclSig $v:declVal)=>`(noncomputable def $d $s:optDeclSig $v:declVal)
set_option maxRecDepth 100000
open Array renaming length_toList->qK,getElem?_eq_some_iff->u4,getElem?_eq_none->u5,getElem?_toList->u6
open Bool renaming false->aj,true->af,false_ne_true->cy,and_eq_true->dy,or_eq_true->gp,eq_iff_iff->iU,false_eq_true->kL,or_eq_true_iff->oE,noConfusion->qL
open False renaming elim->iV
open ForInStep renaming yield->mS
open Int renaming toNat_natCast->kM,emod_lt_of_pos->qN,emod_nonneg->qO,toNat_of_nonneg->u7
open List renaming length_map->aG,length_append->bg,mem_singleton->bj,getElem?_eq_some_iff->dX,mem_cons_self->bR,range->bx,mem_cons_of_mem->cE,getElem?_eq_getElem->fH,not_mem_nil->cp,map_append->bU,mem_append->b8,length_range->cK,length_cons->cL,mem_cons->bM,length_singleton->fj,getElem?_set_self->gP,getElem?_map->fS,mem_range->cF,getElem?_set_ne->gQ,append_nil->dh,mem_flatMap->dY,mem_map->bZ,append_assoc->fm,getD_eq_getElem?_getD->jG,nodup_nil->dE,flatMap_append->f9,mem_append_right->ib,length_replicate->ic,map_cons->di,getElem?_append_right->mT,replicate->iW,flatMap_singleton->kO,mem_append_left->jH,length_take->gr,getElem?_append_left->oF,filterMap_cons->jI,length_drop->ie,length->iX,drop_eq_nil_of_le->mU,take_of_length_le->mV,nodup_append->kP,length_zip->iY,getElem?_toArray->qP,any_cons->gR,nodup_iff_pairwise_ne->qQ,foldl_append->lK,getElem?_range->qR,take_append_drop->oG,drop_eq_getElem_cons->qU,mem_filter->kQ,getElem?_replicate->u8,flatMap_cons->mW,eq_nil_of_length_eq_zero->u9,zip_cons_cons->oH,filter->oI,mem_of_getElem?->qV,map_congr_left->qW,eq_of_mem_replicate->va,map_fst_zip->oJ,getElem_inj->vb,getElem_mem->vc,filter_cons_of_neg->vd
open List.Nodup renaming length_le_of_subset->zu
open List.cons renaming inj->mY
open Nat renaming le_refl->bL,ne_of_lt->cr,lt_of_lt_of_le->fo,le_trans->c9,le_of_ble_eq_true->lL,zero_le->gs,lt_irrefl->iZ,le_of_lt->kR,lt_or_ge->lM,ne_of_gt->mZ,mul_le_mul->oK,min_self->oM,lt_trans->qX,succ_mul->qY,le_of_not_lt->ve
open Ne renaming symm->cq
open Option renaming some->aa,none->ae,bind_some->aR,bind_eq_some_iff->cs,map_eq_some_iff->jJ
open Option.some renaming inj->cu
open Or renaming inr->bE,inl->bV
open PyProof.Rows renaming callWith_type1->lN,slot_tuple_getitem->vf,callWith_builtin1->zv,AllBare->i0,envOfC->gt
open PySem renaming wpAny_bind->ao,wpAny_pure->bh,Shared->aE,starEach->a8,sizeLine->bn,mainGlobals->cG,boot_len->dZ,sizeLine_eq->cY,wpAny_holding->dP,wpAny_mono->dF,compareOp->dk,foldedSetIterable->gS,assignEach->eD,Program->cS,bootBuiltins->gu,swapsWith->eX,wpAny_field->gv,sysModules->gb,binaryOp->eY,wpAny_Call_Name_kw->lO,wpAny_truthy_bool->lP,codeAny_builtin->kU,FuncData->fI,wpAny_pyIter_list->m4,NameKind->fT,mem_of_lookup->oN,Around->cZ,Builtin->EC,backTo->eE,wpAny_getItem_str_slice->qZ,codeAny->fU,Builtin->df,wpAny_typeOf->lQ,plainId_quiet->m5,Spec->Nf,holding->gw,wpAny_passesOwn->oO,sliceBounds->lR,getattributeRaised->rf,valueAt->gT,wpAny_seqItems->oP,wpAny_comprehension_free->vg,wpAny_standAt->oQ,swapsWithSole->oR,swappedStores->oS,behindInMarks->oU,wpAny_callSpecial?_slot->vh,wpAny_pyNext_list_item->vi,assign->gx,wpAny_pyNext_list_end->vj,codeAny_mono->oV,post_val_or_str->rg,builtinLookup_eq_fast->vk,wpAny_notOrdered_dict->vm,typeLookup->m6,codeAny_call_builtin->vn,subscripted->oW,getItem->jK,stored->ig,wpAny_attempt->rh
open PySem.Around renaming under_plainId->rj,in1_units->vo
open PySem.Builtin.Dict renaming updateFrom->rm,selfAndRest->zw,pairItems->zx
open PySem.Builtin.Int renaming intBits->rp
open PySem.Builtin.List renaming listExtendWith->rq,listFitsIndex->zy,listTooLong->zA,listItems->zE
open PySem.Builtin.Slice renaming slicePlaces->vp,sliceAdjust->zG
open PySem.Builtin.SmallTypes renaming ownedTupleIsFree->rA,nextOf->vq
open PySem.Builtin.Str renaming strSliceIndices->vt
open PySem.Calls renaming spliced_cons->lS,evalArgs_plain->vv,spliced_nil->vw
open PySem.F renaming plainAttrs_list->dz,slot_list_append->gy,type_list_append->gz,slot_list_extend->i3,type_list_extend->i4,plainAttrs_dict->rB,called_set->kW,slot_list_getattribute->vz,slot_zip_getattribute->vA,slot_dict_setdefault->vB,slot_list_insert->vC,type_list_insert->vD,slot_dict_get->vE,slot_zip_next->rC,excBase_ValueError->vF,type_dict_setdefault->zK,kt_typeCall_dict_1->zL
open PySem.Heap renaming get?_push_of_some->cg,lt_size->bI,get?_push_size->e6,get?_update_other->jL,get?_update_self->m7,SameBut->gU,FlyingW->oX,size_push->rE
open PySem.Heap.DictOf renaming new->vG
open PySem.NameKind renaming free->fE,cell->lT
open PySem.Obj renaming mapSeq->gA
open PySem.PassesOwn renaming never->eG,leaving->i5
open PySem.SeqAt renaming EqAt->dm
open PySem.SeqAt.EqAt renaming same->vH
open PySem.Txt renaming slice->gB,join->vI,slice_le->rF
open PySem.Value renaming bool->fV,ref->fJ,none->jM,type->jN
open PySem.W renaming Frag->bA,hideAll_none->gC,mg_none_of->gV,kitOne->fK,nsIn->dQ,hideAll->ij,hideAll_get->lU,of_hideAll->lV,mroIn->gc,findIn->i6,mg_of->gW
open Sum renaming inr->i7
open Sum.inr renaming inj->rG
nonrec abbrev PRS:=PySem.Value->PySem.Shared->Prop
nonrec abbrev MGT:=PySem.Str->Option PySem.Value
nonrec abbrev PNS:=List (PySem.Addr×PySem.Obj)
nonrec abbrev LN:=List Nat
nonrec abbrev L2N:=List LN
nonrec abbrev LSt:=List PySem.Str
nonrec abbrev LVa:=List PySem.Value
nonrec abbrev LAd:=List PySem.Addr
nonrec abbrev LEx:=List PySem.Expr
namespace L2
open List
open PySem PySem.Spec PyProof.Rows
@[reducible]noncomputable def Key:=Sum Int Str
abbrev lW:Key->Value->Bool
 |.inl k,v=>Value.isInt k v
 |.inr x,v=>Value.isStrOf x v
abbrev ED(w:World):Key->Int
 |.inl k=>hashInt k
 |.inr x=>hashStr w x
def i8:∀{k:Key} {v:Value},lW k v=af->(∃i t,k=Sum.inl i/\v=Value.int i t)\/(∃x t,k=i7 x/\v=Value.str x t)
 |.inl i,v,h=>by
  obtain⟨t,e⟩:=Value.isInt_shape h
  exact .inl ⟨i,t,rfl,e⟩
 |.inr x,v,h=>by
  obtain⟨t,e⟩:=Value.isStrOf_shape h;exact .inr ⟨x,t,rfl,e⟩
def EE(i:Int)(t:Tok):lW (.inl i) (.int i t)=af:=by simp[lW,Value.isInt]
def EF(x:Str)(t:Tok):lW (.inr x) (.str x t)=af:=by simp[lW,Value.isStrOf]
def EG(a b:Int):decide ((Sum.inl a:Key)=Sum.inl b)=(a==b):=by grind
def EH(a b:Str):decide ((i7 a:Key)=i7 b)=decide (a=b):=by grind
def EI(a:Int)(b:Str):decide ((Sum.inl a:Key)=i7 b)=aj:=decide_eq_false (λq=>nomatch q)
def EJ(a:Str)(b:Int):decide ((i7 a:Key)=Sum.inl b)=aj:=decide_eq_false (λq=>nomatch q)
abbrev c5(prog:cS)(w:World):PySem.KeyKind prog w Key where
 is:=lW
 hash:=ED w
 inj:=λv a b ha hb=>by
  rcases i8 ha with⟨i,t,rfl,rfl⟩ |⟨x,t,rfl,rfl⟩
  .rcases i8 hb with⟨j,u,rfl,e⟩ |⟨y,u,rfl,e⟩
   .injection e with e1 _;rw[e1]
   .exact nomatch e
  .rcases i8 hb with⟨j,u,rfl,e⟩ |⟨y,u,rfl,e⟩
   .exact nomatch e
   .injection e with e1 _;rw[e1]
 byValue:=λk v h=>by
  rcases i8 h with⟨i,t,rfl,rfl⟩ |⟨x,t,rfl,rfl⟩ <;> rfl
 pyHash:=λhv h=>by
  rcases i8 hv with⟨i,t,rfl,rfl⟩ |⟨x,t,rfl,rfl⟩
  .exact wpAny_pyHash_int h
  .exact wpAny_pyHash_str h
 eqBool:=λhu hv h=>by
  rcases i8 hu with⟨i,t,rfl,rfl⟩ |⟨x,t,rfl,rfl⟩
  .rcases i8 hv with⟨j,u,rfl,rfl⟩ |⟨y,u,rfl,rfl⟩
   .rw[EG]at h;exact wpAny_eqBool_int h
   .rw[EI]at h;exact dm.int_str i t y u _ _ _ _ h
  .rcases i8 hv with⟨j,u,rfl,rfl⟩ |⟨y,u,rfl,rfl⟩
   .rw[EJ]at h;exact dm.str_int x t j u _ _ _ _ h
   .rw[EH]at h;exact wpAny_eqBool_str h
 «strs»:=λk x t v h=>by
  rcases i8 h with⟨i,u,rfl,e⟩ |⟨y,u,rfl,e⟩
  .exact nomatch e
  .injection e with e1 _
   subst e1
   cases v <;> rfl
def zM(prog:cS)(w:World)(i:Int)(t:Tok):(c5 prog w).is (.inl i) (.int i t)=af:=EE i t
def zN(prog:cS)(w:World)(x:Str)(t:Tok):(c5 prog w).is (.inr x) (.str x t)=af:=EF x t
inductive V where
 |non |bl (b:Bool) |int (i:Int) |str (x:Str) |byt (b:Array UInt8) |flt (b:UInt64) |ref (a:Addr) |ty (n:String)
 deriving DecidableEq
abbrev be:V->Value->Prop
 |.non,u=>u=jM
 |.bl b,u=>u=fV b
 |.int i,u=>∃t,u=Value.int i t
 |.str x,u=>∃t,u=Value.str x t
 |.byt b,u=>∃t,u=Value.bytes b t
 |.flt b,u=>∃t,u=Value.float b t
 |.ref a,u=>u=fJ a
 |.ty n,u=>u=jN n
nonrec abbrev a9:List V->LVa->Prop:=Paired be
variable{xs:List V}{us:LVa}
def a9.length(r:a9 xs us):xs.length=us.length:=Paired.length r
def a9.get:∀{xs:List V} {us:LVa} {i:Nat} {x:V},a9 xs us->xs[i]?=aa x->∃u,us[i]?=aa u/\be x u
 | _,_,_,_,.nil,e=>by simp at e
 | _,_,0,_,.cons r _,e=>by simp at e;subst e;exact⟨_,rfl,r⟩
 | _,_,i+1,x,.cons _ t,e=>by
  obtain⟨u,a,b⟩:=a9.get t (by simpa using e);exact⟨u,by simpa using a,b⟩
def a9.set{x:V}{u:Value}(r:be x u):∀{xs:List V} {us:LVa} (i:Nat),a9 xs us->a9 (xs.set i x) (us.set i u)
 | _,_,_,.nil=>.nil
 | _,_,0,.cons _ t=>.cons r t
 | _,_,i+1,.cons q t=>.cons q (a9.set r i t)
def a9.append:∀{xs a:List V} {us ws:LVa},a9 xs us->a9 a ws->a9 (xs++a) (us++ws)
 | _,_,_,_,.nil,s=>s
 | _,_,_,_,.cons r t,s=>.cons r (a9.append t s)
def a9.take:∀{xs:List V} {us:LVa} (n:Nat),a9 xs us->a9 (xs.take n) (us.take n)
 | _,_,0,_=>.nil
 | _,_,_+1,.nil=>.nil
 | _,_,n+1,.cons r t=>.cons r (a9.take n t)
def a9.drop:∀{xs:List V} {us:LVa} (n:Nat),a9 xs us->a9 (xs.drop n) (us.drop n)
 | _,_,0,r=>r
 | _,_,_+1,.nil=>.nil
 | _,_,n+1,.cons _ t=>a9.drop n t
abbrev i9:Option V->Option Value->Prop
 |some v,aa u=>be v u
 |none,ae=>True
 | _,_=>False
abbrev KV{a:Type}:List (a×V)->List (a×Value)->Prop:=Paired λ(p:a×V) (q:a×Value)=>p.1=q.1/\be p.2 q.2
abbrev kV:Key->V
 |.inl i=>.int i
 |.inr x=>.str x
inductive HO where
 |lst (xs:List V)
 |tup (xs:List V)
 |dK (kvs:List (Key×V)) |dT (kvs:List (List Key×V))
 |set (S:Int->Bool) (n:Nat)
 |ins (C dx:Addr) (fs:List (Str×V))
 |own (x:Addr)
 |xd (fs:List (Str×V))
 |met (f x:Addr)
 |rng (lo hi:Int)
 |frz (o:Obj) (u:HO)
 |tbl (ps:Array Value)
 |ext (φ:Heap->Prop)
@[reducible]noncomputable def Hp:=Addr->Option HO
abbrev upd(H:Hp)(a:Addr)(o:HO):Hp:=λb=>if b=a then aa o else H b
variable{H:Hp}{a:Addr}{o:HO}
def bN:upd H a o a=aa o:=by unfold upd;rw[if_pos rfl]
variable{b:Addr}
def bW(h:b≠a):upd H a o b=H b:=by unfold upd;rw[if_neg h]
def ik(h:H a=aa o)(h':H b=ae):a≠b:=by
 intro e;subst e;rw[h]at h';cases h'
section
variable(P:cS)(w:World)
abbrev eJ(H:Hp)(h:Heap)(a:Addr):HO->Prop
 |.lst xs=>xs.length<=bn/\∃(its:LVa) (n:Nat),a9 xs its/\h.get? a=aa {cls:=.type "list",data:=.seq its.toArray n}
 |.tup xs=>xs.length<=bn/\∃its:LVa,a9 xs its/\IsTup h a its.toArray
 |.dK kvs=>kvs.length<=bn/\(a==gb)=aj/\∃vs,KV kvs vs/\h.DictOf (c5 P w) a vs
 |.dT kvs=>kvs.length<=bn/\(a==gb)=aj/\∃xs:List (List Key×Addr×Value),
   Paired (λ(p:List Key×V) (q:List Key×Addr×Value)=>p.1=q.1/\H q.2.1=aa (.tup (p.1.map kV))/\be p.2 q.2.2) kvs xs /\
   ∃o es g,h.get? a=aa o/\o.ExactDict/\o.data=.dict es g/\es.toList=xs.map (entryOfKey (tupleKind (c5 P w)))/\(xs.map (·.1)).Nodup
 |.set S n=>h.SetOf (intKind P w) a S n
 |.ins C dx fs=>H dx=aa (.own a)/\fs.length<=1000/\dx≠a/\h.get? a=aa (W.instObj C dx) /\
   ∃c,h.Ns1 dx c/\(∀f,i9 (fs.lookup f) (c f))/\PySem.Within c (fs.map (·.1))
 |.own _=>∃o,h.get? a=aa o
 |.xd fs=>∃c,h.Ns1 a c/\∀f,i9 (fs.lookup f) (c f)
 |.rng lo hi=>∃t u v,h.get? a=aa {cls:=.type "range",data:=.fields #[.int lo t,.int hi u,.int 1 v]}
 |.frz o u=>h.get? a=aa o/\eJ H h a u
 |.tbl ps=>h.get? a=aa {cls:=.none,data:=.fields ps}
 |.met f x=>h.get? a=aa (W.methodObj (.ref f) (.ref x))
 |.ext φ=>φ h/\(∃o,h.get? a=aa o)/\∀d e:Heap,φ d->(∀o,d.get? a=aa o->e.get? a=aa o)->φ e
abbrev HOk(H:Hp)(h:Heap):Prop:=∀a o,H a=aa o->eJ P w H h a o
end
variable{P:cS}{w:World}{h:Heap}
def eJ.lt(x:eJ P w H h a o):a<h.objs.size:=by
 cases o with
 |lst xs=>obtain⟨_,_,_,_,e⟩:=x;exact bI e
 |tup xs=>obtain⟨_,_,_,p⟩:=x;exact p.lt
 |dK kvs=>obtain⟨_,_,_,_,o,_,_,e,_⟩:=x;exact bI e
 |dT kvs=>obtain⟨_,_,_,_,o,_,_,e,_⟩:=x;exact bI e
 |set S n=>obtain⟨o,_,_,_,e,_⟩:=x;exact bI e
 |ins C dx fs=>obtain⟨_,_,_,e,_⟩:=x;exact bI e
 |own y=>obtain⟨_,e⟩:=x;exact bI e
 |xd fs=>obtain⟨_,⟨_,_,_,e,_⟩,_⟩:=x;exact bI e
 |rng lo hi=>obtain⟨_,_,_,e⟩:=x;exact bI e
 |frz c u=>obtain⟨e,_⟩:=x;exact bI e
 |tbl ps=>exact bI (x)
 |met f y=>exact bI (x)
 |ext φ=>obtain⟨_,⟨_,e⟩,_⟩:=x;exact bI e
def Paired.mapP{e g:Type}{F G:e->g->Prop}:∀{c:List e} {d:List g},Paired F c d->(∀a b,F a b->G a b)->Paired G c d
 | _,_,.nil,_=>.nil
 | _,_,.cons r t,f=>.cons (f _ _ r) (Paired.mapP t f)
variable{H':Hp}{h':Heap}
def eJ.stay(x:eJ P w H h a o)(k:∀b u,(b=a\/H b=aa (.own a))->h.get? b=aa u->h'.get? b=aa u)
 (m:∀b,H b=aa (.own a)->H' b=aa (.own a))(s:∀b xs,H b=aa (.tup xs)->H' b=aa (.tup xs)):eJ P w H' h' a o:=by
 induction o with
 |lst xs=>obtain⟨z,its,n,r,e⟩:=x;exact⟨z,its,n,r,k _ _ (.inl rfl) e⟩
 |tup xs=>obtain⟨z,its,r,g,e,c⟩:=x;exact⟨z,its,r,g,k _ _ (.inl rfl) e,c⟩
 |dK kvs=>obtain⟨z,y,vs,r,g,es,i,e,c⟩:=x;exact⟨z,y,vs,r,g,es,i,k _ _ (.inl rfl) e,c⟩
 |dT kvs=>
  obtain⟨z,y,xs,r,g,es,i,e,c⟩:=x
  exact⟨z,y,xs,Paired.mapP r λp q z=>⟨z.1,s _ _ z.2.1,z.2.2⟩,g,es,i,k _ _ (.inl rfl) e,c⟩
 |set S n=>obtain⟨g,es,i,t,e,c⟩:=x;exact⟨g,es,i,t,k _ _ (.inl rfl) e,c⟩
 |ins C dx fs=>
  obtain⟨d,z,B,e,j,⟨od,es,i,l,c⟩,r⟩:=x
  exact⟨m _ d,z,B,k _ _ (.inl rfl) e,j,⟨od,es,i,k _ _ (.inr d) l,c⟩,r⟩
 |own y=>obtain⟨g,e⟩:=x;exact⟨g,k _ _ (.inl rfl) e⟩
 |xd fs=>obtain⟨j,⟨od,es,i,e,c⟩,r⟩:=x;exact⟨j,⟨od,es,i,k _ _ (.inl rfl) e,c⟩,r⟩
 |rng lo hi=>obtain⟨t,u,v,e⟩:=x;exact⟨t,u,v,k _ _ (.inl rfl) e⟩
 |frz g u A=>obtain⟨e,q⟩:=x;exact⟨k _ _ (.inl rfl) e,A q⟩
 |tbl ps=>
  have e:=x
  exact k a _ (.inl rfl) e
 |met f y=>
  have e:=x
  exact k a _ (.inl rfl) e
 |ext φ=>obtain⟨p,⟨o,e⟩,st⟩:=x;exact⟨st _ _ p λo q=>k _ _ (.inl rfl) q,⟨o,k _ _ (.inl rfl) e⟩,st⟩
def HOk.lt(x:HOk P w H h)(e:H a=aa o):a<h.objs.size:=(x a o e).lt
def HOk.fresh(x:HOk P w H h)(e:h.objs.size<=a):H a=ae:=by
 cases q:H a with
 |none=>rfl
 |some u=>exact absurd (fo (x.lt q) e) (iZ _)
def HOk.kept(x:HOk P w H h)(k:∀b u,h.get? b=aa u->h'.get? b=aa u):HOk P w H h':=λa o e=>
 (x a o e).stay (λb u _ q=>k b u q) (λ_ q=>q) λ_ _ q=>q
def HOk.laid(x:HOk P w H h)(k:∀b u,h.get? b=aa u->h'.get? b=aa u)(g:h.objs.size<=a)(new:eJ P w (upd H a o) h' a o):HOk P w (upd H a o) h':=λb u e=>by
 have f:=x.fresh g
 by_cases d:b=a
 .subst d;rw[bN]at e;cases e;exact new
 .rw[bW d]at e;exact(x b u e).stay (λc v _ q=>k c v q) (λc q=>by rw[bW (ik q f)];exact q) λc xs q=>by rw[bW (ik q f)];exact q
abbrev Rd(H:Hp)(a:Addr)(u:HO):Prop:=H a=aa u\/∃o,H a=aa (.frz o u)
variable{u:HO}
def Rd.of(h:H a=aa u):Rd H a u:=.inl h
def Rd.ok(r:Rd H a u)(x:HOk P w H h):eJ P w H h a u:=by
 rcases r with r |⟨o,r⟩
 .exact x a u r
 .obtain⟨_,q⟩:=x a _ r;exact q
abbrev Mut:Option HO->Prop
 |some (.lst _)=>True
 |some (.dK _)=>True
 |some (.dT _)=>True
 |some (.set _ _)=>True
 |some (.ins _ _ _)=>True
 |some (.ext _)=>True
 | _=>False
variable{x e:Addr}{o':HO}
def HOk.write(ok:HOk P w H h)(g:Mut (H x))(s:e=x\/H e=aa (.own x))(k:∀b u,b≠e->h.get? b=aa u->h'.get? b=aa u)(j:∃u,h'.get? e=aa u)
 (new:eJ P w (upd H x o') h' x o'):HOk P w (upd H x o') h':=λb u q=>by
 have d:∀c y,H c=aa (.own y)->c≠x:=λc y r z=>by subst z;rw[r]at g;exact g
 have f:∀c xs,H c=aa (.tup xs)->c≠x:=λc xs r z=>by subst z;rw[r]at g;exact g
 by_cases l:b=x
 .subst l;rw[bN]at q;grind
 .rw[bW l]at q
  by_cases i:b=e
  .have m:H b=aa (.own x):=by
    grind
   rw[q]at m;cases m;obtain⟨v,n⟩:=j;exact⟨v,by rw[i];exact n⟩
  .refine(ok b u q).stay (λc v p r=>k c v ?_ r) (λc r=>by rw[bW (d c b r)];exact r) λc xs r=>by rw[bW (f c xs r)];exact r
   grind
structure Un(fs ex:LAd)(H H':Hp)(h h':Heap):Prop where
 keep:∀b o,h.get? b=aa o->H b=ae->b∉fs->b∉ex->h'.get? b=aa o
 slot:∀b o,h.get? b=aa o->H b=ae->b∈fs->b∉ex->∃sl,h'.get? b=aa {o with slots:=sl}
 free:∀b o,h.get? b=aa o->H b=ae->b∉ex->H' b=ae
 there:∀b o,h.get? b=aa o->b∉ex->∃o',h'.get? b=aa o'
 tups:∀b xs,H b=aa (.tup xs)->H' b=aa (.tup xs)
 frzs:∀b o u,H b=aa (.frz o u)->H' b=aa (.frz o u)
 tbls:∀b ps,H b=aa (.tbl ps)->∃more,H' b=aa (.tbl (ps++more))
variable{ex:LAd}{H1:Hp}{h1:Heap}
def Un.any{fs:LAd}(u:Un fs ex H H1 h h1){c:Obj}(q:h.get? b=aa c)(n:H b=ae)(f:b∉ex):∃sl,h1.get? b=aa {c with slots:=sl}:=by
 by_cases d:b∈fs
 .exact u.slot b c q n d f
 .exact⟨c.slots,u.keep b c q n d f⟩
variable{H2:Hp}{h2:Heap}
def Un.trans{fs:LAd}(a:Un fs ex H H1 h h1)(b:Un fs ex H1 H2 h1 h2):Un fs ex H H2 h h2 where
 keep:=λc ob q n hc hx=>b.keep c ob (a.keep c ob q n hc hx) (a.free c ob q n hx) hc hx
 slot:=λc ob q n hc hx=>by
  obtain⟨sl,e1⟩:=a.slot c ob q n hc hx;obtain⟨sl',e2⟩:=b.slot c _ e1 (a.free c ob q n hx) hc hx;exact⟨sl',e2⟩
 free:=λc ob q n hx=>by
  obtain⟨o',e1⟩:=a.there c ob q hx;exact b.free c o' e1 (a.free c ob q n hx) hx
 there:=λc ob q hx=>by
  obtain⟨o',e1⟩:=a.there c ob q hx;exact b.there c o' e1 hx
 tups:=λc xs q=>b.tups c xs (a.tups c xs q)
 frzs:=λc ob xs q=>b.frzs c ob xs (a.frzs c ob xs q)
 tbls:=λc ps q=>by
  obtain⟨m1,e1⟩:=a.tbls c ps q;obtain⟨m2,e2⟩:=b.tbls c _ e1;exact⟨m1++m2,by rw[e2,Array.append_assoc]⟩
def Un.kept{fs:LAd}(k:∀b u,h.get? b=aa u->h'.get? b=aa u):Un fs ex H H h h':=
 ⟨λb c q _ _ _=>k b c q,λb c q _ _ _=>⟨c.slots,k b c q⟩,λ_ _ _ n _=>n,λb c q _=>⟨c,k b c q⟩,λ_ _ q=>q,λ_ _ _ q=>q,λ_ ps q=>⟨#[],by rw[q];simp⟩⟩
def Un.refl{fs:LAd}:Un fs ex H H h h:=Un.kept λ_ _ q=>q
def Un.laid{fs:LAd}(k:∀b u,h.get? b=aa u->h'.get? b=aa u)(hp:h.objs.size<=a)(hn:H a=ae):Un fs ex H (upd H a o) h h' where
 keep:=λb u q _ _ _=>k b u q
 slot:=λb u q _ _ _=>⟨u.slots,k b u q⟩
 free:=λb u q n _=>by rw[bW (cr (fo (bI q) hp))];exact n
 there:=λb u q _=>⟨u,k b u q⟩
 tups:=λb xs q=>by rw[bW (ik q hn)];exact q
 frzs:=λb u xs q=>by rw[bW (ik q hn)];exact q
 tbls:=λb ps q=>⟨#[],by rw[bW (ik q hn),q];simp⟩
def Un.write{fs:LAd}(c:Mut (H x))(j:e=x\/H e=aa (.own x))(k:∀b u,b≠e->h.get? b=aa u->h'.get? b=aa u)(g:∃u,h'.get? e=aa u):Un fs ex H (upd H x o) h h':=by
 have i:∀b,H b=ae->b≠x:=λb n z=>by subst z;rw[n]at c;exact c
 have f:∀b,H b=ae->b≠e:=λb n z=>by
  grind
 have d:∀b u,H b=aa u->¬Mut (aa u)->b≠x:=λb u q nm z=>by subst z;rw[q]at c;exact nm c
 refine⟨λb u q n _ _=>k b u (f b n) q,λb u q n _ _=>⟨u.slots,k b u (f b n) q⟩,λb u q n _=>by rw[bW (i b n)];exact n,λb u q _=>?_,
  λb xs q=>by rw[bW (d b _ q λz=>z)];exact q,λb u xs q=>by rw[bW (d b _ q λz=>z)];exact q,λb ps q=>⟨#[],by rw[bW (d b _ q λz=>z),q];simp⟩⟩
 grind
variable{fs' ex':LAd}
def Un.mono{fs:LAd}(u:Un fs ex H H1 h h1)(i:∀b∈fs,b∈fs')(f:∀b∈ex,b∈ex'):Un fs' ex' H H1 h h1:=
 ⟨λb d q n g c=>u.keep b d q n (λz=>g (i b z)) λz=>c (f b z),λ_ _ q n _ c=>u.any q n λz=>c (f _ z),λb d q n c=>u.free b d q n λz=>c (f b z),λb d q c=>u.there b d q λz=>c (f b z),u.tups,u.frzs,u.tbls⟩
abbrev trk(h:Heap)(H:Hp):LAd:=(bx h.objs.size).filter λa=>(H a).isSome
abbrev m8(h:Heap)(H:Hp):Heap:=ij h (trk h H)
def EK(h:Heap)(H:Hp):(m8 h H).objs.size=h.objs.size:=W.hideAll_size _ _
variable{o:Obj}
def EL(e:h.get? b=aa o)(n:H b=ae):(m8 h H).get? b=aa o:=
 lU _ e λc=>by
  have q:=(kQ.mp c).2
  grind
def EM(e:(m8 h H).get? b=aa o):h.get? b=aa o/\H b=ae:=by
 have c:=lV _ e;refine⟨c,?_⟩
 cases q:H b with
 |none=>rfl
 |some x=>
  have d:b∈trk h H:=kQ.mpr ⟨cF.mpr (bI c),by simp[q]⟩;have z:(m8 h H).get? b=ae:=gC _ d
  grind
abbrev EN(g h:Heap)(L:Addr):PNS:=(bx h.objs.size).filterMap λa=>if a=L\/(g.get? a).isSome=af then ae else (h.get? a).map λo=>(a,o)
abbrev aB(g h:Heap)(L d:Addr):PNS:=(EN g h L).filter λp=>decide (p.1≠d)
structure Mod(K:bA)(mg:MGT)(base:Heap):Prop where
 kin:K.In base
 glob:base.Ns cG mg
 blt:∃mb,base.Ns builtinsNs mb/\∀x:Str,x ≠ "__name__" -> mb x=gu x
 nolimit:base.NoLimit
set_option genInjectivity false in
structure Cx where
 prog:cS
 w:World
 K:bA
 mg:Str->Option Value
 base:Heap
 A:cZ
 N:LSt
 s₀:aE
 H₀:Hp
 env:Env
 outer:List Env
 stack:List Env
 ex:LAd
 fn:Str->Bool
 calm:Bool
 pn:PNS
 xe:Value->aE->Prop
nonrec abbrev NDb(x:Str):=(x==("__debug__":Str))=aj
nonrec abbrev NCd(x:Str):=(x==("__classdict__":Str))=aj
nonrec abbrev StE(X:Cx)(e:Expr)(es:LEx):=a8 (e::es) X.env=(aj,eval e X.env)::a8 es X.env
nonrec abbrev BkE(X:Cx)(pos:Pos)(es:LEx):=(eE pos (a8 es X.env)).any (·.1)=aj
nonrec abbrev LcF(X:Cx)(x:Str):=X.fn x=af\/X.env.scope.names.lookup x=aa .local
abbrev frs(l:List Env):LAd:=l.filterMap (·.frame)
@[reducible]noncomputable def Cx.fs(X:Cx):LAd:=frs X.outer
abbrev Vis(sc:Scope)(x:Str):Prop:=sc.names.lookup x=aa .local\/sc.names.lookup x=aa .cell\/sc.names.lookup x=aa .free
abbrev Loc(sc:Scope)(x:Str):Prop:=sc.names.lookup x=aa .local\/sc.names.lookup x=aa .cell
abbrev zO(env:Env)(h:Heap)(m:MGT)(x:Str)(u:Value):Prop:=
 (env.kindOf x=aa .local/\m x=aa u)\/((env.kindOf x=aa .cell\/env.kindOf x=aa .free)/\∃c,env.cells.lookup x=aa c/\h.IsCell c (aa u))
structure Cx.Ok(X:Cx):Prop where
 mod:Mod X.K X.mg X.base
 kind:X.env.scope.kind=.function
 glob:X.env.globals=cG
 blt:X.env.builtins=builtinsNs
 above:X.s₀.heap.objs.size<=X.env.locals
 inj:∀x y c,X.env.cells.lookup x=aa c->X.env.cells.lookup y=aa c->x=y
 has:∀x,(X.env.kindOf x=aa .cell\/X.env.kindOf x=aa .free)->∃c,X.env.cells.lookup x=aa c
 cab:∀x c,X.fn x=af->X.env.cells.lookup x=aa c->X.s₀.heap.objs.size<=c
 hd:X.calm=af->X.A.handled=ae
 frames:X.A.frames=aa X.stack
 stk:X.stack=X.outer\/(X.stack=X.env::X.outer/\X.env.frame=aa X.env.locals)
 exf:∀b∈X.ex,b≠X.env.locals/\∀x c,X.env.cells.lookup x=aa c->c≠b
 bs:∀b o,X.base.get? b=aa o->X.s₀.heap.get? b=aa o/\X.H₀ b=ae
 bsz:X.base.objs.size<=X.s₀.heap.objs.size
 noex:∀b o,X.base.get? b=aa o->b∉X.ex
 exfs:∀b∈X.ex,b∉X.fs
 funs:X.s₀.heap.FunFrames X.base X.outer
 frf:∀b∈X.fs,X.H₀ b=ae
structure Inv(X:Cx)(pins:PNS)(σ:List (Option V))(H:Hp)(s:aE):Prop where
 ok:X.Ok
 os:s.os=X.s₀.os
 bare:i0 s.gens
 base:Un X.fs X.ex X.H₀ H X.s₀.heap s.heap
 loc:∃m,s.heap.Ns X.env.locals m/\∀(i:Nat) (x:Str) (v:V),X.N[i]?=aa x->σ[i]?=aa (aa v)->Vis X.env.scope x->∃u,be v u/\zO X.env s.heap m x u
 cell:∀x c,X.env.cells.lookup x=aa c->∃v,s.heap.IsCell c v
 free:H X.env.locals=ae
 freeC:∀x c,X.env.cells.lookup x=aa c->H c=ae
 pin:∀p∈X.pn++pins,s.heap.get? p.1=aa p.2/\H p.1=ae/\p.1≠X.env.locals/\p.1∉X.fs/\∀v,p.2.data≠.cell v
 hok:HOk X.prog X.w H s.heap
 len:σ.length=X.N.length
variable{X:Cx}
def Cx.Ok.nofr(ok:X.Ok)(e:X.base.get? b=aa o):b∉X.fs:=λc=>by
 have:=(ok.funs.mem c).1
 grind
variable{pins:PNS}{σ:List (Option V)}{s:aE}
def Inv.bs(I:Inv X pins σ H s):∀b o,X.base.get? b=aa o->s.heap.get? b=aa o/\H b=ae:=λb o e=>
 ⟨I.base.keep b o (I.ok.bs b o e).1 (I.ok.bs b o e).2 (I.ok.nofr e) (I.ok.noex b o e),I.base.free b o (I.ok.bs b o e).1 (I.ok.bs b o e).2 (I.ok.noex b o e)⟩
def Inv.bk(I:Inv X pins σ H s):∀b o,X.base.get? b=aa o->s.heap.get? b=aa o:=λb o e=>(I.bs b o e).1
def Inv.mod(I:Inv X pins σ H s):Mod X.K X.mg X.base:=I.ok.mod
def Inv.kIn(I:Inv X pins σ H s):X.K.In s.heap:=I.ok.mod.kin.keeps I.bk
def Inv.lt(I:Inv X pins σ H s):X.env.locals<s.heap.objs.size:=let ⟨_,hn,_⟩:=I.loc;hn.lt
def Inv.sz(I:Inv X pins σ H s):X.s₀.heap.objs.size<=s.heap.objs.size:=c9 I.ok.above (kR I.lt)
def Inv.nofs(I:Inv X pins σ H s)(h:s.heap.objs.size<=a):a∉X.fs:=λc=>by
 obtain⟨_,o,d,_⟩:=I.ok.funs.mem c;exact absurd (fo (bI d) (c9 I.sz h)) (iZ _)
def Inv.cne(I:Inv X pins σ H s):∀x c,X.env.cells.lookup x=aa c->c≠X.env.locals:=λx c e z=>by
 obtain⟨v,o,i,hd⟩:=I.cell x c e;obtain⟨m,⟨o',es,g,f,d,_⟩,_⟩:=I.loc
 grind
def Inv.funs(I:Inv X pins σ H s):s.heap.FunFrames X.base X.outer:=by
 have all:∀l,(∀b∈frs l,b∈X.fs)->X.s₀.heap.FunFrames X.base l->s.heap.FunFrames X.base l:=by
  intro l
  induction l with
  |nil=>intro _ _;trivial
  |cons env r q=>
   intro g j;obtain⟨i,⟨L,o,f,m,n,hd⟩,p⟩:=j;have c:=g L (by unfold frs;rw[jI,f];exact bR);obtain⟨sl,e⟩:=I.base.slot L o n (I.ok.frf L c) c λz=>I.ok.exfs L z c;exact⟨i,⟨L,_,f,m,e,hd⟩,q (λb d=>g b (by unfold frs;rw[jI,f];exact cE _ d)) p⟩
 exact all X.outer (λ_ d=>d) I.ok.funs
def Inv.stack(I:Inv X pins σ H s):s.heap.FunFrames X.base X.stack:=by
 rcases I.ok.stk with e |⟨e,hf⟩
 .rw[e];exact I.funs
 .rw[e];obtain⟨m,c,_⟩:=I.loc;exact .cons (by rw[I.ok.kind];decide) hf c (Heap.get?_none_of_le (c9 I.ok.bsz I.ok.above)) I.funs
def Inv.stkSub(I:Inv X pins σ H s):∀b∈frs X.stack,b∈X.env.locals::X.fs:=λb c=>by
 rcases I.ok.stk with e |⟨e,hf⟩
 .rw[e]at c;exact cE _ c
 .rw[e]at c;unfold frs at c;rw[jI,hf]at c;exact c
def Inv.stkFree(I:Inv X pins σ H s):∀b∈frs X.stack,H b=ae:=λb c=>by
 rcases bM.mp (I.stkSub b c)with e |c
 .rw[e];exact I.free
 .obtain⟨_,o,d,_⟩:=I.ok.funs.mem c;exact I.base.free b o d (I.ok.frf b c) λz=>I.ok.exfs b z c
variable{g':Array GenState}{t':Nat}{d':Drawn}{ch:LAd}
def Inv.step(I:Inv X pins σ H s)
 (j:∀b∈ch,(b∈X.ex\/X.s₀.heap.objs.size<=b)/\b≠X.env.locals/\(∀x c,X.env.cells.lookup x=aa c->c≠b)/\∀p∈X.pn++pins,p.1≠b)
 (keep:∀b o,b≠X.env.locals->b∉X.fs->b∉ch->s.heap.get? b=aa o->H b=ae->h'.get? b=aa o)
 (slot:∀b o,b≠X.env.locals->b∈X.fs->b∉ch->s.heap.get? b=aa o->H b=ae->∃sl,h'.get? b=aa {o with slots:=sl})(free:∀b o,b∉ch->s.heap.get? b=aa o->H b=ae->H' b=ae)
 (there:∀b o,b∉ch->s.heap.get? b=aa o->∃o',h'.get? b=aa o')
 (tups:∀b xs,H b=aa (.tup xs)->H' b=aa (.tup xs))(frzs:∀b o u,H b=aa (.frz o u)->H' b=aa (.frz o u))(tbls:∀b ps,H b=aa (.tbl ps)->∃more,H' b=aa (.tbl (ps++more)))
 (ns:∀m,s.heap.Ns X.env.locals m->h'.Ns X.env.locals m)(hok:HOk X.prog X.w H' h')(Y:i0 g'):
  Inv X pins σ H' {s with heap:=h',gens:=g',drawn:=d',toks:=t'}:=by
 have J:∀b o,X.s₀.heap.get? b=aa o->b≠X.env.locals:=λb o e=>cr (fo (bI e) I.ok.above)
 have B:∀b o,X.s₀.heap.get? b=aa o->b∉X.ex->b∉ch:=λb o e f C=>by
  rcases(j b C).1 with z |z
  .exact f z
  .exact absurd (fo (bI e) z) (iZ _)
 have g:∀x c,X.env.cells.lookup x=aa c->∀v,s.heap.IsCell c v->h'.IsCell c v:=λx c e v q_=>by
  obtain⟨o,E,hd⟩:=q_;have y:=λz=>(j c z).2.2.1 x c e rfl
  by_cases M:c∈X.fs
  .obtain⟨sl,q⟩:=slot c o (I.cne x c e) M y E (I.freeC x c e);exact⟨_,q,hd⟩
  .exact⟨o,keep c o (I.cne x c e) M y E (I.freeC x c e),hd⟩
 refine⟨I.ok,I.os,Y,⟨λb o e n C f=>(keep b o (J b o e) C (B b o e f) (I.base.keep b o e n C f) (I.base.free b o e n f)),λb o e n C f=>?_,λb o e n f=>?_,λb o e f=>?_,λb xs e=>tups b xs (I.base.tups b xs e),λb o xs e=>frzs b o xs (I.base.frzs b o xs e),λb ps e=>?_⟩,?_,λx c e=>?_,?_,λx c e=>?_,λp N=>?_,hok,I.len⟩
 .obtain⟨sl,A⟩:=I.base.slot b o e n C f;obtain⟨L,G⟩:=slot b _ (J b o e) C (B b o e f) A (I.base.free b o e n f);exact⟨L,G⟩
 .obtain⟨o',A⟩:=I.base.there b o e f;exact free b o' (B b o e f) A (I.base.free b o e n f)
 .obtain⟨o',A⟩:=I.base.there b o e f;exact there b o' (B b o e f) A
 .obtain⟨m1,A⟩:=I.base.tbls b ps e;obtain⟨m2,G⟩:=tbls b _ A;exact⟨m1++m2,by rw[G,Array.append_assoc]⟩
 .obtain⟨m,hn,hl⟩:=I.loc;refine⟨m,ns m hn,λi x v A G U=>?_⟩;obtain⟨u,r,l⟩:=hl i x v A G U;refine⟨u,r,?_⟩
  rcases l with l |⟨k,c,e,z⟩
  .exact .inl l
  .exact .inr ⟨k,c,e,g x c e _ z⟩
 .obtain⟨v,z⟩:=I.cell x c e;exact⟨v,g x c e v z⟩
 .obtain⟨m,⟨o,_,_,E,_⟩,_⟩:=I.loc;exact free _ o (λz=>(j _ z).2.1 rfl) E I.free
 .obtain⟨v,o,E,hd⟩:=I.cell x c e;exact free c o (λz=>(j c z).2.2.1 x c e rfl) E (I.freeC x c e)
 .obtain⟨e,n,Q,T,d⟩:=I.pin p N;have y:=λz=>(j p.1 z).2.2.2 p N rfl;exact⟨keep p.1 p.2 Q T y e n,free p.1 p.2 y e n,Q,T,d⟩
def Inv.un(I:Inv X pins σ H s)(u:Un X.fs [] H H' s.heap h')(hok:HOk X.prog X.w H' h'):Inv X pins σ H' {s with heap:=h',toks:=t'}:=by
 obtain⟨m,⟨o,es,q,i,r⟩,_⟩:=id I.loc;obtain⟨sl,j⟩:=u.any i I.free (by simp)
 exact I.step (ch:=[]) (λ_ z=>nomatch z) (λb o _ g _ e n=>u.keep b o e n g (by simp)) (λb o _ g _ e n=>u.slot b o e n g (by simp)) (λb o _ e n=>u.free b o e n (by simp)) (λb o _ e=>u.there b o e (by simp)) u.tups u.frzs u.tbls (λv l=>by
  obtain⟨o',f,d,c,p⟩:=l;rw[i]at c;cases c;exact⟨_,f,d,j,p⟩) hok I.bare
def Inv.call(I:Inv X pins σ H s)(u:Un (frs X.stack) ch H H' s.heap h')(hok:HOk X.prog X.w H' h')(y:i0 g')
 (f:∀b∈ch,(b∈X.ex\/X.s₀.heap.objs.size<=b)/\b≠X.env.locals/\(∀x c,X.env.cells.lookup x=aa c->c≠b)/\∀p∈X.pn++pins,p.1≠b):
  Inv X pins σ H' {s with heap:=h',gens:=g',drawn:=d',toks:=t'}:=by
 obtain⟨m,⟨o,es,C,q,r⟩,_⟩:=id I.loc;obtain⟨sl,l⟩:=u.any q I.free λz=>(f _ z).2.1 rfl
 exact I.step f (λb o l v d e n=>u.keep b o e n (λz=>(bM.mp (I.stkSub b z)).elim l v) d) (λb o _ _ d e n=>u.any e n d) (λb o d e n=>u.free b o e n d) (λb o d e=>u.there b o e d) u.tups u.frzs u.tbls (λE A=>by
  obtain⟨o',j,i,g,B⟩:=A;rw[q]at g;cases g;exact⟨_,j,i,l,B⟩) hok y
variable{it:Addr}
def Inv.turned(I:Inv X pins σ H s)(k:∀b o,b≠it->s.heap.get? b=aa o->h'.get? b=aa o)(A:H it=ae)(g:it≠X.env.locals)
 (h1:it∈X.ex\/X.s₀.heap.objs.size<=it)(h2:∀x c,X.env.cells.lookup x=aa c->c≠it)(j:∀p∈X.pn++pins,p.1≠it):Inv X pins σ H {s with heap:=h',toks:=t'}:=by
 have f:∀b u,H b=aa u->b≠it:=λb u e z=>by rw[z,A]at e;nomatch e
 refine I.step (ch:=[it]) (λb l=>?_) (λb o _ _ d e _=>k b o (λz=>d (by simp[z])) e) (λb o _ _ d e _=>⟨o.slots,k b o (λz=>d (by simp[z])) e⟩) (λ_ _ _ _ n=>n)
  (λb o d e=>⟨o,k b o (λz=>d (by simp[z])) e⟩) (λ_ _ e=>e) (λ_ _ _ e=>e) (λb ps e=>⟨#[],by rw[e];simp⟩) (λm y=>?_) (λb u e=>?_) I.bare
 .have e:b=it:=by simpa using l
  subst e;exact⟨h1,g,h2,j⟩
 .obtain⟨o,es,i,B,r⟩:=y;exact⟨o,es,i,k _ o (cq g) B,r⟩
 .refine(I.hok b u e).stay (λc v d q=>k c v ?_ q) (λ_ q=>q) λ_ _ q=>q
  rcases d with z |z
  .rw[z];exact f b u e
  .exact f c _ z
def Inv.tok(I:Inv X pins σ H s)(t:Nat):Inv X pins σ H {s with toks:=t}:=I.un Un.refl I.hok
def Inv.kept(I:Inv X pins σ H s)(k:∀b u,s.heap.get? b=aa u->h'.get? b=aa u):Inv X pins σ H {s with heap:=h',toks:=t'}:=I.un (Un.kept k) (I.hok.kept k)
def Inv.laid{o:HO}(I:Inv X pins σ H s)(k:∀b u,s.heap.get? b=aa u->h'.get? b=aa u)(c:s.heap.objs.size<=a)(new:eJ X.prog X.w (upd H a o) h' a o):
  Inv X pins σ (upd H a o) {s with heap:=h',toks:=t'}:=I.un (Un.laid k c (I.hok.fresh c)) (I.hok.laid k c new)
def Inv.write{o:HO}(I:Inv X pins σ H s)(f:Mut (H x))(d:e=x\/H e=aa (.own x))(k:∀b u,b≠e->s.heap.get? b=aa u->h'.get? b=aa u)(c:∃u,h'.get? e=aa u)
 (new:eJ X.prog X.w (upd H x o) h' x o):Inv X pins σ (upd H x o) {s with heap:=h',toks:=t'}:=I.un (Un.write f d k c) (I.hok.write f d k c new)
variable{eZ:PNS}
def Inv.pins_of(I:Inv X pins σ H s)(h:∀p∈eZ,s.heap.get? p.1=aa p.2/\H p.1=ae/\p.1≠X.env.locals/\p.1∉X.fs/\∀v,p.2.data≠.cell v):Inv X eZ σ H s:=
 ⟨I.ok,I.os,I.bare,I.base,I.loc,I.cell,I.free,I.freeC,λp c=>(b8.mp c).elim (λz=>I.pin p (jH _ z)) (h p),I.hok,I.len⟩
variable{N:LSt}{i:Nat}{x:Str}
def zP(f:N.Nodup){j:Nat}(a:N[i]?=aa x)(b:N[j]?=aa x):i=j:=by
 obtain⟨h1,c⟩:=dX.mp a;obtain⟨h2,d⟩:=dX.mp b;exact(vb f).mp (c.trans d.symm)
variable{M:Model}{A:cZ}{E:PRS}{v:V}{u:Value}{Q:Unit->aE->Prop}
def vJ(I:Inv X pins σ H s)(hN:X.N.Nodup)(hi:X.N[i]?=aa x)(B:Loc X.env.scope x)(r:be v u)
 (h:∀s',Inv X pins (σ.set i (aa v)) H s'->(∃a,gU a s.heap s'.heap/\(a=X.env.locals\/X.env.cells.lookup x=aa a))->Q () s')(hf:LcF X x:=by first |exact .inl rfl |exact .inr rfl |assumption):wpAny M A (storeName X.env x u) Q E s:=by
 obtain⟨m,hn,hl⟩:=id I.loc;have hcls:(X.env.scope.kind==.class || (X.env.scope.kind==.module && X.env.locals != X.env.globals))=aj:=by rw[I.ok.kind];rfl
 have J:i<σ.length:=by rw[I.len];exact(dX.mp hi).1
 have cne:=I.cne
 have l:∀{a:Addr} {h':Heap},(∃o,s.heap.get? a=aa o/\H a=ae)->gU a s.heap h'->HOk X.prog X.w H h':=λ{a h'} ha f b ob e=>by
  obtain⟨_,_,hfree⟩:=ha;refine(I.hok b ob e).stay (λc w' C q=>(f.2 c ?_).trans q) (λ_ q=>q) λ_ _ q=>q
  grind
 rcases B with hk |hk
 .refine wpAny_storeName_local hk hn (λh' hn' f=>?_) hcls;obtain⟨oL,_,_,hoL,_⟩:=id hn;refine h _ ⟨I.ok,I.os,I.bare,⟨λb o e n L B=>((f.2 b (cr (fo (bI e) I.ok.above))).trans (I.base.keep b o e n L B)),λb o e n L B=>?_,I.base.free,λb o e B=>?_,I.base.tups,I.base.frzs,I.base.tbls⟩,⟨_,hn',λj y v' g G e3=>?_⟩,λy c e=>?_,I.free,I.freeC,λp hp=>?_,l ⟨oL,hoL,I.free⟩ f,by simpa using I.len⟩ ⟨_,f,.inl rfl⟩
  .obtain⟨sl,g⟩:=I.base.slot b o e n L B;exact⟨sl,(f.2 b (cr (fo (bI e) I.ok.above))).trans g⟩
  .obtain⟨o',g⟩:=I.base.there b o e B;exact⟨o',(f.2 b (cr (fo (bI e) I.ok.above))).trans g⟩
  .by_cases U:j=i
   .subst U;rw[hi]at g;cases g;rw[gP J]at G;cases G;exact⟨u,r,.inl ⟨hk,by simp⟩⟩
   .rw[gQ (cq U)]at G;obtain⟨u',r',q⟩:=hl j y v' g G e3;refine⟨u',r',?_⟩
    rcases q with⟨k,e⟩ |⟨k,c,e,z⟩
    .refine .inl ⟨k,?_⟩;have:y≠x:=λe=>U (zP hN g (e▸hi))
     grind
    .exact .inr ⟨k,c,e,z.sameBut f (cne y c e)⟩
  .obtain⟨w',z⟩:=I.cell y c e;exact⟨w',z.sameBut f (cne y c e)⟩
  .obtain⟨e,n,ne,nf,d⟩:=I.pin p hp;exact⟨(f.2 p.1 ne).trans e,n,ne,nf,d⟩
 .have T:X.fn x=af:=by
   grind
  obtain⟨c,C⟩:=I.ok.has x (.inl hk);obtain⟨w',z⟩:=I.cell x c C;refine wpAny_storeName_cell I.ok.kind hk C z (λh' Y f=>?_);obtain⟨oc,hoc,hocd⟩:=id z
  refine h {s with heap:=h'} ⟨I.ok,I.os,I.bare,⟨λb o e n L B=>((f.2 b (cr (fo (bI e) (I.ok.cab x c T C)))).trans (I.base.keep b o e n L B)),λb o e n L B=>?_,I.base.free,λb o e B=>?_,I.base.tups,I.base.frzs,I.base.tbls⟩,⟨m,hn.sameBut f (cq (cne x c C)),λj y v' g G e3=>?_⟩,λy c' e=>?_,I.free,I.freeC,λp hp=>?_,l ⟨oc,hoc,I.freeC x c C⟩ f,by simpa using I.len⟩ ⟨c,f,.inr C⟩
  .obtain⟨sl,g⟩:=I.base.slot b o e n L B;exact⟨sl,(f.2 b (cr (fo (bI e) (I.ok.cab x c T C)))).trans g⟩
  .obtain⟨o',g⟩:=I.base.there b o e B;exact⟨o',(f.2 b (cr (fo (bI e) (I.ok.cab x c T C)))).trans g⟩
  .by_cases U:j=i
   .subst U;rw[hi]at g;cases g;rw[gP J]at G;cases G;exact⟨u,r,.inr ⟨.inl hk,c,C,Y⟩⟩
   .rw[gQ (cq U)]at G;obtain⟨u',r',q⟩:=hl j y v' g G e3;refine⟨u',r',?_⟩
    rcases q with q |⟨k,c',e,z'⟩
    .exact .inl q
    .refine .inr ⟨k,c',e,z'.sameBut f ?_⟩;rintro rfl;exact U (zP hN g (I.ok.inj _ _ _ e C▸hi))
  .by_cases hcc:c'=c
   .subst hcc;exact⟨_,Y⟩
   .obtain⟨w2,z2⟩:=I.cell y c' e;exact⟨w2,z2.sameBut f hcc⟩
  .obtain⟨e,n,ne,nf,d⟩:=I.pin p hp;refine⟨(f.2 p.1 ?_).trans e,n,ne,nf,d⟩;intro q;rw[q,hoc]at e;exact d w' (by rw[<- (cu e)];exact hocd)
def rH(I:Inv X pins σ H s)(d:X.N.Nodup)(hi:X.N[i]?=aa x)(g:Loc X.env.scope x)(r:be v u)
 (h:∀s',Inv X pins (σ.set i (aa v)) H s'->Q () s')(f:LcF X x:=by first |exact .inl rfl |exact .inr rfl |assumption):wpAny M A (storeName X.env x u) Q E s:=
 vJ I d hi g r (λs' c _=>h s' c) f
variable{s':aE}
def Inv.call'(I:Inv X pins σ H s)(g:s'.os=s.os)(u:Un (frs X.stack) ch H H' s.heap s'.heap)(hok:HOk X.prog X.w H' s'.heap)(f:i0 s'.gens)
 (d:∀b∈ch,(b∈X.ex\/X.s₀.heap.objs.size<=b)/\b≠X.env.locals/\(∀x c,X.env.cells.lookup x=aa c->c≠b)/\∀p∈X.pn++pins,p.1≠b):Inv X pins σ H' s':=by
 obtain⟨h',g',d',t',o'⟩:=s';subst g;exact I.call u hok f d
@[reducible]noncomputable def XK:=Value->Option Addr->Hp->Prop
@[reducible]noncomputable def St:=List (Option V)
@[reducible]noncomputable def VK:=V->Hp->Prop
@[reducible]noncomputable def TE:=St->Hp->VK->Prop
@[reducible]noncomputable def TT:=St->Hp->(Bool->Hp->Prop)->Prop
@[reducible]noncomputable def TA:=St->Hp->(List V->Hp->Prop)->Prop
structure jO where
 nx:St->Hp->Prop
 rt:VK
 bk:St->Hp->Prop:=λ_ _=>False
 ct:St->Hp->Prop:=λ_ _=>False
@[reducible]noncomputable def TS:=jO->St->Hp->Prop
abbrev EP(X:Cx)(pins:PNS)(σ:St)(Q:VK)(u:Value)(s':aE):Prop:=∃v H',Inv X pins σ H' s'/\be v u/\Q v H'
abbrev TP(X:Cx)(pins:PNS)(σ:St)(Q:Bool->Hp->Prop)(b:Bool)(s':aE):Prop:=∃H',Inv X pins σ H' s'/\Q b H'
abbrev AP(X:Cx)(pins:PNS)(σ:St)(Q:List V->Hp->Prop)(us:LVa)(s':aE):Prop:=∃vs H',Inv X pins σ H' s'/\a9 vs us/\Q vs H'
abbrev SP(X:Cx)(pins:PNS)(D:jO)(f:Flow)(s':aE):Prop:=
 match f with
 |.next=>∃σ' H',Inv X pins σ' H' s'/\D.nx σ' H'
 |.brk=>∃σ' H',Inv X pins σ' H' s'/\D.bk σ' H'
 |.cont=>∃σ' H',Inv X pins σ' H' s'/\D.ct σ' H'
 |.ret u=>∃v σ' H',Inv X pins σ' H' s'/\be v u/\D.rt v H'
abbrev PE(X:Cx)(e:Expr)(t:TE):Prop:=
 ∀(pins:PNS) (s:aE) (σ:St) (H:Hp) (Q:VK),Inv X pins σ H s->t σ H Q->wpAny (model X.prog X.w) X.A (eval e X.env) (EP X pins σ Q) X.xe s
abbrev PT(X:Cx)(e:Expr)(t:TT):Prop:=
 ∀(pins:PNS) (s:aE) (σ:St) (H:Hp) (Q:Bool->Hp->Prop),Inv X pins σ H s->t σ H Q->wpAny (model X.prog X.w) X.A (isTrue e X.env (eval e X.env)) (TP X pins σ Q) X.xe s
abbrev PW(X:Cx)(e:Expr)(t:TT):Prop:=
 ∀(c:Sem Value) (pins:PNS) (s:aE) (σ:St) (H:Hp) (Q:Bool->Hp->Prop),Inv X pins σ H s->t σ H Q->wpAny (model X.prog X.w) X.A (isTrue e X.env c) (TP X pins σ Q) X.xe s
variable{e:Expr}
def PW.pt{t:TT}(h:PW X e t):PT X e t:=h _
abbrev PA(X:Cx)(es:LEx)(t:TA):Prop:=
 ∀(pos:Pos) (pins:PNS) (s:aE) (σ:St) (H:Hp) (Q:List V->Hp->Prop),Inv X pins σ H s->t σ H Q->wpAny (model X.prog X.w) X.A (spliced (eE pos (a8 es X.env))) (AP X pins σ Q) X.xe s
abbrev PS(X:Cx)(st:Stmt)(t:TS):Prop:=
 ∀(pins:PNS) (s:aE) (σ:St) (H:Hp) (D:jO),Inv X pins σ H s->t D σ H->wpAny (model X.prog X.w) X.A (exec st X.env) (SP X pins D) X.xe s
abbrev PSs(X:Cx)(st:List Stmt)(t:TS):Prop:=
 ∀(pins:PNS) (s:aE) (σ:St) (H:Hp) (D:jO),Inv X pins σ H s->t D σ H->wpAny (model X.prog X.w) X.A (execs st X.env) (SP X pins D) X.xe s
def thn{d:Type}{t:Sem d}{Q c:d->aE->Prop}(h:wpAny M A t Q E s)(f:∀a s,Q a s->c a s):wpAny M A t c E s:=dF h f λ_ _ x=>x
abbrev eL(i:Nat):TE:=λσ H Q=>∃v,σ[i]?=aa (aa v)/\Q v H
abbrev tC(v:V):TE:=λ_ H Q=>Q v H
def kX{pos:Pos}(p:X.N[i]?=aa x)(B:Vis X.env.scope x)(hd:NDb x:=by decide)(j:NCd x:=by decide):PE X (.Name x pos) (eL i):=by
 intro pins s σ H Q I h;obtain⟨v,e,h⟩:=h;obtain⟨m,z,q⟩:=I.loc;obtain⟨u,r,l⟩:=q i x v p e B;have f:EP X pins σ Q u s:=⟨v,H,I,r,h⟩
 rcases l with⟨g,y⟩ |⟨g,c,n,d⟩
 .exact wpAny_Name (wpAny_loadName_local I.ok.kind g z y f) hd
 .rcases g with g |g
  .exact wpAny_Name (wpAny_loadName_cell I.ok.kind g n d f) hd
  .exact wpAny_Name (wpAny_loadName_free I.ok.kind g n d f j) hd
def EO{i j pos}:PE X (.Constant (.int i) j pos) (tC (.int i)):=λ_ _ _ H _ I h=>wpAny_Constant_int ⟨.int i,H,I.tok _,⟨_,rfl⟩,h⟩
def EQ{b j pos}:PE X (.Constant (.bool b) j pos) (tC (.bl b)):=λ_ _ _ H _ I h=>Constant_bool ⟨.bl b,H,I,rfl,h⟩
def ER{j pos}:PE X (.Constant .none j pos) (tC .non):=λ_ _ _ H _ I h=>Constant_none ⟨.non,H,I,rfl,h⟩
def ES{x j pos}:PE X (.Constant (.str x) j pos) (tC (.str x)):=λ_ _ _ H _ I h=>Calls.Constant_str ⟨.str x,H,I.tok _,⟨_,rfl⟩,h⟩
abbrev Gl(X:Cx)(x:Str):Prop:=X.env.kindOf x=aa .globalImplicit
variable{σ:St}
def rJ{pos:Pos}{Q:PRS}(I:Inv X pins σ H s)(c:Gl X x)(d:X.mg x=aa u)(h:Q u s)
 (hd:NDb x:=by decide):wpAny (model X.prog X.w) X.A (eval (.Name x pos) X.env) Q E s:=
 Calls.Name_function_global I.ok.kind c (Calls.loadGlobal_global (by rw[I.ok.glob];exact I.mod.glob.keeps I.bk) d h) hd
def ja{pos:Pos}{Q:PRS}(I:Inv X pins σ H s)(c:Gl X x)(d:X.mg x=ae)(g:gu x=aa u)(h:Q u s)
 (f:x ≠ "__name__":=by decide)(hd:NDb x:=by decide):wpAny (model X.prog X.w) X.A (eval (.Name x pos) X.env) Q E s:=by
 obtain⟨mb,h1,h2⟩:=I.mod.blt;exact Calls.Name_function_global I.ok.kind c (Calls.loadGlobal_builtin (by rw[I.ok.glob];exact I.mod.glob.keeps I.bk) d (by rw[I.ok.blt];exact h1.keeps I.bk) ((h2 x f).trans g) h) hd
def oY{pos:Pos}(c:Gl X x)(d:X.mg x=aa u)(r:be v u)(hd:NDb x:=by decide):PE X (.Name x pos) (tC v):=
 λ_ _ _ H _ I h=>rJ I c d ⟨v,H,I,r,h⟩ hd
def ET{pos:Pos}(c:Gl X x)(d:X.mg x=ae)(g:gu x=aa u)(r:be v u)(f:x ≠ "__name__":=by decide)(hd:NDb x:=by decide):PE X (.Name x pos) (tC v):=
 λ_ _ _ H _ I h=>ja I c d g ⟨v,H,I,r,h⟩ f hd
abbrev EU(t u:TT):TT:=λσ H Q=>t σ H λc H1=>if c=af then u σ H1 Q else Q aj H1
abbrev tOr(t u:TT):TT:=λσ H Q=>t σ H λc H1=>if c=af then Q af H1 else u σ H1 Q
abbrev EV(t:TT):TT:=λσ H Q=>t σ H λc H1=>Q (!c) H1
variable{a:Expr}{tA:TT}
def EW{pos:Pos}(d:PT X a tA):PW X (.BoolOp .And [a] pos) tA:=by
 intro f pins s σ H Q I h;refine isTrue_and (thn (d pins s σ H Q I h) λc s1 e=>?_)
 cases c with
 |true=>exact isTrue_and_nil e
 |false=>exact e
def EX{pos:Pos}(d:PT X a tA):PW X (.BoolOp .Or [a] pos) tA:=by
 intro f pins s σ H Q I h;refine isTrue_or (thn (d pins s σ H Q I h) λc s1 e=>?_)
 cases c with
 |false=>exact isTrue_or_nil e
 |true=>exact e
variable{b:Expr}{tB':TT}
def EY{pos:Pos}{aB:LEx}(g:PT X a tA)(j:PW X (.BoolOp .And (b::aB) pos) tB'):PW X (.BoolOp .And (a::b::aB) pos) (EU tA tB'):=by
 intro m pins s σ H Q I h;refine isTrue_and (thn (g pins s σ H _ I h) λc s1 l=>?_);obtain⟨H1,d,f⟩:=l
 cases c with
 |true=>exact j m pins s1 σ H1 Q d f
 |false=>exact⟨H1,d,f⟩
def EZ{pos:Pos}{aB:LEx}(g:PT X a tA)(j:PW X (.BoolOp .Or (b::aB) pos) tB'):PW X (.BoolOp .Or (a::b::aB) pos) (tOr tA tB'):=by
 intro m pins s σ H Q I h;refine isTrue_or (thn (g pins s σ H _ I h) λc s1 l=>?_);obtain⟨H1,d,f⟩:=l
 cases c with
 |true=>exact⟨H1,d,f⟩
 |false=>exact j m pins s1 σ H1 Q d f
def E1{pos:Pos}(c:PT X a tA):PT X (.UnaryOp .Not a pos) (EV tA):=by
 intro pins s σ H Q I h;exact isTrue_not (c pins s σ H _ I h)
abbrev E2(d f:TE):TE:=λσ H Q=>d σ H λx H1=>∃c,x=.bl c/\if c=af then f σ H1 Q else Q (.bl aj) H1
abbrev E3(d f:TE):TE:=λσ H Q=>d σ H λx H1=>∃c,x=.bl c/\if c=af then Q (.bl af) H1 else f σ H1 Q
def E4{pos:Pos}{op}{t:TE}(h:PE X a t):PE X (.BoolOp op [a] pos) t:=λpins s σ H Q I c=>BoolOp_one (h pins s σ H Q I c)
variable{ta tb:TE}
def E5{pos:Pos}{aB:LEx}(g:PE X a ta)(j:PE X (.BoolOp .And (b::aB) pos) tb):PE X (.BoolOp .And (a::b::aB) pos) (E2 ta tb):=by
 intro pins s σ H Q I h;refine BoolOp_and (thn (g pins s σ H _ I h) λv s1 l=>?_);obtain⟨x,H1,f,m,d⟩:=l;obtain⟨c,rfl,d⟩:=d;subst m;refine lP ?_
 cases c with
 |true=>exact j pins s1 σ H1 Q f d
 |false=>exact⟨.bl aj,H1,f,rfl,d⟩
def E6{pos:Pos}{aB:LEx}(g:PE X a ta)(j:PE X (.BoolOp .Or (b::aB) pos) tb):PE X (.BoolOp .Or (a::b::aB) pos) (E3 ta tb):=by
 intro pins s σ H Q I h;refine BoolOp_or (thn (g pins s σ H _ I h) λv s1 l=>?_);obtain⟨x,H1,f,m,d⟩:=l;obtain⟨c,rfl,d⟩:=d;subst m;refine lP ?_
 cases c with
 |false=>exact j pins s1 σ H1 Q f d
 |true=>exact⟨.bl af,H1,f,rfl,d⟩
abbrev tIf(t:TT)(ta tb:TE):TE:=λσ H Q=>t σ H λc H1=>if c=af then ta σ H1 Q else tb σ H1 Q
variable{c:Expr}
def zQ{pos:Pos}(m:PT X c tA)(j:PE X a ta)(l:PE X b tb):PE X (.IfExp c a b pos) (tIf tA ta tb):=by
 intro pins s σ H Q I h;refine wpAny_IfExp (thn (m pins s σ H _ I h) λd s1 n=>?_);obtain⟨H1,f,g⟩:=n
 cases d with
 |true=>exact j pins s1 σ H1 Q f g
 |false=>exact l pins s1 σ H1 Q f g
abbrev SqL(K:bA)(H:Hp)(a:Addr)(xs:List V):Prop:=
 Rd H a (.lst xs) \/
  ∃(o:Obj) (its:Array Value) (n:Nat),K.lookup a=aa o/\o.cls=.type "list" /\ o.dict=ae/\o.data=.seq its n/\its.size<=bn/\a9 xs its.toList
abbrev SqT(K:bA)(H:Hp)(a:Addr)(xs:List V):Prop:=
 Rd H a (.tup xs) \/
  ∃(o:Obj) (its:Array Value) (n:Nat),K.lookup a=aa o/\o.cls=.type "tuple" /\ o.data=.seq its n/\its.size<=bn/\a9 xs its.toList
abbrev E7:Value->Option V
 |.none=>aa .non
 |.bool b=>aa (.bl b)
 |.int i _=>aa (.int i)
 |.str x _=>aa (.str x)
 |.bytes b _=>aa (.byt b)
 |.float b _=>aa (.flt b)
 |.ref a=>aa (.ref a)
 |.type n=>aa (.ty n)
 | _=>ae
def be.abs{x:V}(r:be x u):E7 u=aa x:=by
 cases x with
 |non=>subst r;rfl
 |bl _=>subst r;rfl
 |int _=>obtain⟨t,rfl⟩:=r;rfl
 |str _=>obtain⟨t,rfl⟩:=r;rfl
 |byt _=>obtain⟨t,rfl⟩:=r;rfl
 |flt _=>obtain⟨t,rfl⟩:=r;rfl
 |ref _=>subst r;rfl
 |ty _=>subst r;rfl
variable{y:V}
def be.inj{x:V}(r:be x u)(q:be y u):x=y:=cu (r.abs.symm.trans q.abs)
def a9.inj:∀{xs d:List V} {us:LVa},a9 xs us->a9 d us->xs=d
 | _,_,_,.nil,.nil=>rfl
 | _,_,_,.cons r t,.cons r' t'=>by rw[r.inj r',a9.inj t t']
variable{a:Addr}{K:bA}
def SqL.of(h:H a=aa (.lst xs)):SqL K H a xs:=.inl (.inl h)
def SqT.of(h:H a=aa (.tup xs)):SqT K H a xs:=.inl (.inl h)
def Inv.list(I:Inv X pins σ H s)(h:SqL X.K H a xs):∃its:LVa,a9 xs its/\PlainL s.heap a its.toArray/\xs.length<=bn:=by
 rcases h with h |⟨o,its,n,hk,hc,hd,hs,hz,r⟩
 .obtain⟨z,its,n,r,e⟩:=h.ok I.hok;exact⟨its,r,⟨_,n,e,rfl,rfl,rfl⟩,z⟩
 .refine⟨its.toList,r,⟨o,n,I.kIn a o hk,hc,hd,by simpa using hs⟩,?_⟩;have e:=r.length
  grind
def Inv.tuple(I:Inv X pins σ H s)(h:SqT X.K H a xs):∃its:LVa,a9 xs its/\IsTup s.heap a its.toArray/\xs.length<=bn:=by
 rcases h with h |⟨o,its,n,hk,hc,hs,hz,r⟩
 .obtain⟨z,its,r,p⟩:=h.ok I.hok;exact⟨its,r,p,z⟩
 .refine⟨its.toList,r,⟨o,I.kIn a o hk,hc,n,by simpa using hs⟩,?_⟩;have e:=r.length;simp only[qK]at e
  lia
variable{ys:List V}
def Inv.list_inj(I:Inv X pins σ H s)(h:SqL X.K H a xs)(h':SqL X.K H a ys):xs=ys:=by
 obtain⟨its,r,⟨o,n,e,_,_,d⟩,_⟩:=I.list h;obtain⟨f,j,⟨o',l,g,_,_,d'⟩,_⟩:=I.list h';rw[e]at g;cases g;rw[d]at d'
 injection d' with d1 _
 have:its=f:=by simpa using congrArg Array.toList d1
 subst this;exact r.inj j
def Inv.tuple_inj(I:Inv X pins σ H s)(h:SqT X.K H a xs)(h':SqT X.K H a ys):xs=ys:=by
 obtain⟨its,r,⟨o,e,_,n,d⟩,_⟩:=I.tuple h;obtain⟨f,j,⟨o',g,_,l,d'⟩,_⟩:=I.tuple h';rw[e]at g;cases g;rw[d]at d'
 injection d' with d1 _
 have:its=f:=by simpa using congrArg Array.toList d1
 subst this;exact r.inj j
@[reducible]noncomputable def Cx.wish(X:Cx)(E:PRS):Cx:={X with xe:=E}
@[reducible]noncomputable def Cx.nox(X:Cx):Cx:=X.wish λ_ _=>False
def Cx.Ok.wish(ok:X.Ok)(E:PRS):(X.wish E).Ok:=
 ⟨ok.mod,ok.kind,ok.glob,ok.blt,ok.above,ok.inj,ok.has,ok.cab,ok.hd,ok.frames,ok.stk,ok.exf,ok.bs,ok.bsz,ok.noex,ok.exfs,ok.funs,ok.frf⟩
def Cx.Ok.unwish(ok:(X.wish E).Ok):X.Ok:=
 ⟨ok.mod,ok.kind,ok.glob,ok.blt,ok.above,ok.inj,ok.has,ok.cab,ok.hd,ok.frames,ok.stk,ok.exf,ok.bs,ok.bsz,ok.noex,ok.exfs,ok.funs,ok.frf⟩
def Inv.wish(I:Inv X pins σ H s)(E:PRS):Inv (X.wish E) pins σ H s:=⟨I.ok.wish E,I.os,I.bare,I.base,I.loc,I.cell,I.free,I.freeC,I.pin,I.hok,I.len⟩
def Inv.unwish(I:Inv (X.wish E) pins σ H s):Inv X pins σ H s:=⟨I.ok.unwish,I.os,I.bare,I.base,I.loc,I.cell,I.free,I.freeC,I.pin,I.hok,I.len⟩
def SP.unwish{D:jO}{f:Flow}(h:SP (X.wish E) pins D f s'):SP X pins D f s':=by
 cases f with
 |next=>obtain⟨σ',H',I,q⟩:=h;exact⟨σ',H',I.unwish,q⟩
 |brk=>obtain⟨σ',H',I,q⟩:=h;exact⟨σ',H',I.unwish,q⟩
 |cont=>obtain⟨σ',H',I,q⟩:=h;exact⟨σ',H',I.unwish,q⟩
 |ret u=>obtain⟨v,σ',H',I,r,q⟩:=h;exact⟨v,σ',H',I.unwish,r,q⟩
def PSs.nox{st:List Stmt}{t:TS}(h:PSs X.nox st t):PSs X st t:=λpins s σ H D I d=>
 dF (h pins s σ H D (I.wish _) d) (λ_ _ q=>q.unwish) λ_ _ z=>iV z
abbrev E8:TS:=λD σ H=>D.nx σ H
abbrev E9(t u:TS):TS:=λD σ H=>t {D with nx:=u D} σ H
def zS:PSs X [] E8:=λ_ _ σ H _ I h=>wpAny_execs_nil ⟨σ,H,I,h⟩
variable{st:Stmt}{u:TS}
def vK{aB:List Stmt}{t:TS}(h1:PS X st t)(h2:PSs X aB u):PSs X (st::aB) (E9 t u):=by
 intro pins s σ H D I h
 refine wpAny_execs_cons (thn (h1 pins s σ H {D with nx:=u D} I h) λf s1 q=>?_)
 cases f with
 |next=>
  obtain⟨σ',H',d,q⟩:=q
  exact h2 pins s1 σ' H' D d q
 |ret v=>exact q
 |brk=>exact q
 |cont=>exact q
def rK{t:TS}(h1:PS X st t):PSs X [st] t:=by
 intro pins s σ H D I h;refine wpAny_execs_cons (thn (h1 pins s σ H D I h) λf s1 q=>?_)
 cases f with
 |next=>exact wpAny_execs_nil q
 |ret v=>exact q
 |brk=>exact q
 |cont=>exact q
def Inv.quiet(I:Inv X pins σ H s):interactive X.env=aj:=by simp[interactive,I.ok.kind]
abbrev kZ(te:TE):TS:=λD σ H=>te σ H λ_ H1=>D.nx σ H1
variable{te:TE}
def cM{pos:Pos}(f:PE X e te)(g:eX e ae pos.line X.env=pure aj:=by rfl):PS X (.Expr e pos) (kZ te):=by
 intro pins s σ H D I h;exact wpAny_Expr_any (thn (f pins s σ H _ I h) λv s1 ⟨x,H1,d,l,j⟩=>⟨σ,H1,d,j⟩) I.quiet g
abbrev Fa(te:TE):TS:=λD σ H=>te σ H D.rt
def m9{pos:Pos}(f:PE X e te):PS X (.Return (aa e) pos) (Fa te):=by
 intro pins s σ H D I h;exact wpAny_Return_some (thn (f pins s σ H _ I h) λv s1 ⟨x,H1,d,j,g⟩=>⟨x,σ,H1,d,j,g⟩)
abbrev Fb(c:TT)(t u:TS):TS:=λD σ H=>c σ H λb H1=>if b=af then t D σ H1 else u D σ H1
def vL{t:TS}{pos:Pos}{a b:List Stmt}{j:TT}(n:PT X c j)(l:PSs X a t)(m:PSs X b u):PS X (.If c a b pos) (Fb j t u):=by
 intro pins s σ H D I h;refine wpAny_If (thn (n pins s σ H _ I h) λd s1 p=>?_);obtain⟨H1,f,g⟩:=p
 cases d with
 |true=>exact l pins s1 σ H1 D f g
 |false=>exact m pins s1 σ H1 D f g
@[reducible]noncomputable def TG:=V->St->Hp->(St->Hp->Prop)->Prop
@[reducible]noncomputable def TGs:=List V->St->Hp->(St->Hp->Prop)->Prop
abbrev PG(X:Cx)(d:Expr)(t:TG):Prop:=
 ∀(pins:PNS) (s:aE) (σ:St) (H:Hp) (v:V) (u:Value) (Q:St->Hp->Prop),Inv X pins σ H s->be v u->t v σ H Q ->
  wpAny (model X.prog X.w) X.A (gx d X.env u) (λ_ s'=>∃σ' H',Inv X pins σ' H' s'/\Q σ' H') X.xe s
abbrev PGs(X:Cx)(ts:LEx)(t:TGs):Prop:=
 ∀(pins:PNS) (s:aE) (σ:St) (H:Hp) (vs:List V) (us:LVa) (Q:St->Hp->Prop),Inv X pins σ H s->a9 vs us->t vs σ H Q ->
  wpAny (model X.prog X.w) X.A (assignInOrder ((eD ts X.env).map (·.2)) us) (λ_ s'=>∃σ' H',Inv X pins σ' H' s'/\Q σ' H') X.xe s
@[reducible]noncomputable def vM:=V->V->V->Hp->(Hp->Prop)->Prop
abbrev zT(X:Cx)(t:vM):Prop:=
 ∀(pins:PNS) (s:aE) (σ:St) (H:Hp) (o i v:V) (ov d u:Value) (Q:Hp->Prop),Inv X pins σ H s->be o ov->be i d->be v u->t o i v H Q ->
  wpAny (model X.prog X.w) X.A (setItem ov d u) (λ_ s'=>∃H',Inv X pins σ H' s'/\Q H') X.xe s
abbrev jP(i:Nat):TG:=λv σ H Q=>Q (σ.set i (aa v)) H
def zU{pos:Pos}(f:X.N.Nodup)(hi:X.N[i]?=aa x)(j:Loc X.env.scope x)(g:LcF X x:=by first |exact .inl rfl |exact .inr rfl |assumption):PG X (.Name x pos) (jP i):=by
 intro pins s σ H v u Q I r h;exact wpAny_assign_Name (rH I f hi j r (λs' d=>⟨_,H,d,h⟩) g)
abbrev Fc:TGs:=λvs σ H Q=>vs=[]/\Q σ H
abbrev Fd(t:TG)(u:TGs):TGs:=λvs σ H Q=>∃v r,vs=v::r/\t v σ H λσ' H'=>u r σ' H' Q
def Fe:PGs X [] Fc:=by
 intro pins s σ H vs us Q I r h;obtain⟨e,h⟩:=h;exact assignInOrder_nil ⟨σ,H,I,h⟩
variable{es:LEx}
def Ff{t:TG}{u:TGs}(h1:PG X e t)(h2:PGs X es u)
 (j:(eD (e::es) X.env).map (·.2)=gx e X.env::(eD es X.env).map (·.2):=by rfl):PGs X (e::es) (Fd t u):=by
 intro pins s σ H vs us Q I r h;obtain⟨v,vr,g,h⟩:=h;subst g
 cases r with
 |cons r m=>
  rw[j];exact assignInOrder_cons (thn (h1 pins s σ H _ _ _ I r h) λ_ s1 ⟨d,H1,f,l⟩=>(h2 pins s1 d H1 _ _ Q f m l))
abbrev Fg(K:bA)(n:Nat)(t:TGs):TG:=λv σ H Q=>∃a xs,v=.ref a/\SqT K H a xs/\xs.length=n/\t xs σ H Q
def Fh{pos:Pos}{k:Nat}{t:TGs}{n:Nat}(l:X.calm=af)(h:PGs X es t)
 (p:(eD es X.env).length=n:=by rfl)(d:(eD es X.env).findIdx? (·.1)=ae:=by rfl):PG X (.Tuple es k pos) (Fg X.K n t):=by
 intro pins s σ H v u Q I r f;obtain⟨a,xs,j,q,m,f⟩:=f;subst j;subst r;obtain⟨its,g,z,hz⟩:=I.tuple q;refine assign_Tuple_tuple (I.ok.hd l) z (by simp[p,<- m,g.length]) d λh' B=>?_;exact h pins _ σ H xs _ Q (I.kept λb o e=>B b o (cr (bI e)) e) (by simpa using g) f
abbrev vN(to f:TE)(t:vM):TG:=λv σ H Q=>to σ H λo H1=>f σ H1 λi H2=>t o i v H2 λd=>Q σ d
def zV{pos:Pos}{o i:Expr}{to g:TE}{t:vM}(p:PE X o to)(hi:PE X i g)(q:zT X t)
 (L:∀ v,gx (.Subscript o i pos) X.env v=(do
   let ov <- gw [v] (eval o X.env)
   let d <- gw [v,ov] (eval i X.env)
   standAt pos
   gw [v,ov,d] (setItem ov d v)
   release [v,ov,d] []):=by intro _;rfl):PG X (.Subscript o i pos) (vN to g t):=by
 intro pins s σ H v u Q I r h;refine ao (dP (thn (p pins s σ H _ I h) λov s1 f=>?_));obtain⟨x,H1,l,G,z⟩:=f;refine ao (dP (thn (hi pins s1 σ H1 _ l z) λd s2 f=>?_));obtain⟨y,H2,m,J,B⟩:=f;exact ao (oQ (ao (dP (thn (q pins s2 σ H2 x y v ov d u _ m G J r B) λ_ T ⟨j,n,C⟩=>(wpAny_release ⟨σ,j,n,C⟩)))))
abbrev jQ(te:TE)(g:TG):TS:=λD σ H=>te σ H λx H1=>g x σ H1 D.nx
variable{tg:Expr}{g:TG}
def rL{pos:Pos}(f:PE X e te)(j:PG X tg g)(l:oR [tg] e pos.line X.env=pure aj:=by rfl)(m:oS [tg] e X.env=pure ae:=by rfl)
 (h1:(eD [tg] X.env).map (·.2)=[gx tg X.env]:=by rfl):PS X (.Assign [tg] e pos) (jQ te g):=by
 intro pins s σ H D I h;refine wpAny_Assign_stores (thn (f pins s σ H _ I h) λv s1 p=>?_) l m;obtain⟨x,H1,d,r,n⟩:=p;rw[h1];exact thn (j pins s1 σ H1 x v _ d r n) λ_ s2 q=>q
variable{b5:Pos}
def k4{pos:Pos}(j:X.N.Nodup)(hi:X.N[i]?=aa x)(p:Loc X.env.scope x)(l:PE X e te)(n:eX e (aa (.Name x b5)) pos.line X.env=pure aj:=by rfl)(m:LcF X x:=by first |exact .inl rfl |exact .inr rfl |assumption):
  PS X (.Assign [.Name x b5] e pos) (jQ te (jP i)):=by
 intro pins s σ H D I h;exact wpAny_Assign_Name (thn (l pins s σ H _ I h) λv s1 ⟨y,H1,d,r,q⟩=>(rH d j hi p r (λs2 f=>⟨_,H1,f,q⟩) m)) n
structure It where
 go:Nat->Hp->Prop
 yld:Nat->Hp->V->Hp->Prop
 stop:Nat->Hp->Prop
abbrev fW(X:Cx)(pins:PNS)(H:Hp)(b:Addr):Prop:=
 H b=ae/\b≠X.env.locals/\b∉X.fs/\(b∈X.ex\/X.s₀.heap.objs.size<=b)/\(∀x c,X.env.cells.lookup x=aa c->c≠b)/\∀p∈X.pn++pins,p.1≠b
def Inv.fpOk{b:Addr}(I:Inv X pins σ H s)(d:s.heap.objs.size<=b)(f:H' b=ae):fW X pins H' b:=by
 refine⟨f,mZ (fo I.lt d),I.nofs d,.inr (c9 I.sz d),λx c e z=>?_,λp j z=>(absurd (fo (bI (I.pin p j).1) (by rw[z];exact d)) (iZ _))⟩;obtain⟨v,q⟩:=I.cell x c e;exact absurd (fo q.lt (by rw[z];exact d)) (iZ _)
structure k6(P:cS)(w:World)(K:bA)(tg:Expr)(J:It)(fp:LAd)(it:Addr)(tn:Nat->Heap->Prop):Prop where
 mem:it∈fp
 obj:∀i h,tn i h->∀b∈fp,∃o,h.get? b=aa o/\∀v,o.data≠.cell v
 keep:∀i h h',tn i h->(∀b∈fp,∀o,h.get? b=aa o->h'.get? b=aa o)->tn i h'
 item:∀(X:Cx),X.prog=P->X.w=w->X.K=K->X.calm=af->∀(i:Nat) (pins:PNS) (s:aE) (σ:St) (H:Hp) (E:PRS),Inv X pins σ H s->(∀b∈fp,fW X pins H b)->tn i s.heap->J.go i H ->
  wpAny (model P w) X.A (pyNext (.ref it)) (λr s1=>∃ u,r=aa u /\
   wpAny (model P w) X.A (letOwnedTupleGo tg (.ref it) u) (λ_ s2=>∃x H',Inv X pins σ H' s2/\be x u/\J.yld i H x H'/\tn (i+1) s2.heap/\∀b∈fp,H' b=ae) E s1) E s
 done:∀(X:Cx),X.prog=P->X.w=w->X.K=K->X.calm=af->∀(i:Nat) (pins:PNS) (s:aE) (σ:St) (H:Hp) (E:PRS),Inv X pins σ H s->(∀b∈fp,fW X pins H b)->tn i s.heap->J.stop i H ->
  wpAny (model P w) X.A (pyNext (.ref it)) (λr s1=>r=ae/\Inv X pins σ H s1) E s
 self:∀(A:cZ) (i:Nat) (s:aE) (Q:PRS) (E:PRS),tn i s.heap->Q (.ref it) s->wpAny (model P w) A (pyIter (.ref it)) Q E s
@[reducible]noncomputable def TI:=St->Hp->(It->Hp->Prop)->Prop
abbrev PIE(X:Cx)(pins:PNS)(σ:St)(tg:Expr)(R:It->Hp->Prop)(d:Value)(s2:aE):Prop:=
 ∃(it:Addr) (fp:LAd) (tn:Nat->Heap->Prop) (J:It) (H':Hp),d=.ref it/\Inv X pins σ H' s2/\k6 X.prog X.w X.K tg J fp it tn/\tn 0 s2.heap/\(∀b∈fp,fW X pins H' b)/\R J H'
abbrev PI(X:Cx)(tg iter:Expr)(d:TI):Prop:=
 ∀(pins:PNS) (s:aE) (σ:St) (H:Hp) (R:It->Hp->Prop),Inv X pins σ H s->d σ H R ->
  wpAny (model X.prog X.w) X.A (eval iter X.env) (λv s1=>wpAny (model X.prog X.w) X.A (pyIter v) (PIE X pins σ tg R) X.xe s1) X.xe s
variable{u:Value}
def rM{n:String}{vs:Array Value}(l:s.heap.get? it = aa o)(f:o.cls = .type n)(hd:o.data = .fields vs)
   (j:["enumerate", "zip", "dict_itemiterator", "dict_reverseitemiterator", "odict_iterator", "itertools.zip_longest", "itertools.pairwise"].contains n = aj)(d:Q () s):wpAny M A (letOwnedTupleGo tg (.ref it) u) Q E s:= by
  cases tg <;> first
    |exact bh d
    | (cases u <;> first
        |exact bh d
        | (refine ao (wpAny_load l ?_)
           rw[f, hd];show wpAny M A (if _ = af then _ else _) Q E s;rw[if_neg (by intro h;rw[j, Bool.false_and]at h;nomatch h)];exact bh d))
abbrev Itl(K:bA)(a:Addr):It:=
 ⟨λi H=>∃xs x,SqL K H a xs/\xs[i]?=aa x,λi H x H'=>H'=H/\∀xs,SqL K H a xs->xs[i]?=aa x,λi H=>∃xs,SqL K H a xs/\xs.length<=i⟩
abbrev Itt(K:bA)(a:Addr):It:=
 ⟨λi H=>∃xs x,SqT K H a xs/\xs[i]?=aa x,λi H x H'=>H'=H/\∀xs,SqT K H a xs->xs[i]?=aa x,λi H=>∃xs,SqT K H a xs/\xs.length<=i⟩
abbrev Itr(lo:Int)(n:Nat):It:=⟨λi _=>i<n,λi H x H'=>H'=H/\x=.int (lo+i),λi _=>n<=i⟩
def Fi(a it:Addr):k6 P w K tg (Itl K a) [it] it (λi h=>h.IsListIter it a i) where
 mem:=by simp
 obj:=λi h st b hb=>by
  have e:b=it:=by simpa using hb
  subst e;obtain⟨o,e,c,d⟩:=st;exact⟨o,e,λv z=>by rw[d]at z;nomatch z⟩
 keep:=λi h h' st k=>st.at λo e=>k it (by simp) o e
 item:=by
  intro X hP hw hK hc i pins s σ H E I hf st hg;subst hP hw hK;obtain⟨xs,x,hq,hx⟩:=hg;obtain⟨its,rv,p,hz⟩:=I.list hq;obtain⟨u,hu,ru⟩:=rv.get hx;obtain⟨f0,f1,f2,f3,f4,f5⟩:=hf it (by simp);refine vi st p.isList (by simpa using hu) λh' lw sb=>?_;obtain⟨o,e,c,d⟩:=id lw;exact⟨u,rfl,rM e c d (rfl) ⟨x,H,(I.turned (λb o hb e=>(sb.2 b hb).trans e) f0 f1 f3 f4 f5),ru,⟨rfl,λys hy=>by rw[I.list_inj hy hq];exact hx⟩,lw,λb hb=>(hf b hb).1⟩⟩
 done:=by
  intro X hP hw hK hc i pins s σ H E I hf st hg;subst hP hw hK;obtain⟨xs,hq,hx⟩:=hg;obtain⟨its,rv,p,hz⟩:=I.list hq;obtain⟨f0,f1,f2,f3,f4,f5⟩:=hf it (by simp);have hl:=rv.length;exact vj (I.ok.hd hc) st p.isList (by simp;lia) λh' eb=>⟨rfl,I.turned (λb o hb e=>eb b o hb e) f0 f1 f3 f4 f5⟩
 self:=λ_ _ _ _ _ st h=>wpAny_pyIter_listiter st h
def Fj(a it:Addr):k6 P w K tg (Itt K a) [it] it (λi h=>h.IsTupleIter it a i) where
 mem:=by simp
 obj:=λi h st b hb=>by
  have e:b=it:=by simpa using hb
  subst e;obtain⟨o,e,c,d⟩:=st;exact⟨o,e,λv z=>by rw[d]at z;nomatch z⟩
 keep:=λi h h' st k=>st.at λo e=>k it (by simp) o e
 item:=by
  intro X hP hw hK hc i pins s σ H E I hf st hg;subst hP hw hK;obtain⟨xs,x,hq,hx⟩:=hg;obtain⟨its,rv,p,hz⟩:=I.tuple hq;obtain⟨u,hu,ru⟩:=rv.get hx;obtain⟨f0,f1,f2,f3,f4,f5⟩:=hf it (by simp);refine wpAny_pyNext_tuple_item st (p) (by simpa using hu) λh' lw sb=>?_;obtain⟨o,e,c,d⟩:=id lw;exact⟨u,rfl,rM e c d (rfl) ⟨x,H,(I.turned (λb o hb e=>(sb.2 b hb).trans e) f0 f1 f3 f4 f5),ru,⟨rfl,λys hy=>by rw[I.tuple_inj hy hq];exact hx⟩,lw,λb hb=>(hf b hb).1⟩⟩
 done:=by
  intro X hP hw hK hc i pins s σ H E I hf st hg;subst hP hw hK;obtain⟨xs,hq,hx⟩:=hg;obtain⟨its,rv,p,hz⟩:=I.tuple hq;obtain⟨f0,f1,f2,f3,f4,f5⟩:=hf it (by simp);have hl:=rv.length;exact wpAny_pyNext_tuple_end (I.ok.hd hc) st (p) (by simp;lia) λh' eb=>⟨rfl,I.turned (λb o hb e=>eb b o hb e) f0 f1 f3 f4 f5⟩
 self:=λ_ _ _ _ _ st h=>wpAny_pyIter_tupleiter st h
def Fk(it:Addr)(lo:Int)(n:Nat):k6 P w K tg (Itr lo n) [it] it (λi h=>IsRangeIter h it (lo+(i:Nat)*1) ((n:Int)-(i:Nat)) 1) where
 mem:=by simp
 obj:=λi h st b hb=>by
  have e:b=it:=by simpa using hb
  subst e
  exact⟨_,st,λv z=>by
   nomatch z⟩
 keep:=λi h h' st k=>k it (by simp) _ st
 item:=by
  intro X hP hw hK hc i pins s σ H E I hf st hg;obtain⟨f0,f1,f2,f3,f4,f5⟩:=hf it (by simp);refine(Walks.range (I.ok.hd hc) it lo 1 n).item i s _ _ hg st λv h' tk hv lw kk=>?_;obtain⟨t,rfl⟩:=hv
  have I1:Inv X pins σ H {s with heap:=h',toks:=tk}:=I.turned (λb o hb e=>kk b o (by simpa using hb) e) f0 f1 f3 f4 f5
  refine⟨_,rfl,rM lw rfl rfl (rfl) ⟨.int _,H,I1,⟨t,?_⟩,⟨rfl,rfl⟩,lw,λb hb=>(hf b hb).1⟩⟩;rw[Int.mul_one]
 done:=by
  intro X hP hw hK hc i pins s σ H E I hf st hg;obtain⟨f0,f1,f2,f3,f4,f5⟩:=hf it (by simp);exact wpAny_pyNext_range_end (I.ok.hd hc) st (by have:n<=i:=hg;lia) λh' eb=>⟨rfl,I.turned (λb o hb e=>eb b o hb e) f0 f1 f3 f4 f5⟩
 self:=λ_ _ _ _ _ st h=>wpAny_pyIter_rangeiter st h
abbrev Fm(K:bA)(d:TE):TI:=λσ H R=>d σ H λx H1=>∃a,x=.ref a/\(∃xs,SqL K H1 a xs)/\R (Itl K a) H1
abbrev Fo(K:bA)(d:TE):TI:=λσ H R=>d σ H λx H1=>∃a,x=.ref a/\(∃xs,SqT K H1 a xs)/\R (Itt K a) H1
variable{l:Expr}{tl:TE}
def Fp(j:PE X l tl):PI X tg l (Fm X.K tl):=by
 intro pins s σ H R I h;refine thn (j pins s σ H _ I h) λv s1 r=>?_;obtain⟨x,H1,d,z,n⟩:=r;obtain⟨a,e,⟨xs,m⟩,q⟩:=n;subst e;subst z;obtain⟨its,B,p,hz⟩:=d.list m;refine m4 p.isList ?_;refine⟨s1.heap.objs.size,_,_,_,H1,rfl,d.kept λb o e=>cg _ e,Fi a _,⟨_,e6 _ rfl,rfl,rfl⟩,λb f=>?_,q⟩;have e:b=s1.heap.objs.size:=by simpa using f
 subst e;exact d.fpOk (bL _) (d.hok.fresh (bL _))
def Fq(j:PE X l tl):PI X tg l (Fo X.K tl):=by
 intro pins s σ H R I h;refine thn (j pins s σ H _ I h) λv s1 r=>?_;obtain⟨x,H1,d,z,n⟩:=r;obtain⟨a,e,⟨xs,m⟩,q⟩:=n;subst e;subst z;obtain⟨its,B,p,hz⟩:=d.tuple m;refine wpAny_pyIter_tuple (p) ?_;refine⟨s1.heap.objs.size,_,_,_,H1,rfl,d.kept λb o e=>cg _ e,Fj a _,⟨_,e6 _ rfl,rfl,rfl⟩,λb f=>?_,q⟩;have e:b=s1.heap.objs.size:=by simpa using f
 subst e;exact d.fpOk (bL _) (d.hok.fresh (bL _))
variable{tk:Nat}
def zW{R:It->Hp->Prop}{lo hi:Int}{t u v:Tok}(I:Inv X pins σ H s)(h1:-(2 ^ 62)<=lo)(h2:lo<2 ^ 62)(m:-(2 ^ 62)<=hi)(n:hi<2 ^ 62)
 (q:R (Itr lo (hi-lo).toNat) H):wpAny (model X.prog X.w) X.A (pyIter (.ref s.heap.objs.size)) (PIE X pins σ tg R) E {s with heap:=s.heap.push {cls:=.type "range",data:=.fields #[.int lo t,.int hi u,.int 1 v]},toks:=tk}:=by
 refine wpAny_pyIter_range (IsRange.new ..) (small_one h1 h2 m n) ?_
 have d:Inv X pins σ H {s with heap:=s.heap.push {cls:=.type "range",data:=.fields #[.int lo t,.int hi u,.int 1 v]},toks:=tk}:=I.kept λb o e=>cg _ e
 refine⟨(s.heap.push {cls:=.type "range",data:=.fields #[.int lo t,.int hi u,.int 1 v]}).objs.size,_,_,_,H,rfl,
  d.kept λb o e=>cg _ e,Fk _ lo (hi-lo).toNat,?_,λb p=>?_,q⟩
 .have f:lo+((0:Nat):Int)*1=lo:=by simp
  have j:(((hi-lo).toNat:Nat):Int)-((0:Nat):Int)=df.Range.rangeSize lo hi 1:=by rw[rangeSize_one];split <;> lia
  rw[f,j];exact e6 _ rfl
 .have e:b=(s.heap.push {cls:=.type "range",data:=.fields #[.int lo t,.int hi u,.int 1 v]}).objs.size:=by simpa using p
  subst e;exact d.fpOk (bL _) (d.hok.fresh (bL _))
abbrev Fs(ta:TA):TI:=λσ H R=>ta σ H λvs H1=>∃j:Int,vs=[.int j]/\-(2 ^ 62)<=j/\j<2 ^ 62/\R (Itr 0 j.toNat) H1
abbrev Ft(ta:TA):TI:=λσ H R=>ta σ H λvs H1=>∃i j:Int,vs=[.int i,.int j]/\(-(2 ^ 62)<=i/\i<2 ^ 62/\-(2 ^ 62)<=j/\j<2 ^ 62)/\R (Itr i (j-i).toNat) H1
variable{a:Expr}
def zX{ta:TA}{p pos:Pos}(n:Gl X "range")(z:X.mg "range"=ae)(m:PA X [a] ta)(B:a8 [a] X.env=[(aj,eval a X.env)]:=by rfl):PI X tg (.Call (.Name "range" p) [a] [] pos) (Fs ta):=by
 intro pins s σ H R I h;refine Call_ (ja I n z boot_range (lN (thn (m pos pins s σ H _ I h) λus s1 ⟨vs,H1,f,G,d⟩=>?_) B rfl));obtain⟨j,e,d,C,q⟩:=d;subst e
 cases G with
 |cons r J=>
  cases J;obtain⟨t,rfl⟩:=r;exact call_range_1 (zW f (by lia) (by lia) d C (by simpa using q))
def Fu{ta:TA}{p pos:Pos}(B:Gl X "range")(C:X.mg "range"=ae)(z:PA X [a,b] ta)(G:a8 [a,b] X.env=[(aj,eval a X.env),(aj,eval b X.env)]:=by rfl)(d:a8 [b] X.env=[(aj,eval b X.env)]:=by rfl):
  PI X tg (.Call (.Name "range" p) [a,b] [] pos) (Ft ta):=by
 intro pins s σ H R I h;refine Call_ (ja I B C boot_range (lN (thn (z pos pins s σ H _ I h) λus s1 ⟨vs,H1,n,Y,f⟩=>?_) (by rw[G,d]) (by rw[d];rfl)));obtain⟨i,j,e,⟨f,J,L,T⟩,q⟩:=f;subst e
 cases Y with
 |cons r m=>
  cases m with
  |cons U m=>
   cases m;obtain⟨t,rfl⟩:=r;obtain⟨t',rfl⟩:=U;exact call_range_2 (zW n f J L T q)
abbrev Fv(j:TI)(g:TG)(tb:TS):TS:=λD σ H=>j σ H λJ H1=>∃W:Nat->Nat->St->Hp->Prop,(∃m,W 0 m σ H1)/\∀i m σ H,W i m σ H ->
 (J.stop i H/\D.nx σ H)\/(J.go i H/\∃N:St->Hp->Prop,(∀σ' H',N σ' H'->∃f,f<m/\W (i+1) f σ' H')/\∀x H',J.yld i H x H'->g x σ H' λd H2=>tb {D with nx:=N,ct:=N,bk:=D.nx} d H2)
abbrev rN(fp:LAd)(h:Heap):PNS:=fp.filterMap λb=>(h.get? b).map λo=>(b,o)
variable{fp:LAd}
def rO{b:Addr}(d:b∈fp)(e:h.get? b=aa o):(b,o)∈rN fp h:=mem_filterMap.mpr ⟨b,d,by rw[e];rfl⟩
def Fw{p:Addr×Obj}(d:p∈rN fp h):p.1∈fp/\h.get? p.1=aa p.2:=by
 obtain⟨b,f,e⟩:=mem_filterMap.mp d
 cases q:h.get? b with
 |none=>rw[q]at e;nomatch e
 |some o=>
  grind
def Inv.pinned(I:Inv X pins σ H s)(f:∀b∈fp,fW X pins H b)(n:∀b∈fp,∃o,s.heap.get? b=aa o/\∀v,o.data≠.cell v):Inv X (pins++rN fp s.heap) σ H s:=
 I.pins_of λp j=>(b8.mp j).elim (λz=>I.pin p (ib _ z)) λz=>by
  obtain⟨d,e⟩:=Fw z;obtain⟨m,f1,f2,_⟩:=f p.1 d
  grind
def Inv.unpinned{f:PNS}(I:Inv X (pins++f) σ H s):Inv X pins σ H s:=I.pins_of λp d=>I.pin p (ib _ (jH _ d))
variable{iter:Expr}{body:List Stmt}{wi:TI}
def zY{tb:TS}{pos:Pos}(Y:PassesOwn (model X.prog X.w) X.A X.env X.xe)(hc:X.calm=af)(hi:PI X tg iter wi)(hg:PG X tg g)(z:PSs X body tb)
 (hs:∀x,gS iter X.env x=pure x:=by intro _;rfl):PS X (.For tg iter body [] pos) (Fv wi g tb):=by
 intro pins s σ H D I h;refine wpAny_For (thn (hi pins s σ H _ I h) λv s1 h1=>thn h1 λitv s2 h2=>?_) hs;obtain⟨it,fp,tn,J,H2,e,I2,T,h9,f2,W,⟨m0,w0⟩,turn⟩:=h2;subst e;have B:∀{H':Hp},(∀b∈fp,H' b=ae)->∀b∈fp,fW X pins H' b:=λhn b z=>⟨hn b z,(f2 b z).2⟩;refine codeAny_forLoop_any (λn s'=>∃i σ' H',Inv X pins σ' H' s'/\tn i s'.heap/\(∀b∈fp,H' b=ae)/\W i n σ' H') ?_ m0 ⟨0,σ,H2,I2,h9,λb z=>(f2 b z).1,w0⟩;rintro n s3 ⟨i,C,H3,I3,hX,U,w3⟩
 rcases turn i n C H3 w3 with⟨stop,qn⟩ |⟨go,N,hN,step⟩
 .refine oO Y (thn (T.done X rfl rfl rfl hc i pins s3 C H3 X.xe I3 (B U) hX stop) λr s4 ⟨hr,I4⟩=>?_);subst hr;exact wpAny_execs_nil ⟨C,H3,I4,qn⟩
 .refine oO Y (thn (T.item X rfl rfl rfl hc i pins s3 C H3 X.xe I3 (B U) hX go) λr s4 q_=>?_);obtain⟨u,hr,h4⟩:=q_;subst hr;refine oO Y (thn h4 λ_ s5 q_=>?_);obtain⟨x,H5,I5,r5,y5,L,fr5⟩:=q_;refine oO Y (thn (hg _ s5 C H5 x u _ (I5.pinned (B fr5) (T.obj _ _ L)) r5 (step x H5 y5)) λ_ s6 q_=>?_);obtain⟨σ6,H6,I6,q6⟩:=q_;refine oO Y (thn (z _ s6 σ6 H6 _ I6 q6) λf s7 G=>?_)
  have again:∀{j:St} {p:Hp},Inv X _ j p s7->N j p->∃m,m<n/\∃i σ' H',Inv X pins σ' H' s7/\tn i s7.heap/\(∀b∈fp,H' b=ae)/\W i m σ' H':=λ{j p} q n7=>by
   obtain⟨m',hm,w7⟩:=hN j p n7;refine⟨m',hm,i+1,j,p,q.unpinned,T.keep _ _ _ L λb z o e=>(q.pin _ (ib _ (ib _ (rO z e)))).1,λb z=>?_,w7⟩;obtain⟨o,e,d⟩:=T.obj _ _ L b z;exact(q.pin _ (ib _ (ib _ (rO z e)))).2.1
  cases f with
  |next=>obtain⟨j,p,q,n7⟩:=G;exact again q n7
  |cont=>obtain⟨j,p,q,n7⟩:=G;exact again q n7
  |brk=>obtain⟨j,p,q,G⟩:=G;exact⟨j,p,q.unpinned,G⟩
  |ret v=>obtain⟨x7,j,p,q,r7,G⟩:=G;exact⟨x7,j,p,q.unpinned,r7,G⟩
@[reducible]noncomputable def R2:=V->V->Hp->VK->Prop
abbrev OpR(X:Cx)(f:Value->Value->Sem Value)(r:R2):Prop:=
 ∀(pins:PNS) (s:aE) (σ:St) (H:Hp) (x y:V) (v u:Value) (Q:VK),Inv X pins σ H s->be x v->be y u->r x y H Q ->
  wpAny (model X.prog X.w) X.A (f v u) (EP X pins σ Q) X.xe s
abbrev UnR(X:Cx)(f:Value->Sem Value)(r:V->Hp->VK->Prop):Prop:=
 ∀(pins:PNS) (s:aE) (σ:St) (H:Hp) (x:V) (v:Value) (Q:VK),Inv X pins σ H s->be x v->r x H Q ->
  wpAny (model X.prog X.w) X.A (f v) (EP X pins σ Q) X.xe s
abbrev d7(X:Cx)(f:Value)(r:List V->Hp->VK->Prop):Prop:=
 ∀(pins:PNS) (s:aE) (σ:St) (H:Hp) (xs:List V) (us:LVa) (Q:VK),Inv X pins σ H s->a9 xs us->r xs H Q ->
  wpAny (model X.prog X.w) X.A (call f us) (EP X pins σ Q) X.xe s
abbrev Fx(X:Cx)(r:V->Hp->(Bool->Hp->Prop)->Prop):Prop:=
 ∀(pins:PNS) (s:aE) (σ:St) (H:Hp) (x:V) (v:Value) (Q:Bool->Hp->Prop),Inv X pins σ H s->be x v->r x H Q ->
  wpAny (model X.prog X.w) X.A (truthy v) (TP X pins σ Q) X.xe s
abbrev tOp(r:R2)(ta tb:TE):TE:=λσ H Q=>ta σ H λx H1=>tb σ H1 λy H2=>r x y H2 Q
abbrev tUn(r:V->Hp->VK->Prop)(ta:TE):TE:=λσ H Q=>ta σ H λx H1=>r x H1 Q
abbrev rI(C:Int->Int->Prop)(g:Int->Int->V):R2:=λx y H Q=>∃i j,x=.int i/\y=.int j/\C i j/\Q (g i j) H
abbrev rI0(g:Int->Int->V):R2:=λx y H Q=>∃i j,x=.int i/\y=.int j/\Q (g i j) H
abbrev rU(g:Int->V):V->Hp->VK->Prop:=λx H Q=>∃i,x=.int i/\Q (g i) H
variable{f:Value->Value->Sem Value}
def rP(p:PE X a ta)(q:PE X b tb){R:V->V->Hp->Prop}(I:Inv X pins σ H s)
 (h:ta σ H λx H1=>tb σ H1 λy H2=>R x y H2){Q:PRS}
 (r:∀v u s2 x y H2,Inv X pins σ H2 s2->be x v->be y u->R x y H2->wpAny (model X.prog X.w) X.A (f v u) Q X.xe s2):
  wpAny (model X.prog X.w) X.A (eval a X.env) (λv d=>wpAny (model X.prog X.w) X.A (eval b X.env) (λu j=>wpAny (model X.prog X.w) X.A (f v u) Q X.xe j) X.xe d) X.xe s:=by
 refine thn (p pins s σ H _ I h) λv s1 C=>?_;obtain⟨x,H1,m,G,z⟩:=C;exact thn (q pins s1 σ H1 _ m z) λu s2 ⟨y,H2,n,J,B⟩=>(r v u s2 x y H2 n G J B)
def rQ{pos:Pos}{d:Operator}{r:R2}(p:OpR X (eY d) r)(m:PE X a ta)(n:PE X b tb):PE X (.BinOp a d b pos) (tOp r ta tb):=by
 intro pins s σ H Q I h;exact wpAny_BinOp (rP m n I h λv u s2 x y H2 j z B q=>p pins s2 σ H2 x y v u Q j z B q)
def Fy{pos:Pos}{d:UnaryOp}{r:V->Hp->VK->Prop}(n:UnR X (unaryOp d) r)(m:PE X a ta):PE X (.UnaryOp d a pos) (tUn r ta):=by
 intro pins s σ H Q I h;exact UnaryOp_ (thn (m pins s σ H _ I h) λv s1 ⟨x,H1,j,q,p⟩=>n pins s1 σ H1 x v Q j q p)
def opI{C:Int->Int->Prop}{g:Int->Int->Int}
 (rule:∀(i j:Int) (t u:Tok) (s:aE) (Q:PRS) (E:PRS),C i j->Q (.int (g i j) s.toks) {s with toks:=s.toks+1}->wpAny (model X.prog X.w) X.A (f (.int i t) (.int j u)) Q E s):
  OpR X f (rI C λi j=>.int (g i j)):=by
 intro pins s σ H x y v u Q I m n h;obtain⟨i,j,rfl,rfl,d,q⟩:=h;obtain⟨t,rfl⟩:=m;obtain⟨t',rfl⟩:=n;exact rule i j t t' s _ _ d ⟨.int _,H,I.tok _,⟨_,rfl⟩,q⟩
def zZ{g:Int->Int->Int}
 (rule:∀(i j:Int) (t u:Tok) (s:aE) (Q:PRS) (E:PRS),Q (.int (g i j) s.toks) {s with toks:=s.toks+1}->wpAny (model X.prog X.w) X.A (f (.int i t) (.int j u)) Q E s):
  OpR X f (rI0 λi j=>.int (g i j)):=by
 intro pins s σ H x y v u Q I d m h;obtain⟨i,j,rfl,rfl,q⟩:=h;obtain⟨t,rfl⟩:=d;obtain⟨t',rfl⟩:=m;exact rule i j t t' s _ _ ⟨.int _,H,I.tok _,⟨_,rfl⟩,q⟩
def vO{g:Int->Int->Bool}
 (rule:∀(i j:Int) (t u:Tok) (s:aE) (Q:PRS) (E:PRS),Q (.bool (g i j)) s->wpAny (model X.prog X.w) X.A (f (.int i t) (.int j u)) Q E s):
  OpR X f (rI0 λi j=>.bl (g i j)):=by
 intro pins s σ H x y v u Q I d m h;obtain⟨i,j,rfl,rfl,q⟩:=h;obtain⟨t,rfl⟩:=d;obtain⟨t',rfl⟩:=m;exact rule i j t t' s _ _ ⟨.bl _,H,I,rfl,q⟩
abbrev oZ(i j:Int):Prop:=0<j/\j<1073741824
abbrev o0(i j:Int):Prop:=0<=j/\j<=1000000/\i.natAbs<2 ^ 64
abbrev o4(i j:Int):Prop:=(-(2 ^ 64)<i/\i<2 ^ 64)\/(-(2 ^ 64)<j/\j<2 ^ 64)
variable{j:Int}
def o4.ok{i:Int}(h:o4 i j):IntMulOk i j:=by
 rcases h with⟨h1,h2⟩ |⟨h1,h2⟩
 .exact .of_left (intBits_le_64 h1 h2)
 .exact .of_right (intBits_le_64 h1 h2)
def Fz:OpR X (eY .Add) (rI0 λi j=>.int (i+j)):=zZ λ_ _ _ _ _ _ _ q=>add_int q
def FA:OpR X (eY .Sub) (rI0 λi j=>.int (i-j)):=zZ λ_ _ _ _ _ _ _ q=>sub_int q
def FB:OpR X (eY .FloorDiv) (rI oZ λi j=>.int (i / j)):=opI λi j _ _ _ _ _ d q=>by
 have h1:=d.1;have h2:=d.2;exact floordiv_int (by lia) (by rw[Int.fdiv_eq_ediv_of_nonneg i (by lia)];exact q) (.inl (PyProof.noPylong_small (by lia)))
def FC:OpR X (eY .Mod) (rI (λ_ j=>0<j) λi j=>.int (i % j)):=opI λi j _ _ _ _ _ d q=>by
 exact mod_int' (by lia) (by rw[Int.fmod_eq_emod_of_nonneg i (by lia)];exact q)
def FD:OpR X (eY .Pow) (rI o0 λi j=>.int (i ^ j.toNat)):=opI λ_ _ _ _ _ _ _ d q=>pow_int_small d.1 d.2.1 d.2.2 q
def unI{f:Value->Sem Value}{g:Int->Int}
 (rule:∀(i:Int) (t:Tok) (s:aE) (Q:PRS) (E:PRS),Q (.int (g i) s.toks) {s with toks:=s.toks+1}->wpAny (model X.prog X.w) X.A (f (.int i t)) Q E s):
  UnR X f (rU λi=>.int (g i)):=by
 intro pins s σ H x v Q I d h;obtain⟨i,rfl,q⟩:=h;obtain⟨t,rfl⟩:=d;exact rule i t s _ _ ⟨.int _,H,I.tok _,⟨_,rfl⟩,q⟩
def FE:UnR X (unaryOp .USub) (rU λi=>.int (-i)):=unI λ_ _ _ _ _ q=>neg_int q
abbrev vP:V->V->Bool
 |.non,.non=>af |.non,.int _=>af |.int _,.non=>af |.non,.bl _=>af |.bl _,.non=>af |.non,.str _=>af |.str _,.non=>af
 |.int _,.int _=>af |.bl _,.bl _=>af |.str _,.str _=>af |.byt _,.byt _=>af
 |.int _,.str _=>af |.str _,.int _=>af |.bl _,.str _=>af |.str _,.bl _=>af
 | _,_=>aj
abbrev rEq:R2:=λx y H Q=>vP x y=af/\Q (.bl (decide (x=y))) H
abbrev rNe:R2:=λx y H Q=>vP x y=af/\Q (.bl (!decide (x=y))) H
def vQ{i:Int}:decide (V.int i=V.int j)=(i==j):=by
 rw[iU];simp
def rR{i j:Bool}:decide (V.bl i=V.bl j)=(i==j):=by
 rw[iU];simp
def vR{i j:Str}:decide (V.str i=V.str j)=(i==j):=by
 rw[iU];simp
def Aa{i j:Array UInt8}:decide (V.byt i=V.byt j)=(i.toList==j.toList):=by
 rw[iU];cases i;cases j;simp
variable{Q:VK}
def cH{k d:Bool}(I:Inv X pins σ H s)(q:Q (.bl k) H)(e:k=d):EP X pins σ Q (.bool d) s:=by
 subst e;exact⟨.bl k,H,I,rfl,q⟩
def FF:OpR X (dk .Eq) rEq:=by
 intro pins s σ H x y v u Q I n d h;obtain⟨m,q⟩:=h
 cases x with
 |non=>
  cases n
  cases y with
  |non=>subst d;exact PySem.EqNone.eq_none_none (cH I q (by rfl))
  |bl j=>subst d;exact PySem.EqNone.eq_none_bool (cH I q (by rfl))
  |int j=>obtain⟨t',rfl⟩:=d;exact PySem.EqNone.eq_none_int (cH I q (by rfl))
  |str j=>obtain⟨t',rfl⟩:=d;exact PySem.EqNone.eq_none_str (cH I q (by rfl))
  | _=>exact absurd (m) cy
 |bl i=>
  subst n
  cases y with
  |non=>subst d;exact PySem.EqNone.eq_bool_none (cH I q (by simp))
  |bl j=>subst d;exact eq_bool (cH I q rR)
  |str j=>obtain⟨t',rfl⟩:=d;exact PySem.EqMixed.eq_bool_str (cH I q (by simp))
  | _=>exact absurd (m) cy
 |int i=>
  obtain⟨t,rfl⟩:=n
  cases y with
  |non=>subst d;exact PySem.EqNone.eq_int_none (cH I q (by simp))
  |int j=>obtain⟨t',rfl⟩:=d;exact eq_int (cH I q vQ)
  |str j=>obtain⟨t',rfl⟩:=d;exact PySem.EqMixed.eq_int_str (cH I q (by simp))
  | _=>exact absurd (m) cy
 |str i=>
  obtain⟨t,rfl⟩:=n
  cases y with
  |non=>subst d;exact PySem.EqNone.eq_str_none (cH I q (by simp))
  |bl j=>subst d;exact PySem.EqMixed.eq_str_bool (cH I q (by simp))
  |int j=>obtain⟨t',rfl⟩:=d;exact PySem.EqMixed.eq_str_int (cH I q (by simp))
  |str j=>obtain⟨t',rfl⟩:=d;exact eq_str (cH I q vR)
  | _=>exact absurd (m) cy
 |byt i=>
  obtain⟨t,rfl⟩:=n
  cases y with
  |byt j=>obtain⟨t',rfl⟩:=d;exact W.eq_bytes (cH I q Aa)
  | _=>exact absurd (m) cy
 | _=>cases y <;> exact absurd (show aj=af from m) cy
def FG:OpR X (dk .NotEq) rNe:=by
 intro pins s σ H x y v u Q I n d h;obtain⟨m,q⟩:=h
 cases x with
 |non=>
  cases n
  cases y with
  |non=>subst d;exact PySem.EqNone.ne_none_none (cH I q (by rfl))
  |bl j=>subst d;exact PySem.EqNone.ne_none_bool (cH I q (by rfl))
  |int j=>obtain⟨t',rfl⟩:=d;exact PySem.EqNone.ne_none_int (cH I q (by rfl))
  |str j=>obtain⟨t',rfl⟩:=d;exact PySem.EqNone.ne_none_str (cH I q (by rfl))
  | _=>exact absurd (m) cy
 |bl i=>
  subst n
  cases y with
  |non=>subst d;exact PySem.EqNone.ne_bool_none (cH I q (by rfl))
  |bl j=>subst d;exact ne_bool (cH I q (congrArg not rR))
  |str j=>obtain⟨t',rfl⟩:=d;exact PySem.EqMixed.ne_bool_str (cH I q (by simp))
  | _=>exact absurd (m) cy
 |int i=>
  obtain⟨t,rfl⟩:=n
  cases y with
  |non=>subst d;exact PySem.EqNone.ne_int_none (cH I q (by simp))
  |int j=>obtain⟨t',rfl⟩:=d;exact ne_int (cH I q (congrArg not vQ))
  |str j=>obtain⟨t',rfl⟩:=d;exact PySem.EqMixed.ne_int_str (cH I q (by simp))
  | _=>exact absurd (m) cy
 |str i=>
  obtain⟨t,rfl⟩:=n
  cases y with
  |non=>subst d;exact PySem.EqNone.ne_str_none (cH I q (by simp))
  |bl j=>subst d;exact PySem.EqMixed.ne_str_bool (cH I q (by simp))
  |int j=>obtain⟨t',rfl⟩:=d;exact PySem.EqMixed.ne_str_int (cH I q (by simp))
  |str j=>obtain⟨t',rfl⟩:=d;exact ne_str (cH I q (congrArg not vR))
  | _=>exact absurd (m) cy
 |byt i=>
  obtain⟨t,rfl⟩:=n
  cases y with
  |byt j=>obtain⟨t',rfl⟩:=d;exact W.ne_bytes (cH I q (congrArg not Aa))
  | _=>exact absurd (show aj=af from m) cy
 | _=>cases y <;> exact absurd (show aj=af from m) cy
def FH:OpR X (dk .Lt) (rI0 λi j=>.bl (decide (i<j))):=vO λ_ _ _ _ _ _ _ q=>lt_int q
def FI:OpR X (dk .LtE) (rI0 λi j=>.bl (decide (i<=j))):=vO λ_ _ _ _ _ _ _ q=>le_int q
def FJ:OpR X (dk .Gt) (rI0 λi j=>.bl (decide (j<i))):=vO λ_ _ _ _ _ _ _ q=>gt_int q
def FK:OpR X (dk .Is) (λx y H Q=>y=.non/\Q (.bl (decide (x=.non))) H):=by
 intro pins s σ H x y v u Q I d m h;obtain⟨rfl,q⟩:=h;subst m;refine is_none_gen (cH I q ?_)
 cases x <;> first
  |(subst d;rfl)
  |(obtain⟨t,rfl⟩:=d;rfl)
variable{r r':R2}
def OpR.or(h:OpR X f r)(h':OpR X f r'):OpR X f (λx y H Q=>r x y H Q\/r' x y H Q):=by
 intro pins s σ H x y v u Q I d m q
 rcases q with q |q
 .exact h pins s σ H x y v u Q I d m q
 .exact h' pins s σ H x y v u Q I d m q
variable{op:CmpOp}
def FL{pos:Pos}(z:OpR X (dk op) r)(m:PE X a ta)(n:PE X b tb)(p:oU op b=aj):PE X (.Compare a [op] [b] pos) (tOp r ta tb):=by
 intro pins s σ H Q I h;exact wpAny_Compare1 (rP m n I h λv u s2 x y H2 d B C q=>z pins s2 σ H2 x y v u Q d B C q) p
abbrev FM(t:TE):TT:=λσ H Q=>t σ H λx H'=>∃k,x=.bl k/\Q k H'
def Ab{pos:Pos}(G:OpR X (dk op) r)(q:PE X a ta)(B:PE X b tb)(C:oU op b=aj):PT X (.Compare a [op] [b] pos) (FM (tOp r ta tb)):=by
 intro pins s σ H Q I h
 refine wpAny_isTrue_Compare1 (thn (q pins s σ H _ I h) λv s1 ⟨x,H1,m,U,J⟩=>thn (B pins s1 σ H1 _ m J) λu s2 ⟨y,H2,n,Y,L⟩ =>
  thn (G pins s2 σ H2 x y v u _ n U Y L) λc s3 ⟨z,d,p,r3,k,e,T⟩=>?_) C
 subst e;subst r3;exact lP ⟨d,p,T⟩
abbrev FN(r r':R2)(ta tb n:TE):TE:=λσ H Q=>ta σ H λx H1=>tb σ H1 λy H2=>r x y H2 λz d=>∃k,z=.bl k /\
 (if k=af then n σ d λp m=>r' y p m Q else Q (.bl aj) d)
variable{tc:TE}{op':CmpOp}
def FO{pos:Pos}(ho:OpR X (dk op) r)(m:OpR X (dk op') r')(T:PE X a ta)(U:PE X b tb)(Y:PE X c tc)
 (hm:lastMarks [op,op'] [b,c]=aj:=by with_unfolding_all rfl):PE X (.Compare a [op,op'] [b,c] pos) (FN r r' ta tb tc):=by
 intro pins s σ H Q I h
 refine Compare_chain (thn (T pins s σ H _ I h) λv s1 ⟨x,H1,G,r1,q1⟩=>chain_link (thn (U pins s1 σ H1 _ G q1) λu s2 ⟨y,H2,J,B,q2⟩ =>
  thn (ho pins s2 σ H2 x y v u _ J r1 B q2) λd s3 ⟨z,n,p,r3,k,e,q⟩=>?_)) hm
 subst e;subst r3;refine lP ?_
 cases k with
 |false=>exact ite_ff ⟨.bl aj,n,p,rfl,q⟩
 |true=>exact ite_tt (chain_last (thn (Y pins s3 σ n _ p q) λw' s4 ⟨z',C,L,r4,q4⟩=>m pins s4 σ C y z' u w' Q L B r4 q4))
abbrev vS(K:bA)(x:V)(H:Hp)(k:Bool):Prop:=
 match x with
 |.non=>k=aj
 |.bl b=>k=b
 |.int i=>k=(i != 0)
 |.str y=>y.length<=bn/\k=((y.length:Int) != 0)
 |.byt y=>y.size<=bn/\k=((y.size:Int) != 0)
 |.ref p=>(∃xs,SqL K H p xs/\k=!xs.isEmpty)\/(∃xs,SqT K H p xs/\k=!xs.isEmpty)\/∃kvs,H p=aa (.dK kvs)/\k=!kvs.isEmpty
 | _=>False
def FP{d:Type}{kvs:List (d×V)}{vs:List (d×Value)}(r:KV kvs vs):(!vs.isEmpty)=!kvs.isEmpty:=by
 cases r <;> rfl
variable{its:LVa}
def Ac(r:a9 xs its):(!its.toArray.isEmpty)=!xs.isEmpty:=by
 cases r <;> simp
def o5:(bn:Nat)<2 ^ 63:=by rw[cY];decide
def FQ:Fx X (λx H Q=>∃k,vS X.K x H k/\Q k H):=by
 intro pins s σ H x v Q I z h;obtain⟨k,e,q⟩:=h;have L:=cY
 cases x with
 |non=>
  subst z;have d:=e;subst d
  exact truthy_none ⟨H,I,q⟩
 |bl b=>
  subst z;have d:=e;subst d
  exact lP ⟨H,I,q⟩
 |int i=>
  obtain⟨t,rfl⟩:=z;have d:=e;subst d
  exact PySem.P.truthy_int ⟨H,I,q⟩
 |str y=>
  obtain⟨t,rfl⟩:=z;obtain⟨J,d⟩:y.length<=bn/\k=_:=e;subst d
  exact PySem.P.truthy_str (by lia) ⟨H,I.tok _,q⟩
 |byt y=>
  obtain⟨t,rfl⟩:=z;obtain⟨J,d⟩:y.size<=bn/\k=_:=e;subst d
  exact W.truthy_bytes (by lia) ⟨H,I.tok _,q⟩
 |ref p=>
  subst z;have d:=e
  rcases d with⟨xs,B,d⟩ |⟨xs,B,d⟩ |⟨kvs,B,d⟩
  .subst d;obtain⟨its,r,C,hz⟩:=I.list B;have n:=r.length;exact wpAny_truthy_list C.isList (by simp only[size_toArray];lia) ⟨H,I.tok _,by rw[Ac r];exact q⟩
  .subst d;obtain⟨its,r,C,hz⟩:=I.tuple B;have n:=r.length;exact truthy_tuple C (by simp only[size_toArray];lia) ⟨H,I.tok _,by rw[Ac r];exact q⟩
  .subst d;obtain⟨hz,G,vs,r,m⟩:kvs.length<=bn/\(p==gb)=aj/\∃vs,KV kvs vs/\s.heap.DictOf (c5 X.prog X.w) p vs:=I.hok p _ B;have n:=Paired.length r
   exact wpAny_truthy_dict G m (by lia) ⟨H,I.tok _,by rw[FP r];exact q⟩
 | _=>exact(show False from e).elim
def FR(n:PE X a ta)(p:∀d,isTrue a X.env d=(do let v <- d;standAt a.pos;gw [v] (truthy v))):
  PT X a (λσ H Q=>ta σ H λx H'=>∃k,vS X.K x H' k/\Q k H'):=by
 intro pins s σ H Q I h;exact isTrue_plain (thn (n pins s σ H _ I h) λv s1 ⟨x,H1,m,z,q⟩=>FQ pins s1 σ H1 x v Q m z q) (p _)
def FS:OpR X (eY .Add) (λx y H Q=>∃i j,x=.str i/\y=.str j/\i.length+j.length<=bn/\Q (.str (i++j)) H):=by
 intro pins s σ H x y v u Q I d m h;obtain⟨i,j,rfl,rfl,hz,q⟩:=h;obtain⟨t,rfl⟩:=d;obtain⟨t',rfl⟩:=m;exact add_str (λt' tk=>⟨.str _,H,I.tok _,⟨_,rfl⟩,q⟩) hz
abbrev Ad(b:Expr):Prop:=∀o i,oW b aj o i=operate [o,i] (jK o i)
def FT{pos:Pos}(C:PE X a ta)(G:PE X b tb)(L:Ad b):
  PE X (.Subscript a b pos) (tOp (λx y H Q=>∃z i c,x=.str z/\y=.int i/\0<=i/\i<2 ^ 63/\i<z.length/\z.cps[i.toNat]?=aa c/\Q (.str ⟨#[c]⟩) H) ta tb):=by
 intro pins s σ H Q I h;refine Subscript_ (rP C G I h λv u s2 x y H2 d T U q=>?_);obtain⟨z,i,c,rfl,rfl,p,B,h1,J,q⟩:=q;obtain⟨t,rfl⟩:=T;obtain⟨t',rfl⟩:=U
 exact tail_any (typeIs_str s2 z t) slot_str_getitem.lookup (getItem_str (by
  have m:decide (i < -(2 ^ 63:Int))=aj:=decide_eq_false (by lia);have n:decide (i≥2 ^ 63)=aj:=decide_eq_false (by lia)
  rw[m,n] <;> rfl) (by rw[(PySem.StrLaws.seqIndex_nonneg p h1)];exact J) ⟨.str ⟨#[c]⟩,H2,d.tok _,⟨_,rfl⟩,q⟩) (L _ _)
def jR{x:V}(r:a9 [x] us):∃u,us=[u]/\be x u:=by
 cases r with
 |cons d m=>cases m;exact⟨_,rfl,d⟩
def na{x:V}(r:a9 [x,y] us):∃u d,us=[u,d]/\be x u/\be y d:=by
 cases r with
 |cons m n=>
  cases n with
  |cons p q=>cases q;exact⟨_,_,rfl,m,p⟩
def i9.some_of{o:Option Value}(r:i9 (aa v) o):∃u,o=aa u/\be v u:=by
 cases o with
 |none=>exact(r).elim
 |some u=>exact⟨u,rfl,r⟩
structure cN(k:Nat)(A:cZ):Prop where
 hd:A.handled=ae
 dp:A.depth+3*k+5<recursionLimit
 un:A.units+16*k+200<cLine
def cN.mono{j k:Nat}(r:cN k A)(h:j<=k):cN j A:=⟨r.hd,by have:=r.dp;lia,by have:=r.un;lia⟩
def cN.deeper{k:Nat}(r:cN (k+1) A)(env:Env):cN k (A.deeper env):=
 ⟨r.hd,by have:=r.dp;show A.depth+1+3*k+5<_;lia,by have:=r.un;show A.units+3+16*k+200<_;lia⟩
variable{C:Addr}{kw:List (Str×Value)}
def FU:(A.under (.builtin "type.__call__" ⟨.ref C::us,kw⟩)).depth=A.depth+1:=by
 first |rfl |simp[cZ.under]
def FV:(A.under (.builtin "type.__call__" ⟨.ref C::us,kw⟩)).units=A.units+1:=by
 first |rfl |simp[cZ.under]
def cN.make{k:Nat}(r:cN (k+1) A)(C:Addr)(us:LVa)(kw:List (Str×Value)):cN k (A.under (.builtin "type.__call__" ⟨.ref C::us,kw⟩)):=
 ⟨r.hd,by have:=r.dp;rw[FU];lia,by have:=r.un;rw[FV];lia⟩
def cN.depth{k:Nat}(r:cN k A):A.depth<recursionLimit:=by have:=r.dp;lia
def cN.units{k:Nat}(r:cN k A):A.units+64<cLine:=by have:=r.un;lia
abbrev lX:TA:=λ_ H Q=>Q [] H
abbrev k7(ta:TE)(d:TA):TA:=λσ H Q=>ta σ H λx H1=>d σ H1 λxs H2=>Q (x::xs) H2
def ci:PA X [] lX:=λ_ _ _ _ H Q I h=>vw ⟨[],H,I,.nil,h⟩
def bJ{t:TA}(n:PE X e te)(p:PA X es t)(q:StE X e es:=by rfl):PA X (e::es) (k7 te t):=by
 intro pos pins s σ H Q I h;rw[q];exact lS (thn (n pins s σ H _ I h) λu s1 ⟨x,H1,d,G,z⟩=>(thn (p pos pins s1 σ H1 _ d z) λus s2 ⟨xs,H2,m,J,B⟩=>⟨x::xs,H2,m,.cons G J,B⟩))
abbrev FW(t:TA):TE:=λσ H Q=>t σ H λxs H1=>xs.length<=bn/\∀p,H1 p=ae->Q (.ref p) (upd H1 p (.tup xs))
abbrev FX(t:TA):TE:=λσ H Q=>t σ H λxs H1=>xs.length<=bn/\∀p,H1 p=ae->Q (.ref p) (upd H1 p (.lst xs))
def rS{t:TA}{pos:Pos}{x1}(h:PA X es t):PE X (.Tuple es x1 pos) (FW t):=by
 intro pins s σ H Q I m;refine wpAny_Tuple_spliced (thn (h pos pins s σ H _ I m) λus s1 ⟨xs,H1,d,r,z,q⟩=>⟨by rw[<- r.length];exact z,?_⟩);refine⟨.ref s1.heap.objs.size,upd H1 s1.heap.objs.size _,d.laid (λb u e=>cg _ e) (bL _) ?_,rfl,q _ (d.hok.fresh (bL _))⟩;exact⟨z,us,r,⟨_,e6 _ rfl,rfl,_,rfl⟩⟩
def rV{t:TA}{pos:Pos}(h:PA X es t):PE X (.List es pos) (FX t):=by
 intro pins s σ H Q I m;refine wpAny_List_spliced (thn (h pos pins s σ H _ I m) λus s1 ⟨xs,H1,d,r,z,q⟩=>⟨by rw[<- r.length];exact z,?_⟩);refine⟨.ref s1.heap.objs.size,upd H1 s1.heap.objs.size _,d.laid (λb u e=>cg _ e) (bL _) ?_,rfl,q _ (d.hok.fresh (bL _))⟩;exact⟨z,us,0,r,e6 _ rfl⟩
@[reducible]noncomputable def Sp:=List V->Hp->VK->XK->Prop
@[reducible]noncomputable def CXT:=List Env->Hp->aE->XK->PRS
structure lY(P:cS)(w:World)(K:bA)(mg:MGT)(base:Heap)(A:cZ)(outer:List Env)(s:aE)(H:Hp):Prop where
 frames:A.frames=aa outer
 mod:Mod K mg base
 bs:∀b o,base.get? b=aa o->s.heap.get? b=aa o/\H b=ae
 bsz:base.objs.size<=s.heap.objs.size
 funs:s.heap.FunFrames base outer
 frf:∀b∈frs outer,H b=ae
 hok:HOk P w H s.heap
 bare:i0 s.gens
abbrev CE(outer:List Env)(P:cS)(w:World)(H:Hp)(s:aE)(Q:VK)(u:Value)(s':aE):Prop:=
 ∃v H',s'.os=s.os/\i0 s'.gens/\Un (frs outer) [] H H' s.heap s'.heap/\HOk P w H' s'.heap/\be v u/\Q v H'
abbrev CR(CX:CXT)(outer:List Env)(P:cS)(w:World)(H:Hp)(s:aE)(Q:VK)(E:XK)(r:Result)(s':aE):Prop:=
 match r with
 |.ok (.ret u)=>CE outer P w H s Q u s'
 |.ok _=>False
 |.error e=>CX outer H s E e s'
structure eM(P:cS)(w:World)(K:bA)(mg:MGT)(base:Heap)(CX:CXT)(k:Nat)(f:Addr)(fd:fI)(ps:LSt)(sp:Sp):Prop where
 len:∀vs H Q E,sp vs H Q E->vs.length=ps.length
 run:∀(A:cZ) (outer:List Env) (s:aE) (H:Hp) (args:Args) (us:LVa) (vs:List V) (Q:VK) (E:XK),cN k A->lY P w K mg base A outer s H->BindsTo s fd args (ps.zip us)->a9 vs us->sp vs H Q E ->
  fU (model P w) A (.call (.ref f) args) (CR CX outer P w H s Q E) s
variable{mg:MGT}{base:Heap}{CX:CXT}{f:Addr}{fd:fI}{ps:LSt}{sp:Sp}
def eM.mono{j k:Nat}(F:eM P w K mg base CX j f fd ps sp)(h:j<=k):
  eM P w K mg base CX k f fd ps sp:=⟨F.len,λA outer s H args us vs Q E d=>F.run A outer s H args us vs Q E (d.mono h)⟩
def eM.imp{k:Nat}{d:Sp}(F:eM P w K mg base CX k f fd ps sp)
 (h:∀vs H Q E,d vs H Q E->sp vs H Q E):eM P w K mg base CX k f fd ps d:=
 ⟨λvs H Q E q=>F.len vs H Q E (h _ _ _ _ q),λA outer s H args us vs Q E p n m B z=>F.run A outer s H args us vs Q E p n m B (h _ _ _ _ z)⟩
variable{outer:List Env}
def lY.make(e:lY P w K mg base A outer s H)(C:Addr)(us:LVa)(kw:List (Str×Value)):
  lY P w K mg base (A.under (.builtin "type.__call__" ⟨.ref C::us,kw⟩)) outer s H:=⟨by first |exact e.frames |(simpa[cZ.under]using e.frames),e.mod,e.bs,e.bsz,e.funs,e.frf,e.hok,e.bare⟩
def Inv.env0(I:Inv X pins σ H s):lY X.prog X.w X.K X.mg X.base X.A X.stack s H:=
 ⟨I.ok.frames,I.ok.mod,I.bs,c9 I.ok.bsz I.sz,I.stack,I.stkFree,I.hok,I.bare⟩
def Inv.after(I:Inv X pins σ H s)(h:CE X.stack X.prog X.w H s Q u s'):EP X pins σ Q u s':=by
 obtain⟨v,H',os,bare,un,hok,r,q⟩:=h;obtain⟨n,g,d,t,m⟩:=s';obtain rfl:m=s.os:=os;exact⟨v,H',I.call un hok bare (λb z=>absurd z (by simp)),r,q⟩
abbrev FY(sp:Sp)(dvs:List V)(E:XK)(t:TA):TE:=λσ H Q=>t σ H λvs H1=>sp (vs++dvs) H1 Q E
abbrev lZ(K:bA)(fd:fI)(ps:LSt)(ds:LVa):Prop:=
 ∀(s:aE) (us:LVa),K.In s.heap->(us++ds).length=ps.length->BindsTo s fd ⟨us,[]⟩ (ps.zip (us++ds))
def lZ.all(h:∀us:LVa,us.length=ps.length->bindArgs fd ⟨us,[]⟩=pure (ps.zip us)):lZ K fd ps []:=λs us _ d=>by
 rw[dh]at d ⊢;exact .of_eq (h us d)
abbrev il(CX:CXT)(X:Cx)(E:XK):Prop:=∀(pins:PNS) (σ:St) (H:Hp) (s:aE) (e:Value) (s':aE),Inv X pins σ H s->CX X.stack H s E e s'->X.xe e s'
variable{ds:LVa}{E:XK}{vs:List V}
def FZ{k:Nat}{dvs:List V}(F:eM X.prog X.w X.K X.mg X.base CX k f fd ps sp)(z:cN k X.A)(p:lZ X.K fd ps ds)(hd:a9 dvs ds)(B:il CX X E)
 (I:Inv X pins σ H s)(r:a9 vs us)(h:sp (vs++dvs) H Q E):wpAny (model X.prog X.w) X.A (call (.ref f) us) (EP X pins σ Q) X.xe s:=by
 have m:=r.append hd;have q:(us++ds).length=ps.length:=by rw[<- m.length];exact F.len _ _ _ _ h
 refine wpAny_call (oV (F.run X.A X.stack s H ⟨us,[]⟩ _ _ Q E z I.env0 (p s us I.kIn q) m h) λr s' d=>?_)
 cases r with
 |error e=>exact B pins σ H s e s' I d
 |ok n=>
  cases n with
  |ret u=>exact I.after d
  |next=>exact iV d
  |brk=>exact iV d
  |cont=>exact iV d
variable{p:Pos}
def nc{k:Nat}{dvs:List V}{pos:Pos}{t:TA}(F:eM X.prog X.w X.K X.mg X.base CX k f fd ps sp)(U:cN k X.A)(J:Gl X x)(T:X.mg x=aa (.ref f))(L:W.keepIn X.K (.ref f)=af)(B:lZ X.K fd ps ds)(hd:a9 dvs ds)(Y:il CX X E)
 (z:PA X (e::es) t)(d:NDb x:=by decide)(G:StE X e es:=by rfl)(m:BkE X pos es:=by rfl):
  PE X (.Call (.Name x p) (e::es) [] pos) (FY sp dvs E t):=by
 intro pins s σ H Q I h;refine lO (rJ I J T ?_ d);exact W.callWith_K I.ok.mod.kin L (thn (z pos pins s σ H _ I h) λus s1 ⟨vs,H1,n,r,q⟩=>⟨n.kIn,(FZ F U B hd Y n r q)⟩) G m
structure bG(N P:LSt)(sc:Scope):Prop where
 kind:sc.kind=.function
 co:sc.isCoroutine=aj
 gen:sc.isGenerator=aj
 nd:N.Nodup
 pre:N.take P.length=P
 par:∀x∈P,sc.names.lookup x=aa .local\/sc.names.lookup x=aa .cell
 nofree:∀y∈sc.names,y.2≠.free
def Ae{kindOf:Str->Option fT}{x:Str}:∀{binds:List (Str×Value)} {m:MGT},(∀v,(x,v)∉binds)->bindL kindOf binds m x=m x
 | [],_,_=>rfl
 |(n,v)::r,m,h=>by
  unfold bindL;rw[Ae λw d=>h w (cE _ d)];split
  .grind
  .rfl
def Af{kindOf:Str->Option fT}{x:Str}:∀{binds:List (Str×Value)} {m:MGT},(∀v,(x,v)∉binds)->bindC kindOf binds m x=m x
 | [],_,_=>rfl
 |(n,v)::r,m,h=>by
  unfold bindC;rw[Af λw d=>h w (cE _ d)];split
  .rfl
  .grind
def Ag{kindOf:Str->Option fT}{x:Str}{v:Value}:∀{P:LSt} {vs:LVa} {i:Nat} {m:MGT},P.Nodup->P[i]?=aa x->vs[i]?=aa v->kindOf x=aa .local ->
  bindL kindOf (P.zip vs) m x=aa v
 | [],_,_,_,_,h,_,_=>by simp at h
 | _::_,[],_,_,_,_,h,_=>by simp at h
 |p::P,w::vs,0,m,nd,h1,h2,hk=>by
  simp at h1 h2;subst h1;subst h2;show bindL kindOf (_::P.zip vs) m p=_;dsimp only[bindL];rw[Ae λv d=>(nodup_cons.mp nd).1 (of_mem_zip d).1,if_pos hk]
  simp
 |p::P,w::vs,i+1,m,nd,h1,h2,hk=>by
  show bindL kindOf (_::P.zip vs) m x=_;exact Ag (nodup_cons.mp nd).2 (by simpa using h1) (by simpa using h2) hk
def Ah{kindOf:Str->Option fT}{x:Str}{v:Value}:∀{P:LSt} {vs:LVa} {i:Nat} {m:MGT},P.Nodup->P[i]?=aa x->vs[i]?=aa v->kindOf x≠aa .local ->
  bindC kindOf (P.zip vs) m x=aa v
 | [],_,_,_,_,h,_,_=>by simp at h
 | _::_,[],_,_,_,_,h,_=>by simp at h
 |p::P,w::vs,0,m,nd,h1,h2,hk=>by
  simp at h1 h2;subst h1;subst h2;show bindC kindOf (_::P.zip vs) m p=_;dsimp only[bindC];rw[Af λv d=>(nodup_cons.mp nd).1 (of_mem_zip d).1,if_neg hk]
  simp
 |p::P,w::vs,i+1,m,nd,h1,h2,hk=>by
  show bindC kindOf (_::P.zip vs) m x=_;exact Ah (nodup_cons.mp nd).2 (by simpa using h1) (by simpa using h2) hk
abbrev start(N:LSt)(vs:List V):St:=vs.map aa++iW (N.length-vs.length) ae
abbrev gD(CX:CXT)(P:cS)(w:World)(K:bA)(mg:MGT)(base:Heap)(N:LSt)(qual:Str)(scope:Scope)(f:Addr)(cd:Value)(A:cZ)(outer:List Env)(s:aE)(H:Hp)(E:XK):Cx where
 prog:=P
 w:=w
 K:=K
 mg:=mg
 base:=base
 A:=A.deeper (gt qual scope s.heap.objs.size f cd)
 N:=N
 s₀:=s
 H₀:=H
 env:=gt qual scope s.heap.objs.size f cd
 outer:=outer
 stack:=gt qual scope s.heap.objs.size f cd::outer
 ex:=[]
 calm:=af
 fn:=λ_=>af
 pn:=[]
 xe:=λe s'=>wpAny (model P w) (A.deeper (gt qual scope s.heap.objs.size f cd)) (leaving (gt qual scope s.heap.objs.size f cd) e) (λ_ s''=>CX outer H s E e s'') (λe' s''=>CX outer H s E e' s'') s'
variable{n:Nat}
def Ai{sc:Scope}(h:sc.names.lookup x=aa .cell):∃c,(cellsFrom n sc.names []).lookup x=aa c:=by
 exact Option.isSome_iff_exists.mp (W.cellsFrom_some sc.names n [] (.inl h))
variable{qual:Str}{scope:Scope}
def F0{J:Value}{s1:aE}
 (S:bG N ps scope)(hd:A.handled=ae)(d:lY P w K mg base A outer s H)(hl:vs.length=ps.length)(r:a9 vs us)
 (x:InCallC s s.heap.objs.size (bindL (gt qual scope s.heap.objs.size f J).kindOf (ps.zip us) λ_=>ae) (cellsFrom (s.heap.objs.size+1) scope.names []) (bindC (gt qual scope s.heap.objs.size f J).kindOf (ps.zip us) λ_=>ae) s1):
  Inv (gD CX P w K mg base N qual scope f J A outer s H E) [] (start N vs) H s1:=by
 have Y:ps.length<=N.length:=by have:=congrArg iX S.pre;rw[gr]at this;lia
 obtain⟨h1,tk,rfl,L⟩:=x.done;have B:∀b:Addr,b∉(gD CX P w K mg base N qual scope f J A outer s H E).ex:=λb z=>absurd (show b∈([]:LAd)from z) (by simp)
 refine⟨⟨d.mod,S.kind,rfl,rfl,bL _,λy z c h1 h2=>?_,λy m=>?_,λy c _ h=>?_,λ_=>hd,cZ.frames_deeper d.frames,.inr ⟨rfl,rfl⟩,λb z=>absurd z (B b),d.bs,d.bsz,λb _ _=>B b,λb z=>absurd z (B b),d.funs,d.frf⟩,
  rfl,d.bare,Un.kept L,⟨_,x.toInCall.ns,λi y v h1 h2 h3=>?_⟩,λy c h=>⟨_,x.cell y c h⟩,d.hok.fresh (bL _),λy c h=>?_,λp G=>absurd (show p∈([]:List _)from G) (by simp),d.hok.kept L,?_⟩
 .exact name_of_addr x.apart (oN h1) (oN h2)
 .have m:=m
  rcases m with m |m
  .exact Ai m
  .exact absurd rfl (S.nofree _ (oN m))
 .exact kR (x.above y c (oN h))
 .have hi:i<vs.length:=by
   unfold start at h2
   by_cases hi:i<vs.length
   .exact hi
   .rw[mT (by simpa using hi)]at h2;rw[u8]at h2
    split at h2 <;> nomatch h2
  have U:vs[i]?=aa v:=by
   unfold start at h2;rw[oF (by simpa using hi),fS]at h2
   cases e:vs[i]? with
   |none=>rw[e]at h2;nomatch h2
   |some a=>rw[e]at h2;cases h2;rfl
  obtain⟨u,T,rv⟩:=r.get U
  have G:ps[i]?=aa y:=by
   rw[<- S.pre,List.getElem?_take_of_lt (by lia)];exact h1
  have I:ps.Nodup:=by rw[<- S.pre];exact S.nd.sublist (take_sublist _ _)
  refine⟨u,rv,?_⟩
  rcases S.par y (qV G)with k |k
  .exact .inl ⟨k,Ag I G T k⟩
  .obtain⟨c,e⟩:=Ai k;refine .inr ⟨.inl k,c,e,?_⟩;have q:=x.cell y c e;rw[Ah I G T (by show scope.names.lookup y≠_;rw[k];decide)]at q;exact q
 .exact d.hok.fresh (kR (x.above y c (oN h)))
 .unfold start;show _=N.length;rw[bg,aG,ic]
  lia
variable{name:Str}{an od:Option Addr}{osl:Array (Option Value)}
def Aj{k:Nat}{params:Arguments}{dV kV doc pm cdv ct oc:Value}
  (lk:K.lookup f=aa ⟨oc,od,.func (W.fnOf name qual params body scope dV kV doc pm an cdv ct),osl⟩)(T:W.codeIn K cdv qual=af)(S:bG N ps scope)
 (len:∀vs H Q E,sp vs H Q E->vs.length=ps.length)
 (d:∀ (A:cZ) (outer:List Env) (s:aE) (H:Hp) (vs:List V) (Q:VK) (E:XK),cN k (A.deeper (gt qual scope s.heap.objs.size f cdv))->sp vs H Q E ->
   ∃t,PSs (gD CX P w K mg base N qual scope f cdv A outer s H E) body t/\t {nx:=λ_ H'=>Q .non H',rt:=Q} (start N vs) H):
  eM P w K mg base CX (k+1) f (W.fnOf name qual params body scope dV kV doc pm an cdv ct) ps sp:=by
 refine⟨len,λA outer s H args us vs Q E U B hb r L=>?_⟩;have KX:=B.mod.kin.keeps λb o e=>(B.bs b o e).1
 have m:∀y∈ps.zip us,scope.names.lookup y.1=aa .local\/(scope.names.lookup y.1=aa .cell/\((cellsFrom (s.heap.objs.size+1) scope.names []).lookup y.1).isSome=af):=λ⟨n,v⟩ hy=>by
  rcases S.par n (of_mem_zip hy).1 with q |q
  .exact .inl q
  .exact .inr ⟨q,W.cellsFrom_some _ _ _ (.inl q)⟩
 refine codeAny_call_function U.depth (KX _ _ lk) rfl S.co S.gen rfl (W.codeRec_of KX T) (hb _ _ _ _ ?_);refine wpAny_newFunctionEnv_cells S.kind m λenv he s1 x=>?_;subst he;refine⟨(B.mod.nolimit.keeps λb o e=>(B.bs b o e).1).keeps x.toInCall.keep,codeAny_func ?_⟩;obtain⟨t,ht,hq⟩:=d A outer s H vs Q E (U.deeper _) L;have I:Inv (gD CX P w K mg base N qual scope f cdv A outer s H E) [] _ H s1:=F0 S U.hd B (len _ _ _ _ L) r x;refine dF (ht [] s1 _ H _ I hq) (λfl s' z=>?_) λe s' z=>z
 have G:∀{σ':St} {H':Hp} {v:V} {u:Value},Inv (gD CX P w K mg base N qual scope f cdv A outer s H E) [] σ' H' s'->be v u->Q v H'->CE outer P w H s Q u s':=
  λ{σ' H' v u} J Y q=>⟨v,H',J.os,J.bare,J.base,J.hok,Y,q⟩
 cases fl with
 |ret u=>
  obtain⟨v,σ',H',J,Y,q⟩:=z
  exact G J Y q
 |next=>
  obtain⟨σ',H',J,q⟩:=z
  exact G (v:=V.non) J rfl q
 |brk=>
  obtain⟨_,_,_,q⟩:=z
  exact iV q
 |cont=>
  obtain⟨_,_,_,q⟩:=z;exact iV q
abbrev tCB(r:List V->Hp->VK->Prop)(t:TA):TE:=λσ H Q=>t σ H λvs H1=>r vs H1 Q
variable{r:List V->Hp->VK->Prop}
def ng{pos:Pos}{t:TA}{id:String}(B:d7 X (.builtin id) r)(J:Gl X x)(L:X.mg x=ae)(U:gu x=aa (.builtin id))(z:PA X (e::es) t)(T:x ≠ "__name__":=by decide)(d:NDb x:=by decide)
 (G:StE X e es:=by rfl)(m:BkE X pos es:=by rfl):PE X (.Call (.Name x p) (e::es) [] pos) (tCB r t):=by
 intro pins s σ H Q I h;exact lO (ja I J L U (zv (thn (z pos pins s σ H _ I h) λus s1 ⟨vs,H1,q,r1,Y⟩=>B pins s1 σ H1 vs us Q q r1 Y) G m) T d)
variable{T:String}
def rX{pos:Pos}{t:TA}(B:d7 X (.type T) r)(J:Gl X x)(L:X.mg x=ae)(Y:gu x=aa (.type T))(z:PA X (e::es) t)(U:x ≠ "__name__":=by decide)(d:NDb x:=by decide)
 (G:StE X e es:=by rfl)(m:BkE X pos es:=by rfl):PE X (.Call (.Name x p) (e::es) [] pos) (tCB r t):=by
 intro pins s σ H Q I h;exact lO (ja I J L Y (lN (thn (z pos pins s σ H _ I h) λus s1 ⟨vs,H1,q,r1,q1⟩=>B pins s1 σ H1 vs us Q q r1 q1) G m) U d)
end L2
namespace HT
open List
open PySem PyProof.Rows
open PySem.SeqAt
open PySem.AutoSeq1 (wpAny_loadPart')
open PySem.MeetsSeq PySem.MeetsSeq2 PySem.MeetsSeq3
variable{prog:cS}{w:World}{A:cZ}{E:PRS}{s:aE}{vs:LVa}
def cat_tup{t b:Addr}{ws:LVa}{Q:PRS}(u:IsTup s.heap t vs.toArray)(q:IsTup s.heap b ws.toArray)(l:vs≠[])
 (o:ws=[]->Q (.ref t) s)(p:ws≠[]->Q (.ref s.heap.objs.size) {s with heap:=s.heap.push {cls:=.type "tuple",data:=.seq (vs++ws).toArray}})
 (hsz:vs.length+ws.length<=bn):wpAny (model prog w) A (eY .Add (.ref t) (.ref b)) Q E s:=by
 obtain⟨⟨cls,dd,data,sl⟩,f,r,n,hd⟩:=id u;obtain⟨⟨j,c,data2,d⟩,a,h,m,i⟩:=id q;subst r hd h i;have e:vs.toArray++ws.toArray=(vs++ws).toArray:=by simp
 by_cases g:ws=[]
 .exact concat_meets ⟨_,f,rfl⟩ ⟨_,a,rfl⟩ noFill_tuple_add seq_tuple_add PySem.F.slot_tuple_add PySem.F.entry_tuple_add (PySem.F.args_tuple_add_2 _ _)
   (tuple_addW1 t b vs.toArray ws.toArray n m dd c sl d (by simpa using l) (by simp[g])) ⟨f,a,o g⟩
 .refine concat_meets ⟨_,f,rfl⟩ ⟨_,a,rfl⟩ noFill_tuple_add seq_tuple_add PySem.F.slot_tuple_add PySem.F.entry_tuple_add (PySem.F.args_tuple_add_2 _ _)
   (tuple_addW2 t b vs.toArray ws.toArray n m dd c sl d (by simpa using l) (by simpa using g) (by rw[size_toArray,size_toArray];exact hsz)) ⟨f,a,?_⟩
  rw[e];exact p g
abbrev sIx(n d:Nat):Option Int->Nat
 |none=>d
 |some v=>if v<0 then (v+(n:Int)).toNat else min v.toNat n
def sIx_nat(n d k:Nat):sIx n d (aa (k:Int))=min k n:=by rfl
def Ak(v:Int)(n d:Nat):(if v<0 then max (v+(n:Int)) 0 else min v (n:Int))=((sIx n d (aa v):Nat):Int):=by
 show _=(((if v<0 then (v+_).toNat else min v.toNat n):Nat):Int)
 grind
def F1(lo hi:Option Int)(n:Nat):zG lo hi 1 (n:Int)=(((sIx n 0 lo:Nat):Int),((sIx n n hi:Nat):Int)):=by
 refine Prod.ext ?_ ?_
 .cases lo with
  |none=>rfl
  |some v=>exact Ak v n 0
 .cases hi with
  |none=>rfl
  |some v=>exact Ak v n n
def F2(i j:Nat):vp (i:Int) (j:Int) 1=j-i:=by
 unfold vp
 split <;> lia
variable{v:Value}
def Al{o:Option Int}{Q:Option Int->aE->Prop}(p:IsPart v o)(h:Q o s):wpAny (model prog w) A (df.Slice.slicePartIndex v) Q E s:=by
 cases p with
 |none=>exact slicePart_none h
 |int i t=>exact slicePart_int h
variable{vl vu:Value}{lo hi:Option Int}{n:Nat}
def F3{sl:Addr}{Q:Int×Int×Nat->aE->Prop}(d:s.heap.IsSliceOf sl vl vu .none)(e:IsPart vl lo)(f:IsPart vu hi)
 (h:Q (((sIx n 0 lo:Nat):Int),1,sIx n n hi-sIx n 0 lo) s):wpAny (model prog w) A (df.Slice.sliceApplied (.ref sl) (pure (n:Int))) Q E s:=by
 obtain⟨os,b,c,a⟩:=id d;refine ao (ao (gv b a rfl (ao (gv b a rfl (ao (gv b a rfl (bh ?_)))))));refine ao (slicePart_none ?_);refine ao (Al e (ao (Al f (ao (bh ?_)))))
 show wpAny _ _ (match zG lo hi 1 _ with |(lo,hi)=>pure (lo,_,vp lo hi 1)) _ _ s
 rw[F1 lo hi n];show wpAny _ _ (pure _) _ _ s;rw[F2];exact bh h
def F4(xs:Array Value)(i k:Nat):((bx k).filterMap λ(m:Nat)=>xs[((i:Int)+(m:Int)*1).toNat]?).toArray=((xs.toList.drop i).take k).toArray:=by
 have e:(λ(m:Nat)=>xs[(i+(m:Int)*1).toNat]?)=λm=>xs[i+m]?:=by
  funext m;have:(i+(m:Int)*1).toNat=i+m:=by lia
  rw[this]
 rw[e];have:=pick_run xs i k;rw[filterMap_map]at this;have a:(_ ∘ λx=>i+x)=λm=>xs[i+m]?:=rfl;rw[a]at this;rw[this]
variable{Q:PRS}
def getItem_tuple_cut{t sl:Addr}{items:Array Value}(b:IsTup s.heap t items)(g:s.heap.IsSliceOf sl vl vu .none)(l:IsPart vl lo)(m:IsPart vu hi)
 (j:¬(sIx items.size 0 lo=0/\sIx items.size items.size hi=items.size))
 (h:Q (.ref s.heap.objs.size) {s with heap:=s.heap.push {cls:=.type "tuple",data:=.seq ((items.toList.drop (sIx items.size 0 lo)).take (sIx items.size items.size hi-sIx items.size 0 lo)).toArray}})
 (hsz:items.size<=bn):wpAny (model prog w) A (jK (.ref t) (.ref sl)) Q E s:=by
 have a:sizeOk (.seq ((items.toList.drop (sIx items.size 0 lo)).take (sIx items.size items.size hi-sIx items.size 0 lo)).toArray):=by
  show((items.toList.drop _).take _).toArray.size<=bn;simp only[size_toArray,gr,ie,qK];lia
 obtain⟨os,f,d,i⟩:=id g;have c:s.TypeIs (.ref sl) "slice":=⟨os,f,d⟩;unfold jK
 try with_reducible refine dP ?_
 first |refine ao _ |skip
 refine ao (wpAny_sequenceKey b.typeIs (rfl) ?_)
 refine ao (vh b.typeIs vf
  (wpAny_call_entry vf b.typeIs entry_tuple_getitem ?_ (args_tuple_getitem _ _)))
 show wpAny _ _ (df.Tuple.tupleItemsOf _ >>= _) _ _ s;refine ao (tupleItemsOf_ b ?_);refine ao (lQ c ?_);refine ao (F3 g l m ?_)
 have e:¬((((sIx items.size 0 lo:Nat):Int)==0 && (1:Int)==1 && (sIx items.size items.size hi-sIx items.size 0 lo)==items.size)=af):=by
  intro q;exact j ⟨by lia,by lia⟩
 show wpAny _ _ (if _=af then _ else _) _ _ s;rw[if_neg e,F4]
 first
  |exact ao _
  |exact ao (wpAny_newObj_type (ao (bh (bh ⟨_,rfl,bh h⟩))) a)
  |exact ao _
  |exact ao _
end HT
namespace L2
open List
open PySem PySem.Spec PyProof.Rows
@[reducible]noncomputable def TO:=St->Hp->(Option Int->Hp->Prop)->Prop
abbrev PO(X:Cx)(e:Option Expr)(t:TO):Prop:=
 ∀(pins:PNS) (s:aE) (σ:St) (H:Hp) (Q:Option Int->Hp->Prop),Inv X pins σ H s->t σ H Q ->
  wpAny (model X.prog X.w) X.A (evalPart e X.env) (λu s'=>∃o H',Inv X pins σ H' s'/\IsPart u o/\Q o H') X.xe s
abbrev F5:TO:=λ_ H Q=>Q ae H
abbrev F6(t:TE):TO:=λσ H Q=>t σ H λx a=>∃i,x=.int i/\Q (aa i) a
variable{X:Cx}
def F7:PO X ae F5:=by
 intro pins s σ H Q I h;exact bh ⟨ae,H,I,.none,h⟩
variable{e:Expr}{te:TE}
def F8(h:PE X e te):PO X (aa e) (F6 te):=by
 intro pins s σ H Q I c;refine thn (h pins s σ H _ I c) λu s1 f=>?_;obtain⟨x,a,b,g,d⟩:=f;obtain⟨i,rfl,q⟩:=d;obtain⟨t,rfl⟩:=g;exact⟨aa i,a,b,.int i t,q⟩
variable{lo hi:Option Expr}
abbrev SlR(X:Cx)(r:V->Option Int->Option Int->Hp->VK->Prop):Prop:=
 ∀(pins:PNS) (s:aE) (σ:St) (H:Hp) (x:V) (v a b:Value) (lo hi:Option Int) (sl:Addr) (Q:VK),Inv X pins σ H s->be x v->s.heap.IsSliceOf sl a b .none->IsPart a lo->IsPart b hi->r x lo hi H Q ->
  ∃T id,m6 (.type T) "__getitem__"=pure (aa (.builtin id))/\s.TypeIs v T/\wpAny (model X.prog X.w) X.A (jK v (.ref sl)) (EP X pins σ Q) X.xe s
variable{r:V->Option Int->Option Int->Hp->VK->Prop}
def SlR.or{d:V->Option Int->Option Int->Hp->VK->Prop}(h:SlR X r)(h':SlR X d):SlR X (λx lo hi H Q=>r x lo hi H Q\/d x lo hi H Q):=by
 intro pins s σ H x v g i lo hi sl Q I f a b c q
 rcases q with q |q
 .exact h pins s σ H x v g i lo hi sl Q I f a b c q
 .exact h' pins s σ H x v g i lo hi sl Q I f a b c q
abbrev tSl(r:V->Option Int->Option Int->Hp->VK->Prop)(te:TE)(f d:TO):TE:=λσ H Q=>te σ H λx a=>f σ a λl b=>d σ b λu c=>r x l u c Q
variable{tl th:TO}{p2:Pos}
def vT{pos:Pos}(B:SlR X r)(y:PE X e te)(A:PO X lo tl)(E:PO X hi th):PE X (.Subscript e (.Slice lo hi ae p2) pos) (tSl r te tl th):=by
 intro pins s σ H Q I h;refine Subscript_ (thn (y pins s σ H _ I h) λv s1 c=>?_);obtain⟨x,i,m,U,L⟩:=c;refine wpAny_Slice (thn (A pins s1 σ i _ m L) λd s2 ⟨l,j,n,G,M⟩=>thn (E pins s2 σ j _ n M) λf a c=>?_);obtain⟨u,g,o,J,N⟩:=c;refine bh ?_
 have p:Inv X pins σ g {a with heap:=a.heap.push {cls:=.type "slice",data:=.fields #[d,f,.none]}}:=o.kept λb Y q=>cg _ q
 obtain⟨T,id,w,C,z⟩:=B pins {a with heap:=a.heap.push {cls:=.type "slice",data:=.fields #[d,f,.none]}} σ g x v d f l u a.heap.objs.size Q p U (Heap.IsSliceOf.new ..) G J N
 exact tail_any C w z (by with_unfolding_all rfl)
abbrev l5(xs:List V)(lo hi:Option Int):List V:=(xs.drop (HT.sIx xs.length 0 lo)).take (HT.sIx xs.length xs.length hi-HT.sIx xs.length 0 lo)
def Am(xs:List V)(lo hi:Option Int):(l5 xs lo hi).length<=xs.length:=by
 unfold l5;rw[gr,ie]
 lia
abbrev F9(K:bA):V->Option Int->Option Int->Hp->VK->Prop:=λx lo hi H Q=>∃a xs,x=.ref a/\SqT K H a xs /\
 ¬(HT.sIx xs.length 0 lo=0/\HT.sIx xs.length xs.length hi=xs.length)/\∀p,H p=ae->Q (.ref p) (upd H p (.tup (l5 xs lo hi)))
def Ga:SlR X (F9 X.K):=by
 intro pins s σ H x v o p lo hi sl Q I m f j l h;obtain⟨a,xs,rfl,i,g,q⟩:=h;subst m;obtain⟨its,r,d,hz⟩:=I.tuple i;have c:its.toArray.size=xs.length:=by rw[size_toArray];exact r.length.symm
 refine⟨"tuple",_,vf.lookup,d.typeIs,?_⟩;refine HT.getItem_tuple_cut d f j l (by rw[c];exact g) ?_ (by rw[c];exact hz);rw[c];refine⟨.ref s.heap.objs.size,_,I.laid (λb n q=>cg _ q) (bL _) ?_,rfl,q _ (I.hok.fresh (bL _))⟩;exact⟨c9 (Am xs lo hi) hz,_,(r.drop _).take _,IsTup.new _ _⟩
abbrev Gb(K:bA):R2:=λx y H Q=>∃a b xs c,x=.ref a/\y=.ref b/\SqT K H a xs/\SqT K H b c/\xs≠[]/\xs.length+c.length<=bn /\
 (c=[]->Q (.ref a) H)/\(c≠[]->∀p,H p=ae->Q (.ref p) (upd H p (.tup (xs++c))))
variable{xs:List V}{us:LVa}
def a9.nil_iff(r:a9 xs us):us=[]↔xs=[]:=by
 cases r with
 |nil=>simp
 |cons _ _=>simp
def Gd:OpR X (eY .Add) (Gb X.K):=by
 intro pins s σ H x y v u Q I o p h;obtain⟨a,b,xs,B,rfl,rfl,g,i,j,hz,m,n⟩:=h;subst o;subst p;obtain⟨its,d,l,_⟩:=I.tuple g;obtain⟨f,c,p2,_⟩:=I.tuple i;refine HT.cat_tup l p2 (λz=>j (d.nil_iff.mp z)) (λz=>⟨.ref a,H,I,rfl,m (c.nil_iff.mp z)⟩) (λz=>?_) (by rw[<- d.length,<- c.length];exact hz);refine⟨.ref s.heap.objs.size,_,I.laid (λb A q=>cg _ q) (bL _) ?_,rfl,n (λw=>z (c.nil_iff.mpr w)) _ (I.hok.fresh (bL _))⟩;exact⟨by rw[bg];exact hz,_,d.append c,IsTup.new _ _⟩
abbrev ixN(n:Nat)(i:Int):Option Nat:=if 0<=i then (if i<n then aa i.toNat else ae) else if -(n:Int)<=i then aa (i+n).toNat else ae
abbrev atI{a:Type}(xs:List a)(i:Int):Option a:=(ixN xs.length i).bind λj=>xs[j]?
variable{n j:Nat}{i:Int}
def An(h:ixN n i=aa j):seqIndex? i n=aa j/\j<n/\-(n:Int)<=i/\i<n:=by
 unfold ixN at h
 by_cases b:0<=i
 .rw[if_pos b]at h
  by_cases a:i<n
  .rw[if_pos a]at h;have e:=cu h;exact⟨by rw[seqIndex_of b a,e],by lia,by lia,a⟩
  .rw[if_neg a]at h;nomatch h
 .rw[if_neg b]at h
  by_cases a:-n<=i
  .rw[if_pos a]at h;have e:=cu h;exact⟨by rw[seqIndex_neg (by lia) a,e],by lia,a,by lia⟩
  .rw[if_neg a]at h;nomatch h
def Ao{a:Type}{xs:List a}{v:a}(h:atI xs i=aa v):∃j,seqIndex? i xs.length=aa j/\xs[j]?=aa v/\j<xs.length/\-(xs.length:Int)<=i/\i<xs.length:=by
 unfold atI at h
 cases e:ixN xs.length i with
 |none=>rw[e]at h;nomatch h
 |some j=>
  rw[e]at h;obtain⟨b,c,d,f⟩:=An e;exact⟨j,b,h,c,d,f⟩
abbrev vU(b:Expr):Prop:=∀o i,oW b aj o i=operate [o,i] (jK o i)
abbrev IxR(X:Cx)(r:R2):Prop:=
 ∀(value slice:Expr) (pins:PNS) (s:aE) (σ:St) (H:Hp) (x y:V) (v u:Value) (Q:VK),Inv X pins σ H s->be x v->be y u->r x y H Q ->
  oW slice aj v u=operate [v,u] (jK v u)->wpAny (model X.prog X.w) X.A (subscriptTail value slice v u) (EP X pins σ Q) X.xe s
abbrev MtR(X:Cx)(id:String)(r:V->List V->Hp->VK->Prop):Prop:=
 ∀(pins:PNS) (s:aE) (σ:St) (H:Hp) (x:V) (xs:List V) (v:Value) (us:LVa) (Q:VK),Inv X pins σ H s->be x v->a9 xs us->r x xs H Q ->
  wpAny (model X.prog X.w) X.A (call (.builtin id) (v::us)) (EP X pins σ Q) X.xe s
def IxR.or{r b:R2}(h:IxR X r)(h':IxR X b):IxR X (λx y H Q=>r x y H Q\/b x y H Q):=by
 intro value slice pins s σ H x y v u Q I c d q a
 rcases q with q |q
 .exact h value slice pins s σ H x y v u Q I c d q a
 .exact h' value slice pins s σ H x y v u Q I c d q a
def MtR.or{id:String}{r a:V->List V->Hp->VK->Prop}(h:MtR X id r)(h':MtR X id a):MtR X id (λx xs H Q=>r x xs H Q\/a x xs H Q):=by
 intro pins s σ H x xs v us Q I b rs q
 rcases q with q |q
 .exact h pins s σ H x xs v us Q I b rs q
 .exact h' pins s σ H x xs v us Q I b rs q
variable{a b:Expr}{ta tb:TE}
def Ap{pos:Pos}{r:R2}(l:IxR X r)(f:PE X a ta)(g:PE X b tb)(m:vU b):PE X (.Subscript a b pos) (tOp r ta tb):=by
 intro pins s σ H Q I h;exact Subscript_ (rP f g I h λv u s2 x y c d o p q=>l a b pins s2 σ c x y v u Q d o p q (m _ _))
abbrev Ge(K:bA):R2:=λx y H Q=>∃p xs i v,x=.ref p/\y=.int i/\SqL K H p xs/\atI xs i=aa v/\Q v H
abbrev Gf(K:bA):R2:=λx y H Q=>∃p xs i v,x=.ref p/\y=.int i/\SqT K H p xs/\atI xs i=aa v/\Q v H
def Aq:IxR X (Ge X.K):=by
 intro value slice pins s σ H x y v u Q I M N h A;obtain⟨p,xs,i,z,rfl,rfl,L,G,q⟩:=h;subst M;obtain⟨t,rfl⟩:=N;obtain⟨its,r,g,hz⟩:=I.list L;obtain⟨j,d,B,T,C,E⟩:=Ao G;obtain⟨w,m,l⟩:=r.get B;have J:=r.length;have U:=o5;have c:EP X pins σ Q w s:=⟨z,H,I,l,q⟩
 by_cases o:0<=i
 .have f:i.toNat=j:=by
   rw[seqIndex_of o E]at d;exact cu d
  exact item_listR g.isList o (by lia) (by rw[f];simpa using m) c A
 .have f:(i+its.toArray.size).toNat=j:=by
   rw[seqIndex_neg (by lia) C]at d;rw[size_toArray,<- J];exact cu d
  exact subscriptTail_builtinR g.isList.typeIs slot_list_getitem.lookup
   (wpAny_getItem_list_neg g.isList (by lia) (by rw[size_toArray] <;> lia) (by lia) (by rw[f];simpa using m) ⟨rfl,c⟩) A
def At:IxR X (Gf X.K):=by
 intro value slice pins s σ H x y v u Q I C E h B;obtain⟨p,xs,i,z,rfl,rfl,A,o,q⟩:=h;subst C;obtain⟨t,rfl⟩:=E;obtain⟨its,r,f,hz⟩:=I.tuple A;obtain⟨j,l,m,G,J,L⟩:=Ao o;obtain⟨w,g,d⟩:=r.get m;have M:=o5;have c:EP X pins σ Q w s:=⟨z,H,I,d,q⟩
 exact subscriptTail_builtinR f.typeIs slot_tuple_getitem.lookup
  (getItem_tuple f (by lia) (by lia) (by rw[size_toArray,<- r.length];exact l) (by simpa using g) ⟨rfl,c⟩) B
def Gg(its:LVa)(n j:Nat)(u:Value):gA (·.setIfInBounds j u) {cls:=.type "list",data:=.seq its.toArray n}={cls:=.type "list",data:=.seq (its.set j u).toArray n}:=by
 simp[gA]
variable{pins:PNS}{σ:St}{H:Hp}{s:aE}{p:Addr}
def Inv.lst(I:Inv X pins σ H s)(h:H p=aa (.lst xs)):
  ∃(its:LVa) (n:Nat),a9 xs its/\s.heap.get? p=aa {cls:=.type "list",data:=.seq its.toArray n}/\xs.length<=bn:=by
 obtain⟨z,its,n,r,e⟩:=I.hok p _ h;exact⟨its,n,r,e,z⟩
variable{ys:List V}{its eU:LVa}{n':Nat}
def Inv.lstUpd{f:Obj->Obj}(I:Inv X pins σ H s)(h:H p=aa (.lst xs))
 (g:s.heap.get? p=aa {cls:=.type "list",data:=.seq its.toArray n})(c:f {cls:=.type "list",data:=.seq its.toArray n}={cls:=.type "list",data:=.seq eU.toArray n'})(r:a9 ys eU)(hz:ys.length<=bn)(t:Nat):
  Inv X pins σ (upd H p (.lst ys)) {s with heap:=s.heap.update p f,toks:=t}:=by
 have e:(s.heap.update p f).get? p=aa {cls:=.type "list",data:=.seq eU.toArray n'}:=by
  rw[m7 f g (by rw[c] <;> rfl),c]
 exact I.write (by rw[h];trivial) (.inl rfl) (λb u d q=>(jL _ _ (cq d)).trans q) ⟨_,e⟩ ⟨hz,eU,n',r,e⟩
abbrev vV:V->V->V->Hp->(Hp->Prop)->Prop:=λo i v H Q=>∃p xs k j,o=.ref p/\i=.int k/\H p=aa (.lst xs)/\ixN xs.length k=aa j/\Q (upd H p (.lst (xs.set j v)))
def Au:zT X vV:=by
 intro pins s σ H o i v ov J u Q I B A C h;obtain⟨p,xs,k,j,rfl,rfl,y,z,q⟩:=h;subst B;obtain⟨t,rfl⟩:=A;obtain⟨its,n,r,g,hz⟩:=I.lst y;obtain⟨c,E,w,x⟩:=An z;have f:=r.length;have G:=o5
 have l:Inv X pins σ _ {s with heap:=s.heap.update p _}:=
  I.lstUpd y g (Gg its n j u) (r.set C j) (by rw[length_set];exact hz) s.toks
 by_cases m:0<=k
 .have d:k.toNat=j:=by
   rw[seqIndex_of m x]at c;exact cu c
  exact W.ki_setAt g m (by lia) (by rw[size_toArray,<- f];exact x) (by rw[d];exact⟨_,l,q⟩)
 .have d:(k+its.toArray.size).toNat=j:=by
   rw[seqIndex_neg (by lia) w]at c;rw[size_toArray,<- f];exact cu c
  exact W.ki_setBack g (by lia) (by rw[size_toArray,<- f];exact w) (by lia) (by rw[d];exact⟨_,l,q⟩)
def Gh(lo hi:Option Int)(n:Nat):(lR lo hi ae n).1=((HT.sIx n 0 lo:Nat):Int)/\(lR lo hi ae n).2.1=((HT.sIx n n hi:Nat):Int)/\(lR lo hi ae n).2.2=1:=by
 refine⟨?_,?_,rfl⟩
 .cases lo with
  |none=>simp[lR,HT.sIx]
  |some i=>
   simp only[lR,HT.sIx,Option.getD_none]
   grind
 .cases hi with
  |none=>simp[lR,HT.sIx]
  |some i=>
   simp only[lR,HT.sIx,Option.getD_none]
   grind
def Gi(its:LVa)(lo hi:Option Int):slicePick its.toArray lo hi ae=((its.drop (HT.sIx its.length 0 lo)).take (HT.sIx its.length its.length hi-HT.sIx its.length 0 lo)).toArray:=by
 obtain⟨c,d,f⟩:=Gh lo hi its.toArray.size;unfold slicePick;rw[c,d,f]
 simp only[sliceRange_one,pick_run] <;> rfl
abbrev Gj(K:bA):V->Option Int->Option Int->Hp->VK->Prop:=λx lo hi H Q=>∃a xs,x=.ref a/\SqL K H a xs/\∀p,H p=ae->Q (.ref p) (upd H p (.lst (l5 xs lo hi)))
def Gk:SlR X (Gj X.K):=by
 intro pins s σ H x v w y lo hi sl Q I o f l m h;obtain⟨a,xs,rfl,g,q⟩:=h;subst o;obtain⟨its,r,d,hz⟩:=I.list g;have c:=r.length;refine⟨"list",_,slot_list_getitem.lookup,d.isList.typeIs,?_⟩;refine wpAny_getItem_list_slice d.isList f l m .none (by simp) ?_ (by grind);rw[Gi,<- c];refine⟨.ref s.heap.objs.size,_,I.laid (λb u q=>cg _ q) (bL _) ?_,rfl,q _ (I.hok.fresh (bL _))⟩;exact⟨c9 (Am xs lo hi) hz,_,0,(r.drop _).take _,e6 _ rfl⟩
abbrev fL:V->Bool
 |.non=>af
 |.bl _=>af
 |.int _=>af
 |.str _=>af
 | _=>aj
abbrev eqV:V->V->Bool
 |.non,.non=>af
 |.bl a,.bl b=>a==b
 |.bl a,.int b=>(if a then 1 else 0)==b
 |.int a,.bl b=>a==(if b then 1 else 0)
 |.int a,.int b=>a==b
 |.str a,.str b=>a==b
 | _,_=>aj
variable{y x:V}{u v:Value}
def Av{A:cZ}(d:be y u)(c:be x v)(f:fL y=af)(fx:fL x=af):dm A s u v (eqV y x):=by
 cases y with
 |non=>
  cases d
  cases x with
  |non=>subst c;exact vH _
  |bl b=>subst c;exact dm.none_bool b
  |int b=>obtain⟨t,rfl⟩:=c;exact dm.none_int b t
  |str b=>obtain⟨t,rfl⟩:=c;exact dm.none_str b t
  | _=>exact absurd (fx) cy
 |bl a=>
  subst d
  cases x with
  |non=>subst c;exact dm.bool_none a
  |bl b=>subst c;exact dm.bool_bool a b
  |int b=>obtain⟨t,rfl⟩:=c;exact dm.bool_int a b t
  |str b=>obtain⟨t,rfl⟩:=c;exact dm.bool_str a b t
  | _=>exact absurd (fx) cy
 |int a=>
  obtain⟨t',rfl⟩:=d
  cases x with
  |non=>subst c;exact dm.int_none a t'
  |bl b=>subst c;exact dm.int_bool a t' b
  |int b=>obtain⟨t,rfl⟩:=c;exact dm.int_int a t' b t
  |str b=>obtain⟨t,rfl⟩:=c;exact dm.int_str a t' b t
  | _=>exact absurd (fx) cy
 |str a=>
  obtain⟨t',rfl⟩:=d
  cases x with
  |non=>subst c;exact dm.str_none a t'
  |bl b=>subst c;exact dm.str_bool a t' b
  |int b=>obtain⟨t,rfl⟩:=c;exact dm.str_int a t' b t
  |str b=>obtain⟨t,rfl⟩:=c;exact dm.str_str a t' b t
  | _=>exact absurd (fx) cy
 | _=>exact absurd (f) cy
abbrev eqU(x:V)(u:Value):Bool:=match u with
 |.none=>eqV .non x
 |.bool b=>eqV (.bl b) x
 |.int i _=>eqV (.int i) x
 |.str z _=>eqV (.str z) x
 | _=>aj
def Aw(r:be y u)(f:fL y=af):eqU x u=eqV y x:=by
 cases y with
 |non=>subst r;rfl
 |bl b=>subst r;rfl
 |int i=>obtain⟨t,rfl⟩:=r;rfl
 |str z=>obtain⟨t,rfl⟩:=r;rfl
 | _=>exact absurd (f) cy
def o6{x:V}:∀{xs:List V} {us:LVa},a9 xs us->xs.all fL=af->us.any (eqU x)=xs.any λy=>eqV y x
 | _,_,.nil,_=>rfl
 |y::xs,u::us,.cons r t,f=>by
  rw[all_cons,dy]at f;rw[gR,gR,Aw r f.1,o6 t f.2]
def o7{A:cZ}{s:aE}{x:V}{v:Value}(d:be x v)(fx:fL x=af):∀{xs:List V} {us:LVa},a9 xs us->xs.all fL=af->∀u∈us,dm A s u v (eqU x u)
 | _,_,.nil,_=>λu c=>by nomatch c
 |y::xs,u::us,.cons r t,f=>λg c=>by
  simp only[all_cons,dy]at f
  rcases bM.mp c with rfl |c
  .rw[Aw r f.1];exact Av r d f.1 fx
  .exact o7 d fx t f.2 g c
abbrev inV(x:V)(xs:List V):Bool:=xs.any λy=>eqV y x
abbrev rIn(K:bA)(neg:Bool):R2:=λx y H Q=>∃p xs,y=.ref p/\(SqL K H p xs\/SqT K H p xs)/\fL x=af/\xs.all fL=af/\Q (.bl (if neg then !inV x xs else inV x xs)) H
def Gm:OpR X (dk .In) (rIn X.K aj):=by
 intro pins s σ H x y v u Q I g l h;obtain⟨p,xs,rfl,c,fx,fs,q⟩:=h;subst l
 rcases c with c |c
 .obtain⟨its,r,f,hz⟩:=I.list c;refine SeqAt.in_listAt _ f.isList (λw d=>o7 g fx r fs w (by simpa using d)) ⟨.bl _,H,I,rfl,?_⟩;rw[show its.toArray.any _=its.any (eqU x) by simp,o6 r fs];exact q
 .obtain⟨its,r,f,hz⟩:=I.tuple c;refine SeqAt.in_tupleAt _ f (λw d=>o7 g fx r fs w (by simpa using d)) ⟨.bl _,H,I,rfl,?_⟩;rw[show its.toArray.any _=its.any (eqU x) by simp,o6 r fs];exact q
def Gn:OpR X (dk .NotIn) (rIn X.K af):=by
 intro pins s σ H x y v u Q I g l h;obtain⟨p,xs,rfl,c,fx,fs,q⟩:=h;subst l
 rcases c with c |c
 .obtain⟨its,r,f,hz⟩:=I.list c;refine SeqAt.notIn_listAt _ f.isList (λw d=>o7 g fx r fs w (by simpa using d)) ⟨.bl _,H,I,rfl,?_⟩;rw[show its.toArray.any _=its.any (eqU x) by simp,o6 r fs];exact q
 .obtain⟨its,r,f,hz⟩:=I.tuple c;refine SeqAt.notIn_tupleAt _ f (λw d=>o7 g fx r fs w (by simpa using d)) ⟨.bl _,H,I,rfl,?_⟩;rw[show its.toArray.any _=its.any (eqU x) by simp,o6 r fs];exact q
def Go:d7 X (.builtin "len") (λxs H Q=>∃p ys,xs=[.ref p]/\(SqL X.K H p ys\/SqT X.K H p ys)/\Q (.int ys.length) H):=by
 intro pins s σ H xs us Q I r h;obtain⟨p,ys,rfl,d,q⟩:=h;obtain⟨u,rfl,l⟩:=jR r;subst l;have m:=o5
 rcases d with d |d
 .obtain⟨its,g,f,hz⟩:=I.list d;have c:=g.length;exact Calls.call_len_list f.isList (by grind) ⟨.int ys.length,H,I.tok _,⟨s.toks+1,by rw[size_toArray,c]⟩,q⟩
 .obtain⟨its,g,f,hz⟩:=I.tuple d;have c:=g.length;exact len_tuple f (by grind) ⟨.int ys.length,H,I.tok _,⟨s.toks+1,by rw[size_toArray,c]⟩,q⟩
def Gp:d7 X (.builtin "len") (λxs H Q=>∃z,xs=[.str z]/\z.length<=bn/\Q (.int z.length) H):=by
 intro pins s σ H xs us Q I r h;obtain⟨z,rfl,hz,q⟩:=h;obtain⟨u,rfl,t,rfl⟩:=jR r;have c:=o5;exact len_str (by lia) ⟨.int z.length,H,I.tok _,⟨_,rfl⟩,q⟩
def d7.or{f:Value}{r c:List V->Hp->VK->Prop}(h:d7 X f r)(h':d7 X f c):d7 X f (λxs H Q=>r xs H Q\/c xs H Q):=by
 intro pins s σ H xs us Q I rs q
 rcases q with q |q
 .exact h pins s σ H xs us Q I rs q
 .exact h' pins s σ H xs us Q I rs q
def Gq:d7 X (.type "list") (λxs H Q=>∃p ys,xs=[.ref p]/\(SqL X.K H p ys\/SqT X.K H p ys)/\∀l,H l=ae->Q (.ref l) (upd H l (.lst ys))):=by
 intro pins s σ H xs us Q I r h;obtain⟨p,ys,rfl,m,q⟩:=h;obtain⟨u,rfl,C⟩:=jR r;subst C
 have f:∀its,a9 ys its->ys.length<=bn->∀h' c,_ ->
   h'.get? s.heap.objs.size=aa {cls:=.type "list",dict:=ae,data:=.seq its.toArray c,slots:=#[]}->EP X pins σ Q _ {s with heap:=h'}:=λits d hz h' c kp e=>
  ⟨.ref s.heap.objs.size,_,I.laid kp (bL _) (show eJ X.prog X.w _ h' _ (.lst ys)from⟨hz,its,c,d,e⟩),rfl,q _ (I.hok.fresh (bL _))⟩
 rcases m with m |m
 .obtain⟨its,d,B,hz⟩:=I.list m;have g:=d.length;obtain⟨o,A,z,n,hd⟩:=B.isList;exact call_list_seq p (.inl rfl) A z hd (λh' c kp e=>f its d hz h' c kp e) (by grind)
 .obtain⟨its,d,B,hz⟩:=I.tuple m;have g:=d.length;obtain⟨o,A,z,n,hd⟩:=B;exact call_list_seq p (.inr rfl) A z hd (λh' c kp e=>f its d hz h' c kp e) (by grind)
abbrev tyV(K:bA)(T:String)(x:V)(H:Hp):Prop:=match x with
 |.str _=>T="str"
 |.int _=>T="int"
 |.ref p=>(T="list" /\ ∃xs,SqL K H p xs)\/(T="tuple" /\ ∃o,K.lookup p=aa o/\o.cls=.type "tuple" /\ o.dict=ae) \/
   (T="dict" /\ ((∃kvs,H p=aa (.dK kvs))\/∃kvs,H p=aa (.dT kvs)))\/(T="set" /\ ∃S n,H p=aa (.set S n))
 | _=>False
variable{T:String}
def Gr(I:Inv X pins σ H s)(r:be x v)(ty:tyV X.K T x H):
  s.TypeIs v T/\∀a,v=.ref a->∃g,s.heap.get? a=aa g/\g.dict=ae:=by
 cases x with
 |str z=>
  obtain⟨t,rfl⟩:=r;cases (ty)
  exact⟨typeIs_str s z t,λ_ e=>nomatch e⟩
 |int i=>
  obtain⟨t,rfl⟩:=r;cases (ty)
  exact⟨typeIs_int s i t,λ_ e=>nomatch e⟩
 |ref p=>
  subst r
  rcases ty with⟨rfl,xs,m⟩ |⟨rfl,o,d,l,hd⟩ |⟨rfl,d⟩ |⟨rfl,S,n,d⟩
  .obtain⟨its,_,h,_⟩:=I.list m;refine⟨h.isList.typeIs,λa e=>?_⟩;cases e;obtain⟨o,n,e,c,hd,_⟩:=h;exact⟨o,e,hd⟩
  .refine⟨⟨o,I.kIn p o d,l⟩,λa e=>?_⟩;cases e;exact⟨o,I.kIn _ o d,hd⟩
  .have z:∃o,s.heap.get? p=aa o/\o.ExactDict:=by
    rcases d with⟨kvs,d⟩ |⟨kvs,d⟩
    .obtain⟨_,_,_,_,o,_,_,e,ex,_⟩:=I.hok p _ d;exact⟨o,e,ex⟩
    .obtain⟨_,_,_,_,o,_,_,e,ex,_⟩:=I.hok p _ d;exact⟨o,e,ex⟩
   obtain⟨o,e,ex⟩:=z;refine⟨⟨o,e,ex.1⟩,λa f=>?_⟩;cases f;exact⟨o,e,ex.2.1⟩
  .obtain⟨o,_,_,_,e,ex,_⟩:=I.hok p _ d;refine⟨⟨o,e,ex.1⟩,λa f=>?_⟩;cases f
   exact⟨o,e,ex.2.1⟩
 | _=>exact iV ty
abbrev tBM(K:bA)(T:String)(r:V->List V->Hp->VK->Prop)(to:TE)(t:TA):TE:=λσ H Q=>to σ H λx c=>tyV K T x c/\t σ c λxs d=>r x xs d Q
variable{o:Expr}{es:LEx}{name:Str}{apos cpos:Pos}{r:V->List V->Hp->VK->Prop}
def cT{to:TE}{t:TA}{id:String}(pa:PlainAttrs T)(slot:Slot T name id)(l:typeOf (.builtin id)=pure (.type "method_descriptor"))(J:MtR X id r)(L:PE X o to)(G:PA X (e::es) t)
 (d:attributeBase o name X.env (eval o X.env)=eval o X.env:=by rfl)
 (g:((eE cpos (a8 (e::es) X.env)).all (λx=>!x.1) && (backToKw cpos (keywordEach [] X.env)).all (λx=>x.1.isSome)
   && decide ((e::es).length+([]:List Keyword).length+(if ([]:List Keyword).isEmpty then 0 else 1)<30))=af:=by rfl)
 (f:(apos.endLine==cpos.line)=af:=by rfl)(M:StE X e es:=by rfl)(c:(eE cpos (a8 es X.env)).any (·.1)=aj:=by rfl):
  PE X (.Call (.Attribute o name apos) (e::es) [] cpos) (tBM X.K T r to t):=by
 intro pins s σ H Q I h;refine wpAny_Call_method_late d g f rfl (thn (L pins s σ H _ I h) λv s1 Y=>?_);obtain⟨x,z,m,w,ty,N⟩:=Y;obtain⟨C,E⟩:=Gr m w ty;refine⟨T,id,pa,slot,l,C,E,?_⟩;have q:=G cpos pins s1 σ z _ m N;rw[M]at q ⊢
 exact Calls.callWith_builtin (by show(aj || (eE cpos _).any (·.1))=aj;rw[c] <;> rfl) (vv (thn q λus s2 ⟨vs,A,B,r2,U⟩=>J pins s2 σ A x vs v us Q B w r2 U))
abbrev MtM(X:Cx)(id:String)(r:V->List V->Hp->VK->Prop):Prop:=
 ∀(pins:PNS) (s:aE) (σ:St) (H:Hp) (x:V) (xs:List V) (v:Value) (us:LVa) (Q:VK),Inv X pins σ H s->be x v->a9 xs us->r x xs H Q ->
  wpAny (model X.prog X.w) X.A (call (.builtin id) (v::us)) (EP X pins σ Q) X.xe s
def a9.one:∀{x:V} {us:LVa},a9 [x] us->∃u,us=[u]/\be x u
 | _,_,.cons r .nil=>⟨_,rfl,r⟩
def a9.two:∀{x y:V} {us:LVa},a9 [x,y] us->∃u v,us=[u,v]/\be x u/\be y v
 | _,_,_,.cons r (.cons q .nil)=>⟨_,_,rfl,r,q⟩
variable{l:Addr}{t':Nat}
def Inv.lset{f:Array Value->Array Value}(I:Inv X pins σ H s)(c:H l=aa (.lst xs))
 (e:s.heap.get? l=aa {cls:=.type "list",data:=.seq its.toArray n})(g:f its.toArray=eU.toArray)(m:a9 ys eU)(hz:ys.length<=bn):
  Inv X pins σ (upd H l (.lst ys)) {s with heap:=s.heap.update l (gA f),toks:=t'}:=by
 have q:=PySem.IsL.update e f;rw[g]at q;exact I.write (by rw[c];exact trivial) (.inl rfl) (λw u d h=>(jL s.heap _ (cq d)).trans h) ⟨_,q⟩ ⟨hz,eU,_,m,q⟩
def Inv.lnew(I:Inv X pins σ H s)(c:a9 ys its)(hz:ys.length<=bn):
  Inv X pins σ (upd H s.heap.objs.size (.lst ys)) {s with heap:=s.heap.push {cls:=.type "list",data:=.seq its.toArray},toks:=t'}:=
 I.laid (λ_ _ q=>cg _ q) (bL _) ⟨hz,its,0,c,e6 _ rfl⟩
def Inv.fresh(I:Inv X pins σ H s):H s.heap.objs.size=ae:=I.hok.fresh (bL _)
def Inv.lstM(I:Inv X pins σ H s)(c:H l=aa (.lst xs)):xs.length<=bn/\∃(its:LVa) (n:Nat),a9 xs its/\xs.length=its.length/\s.heap.get? l=aa {cls:=.type "list",data:=.seq its.toArray n}:=by
 obtain⟨z,its,n,r,e⟩:=I.hok l _ c;exact⟨z,its,n,r,r.length,e⟩
def Gs(h:n<=bn):zA n=aj:=by
 exact decide_eq_false (by lia)
abbrev vW:V->List V->Hp->VK->Prop:=λx vs H Q=>∃l xs y,x=.ref l/\vs=[y]/\H l=aa (.lst xs)/\xs.length<bn/\Q .non (upd H l (.lst (xs++[y])))
def gE:MtM X "list.append" vW:=by
 intro pins s σ H x vs v us Q I g f h;obtain⟨l,xs,y,rfl,rfl,c,hz,q⟩:=h;subst g;obtain⟨u,rfl,d⟩:=f.one;obtain⟨z,its,n,r,m,e⟩:=I.lstM c;refine call_meets F.slot_list_append ⟨_,e,rfl⟩ F.entry_list_append (F.args_list_append_2 _ _) (PySem.list_append l its.toArray n u (by rw[size_toArray];lia)) ⟨e,?_⟩;refine⟨.non,_,I.lset c e (by simp) (r.append (.cons d .nil)) ?_,rfl,q⟩;rw[bg,fj]
 lia
abbrev vX:V->List V->Hp->VK->Prop:=λx vs H Q=>∃l b xs c,x=.ref l/\vs=[.ref b]/\H l=aa (.lst xs)/\H b=aa (.lst c)/\xs.length+c.length<=bn/\Q .non (upd H l (.lst (xs++c)))
def jb:MtM X "list.extend" vX:=by
 intro pins s σ H x vs v us Q I G E h;obtain⟨l,b,xs,L,rfl,rfl,f,m,hz,q⟩:=h;subst G;obtain⟨u,rfl,C⟩:=E.one;subst C;obtain⟨z,its,n,r,J,e⟩:=I.lstM f;obtain⟨z2,c,A,B,w,g⟩:=I.lstM m;have hsz:its.toArray.size+c.toArray.size<=bn:=by grind
 have d:¬(!its.toArray.isEmpty && zA (its.toArray.size+c.toArray.size))=af:=by
  rw[Gs hsz,Bool.and_false]
  grind
 refine call_meets F.slot_list_extend ⟨_,e,rfl⟩ F.entry_list_extend (F.args_list_extend_2 _ _)
  (AutoSeq1.list_extend_list_list_0 l its.toArray n b c.toArray A d (by grind) (by lia)) ⟨e,g,?_⟩
 refine⟨.non,_,I.lset f e (by simp) (r.append B) ?_,rfl,q⟩
 grind
abbrev Gu:R2:=λx y H Q=>∃l b xs c,x=.ref l/\y=.ref b/\H l=aa (.lst xs)/\H b=aa (.lst c)/\xs.length+c.length<=bn/\∀p,H p=ae->Q (.ref p) (upd H p (.lst (xs++c)))
def Ax:OpR X (eY .Add) Gu:=by
 intro pins s σ H x y v u Q I B C h;obtain⟨l,b,xs,J,rfl,rfl,m,g,hz,q⟩:=h;subst B;subst C;obtain⟨z,its,n,r,E,e⟩:=I.lstM m;obtain⟨z2,c,G,A,w,d⟩:=I.lstM g;refine PySem.P.add_list e d ?_ (by grind);have f:its.toArray++c.toArray=(its++c).toArray:=by simp
 rw[f];exact⟨.ref _,_,I.lnew (r.append A) (by grind),rfl,q _ I.fresh⟩
end L2
namespace Att
open List
open PySem PySem.W PySem.Calls PyProof.Rows
variable{P:Params}{h:Heap}
def Gv:∀(ns:List Int) (vs:LVa),WellAll P h vs (ns.map WData.int)->IntsAre vs ns:=by
 intro ns
 induction ns with
 |nil=>
  intro vs w;cases w
  exact .nil
 |cons n ns c=>
  intro vs w
  cases w with
  |cons a b=>
   cases a;exact .cons _ _ (c _ b)
variable{l:OpenLaw}{n:Nat}
def Gw(p:l.most=aa n){args:List WData}{c:LVa}
 (b:l.row.toRowW.claim.pre args=af)(i:WellAll P h c args):
  ∃a vs ns,c=[fJ a]/\args=[WData.list (ns.map WData.int)]/\h.get? a=aa {cls:=.type "list",data:=.seq vs.toArray}/\IntsAre vs ns/\ns.length<=n:=by
 obtain⟨d,r,rfl,j,m⟩:=hasAllW_cons ((pre_splitW b).1);obtain rfl:=hasAllW_nil m;obtain⟨xs,rfl,o⟩:=hasW_list j;obtain⟨ns,rfl⟩:=items_int o
 have f:ns.length<=n:=by
  have g:(WTm.not (.lt (.lit (.int n)) (.len (.arg 0)))).holds [] {args:=[.list (ns.map .int)]}=af:=by
   have g:=(holds_andW ((pre_splitW b).2)).1;rw[p]at g;exact g
  have v:=condW_of g (w_not (w_lt w_lit (w_len_list (w_arg rfl))))
  grind
 cases i with
 |cons s u=>
  cases u
  cases s with
  |list q e=>exact⟨_,_,ns,rfl,rfl,q,Gv ns _ e,f⟩
def Gy(l:OpenLaw)(args:List WData):l.row.toRowW.claim.post args (.bool af) args=af:=
 postW_of
  (show WShape.has [] _ .bool=af by first |rfl |decide |simp[WShape.has])
  (w_eq_bool (w_res rfl) w_lit) rfl
variable{q:cS}{d6:LSt}{XP:MGT->Heap->Prop}{YP:World->Heap->Prop}{d:DefRec}
def attach_call
 (L:l.most=aa n)(s:d.params.defaults=[])
 (call:∀ (w:World) (s₀ b:aE) (mg mb:MGT) (e:Addr) (o:Obj) (pm m doc:Value) (a:Addr) (vs:LVa) (ns:List Int),
   Ground q d6 [] XP w s₀ mg mb b.heap->YP w b.heap ->
   b.heap.get? e=aa o->o.data=.func (docDef d.name d.params d.body d.scope pm m doc)->b.heap.CodeRec m d.name->mg d.name=aa (.ref e) ->
   b.heap.get? a=aa {cls:=.type "list",data:=.seq vs.toArray}->IntsAre vs ns->ns.length<=n->b.gens=#[] ->
   fU (model l.prog w) callerA (.call (.ref e) ⟨[.ref a],[]⟩) (λr s'=>r=.ok (.ret (.bool af))/\OldK b.heap s'.heap/\s'.os=b.os/\i0 s'.gens) b):
  WalkO q d6 XP YP l.row.toRowW d [] (λf vs=>PySem.call f vs):=by
 intro w s₀ b mg mb G Y e o pm m doc A kV M hd p x u H args z T j y Q v I;obtain rfl:A=.none:=Dflts.none x s;obtain rfl:kV=.none:=Dflts.noKw x;obtain⟨a,vs,ns,rfl,rfl,i,c,g⟩:=Gw L j v;refine enter_call (oV (call w s₀ b mg mb e o pm m doc a vs ns G Y M (fd_plain hd) p u i c g H) λr s' N=>?_);obtain⟨rfl,B,C,E⟩:=N;exact⟨.inl ⟨.bool af,.bool af,[],rfl,λ_=>rfl,.bool af,Gy l _,λ_=>⟨List.Pairwise.nil,λ_ J=>(nomatch J)⟩⟩,B,C,E⟩
end Att
namespace L2
open List
open PySem PySem.Spec PyProof.Rows
def Ay:∀{vs:LVa} {ns:List Int},IntsAre vs ns->a9 (ns.map V.int) vs
 | _,_,.nil=>.nil
 | _,_,.cons n t h=>.cons ⟨t,rfl⟩ (Ay h)
abbrev rY(H:Hp):Prop:=∀b,H b=ae\/∃o xs,H b=aa (.frz o (.lst xs))
variable{P:cS}{w:World}{K:bA}{mg:MGT}{a:Addr}{fd:fI}{x:Str}{ns:List Int}
def Gz{mb:MGT}{CX:CXT}{k:Nat}{E:Addr}{sp:Sp}{c:aE}{vs:LVa}
 (T:K.In c.heap)(A:c.heap.Ns cG mg)(l:c.heap.Ns builtinsNs mb)(J:∀x:Str,x ≠ "__name__" -> mb x=gu x)(y:c.heap.NoLimit)(hg:c.gens=#[])
 (I:c.heap.get? a=aa {cls:=.type "list",data:=.seq vs.toArray})(hi:IntsAre vs ns)(hl:ns.length<=bn)(hr:cN k callerA)
 (F:∀base:Heap,K.In base->base.Ns cG mg->eM P w K mg base CX k E fd [x] sp)(j:∀(s:aE) (u:Value),BindsTo s fd ⟨[u],[]⟩ [(x,u)])
 (M:∀H:Hp,rY H->SqL K H a (ns.map V.int)->sp [.ref a] H (λv _=>v=.bl af) λ_ _ _=>False)
 (G:∀H e s',CX [] H c (λ_ _ _=>False) e s'->False):
  fU (model P w) callerA (.call (.ref E) ⟨[.ref a],[]⟩) (λr s'=>r=.ok (.ret (.bool af))/\OldK c.heap s'.heap/\s'.os=c.os/\i0 s'.gens) c:=by
 have rv:=Ay hi
 have i:∀H:Hp,rY H->SqL K H a (ns.map V.int)->HOk P w H c.heap->(∀b,H b≠ae->b=a)->(H a≠ae->K.lookup a=ae) ->
   fU (model P w) callerA (.call (.ref E) ⟨[.ref a],[]⟩) (λr s'=>r=.ok (.ret (.bool af))/\OldK c.heap s'.heap/\s'.os=c.os/\i0 s'.gens) c:=by
  intro H U hS hok hA hK;have f:∀{b:Addr} {o:Obj},c.heap.get? b=aa o->H b=ae->(m8 c.heap H).get? b=aa o:=λe n=>EL e n
  have N:∀{b:Addr} {o:Obj} {es:Array DictEntry} {C:Nat},c.heap.get? b=aa o->o.data=.dict es C->H b=ae:=λ{b o es C} e d=>by
   grind
  have g:∀{b:Addr} {m:MGT},c.heap.Ns b m->(m8 c.heap H).Ns b m:=λ{b m} ⟨o,es,C,e,d,r⟩=>⟨o,es,C,f e (N e d),d,r⟩
  have p:=λb o e=>f (T b o e) (by
   cases q:H b with
   |none=>rfl
   |some u=>
    have Y:=hA b (by grind);subst Y;rw[hK (by grind)]at e;nomatch e)
  have hM:Mod K mg _:=⟨p,g A,⟨mb,g l,J⟩,let ⟨mc,h1,h2⟩:=y;⟨mc,g h1,h2⟩⟩;have e0:lY P w K mg _ callerA [] c H:=⟨rfl,hM,λb o e=>EM e,Nat.le_of_eq (EK _ _),trivial,λb l=>absurd (show b∈([]:LAd)from l) (by simp),hok,.of_eq hg⟩;refine oV ((F _ p (g A)).run callerA [] c H ⟨[.ref a],[]⟩ _ [.ref a] _ _ hr e0 (j c _) (.cons rfl .nil) (M H U hS)) λr s' h=>?_
  cases r with
  |error e=>exact(G H e s' h).elim
  |ok fl=>
   cases fl with
   |next=>exact iV h
   |brk=>exact iV h
   |cont=>exact iV h
   |ret u=>
    obtain⟨v,H',os,bare,un,B,r',q⟩:=h;subst q;obtain rfl:u=fV af:=r';refine⟨rfl,OldK.of_keep λb o e=>?_,os,bare⟩
    cases q:H b with
    |none=>exact un.keep b o e q (by intro z;exact absurd (show b∈([]:LAd)from z) (by simp)) (by simp)
    |some u=>
     rcases U b with z |⟨ob,xs,z⟩
     .grind
     .have z2:=un.frzs b ob _ z;obtain⟨e1,_⟩:=hok b _ z;obtain⟨e2,_⟩:=B b _ z2
      grind
 cases L:K.lookup a with
 |some o=>
  have e:=T a o L;rw[I]at e;cases e
  refine i _ (λ_=>.inl rfl) (.inr ⟨_,vs.toArray,_,L,rfl,rfl,rfl,by rw[size_toArray,hi.length];grind⟩) (λb u z=>by have Q:_=aa u:=z;nomatch Q) (λb z=>absurd rfl z) λz=>absurd rfl z
 |none=>
  refine i (λb=>if b=a then aa _ else ae) (λb=>?_) (.inl (.inr ⟨{cls:=.type "list",data:=.seq vs.toArray},if_pos rfl⟩)) (λb u z=>?_) (λb z=>?_) λ_=>L
  .grind
  .by_cases l:b=a
   .have Q:=(if_pos l).symm.trans z;cases Q;subst l;exact⟨I,by rw[aG];exact hl,vs,_,rv,I⟩
   .grind
  .grind
variable{h:Heap}
@[reducible]noncomputable def KOf(_:K.In h):bA:=K
variable{l:W.OpenLaw}{q:cS}{d6:LSt}{XP:MGT->Heap->Prop}{YP:World->Heap->Prop}{d:DefRec}
def GA{n k:Nat}{K:Params->bA}{CX:World->CXT}{sp:World->Sp}
 (U:l.most=aa n)(A:n<=bn)(y:d.params.defaults=[])(hr:cN k callerA)
 (L:∀(w:World) (h:Heap),YP w h->(K w.params).In h)
 (F:∀ (w:World) (mg:MGT) (p:Addr) (h:Heap),(K w.params).In h->h.Ns cG mg->mg d.name=aa (.ref p) ->
   ∃fd:fI,(∀(s:aE) (u:Value),BindsTo s fd ⟨[u],[]⟩ [(x,u)]) /\
    ∀base:Heap,(K w.params).In base->base.Ns cG mg->eM l.prog w (K w.params) mg base (CX w) k p fd [x] (sp w))
 (B:∀(w:World) (H:Hp) (a:Addr) (ns:List Int),ns.length<=n->rY H->SqL (K w.params) H a (ns.map V.int)->sp w [.ref a] H (λv _=>v=.bl af) λ_ _ _=>False)
 (r:∀(w:World) (H:Hp) (s:aE) (e:Value) (s':aE),CX w [] H s (λ_ _ _=>False) e s'->False):
  W.WalkO q d6 XP YP l.row.toRowW d [] (λf vs=>PySem.call f vs):=by
 refine Att.attach_call U y λw s₀ m mg mb p o pm cd doc a vs ns G Y ho hd N z j i c Q=>?_;have C:=L w _ Y;obtain⟨fd,M,E⟩:=F w mg p _ C G.T.g z;exact Gz C G.T.g G.T.b G.T.builtins G.T.nolimit Q j i (c9 c A) hr E M (λH I J=>B w H a ns c I J) λH e s'=>r w H m e s'
variable{CX:CXT}
def walk_ofK{n k:Nat}{K:Params->bA}{sp:bA->Sp}
 (y:l.most=aa n)(g:n<=bn)(c:d.params.defaults=[])(z:cN k callerA)
 (r:∀(w:World) (h:Heap),YP w h->(K w.params).In h)
 (F:∀ (w:World) (mg:MGT) (j:Addr) (h:Heap),(K w.params).In h->h.Ns cG mg->mg d.name=aa (.ref j) ->
   ∃fd:fI,(∀(s:aE) (u:Value),BindsTo s fd ⟨[u],[]⟩ [(x,u)]) /\
    ∀base:Heap,(K w.params).In base->base.Ns cG mg->eM l.prog w (K w.params) mg base CX k j fd [x] (sp (K w.params)))
 (i:∀(K:bA) (H:Hp) (a:Addr) (ns:List Int),ns.length<=n->rY H->SqL K H a (ns.map V.int)->sp K [.ref a] H (λv _=>v=.bl af) λ_ _ _=>False)
 (b:∀(H:Hp) (s:aE) (e:Value) (s':aE),CX [] H s (λ_ _ _=>False) e s'->False):
  W.WalkO q d6 XP YP l.row.toRowW d [] (λf vs=>PySem.call f vs):=
 GA y g c z r F (λw H a ns m o p=>i _ H a ns m o p) λ_ H s e s'=>b H s e s'
abbrev o8(s:Stmt):Arguments:=match s with
 |.FunctionDef _ a _ _ _ _ _ _ _ _=>a
 | _=>{posonlyargs:=[],args:=[],vararg:=ae,kwonlyargs:=[],kw_defaults:=[],kwarg:=ae,defaults:=[]}
abbrev jc(s:Stmt):List Stmt:=match s with
 |.FunctionDef _ _ b _ _ _ _ _ _ _=>b
 | _=>[]
abbrev bq(s:Stmt):Scope:=match s with
 |.FunctionDef _ _ _ _ _ _ sc _ _ _=>sc
 | _=>{kind:=.function,names:=[],isGenerator:=aj,isCoroutine:=aj}
nonrec abbrev CX0:CXT:=λ_ _ _ _ _ _=>False
nonrec abbrev E0:XK:=λ_ _ _=>False
variable{X:Cx}
def o9:il CX0 X E0:=λ_ _ _ _ _ _ _ h=>h.elim
structure Fun(K:bA)(x qual:Str)(st:Stmt)(f:Addr)(fd:fI):Prop where
 ex:∃(oc:Value) (od:Option Addr) (kV doc pm:Value) (an:Option Addr) (cdv ct:Value) (osl:Array (Option Value)),
  fd=W.fnOf x qual (o8 st) (jc st) (bq st) .none kV doc pm an cdv ct/\K.lookup f=aa ⟨oc,od,.func fd,osl⟩/\W.codeIn K cdv qual=af
 kp:W.keepIn K (.ref f)=af
variable{base:Heap}{qual:Str}{st:Stmt}{f:Addr}{N ps:LSt}{sp:Sp}
def Fun.ok{k:Nat}(F:Fun K x qual st f fd)(S:bG N ps (bq st))(len:∀vs H Q E,sp vs H Q E->vs.length=ps.length)
 (b:∀ (cdv:Value) (A:cZ) (outer:List Env) (s:aE) (H:Hp) (vs:List V) (Q:VK) (E:XK),cN k (A.deeper (gt qual (bq st) s.heap.objs.size f cdv))->sp vs H Q E ->
   ∃t,PSs (gD CX0 P w K mg base N qual (bq st) f cdv A outer s H E).nox (jc st) t/\t {nx:=λ_ H'=>Q .non H',rt:=Q} (start N vs) H):eM P w K mg base CX0 (k+1) f fd ps sp:=by
 obtain⟨oc,od,kV,doc,pm,an,cdv,ct,osl,rfl,i,c⟩:=F.ex;refine Aj i c S len λA outer s H vs Q E g e=>?_;obtain⟨t,h,q⟩:=b cdv A outer s H vs Q E g e;exact⟨t,h.nox,q⟩
def Fun.binds(F:Fun K x qual st f fd)
 (h:∀(kV doc pm:Value) (an:Option Addr) (cdv ct:Value) (us:LVa),us.length=ps.length->bindArgs (W.fnOf x qual (o8 st) (jc st) (bq st) .none kV doc pm an cdv ct) ⟨us,[]⟩=pure (ps.zip us)):lZ K fd ps []:=by
 obtain⟨oc,od,kV,doc,pm,an,cdv,ct,osl,rfl,c,b⟩:=F.ex;exact .all (h kV doc pm an cdv ct)
def fun_mk{oc:Value}{od an:Option Addr}{osl:Array (Option Value)}{kV doc pm cdv ct:Value}(l:K.lookup f=aa ⟨oc,od,.func (W.fnOf x qual (o8 st) (jc st) (bq st) .none kV doc pm an cdv ct),osl⟩)
 (c:W.codeIn K cdv qual=af)(k:W.keepIn K (.ref f)=af):Fun K x qual st f (W.fnOf x qual (o8 st) (jc st) (bq st) .none kV doc pm an cdv ct):=⟨⟨oc,od,kV,doc,pm,an,cdv,ct,osl,rfl,l,c⟩,k⟩
structure Df(K:bA)(mg:MGT)(x:Str)(st:Stmt)(ps:LSt)(e:Addr×fI):Prop where
 F:Fun K x x st e.1 e.2
 b:lZ K e.2 ps []
 g:mg x=aa (.ref e.1)
structure Pk(P:cS)(w:World)(K:bA)(mg:MGT)(base:Heap)(CX:CXT)(k:Nat)(x:Str)(e:Addr×fI)(ps:LSt)(sp:Sp):Prop where
 ok:eM P w K mg base CX k e.1 e.2 ps sp
 g:mg x=aa (.ref e.1)
 kp:W.keepIn K (.ref e.1)=af
 b:lZ K e.2 ps []
variable{e:Addr×fI}
def Df.pk{k:Nat}(E:Df K mg x st ps e)(o:eM P w K mg base CX k e.1 e.2 ps sp):Pk P w K mg base CX k x e ps sp:=⟨o,E.g,E.F.kp,E.b⟩
structure Dq(K:bA)(x:Str)(st:Stmt)(f:Addr)(fd:fI):Prop where
 a:dQ K cG x=aa (aa (.ref f))
 F:Fun K x x st f fd
nonrec abbrev Az(x q:Str)(st:Stmt)(ps:LSt):Prop:=∀(kV doc pm:Value) (an:Option Addr) (cdv ct:Value) (us:LVa),us.length=ps.length->bindArgs (W.fnOf x q (o8 st) (jc st) (bq st) .none kV doc pm an cdv ct) ⟨us,[]⟩=pure (ps.zip us)
def Dq.mk2(d:Dq K x st f fd)(X:K.In h)(G:h.Ns cG mg)(b:Az x x st ps:=by walk_at "bd"):Df K mg x st ps (f,fd):=⟨d.F,d.F.binds b,gW X G d.a⟩
def Dq.bt{p:Str}(d:Dq K x st f fd)(b:Az x x st [p])(s:aE)(v:Value):BindsTo s fd ⟨[v],[]⟩ [(p,v)]:=by
 obtain⟨oc,od,kV,doc,pm,an,cdv,ct,osl,rfl,g,c⟩:=d.F.ex;exact .of_eq (b kV doc pm an cdv ct [v] rfl)
variable{n:Nat}
def pb(h:n<=1000):n<bn:=Nat.lt_of_le_of_lt h (by decide)
def pv(i:Nat){pos:Pos}(c:X.N[i]?=aa x:=by rfl)(g:Vis X.env.scope x:=by first |exact bV rfl |exact bE (bV rfl) |exact bE (bE rfl))(hd:NDb x:=by decide)
 (b:NCd x:=by decide):PE X (.Name x pos) (eL i):=kX c g hd b
def AA{A B:Prop}(h:A):if af=af then A else B:=by
 rw[if_pos rfl];exact h
abbrev aN(H H':Hp):Prop:=∀b o,H b=aa o->H' b=aa o
def aN.refl(H:Hp):aN H H:=λ_ _ h=>h
variable{H H1 H2:Hp}
def aN.trans(a:aN H H1)(b:aN H1 H2):aN H H2:=λc o h=>b c o (a c o h)
variable{H':Hp}{l:Addr}
def aN.free(e:aN H H')(h:H' l=Option.none):H l=Option.none:=by
 cases q:H l with
 |none=>rfl
 |some o=>
  rw[e l o q]at h
  nomatch h
def aN.seq{xs:List V}(e:aN H H')(h:SqL K H a xs):SqL K H' a xs:=by
 rcases h with(h |⟨o,h⟩) |h
 .exact .inl (.inl (e _ _ h))
 .exact .inl (.inr ⟨o,e _ _ h⟩)
 .exact .inr h
section
variable{κ:Type}[DecidableEq κ]
abbrev d8(kvs:List (κ×V))(k:κ):Option V:=(kvs.find? λb=>decide (b.1=k)).map (·.2)
abbrev fq(kvs:List (κ×V))(k:κ)(v:V):List (κ×V):=
 if (kvs.any λb=>decide (b.1=k))=af then kvs.map (λb=>if b.1=k then (b.1,v) else b) else kvs++[(k,v)]
def rZ{p:κ×V}{r:List (κ×V)}{k:κ}(e:p.1=k):d8 (p::r) k=aa p.2:=by simp[d8,find?_cons,e]
def r6{p:κ×V}{r:List (κ×V)}{k:κ}(e:¬p.1=k):d8 (p::r) k=d8 r k:=by simp[d8,find?_cons,e]
def vY(k:κ):∀kvs:List (κ×V),(kvs.any λb=>decide (b.1=k))=(d8 kvs k).isSome
 | []=>rfl
 |p::r=>by
  rw[gR]
  by_cases e:p.1=k
  .simp only[rZ e,decide_eq_true e,Bool.true_or,Option.isSome_some]
  .rw[r6 e,decide_eq_false e,Bool.false_or];exact vY k r
def AB(kvs:List (κ×V))(k:κ)(v:V):(fq kvs k v).length<=kvs.length+1:=by
 unfold fq;split
 .rw[aG];lia
 .simp only[bg,cL,length_nil];lia
def GB{kvs:List (κ×V)}{k:κ}(v:V)(h:d8 kvs k=ae):fq kvs k v=kvs++[(k,v)]:=by
 unfold fq;rw[vY,h];exact if_neg (by decide)
def i9.getD{o:Option V}{u:Option Value}{d:V}{d':Value}(r:i9 o u)(rd:be d d'):be (o.getD d) (u.getD d'):=by
 cases o with
 |none=>cases u with
  |none=>exact rd
  |some _=>exact(r).elim
 |some _=>cases u with
  |none=>exact(r).elim
  |some _=>exact r
def KV.val{kvs:List (κ×V)}{vs:List (κ×Value)}(r:KV kvs vs)(k:κ):i9 (d8 kvs k) (gT vs k):=by
 induction r with
 |nil=>exact True.intro
 | @cons p q ps g h t m=>
  obtain⟨i,j⟩:=h
  by_cases e:p.1=k
  .have c:=i.symm.trans e;have b:gT (q::g) k=aa q.2:=by simp[gT,c]
   rw[rZ e,b];exact j
  .have c:¬q.1=k:=λz=>e (i.trans z);have b:gT (q::g) k=gT g k:=by simp[gT,c]
   rw[r6 e,b];exact m
def KV.any{kvs:List (κ×V)}{vs:List (κ×Value)}(r:KV kvs vs)(k:κ):(kvs.any λb=>decide (b.1=k))=vs.any λb=>decide (b.1=k):=by
 induction r with
 |nil=>rfl
 |cons h t c=>simp only[gR,gR,c,h.1]
def KV.repl{kvs:List (κ×V)}{vs:List (κ×Value)}(r:KV kvs vs)(k:κ){y:V}{u:Value}(j:be y u):
  KV (kvs.map λb=>if b.1=k then (b.1,y) else b) (vs.map λb=>if b.1=k then (b.1,u) else b):=by
 induction r with
 |nil=>exact .nil
 | @cons p q ps m h t i=>
  rw[di,di];refine .cons ?_ i;obtain⟨c,g⟩:=h
  by_cases e:p.1=k
  .rw[if_pos e,if_pos (c.symm.trans e)];exact⟨c,j⟩
  .rw[if_neg e,if_neg (λz=>e (c.trans z))];exact⟨c,g⟩
def KV.put{kvs:List (κ×V)}{vs:List (κ×Value)}(r:KV kvs vs)(k:κ){y:V}{u:Value}(b:be y u):KV (fq kvs k y) (ig vs k u):=by
 unfold fq ig;rw[r.any k]
 by_cases e:(vs.any λc=>decide (c.1=k))=af
 .rw[if_pos e,if_pos e];exact r.repl k b
 .rw[if_neg e,if_neg e];exact Paired.snoc r ⟨rfl,b⟩
def KV.length{kvs:List (κ×V)}{vs:List (κ×Value)}(r:KV kvs vs):kvs.length=vs.length:=Paired.length r
end
def pc{k:Key}{u:Value}(r:be (kV k) u):(c5 P w).is k u=af:=by
 cases k with
 |inl i=>obtain⟨t,e⟩:=(r);subst e;exact zM P w i t
 |inr x=>obtain⟨t,e⟩:=(r);subst e;exact zN P w x t
def AC{P:cS}{w:World}:∀{ks:List Key} {us:LVa},a9 (ks.map kV) us->ItemsAre (c5 P w) ks us
 | [],_,r=>by rw[map_nil]at r;cases r;exact .nil
 |k::ks,_,r=>by
  cases r with
  |cons h t=>exact .cons (pc h) (AC t)
nonrec abbrev KT(H:Hp):List (List Key×V)->List (List Key×Addr×Value)->Prop:=Paired λp q=>p.1=q.1/\H q.2.1=aa (.tup (p.1.map kV))/\be p.2 q.2.2
def KT.val{kvs:List (List Key×V)}{xs:List (List Key×Addr×Value)}(r:KT H kvs xs)(k:List Key):i9 (d8 kvs k) ((atKey xs k).map (·.2)):=by
 induction r with
 |nil=>exact True.intro
 | @cons p q ps g h t m=>
  obtain⟨i,_,j⟩:=h
  by_cases e:p.1=k
  .have c:=i.symm.trans e;have b:atKey (q::g) k=aa q.2:=by simp[atKey,c]
   rw[rZ e,b];exact j
  .have c:¬q.1=k:=λz=>e (i.trans z);have b:atKey (q::g) k=atKey g k:=by simp[atKey,c]
   rw[r6 e,b];exact m
def AD{u:HO}(ok:HOk P w H h)(e:Rd H a u):eJ P w H h a u:=e.ok ok
variable{kvs:List (Key×V)}
def k9(ok:HOk P w H h)(e:Rd H a (.dK kvs)):kvs.length<=bn/\(a==gb)=aj/\∃vs,KV kvs vs/\h.DictOf (c5 P w) a vs:=
 show eJ P w H h a (.dK kvs)from AD ok e
def vZ(ok:HOk P w H h)(e:H a=aa (.dK kvs)):kvs.length<=bn/\(a==gb)=aj/\∃vs,KV kvs vs/\h.DictOf (c5 P w) a vs:=k9 ok (.inl e)
variable{ks:List Key}
def v0(ok:HOk P w H h)(e:H a=aa (.tup (ks.map kV))):(tupleKind (c5 P w)).is h ks a:=by
 obtain⟨_,its,r,o,b,c,n,g⟩:=(ok a _ e);exact⟨o,its.toArray,n,b,c,g,by simpa using AC r⟩
def r9{kvs:List (List Key×V)}(ok:HOk P w H h)(e:Rd H a (.dT kvs)):kvs.length<=bn/\(a==gb)=aj /\
  ∃xs,KT H kvs xs/\h.DictOfH (tupleKind (c5 P w)) a xs:=by
 obtain⟨z,y,xs,r,o,es,g,i,j,s,u,v⟩:=(AD ok e);refine⟨z,y,xs,r,o,es,g,i,j,s,u,λx b=>?_,v⟩
 have all:∀{l:List _} {m:List _},KT H l m->∀x∈m,(tupleKind (c5 P w)).is h x.1 x.2.1:=by
  intro l m q
  induction q with
  |nil=>intro x b;exact nomatch b
  | @cons p q ps B c t A=>
   intro x b
   rcases bM.mp b with e |b
   .subst e;exact v0 ok (by rw[<- c.1];exact c.2.1)
   .exact A x b
 exact all r x b
abbrev jS(H:Hp)(a:Addr)(y:V)(r:Option V):Prop:=
 (∃kvs k,Rd H a (.dK kvs)/\y=kV k/\r=d8 kvs k)\/∃kvs k b,Rd H a (.dT kvs)/\y=.ref b/\H b=aa (.tup (k.map kV))/\r=d8 kvs k
abbrev sa(H:Hp)(a:Addr)(y v:V)(H':Hp):Prop:=
 (∃kvs k,H a=aa (.dK kvs)/\y=kV k/\kvs.length<bn/\H'=upd H a (.dK (fq kvs k v))) \/
 ∃kvs k b,H a=aa (.dT kvs)/\y=.ref b/\H b=aa (.tup (k.map kV))/\kvs.length<bn/\H'=upd H a (.dT (fq kvs k v))
def jS.k{k:Key}(e:H a=aa (.dK kvs)):jS H a (kV k) (d8 kvs k):=.inl ⟨kvs,k,.inl e,rfl,rfl⟩
variable{b:Addr}
def jS.t{kvs:List (List Key×V)}{k:List Key}(e:H a=aa (.dT kvs))(c:H b=aa (.tup (k.map kV))):jS H a (.ref b) (d8 kvs k):=.inr ⟨kvs,k,b,.inl e,rfl,c,rfl⟩
variable{v:V}
def sa.k{k:Key}(e:H a=aa (.dK kvs))(c:kvs.length<bn):sa H a (kV k) v (upd H a (.dK (fq kvs k v))):=.inl ⟨kvs,k,e,rfl,c,rfl⟩
def sa.t{kvs:List (List Key×V)}{k:List Key}(e:H a=aa (.dT kvs))(c:H b=aa (.tup (k.map kV)))(g:kvs.length<bn):
  sa H a (.ref b) v (upd H a (.dT (fq kvs k v))):=.inr ⟨kvs,k,b,e,rfl,c,g,rfl⟩
variable{pins:PNS}{σ:St}{s:aE}
def Inv.big(I:Inv X pins σ H s):gb<s.heap.objs.size:=by
 exact qX (by decide) ((I.mod.glob.keeps I.bk).lt)
variable{y:V}{u:Value}{A:cZ}{E Q:PRS}
def GC(J:A.units+1<cLine)(I:Inv X pins σ H s)(g:jS H a y (aa v))(B:be y u)(h:∀j s',Inv X pins σ H s'->be v j->Q j s'):
  wpAny (model X.prog X.w) A (jK (.ref a) u) Q E s:=by
 rcases g with⟨kvs,k,e,m,l⟩ |⟨kvs,k,b,e,m,C,l⟩
 .subst m;obtain⟨z,hd,vs,c,dd⟩:=k9 I.hok e;obtain⟨j,r,i⟩:=i9.some_of (by rw[l];exact c.val k);exact wpAny_getItem_of (pc B) dd.mapOf r (h j _ (I.tok _) i)
 .subst m;cases (B);obtain⟨z,hd,xs,c,dd⟩:=r9 I.hok e;obtain⟨j,r,i⟩:=i9.some_of (by rw[l];exact c.val k);obtain⟨p,G,o⟩:=jJ.mp r;refine wpAny_getItem_heap (tupleKind_room_in1 J) (v0 I.hok C) dd G ?_;rw[o];exact h j _ (I.tok _) i
variable{h':Heap}
def AE{t':Nat}{c:HO}(I:Inv X pins σ H s)(m:Mut (H a))(j:gU a s.heap h')(i:∃q,h'.get? a=aa q)(new:eJ X.prog X.w (upd H a c) h' a c):
  Inv X pins σ (upd H a c) {s with heap:=h',toks:=t'}:=
 I.write m (.inl rfl) (λb q g z=>(j.2 b g).trans z) i new
def v5{vs:List (Key×Value)}(z:kvs.length<=bn)(hd:(a==gb)=aj)(c:KV kvs vs)(dd:h'.DictOf (c5 P w) a vs):
  eJ P w H' h' a (.dK kvs):=⟨z,hd,vs,c,dd⟩
def GD(I:Inv X pins σ H s)(e:Rd H a (.dK kvs))(h:∀t s',Inv X pins σ H s'->Q (.int kvs.length t) s'):wpAny (model X.prog X.w) A (call (.builtin "len") [.ref a]) Q E s:=by
 obtain⟨z,hd,vs,c,dd⟩:=k9 I.hok e;refine call_len_dict hd dd (by rw[<- c.length];rw[cY]at z;lia) ?_;rw[<- c.length];exact h _ _ (I.tok _)
abbrev v6(i:Expr):Prop:=∀ov c,oW i aj ov c=operate [ov,c] (jK ov c)
variable{prog:cS}{env:Env}{value:Expr}
def GE{slice:Expr}{pos:Pos}{T id:String}
 (G:m6 (.type T) "__getitem__"=pure (aa (.builtin id)))(I:v6 slice)
 (h:wpAny (model prog w) A (eval value env) (λo j=>wpAny (model prog w) A (eval slice env) (λi c=>c.TypeIs o T/\wpAny (model prog w) A (jK o i) Q E c) E j) E s):
  wpAny (model prog w) A (eval (.Subscript value slice pos) env) Q E s:=by
 refine Subscript_ (dF h (λo j z=>dF z (λi c g=>?_) λ_ _ x=>x) λ_ _ x=>x);obtain⟨C,g⟩:=g;refine ao ?_;refine ao (wpAny_specialOf C G ?_)
 have p:wpAny (model prog w) A (oW slice aj o i) (λr m=>wpAny (model prog w) A (letTemporaryGo value o r >>= λ_=>pure r) Q E m) E c:=by
  rw[I o i];exact wpAny_operating (dF g (λr m B=>ao (wpAny_letTemporaryGo (bh B))) λ_ _ x=>x)
 first
  |exact bh (ao p)
  |exact ao _
  |exact ao p
def GF{o:Option V}(I:Inv X pins σ H s)(g:jS H a y o):s.TypeIs (.ref a) "dict":=by
 rcases g with⟨kvs,k,e,_,_⟩ |⟨kvs,k,b,e,_,_,_⟩
 .obtain⟨_,_,vs,_,dd⟩:=k9 I.hok e;exact dd.typeIs
 .obtain⟨_,_,xs,_,dd⟩:=r9 I.hok e;exact dd.typeIs
abbrev GG(c ty:TE):TE:=λσ H Q=>c σ H λx H1=>ty σ H1 λy H2=>∃a v,x=.ref a/\jS H2 a y (aa v)/\Q v H2
variable{o i:Expr}{td ty:TE}
def GH{pos:Pos}(B:X.A.units+1<cLine)(r:PE X o td)(hi:PE X i ty)(z:v6 i):PE X (.Subscript o i pos) (GG td ty):=by
 intro pins s σ H Q I h;refine GE PySem.F.slot_dict_getitem.lookup z (thn (r pins s σ H _ I h) λu s1 ⟨x,H1,m,L,C⟩=>thn (hi pins s1 σ H1 _ m C) λT s2 J=>?_);obtain⟨y,H2,j,M,a,v,ex,g,G⟩:=J;subst ex;obtain rfl:u=fJ a:=L;exact⟨GF j g,GC B j g M λY U p c=>⟨v,H2,p,c,G⟩⟩
def GI(h:Heap)(c:gb<h.objs.size):eJ P w H (h.push {cls:=.type "dict",data:=.dict #[]}) h.objs.size (.dK []):=
 ⟨gs _,beq_eq_false_iff_ne.mpr (cq (cr c)),[],.nil,vG h⟩
abbrev AF:TE:=λ_ H Q=>∀p,H p=ae->Q (.ref p) (upd H p (.dK []))
def AG{pos:Pos}:PE X (.Dict [] [] pos) AF:=λpins s σ H Q I h=>
 wpAny_Dict_empty ⟨.ref s.heap.objs.size,_,I.laid (λ_ _ q=>cg _ q) (bL _) (GI s.heap I.big),rfl,h _ (I.hok.fresh (bL _))⟩
structure M2(X:Cx)(o:Expr)(m:Str)(apos:Pos)(e f:Expr)(cpos:Pos):Prop where
 base:attributeBase o m X.env (eval o X.env)=eval o X.env
 few : ((eE cpos (a8 [e,f] X.env)).all (λx=>!x.1) && (backToKw cpos (keywordEach [] X.env)).all (λx=>x.1.isSome)
  && decide (([e,f]:LEx).length+([]:List Keyword).length+(if ([]:List Keyword).isEmpty then 0 else 1)<30))=af
 line:(apos.endLine==cpos.line)=af
 trees:eE cpos (a8 [e,f] X.env)=[(aj,eval e X.env),(aj,eval f X.env)]
abbrev IsD(H:Hp)(a:Addr):Prop:=(∃kvs,Rd H a (.dK kvs))\/∃kvs,Rd H a (.dT kvs)
def GJ(I:Inv X pins σ H s)(d:IsD H a):
  s.TypeIs (.ref a) "dict" /\ (∀b,fJ a=.ref b->∃c,s.heap.get? b=aa c/\c.dict=ae)/\(a==gb)=aj:=by
 rcases d with⟨kvs,e⟩ |⟨kvs,e⟩
 .obtain⟨_,hd,vs,_,dd⟩:=k9 I.hok e;refine⟨dd.typeIs,λb q=>?_,hd⟩;cases q;obtain⟨c,_,_,g,j,_⟩:=dd;exact⟨c,g,j.2.1⟩
 .obtain⟨_,hd,xs,_,dd⟩:=r9 I.hok e;refine⟨dd.typeIs,λb q=>?_,hd⟩;cases q;obtain⟨c,_,_,g,j,_⟩:=dd;exact⟨c,g,j.2.1⟩
variable{d:V}{r:Value}{o:Option V}
def GK(C:A.units+1<cLine)(I:Inv X pins σ H s)(g:jS H a y o)(m:be y u)(rd:be d r)(h:∀p s',Inv X pins σ H s'->be (o.getD d) p->Q p s'):
  wpAny (model X.prog X.w) A (call (.builtin "dict.get") [.ref a,u,r]) Q E s:=by
 rcases g with⟨kvs,k,e,j,l⟩ |⟨kvs,k,b,e,j,B,l⟩
 .subst j;obtain⟨z,hd,vs,c,dd⟩:=k9 I.hok e;refine call_meetsIn vE dd.typeIs PySem.F.entry_dict_get (PySem.F.args_dict_get_3 _ _ _) (meets_dict_get_default _ a (pc m) hd r) ⟨_,dd.mapOf,h _ _ (I.tok _) ?_⟩;rw[l];exact(c.val k).getD rd
 .subst j;cases (m);obtain⟨z,hd,xs,c,dd⟩:=r9 I.hok e;refine call_meetsIn vE dd.typeIs PySem.F.entry_dict_get (PySem.F.args_dict_get_3 _ _ _) (meetsH_dict_get_default _ a b hd r) ⟨tupleKind_room_in1 C,k,xs,v0 I.hok B,dd,h _ _ (I.tok _) ?_⟩;rw[l];exact(c.val k).getD rd
abbrev GL(td ty tx:TE):TE:=λσ H Q=>td σ H λx H1=>∃a,x=.ref a/\IsD H1 a/\ty σ H1 λy H2=>tx σ H2 λz c=>∃o,jS c a y o/\Q (o.getD z) c
variable{o e f:Expr}{apos cpos:Pos}
def GM{tx:TE}(T:X.A.units+1<cLine)(M:PE X o td)(J:PE X e ty)(L:PE X f tx)(m:M2 X o "get" apos e f cpos):PE X (.Call (.Attribute o "get" apos) [e,f] [] cpos) (GL td ty tx):=by
 intro pins s σ H Q I h;refine wpAny_Call_method m.base m.few m.line rB vE PySem.F.type_dict_get (thn (M pins s σ H _ I h) λu s1 q_=>?_);obtain⟨x,H1,j,rx,a,ex,d,U⟩:=q_;subst ex;obtain rfl:u=fJ a:=rx;obtain⟨t1,t2,_⟩:=GJ j d;refine⟨t1,t2,?_⟩;rw[m.trees]
 refine Calls.callWith_builtin rfl (vv (lS (thn (J pins s1 σ H1 _ j U) λiv s2 ⟨y,H2,B,ry,Y⟩ =>
  lS (thn (L pins s2 σ H2 _ B Y) λfv s3 ⟨z,p,C,rz,ov,g,q3⟩=>vw ?_))))
 exact GK T C g ry rz λw' s4 G c=>⟨_,p,G,c,q3⟩
def GN(I:Inv X pins σ H s)(e:Rd H a (.dK kvs))(h:∀p s',H p=ae->Inv X pins σ (upd H p (.dK kvs)) s'->Q (.ref p) s'):wpAny (model X.prog X.w) A (call (.type "dict") [.ref a]) Q E s:=by
 obtain⟨z,hd,vs,c,dd⟩:=k9 I.hok e;refine kt_call_dict hd dd (by rw[<- c.length];exact z) λh' g m=>?_;exact h _ _ (I.hok.fresh (bL _)) (I.laid (λb q j=>((m.2 b (cr (bI j))).trans (cg _ j))) (bL _) (v5 z (beq_eq_false_iff_ne.mpr (cq (cr I.big))) c g))
section
variable{κ:Type}[DecidableEq κ]
end
end L2
set_option maxHeartbeats 4000000
namespace L2
open List
open PySem
def v7{env:Env}(f:(Str×fT)->List (Str×Addr)->Sem (ForInStep (List (Str×Addr))))
 (i:∀n k r,k≠fE->f (n,k) r=pure (.yield r))
 (j:∀n r c,env.cells.lookup n=aa c->f (n,.free) r=pure (.yield ((n,c)::r))):
  ∀(l:List (Str×fT)) (a:List (Str×Addr)),(∀x∈l,x.2=.free->∃c,env.cells.lookup x.1=aa c) ->
   (∀x c,a.lookup x=aa c->env.cells.lookup x=aa c) ->
   ∃cl,forIn l a f=(pure cl:Sem _)/\(∀x c,cl.lookup x=aa c->env.cells.lookup x=aa c) /\
    (∀x,((∃c,a.lookup x=aa c)\/(x,fE)∈l)->∃c,cl.lookup x=aa c)
 | [],a,_,ha=>⟨a,rfl,ha,λx d=>d.elim id (λz=>nomatch z)⟩
 |(n,k)::l,a,hl,ha=>by
  have b:=λx d=>hl x (cE _ d)
  by_cases s:k=.free
  .subst s;obtain⟨c,p⟩:=hl _ bR rfl;have q:=p
   have h:∀x g,((n,c)::a).lookup x=aa g->env.cells.lookup x=aa g:=λx g d=>by
    grind
   obtain⟨cl,e,m,o⟩:=v7 f i j l _ b h
   grind
  .obtain⟨cl,e,m,o⟩:=v7 f i j l a b ha
   grind
variable{scope:Scope}{env:Env}
def v8(h:∀x∈scope.names,x.2=.free->∃c,env.cells.lookup x.1=aa c):
  ∃cl,closureFor scope env=pure cl/\(∀x c,cl.lookup x=aa c->env.cells.lookup x=aa c)/\(∀x,(x,fE)∈scope.names->∃c,cl.lookup x=aa c):=by
 obtain ⟨cl,e,b,d⟩:=v7 (λx r=>(match x with
   |(name,kind)=>if (kind==fE)=af then (do let a <- cellOf env name;pure (mS ((name,a)::r))) else (pure (mS r):Sem _)))
  (λn k r g=>by
   have:(k==fE)=aj:=by simpa using g
   simp only[this,kL,if_false])
  (λn r c f=>by
   simp only[beq_self_eq_true,if_true,cellOf,f,pure_bind])
  scope.names [] h (λx c z=>by nomatch z)
 refine⟨cl,?_,b,λx i=>d x (.inr i)⟩;refine(congrArg _ ?_).trans ((congrArg (λt=>t >>= pure) e).trans (pure_bind _ _));rfl
nonrec abbrev E00:Value->aE->Prop:=λ_ _=>False
variable{prog:cS}{w:World}{A:cZ}{R:Result->aE->Prop}{s:aE}{da iter:Expr}{dw:LEx}
def GO{a:Expr}{pos:Pos}{it p:Value}(I:Nat->aE->Prop)
 (z:∀ n s,I n s->wpAny (model prog w) A (pyNext it) (λr b=>match r with
   |none=>R (.ok .next) b
   | some v=>wpAny (model prog w) A (letOwnedTupleGo a it v) (λ_ d=>wpAny (model prog w) A (gx a env v) (λ_ i =>
     wpAny (model prog w) A (forIn dw af λc r=>if r=af then do let ok <- isTrue c env (eval c env); pure (mS ok) else pure (mS r)) (λok e =>
      if ok=af then wpAny (model prog w) A (eval da env) (λx j =>
       wpAny (model prog w) A (call (.builtin "list.append") [p,x]) (λ_ l=>∃m,m<n/\I m l) (notedBy (model prog w) A env λx s'=>R (.error x) s') j) (notedBy (model prog w) A env λx s'=>R (.error x) s') e
      else ∃m,m<n/\I m e) (notedBy (model prog w) A env λx s'=>R (.error x) s') i) (notedBy (model prog w) A env λx s'=>R (.error x) s') d) (notedBy (model prog w) A env λx s'=>R (.error x) s') b) (notedBy (model prog w) A env λx s'=>R (.error x) s') s)
 (n:Nat)(h:I n s):
  fU (model prog w) A (.compLoop (.ListComp da [⟨a,iter,dw,0⟩] scope pos) 0 it p env) R s:=by
 refine codeAny_loop rfl I (λn s B=>?_) n h;refine wpAny_noted ?_;refine ao (oQ (ao (dF (z n s B) (λr b f=>?_) λ_ _ h'=>h')))
 cases r with
 |none=>exact bh f
 |some v=>
  refine ao (dF f (λ_ d o=>?_) λ_ _ h'=>h');refine ao (dF o (λ_ i q=>ao (dF q (λok e g=>?_) λ_ _ h'=>h')) λ_ _ h'=>h')
  cases ok with
  |false=>exact bh ⟨rfl,g⟩
  |true=>
   exact ao (ao (dF g (λx j u=>ao (dF u (λ_ l y=>bh (bh ⟨rfl,y⟩)) λ_ _ h'=>h')) λ_ _ h'=>h'))
open PySem.Spec PyProof.Rows
@[reducible]noncomputable def Cx.comp(X:Cx)(scope:Scope)(Nc:LSt)(cl:List (Str×Addr))(C:Addr)(ex:LAd)(b:aE)(a:Hp):Cx:=
 {X with N:=Nc,s₀:=b,H₀:=a,env:=compEnvC scope cl C X.env,outer:=X.stack,ex:=ex,fn:=λ_=>aj,pn:=[],xe:=E00}
def v9{env:Env}:∀{names:List (Str×fT)} {x:Str},names.lookup x=aa .free ->
  (names.map λ(n,k)=>if (k==fE && env.scope.kind==.function && env.kindOf n==aa .cell) then (n,lT) else (n,k)).lookup x=aa .cell \/
  (names.map λ(n,k)=>if (k==fE && env.scope.kind==.function && env.kindOf n==aa .cell) then (n,lT) else (n,k)).lookup x=aa .free
 | [],_,h=>by simp at h
 |(n,k)::r,x,h=>by
  have a:=@v9 env r x
  grind
def wa{env:Env}{a:fT}(b:a=.cell\/a=.free):∀{names:List (Str×fT)} {x:Str},
  (names.map λ(n,k)=>if (k==fE && env.scope.kind==.function && env.kindOf n==aa .cell) then (n,lT) else (n,k)).lookup x=aa a ->
  (x,fE)∈names\/(x,lT)∈names
 | [],_,h=>by simp at h
 |(n,k)::r,x,h=>by
  have h':List.lookup x ((if _=af then _ else _)::_)=aa a:=h
  cases c:x==n with
  |true=>
   have e:=eq_of_beq c;subst e;split at h'
   .rename_i d
    have g:k=.free:=by
     rw[dy,dy]at d;exact eq_of_beq d.1.1
    subst g;exact .inl bR
   .simp only[lookup_cons,c]at h';have e:=cu h';subst e
    rcases b with z |z
    .subst z;exact .inr bR
    .subst z;exact .inl bR
  |false=>
   have f:(r.map λ(n,k)=>if (k==fE && env.scope.kind==.function && env.kindOf n==aa .cell) then (n,lT) else (n,k)).lookup x=aa a:=by
    split at h' <;> (rw[lookup_cons,c]at h';exact h')
   rcases(@wa env a b r x) f with z |z
   .exact .inl (cE _ z)
   .exact .inr (cE _ z)
abbrev io(scope:Scope)(outer:List (Str×fT))(N Nc:LSt)(k:Nat)(js:LN):Bool:=
 scope.names.all (λx=>(x.2 != .free || outer.lookup x.1==aa .cell || outer.lookup x.1==aa .free) && x.2 != .cell && (x.2 != .local || scope.names.lookup x.1==aa .local)) &&
 scope.kind==.function && Nc.length==k+js.length &&
 (bx js.length).all (λi=>match Nc[k + i]?,js[i]? with
  |some x,aa j=>N[j]?==aa x && scope.names.lookup x==aa .free
  | _,_=>aj)
structure la(scope:Scope)(outer:List (Str×fT))(N Nc:LSt)(k:Nat)(js:LN):Prop where
 free:∀x∈scope.names,x.2=.free->outer.lookup x.1=aa .cell\/outer.lookup x.1=aa .free
 nocell:∀x∈scope.names,x.2≠.cell
 loc:∀x∈scope.names,x.2=.local->scope.names.lookup x.1=aa .local
 kind:scope.kind=.function
 len:Nc.length=k+js.length
 at':∀i j,js[i]?=aa j->∃x,Nc[k+i]?=aa x/\N[j]?=aa x/\scope.names.lookup x=aa .free
variable{N Nc:LSt}{k:Nat}{js:LN}
def la.of{outer:List (Str×fT)}(h:io scope outer N Nc k js=af):la scope outer N Nc k js:=by
 unfold io at h;rw[dy,dy,dy]at h;obtain⟨⟨⟨b,d⟩,f⟩,c⟩:=h;rw[all_eq_true]at b c;refine⟨λx a e=>?_,λx a e=>?_,λx a e=>?_,eq_of_beq d,eq_of_beq f,λi j e=>?_⟩
 .have:=b x a;simp only[dy,gp,bne_iff_ne,beq_iff_eq]at this
  rcases this.1.1 with(z |z) |z
  .exact absurd e z
  .exact .inl z
  .exact .inr z
 .have:=b x a;simp only[dy,bne_iff_ne]at this;exact this.1.2 e
 .have:=b x a;simp only[dy,gp,bne_iff_ne,beq_iff_eq]at this
  rcases this.2 with z |z
  .exact absurd e z
  .exact z
 .have hi:=(dX.mp e).1;have:=c i (cF.mpr hi);rw[e]at this
  cases q:Nc[k+i]? with
  |none=>simp only[q]at this;nomatch this
  |some x=>
   rw[q]at this;simp only[dy,beq_iff_eq]at this;exact⟨x,rfl,this.1,this.2⟩
abbrev fX(k:Nat)(js:LN)(σ:St):St:=iW k ae++js.map λj=>(σ[j]?).getD ae
abbrev PTs(X:Cx)(dw:LEx)(t:TT):Prop:=
 ∀(pins:PNS) (s:aE) (σ:St) (H:Hp) (Q:Bool->Hp->Prop),Inv X pins σ H s->t σ H Q ->
  wpAny (model X.prog X.w) X.A (forIn dw af λc r=>if r=af then do let ok <- isTrue c X.env (eval c X.env);pure (mS ok) else pure (mS r)) (TP X pins σ Q) X.xe s
abbrev GP:TT:=λ_ H Q=>Q af H
variable{X:Cx}
def GQ:PTs X [] GP:=λ_ _ _ H _ I h=>wpAny_tests_nil ⟨H,I,h⟩
def GR{c:Expr}{t:TT}(h:PT X c t):PTs X [c] t:=λpins s σ H Q I q=>wpAny_tests_one (h pins s σ H Q I q)
abbrev sd(J:It)(g:TG)(tt:TT)(te:TE)(h:St)(j:Hp)(Q:VK):Prop:=
 ∃W:Nat->Nat->List V->St->Hp->Prop,(∃m,W 0 m [] h j)/\∀i m c σ' H',W i m c σ' H' ->
  (J.stop i H'/\c.length<=bn/\∀D,j D=ae->H' D=ae->Q (.ref D) (upd H' D (.lst c))) \/
  (J.go i H'/\c.length<=bn/\∃ N : List V->St->Hp->Prop,(∀ e f d,N e f d->∃ n,n < m/\W (i + 1) n e f d) /\
   ∀x d,J.yld i H' x d->g x σ' d λa o=>tt a o λb l=>if b=af then te a l λy p=>N (c++[y]) a p else N c a l)
abbrev lb(k:Nat)(js:LN)(b:TI)(g:TG)(tt:TT)(te:TE):TE:=λσ H Q=>b σ H λJ a=>sd J g tt te (fX k js σ) a Q
@[reducible]noncomputable def Cx.to(X:Cx)(pn:PNS)(xe:PRS):Cx:={X with pn:=pn,xe:=xe}
variable{Y:Cx}{xe:PRS}{pins:PNS}{σ:St}{H:Hp}
def se(I:Inv Y pins σ H s):Inv {Y with xe:=xe} pins σ H s:=
 ⟨⟨I.ok.mod,I.ok.kind,I.ok.glob,I.ok.blt,I.ok.above,I.ok.inj,I.ok.has,I.ok.cab,I.ok.hd,I.ok.frames,I.ok.stk,I.ok.exf,I.ok.bs,I.ok.bsz,I.ok.noex,I.ok.exfs,I.ok.funs,I.ok.frf⟩,I.os,I.bare,I.base,I.loc,I.cell,I.free,I.freeC,I.pin,I.hok,I.len⟩
def sh(I:Inv {Y with xe:=xe} pins σ H s):Inv Y pins σ H s:=
 ⟨⟨I.ok.mod,I.ok.kind,I.ok.glob,I.ok.blt,I.ok.above,I.ok.inj,I.ok.has,I.ok.cab,I.ok.hd,I.ok.frames,I.ok.stk,I.ok.exf,I.ok.bs,I.ok.bsz,I.ok.noex,I.ok.exfs,I.ok.funs,I.ok.frf⟩,I.os,I.bare,I.base,I.loc,I.cell,I.free,I.freeC,I.pin,I.hok,I.len⟩
variable{e:Expr}{t:TE}
def PE.to0(h:PE {Y with pn:=[],xe:=E00} e t):PE {Y with pn:=[],xe:=xe} e t:=λpins s σ H Q I q=>
 dF (h pins s σ H Q (sh I) q) (λu s' ⟨v,H',a,r,b⟩=>⟨v,H',se a,r,b⟩) λ_ _ z=>z.elim
@[reducible]noncomputable def jd(us:LVa)(n:Nat):Obj:={cls:=.type "list",data:=.seq us.toArray n}
variable{tg:Expr}{g:TG}{tt:TT}{te:TE}{H2:Hp}{s2:aE}{it:Addr}{fp:LAd}{tn:Nat->Heap->Prop}{J:It}{cl:List (Str×Addr)}{Q:VK}{RR:Value->Addr->Result->aE->Prop}{E:PRS}
def AH{pos:Pos}{PX:Cx->Prop}
 (hc:X.calm=af)(ck:la scope X.env.scope.names X.N Nc k js)
 (hg:∀cl C ex L I,PG (X.comp scope Nc cl C ex L I) tg g)(ht:∀cl C ex L I,PTs (X.comp scope Nc cl C ex L I) dw tt)(he:∀cl C ex L I xe,PX ((X.comp scope Nc cl C ex L I).to [] xe)->PE ((X.comp scope Nc cl C ex L I).to [] xe) da te)
 (a1:∀x c,cl.lookup x=aa c->X.env.cells.lookup x=aa c)(a2:∀x,(x,fE)∈scope.names->∃c,cl.lookup x=aa c)
 (G:Inv X pins σ H2 s2)(T:k6 X.prog X.w X.K tg J fp it tn)(h9:tn 0 s2.heap)(f2:∀b∈fp,fW X pins H2 b)(hW:sd J g tt te (fX k js σ) H2 Q)
 (hRR:∀(D C:Addr) (s':aE) (H':Hp),Inv X pins σ H' s'->(∃m,s'.heap.Ns C m)->fW X pins H' C->Q (.ref D) H'->RR (.ref D) C (.ok .next) s')
 (hPX:∀D C,s2.heap.objs.size=D->D<C->(∀b∈frs X.stack,b<D)->PX ((X.comp scope Nc cl C fp s2 H2).to [] (notedBy (model X.prog X.w) X.A (compEnvC scope cl C X.env) λx s'=>RR (.ref D) C (.error x) s'))):
  wpAny (model X.prog X.w) X.A (newList []) (λacc s₃=>wpAny (model X.prog X.w) X.A (newFunctionEnv scope X.env.globals cl [] X.env.qual ae .none (aa X.env)) (λcenv s₄ =>
   fU (model X.prog X.w) X.A (.compStart (.ListComp da [⟨tg,iter,dw,0⟩] scope pos) 0 (.ref it) acc {cenv with scope:=relabel scope X.env}) (RR acc cenv.locals) s₄) E s₃) E s2:=by
 obtain⟨W,⟨m0,w0⟩,turn⟩:=hW;refine wpAny_newObj_type (wpAny_newFunctionEnv ck.nocell (by intro y hy;simp at hy) (λk8 B h=>?_) ck.kind);dsimp only at B h ⊢;generalize hP:s2.heap.push {cls:=.type "list",dict:=ae,data:=.seq ([]:LVa).toArray}=P at B h ⊢;generalize hD:s2.heap.objs.size=D at hP B h ⊢;have hCs:P.objs.size=D+1:=by rw[<- hP,rE,hD]
 generalize hC:P.objs.size=C at hCs B h ⊢;have hDC':D<C:=by rw[hCs];exact Nat.lt_succ_self _
 have hDC:D≠C:=cr hDC';have below:∀b o,s2.heap.get? b=aa o->b<D:=λb o e=>hD▸bI e
 have old:∀b o,s2.heap.get? b=aa o->k8.get? b=aa o:=λb o e=>by
  have f:=below b o e;exact h.extBut b o (cr (qX f hDC')) (cg _ (hP▸cg _ e))
 have hDo:k8.get? D=aa (jd [] 0):=h.extBut _ _ hDC (cg _ (by rw[<- hP,<- hD];exact e6 _ rfl));have Hn:∀b,D<=b->H2 b=ae:=λb f=>G.hok.fresh (by lia);have fpo:∀b∈fp,b<D:=λb f=>by obtain⟨o,e,_⟩:=T.obj 0 _ h9 b f;exact below b o e
 have clo:∀x c,cl.lookup x=aa c->c<D:=λx c e=>by
  obtain⟨v,o,ho,_⟩:=G.cell x c (a1 x c e);exact below c o ho
 have stko:∀b∈frs X.stack,b<D:=λb f=>by
  obtain⟨_,o,ho,_⟩:=G.stack.mem f;exact below b o ho
 let Y:Cx:=X.comp scope Nc cl C fp s2 H2
 have yk:Y.Ok:=by
  refine⟨G.ok.mod,ck.kind,G.ok.glob,G.ok.blt,?_,?_,?_,?_,G.ok.hd,G.ok.frames,.inl rfl,?_,G.bs,?_,?_,?_,G.stack,G.stkFree⟩
  .show s2.heap.objs.size<=C;lia
  .exact λx y c h1 h2=>G.ok.inj x y c (a1 x c h1) (a1 y c h2)
  .intro x hx
   have:(x,fE)∈scope.names\/(x,lT)∈scope.names:=by
    rcases hx with hx |hx
    .exact wa (.inl rfl) hx
    .exact wa (.inr rfl) hx
   rcases this with z |z
   .exact a2 x z
   .exact absurd rfl (ck.nocell _ z)
  .exact λx c z=>nomatch z
  .intro b f;refine⟨?_,λx c e=>?_⟩
   .exact cr (qX (fpo b f) hDC')
   .exact(f2 b f).2.2.2.2.1 x c (a1 x c e)
  .exact c9 G.ok.bsz G.sz
  .intro b o e f
   rcases(f2 b f).2.2.2.1 with z |z
   .exact G.ok.noex b o e z
   .exact absurd (fo (bI e) (c9 G.ok.bsz z)) (iZ _)
  .intro b f z
   rcases bM.mp (G.stkSub b z)with e |e
   .exact(f2 b f).2.1 e
   .exact(f2 b f).2.2.1 e
 have I4:Inv Y [(D,jd [] 0)] (fX k js σ) H2 {s2 with heap:=k8,toks:=s2.toks+([]:List (Str×Value)).length}:=by
  refine⟨yk,rfl,G.bare,Un.kept old,⟨_,B,λi x v e1 M e3=>?_⟩,λx c e=>?_,Hn C (by lia),λx c e=>G.freeC x c (a1 x c e),λp U=>?_,G.hok.kept old,?_⟩
  .have e1:Nc[i]?=aa x:=e1;unfold fX at M
   have hik:k<=i:=by
    rcases lM i k with z |z
    .rw[oF (by simpa using z),u8]at M;simp[z]at M
    .exact z
   rw[mT (by simpa using hik),fS]at M;simp only[ic]at M
   cases q:js[i-k]? with
   |none=>rw[q]at M;cases M
   |some j=>
    rw[q]at M;obtain⟨x',q1,q2,q3⟩:=ck.at' _ _ q;rw[show k+(i-k)=i by lia,e1]at q1;cases q1;have M:(σ[j]?).getD ae=aa v:=cu M
    have e2':σ[j]?=aa (aa v):=by
     cases z:σ[j]? with
     |none=>rw[z]at M;nomatch M
     |some y=>rw[z]at M;rw[show y=aa v from M]
    have hmem:(x,fE)∈scope.names:=by
     have:∀l:List (Str×fT),l.lookup x=aa .free->(x,fE)∈l:=by
      intro l
      induction l with
      |nil=>intro z;nomatch z
      |cons a l ih=>
       intro z;obtain⟨n,kk⟩:=a;simp only[lookup_cons]at z
       cases f:x==n with
       |true=>
        rw[f]at z;cases z
        rw[eq_of_beq f];exact bR
       |false=>rw[f]at z;exact cE _ (ih z)
     exact this _ q3
    have hout:X.env.kindOf x=aa .cell\/X.env.kindOf x=aa .free:=ck.free _ hmem rfl;obtain⟨m,hn,hl⟩:=G.loc
    have vis:Vis X.env.scope x:=by
     rcases hout with z |z
     .exact .inr (.inl z)
     .exact .inr (.inr z)
    obtain⟨u,r,l⟩:=hl j x v q2 e2' vis;refine⟨u,r,.inr ⟨v9 q3,?_⟩⟩
    rcases l with⟨z,_⟩ |⟨_,c,hcl,hcell⟩
    .rcases hout with y |y <;> (rw[y]at z;nomatch z)
    .obtain⟨c',hc'⟩:=a2 x hmem;have:=a1 x c' hc';rw[hcl]at this;cases this;exact⟨c,hc',hcell.keeps old⟩
  .obtain⟨v,z⟩:=G.cell x c (a1 x c e);exact⟨v,z.keeps old⟩
  .have U:p∈[(D,jd [] 0)]:=(b8.mp U).elim (λz=>nomatch (show p∈([]:PNS)from z)) id;have U:=bj.mp U;subst U;refine⟨hDo,Hn D (bL _),hDC,λz=>?_,λv z=>by nomatch z⟩;exact absurd (stko D z) (iZ _)
  .show(fX k js σ).length=Nc.length;rw[ck.len];simp[fX]
 have hY:=T.keep 0 _ _ h9 λb _ o e=>old b o e
 have fpY:∀{H':Hp} {p:PNS},(∀q∈p,q.1=D)->(∀b∈fp,H' b=ae)->∀b∈fp,fW Y p H' b:=λ{H' p} U hn b f=>by
  refine⟨hn b f,(yk.exf b f).1,yk.exfs b f,.inl f,λx c e=>(yk.exf b f).2 x c e,λq hq=>?_⟩;rw[U q hq];exact mZ (fpo b f)
 let xe:Value->aE->Prop:=notedBy (model X.prog X.w) X.A (compEnvC scope cl C X.env) λx s'=>RR (.ref D) C (.error x) s'
 have U:=hPX D C hD hDC' stko
 have loop:fU (model X.prog X.w) X.A (.compLoop (.ListComp da [⟨tg,iter,dw,0⟩] scope pos) 0 (.ref it) (.ref D) (compEnvC scope cl C X.env)) (RR (.ref D) C) {s2 with heap:=k8,toks:=s2.toks+([]:List (Str×Value)).length}:=by
  refine GO (λn s'=>∃i ys us nn σ' H',Inv Y [(D,jd us nn)] σ' H' s'/\tn i s'.heap/\(∀b∈fp,H' b=ae)/\a9 ys us/\W i n ys σ' H') ?_ m0
   ⟨0,[],[],0,fX k js σ,H2,I4,hY,λb f=>(f2 b f).1,.nil,w0⟩
  rintro n s3 ⟨i,ys,us,nn,gg,H3,I3,hX,fr3,rv,w3⟩
  have one:∀q∈[(D,jd us nn)],q.1=D:=λq hq=>by
   have:q=(D,jd us nn):=by simpa using hq
   rw[this]
  rcases turn i n ys gg H3 w3 with⟨stop,hz,qn⟩ |⟨go,hz,N,hN,step⟩
  .refine thn (T.done Y rfl rfl rfl hc i _ s3 gg H3 _ I3 (fpY one fr3) hX stop) λr s4 ⟨hr,I5⟩=>?_;subst hr;obtain⟨pD,nD,_,_,_⟩:=I5.pin (D,jd us nn) (by simp);have bs:=I5.base;have h2D:∀b o,H2 b=aa o->b≠D:=λb o e z=>by rw[z,Hn D (bL _)]at e;nomatch e
   have I6:Inv X pins σ (upd H3 D (.lst ys)) s4:=by
    refine G.call' (ch:=fp) I5.os ⟨bs.keep,bs.slot,λb o e n hx=>?_,bs.there,λb xs e=>?_,λb o u e=>?_,λb ps e=>?_⟩ (λb u e=>?_) I5.bare λb f=>?_
    .rw[bW (cr (below b o e))];exact bs.free b o e n hx
    .rw[bW (h2D b _ e)];exact bs.tups b xs e
    .rw[bW (h2D b _ e)];exact bs.frzs b o u e
    .rw[bW (h2D b _ e)];exact bs.tbls b ps e
    .by_cases f:b=D
     .subst f;rw[bN]at e;cases e;exact⟨hz,us,nn,rv,pD⟩
     .rw[bW f]at e;exact(I5.hok b u e).stay (λc v _ q=>q) (λc q=>by rw[bW (ik q nD)];exact q) λc xs q=>by rw[bW (ik q nD)];exact q
    .obtain⟨_,f1,_,f3,f4,f5⟩:=f2 b f;exact⟨f3,f1,f4,f5⟩
   obtain⟨m,hn,_⟩:=I5.loc;refine hRR D C s4 _ I6 ⟨m,hn⟩ (G.fpOk (by lia) ?_) (qn D (Hn D (bL _)) nD);rw[bW hDC.symm];exact I5.free
  .refine thn (T.item Y rfl rfl rfl hc i _ s3 gg H3 _ I3 (fpY one fr3) hX go) λr s4 q_=>?_;obtain⟨u,hr,h4⟩:=q_;subst hr;refine thn h4 λ_ s5 q_=>?_;obtain⟨x,H5,I5,r5,y5,st5,fr5⟩:=q_;have I5':=I5.pinned (fpY one fr5) (T.obj _ _ st5);refine dF (hg cl C fp s2 H2 _ s5 gg H5 x u _ I5' r5 (step x H5 y5)) (λ_ s6 ⟨σ6,H6,I6,q6⟩=>?_) λ_ _ z=>z.elim;refine dF (ht cl C fp s2 H2 _ s6 σ6 H6 _ I6 q6) (λb s7 ⟨H7,I7,q7⟩=>?_) λ_ _ z=>z.elim
   have kp:∀{H8:Hp} {s8:aE},Inv Y ([(D,jd us nn)]++rN fp s5.heap) σ6 H8 s8->tn (i+1) s8.heap/\(∀b∈fp,H8 b=ae):=λ{H8 s8} I8=>by
    refine⟨T.keep _ _ _ st5 λb f o e=>(I8.pin (b,o) (ib _ (ib _ (rO f e)))).1,λb f=>?_⟩;obtain⟨o,e,d⟩:=T.obj _ _ st5 b f;exact(I8.pin (b,o) (ib _ (ib _ (rO f e)))).2.1
   cases b with
   |false=>
    obtain⟨m',hm,w7⟩:=hN _ _ _ q7;obtain⟨st7,fr7⟩:=kp I7
    exact⟨m',hm,i+1,ys,us,nn,σ6,H7,I7.unpinned,st7,fr7,rv,w7⟩
   |true=>
    refine thn (he cl C fp s2 H2 xe U _ s7 σ6 H7 _ (se I7) q7) λuy s8 q_=>?_;obtain⟨y,H8,I8',r8,q8⟩:=q_;have I8:=sh I8';obtain⟨m',hm,w8⟩:=hN _ _ _ q8;obtain⟨st8,fr8⟩:=kp I8;obtain⟨pD,nD,pC,pF,_⟩:=I8.pin (D,jd us nn) (by simp);have hl:=rv.length
    refine wpAny_list_append_plain (items:=us.toArray) ⟨nn,pD⟩ (λh' hl' sb=>?_) (by simp only[size_toArray] <;> lia)
    obtain⟨n',e'⟩:=hl';have I8n:Inv Y [] σ6 H8 s8:=I8.pins_of (λ_ z=>nomatch z);have I9:=I8n.turned (t':=s8.toks) (it:=D) (λb o f e=>(sb.2 b f).trans e) nD pC (.inr (by show s2.heap.objs.size<=D;lia)) (λx c e=>cr (clo x c e)) (λp U=>nomatch U);refine⟨m',hm,i+1,ys++[y],us++[uy],n',σ6,H8,I9.pins_of (λp U=>?_),?_,fr8,rv.append (.cons r8 .nil),w8⟩
    .have U:p=(D,jd (us++[uy]) n'):=by simpa using U
     subst U;refine⟨?_,nD,pC,pF,λv z=>by nomatch z⟩;have M:=e';rw[M];simp
    .exact T.keep _ _ _ st8 λb f o e=>(sb.2 b (cr (fpo b f))).trans e
 exact codeAny_compStart_list loop (T.self X.A 0 _ _ _ hY loop)
def AI{pos:Pos}
 (v:X.calm=af)(r:la scope X.env.scope.names X.N Nc k js)
 (z:∀cl C ex d a,PG (X.comp scope Nc cl C ex d a) tg g)(B:∀cl C ex d a,PTs (X.comp scope Nc cl C ex d a) dw tt)(y:∀cl C ex d a,PE (X.comp scope Nc cl C ex d a) da te)
 (p:∀x c,cl.lookup x=aa c->X.env.cells.lookup x=aa c)(q:∀x,(x,fE)∈scope.names->∃c,cl.lookup x=aa c)
 (o:Inv X pins σ H2 s2)(T:k6 X.prog X.w X.K tg J fp it tn)(n:tn 0 s2.heap)(f2:∀b∈fp,fW X pins H2 b)(u:sd J g tt te (fX k js σ) H2 Q)
 (l:∀(D C:Addr) (s':aE) (H':Hp),Inv X pins σ H' s'->(∃m,s'.heap.Ns C m)->fW X pins H' C->Q (.ref D) H'->RR (.ref D) C (.ok .next) s'):
  wpAny (model X.prog X.w) X.A (newList []) (λh i=>wpAny (model X.prog X.w) X.A (newFunctionEnv scope X.env.globals cl [] X.env.qual ae .none (aa X.env)) (λf j =>
   fU (model X.prog X.w) X.A (.compStart (.ListComp da [⟨tg,iter,dw,0⟩] scope pos) 0 (.ref it) h {f with scope:=relabel scope X.env}) (RR h f.locals) j) E i) E s2:=
 AH (PX:=λ_=>True) v r z B (λcl C ex d a xe _=>PE.to0 (y cl C ex d a)) p q o T n f2 u l λ_ _ _ _ _=>trivial
variable{wi:TI}
def GS{pos:Pos}(k:Nat)(js:LN)(Nc:LSt)(hc:X.calm=af)(hi:PI X tg iter wi)
 (hg:∀cl C ex c a,PG (X.comp scope Nc cl C ex c a) tg g)(ht:∀cl C ex c a,PTs (X.comp scope Nc cl C ex c a) dw tt)(he:∀cl C ex c a,PE (X.comp scope Nc cl C ex c a) da te)
 (d:io scope X.env.scope.names X.N Nc k js=af:=by rfl)(hs:∀x,gS iter X.env x=pure x:=by intro _;rfl):
  PE X (.ListComp da [⟨tg,iter,dw,0⟩] scope pos) (lb k js wi g tt te):=by
 intro pins s σ H Q I h;have d:=la.of d;obtain⟨cl,f,p,r⟩:=v8 λx hx e=>I.ok.has x.1 (d.free x hx e);refine vg rfl hs f d.kind d.loc (thn (hi pins s σ H _ I h) λv s1 L=>thn L λitv s2 M=>?_);obtain⟨it,fp,tn,J,H2,e,n,T,j,f2,U⟩:=M;subst e;refine AI hc d hg ht he p r n T j f2 U λD C s' H' l ⟨m,hn⟩ G q=>?_;obtain⟨u,f1,_,y,z,B⟩:=G;exact⟨m,hn,λh' i=>⟨.ref D,H',l.turned (λb o hb e=>(i.2 b hb).trans e) u f1 y z B,rfl,q⟩⟩
variable{i:Nat}{x:Str}{b5 c0:Pos}
def si{pos:Pos}(k:Nat)(js:LN)(Nc:LSt)(hN:X.N.Nodup)(p:X.N[i]?=aa x)(y:Loc X.env.scope x)(hc:X.calm=af)(hi:PI X tg iter wi)
 (hg:∀cl C ex d c,PG (X.comp scope Nc cl C ex d c) tg g)(ht:∀cl C ex d c,PTs (X.comp scope Nc cl C ex d c) dw tt)(he:∀cl C ex d c,PE (X.comp scope Nc cl C ex d c) da te)
 (u:eX (.ListComp da [⟨tg,iter,dw,0⟩] scope pos) (aa (.Name x b5)) c0.line X.env=pure af:=by rfl)
 (f:io scope X.env.scope.names X.N Nc k js=af:=by rfl)(hs:∀x,gS iter X.env x=pure x:=by intro _;rfl)
 (hf:LcF X x:=by first |exact .inl rfl |exact .inr rfl |assumption):
  PS X (.Assign [.Name x b5] (.ListComp da [⟨tg,iter,dw,0⟩] scope pos) c0) (jQ (lb k js wi g tt te) (jP i)):=by
 intro pins s σ H D I h;have f:=la.of f;rw[exec_Assign_Name_used _ _ _ _ u];refine ao (oQ (ao ?_));obtain⟨cl,n,a1,a2⟩:=v8 λx y e=>I.ok.has x.1 (f.free x y e)
 refine ao (dF (vg rfl hs n f.kind f.loc
  (thn (hi pins s σ H _ I h) λv s1 h1=>thn h1 λitv s2 h2=>?_)) (λ_ s' hq=>bh (bh hq)) λ_ _ e=>e)
 obtain⟨it,fp,tn,J,H2,e,U,T,B,f2,hW⟩:=h2;subst e;refine AI hc f hg ht he a1 a2 U T B f2 hW λL C s' H' M ⟨m,hn⟩ fC q=>?_;obtain⟨f0,f1,f2',f3,G,f5⟩:=fC;refine wpAny_assign_Name (vJ (v:=.ref L) M hN p y rfl (λs'' j ⟨a,sb,ha⟩=>?_) hf)
 have l:C≠a:=by
  rcases ha with z |z
  .rw[z];exact f1
  .exact(G x a z).symm
 exact⟨m,hn.sameBut sb l,λh' r=>⟨_,H',j.turned (λb o hb e=>(r.2 b hb).trans e) f0 f1 f3 G f5,q⟩⟩
def AJ:OpR X (dk .Is) (λx y H Q=>∃b,y=.bl b/\(x=.non\/∃c,x=.bl c)/\Q (.bl (decide (x=.bl b))) H):=by
 intro pins s σ H x y v u Q I a f h;obtain⟨b,rfl,d,q⟩:=h;subst f
 rcases d with rfl |⟨c,rfl⟩
 .subst a
  exact wpAny_is_plain rfl (cH I q (by cases b <;> rfl))
 .subst a
  exact wpAny_is_plain rfl (cH I q (by cases b <;> cases c <;> rfl))
variable{t':TE}
def PE.or(h:PE X e t)(h':PE X e t'):PE X e (λσ H Q=>t σ H Q\/t' σ H Q):=by
 intro pins s σ H Q I q
 rcases q with q |q
 .exact h pins s σ H Q I q
 .exact h' pins s σ H Q I q
variable{xs:List V}
def a9.at'{us:LVa}{u:Value}(r:a9 xs us)(e:us[i]?=aa u):∃x,xs[i]?=aa x/\be x u:=by
 have c:=r.length;have hi:i<xs.length:=by have:=(dX.mp e).1;lia
 refine⟨xs[i],by simp[hi],?_⟩;obtain⟨d,a,b⟩:=r.get (i:=i) (x:=xs[i]) (by simp[hi]);rw[e]at a;cases a;exact b
def nh{env:Env}{a:fT}(b:a≠.free):∀{names:List (Str×fT)} {x:Str},names.lookup x=aa a ->
  (names.map λ(n,k)=>if (k==fE && env.scope.kind==.function && env.kindOf n==aa .cell) then (n,lT) else (n,k)).lookup x=aa a
 | [],_,h=>by simp at h
 |(n,k)::r,x,h=>by
  have c:=@nh env a b r x
  grind
def GT(h:Vis scope x):Vis (relabel scope env) x:=by
 rcases h with h |h |h
 .exact .inl (nh (by decide) h)
 .exact .inr (.inl (nh (by decide) h))
 .rcases v9 h with z |z
  .exact .inr (.inl z)
  .exact .inr (.inr z)
variable{C:Addr}{ex:LAd}{a7:aE}{b0:Hp}
def pvc(i:Nat){pos:Pos}(b:Nc[i]?=aa x:=by rfl)(c:Vis scope x:=by first |exact bV rfl |exact bE (bV rfl) |exact bE (bE rfl))(hd:NDb x:=by decide)
 (a:NCd x:=by decide):PE (X.comp scope Nc cl C ex a7 b0) (.Name x pos) (eL i):=kX b (GT c) hd a
def pgc(i:Nat){pos:Pos}(b:Nc.Nodup:=by decide +kernel)(hi:Nc[i]?=aa x:=by rfl)(a:scope.names.lookup x=aa .local:=by rfl):PG (X.comp scope Nc cl C ex a7 b0) (.Name x pos) (jP i):=
 zU b hi (.inl (nh (by decide) a)) (.inr (nh (by decide) a))
def glc(h:scope.names.lookup x=aa .globalImplicit):Gl (X.comp scope Nc cl C ex a7 b0) x:=nh (by decide) h
variable{p:Addr}{o:HO}
def cv(h:H p=ae):aN H (upd H p o):=λb u e=>by rw[bW (ik e h)];exact e
variable{K:bA}{H':Hp}{a:Addr}
def aN.tup(e:aN H H')(h:SqT K H a xs):SqT K H' a xs:=by
 rcases h with(h |⟨o,h⟩) |h
 .exact .inl (.inl (e _ _ h))
 .exact .inl (.inr ⟨o,e _ _ h⟩)
 .exact .inr h
abbrev ni(p:Addr)(H H':Hp):Prop:=∀b o,H b=aa o->b≠p->H' b=aa o
def ni.refl(p:Addr)(H:Hp):ni p H H:=λ_ _ h _=>h
variable{H1:Hp}
def ni.trans(a:ni p H H1)(b:ni p H1 H2):ni p H H2:=λc o h n=>b c o (a c o h n) n
abbrev AK(K:bA)(H:Hp)(L:Addr)(its:List (Int×Int)):Prop:=
 ∃b:List (Addr×Int×Int),SqL K H L (b.map λz=>V.ref z.1)/\(∀z∈b,SqT K H z.1 [.int z.2.1,.int z.2.2])/\its=b.map (·.2)/\b.length<=1000
def aN.items{L:Addr}{its:List (Int×Int)}(e:aN H H')(h:AK K H L its):AK K H' L its:=by
 obtain⟨j,b,c,d,f⟩:=h;exact⟨j,e.seq b,λz hz=>e.tup (c z hz),d,f⟩
abbrev AL(p:Option Bool->Bool)(es:List (Option Bool))(its:List (Int×Int)):Int:=((its.filter λz=>p (es.getD z.1.toNat ae)).map (·.2)).sum
inductive Prt where
 |inn (t:Int) |out (t:Int) |least (k:Int) (its:List (Int×Int)) |most (k:Int) (its:List (Int×Int))
abbrev bs(l:List Bool):List (Option Bool):=l.map aa
abbrev Prt.holds(rs ws:List Bool):Prt->Bool
 |.inn t=>(rs.getD t.toNat aj)
 |.out t=>!(ws.getD t.toNat aj)
 |.least k its=>decide (k<=AL (·==aa af) (bs rs) its)
 |.most k its=>decide (AL (·==aa af) (bs ws) its<=k)
inductive D where
 |non
 |bl (b:Bool)
 |int (i:Int)
 |str (x:Str)
 |lst (xs:List D)
 |tup (xs:List D)
 |kl (xs:List D)
 |kt (xs:List D)
 |dic (ks:List Key) (xs:List D)
 |ins (c:Str) (ns:LSt) (xs:List D)
 |kd (ks:List Key) (xs:List D)
 |dT (ks:List (List Key)) (xs:List D)
 deriving Inhabited
nonrec abbrev OD:=Option D
nonrec abbrev LD:=List D
nonrec abbrev OLD:=Option LD
set_option genInjectivity false in
structure Gc where
 K:bA
 cl:Str->Addr
mutual
def Rep(G:Gc)(H:Hp):D->V->Prop
 |.non,v=>v=.non
 |.bl b,v=>v=.bl b
 |.int i,v=>v=.int i
 |.str x,v=>v=.str x
 |.lst ds,v=>∃a vs,v=.ref a/\H a=aa (.lst vs)/\aC G H ds vs
 |.tup ds,v=>∃a vs,v=.ref a/\H a=aa (.tup vs)/\aC G H ds vs
 |.kl ds,v=>∃a vs,v=.ref a/\SqL G.K H a vs/\aC G H ds vs
 |.kt ds,v=>∃a vs,v=.ref a/\SqT G.K H a vs/\aC G H ds vs
 |.dic ks ds,v=>∃a vs,v=.ref a/\H a=aa (.dK (ks.zip vs))/\ks.length=vs.length/\aC G H ds vs
 |.ins c ns ds,v=>∃a dx vs,v=.ref a/\H a=aa (.ins (G.cl c) dx (ns.zip vs))/\ns.length=vs.length/\aC G H ds vs
 |.kd ks ds,v=>∃a od vs,v=.ref a/\H a=aa (.frz od (.dK (ks.zip vs)))/\ks.length=vs.length/\aC G H ds vs
 |.dT ks ds,v=>∃a vs,v=.ref a/\H a=aa (.dT (ks.zip vs))/\ks.length=vs.length/\aC G H ds vs
def aC(G:Gc)(H:Hp):LD->List V->Prop
 | [],vs=>vs=[]
 |d::ds,vs=>∃v r,vs=v::r/\Rep G H d v/\aC G H ds r
end
mutual
theorem Rep.upM(s:aN H H'):∀(d:D) (v:V),Rep G H d v->Rep G H' d v
 |.non,_,h=>h
 |.bl _,_,h=>h
 |.int _,_,h=>h
 |.str _,_,h=>h
 |.lst ds,_,h_=>by obtain⟨a,vs,e,q,r⟩:=h_;exact⟨a,vs,e,s _ _ q,aC.upM s ds vs r⟩
 |.tup ds,_,h_=>by obtain⟨a,vs,e,q,r⟩:=h_;exact⟨a,vs,e,s _ _ q,aC.upM s ds vs r⟩
 |.kl ds,_,h_=>by obtain⟨a,vs,e,q,r⟩:=h_;exact⟨a,vs,e,s.seq q,aC.upM s ds vs r⟩
 |.kt ds,_,h_=>by obtain⟨a,vs,e,q,r⟩:=h_;exact⟨a,vs,e,s.tup q,aC.upM s ds vs r⟩
 |.dic _ ds,_,h_=>by obtain⟨a,vs,e,q,l,r⟩:=h_;exact⟨a,vs,e,s _ _ q,l,aC.upM s ds vs r⟩
 |.ins _ _ ds,_,h_=>by obtain⟨a,dx,vs,e,q,l,r⟩:=h_;exact⟨a,dx,vs,e,s _ _ q,l,aC.upM s ds vs r⟩
 |.kd _ ds,_,h_=>by obtain⟨a,od,vs,e,q,l,r⟩:=h_;exact⟨a,od,vs,e,s _ _ q,l,aC.upM s ds vs r⟩
 |.dT _ ds,_,h_=>by obtain⟨a,vs,e,q,l,r⟩:=h_;exact⟨a,vs,e,s _ _ q,l,aC.upM s ds vs r⟩
theorem aC.upM(s:aN H H'):∀(ds:LD) (vs:List V),aC G H ds vs->aC G H' ds vs
 | [],_,h=>h
 |d::ds,_,h_=>by obtain⟨v,r,e,b,c⟩:=h_;exact⟨v,r,e,Rep.upM s d v b,aC.upM s ds r c⟩
end
variable{G:Gc}{d:D}{v:V}
def Rep.up(r:Rep G H d v)(s:aN H H'):Rep G H' d v:=Rep.upM s d v r
variable{ds:LD}{vs:List V}
def aC.up(r:aC G H ds vs)(s:aN H H'):aC G H' ds vs:=aC.upM s ds vs r
def aC.nil:aC G H [] []:=rfl
def aC.cons(h:Rep G H d v)(t:aC G H ds vs):aC G H (d::ds) (v::vs):=⟨v,vs,rfl,h,t⟩
def aC.length:∀{ds:LD} {vs:List V},aC G H ds vs->ds.length=vs.length
 | [],_,h=>by cases (h);rfl
 |d::ds,_,⟨v,r,e,_,h⟩=>by subst e;simp[aC.length h]
def aC.append:∀{ds es:LD} {vs us:List V},aC G H ds vs->aC G H es us->aC G H (ds++es) (vs++us)
 | [],_,_,_,h,t=>by cases (h);exact t
 |d::ds,_,_,_,⟨v,r,e,h1,h2⟩,t=>by subst e;exact⟨v,r++_,rfl,h1,aC.append h2 t⟩
def aC.get:∀{ds:LD} {vs:List V} {i:Nat} {d:D},aC G H ds vs->ds[i]?=aa d->∃v,vs[i]?=aa v/\Rep G H d v
 | [],_,_,_,_,e=>by simp at e
 |d::ds,_,0,_,⟨v,r,e,h1,_⟩,e'=>by subst e;simp at e';subst e';exact⟨v,rfl,h1⟩
 |d::ds,_,i+1,d',q4_,e'=>by
  obtain⟨v,r,e,_,c⟩:=q4_;subst e;obtain⟨u,a,b⟩:=aC.get c (by simpa using e');exact⟨u,by simpa using a,b⟩
def aC.get':∀{ds:LD} {vs:List V} {i:Nat} {v:V},aC G H ds vs->vs[i]?=aa v->∃d,ds[i]?=aa d/\Rep G H d v:=λ{ds vs i v} h e=>by
 have c:=h.length;have hi:i<ds.length:=by have:=(dX.mp e).1;lia
 obtain⟨u,a,b⟩:=h.get (i:=i) (d:=ds[i]) (by simp[hi]);rw[e]at a;cases a;exact⟨ds[i],by simp[hi],b⟩
def aC.ints:∀(ns:List Int),aC G H (ns.map D.int) (ns.map V.int)
 | []=>rfl
 |n::ns=>⟨_,_,rfl,rfl,aC.ints ns⟩
def aC.take:∀{ds:LD} {vs:List V} (n:Nat),aC G H ds vs->aC G H (ds.take n) (vs.take n)
 | _,_,0,_=>rfl
 | [],_,n+1,h=>by cases (h);rfl
 |d::ds,_,n+1,⟨v,r,e,h1,h2⟩=>by subst e;exact⟨v,r.take n,rfl,h1,aC.take n h2⟩
def aC.drop:∀{ds:LD} {vs:List V} (n:Nat),aC G H ds vs->aC G H (ds.drop n) (vs.drop n)
 | _,_,0,h=>h
 | [],_,n+1,h=>by cases (h);rfl
 |d::ds,_,n+1,⟨v,r,e,h1,h2⟩=>by subst e;exact aC.drop n h2
def aC.set:∀{ds:LD} {vs:List V} (i:Nat) {d:D} {v:V},aC G H ds vs->Rep G H d v->aC G H (ds.set i d) (vs.set i v)
 | [],_,_,_,_,h,_=>by cases (h);exact .nil
 |e::ds,_,0,_,_,⟨v,r,e',_,h2⟩,q=>by subst e';exact⟨_,r,rfl,q,h2⟩
 |e::ds,_,i+1,_,_,⟨v,r,e',h1,h2⟩,q=>by subst e';exact⟨v,r.set i _,rfl,h1,aC.set i h2 q⟩
abbrev jU:HO->Bool
 |.tup _=>af
 | _=>aj
structure Ext(Hf H Hf' H':Hp):Prop where
 f:aN Hf Hf'
 h:aN H H'
 s:aN Hf' H'
 n:∀l o,H l=aa o->jU o=aj->Hf' l=Hf l
variable{Hf:Hp}
def Ext.refl(s:aN Hf H):Ext Hf H Hf H:=⟨aN.refl _,aN.refl _,s,λ_ _ _ _=>rfl⟩
variable{b7 cc:Hp}
def Ext.trans(a:Ext Hf H b7 H1)(b:Ext b7 H1 cc H2):Ext Hf H cc H2:=⟨a.f.trans b.f,a.h.trans b.h,b.s,λl o e t=>(b.n l o (a.h l o e) t).trans (a.n l o e t)⟩
def Ext.new(s:aN Hf H)(h:H p=ae):Ext Hf H (upd Hf p o) (upd H p o):=
 ⟨cv (s.free h),cv h,λb u e=>by
  by_cases c:b=p
  .subst c;rw[bN]at e ⊢;exact e
  .rw[bW c]at e ⊢;exact s b u e,λl u e _=>by rw[bW (ik e h)]⟩
def Ext.tmp(s:aN Hf H)(h:H p=ae):Ext Hf H Hf (upd H p o):=⟨aN.refl _,cv h,s.trans (cv h),λ_ _ _ _=>rfl⟩
def Ext.grow(s:aN Hf H)(g:aN H H1):Ext Hf H Hf H1:=⟨aN.refl _,g,s.trans g,λ_ _ _ _=>rfl⟩
def Ext.fix(a:Ext Hf H b7 H1)(m:H p=ae)(j:b7 p=ae)(q:H1 p=aa o):Ext Hf H (upd b7 p o) H1:=
 ⟨a.f.trans (cv j),a.h,λb u e=>by
  by_cases c:b=p
  .subst c;rw[bN]at e;rw[q];exact e
  .rw[bW c]at e;exact a.s b u e,λl u e t=>by rw[bW (ik e m)];exact a.n l u e t⟩
inductive O where
 |fz (d:D)
 |lst (xs:List O)
 |tup (xs:List O)
 |dic (ks:List Key) (xs:List O)
 |ins (c:Str) (ns:LSt) (xs:List O)
 |jnk (n:Nat)
 |dT (ks:List (List Key)) (xs:List O)
 |at (l:Addr) (o:O)
 |any
 deriving Inhabited
mutual
def OT(G:Gc)(Hf H:Hp):O->V->LAd->Prop
 |.fz d,v,fp=>Rep G Hf d v/\fp=[]
 |.lst os,v,fp=>∃a vs fs,v=.ref a/\H a=aa (.lst vs)/\OTs G Hf H os vs fs/\fp=a::fs
 |.tup os,v,fp=>∃a vs,v=.ref a/\H a=aa (.tup vs)/\OTs G Hf H os vs fp
 |.dic ks os,v,fp=>∃a vs fs,v=.ref a/\H a=aa (.dK (ks.zip vs))/\ks.length=vs.length/\OTs G Hf H os vs fs/\fp=a::fs
 |.ins c ns os,v,fp=>∃a dx vs fs,v=.ref a/\H a=aa (.ins (G.cl c) dx (ns.zip vs))/\ns.length=vs.length/\OTs G Hf H os vs fs/\fp=a::fs
 |.jnk n,v,fp=>∃a vs,v=.ref a/\H a=aa (.lst vs)/\vs.length<=n/\fp=[a]
 |.dT ks os,v,fp=>∃a vs fs,v=.ref a/\H a=aa (.dT (ks.zip vs))/\ks.length=vs.length/\OTs G Hf H os vs fs/\fp=a::fs
 |.at l o,v,fp=>v=.ref l/\OT G Hf H o v fp
 |.any,_,fp=>fp=[]
def OTs(G:Gc)(Hf H:Hp):List O->List V->LAd->Prop
 | [],vs,fp=>vs=[]/\fp=[]
 |o::os,vs,fp=>∃v r f1 f2,vs=v::r/\OT G Hf H o v f1/\OTs G Hf H os r f2/\fp=f1++f2
end
mutual
noncomputable def O.toD:O->D
 |.fz d=>d
 |.lst os=>.lst (O.toDs os)
 |.tup os=>.tup (O.toDs os)
 |.dic ks os=>.dic ks (O.toDs os)
 |.ins c ns os=>.ins c ns (O.toDs os)
 |.at _ o=>o.toD
 |.jnk _=>.non
 |.dT ks os=>.dT ks (O.toDs os)
 |.any=>.non
noncomputable def O.toDs:List O->LD
 | []=>[]
 |o::os=>o.toD::O.toDs os
end
mutual
noncomputable def O.kn:O->Bool
 |.fz _=>af
 |.lst os=>O.kns os
 |.tup os=>O.kns os
 |.dic _ os=>O.kns os
 |.ins _ _ os=>O.kns os
 |.at _ o=>o.kn
 |.jnk _=>aj
 |.dT _ os=>O.kns os
 |.any=>aj
noncomputable def O.kns:List O->Bool
 | []=>af
 |o::os=>o.kn && O.kns os
end
mutual
theorem OT.frameM(f:aN Hf Hf'):∀(o:O) (v:V) (fp:LAd),OT G Hf H o v fp->(∀b u,H b=aa u->(jU u=af\/b∈fp)->H' b=aa u)->OT G Hf' H' o v fp
 |.fz d,_,_,h,_=>⟨h.1.up f,h.2⟩
 |.lst os,_,fp,h_,k=>by obtain⟨a,vs,fs,e,q,r,j⟩:=h_;exact⟨a,vs,fs,e,k _ _ q (.inr (by rw[j];exact bR)),OTs.frameM f os vs fs r (λb u l m=>k b u l (m.imp_right λz=>by rw[j];exact cE _ z)),j⟩
 |.tup os,_,fp,h_,k=>by obtain⟨a,vs,e,q,r⟩:=h_;exact⟨a,vs,e,k _ _ q (.inl rfl),OTs.frameM f os vs fp r k⟩
 |.dic ks os,_,fp,h_,k=>by obtain⟨a,vs,fs,e,q,z,r,j⟩:=h_;exact⟨a,vs,fs,e,k _ _ q (.inr (by rw[j];exact bR)),z,OTs.frameM f os vs fs r (λb u l m=>k b u l (m.imp_right λz=>by rw[j];exact cE _ z)),j⟩
 |.ins c ns os,_,fp,h_,k=>by obtain⟨a,dx,vs,fs,e,q,z,r,j⟩:=h_;exact⟨a,dx,vs,fs,e,k _ _ q (.inr (by rw[j];exact bR)),z,OTs.frameM f os vs fs r (λb u l m=>k b u l (m.imp_right λz=>by rw[j];exact cE _ z)),j⟩
 |.jnk n,_,fp,h_,k=>by obtain⟨a,vs,e,q,z,j⟩:=h_;exact⟨a,vs,e,k _ _ q (.inr (by rw[j];exact bR)),z,j⟩
 |.dT ks os,_,fp,h_,k=>by obtain⟨a,vs,fs,e,q,z,r,j⟩:=h_;exact⟨a,vs,fs,e,k _ _ q (.inr (by rw[j];exact bR)),z,OTs.frameM f os vs fs r (λb u l m=>k b u l (m.imp_right λz=>by rw[j];exact cE _ z)),j⟩
 |.at _ o,v,fp,h_,k=>by obtain⟨e,r⟩:=h_;exact⟨e,OT.frameM f o v fp r k⟩
 |.any,_,_,h,_=>h
theorem OTs.frameM(f:aN Hf Hf'):∀(os:List O) (vs:List V) (fp:LAd),OTs G Hf H os vs fp->(∀b u,H b=aa u->(jU u=af\/b∈fp)->H' b=aa u)->OTs G Hf' H' os vs fp
 | [],_,_,h,_=>h
 |o::os,_,fp,h_,k=>by obtain⟨v,r,f1,f2,e,m,n,c⟩:=h_;exact⟨v,r,f1,f2,e,OT.frameM f o v f1 m (λb u j l=>k b u j (l.imp_right λz=>by rw[c];exact jH _ z)),OTs.frameM f os r f2 n (λb u j l=>k b u j (l.imp_right λz=>by rw[c];exact ib _ z)),c⟩
end
variable{Hf':Hp}{o:O}
def OT.frame(h:OT G Hf H o v fp)(f:aN Hf Hf')(k:∀b u,H b=aa u->(jU u=af\/b∈fp)->H' b=aa u):OT G Hf' H' o v fp:=OT.frameM f o v fp h k
def OT.up(h:OT G Hf H o v fp)(f:aN Hf Hf')(s:aN H H'):OT G Hf' H' o v fp:=h.frame f λb u e _=>s b u e
def sj{b c:Type}:∀{ks:List b} {vs us:List c},ks.length=vs.length->ks.length=us.length->ks.zip vs=ks.zip us->vs=us
 | [],[],[],_,_,_=>rfl
 |k::ks,v::vs,u::us,h1,h2,e=>by
  injection e with e1 e2
  injection e1 with _ e3
  rw[e3,sj (by simpa using h1) (by simpa using h2) e2]
 | [],_::_,_,h,_,_=>by cases h
 | [],[],_::_,_,h,_=>by cases h
 | _::_,[],_,h,_,_=>by cases h
 | _::_,_::_,[],_,h,_=>by cases h
mutual
theorem OT.funM:∀(o:O) (v:V) (f I:LAd),OT G Hf H o v f->OT G Hf' H o v I->f=I
 |.fz d,_,_,_,h,h'=>h.2.trans h'.2.symm
 |.lst os,_,_,_,q4_,q5_=>by
  obtain⟨a,vs,fs,e,q,r,y⟩:=q4_;obtain⟨M,u,j,m,l,B,b⟩:=q5_;subst e y b;cases m;rw[q]at l;cases l
  rw[OTs.funM os vs fs j r B]
 |.tup os,_,f,I,q4_,q5_=>by
  obtain⟨a,vs,e,q,r⟩:=q4_;obtain⟨M,u,m,l,B⟩:=q5_;subst e;cases m;rw[q]at l;cases l
  exact OTs.funM os vs f I r B
 |.dic ks os,_,_,_,q4_,q5_=>by
  obtain⟨a,vs,fs,e,q,z,r,y⟩:=q4_;obtain⟨M,u,j,m,l,L,B,b⟩:=q5_;subst e y b;cases m;rw[q]at l;have:=sj z L (HO.dK.inj (cu l));subst this
  rw[OTs.funM os vs fs j r B]
 |.ins c ns os,_,_,_,q4_,q5_=>by
  obtain⟨a,dx,vs,fs,e,q,z,r,y⟩:=q4_;obtain⟨M,T,u,j,m,l,L,B,b⟩:=q5_;subst e y b;cases m;rw[q]at l;have:=sj z L (HO.ins.inj (cu l)).2.2;subst this
  rw[OTs.funM os vs fs j r B]
 |.jnk n,_,_,_,q4_,q5_=>by
  obtain⟨a,vs,e,q,z,y⟩:=q4_;obtain⟨M,u,m,l,L,b⟩:=q5_;subst e y b;cases m
  rfl
 |.dT ks os,_,_,_,q4_,q5_=>by
  obtain⟨a,vs,fs,e,q,z,r,y⟩:=q4_;obtain⟨M,u,j,m,l,L,B,b⟩:=q5_;subst e y b;cases m;rw[q]at l;have:=sj z L (HO.dT.inj (cu l));subst this
  rw[OTs.funM os vs fs j r B]
 |.at _ o,v,f,I,h,h'=>OT.funM o v f I h.2 h'.2
 |.any,_,_,_,h,h'=>(show _=[]from h).trans (show _=[]from h').symm
theorem OTs.funM:∀(os:List O) (vs:List V) (f n:LAd),OTs G Hf H os vs f->OTs G Hf' H os vs n->f=n
 | [],_,_,_,h,h'=>h.2.trans h'.2.symm
 |o::os,_,_,_,q4_,q5_=>by
  obtain⟨v,r,f1,f2,e,y,z,u⟩:=q4_;obtain⟨I,B,c,j,q,l,m,b⟩:=q5_;subst e u b;cases q;rw[OT.funM o v f1 c y l,OTs.funM os r f2 j z m]
end
mutual
theorem OT.memM:∀(o:O) (v:V) (f:LAd),OT G Hf H o v f->∀a∈f,∃u,H a=aa u/\jU u=aj
 |.fz d,_,_,h,a,ha=>by rw[h.2]at ha;cases ha
 |.lst os,_,_,q3_,b,hb=>by
  obtain⟨a,vs,fs,e,q,r,j⟩:=q3_;subst j
  rcases bM.mp hb with z |z
  .subst z;exact⟨_,q,rfl⟩
  .exact OTs.memM os vs fs r b z
 |.tup os,_,f,⟨a,vs,e,q,r⟩,b,hb=>OTs.memM os vs f r b hb
 |.dic ks os,_,_,q3_,b,hb=>by
  obtain⟨a,vs,fs,e,q,z,r,j⟩:=q3_;subst j
  rcases bM.mp hb with z |z
  .subst z;exact⟨_,q,rfl⟩
  .exact OTs.memM os vs fs r b z
 |.ins c ns os,_,_,q3_,b,hb=>by
  obtain⟨a,dx,vs,fs,e,q,z,r,j⟩:=q3_;subst j
  rcases bM.mp hb with z |z
  .subst z;exact⟨_,q,rfl⟩
  .exact OTs.memM os vs fs r b z
 |.jnk n,_,_,q3_,b,hb=>by
  obtain⟨a,vs,e,q,z,j⟩:=q3_;subst j;rw[bj.mp hb]
  exact⟨_,q,rfl⟩
 |.dT ks os,_,_,q3_,b,hb=>by
  obtain⟨a,vs,fs,e,q,z,r,j⟩:=q3_;subst j
  rcases bM.mp hb with z |z
  .subst z;exact⟨_,q,rfl⟩
  .exact OTs.memM os vs fs r b z
 |.at _ o,v,f,h,a,ha=>OT.memM o v f h.2 a ha
 |.any,_,_,h,a,ha=>by rw[show _=[]from h]at ha;cases ha
theorem OTs.memM:∀(os:List O) (vs:List V) (f:LAd),OTs G Hf H os vs f->∀a∈f,∃u,H a=aa u/\jU u=aj
 | [],_,_,h,a,ha=>by rw[h.2]at ha;cases ha
 |o::os,_,_,q3_,a,ha=>by
  obtain⟨v,r,f1,f2,e,c,j,b⟩:=q3_;subst b
  rcases b8.mp ha with z |z
  .exact OT.memM o v f1 c a z
  .exact OTs.memM os r f2 j a z
end
mutual
theorem OT.repM(s:aN Hf H):∀(o:O) (v:V) (f:LAd),o.kn=af->OT G Hf H o v f->Rep G H o.toD v
 |.fz d,_,_,_,h=>by rw[O.toD];exact h.1.up s
 |.lst os,_,_,hk,h_=>by obtain⟨a,vs,fs,e,q,r,b⟩:=h_;rw[O.kn]at hk;rw[O.toD];exact⟨a,vs,e,q,OTs.repM s os vs fs hk r⟩
 |.tup os,_,f,hk,h_=>by obtain⟨a,vs,e,q,r⟩:=h_;rw[O.kn]at hk;rw[O.toD];exact⟨a,vs,e,q,OTs.repM s os vs f hk r⟩
 |.dic ks os,_,_,hk,h_=>by obtain⟨a,vs,fs,e,q,z,r,b⟩:=h_;rw[O.kn]at hk;rw[O.toD];exact⟨a,vs,e,q,z,OTs.repM s os vs fs hk r⟩
 |.ins c ns os,_,_,hk,h_=>by obtain⟨a,dx,vs,fs,e,q,z,r,b⟩:=h_;rw[O.kn]at hk;rw[O.toD];exact⟨a,dx,vs,e,q,z,OTs.repM s os vs fs hk r⟩
 |.at _ o,v,f,hk,h=>by rw[O.kn]at hk;rw[O.toD];exact OT.repM s o v f hk h.2
 |.jnk _,_,_,hk,_=>by rw[O.kn]at hk;cases hk
 |.dT ks os,_,_,hk,h_=>by obtain⟨a,vs,fs,e,q,z,r,b⟩:=h_;rw[O.kn]at hk;rw[O.toD];exact⟨a,vs,e,q,z,OTs.repM s os vs fs hk r⟩
 |.any,_,_,hk,_=>by rw[O.kn]at hk;cases hk
theorem OTs.repM(s:aN Hf H):∀(os:List O) (vs:List V) (f:LAd),O.kns os=af->OTs G Hf H os vs f->aC G H (O.toDs os) vs
 | [],_,_,_,h=>by rw[O.toDs];exact h.1
 |o::os,_,_,hk,h_=>by
  obtain⟨v,r,f1,f2,e,b,c,j⟩:=h_;rw[O.kns,dy]at hk;rw[O.toDs];exact⟨v,r,e,OT.repM s o v f1 hk.1 b,OTs.repM s os r f2 hk.2 c⟩
end
def OT.rep{f:LAd}(h:OT G Hf H o v f)(s:aN Hf H)(b:o.kn=af):Rep G H o.toD v:=OT.repM s o v f b h
inductive Sl where
 |no
 |im (d:D)
 |own (xs:LD)
 |ownd (ks:List Key) (xs:LD)
 |obj (c:Str) (ns:LSt) (xs:LD)
 |pin (l:Addr) (xs:LD)
 |pind (l:Addr) (ks:List Key) (xs:LD)
 |pino (l:Addr) (c:Str) (ns:LSt) (xs:LD)
 |deep (o:O)
 |val (u:V)
nonrec abbrev LS:=List Sl
@[reducible]noncomputable def nZ{b:Type}:LS->Option (List b):=λ_=>aa []
@[reducible]noncomputable def kY:LS->Option Bool:=λ_=>aa af
@[reducible]noncomputable def kN:LS->OD:=λ_=>aa .non
@[reducible]noncomputable def kI(i:Int):LS->OD:=λ_=>aa (.int i)
@[reducible]noncomputable def kSt(x:Str):LS->OD:=λ_=>aa (.str x)
@[reducible]noncomputable def kBl(b:Bool):LS->OD:=λ_=>aa (.bl b)
nonrec abbrev MF1:=LS->OD
nonrec abbrev MF2:=LS->OLD
nonrec abbrev MF4:=LS->Option Bool
abbrev Sl.isOwn:Sl->Bool
 |.own _=>af
 |.ownd _ _=>af
 |.obj _ _ _=>af
 |.pin _ _=>af
 |.pind _ _ _=>af
 |.pino _ _ _ _=>af
 | _=>aj
abbrev Sl.calm:Sl->Bool
 |.no=>af
 |.im _=>af
 | _=>aj
abbrev gX(G:Gc)(Hf H:Hp)(l:Addr):Sl->Prop
 |.own ds=>∃vs,H l=aa (.lst vs)/\aC G Hf ds vs
 |.ownd ks ds=>∃vs,H l=aa (.dK (ks.zip vs))/\ks.length=vs.length/\aC G Hf ds vs
 |.obj c ns ds=>∃dx vs,H l=aa (.ins (G.cl c) dx (ns.zip vs))/\ns.length=vs.length/\aC G Hf ds vs
 |.pin b ds=>l=b/\∃vs,H l=aa (.lst vs)/\aC G Hf ds vs
 |.pind b ks ds=>l=b/\∃vs,H l=aa (.dK (ks.zip vs))/\ks.length=vs.length/\aC G Hf ds vs
 |.pino b c ns ds=>l=b/\∃dx vs,H l=aa (.ins (G.cl c) dx (ns.zip vs))/\ns.length=vs.length/\aC G Hf ds vs
 | _=>False
variable{l:Addr}{s:Sl}
def gX.there2(h:gX G Hf H l s):∃o,H l=aa o/\jU o=aj:=by
 cases s with
 |own ds=>obtain⟨vs,h,_⟩:=h;exact⟨_,h,rfl⟩
 |ownd ks ds=>obtain⟨vs,h,_⟩:=h;exact⟨_,h,rfl⟩
 |obj c ns ds=>obtain⟨dx,vs,h,_⟩:=h;exact⟨_,h,rfl⟩
 |pin b ds=>obtain⟨_,vs,h,_⟩:=h;exact⟨_,h,rfl⟩
 |pind b ks ds=>obtain⟨_,vs,h,_⟩:=h;exact⟨_,h,rfl⟩
 |pino b c ns ds=>obtain⟨_,dx,vs,h,_⟩:=h;exact⟨_,h,rfl⟩
 | _=>exact h.elim
def gX.up(h:gX G Hf H l s)(f:aN Hf Hf')(e:∀o,H l=aa o->H' l=aa o):gX G Hf' H' l s:=by
 cases s with
 |own ds=>obtain⟨vs,h,r⟩:=h;exact⟨vs,e _ h,r.up f⟩
 |ownd ks ds=>obtain⟨vs,h,z,r⟩:=h;exact⟨vs,e _ h,z,r.up f⟩
 |obj c ns ds=>obtain⟨dx,vs,h,z,r⟩:=h;exact⟨dx,vs,e _ h,z,r.up f⟩
 |pin b ds=>obtain⟨q,vs,h,r⟩:=h;exact⟨q,vs,e _ h,r.up f⟩
 |pind b ks ds=>obtain⟨q,vs,h,z,r⟩:=h;exact⟨q,vs,e _ h,z,r.up f⟩
 |pino b c ns ds=>obtain⟨q,dx,vs,h,z,r⟩:=h;exact⟨q,dx,vs,e _ h,z,r.up f⟩
 | _=>exact h.elim
abbrev gF(G:Gc)(H0 Hf H:Hp)(v:Option V):Sl->Prop
 |.no=>True
 |.im d=>∃u,v=aa u/\Rep G Hf d u
 |.deep o=>∃u fp,v=aa u/\OT G Hf H o u fp/\fp.Nodup/\∀a∈fp,H0 a=ae/\Hf a=ae
 |.val u=>v=aa u
 |s=>∃l,v=aa (.ref l)/\H0 l=ae/\Hf l=ae/\gX G Hf H l s
variable{H0:Hp}
def gF.own{v:Option V}(b:s.isOwn=af)(h:gF G H0 Hf H v s):∃l,v=aa (.ref l)/\H0 l=ae/\Hf l=ae/\gX G Hf H l s:=by
 cases s <;> first |exact h |cases b
def gF.ofOwn{v:Option V}(b:s.isOwn=af)(h:∃l,v=aa (.ref l)/\H0 l=ae/\Hf l=ae/\gX G Hf H l s):gF G H0 Hf H v s:=by
 cases s <;> first |exact h |cases b
abbrev Holds(G:Gc)(Hf H:Hp)(s:Sl)(v:V)(a:Addr):Prop:=match s with
 |.deep o=>∃fp,OT G Hf H o v fp/\a∈fp
 |s=>s.isOwn=af/\v=.ref a
def Holds.own(b:s.isOwn=af):Holds G Hf H s v a↔v=.ref a:=by
 cases s <;> first |exact⟨λh=>h.2,λh=>⟨rfl,h⟩⟩ |nomatch b
def Holds.calm(h:Holds G Hf H s v a)(b:s.calm=af):False:=by
 cases s <;> first |exact qL h.1 |nomatch b
def gF.back(q:gF G H0 Hf H (aa v) s)(k:∀o fp,s=.deep o->OT G Hf H o v fp->OT G Hf' H' o v fp)(h:Holds G Hf' H' s v a):Holds G Hf H s v a:=by
 cases s with
 |deep o=>
  obtain⟨u,fp,e,r,_⟩:=q;cases e;obtain⟨fp',c,b⟩:=h;have:=OT.funM o v fp fp' (k o fp rfl r) c;subst this
  exact⟨fp,r,b⟩
 | _=>exact h
def gF.there(q:gF G H0 Hf H (aa v) s)(h:Holds G Hf H s v a):∃o,H a=aa o/\jU o=aj:=by
 cases b:s.isOwn with
 |true=>
  obtain⟨l,e,_,_,f⟩:=q.own b;cases e;cases ((Holds.own b).mp h)
  exact f.there2
 |false=>
  cases s with
  |deep o=>
   obtain⟨fp,r,c⟩:=h
   exact OT.memM o v fp r a c
  | _=>first |exact qL h.1 |nomatch b
structure aM(G:Gc)(Hf0 H0 Hf H:Hp)(σ:St)(ρ:LS):Prop where
 ext:Ext Hf0 H0 Hf H
 len:σ.length=ρ.length
 at':∀(i:Nat) (v:Option V) (s:Sl),σ[i]?=aa v->ρ[i]?=aa s->gF G H0 Hf H v s
 dj:∀(i j:Nat) (s t:Sl) (v w:V) (a:Addr),ρ[i]?=aa s->ρ[j]?=aa t->σ[i]?=aa (aa v)->σ[j]?=aa (aa w)->Holds G Hf H s v a->Holds G Hf H t w a->i=j
variable{Hf0:Hp}{ρ:LS}
def aM.sub(h:aM G Hf0 H0 Hf H σ ρ):aN Hf H:=h.ext.s
def aM.inj(h:aM G Hf0 H0 Hf H σ ρ)(i j:Nat)(s t:Sl)(l:Addr)(a:ρ[i]?=aa s)(b:ρ[j]?=aa t)(f:s.isOwn=af)(m:t.isOwn=af)(c:σ[i]?=aa (aa (.ref l)))(d:σ[j]?=aa (aa (.ref l))):i=j:=
 h.dj i j s t _ _ l a b c d ((Holds.own f).mpr rfl) ((Holds.own m).mpr rfl)
variable{ρ':LS}
def aM.re{m n:Hp}(h:aM G Hf0 H0 Hf H σ ρ)(x:Ext m n Hf' H')(z:ρ'.length=ρ.length)(y:∀(i:Nat) (v:Option V) (s:Sl),σ[i]?=aa v->ρ'[i]?=aa s->gF G n Hf' H' v s)
 (hd:∀(i:Nat) (s:Sl) (v:V) (a:Addr),ρ'[i]?=aa s->σ[i]?=aa (aa v)->Holds G Hf' H' s v a->∃t,ρ[i]?=aa t/\Holds G Hf H t v a):aM G m n Hf' H' σ ρ':=
 ⟨x,h.len.trans z.symm,y,λi j s t v w a b c e f p q=>by
  obtain⟨L,r,B⟩:=hd i s v a b e p;obtain⟨t0,u,I⟩:=hd j t w a c f q;exact h.dj i j L t0 v w a r u e f B I⟩
def aM.step(h:aM G Hf0 H0 Hf H σ ρ)(e:Ext Hf H Hf' H'):aM G Hf0 H0 Hf' H' σ ρ:=by
 refine h.re (h.ext.trans e) rfl (λi v s a b=>?_) λi s v a b c d=>⟨s,b,(h.at' i _ s c b).back (λo fp _ r=>r.up e.f e.h) d⟩;have q:=h.at' i v s a b
 cases B:s.isOwn with
 |true=>
  obtain⟨l,j,M,T,L⟩:=q.own B;obtain⟨o,m,I⟩:=L.there2
  exact .ofOwn B ⟨l,j,M,by rw[e.n l o m I];exact T,L.up e.f λo m=>e.h _ _ m⟩
 |false=>
  cases s with
  |no=>trivial
  |im d=>obtain⟨u,j,r⟩:=q;exact⟨u,j,r.up e.f⟩
  |val u=>exact q
  |deep o=>
   obtain⟨u,fp,j,r,n,z⟩:=q;refine⟨u,fp,j,r.up e.f e.h,n,λa y=>⟨(z a y).1,?_⟩⟩;obtain⟨U,m,I⟩:=OT.memM o u fp r a y;rw[e.n a U m I]
   exact(z a y).2
  | _=>nomatch B
def aM.slot(h:aM G Hf0 H0 Hf H σ ρ)(e:ρ[i]?=aa s):∃v,σ[i]?=aa v/\gF G H0 Hf H v s:=by
 have hi:i<σ.length:=by rw[h.len];exact(dX.mp e).1
 exact⟨σ[i],by simp[hi],h.at' i _ s (by simp[hi]) e⟩
def aM.imm(h:aM G Hf0 H0 Hf H σ ρ)(e:ρ[i]?=aa (.im d)):∃v,σ[i]?=aa (aa v)/\Rep G Hf d v:=by
 obtain⟨v,b,u,c,r⟩:=h.slot e;subst c;exact⟨u,b,r⟩
def aM.ownAt(f:s.isOwn=af)(h:aM G Hf0 H0 Hf H σ ρ)(e:ρ[i]?=aa s):∃l,σ[i]?=aa (aa (.ref l))/\H0 l=ae/\Hf l=ae/\gX G Hf H l s:=by
 obtain⟨v,b,q⟩:=h.slot e;obtain⟨l,c,j⟩:=q.own f;rw[c]at b;exact⟨l,b,j⟩
variable{j:Nat}
def dH{c:Type}{l:List c}{x y:c}(h:(l.set i x)[j]?=aa y):(j=i/\y=x/\i<l.length)\/(j≠i/\l[j]?=aa y):=by
 by_cases b:j=i
 .subst b;left;have hi:j<l.length:=by have:=(dX.mp h).1;simpa using this
  rw[gP hi]at h;exact⟨rfl,(cu h).symm,hi⟩
 .right;rw[gQ (cq b)]at h;exact⟨b,h⟩
def aM.setIm(h:aM G Hf0 H0 Hf H σ ρ)(r:Rep G Hf d v):aM G Hf0 H0 Hf H (σ.set i (aa v)) (ρ.set i (.im d)):=by
 refine⟨h.ext,by simpa using h.len,λj u s a b=>?_,λj k s t u w l a b c d' p q=>?_⟩
 .rcases dH b with⟨e,f,_⟩ |⟨e,b⟩
  .subst e f
   rcases dH a with⟨_,f,_⟩ |⟨e,_⟩
   .subst f;exact⟨v,rfl,r⟩
   .exact absurd rfl e
  .rcases dH a with⟨f,_⟩ |⟨_,a⟩
   .exact absurd f e
   .exact h.at' j u s a b
 .rcases dH a with⟨e,f,_⟩ |⟨e,a⟩
  .subst f;exact(p.calm rfl).elim
  .rcases dH b with⟨m,f,_⟩ |⟨m,b⟩
   .subst f;exact(q.calm rfl).elim
   .rcases dH c with⟨f,_⟩ |⟨_,c⟩
    .exact absurd f e
    .rcases dH d' with⟨f,_⟩ |⟨_,d'⟩
     .exact absurd f m
     .exact h.dj j k s t u w l a b c d' p q
variable{u:V}
def aM.setNew(h:aM G Hf0 H0 Hf H σ ρ)(e:Ext Hf H Hf' H')(B:gF G H0 Hf' H' (aa u) s)(L:∀a,Holds G Hf' H' s u a->H a=ae):
  aM G Hf0 H0 Hf' H' (σ.set i (aa u)) (ρ.set i s):=by
 have h':=h.step e
 have no:∀j t w a,ρ[j]?=aa t->σ[j]?=aa _->Holds G Hf' H' t w a->Holds G Hf' H' s u a->False:=λj t w a b c p q=>by
  obtain⟨o,B,_⟩:=(h.at' j _ t c b).there ((h.at' j _ t c b).back (λo fp _ r=>r.up e.f e.h) p);rw[L a q]at B;nomatch B
 refine⟨h'.ext,by simpa using h.len,λj w t a b=>?_,λj k t t' v w l a b c d' p q=>?_⟩
 .rcases dH b with⟨e,m,_⟩ |⟨e,b⟩
  .subst e m
   rcases dH a with⟨_,m,_⟩ |⟨e,_⟩
   .subst m;exact B
   .exact absurd rfl e
  .rcases dH a with⟨m,_⟩ |⟨_,a⟩
   .exact absurd m e
   .exact h'.at' j w t a b
 .rcases dH a with⟨z,I,_⟩ |⟨z,a⟩
  .rcases dH b with⟨n,y,_⟩ |⟨n,b⟩
   .rw[z,n]
   .rcases dH c with⟨_,m,_⟩ |⟨m,_⟩
    .cases m;rw[I]at p
     rcases dH d' with⟨m,_⟩ |⟨_,d'⟩
     .exact absurd m n
     .exact(no k t' w l b d' q p).elim
    .exact absurd z m
  .rcases dH c with⟨m,_⟩ |⟨_,c⟩
   .exact absurd m z
   .rcases dH b with⟨n,y,_⟩ |⟨n,b⟩
    .rcases dH d' with⟨_,m,_⟩ |⟨m,_⟩
     .cases m;rw[y]at q;exact(no j t v l a c p q).elim
     .exact absurd n m
    .rcases dH d' with⟨m,_⟩ |⟨_,d'⟩
     .exact absurd m n
     .exact h'.dj j k t t' v w l a b c d' p q
def aM.setOwn(c:s.isOwn=af)(h:aM G Hf0 H0 Hf H σ ρ)(e:Ext Hf H Hf' H')(b:H l=ae)(f:Hf' l=ae)(m:gX G Hf' H' l s):
  aM G Hf0 H0 Hf' H' (σ.set i (aa (.ref l))) (ρ.set i s):=
 h.setNew e (.ofOwn c ⟨l,rfl,h.ext.h.free b,f,m⟩) λa p=>by cases (Holds.own c).mp p;exact b
variable{s':Sl}
def aM.chg(h:aM G Hf0 H0 Hf H σ ρ)(e:ρ[i]?=aa s)(el:σ[i]?=aa (aa v))(k:∀b u,H b=aa u->Holds G Hf H s v b\/H' b=aa u)(ho:gF G H0 Hf H' (aa v) s')
 (hh:∀a,Holds G Hf H' s' v a->Holds G Hf H s v a\/∀(j:Nat) (t:Sl) (w:V),ρ[j]?=aa t->σ[j]?=aa (aa w)->Holds G Hf H t w a->False):aM G Hf0 H0 Hf H' σ (ρ.set i s'):=by
 have q:=h.at' i _ s el e
 have B:∀b,Holds G Hf H s v b->H0 b=ae/\Hf b=ae:=λb p=>by
  cases hs:s.isOwn with
  |true=>
   obtain⟨l,U,h0,hf,_⟩:=q.own hs;have I:=(Holds.own hs).mp p;cases U;cases I
   exact⟨h0,hf⟩
  |false=>
   cases s with
   |deep o=>
    obtain⟨u,fp,U,r,n,z⟩:=q;cases U;obtain⟨fp',r',ha⟩:=p;have:=OT.funM o v fp fp' r r';subst this
    exact z b ha
   | _=>first |exact qL p.1 |nomatch hs
 have fr:∀j t w,j≠i->ρ[j]?=aa t->σ[j]?=aa (aa w)->∀o fp,t=.deep o->OT G Hf H o w fp->OT G Hf H' o w fp:=λj t w hj b c o fp et r=>by
  subst et;refine r.frame (aN.refl _) λx u hx hm=>?_
  rcases k x u hx with z |z
  .rcases hm with hm |hm
   .obtain⟨o',m,ht'⟩:=q.there z;rw[hx]at m;cases m;rw[hm]at ht'
    nomatch ht'
   .exact absurd (h.dj j i _ s w v x b e c el ⟨fp,r,hm⟩ z) hj
  .exact z
 refine⟨⟨h.ext.f,λb u e=>?_,λb u e=>?_,h.ext.n⟩,by simpa using h.len,λj u t a b=>?_,λj j' t t' w w' a b c b' c' p p'=>?_⟩
 .rcases k b u (h.ext.h b u e)with z |z
  .rw[(B b z).1]at e;nomatch e
  .exact z
 .rcases k b u (h.ext.s b u e)with z |z
  .rw[(B b z).2]at e;nomatch e
  .exact z
 .rcases dH b with⟨e',I,_⟩ |⟨en,b⟩
  .subst e' I;rw[el]at a;cases a;exact ho
  .have q':=h.at' j u t a b
   cases ht:t.isOwn with
   |false=>
    cases t with
    |no=>trivial
    |im d=>exact q'
    |val u=>exact q'
    |deep o=>
     obtain⟨w,fp,U,r,n,z⟩:=q';subst U
     exact⟨w,fp,rfl,fr j _ w en b a o fp rfl r,n,z⟩
    | _=>nomatch ht
   |true=>
    obtain⟨l2,I,e3,e4,q2⟩:=q'.own ht;subst I;refine .ofOwn ht ⟨l2,rfl,e3,e4,q2.up (aN.refl _) λo' m=>?_⟩
    rcases k l2 o' m with z |z
    .exact absurd (h.dj j i t s _ v l2 b e a el ((Holds.own ht).mpr rfl) z) en
    .exact z
 .have L:∀j t w,_[j]?=aa t->σ[j]?=aa (aa w)->Holds G Hf H' t w a->(j=i/\∀j t w,ρ[j]?=aa t->σ[j]?=aa (aa w)->Holds G Hf H t w a->False)\/∃t0,ρ[j]?=aa t0/\Holds G Hf H t0 w a:=λj t w b y p=>by
   rcases dH b with⟨e',I,_⟩ |⟨en,b⟩
   .rw[I]at p;rw[e',el]at y;cases y;rw[e']
    rcases hh a p with z |z
    .exact .inr ⟨s,e,z⟩
    .exact .inl ⟨rfl,z⟩
   .exact .inr ⟨t,b,(h.at' j _ t y b).back (fr j t w en b y) p⟩
  rcases L j t w b b' p with⟨z1,z2⟩ |⟨t0,z1,z2⟩
  .rcases L j' t' w' c c' p' with⟨M,T⟩ |⟨t1,M,T⟩
   .rw[z1,M]
   .exact(z2 j' t1 w' M c' T).elim
  .rcases L j' t' w' c c' p' with⟨M,T⟩ |⟨t1,M,T⟩
   .exact(T j t0 w z1 b' z2).elim
   .exact h.dj j j' t0 t1 w w' a z1 M b' c' z2 T
def aM.mutd{o:HO}(f:s.isOwn=af)(c:s'.isOwn=af)(h:aM G Hf0 H0 Hf H σ ρ)(e:ρ[i]?=aa s)(n:σ[i]?=aa (aa (.ref l)))(I:gX G Hf (upd H l o) l s'):
  aM G Hf0 H0 Hf (upd H l o) σ (ρ.set i s'):=by
 obtain⟨L,m,y,B,q⟩:=h.ownAt f e;rw[n]at m;cases m;refine h.chg e n (λb u z=>?_) (.ofOwn c ⟨l,rfl,y,B,I⟩) λa p=>.inl ((Holds.own f).mpr ((Holds.own c).mp p))
 by_cases r:b=l
 .subst r;exact .inl ((Holds.own f).mpr rfl)
 .exact .inr (by rw[bW r];exact z)
def aM.fixd{o:HO}(T:s.isOwn=af)(h:aM G Hf0 H0 Hf H σ ρ)(e:ρ[i]?=aa s)(B:σ[i]?=aa (aa (.ref l)))(ho:H l=aa o)(hr:Rep G (upd Hf l o) d (.ref l)):
  aM G Hf0 H0 (upd Hf l o) H σ (ρ.set i (.im d)):=by
 obtain⟨l',f,h0,m,q⟩:=h.ownAt T e;rw[B]at f;cases f;refine h.re (h.ext.fix h0 m ho) (by simp) (λj u t a b=>?_) λj t v a b c p=>?_
 .rcases dH b with⟨e,L,_⟩ |⟨en,b⟩
  .subst e L;rw[B]at a;cases a;exact⟨_,rfl,hr⟩
  .have q:=h.at' j u t a b
   cases I:t.isOwn with
   |false=>
    cases t with
    |no=>trivial
    |im d=>obtain⟨u',f,r⟩:=q;exact⟨u',f,r.up (cv m)⟩
    |val u'=>exact q
    |deep o=>
     obtain⟨w,fp,f,r,n,z⟩:=q;subst f;refine⟨w,fp,rfl,r.up (cv m) (aN.refl _),n,λx U=>⟨(z x U).1,?_⟩⟩;rw[bW (λy=>?_)]
     .exact(z x U).2
     .subst y
      exact en (h.dj j i _ s w _ x b e a B ⟨fp,r,U⟩ ((Holds.own T).mpr rfl))
    | _=>nomatch I
   |true=>
    obtain⟨l2,e2,e3,e4,q2⟩:=q.own I;subst e2;refine .ofOwn I ⟨l2,rfl,e3,?_,q2.up (cv m) λo' M=>M⟩;rw[bW (λz=>?_)]
    .exact e4
    .subst z;exact en (h.inj j i t s l2 b e I T a B)
 .rcases dH b with⟨_,L,_⟩ |⟨_,b⟩
  .subst L;exact(p.calm rfl).elim
  .exact⟨t,b,(h.at' j _ t c b).back (λo fp _ r=>r.up (cv m) (aN.refl _)) p⟩
def PE.imp(h:PE X e t)(i:∀σ H Q,t' σ H Q->t σ H Q):PE X e t':=λpins s σ H Q I q=>h pins s σ H Q I (i σ H Q q)
def PT.imp{t t':TT}(h:PT X e t)(i:∀σ H Q,t' σ H Q->t σ H Q):PT X e t':=λpins s σ H Q I q=>h pins s σ H Q I (i σ H Q q)
def PW.imp{t t':TT}(h:PW X e t)(i:∀σ H Q,t' σ H Q->t σ H Q):PW X e t':=λb pins s σ H Q I q=>h b pins s σ H Q I (i σ H Q q)
variable{es:LEx}
def PA.imp{t t':TA}(h:PA X es t)(i:∀σ H Q,t' σ H Q->t σ H Q):PA X es t':=λpos pins s σ H Q I q=>h pos pins s σ H Q I (i σ H Q q)
def PS.imp{st:Stmt}{t t':TS}(h:PS X st t)(i:∀E σ H,t' E σ H->t E σ H):PS X st t':=λpins s σ H E I q=>h pins s σ H E I (i E σ H q)
def PSs.imp{st:List Stmt}{t t':TS}(h:PSs X st t)(i:∀E σ H,t' E σ H->t E σ H):PSs X st t':=λpins s σ H E I q=>h pins s σ H E I (i E σ H q)
def PG.imp{t t':TG}(h:PG X e t)(i:∀v σ H Q,t' v σ H Q->t v σ H Q):PG X e t':=λpins s σ H v u Q I r q=>h pins s σ H v u Q I r (i v σ H Q q)
def PGs.imp{t t':TGs}(h:PGs X es t)(i:∀v σ H Q,t' v σ H Q->t v σ H Q):PGs X es t':=λpins s σ H v u Q I r q=>h pins s σ H v u Q I r (i v σ H Q q)
def PI.imp{t t':TI}(h:PI X tg e t)(i:∀σ H R,t' σ H R->t σ H R):PI X tg e t':=λpins s σ H R I q=>h pins s σ H R I (i σ H R q)
def PTs.imp{t t':TT}(h:PTs X dw t)(i:∀σ H Q,t' σ H Q->t σ H Q):PTs X dw t':=λpins s σ H Q I q=>h pins s σ H Q I (i σ H Q q)
def OpR.imp{f:Value->Value->Sem Value}{r b:R2}(h:OpR X f r)(i:∀x y H Q,b x y H Q->r x y H Q):OpR X f b:=λpins s σ H x y v u Q I c m q=>h pins s σ H x y v u Q I c m (i x y H Q q)
def d7.imp{f:Value}{r b:List V->Hp->VK->Prop}(h:d7 X f r)(i:∀xs H Q,b xs H Q->r xs H Q):d7 X f b:=λpins s σ H xs us Q I c q=>h pins s σ H xs us Q I c (i xs H Q q)
@[reducible]noncomputable def Gx(c:Str->Addr)(X:Cx):Gc:=⟨X.K,c⟩
inductive tD(G:Gc)(f:MF1)(σ:St)(H:Hp)(Q:VK):Prop
 |mk:∀Hf0 H0 Hf ρ d,aM G Hf0 H0 Hf H σ ρ->f ρ=aa d->(∀v Hf' H',Ext Hf H Hf' H'->Rep G Hf' d v->Q v H')->tD G f σ H Q
inductive tDB(G:Gc)(f:MF1)(σ:St)(H:Hp)(Q:VK):Prop
 |mk:∀Hf0 H0 Hf ρ d,aM G Hf0 H0 Hf H σ ρ->f ρ=aa d->(∀v Hf' H',Ext Hf H Hf' H'->Rep G H' d v->Q v H')->tDB G f σ H Q
inductive tDC(G:Gc)(f:MF2)(σ:St)(H:Hp)(Q:VK):Prop
 |mk:∀Hf0 H0 Hf ρ ds,aM G Hf0 H0 Hf H σ ρ->f ρ=aa ds->(∀a vs Hf' H',Ext Hf H Hf' H'->(SqL G.K H' a vs\/SqT G.K H' a vs)->aC G Hf' ds vs->Q (.ref a) H')->tDC G f σ H Q
inductive tDO(G:Gc)(f:MF2)(σ:St)(H:Hp)(Q:VK):Prop
 |mk:∀Hf0 H0 Hf ρ ds,aM G Hf0 H0 Hf H σ ρ->f ρ=aa ds->(∀l vs Hf' H',Ext Hf H Hf' H'->H l=ae->Hf' l=ae->H' l=aa (.lst vs)->aC G Hf' ds vs->Q (.ref l) H')->tDO G f σ H Q
inductive tDA(G:Gc)(f:MF2)(σ:St)(H:Hp)(Q:List V->Hp->Prop):Prop
 |mk:∀Hf0 H0 Hf ρ ds,aM G Hf0 H0 Hf H σ ρ->f ρ=aa ds->(∀vs Hf' H',Ext Hf H Hf' H'->aC G Hf' ds vs->Q vs H')->tDA G f σ H Q
inductive AM(G:Gc)(f:MF2)(σ:St)(H:Hp)(Q:List V->Hp->Prop):Prop
 |mk:∀Hf0 H0 Hf ρ ds,aM G Hf0 H0 Hf H σ ρ->f ρ=aa ds->(∀vs Hf' H',Ext Hf H Hf' H'->aC G H' ds vs->Q vs H')->AM G f σ H Q
inductive tDT(G:Gc)(f:MF4)(σ:St)(H:Hp)(Q:Bool->Hp->Prop):Prop
 |mk:∀Hf0 H0 Hf ρ b,aM G Hf0 H0 Hf H σ ρ->f ρ=aa b->(∀Hf' H',Ext Hf H Hf' H'->Q b H')->tDT G f σ H Q
abbrev DE(c:Str->Addr)(X:Cx)(e:Expr)(f:MF1):Prop:=PE X e (tD (Gx c X) f)
abbrev DB(c:Str->Addr)(X:Cx)(e:Expr)(f:MF1):Prop:=PE X e (tDB (Gx c X) f)
abbrev DC(c:Str->Addr)(X:Cx)(e:Expr)(f:MF2):Prop:=PE X e (tDC (Gx c X) f)
abbrev DO(c:Str->Addr)(X:Cx)(e:Expr)(f:MF2):Prop:=PE X e (tDO (Gx c X) f)
structure DA(c:Str->Addr)(X:Cx)(es:LEx)(f:MF2):Prop where
 pa:PA X es (tDA (Gx c X) f)
 len:∀ρ ds,f ρ=aa ds->ds.length=es.length
structure DAB(c:Str->Addr)(X:Cx)(es:LEx)(f:MF2):Prop where
 pa:PA X es (AM (Gx c X) f)
 len:∀ρ ds,f ρ=aa ds->ds.length=es.length
abbrev DT(c:Str->Addr)(X:Cx)(e:Expr)(f:MF4):Prop:=PT X e (tDT (Gx c X) f)
abbrev DW(c:Str->Addr)(X:Cx)(e:Expr)(f:MF4):Prop:=PW X e (tDT (Gx c X) f)
abbrev D.scalar:D->Bool
 |.non=>af
 |.bl _=>af
 |.int _=>af
 |.str _=>af
 | _=>aj
def Rep.sc(b:d.scalar=af)(r:Rep G H d v):Rep G H' d v:=by
 cases d <;> first |exact r |cases b
abbrev ip:D->OLD
 |.lst xs=>aa xs
 |.tup xs=>aa xs
 |.kl xs=>aa xs
 |.kt xs=>aa xs
 | _=>ae
def sk(e:ip d=aa ds)(r:Rep G H d v):∃a vs,v=.ref a/\(SqL G.K H a vs\/SqT G.K H a vs)/\aC G H ds vs:=by
 cases d with
 |lst xs=>cases e;obtain⟨a,vs,b,q,r⟩:=r;exact⟨a,vs,b,.inl (SqL.of q),r⟩
 |tup xs=>cases e;obtain⟨a,vs,b,q,r⟩:=r;exact⟨a,vs,b,.inr (SqT.of q),r⟩
 |kl xs=>cases e;obtain⟨a,vs,b,q,r⟩:=r;exact⟨a,vs,b,.inl q,r⟩
 |kt xs=>cases e;obtain⟨a,vs,b,q,r⟩:=r;exact⟨a,vs,b,.inr q,r⟩
 | _=>nomatch e
def wb(s:aN H H')(h:SqL K H a vs\/SqT K H a vs):SqL K H' a vs\/SqT K H' a vs:=h.imp s.seq s.tup
abbrev aw(f:MF2)(ρ:LS):OD:=(f ρ).map .lst
abbrev aO(f:MF2)(ρ:LS):OD:=(f ρ).map .tup
abbrev aS(f:MF1)(ρ:LS):OLD:=(f ρ).bind ip
abbrev je(f g:MF1)(ρ:LS):OD:=(f ρ).or (g ρ)
variable{c:Str->Addr}{f:MF1}
def DE.db(h:DE c X e f):DB c X e f:=PE.imp h λσ H Q m=>by
 obtain⟨Hf0,H0,Hf,ρ,d,st,b,k⟩:=m;exact(⟨Hf0,H0,Hf,ρ,d,st,b,λv Hf' H' x r=>k v Hf' H' x (r.up x.s)⟩)
def DE.dc(h:DE c X e f):DC c X e (aS f):=PE.imp h λσ H Q y=>by
 obtain⟨Hf0,H0,Hf,ρ,ds,st,b,k⟩:=y;unfold aS at b
 cases m:f ρ with
 |none=>rw[m]at b;nomatch b
 |some d=>
  rw[m]at b;refine⟨Hf0,H0,Hf,ρ,d,st,m,λv Hf' H' x r=>?_⟩;obtain⟨a,vs,n,q,rs⟩:=sk b r;subst n;exact k a vs Hf' H' x (wb x.s q) rs
def DO.de{f:MF2}(h:DO c X e f):DE c X e (aw f):=PE.imp h λσ H Q z=>by
 obtain⟨Hf0,H0,Hf,ρ,d,st,b,k⟩:=z;unfold aw at b
 cases m:f ρ with
 |none=>rw[m]at b;nomatch b
 |some ds=>
  rw[m]at b;have b:=cu b;subst b;exact⟨Hf0,H0,Hf,ρ,ds,st,m,λl vs Hf' H' x y n q r=>k _ _ H' (x.fix y n q) ⟨l,vs,rfl,bN,r.up (cv n)⟩⟩
def DO.dc{f:MF2}(h:DO c X e f):DC c X e f:=PE.imp h λσ H Q n=>by
 obtain ⟨Hf0,H0,Hf,ρ,ds,st,b,k⟩:=n;exact (
 ⟨Hf0,H0,Hf,ρ,ds,st,b,λl vs Hf' H' x y q m r=>k l vs Hf' H' x (.inl (SqL.of m)) r⟩)
def DE.orE{g:MF1}(h:DE c X e f)(h':DE c X e g):DE c X e (je f g):=λpins s σ H Q I n=>by
 obtain⟨Hf0,H0,Hf,ρ,d,st,b,k⟩:=n;unfold je at b
 cases m:f ρ with
 |some d'=>
  rw[m]at b;cases b
  exact h pins s σ H Q I ⟨Hf0,H0,Hf,ρ,_,st,m,k⟩
 |none=>
  rw[m]at b;exact h' pins s σ H Q I ⟨Hf0,H0,Hf,ρ,d,st,b,k⟩
abbrev ag(i:Nat)(ρ:LS):OD:=match ρ[i]? with
 |some (.im d)=>aa d
 | _=>ae
abbrev eO(i:Nat)(ρ:LS):OD:=match ρ[i]? with
 |some (.im d)=>aa d
 |some (.own xs)=>aa (.lst xs)
 |some (.ownd ks xs)=>aa (.dic ks xs)
 |some (.deep o)=>if o.kn then aa o.toD else ae
 | _=>ae
abbrev am(i:Nat)(ρ:LS):OLD:=match ρ[i]? with
 |some (.im d)=>ip d
 |some (.own xs)=>aa xs
 | _=>ae
def GU(h:ag i ρ=aa d):ρ[i]?=aa (.im d):=by
 unfold ag at h
 grind
def AN(h:PE X e (eL i)):DE c X e (ag i):=PE.imp h λσ H Q n=>by
 obtain⟨Hf0,H0,Hf,ρ,d,st,m,k⟩:=n;obtain⟨v,b,r⟩:=st.imm (GU m);exact⟨v,b,k v Hf H (Ext.refl st.sub) r⟩
def AO(h:PE X e (eL i)):DC c X e (am i):=PE.imp h λσ H Q y=>by
 obtain⟨Hf0,H0,Hf,ρ,ds,st,b,k⟩:=y;unfold am at b
 cases es:ρ[i]? with
 |none=>rw[es]at b;nomatch b
 |some s=>
  rw[es]at b
  cases s with
  |im d=>
   obtain⟨v,m,r⟩:=st.imm es;obtain⟨a,vs,n,q,rs⟩:=sk b r;subst n
   exact⟨_,m,k a vs Hf H (Ext.refl st.sub) (wb st.sub q) rs⟩
  |own xs=>
   cases b;obtain⟨l,m,_,_,vs,q,r⟩:=st.ownAt rfl es
   exact⟨_,m,k l vs Hf H (Ext.refl st.sub) (.inl (SqL.of q)) r⟩
  | _=>nomatch b
def GV(h:PE X e (eL i)):DB c X e (eO i):=PE.imp h λσ H Q B=>by
 obtain⟨Hf0,H0,Hf,ρ,d,st,b,k⟩:=B;unfold eO at b
 cases es:ρ[i]? with
 |none=>simp only[es]at b;nomatch b
 |some s=>
  rw[es]at b
  cases s with
  |im d=>
   cases b;obtain⟨v,m,r⟩:=st.imm es
   exact⟨_,m,k v Hf H (Ext.refl st.sub) (r.up st.sub)⟩
  |own xs=>
   cases b;obtain⟨l,m,_,_,vs,q,r⟩:=st.ownAt rfl es
   exact⟨_,m,k _ Hf H (Ext.refl st.sub) ⟨l,vs,rfl,q,r.up st.sub⟩⟩
  |ownd ks xs=>
   cases b;obtain⟨l,m,_,_,vs,q,z,r⟩:=st.ownAt rfl es
   exact⟨_,m,k _ Hf H (Ext.refl st.sub) ⟨l,vs,rfl,q,z,r.up st.sub⟩⟩
  |deep o=>
   replace b:(if o.kn=af then aa o.toD else ae)=aa d:=b;split at b
   .rename_i y;cases b;obtain⟨v,m,u,fp,n,r,_⟩:=st.slot es;subst n;exact⟨_,m,k _ Hf H (Ext.refl st.sub) (r.rep st.sub y)⟩
   .nomatch b
  | _=>nomatch b
def sm(h:PE X e (tC v))(r:∀G H,Rep G H d v):DE c X e (λ_=>aa d):=PE.imp h λσ H Q m=>by
 obtain⟨Hf0,H0,Hf,ρ,d',st,b,k⟩:=m;cases b;exact k v Hf H (Ext.refl st.sub) (r _ _)
def al{pos:Pos}{i:Int}{j}:DE c X (.Constant (.int i) j pos) (λ_=>aa (.int i)):=sm EO λ_ _=>rfl
def iq{pos:Pos}{i:Bool}{j}:DE c X (.Constant (.bool i) j pos) (λ_=>aa (.bl i)):=sm EQ λ_ _=>rfl
def l6{pos:Pos}{j}:DE c X (.Constant .none j pos) kN:=sm ER λ_ _=>rfl
def au{pos:Pos}{i:Str}{j}:DE c X (.Constant (.str i) j pos) (λ_=>aa (.str i)):=sm ES λ_ _=>rfl
def dv{pos:Pos}(i:Nat)(h:X.N[i]?=aa x:=by rfl)(m:Vis X.env.scope x:=by first |exact bV rfl |exact bE (bV rfl) |exact bE (bE rfl))(hd:NDb x:=by decide)
 (b:NCd x:=by decide):DE c X (.Name x pos) (ag i):=AN (kX h m hd b)
def dvC{pos:Pos}(i:Nat)(h:X.N[i]?=aa x:=by rfl)(m:Vis X.env.scope x:=by first |exact bV rfl |exact bE (bV rfl) |exact bE (bE rfl))(hd:NDb x:=by decide)
 (b:NCd x:=by decide):DC c X (.Name x pos) (am i):=AO (kX h m hd b)
def dvB{pos:Pos}(i:Nat)(h:X.N[i]?=aa x:=by rfl)(m:Vis X.env.scope x:=by first |exact bV rfl |exact bE (bV rfl) |exact bE (bE rfl))(hd:NDb x:=by decide)
 (b:NCd x:=by decide):DB c X (.Name x pos) (eO i):=GV (kX h m hd b)
abbrev ac(f:MF1)(g:MF2)(ρ:LS):OLD:=(f ρ).bind λd=>(g ρ).map λds=>d::ds
variable{g:MF2}
def sr(h:ac f g ρ=aa ds):∃d r,f ρ=aa d/\g ρ=aa r/\ds=d::r:=by
 unfold ac at h
 cases b:f ρ with
 |none=>rw[b]at h;nomatch h
 |some d=>
  cases m:g ρ with
  |none=>rw[b,m]at h;nomatch h
  |some r=>rw[b,m]at h;cases h;exact⟨d,r,rfl,rfl,rfl⟩
def ak:DA c X [] nZ:=⟨PA.imp ci λσ H Q m=>by obtain⟨Hf0,H0,Hf,ρ,ds,st,b,k⟩:=m;cases b;exact k [] Hf H (Ext.refl st.sub) rfl,λρ ds h=>by cases h;rfl⟩
def ah(B:DE c X e f)(n:DA c X es g)(I:StE X e es:=by rfl):DA c X (e::es) (ac f g):=by
 refine⟨PA.imp (bJ B n.pa I) λσ H Q L=>?_,λρ ds h=>?_⟩
 .obtain⟨Hf0,H0,Hf,ρ,ds,st,z,k⟩:=L;obtain⟨d,r,m,b,rfl⟩:=sr z;exact⟨Hf0,H0,Hf,ρ,d,st,m,λv b7 H1 q M=>⟨Hf0,H0,b7,ρ,r,st.step q,b,λvs cc H2 y T=>k _ cc H2 (q.trans y) (.cons (M.up y.f) T)⟩⟩
 .obtain⟨d,r,m,b,rfl⟩:=sr h;simp[n.len ρ r b]
def c6:DAB c X [] nZ:=⟨PA.imp ci λσ H Q m=>by obtain⟨Hf0,H0,Hf,ρ,ds,st,b,k⟩:=m;cases b;exact k [] Hf H (Ext.refl st.sub) rfl,λρ ds h=>by cases h;rfl⟩
def cj(B:DB c X e f)(n:DAB c X es g)(I:StE X e es:=by rfl):DAB c X (e::es) (ac f g):=by
 refine⟨PA.imp (bJ B n.pa I) λσ H Q L=>?_,λρ ds h=>?_⟩
 .obtain⟨Hf0,H0,Hf,ρ,ds,st,z,k⟩:=L;obtain⟨d,r,m,b,rfl⟩:=sr z;exact⟨Hf0,H0,Hf,ρ,d,st,m,λv b7 H1 q M=>⟨Hf0,H0,b7,ρ,r,st.step q,b,λvs cc H2 y T=>k _ cc H2 (q.trans y) (.cons (M.up y.h) T)⟩⟩
 .obtain⟨d,r,m,b,rfl⟩:=sr h;simp[n.len ρ r b]
def aQ{pos:Pos}{f:MF2}(h:DA c X es f)(hz:es.length<=1000:=by exact lL rfl):DO c X (.List es pos) f:=PE.imp (rV h.pa) λσ H Q n=>by
 obtain ⟨Hf0,H0,Hf,ρ,ds,st,m,k⟩:=n;exact (
 ⟨Hf0,H0,Hf,ρ,ds,st,m,λvs Hf' H' x r=>⟨by
  rw[<- r.length,h.len ρ ds m];exact kR (pb hz),λp b=>k p vs Hf' _ (x.trans (Ext.tmp x.s b)) (x.h.free b) (x.s.free b) bN r⟩⟩)
variable{k':Nat}
def aU{pos:Pos}{f:MF2}(h:DA c X es f)(hz:es.length<=1000:=by exact lL rfl):DE c X (.Tuple es k' pos) (aO f):=PE.imp (rS h.pa) λσ H Q q=>by
 obtain⟨Hf0,H0,Hf,ρ,d,st,b,k⟩:=q;unfold aO at b
 cases m:f ρ with
 |none=>rw[m]at b;nomatch b
 |some ds=>
  rw[m]at b;have b:=cu b;subst b
  exact⟨Hf0,H0,Hf,ρ,ds,st,m,λvs Hf' H' x r=>⟨by
   rw[<- r.length,h.len ρ ds m];exact kR (pb hz),λp n=>k _ _ _ (x.trans (Ext.new x.s n)) ⟨p,vs,rfl,bN,r.up (cv (x.s.free n))⟩⟩⟩
abbrev rD(G:Gc)(m:D->D->OD):R2:=λb h H Q=>∃Hf x y d,aN Hf H/\Rep G Hf x b/\Rep G Hf y h/\m x y=aa d/\∀v Hf' H',Ext Hf H Hf' H'->Rep G Hf' d v->Q v H'
nonrec abbrev OpD(c:Str->Addr)(X:Cx)(f:Value->Value->Sem Value)(m:D->D->OD):Prop:=OpR X f (rD (Gx c X) m)
abbrev m2(m:D->D->OD)(f g:MF1)(ρ:LS):OD:=(f ρ).bind λx=>(g ρ).bind λy=>m x y
variable{m:D->D->OD}{g:MF1}
def ss(h:m2 m f g ρ=aa d):∃x y,f ρ=aa x/\g ρ=aa y/\m x y=aa d:=by
 unfold m2 at h
 cases b:f ρ with
 |none=>rw[b]at h;nomatch h
 |some x=>
  cases n:g ρ with
  |none=>rw[b,n]at h;nomatch h
  |some y=>rw[b,n]at h;exact⟨x,y,rfl,rfl,h⟩
variable{r:R2}
def two(T:∀x y H Q,rD (Gx c X) m x y H Q->r x y H Q)(h:tD (Gx c X) (m2 m f g) σ H Q):tOp r (tD (Gx c X) f) (tD (Gx c X) g) σ H Q:=by
 obtain⟨Hf0,H0,Hf,ρ,d,st,M,k⟩:=h;obtain⟨x,y,B,I,L⟩:=ss M;exact⟨Hf0,H0,Hf,ρ,x,st,B,λv b7 H1 q U=>⟨Hf0,H0,b7,ρ,y,st.step q,I,λu cc H2 n r2=>T _ _ _ _ ⟨cc,x,y,d,n.s,U.up n.f,r2,L,λw b z x3 r3=>k w b z ((q.trans n).trans x3) r3⟩⟩⟩
def AQ(T:∀x y H Q,rD (Gx c X) m x y H Q->r x y H Q)(U:∀x y d,m x y=aa d->d.scalar=af)(h:tD (Gx c X) (m2 m f g) σ H Q):tOp r (tDB (Gx c X) f) (tDB (Gx c X) g) σ H Q:=by
 obtain⟨Hf0,H0,Hf,ρ,d,st,M,k⟩:=h;obtain⟨x,y,I,L,n⟩:=ss M
 exact⟨Hf0,H0,Hf,ρ,x,st,I,λv b7 H1 q r1=>⟨Hf0,H0,b7,ρ,y,st.step q,L,λu cc H2 b r2=>T _ _ _ _ ⟨H2,x,y,d,aN.refl _,r1.up b.h,r2,n,λw B z x3 r3=>
  k w cc z ((q.trans b).trans (Ext.grow b.s x3.h)) (r3.sc (U _ _ _ n))⟩⟩⟩
variable{a b:Expr}
def bB{pos:Pos}{n:Operator}(z:OpD c X (eY n) m)(q:DE c X a f)(y:DE c X b g):DE c X (.BinOp a n b pos) (m2 m f g):=
 PE.imp (rQ z q y) λ_ _ _ h=>two (λ_ _ _ _ h=>h) h
variable{op:CmpOp}
def gY{pos:Pos}(B:OpD c X (dk op) m)(I:∀x y d,m x y=aa d->d.scalar=af)(n:DB c X a f)(q:DB c X b g)(z:oU op b=aj:=by first |exact nomark _ |rfl):
  DE c X (.Compare a [op] [b] pos) (m2 m f g):=PE.imp (FL B n q z) λ_ _ _ h=>AQ (λ_ _ _ _ h=>h) I h
abbrev mB(f:MF1)(ρ:LS):Option Bool:=(f ρ).bind λd=>match d with
 |.bl b=>aa b
 | _=>ae
def wc{b:Bool}(h:mB f ρ=aa b):f ρ=aa (.bl b):=by
 unfold mB at h
 cases e:f ρ with
 |none=>rw[e]at h;nomatch h
 |some d=>rw[e]at h;cases d <;> cases h;rfl
def br{pos:Pos}(I:OpD c X (dk op) m)(L:∀x y d,m x y=aa d->d.scalar=af)(q:DB c X a f)(z:DB c X b g)(B:oU op b=aj:=by first |exact nomark _ |rfl):
  DT c X (.Compare a [op] [b] pos) (mB (m2 m f g)):=PT.imp (Ab I q z B) λσ H Q M=>by
 obtain ⟨Hf0,H0,Hf,ρ,b,st,n,k⟩:=M;exact (
 AQ (λ_ _ _ _ h=>h) L ⟨Hf0,H0,Hf,ρ,.bl b,st,wc n,λv Hf' H' x r=>⟨b,r,k Hf' H' x⟩⟩)
abbrev su:D->Option Bool
 |.non=>aa aj
 |.bl b=>aa b
 |.int i=>aa (i != 0)
 |.str x=>if x.length<=16777216 then aa ((x.length:Int) != 0) else ae
 |.lst xs=>aa (!xs.isEmpty)
 |.tup xs=>aa (!xs.isEmpty)
 |.kl xs=>aa (!xs.isEmpty)
 |.kt xs=>aa (!xs.isEmpty)
 |.dic ks _=>aa (!ks.isEmpty)
 | _=>ae
def aC.empty(r:aC G H ds vs):ds.isEmpty=vs.isEmpty:=by
 cases ds with
 |nil=>cases (r);rfl
 |cons d ds=>obtain⟨v,h,e,_⟩:=r;subst e;rfl
def GW{n q:Type}{ks:List n}{vs:List q}(h:ks.length=vs.length):(ks.zip vs).isEmpty=ks.isEmpty:=by
 cases ks <;> cases vs <;> first |rfl |cases h
def GX{b:Bool}(e:su d=aa b)(r:Rep G H d v):vS G.K v H b:=by
 cases d with
 |non=>cases e;subst r;rfl
 |bl x=>cases e;subst r;rfl
 |int i=>cases e;subst r;rfl
 |str x=>
  subst r;replace e:(if x.length<=16777216 then aa _ else ae)=aa b:=e;split at e
  .rename_i n;cases e;exact⟨by rw[cY];exact n,rfl⟩
  .grind
 |lst xs=>cases e;obtain⟨a,vs,h,q,r⟩:=r;subst h;exact .inl ⟨vs,SqL.of q,by rw[r.empty]⟩
 |tup xs=>cases e;obtain⟨a,vs,h,q,r⟩:=r;subst h;exact .inr (.inl ⟨vs,SqT.of q,by rw[r.empty]⟩)
 |kl xs=>cases e;obtain⟨a,vs,h,q,r⟩:=r;subst h;exact .inl ⟨vs,q,by rw[r.empty]⟩
 |kt xs=>cases e;obtain⟨a,vs,h,q,r⟩:=r;subst h;exact .inr (.inl ⟨vs,q,by rw[r.empty]⟩)
 |dic ks xs=>cases e;obtain⟨a,vs,h,q,l,r⟩:=r;subst h;exact .inr (.inr ⟨_,q,by rw[GW l]⟩)
 |ins _ _ _=>nomatch e
 |kd _ _=>nomatch e
 |dT _ _=>nomatch e
abbrev ge(f:MF1)(ρ:LS):Option Bool:=(f ρ).bind su
def lc(y:DB c X a f)(z:∀h,isTrue a X.env h=(do let v <- h;standAt a.pos;gw [v] (truthy v)):=by intro _;rfl):DT c X a (ge f):=
 PT.imp (FR y z) λσ H Q B=>by
  obtain⟨Hf0,H0,Hf,ρ,b,st,n,k⟩:=B;unfold ge at n
  cases q:f ρ with
  |none=>rw[q]at n;nomatch n
  |some d=>
   rw[q]at n;exact⟨Hf0,H0,Hf,ρ,d,st,q,λv Hf' H' x r=>⟨b,GX n r,k Hf' H' x⟩⟩
abbrev ir(f g:MF4)(ρ:LS):Option Bool:=(f ρ).bind λb=>if b then g ρ else aa aj
abbrev mOr(f g:MF4)(ρ:LS):Option Bool:=(f ρ).bind λb=>if b then aa af else g ρ
abbrev jV(f:MF4)(ρ:LS):Option Bool:=(f ρ).map not
variable{f:MF4}
def DW.dt(h:DW c X e f):DT c X e f:=PW.pt h
def sv{pos:Pos}(h:DT c X a f):DW c X (.BoolOp .And [a] pos) f:=EW h
def AR{pos:Pos}(h:DT c X a f):DW c X (.BoolOp .Or [a] pos) f:=EX h
def sw{pos:Pos}{g:MF4}{aB:LEx}(h:DT c X a f)(h':DW c X (.BoolOp .And (b::aB) pos) g):DW c X (.BoolOp .And (a::b::aB) pos) (ir f g):=PW.imp (EY h h') λσ H Q z=>by
 obtain⟨Hf0,H0,Hf,ρ,b,st,n,k⟩:=z;unfold ir at n
 cases q:f ρ with
 |none=>rw[q]at n;nomatch n
 |some x=>
  rw[q]at n;refine⟨Hf0,H0,Hf,ρ,x,st,q,λb7 H1 y=>?_⟩
  cases x with
  |true=>rw[if_pos rfl];exact⟨Hf0,H0,b7,ρ,b,st.step y,n,λcc H2 B=>k cc H2 (y.trans B)⟩
  |false=>cases n;rw[if_neg cy];exact k b7 H1 y
def wd{pos:Pos}{g:MF4}{aB:LEx}(h:DT c X a f)(h':DW c X (.BoolOp .Or (b::aB) pos) g):DW c X (.BoolOp .Or (a::b::aB) pos) (mOr f g):=PW.imp (EZ h h') λσ H Q z=>by
 obtain⟨Hf0,H0,Hf,ρ,b,st,n,k⟩:=z;unfold mOr at n
 cases q:f ρ with
 |none=>rw[q]at n;nomatch n
 |some x=>
  rw[q]at n;refine⟨Hf0,H0,Hf,ρ,x,st,q,λb7 H1 y=>?_⟩
  cases x with
  |false=>rw[if_neg cy];exact⟨Hf0,H0,b7,ρ,b,st.step y,n,λcc H2 B=>k cc H2 (y.trans B)⟩
  |true=>cases n;rw[if_pos rfl];exact k b7 H1 y
def sx{pos:Pos}(h:DT c X a f):DT c X (.UnaryOp .Not a pos) (jV f):=PT.imp (E1 h) λσ H Q y=>by
 obtain⟨Hf0,H0,Hf,ρ,b,st,n,k⟩:=y;unfold jV at n
 cases q:f ρ with
 |none=>rw[q]at n;nomatch n
 |some x=>
  rw[q]at n;cases n;exact⟨Hf0,H0,Hf,ρ,x,st,q,λb7 H1 z=>k b7 H1 z⟩
abbrev jf(f g:MF1)(ρ:LS):OD:=(mB f ρ).bind λb=>if b then g ρ else aa (.bl aj)
abbrev vOr(f g:MF1)(ρ:LS):OD:=(mB f ρ).bind λb=>if b then aa (.bl af) else g ρ
variable{f:MF1}
def pd{pos:Pos}{op}(h:DE c X a f):DE c X (.BoolOp op [a] pos) f:=E4 h
def sy{pos:Pos}{aB:LEx}(h:DE c X a f)(h':DE c X (.BoolOp .And (b::aB) pos) g):DE c X (.BoolOp .And (a::b::aB) pos) (jf f g):=PE.imp (E5 h h') λσ H Q z=>by
 obtain⟨Hf0,H0,Hf,ρ,d,st,n,k⟩:=z;unfold jf at n
 cases q:mB f ρ with
 |none=>rw[q]at n;nomatch n
 |some x=>
  rw[q]at n;refine⟨Hf0,H0,Hf,ρ,.bl x,st,wc q,λv b7 H1 y B=>⟨x,B,?_⟩⟩
  cases x with
  |true=>rw[if_pos rfl];exact⟨Hf0,H0,b7,ρ,d,st.step y,n,λv cc H2 L I=>k v cc H2 (y.trans L) I⟩
  |false=>cases n;rw[if_neg cy];exact k _ b7 H1 y rfl
def GY{pos:Pos}{aB:LEx}(h:DE c X a f)(h':DE c X (.BoolOp .Or (b::aB) pos) g):DE c X (.BoolOp .Or (a::b::aB) pos) (vOr f g):=PE.imp (E6 h h') λσ H Q z=>by
 obtain⟨Hf0,H0,Hf,ρ,d,st,n,k⟩:=z;unfold vOr at n
 cases q:mB f ρ with
 |none=>rw[q]at n;nomatch n
 |some x=>
  rw[q]at n;refine⟨Hf0,H0,Hf,ρ,.bl x,st,wc q,λv b7 H1 y B=>⟨x,B,?_⟩⟩
  cases x with
  |false=>rw[if_neg cy];exact⟨Hf0,H0,b7,ρ,d,st.step y,n,λv cc H2 L I=>k v cc H2 (y.trans L) I⟩
  |true=>cases n;rw[if_pos rfl];exact k _ b7 H1 y rfl
abbrev vIf(t:MF4)(f g:MF1)(ρ:LS):OD:=(t ρ).bind λb=>if b then f ρ else g ρ
variable{t:MF4}{cd:Expr}
def we{pos:Pos}(I:DT c X cd t)(z:DE c X a f)(B:DE c X b g):DE c X (.IfExp cd a b pos) (vIf t f g):=PE.imp (zQ I z B) λσ H Q L=>by
 obtain⟨Hf0,H0,Hf,ρ,d,st,h,k⟩:=L;unfold vIf at h
 cases q:t ρ with
 |none=>rw[q]at h;nomatch h
 |some x=>
  rw[q]at h;refine⟨Hf0,H0,Hf,ρ,x,st,q,λb7 H1 n=>?_⟩
  cases x with
  |true=>rw[if_pos rfl];exact⟨Hf0,H0,b7,ρ,d,st.step n,h,λv cc H2 y r=>k v cc H2 (n.trans y) r⟩
  |false=>rw[if_neg cy];exact⟨Hf0,H0,b7,ρ,d,st.step n,h,λv cc H2 y r=>k v cc H2 (n.trans y) r⟩
noncomputable instance {i j:Int}:Decidable (oZ i j):=by unfold oZ;infer_instance
noncomputable instance {i j:Int}:Decidable (o0 i j):=by unfold o0;infer_instance
noncomputable instance {i j:Int}:Decidable (o4 i j):=by unfold o4;infer_instance
abbrev dI(C:Int->Int->Prop)[∀i j,Decidable (C i j)](g:Int->Int->D):D->D->OD
 |.int i,.int j=>if C i j then aa (g i j) else ae
 | _,_=>ae
abbrev dI0(g:Int->Int->D):D->D->OD
 |.int i,.int j=>aa (g i j)
 | _,_=>ae
abbrev bX:D->D->OD
 |.int i,.int j=>aa (.int (i+j))
 |.str a,.str b=>if a.length+b.length<=16777216 then aa (.str (a++b)) else ae
 |.lst a,.lst b=>if a.length+b.length<=16777216 then aa (.lst (a++b)) else ae
 | _,_=>ae
@[reducible]noncomputable def fY:D->D->OD:=dI0 λi j=>.int (i-j)
@[reducible]noncomputable def jW:D->D->OD:=dI oZ λi j=>.int (i / j)
@[reducible]noncomputable def gZ:D->D->OD:=dI (λ_ j=>0<j) λi j=>.int (i % j)
@[reducible]noncomputable def pf:D->D->OD:=dI o0 λi j=>.int (i ^ j.toNat)
@[reducible]noncomputable def dLt:D->D->OD:=dI0 λi j=>.bl (decide (i<j))
@[reducible]noncomputable def dLe:D->D->OD:=dI0 λi j=>.bl (decide (i<=j))
@[reducible]noncomputable def dGt:D->D->OD:=dI0 λi j=>.bl (decide (j<i))
variable{gd:Int->Int->D}
def sA{f:Value->Value->Sem Value}{C:Int->Int->Prop}[∀i j,Decidable (C i j)]{g:Int->Int->V}(h:OpR X f (rI C g))(q:∀G H i j,Rep G H (gd i j) (g i j)):OpD c X f (dI C gd):=by
 rintro pins s σ H U vy v u Q I L M ⟨Hf,x,y,d,T,z,B,e,k⟩;unfold dI at e;split at e
 .split at e
  .rename_i n;cases e;exact h pins s σ H U vy v u Q I L M ⟨_,_,z,B,n,k _ Hf H (Ext.refl T) (q _ _ _ _)⟩
  .nomatch e
 .nomatch e
def sB{f:Value->Value->Sem Value}{g:Int->Int->V}(h:OpR X f (rI0 g))(n:∀G H i j,Rep G H (gd i j) (g i j)):OpD c X f (dI0 gd):=by
 rintro pins s σ H T U v u Q I B L ⟨Hf,x,y,d,M,q,z,e,k⟩;unfold dI0 at e;split at e
 .cases e;exact h pins s σ H T U v u Q I B L ⟨_,_,q,z,k _ Hf H (Ext.refl M) (n _ _ _ _)⟩
 .nomatch e
def cO:OpD c X (eY .Add) bX:=by
 rintro pins s σ H M T v u Q I B L ⟨Hf,x,y,d,q,h,n,e,k⟩;unfold bX at e;split at e
 .cases e;exact Fz pins s σ H M T v u Q I B L ⟨_,_,h,n,k _ Hf H (Ext.refl q) rfl⟩
 .split at e
  .rename_i z;cases e;exact FS pins s σ H M T v u Q I B L ⟨_,_,h,n,by rw[cY];exact z,k _ Hf H (Ext.refl q) rfl⟩
  .nomatch e
 .split at e
  .rename_i z;cases e;obtain⟨a,vs,e1,q1,h⟩:=h;obtain⟨b,us,e2,q2,n⟩:=n
   exact Ax pins s σ H M T v u Q I B L ⟨a,b,vs,us,e1,e2,q _ _ q1,q _ _ q2,by rw[cY,<- h.length,<- n.length];exact z,
    λp U=>k _ _ _ (Ext.new q U) ⟨p,_,rfl,bN,(h.append n).up (cv (q.free U))⟩⟩
  .nomatch e
 .nomatch e
def iu:OpD c X (eY .Sub) fY:=sB FA λ_ _ _ _=>rfl
def nj:OpD c X (eY .FloorDiv) jW:=sA FB λ_ _ _ _=>rfl
def l7:OpD c X (eY .Mod) gZ:=sA FC λ_ _ _ _=>rfl
def wf:OpD c X (eY .Pow) pf:=sA FD λ_ _ _ _=>rfl
def wg:OpD c X (dk .Lt) dLt:=sB FH λ_ _ _ _=>rfl
def AS:OpD c X (dk .LtE) dLe:=sB FI λ_ _ _ _=>rfl
def sC:OpD c X (dk .Gt) dGt:=sB FJ λ_ _ _ _=>rfl
def wj{g:Int->Int->D}(h:∀i j,(g i j).scalar=af):∀x y d,dI0 g x y=aa d->d.scalar=af:=by
 intro x y d e;unfold dI0 at e;split at e
 .cases e;exact h _ _
 .nomatch e
def wk:∀x y d,dLt x y=aa d->d.scalar=af:=wj λ_ _=>rfl
def AT:∀x y d,dLe x y=aa d->d.scalar=af:=wj λ_ _=>rfl
def sD:∀x y d,dGt x y=aa d->d.scalar=af:=wj λ_ _=>rfl
abbrev bP:D->OD
 |.int i=>aa (.int (-i))
 | _=>ae
abbrev m1(m:D->OD)(f:MF1)(ρ:LS):OD:=(f ρ).bind m
def dA{pos:Pos}(q:DE c X a f):DE c X (.UnaryOp .USub a pos) (m1 bP f):=PE.imp (Fy FE q) λσ H Q z=>by
 obtain⟨Hf0,H0,Hf,ρ,d,st,h,k⟩:=z;unfold m1 at h
 cases n:f ρ with
 |none=>rw[n]at h;nomatch h
 |some y=>
  rw[n]at h
  cases y with
  |int i=>cases h;exact⟨Hf0,H0,Hf,ρ,.int i,st,n,λv Hf' H' x r=>⟨i,r,k _ Hf' H' x rfl⟩⟩
  | _=>nomatch h
abbrev AU:D->Bool
 |.non=>af
 | _=>aj
def GZ{x:D}(r:Rep G H x v):decide (v=.non)=AU x:=by
 cases x with
 |non=>subst r;rfl
 |bl b=>subst r;rfl
 |int i=>subst r;rfl
 |str x=>subst r;rfl
 |lst _=>obtain⟨a,_,e,_⟩:=r;subst e;rfl
 |tup _=>obtain⟨a,_,e,_⟩:=r;subst e;rfl
 |kl _=>obtain⟨a,_,e,_⟩:=r;subst e;rfl
 |kt _=>obtain⟨a,_,e,_⟩:=r;subst e;rfl
 |dic _ _=>obtain⟨a,_,e,_⟩:=r;subst e;rfl
 |ins _ _ _=>obtain⟨a,_,_,e,_⟩:=r;subst e;rfl
 |kd _ _=>obtain⟨a,_,_,e,_⟩:=r;subst e;rfl
 |dT _ _=>obtain⟨a,_,e,_⟩:=r;subst e;rfl
abbrev isD(x y:D):Option Bool:=match y with
 |.non=>aa (AU x)
 |.bl b=>match x with
  |.non=>aa aj
  |.bl a=>aa (a==b)
  | _=>ae
 | _=>ae
abbrev dIs(x y:D):OD:=(isD x y).map .bl
def AV:OpD c X (dk .Is) dIs:=by
 rintro pins s σ H M L v u Q I q z ⟨Hf,x,y,d,B,h,n,e,k⟩
 cases y with
 |non=>
  cases e
  exact FK pins s σ H M L v u Q I q z ⟨n,by rw[GZ h];exact k _ Hf H (Ext.refl B) rfl⟩
 |bl b=>
  cases x with
  |non=>cases e;subst h;exact AJ pins s σ H _ L v u Q I q z ⟨b,n,.inl rfl,k _ Hf H (Ext.refl B) rfl⟩
  |bl a=>cases e;subst h;exact AJ pins s σ H _ L v u Q I q z ⟨b,n,.inr ⟨a,rfl⟩,by rw[rR];exact k _ Hf H (Ext.refl B) rfl⟩
  | _=>nomatch e
 | _=>nomatch e
def ph{x:Option Bool}{g:Bool->Bool}:∀d,x.map (λb=>D.bl (g b))=aa d->d.scalar=af:=by
 intro d e
 cases x with
 |none=>nomatch e
 |some b=>cases e;rfl
def AW:∀x y d,dIs x y=aa d->d.scalar=af:=λ_ _ d e=>ph d e
abbrev eqF:D->D->Bool
 |.non,.non=>af
 |.bl a,.bl b=>a==b
 |.int a,.int b=>a==b
 |.str a,.str b=>a==b
 | _,_=>aj
abbrev eQ(f:D->D->Option Bool):LD->LD->Option Bool
 | [],[]=>aa af
 |x::xs,y::ys=>(f x y).bind λb=>(eQ f xs ys).map λr=>b && r
 | _,_=>aa aj
abbrev wl:D->D->Bool
 |.bl _,.int _=>af
 |.int _,.bl _=>af
 | _,_=>aj
abbrev wm(f:D->D->Option Bool):D->D->Option Bool
 |.lst xs,.lst ys=>if xs.length=ys.length then eQ f xs ys else aa aj
 |.tup xs,.tup ys=>if xs.length=ys.length then eQ f xs ys else ae
 |x,y=>if x.scalar && y.scalar && !wl x y then aa (eqF x y) else ae
abbrev deq:Nat->D->D->Option Bool
 | 0,_,_=>ae
 |n+1,x,y=>wm (deq n) x y
abbrev dEq(x y:D):OD:=(deq 20 x y).map .bl
abbrev dNe(x y:D):OD:=(deq 20 x y).map λb=>.bl (!b)
def cf:∀x y d,dEq x y=aa d->d.scalar=af:=λ_ _ d e=>ph d e
def gG:∀x y d,dNe x y=aa d->d.scalar=af:=λ_ _ d e=>ph d e
variable{x y:D}{xs ys:LD}{b:Bool}
def AX{f:D->D->Option Bool}(h:eQ f (x::xs) (y::ys)=aa b):∃n q,f x y=aa n/\eQ f xs ys=aa q/\b=(n && q):=by
 dsimp only[eQ]at h
 cases z:f x y with
 |none=>rw[z]at h;nomatch h
 |some n=>
  cases B:eQ f xs ys with
  |none=>rw[z,B]at h;nomatch h
  |some q=>rw[z,B]at h;cases h;exact⟨n,q,rfl,rfl,rfl⟩
def l8{f:D->D->Option Bool}:∀{xs ys:LD} {b:Bool},xs.length=ys.length->eQ f xs ys=aa b->∃e:Nat->Bool,(∀j x y,xs[j]?=aa x->ys[j]?=aa y->f x y=aa (e j))/\(bx xs.length).all e=b
 | [],[],b,_,h=>by cases h;exact⟨λ_=>af,λj x y e=>by simp at e,rfl⟩
 |x::xs,y::ys,b,hl,h=>by
  obtain⟨q,U,z,B,rfl⟩:=AX h;obtain⟨e,L,I⟩:=l8 (by simpa using hl) B
  refine⟨λj=>match j with | 0=>q |j+1=>e j,λj M T ex n=>?_,?_⟩
  .cases j with
   |zero=>simp at ex n;subst ex n;exact z
   |succ j=>exact L j M T (by simpa using ex) (by simpa using n)
  .rw[cL,range_succ_eq_map,all_cons,all_map,<- I]
   rfl
 | [],_::_,_,hl,_=>by cases hl
 | _::_,[],_,hl,_=>by cases hl
def sE(s:d.scalar=af):d=.non\/(∃b,d=.bl b)\/(∃i,d=.int i)\/∃z,d=.str z:=by
 cases d with
 |non=>exact .inl rfl
 |bl b=>exact .inr (.inl ⟨b,rfl⟩)
 |int i=>exact .inr (.inr (.inl ⟨i,rfl⟩))
 |str z=>exact .inr (.inr (.inr ⟨z,rfl⟩))
 | _=>nomatch s
def sF(h:(x.scalar && y.scalar && !wl x y)=af)(n:Rep G H x v)(q:Rep G H y u):fL v=af/\fL u=af/\eqV v u=eqF x y/\vP v u=af/\decide (v=u)=eqF x y:=by
 rw[dy,dy]at h
 rcases sE h.1.1 with rfl |⟨a,rfl⟩ |⟨a,rfl⟩ |⟨a,rfl⟩ <;> rcases sE h.1.2 with rfl |⟨b,rfl⟩ |⟨b,rfl⟩ |⟨b,rfl⟩ <;> first
  |(cases h.2;done)
  |(subst n;subst q;refine⟨rfl,rfl,rfl,rfl,?_⟩;first |exact rR |exact vQ |exact vR |rfl)
variable{n:Nat}
def sG(q:¬(∃xs ys,x=.lst xs/\y=.lst ys)/\¬(∃xs ys,x=.tup xs/\y=.tup ys))(h:deq (n+1) x y=aa b):(x.scalar && y.scalar && !wl x y)=af/\b=eqF x y:=by
 replace h:wm _ x y=aa b:=h;unfold wm at h;split at h
 .exact absurd ⟨_,_,rfl,rfl⟩ q.1
 .exact absurd ⟨_,_,rfl,rfl⟩ q.2
 .split at h
  .rename_i z;cases h;exact⟨z,rfl⟩
  .nomatch h
def AY:∀(n:Nat) {x y:D} {b:Bool} {v:V},deq n x y=aa b->Rep G H x v->Rep G H y v->b=af:=by
 intro n
 induction n with
 |zero=>intro x y b v h;nomatch h
 |succ n ih=>
  have all:∀(xs ys:LD) vs b,aC G H xs vs->aC G H ys vs->eQ (deq n) xs ys=aa b->b=af:=by
   intro xs
   induction xs with
   |nil=>
    intro ys vs b B z h;cases (B);have:ys=[]:=length_eq_zero_iff.mp z.length;subst this
    cases h;rfl
   |cons x xs ihx=>
    intro ys vs b B z h;obtain⟨v,r,e,h1,h2⟩:=B;subst e
    cases ys with
    |nil=>cases (z)
    |cons y ys=>
     obtain⟨v',r',e,T,U⟩:=z;cases e;obtain⟨b1,b2,e1,e2,rfl⟩:=AX h;rw[ih e1 h1 T,ihx ys _ b2 h2 U e2];rfl
  intro x y b v h B z
  by_cases hl:∃xs ys,x=.lst xs/\y=.lst ys
  .obtain⟨xs,ys,rfl,rfl⟩:=hl;obtain⟨a,vs,e,q,B⟩:=B;obtain⟨a',vs',M,L,z⟩:=z;subst e;cases M;rw[q]at L;cases L;have I:=B.length.trans z.length.symm;replace h:(if xs.length=ys.length then eQ _ xs ys else aa aj)=aa b:=h;rw[if_pos I]at h;exact all xs ys vs b B z h
  .by_cases ht:∃xs ys,x=.tup xs/\y=.tup ys
   .obtain⟨xs,ys,rfl,rfl⟩:=ht;obtain⟨a,vs,e,q,B⟩:=B;obtain⟨a',vs',M,L,z⟩:=z;subst e;cases M;rw[q]at L;cases L;replace h:(if xs.length=ys.length then eQ _ xs ys else ae)=aa b:=h;rw[if_pos (B.length.trans z.length.symm)]at h;exact all xs ys vs b B z h
   .obtain⟨hs,rfl⟩:=sG ⟨hl,ht⟩ h;obtain⟨_,_,_,_,e⟩:=sF hs B z;rw[<- e];exact decide_eq_true rfl
variable{s:aE}{us:List V}
def nk{its h:LVa}{e:Nat->Bool}(r1:aC G H xs vs)(r2:aC G H ys us)(r:a9 vs its)(r':a9 us h)
 (he:∀j x y,xs[j]?=aa x->ys[j]?=aa y->deq n x y=aa (e j))
 (ih:∀{x y:D} {b:Bool} {v u:V} {w L:Value},deq n x y=aa b->Rep G H x v->Rep G H y u->be v w->be u L->dm A s w L b):
  ∀j (B:j<its.toArray.size) (I:j<h.toArray.size),dm A s its.toArray[j] h.toArray[j] (e j):=λj B I=>by
 have q:j<its.length:=by simpa using B
 have z:j<h.length:=by simpa using I
 obtain⟨v,T,rv⟩:=r.at' (i:=j) (u:=its[j]) (by simp[q]);obtain⟨u,M,ru⟩:=r'.at' (i:=j) (u:=h[j]) (by simp[z]);obtain⟨x,ex,rx⟩:=r1.get' T;obtain⟨y,U,ry⟩:=r2.get' M;exact ih (he j x y ex U) rx ry rv ru
def AZ(I:Inv X pins σ H s):∀(n:Nat) {A:cZ} {x y:D} {b:Bool} {v u:V} {w w':Value},A.units+n<cLine->deq n x y=aa b->Rep (Gx c X) H x v->Rep (Gx c X) H y u->be v w->be u w'->dm A s w w' b:=by
 intro n
 induction n with
 |zero=>intro A x y b v u w w' _ h;nomatch h
 |succ n ih=>
  intro A x y b v u w w' hu h r1 r2 rv ru;have ez:∀{x y:D} {b:Bool} {v u:V} {w w':Value},deq n x y=aa b->Rep _ H x v->Rep _ H y u->be v w->be u w'->dm A.in1 s w w' b:=λh a b c d=>ih (by rw[vo];lia) h a b c d
  by_cases hl:∃xs ys,x=.lst xs/\y=.lst ys
  .obtain⟨xs,ys,rfl,rfl⟩:=hl;obtain⟨a,vs,e,q,z⟩:=id r1;obtain⟨a',vs',e',q',B⟩:=id r2;subst e e';cases rv;subst ru
   by_cases M:a=a'
   .subst M;have:=AY _ h (⟨a,vs,rfl,q,z⟩) ⟨a,vs',rfl,q',B⟩;subst this;exact vH _
   .refine dm.of_refs M ?_;obtain⟨its,rr,pl,hz⟩:=I.list (SqL.of q);obtain⟨its2,T,U,hz2⟩:=I.list (SqL.of q');have l1:=rr.length;have l2:=T.length;have l3:=z.length;have l4:=B.length;replace h:(if xs.length=ys.length then eQ _ xs ys else aa aj)=aa b:=h;split at h
    .rename_i L;obtain⟨ee,he,ha⟩:=l8 L h;have:=SeqAt.RcAt.lists pl.isList U.isList (by simp only[size_toArray];lia) (by lia) (nk z B rr T he ez);rw[size_toArray,<- l1,<- l3,ha]at this;exact this
    .rename_i L;cases h;exact SeqAt.RcAt.lists_lengths pl.isList U.isList (by simp only[size_toArray,bne_iff_ne];lia) (by lia)
  .by_cases ht:∃xs ys,x=.tup xs/\y=.tup ys
   .obtain⟨xs,ys,rfl,rfl⟩:=ht;obtain⟨a,vs,e,q,z⟩:=id r1;obtain⟨a',vs',e',q',B⟩:=id r2;subst e e';subst rv;subst ru
    by_cases M:a=a'
    .subst M;have:=AY _ h (⟨a,vs,rfl,q,z⟩) ⟨a,vs',rfl,q',B⟩;subst this;exact vH _
    .refine dm.of_refs M ?_;obtain⟨its,rr,pl,hz⟩:=I.tuple (SqT.of q);obtain⟨its2,T,U,hz2⟩:=I.tuple (SqT.of q');have l1:=rr.length;have l2:=T.length;have l3:=z.length;have l4:=B.length;replace h:(if xs.length=ys.length then eQ _ xs ys else ae)=aa b:=h;split at h
     .rename_i L;obtain⟨ee,he,ha⟩:=l8 L h;have:=SeqAt.RcAt.tuples (pl) (U) (by lia) (nk z B rr T he ez);have hsz:its.toArray.size=its2.toArray.size:=by simp only[size_toArray];lia
      rw[<- hsz,oM,beq_self_eq_true,Bool.and_true,size_toArray,<- l1,<- l3,ha]at this;exact this
     .nomatch h
   .obtain⟨hs,rfl⟩:=sG ⟨hl,ht⟩ h;obtain⟨f1,f2,e,_,_⟩:=sF hs r1 r2;rw[<- e];exact Av rv ru f1 f2
def b9(hu:X.A.units+64<cLine):OpD c X (dk .Eq) dEq:=by
 rintro pins s σ H v u w w' Q I rv ru ⟨Hf,x,y,d,s0,r1,r2,e,k⟩;unfold dEq at e
 cases h:deq 20 x y with
 |none=>rw[h]at e;nomatch e
 |some b=>
  rw[h]at e;cases e;have q0:=k _ Hf H (Ext.refl s0) rfl;have fin:EP X pins σ Q _ s:=⟨.bl b,H,I,rfl,q0⟩;have r1:=r1.up s0;have r2:=r2.up s0;have ez:∀{x y:D} {b:Bool} {v u:V} {w w':Value},deq 19 x y=aa b->Rep _ H x v->Rep (Gx c X) H y u->be v w->be u w'->dm X.A.in1 s w w' b:=λh a b c d=>AZ I 19 (by rw[vo];lia) h a b c d
  by_cases hl:∃xs ys,x=.lst xs/\y=.lst ys
  .obtain⟨xs,ys,rfl,rfl⟩:=hl;obtain⟨a,vs,e,q,L⟩:=id r1;obtain⟨a',vs',e',q',M⟩:=id r2;subst e e';cases rv;subst ru;obtain⟨its,rr,pl,hz⟩:=I.list (SqL.of q);obtain⟨U,B,T,hz2⟩:=I.list (SqL.of q');have l1:=rr.length;have l2:=B.length;have l3:=L.length;have l4:=M.length;replace h:(if xs.length=ys.length then eQ _ xs ys else aa aj)=aa b:=h;split at h
   .rename_i z;obtain⟨ee,he,ha⟩:=l8 z h;refine SeqAt.eq_listAt pl.isList T.isList (by simp only[size_toArray];lia) (by lia) (nk L M rr B he ez) ?_;rw[size_toArray,<- l1,<- l3,ha];exact fin
   .rename_i z;cases h;exact SeqAt.eq_list_lengthsAt pl.isList T.isList (by simp only[size_toArray,bne_iff_ne];lia) (by lia) fin
  .by_cases ht:∃xs ys,x=.tup xs/\y=.tup ys
   .obtain⟨xs,ys,rfl,rfl⟩:=ht;obtain⟨a,vs,e,q,L⟩:=id r1;obtain⟨a',vs',e',q',M⟩:=id r2;subst e e';subst rv;subst ru;obtain⟨its,rr,pl,hz⟩:=I.tuple (SqT.of q);obtain⟨U,B,T,hz2⟩:=I.tuple (SqT.of q');have l1:=rr.length;have l2:=B.length;have l3:=L.length;have l4:=M.length;replace h:(if xs.length=ys.length then eQ _ xs ys else ae)=aa b:=h;split at h
    .rename_i z;obtain⟨ee,he,ha⟩:=l8 z h;refine SeqAt.eq_tupleAt (pl) (T) (by lia) (nk L M rr B he ez) ?_;have hsz:its.toArray.size=U.toArray.size:=by simp only[size_toArray];lia
     simp only[<- hsz,oM,beq_self_eq_true,Bool.and_true,size_toArray,<- l1,<- l3,ha];exact fin
    .nomatch h
   .obtain⟨hs,rfl⟩:=sG ⟨hl,ht⟩ h;obtain⟨_,_,_,hsc,e⟩:=sF hs r1 r2;exact FF pins s σ H v u w w' Q I rv ru ⟨hsc,by rw[e];exact q0⟩
def gH(hu:X.A.units+64<cLine):OpD c X (dk .NotEq) dNe:=by
 rintro pins s σ H v u w w' Q I rv ru ⟨Hf,x,y,d,s0,r1,r2,e,k⟩;unfold dNe at e
 cases h:deq 20 x y with
 |none=>rw[h]at e;nomatch e
 |some b=>
  rw[h]at e;cases e;have q0:=k _ Hf H (Ext.refl s0) rfl;have fin:EP X pins σ Q _ s:=⟨.bl (!b),H,I,rfl,q0⟩;have r1:=r1.up s0;have r2:=r2.up s0;have ez:∀{x y:D} {b:Bool} {v u:V} {w w':Value},deq 19 x y=aa b->Rep _ H x v->Rep (Gx c X) H y u->be v w->be u w'->dm X.A.in1 s w w' b:=λh a b c d=>AZ I 19 (by rw[vo];lia) h a b c d
  by_cases hl:∃xs ys,x=.lst xs/\y=.lst ys
  .obtain⟨xs,ys,rfl,rfl⟩:=hl;obtain⟨a,vs,e,q,L⟩:=id r1;obtain⟨a',vs',e',q',M⟩:=id r2;subst e e';cases rv;subst ru;obtain⟨its,rr,pl,hz⟩:=I.list (SqL.of q);obtain⟨U,B,T,hz2⟩:=I.list (SqL.of q');have l1:=rr.length;have l2:=B.length;have l3:=L.length;have l4:=M.length;replace h:(if xs.length=ys.length then eQ _ xs ys else aa aj)=aa b:=h;split at h
   .rename_i z;obtain⟨ee,he,ha⟩:=l8 z h;refine SeqAt.RcNeAt.lists pl.isList T.isList (by simp only[size_toArray];lia) (by lia) (nk L M rr B he ez) X.prog X.w X.xe _ ?_;rw[size_toArray,<- l1,<- l3,ha];exact fin
   .rename_i z;cases h;exact SeqAt.RcNeAt.lists_lengths pl.isList T.isList (by simp only[size_toArray,bne_iff_ne];lia) (by lia) X.prog X.w X.xe _ fin
  .by_cases ht:∃xs ys,x=.tup xs/\y=.tup ys
   .obtain⟨xs,ys,rfl,rfl⟩:=ht;obtain⟨a,vs,e,q,L⟩:=id r1;obtain⟨a',vs',e',q',M⟩:=id r2;subst e e';subst rv;subst ru;obtain⟨its,rr,pl,hz⟩:=I.tuple (SqT.of q);obtain⟨U,B,T,hz2⟩:=I.tuple (SqT.of q');have l1:=rr.length;have l2:=B.length;have l3:=L.length;have l4:=M.length;replace h:(if xs.length=ys.length then eQ _ xs ys else ae)=aa b:=h;split at h
    .rename_i z;obtain⟨ee,he,ha⟩:=l8 z h;refine SeqAt.RcNeAt.tuples (pl) (T) (by lia) (nk L M rr B he ez) X.prog X.w X.xe _ ?_;have hsz:its.toArray.size=U.toArray.size:=by simp only[size_toArray];lia
     simp only[<- hsz,oM,beq_self_eq_true,Bool.and_true,size_toArray,<- l1,<- l3,ha];exact fin
    .nomatch h
   .obtain⟨hs,rfl⟩:=sG ⟨hl,ht⟩ h;obtain⟨_,_,_,hsc,e⟩:=sF hs r1 r2;exact FG pins s σ H v u w w' Q I rv ru ⟨hsc,by rw[e];exact q0⟩
abbrev eqX:D->D->Bool
 |.non,.non=>af
 |.bl a,.bl b=>a==b
 |.bl a,.int b=>(if a then 1 else 0)==b
 |.int a,.bl b=>a==(if b then 1 else 0)
 |.int a,.int b=>a==b
 |.str a,.str b=>a==b
 | _,_=>aj
abbrev inD(x y:D):Option Bool:=(ip y).bind λds=>if x.scalar && ds.all D.scalar then aa (ds.any λd=>eqX d x) else ae
abbrev dIn(x y:D):OD:=(inD x y).map .bl
abbrev iw(x y:D):OD:=(inD x y).map λb=>.bl (!b)
def nq:∀x y d,dIn x y=aa d->d.scalar=af:=λ_ _ d e=>ph d e
def nr:∀x y d,iw x y=aa d->d.scalar=af:=λ_ _ d e=>ph d e
def G0(h:x.scalar=af)(q:y.scalar=af)(z:Rep G H x v)(B:Rep G H y u):fL v=af/\fL u=af/\eqV v u=eqX x y:=by
 rcases sE h with rfl |⟨a,rfl⟩ |⟨a,rfl⟩ |⟨a,rfl⟩ <;> rcases sE q with rfl |⟨b,rfl⟩ |⟨b,rfl⟩ |⟨b,rfl⟩ <;> (subst z;subst B;exact⟨rfl,rfl,rfl⟩)
def A0{G:Gc}{H:Hp}{x:D}{v:V}(z:x.scalar=af)(r:Rep G H x v):∀{ds:LD} {vs:List V},ds.all D.scalar=af->aC G H ds vs->vs.all fL=af/\inV v vs=ds.any λd=>eqX d x
 | [],_,_,h=>by cases (h);exact⟨rfl,rfl⟩
 |d::ds,_,ha,q3_=>by
  obtain⟨u,M,e,I,L⟩:=q3_;subst e;simp only[all_cons,dy]at ha;obtain⟨f1,f2,e⟩:=G0 ha.1 z I r;obtain⟨B,q⟩:=A0 z r ha.2 L;refine⟨by simp only[all_cons,f1,B];rfl,?_⟩;unfold inV at q ⊢;simp only[gR,gR,e,q]
def A1(e:inD x y=aa b)(z:Rep G H x v)(M:Rep G H y u):∃p vs,u=.ref p/\(SqL G.K H p vs\/SqT G.K H p vs)/\fL v=af/\vs.all fL=af/\inV v vs=b:=by
 unfold inD at e
 cases es:ip y with
 |none=>rw[es]at e;nomatch e
 |some ds=>
  rw[es]at e;replace e:(if _=af then aa _ else ae)=aa b:=e;split at e
  .rename_i h;cases e;rw[dy]at h;obtain⟨a,vs,B,q,r⟩:=sk es M;obtain⟨I,L⟩:=A0 h.1 z h.2 r
   have f:fL v=af:=by cases x <;> first |(subst z;rfl) |(cases h.1)
   exact⟨a,vs,B,q,f,I,L⟩
  .nomatch e
def nu:OpD c X (dk .In) dIn:=by
 rintro pins s σ H v u w w' Q I rv U ⟨Hf,x,y,d,z,M,T,e,k⟩;unfold dIn at e
 cases h:inD x y with
 |none=>rw[h]at e;nomatch e
 |some b=>
  rw[h]at e;cases e;obtain⟨p,vs,B,q,f1,f2,L⟩:=A1 h (M.up z) (T.up z);refine Gm pins s σ H v u w w' Q I rv U ⟨p,vs,B,q,f1,f2,?_⟩;rw[if_neg cy,L];exact k _ Hf H (Ext.refl z) rfl
def nv:OpD c X (dk .NotIn) iw:=by
 rintro pins s σ H v u w w' Q I rv U ⟨Hf,x,y,d,z,M,T,e,k⟩;unfold iw at e
 cases h:inD x y with
 |none=>rw[h]at e;nomatch e
 |some b=>
  rw[h]at e;cases e;obtain⟨p,vs,B,q,f1,f2,L⟩:=A1 h (M.up z) (T.up z);refine Gn pins s σ H v u w w' Q I rv U ⟨p,vs,B,q,f1,f2,?_⟩;rw[if_pos rfl,L];exact k _ Hf H (Ext.refl z) rfl
def wn{i:Int}(h:atI ds i=aa d)(r:aC G H ds vs):∃v,atI vs i=aa v/\Rep G H d v:=by
 unfold atI at h ⊢;rw[<- r.length]
 cases e:ixN ds.length i with
 |none=>rw[e]at h;nomatch h
 |some j=>
  rw[e]at h;exact r.get h
abbrev ixD(ds:LD):D->OD
 |.int k=>atI ds k
 | _=>ae
abbrev mIx(f:MF2)(g:MF1)(ρ:LS):OD:=(f ρ).bind λds=>(g ρ).bind λi=>ixD ds i
variable{b:Expr}
def ay{pos:Pos}{f:MF2}(ha:DC c X a f)(hb:DE c X b g)(hs:vU b:=by exact λ_ _=>rfl):DE c X (.Subscript a b pos) (mIx f g):=
 PE.imp (Ap (Aq.or At) ha hb hs) λσ H Q q_=>by
  obtain⟨Hf0,H0,Hf,ρ,d,st,z,k⟩:=q_;unfold mIx at z
  cases I:f ρ with
  |none=>rw[I]at z;nomatch z
  |some ds=>
   cases M:g ρ with
   |none=>rw[I,M]at z;nomatch z
   |some i=>
    rw[I,M]at z
    cases i with
    |int n=>
     refine⟨Hf0,H0,Hf,ρ,ds,st,I,λl vs b7 H1 U q r=>⟨Hf0,H0,b7,ρ,.int n,st.step U,M,λu cc H2 L r2=>?_⟩⟩;cases (r2);obtain⟨v,T,rv⟩:=wn z r;have B:=k v cc H2 (U.trans L) (rv.up L.f)
     rcases q with q |q
     .exact .inl ⟨l,vs,n,v,rfl,rfl,L.h.seq q,T,B⟩
     .exact .inr ⟨l,vs,n,v,rfl,rfl,L.h.tup q,T,B⟩
    | _=>nomatch z
abbrev nw(xs:LD)(lo hi:Option Int):LD:=(xs.drop (HT.sIx xs.length 0 lo)).take (HT.sIx xs.length xs.length hi-HT.sIx xs.length 0 lo)
abbrev lsD:D->OLD
 |.lst xs=>aa xs
 |.kl xs=>aa xs
 | _=>ae
def jg(e:lsD d=aa ds)(r:Rep G H d v):∃a vs,v=.ref a/\SqL G.K H a vs/\aC G H ds vs:=by
 cases d with
 |lst xs=>cases e;obtain⟨a,vs,h,q,r⟩:=r;exact⟨a,vs,h,SqL.of q,r⟩
 |kl xs=>cases e;obtain⟨a,vs,h,q,r⟩:=r;exact⟨a,vs,h,q,r⟩
 | _=>nomatch e
inductive A2(G:Gc)(f:LS->Option (Option Int))(σ:St)(H:Hp)(Q:Option Int->Hp->Prop):Prop
 |mk:∀Hf0 H0 Hf ρ i,aM G Hf0 H0 Hf H σ ρ->f ρ=aa i->(∀Hf' H',Ext Hf H Hf' H'->Q i H')->A2 G f σ H Q
abbrev DPt(c:Str->Addr)(X:Cx)(e:Option Expr)(f:LS->Option (Option Int)):Prop:=PO X e (A2 (Gx c X) f)
def ma:DPt c X ae (λ_=>aa ae):=λpins s σ H Q I q=>by
 obtain⟨Hf0,H0,Hf,ρ,i,st,h,k⟩:=q;exact(F7 pins s σ H Q I (by cases h;exact k Hf H (Ext.refl st.sub)))
abbrev mPt(f:MF1)(ρ:LS):Option (Option Int):=(f ρ).bind λd=>match d with
 |.int i=>aa (aa i)
 | _=>ae
def md(h:DE c X e f):DPt c X (aa e) (mPt f):=λpins s σ H Q I B=>by
 obtain⟨Hf0,H0,Hf,ρ,i,st,q,k⟩:=B
 exact (F8 h pins s σ H Q I (by
 unfold mPt at q
 cases z:f ρ with
 |none=>rw[z]at q;nomatch q
 |some d=>
  rw[z]at q
  cases d with
  |int n=>cases q;exact⟨Hf0,H0,Hf,ρ,.int n,st,z,λv Hf' H' x r=>⟨n,r,k Hf' H' x⟩⟩
  | _=>nomatch q))
abbrev mSl(f:MF1)(l h:LS->Option (Option Int))(ρ:LS):OLD:=(f ρ).bind λd=>(lsD d).bind λds=>(l ρ).bind λlo=>(h ρ).map λhi=>nw ds lo hi
def A3(r:aC G H ds vs)(lo hi:Option Int):aC G H (nw ds lo hi) (l5 vs lo hi):=by
 unfold nw l5;rw[r.length];exact(r.drop _).take _
variable{p2:Pos}
def wo{pos:Pos}{l h:LS->Option (Option Int)}{lo hi:Option Expr}(ha:DE c X e f)(hl:DPt c X lo l)(hh:DPt c X hi h):DO c X (.Subscript e (.Slice lo hi ae p2) pos) (mSl f l h):=
 PE.imp (vT Gk ha hl hh) λσ H Q q_=>by
  obtain⟨Hf0,H0,Hf,ρ,rs,st,z,k⟩:=q_;unfold mSl at z
  cases B:f ρ with
  |none=>rw[B]at z;nomatch z
  |some d=>
   cases I:lsD d with
   |none=>rw[B]at z;replace z:(lsD d).bind _=_:=z;rw[I]at z;nomatch z
   |some ds=>
    cases L:l ρ with
    |none=>rw[B]at z;replace z:(lsD d).bind _=_:=z;rw[I,L]at z;nomatch z
    |some lo'=>
     cases U:h ρ with
     |none=>rw[B]at z;replace z:(lsD d).bind _=_:=z;rw[I,L,U]at z;nomatch z
     |some hi'=>
      rw[B]at z;replace z:(lsD d).bind _=_:=z;rw[I,L,U]at z;cases z;refine⟨Hf0,H0,Hf,ρ,d,st,B,λv b7 H1 M r1=>⟨Hf0,H0,b7,ρ,lo',st.step M,L,λcc H2 x2=>⟨Hf0,H0,cc,ρ,hi',(st.step M).step x2,U,λT H3 x3=>?_⟩⟩⟩;obtain⟨a,vs,ea,q,r⟩:=jg I r1;subst ea;have x:=(M.trans x2).trans x3;have y:=(x2.trans x3);exact⟨a,vs,rfl,(M.s.trans y.h).seq q,λp hp=>(k p _ T _ (x.trans (Ext.tmp x.s hp)) (x.h.free hp) (x.s.free hp) bN (A3 (r.up y.f) _ _))⟩
abbrev rCD(G:Gc)(m:LD->OD):List V->Hp->VK->Prop:=λvs H Q=>∃Hf ds d,aN Hf H/\aC G Hf ds vs/\m ds=aa d/\∀v Hf' H',Ext Hf H Hf' H'->Rep G Hf' d v->Q v H'
nonrec abbrev ny(c:Str->Addr)(X:Cx)(f:Value)(m:LD->OD):Prop:=d7 X f (rCD (Gx c X) m)
abbrev aq(m:LD->OD)(f:MF2)(ρ:LS):OD:=(f ρ).bind m
variable{m:LD->OD}{f:MF2}
def wq(h:aq m f ρ=aa d):∃ds,f ρ=aa ds/\m ds=aa d:=by
 unfold aq at h
 cases e:f ρ with
 |none=>rw[e]at h;nomatch h
 |some ds=>rw[e]at h;exact⟨ds,rfl,h⟩
variable{p:Pos}{x:Str}
def G1{pos:Pos}{id:String}(M:ny c X (.builtin id) m)(U:Gl X x)(hm:X.mg x=ae)(hv:gu x=aa (.builtin id))(L:DA c X (e::es) f)(hn:x ≠ "__name__":=by decide)(h:NDb x:=by decide)
 (T:StE X e es:=by rfl)(q:BkE X pos es:=by rfl):
  DE c X (.Call (.Name x p) (e::es) [] pos) (aq m f):=PE.imp (ng M U hm hv L.pa hn h T q) λσ H Q q_=>by
 obtain⟨Hf0,H0,Hf,ρ,d,st,I,k⟩:=q_;obtain⟨ds,z,B⟩:=wq I;exact⟨Hf0,H0,Hf,ρ,ds,st,z,λvs Hf' H' x r=>⟨Hf',ds,d,x.s,r,B,λv cc H2 x2 r2=>k v cc H2 (x.trans x2) r2⟩⟩
def d9{pos:Pos}{id:String}(T:ny c X (.builtin id) m)(hs:∀ds d,m ds=aa d->d.scalar=af)(hg:Gl X x)(hm:X.mg x=ae)(hv:gu x=aa (.builtin id))(M:DAB c X (e::es) f)(hn:x ≠ "__name__":=by decide)(q:NDb x:=by decide)
 (U:StE X e es:=by rfl)(z:BkE X pos es:=by rfl):
  DE c X (.Call (.Name x p) (e::es) [] pos) (aq m f):=PE.imp (ng T hg hm hv M.pa hn q U z) λσ H Q q_=>by
 obtain⟨Hf0,H0,Hf,ρ,d,st,L,k⟩:=q_;obtain⟨ds,I,B⟩:=wq L;exact⟨Hf0,H0,Hf,ρ,ds,st,I,λvs Hf' H' x r=>⟨H',ds,d,aN.refl _,r,B,λv cc H2 x2 r2=>k v Hf' H2 (x.trans (Ext.grow x.s x2.h)) (r2.sc (hs _ _ B))⟩⟩
abbrev cI:LD->OD
 | [.lst xs]=>aa (.int xs.length)
 | [.tup xs]=>aa (.int xs.length)
 | [.kl xs]=>aa (.int xs.length)
 | [.kt xs]=>aa (.int xs.length)
 | [.str x]=>if x.length<=16777216 then aa (.int x.length) else ae
 | _=>ae
def aC.one(r:aC G H [d] vs):∃v,vs=[v]/\Rep G H d v:=by
 obtain⟨v,z,e,h,q⟩:=r;cases (q);exact⟨v,e,h⟩
def aC.two{d':D}(r:aC G H [d,d'] vs):∃v z,vs=[v,z]/\Rep G H d v/\Rep G H d' z:=by
 obtain⟨v,I,e,h,q⟩:=r;obtain⟨z,B,h'⟩:=q.one;subst B;exact⟨v,z,e,h,h'⟩
def A4(e:cI ds=aa d):∃h,ds=[h]/\((∃xs,ip h=aa xs/\d=.int xs.length)\/∃x,h=.str x/\x.length<=16777216/\d=.int x.length):=by
 cases ds with
 |nil=>nomatch e
 |cons h ds=>
  cases ds with
  |cons _ _=>cases h <;> nomatch e
  |nil=>
   refine⟨h,rfl,?_⟩
   cases h with
   |lst xs=>cases e;exact .inl ⟨xs,rfl,rfl⟩
   |tup xs=>cases e;exact .inl ⟨xs,rfl,rfl⟩
   |kl xs=>cases e;exact .inl ⟨xs,rfl,rfl⟩
   |kt xs=>cases e;exact .inl ⟨xs,rfl,rfl⟩
   |str x=>
    replace e:(if x.length<=16777216 then aa _ else ae)=aa d:=e
    grind
   | _=>nomatch e
def eR:ny c X (.builtin "len") cI:=by
 rintro pins s σ H vs us Q I U ⟨Hf,ds,d,T,r,e,k⟩
 have sq:∀h xs,ds=[h]->ip h=aa xs->d=.int xs.length->wpAny _ X.A _ _ X.xe s:=λh xs B es e0=>by
  subst B e0;obtain⟨v,z,M⟩:=r.one;subst z;obtain⟨a,ws,L,q,rs⟩:=sk es M;subst L;refine Go pins s σ H _ us Q I U ⟨a,ws,rfl,wb T q,?_⟩;rw[<- rs.length];exact k _ Hf H (Ext.refl T) rfl
 obtain⟨h,B,⟨xs,z,L⟩ |⟨x,rfl,hl,rfl⟩⟩:=A4 e
 .exact sq h xs B z L
 .subst B;obtain⟨v,z,M⟩:=r.one;subst z;exact Gp pins s σ H _ us Q I U ⟨_,by rw[show v=V.str _ from M],by rw[cY];exact hl,k _ Hf H (Ext.refl T) rfl⟩
def eS:∀ds d,cI ds=aa d->d.scalar=af:=by
 intro ds d e
 obtain⟨h,z,⟨xs,q,rfl⟩ |⟨x,rfl,B,rfl⟩⟩:=A4 e <;> rfl
def A5{pos:Pos}(hx:gu x=aa (.type "list"))(U:Gl X x)(hm:X.mg x=ae)(T:DC c X e f)(L:a8 [e] X.env=(aj,eval e X.env)::a8 [] X.env:=by rfl)(hn:x ≠ "__name__":=by decide)(z:NDb x:=by decide)
 (I:(eE pos (a8 [] X.env)).any (·.1)=aj:=by rfl):DO c X (.Call (.Name x p) [e] [] pos) f:=
 PE.imp (rX Gq U hm hx (bJ T ci L) hn z L I) λσ H Q q_=>by
 obtain⟨Hf0,H0,Hf,ρ,ds,st,M,k⟩:=q_
 exact (
  ⟨Hf0,H0,Hf,ρ,ds,st,M,λa vs Hf' H' x q r=>⟨a,vs,rfl,q,λl B=>k l vs Hf' _ (x.trans (Ext.tmp x.s B)) (x.h.free B) (x.s.free B) bN r⟩⟩)
inductive tDG(G:Gc)(g:D->LS->Option LS)(v:V)(σ:St)(H:Hp)(Q:St->Hp->Prop):Prop
 |mk:∀Hf0 H0 Hf ρ d ρ',aM G Hf0 H0 Hf H σ ρ->Rep G Hf d v->g d ρ=aa ρ'->(∀σ',aM G Hf0 H0 Hf H σ' ρ'->Q σ' H)->tDG G g v σ H Q
inductive A6(G:Gc)(g:LD->LS->Option LS)(vs:List V)(σ:St)(H:Hp)(Q:St->Hp->Prop):Prop
 |mk:∀Hf0 H0 Hf ρ ds ρ',aM G Hf0 H0 Hf H σ ρ->aC G Hf ds vs->g ds ρ=aa ρ'->(∀σ',aM G Hf0 H0 Hf H σ' ρ'->Q σ' H)->A6 G g vs σ H Q
structure DG(c:Str->Addr)(X:Cx)(tg:Expr)(k:Nat)(g:D->LS->Option LS):Prop where
 pg:PG X tg (tDG (Gx c X) g)
 len:∀d ρ ρ',g d ρ=aa ρ'->ρ'.length=ρ.length
 keep:∀d ρ ρ' i,g d ρ=aa ρ'->k<=i->ρ'[i]?=ρ[i]?
structure DGs(c:Str->Addr)(X:Cx)(tg:LEx)(k:Nat)(g:LD->LS->Option LS):Prop where
 pg:PGs X tg (A6 (Gx c X) g)
 len:∀d ρ ρ',g d ρ=aa ρ'->ρ'.length=ρ.length
 keep:∀d ρ ρ' i,g d ρ=aa ρ'->k<=i->ρ'[i]?=ρ[i]?
 many:∀ds ρ ρ',g ds ρ=aa ρ'->ds.length=tg.length
abbrev aJ(i:Nat)(d:D)(ρ:LS):Option LS:=aa (ρ.set i (.im d))
def A7(h:PG X e (jP i))(L:i<k):DG c X e k (aJ i):=
 ⟨PG.imp h λv σ H Q B=>by obtain⟨Hf0,H0,Hf,ρ,d,ρ',st,r,z,q⟩:=B;cases z;exact q _ (st.setIm r),λd ρ ρ' h=>by cases h;simp,λd ρ ρ' j h I=>by
  cases h;rw[gQ (by lia)]⟩
def bQ{pos:Pos}(i k:Nat)(h:X.N.Nodup)(z:i<k:=by decide)(hi:X.N[i]?=aa x:=by rfl)(B:Loc X.env.scope x:=by first |exact bV rfl |exact bE rfl)(q:LcF X x:=by first |exact .inl rfl |exact .inr rfl):DG c X (.Name x pos) k (aJ i):=
 A7 (zU h hi B q) z
abbrev cP(ds:LD)(ρ:LS):Option LS:=match ds with
 | []=>aa ρ
 | _=>ae
abbrev bu(g:D->LS->Option LS)(h:LD->LS->Option LS)(ds:LD)(ρ:LS):Option LS:=match ds with
 |d::ds=>(g d ρ).bind λρ1=>h ds ρ1
 | []=>ae
def dB:DGs c X [] k cP:=by
 refine⟨PGs.imp Fe λvs σ H Q B=>?_,λd ρ ρ' h=>?_,λd ρ ρ' i h _=>?_,λd ρ ρ' h=>?_⟩
 .obtain⟨Hf0,H0,Hf,ρ,ds,ρ',st,r,z,q⟩:=B
  cases ds with
  |nil=>cases z;exact⟨r,q _ st⟩
  |cons d ds=>nomatch z
 .cases d with
  |nil=>cases h;rfl
  |cons a b=>nomatch h
 .cases d with
  |nil=>cases h;rfl
  |cons a b=>nomatch h
 .cases d with
  |nil=>cases h;rfl
  |cons a b=>nomatch h
variable{h:LD->LS->Option LS}
def sH{g:D->LS->Option LS}(e:bu g h ds ρ=aa ρ'):∃d r ρ1,ds=d::r/\g d ρ=aa ρ1/\h r ρ1=aa ρ':=by
 cases ds with
 |nil=>nomatch e
 |cons d r=>
  replace e:(g d ρ).bind _=_:=e
  cases q:g d ρ with
  |none=>rw[q]at e;nomatch e
  |some ρ1=>rw[q]at e;exact⟨d,r,ρ1,rfl,q,e⟩
def bF{g:D->LS->Option LS}(L:DG c X e k g)(I:DGs c X es k h)(hs:(eD (e::es) X.env).map (·.2)=gx e X.env::(eD es X.env).map (·.2):=by rfl):DGs c X (e::es) k (bu g h):=by
 refine⟨PGs.imp (Ff L.pg I.pg hs) λvs σ H Q q_=>?_,λd ρ ρ' h=>?_,λd ρ ρ' i h hi=>?_,λd ρ ρ' h=>?_⟩
 .obtain⟨Hf0,H0,Hf,ρ,ds,ρ',st,r,T,q⟩:=q_;obtain⟨d,dr,ρ1,rfl,B,z⟩:=sH T;obtain⟨v,vr,U,rv,rr⟩:=r;exact⟨v,vr,U,Hf0,H0,Hf,ρ,d,ρ1,st,rv,B,λσ1 M=>⟨Hf0,H0,Hf,ρ1,dr,ρ',M,rr,z,q⟩⟩
 .obtain⟨d,dr,ρ1,rfl,B,z⟩:=sH h;rw[I.len _ _ _ z,L.len _ _ _ B]
 .obtain⟨d,dr,ρ1,rfl,B,z⟩:=sH h;rw[I.keep _ _ _ _ z hi,L.keep _ _ _ _ B hi]
 .obtain⟨d,dr,ρ1,rfl,B,z⟩:=sH h;rw[cL,cL,I.many _ _ _ z]
abbrev tpD:D->OLD
 |.tup xs=>aa xs
 |.kt xs=>aa xs
 | _=>ae
def A8(e:tpD d=aa ds)(r:Rep G H d v):∃a vs,v=.ref a/\SqT G.K H a vs/\aC G H ds vs:=by
 cases d with
 |tup xs=>cases e;obtain⟨a,vs,z,q,r⟩:=r;exact⟨a,vs,z,SqT.of q,r⟩
 |kt xs=>cases e;obtain⟨a,vs,z,q,r⟩:=r;exact⟨a,vs,z,q,r⟩
 | _=>nomatch e
abbrev cU(g:LD->LS->Option LS)(d:D)(ρ:LS):Option LS:=(tpD d).bind λds=>g ds ρ
def wt{g:LD->LS->Option LS}(h:cU g d ρ=aa ρ'):∃ds,tpD d=aa ds/\g ds ρ=aa ρ':=by
 unfold cU at h
 cases e:tpD d with
 |none=>rw[e]at h;nomatch h
 |some ds=>rw[e]at h;exact⟨ds,rfl,h⟩
variable{kk:Nat}
def dJ{pos:Pos}{g:LD->LS->Option LS}(U:X.calm=af)(h:DGs c X es k g)(hn:(eD es X.env).length=es.length:=by rfl)(I:(eD es X.env).findIdx? (·.1)=ae:=by rfl):DG c X (.Tuple es kk pos) k (cU g):=by
 refine⟨PG.imp (Fh U h.pg hn I) λv σ H Q q_=>?_,λd ρ ρ' h'=>?_,λd ρ ρ' i h' hi=>?_⟩
 .obtain⟨Hf0,H0,Hf,ρ,d,ρ',st,r,T,q⟩:=q_;obtain⟨ds,B,z⟩:=wt T;obtain⟨a,vs,M,qa,L⟩:=A8 B r;exact⟨a,vs,M,st.sub.tup qa,by rw[<- L.length];exact h.many _ _ _ z,Hf0,H0,Hf,ρ,ds,ρ',st,L,z,q⟩
 .obtain⟨ds,B,z⟩:=wt h';exact h.len _ _ _ z
 .obtain⟨ds,B,z⟩:=wt h';exact h.keep _ _ _ _ z hi
abbrev me(G:Gc)(Hf:Hp)(J:It)(ds:LD):Prop:=∀Hf' H',aN Hf Hf'->aN Hf' H'->∀i:Nat,
 (∀d,ds[i]?=aa d->J.go i H'/\∀x H2,J.yld i H' x H2->∃cc,Ext Hf' H' cc H2/\Rep G cc d x)/\(i=ds.length->J.stop i H')
abbrev wu(G:Gc)(Hf H:Hp)(J:It)(ds:LD):Prop:=∀Hf' H',Ext Hf H Hf' H'->∀i:Nat,
 (∀d,ds[i]?=aa d->J.go i H'/\∀x H2,J.yld i H' x H2->∃cc,Ext Hf' H' cc H2/\Rep G cc d x)/\(i=ds.length->J.stop i H')
def me.toE(h:me G Hf J ds):wu G Hf H J ds:=λHf' H' x i=>h Hf' H' x.f x.s i
inductive tDI(G:Gc)(f:MF2)(σ:St)(H:Hp)(R:It->Hp->Prop):Prop
 |mk:∀Hf0 H0 Hf ρ ds,aM G Hf0 H0 Hf H σ ρ->f ρ=aa ds->(∀J Hf' H',Ext Hf H Hf' H'->me G Hf' J ds->R J H')->tDI G f σ H R
inductive sI(G:Gc)(f:MF2)(σ:St)(H:Hp)(R:It->Hp->Prop):Prop
 |mk:∀Hf0 H0 Hf ρ ds,aM G Hf0 H0 Hf H σ ρ->f ρ=aa ds->(∀J Hf' H',Ext Hf H Hf' H'->wu G Hf' H' J ds->R J H')->sI G f σ H R
abbrev DI(c:Str->Addr)(X:Cx)(tg iter:Expr)(f:MF2):Prop:=PI X tg iter (tDI (Gx c X) f)
abbrev DIe(c:Str->Addr)(X:Cx)(tg iter:Expr)(f:MF2):Prop:=PI X tg iter (sI (Gx c X) f)
def DI.de(h:DI c X tg e f):DIe c X tg e f:=PI.imp h λσ H R z=>by
 obtain⟨Hf0,H0,Hf,ρ,ds,st,q,k⟩:=z;exact(⟨Hf0,H0,Hf,ρ,ds,st,q,λJ Hf' H' x i=>k J Hf' H' x i.toE⟩)
def G2(q:SqT G.K Hf l vs)(r:aC G Hf ds vs):me G Hf (Itt G.K l) ds:=λHf' H' f s i=>by
 have z:=(f.trans s).tup q;refine⟨λd L=>?_,λM=>⟨vs,z,by rw[<- r.length,M];exact bL _⟩⟩;obtain⟨v,B,T⟩:=r.get L;refine⟨⟨vs,v,z,B⟩,λx H2 ⟨I,y⟩=>?_⟩;subst I;have:=y vs z;rw[B]at this;cases this;exact⟨Hf',Ext.refl s,T.up f⟩
def bC{f:MF1}(h:DE c X e f):DI c X tg e (aS f):=λpins s σ H R I q_=>by
 obtain⟨Hf0,H0,Hf,ρ,ds,st,z,k⟩:=q_;unfold aS at z
 cases B:f ρ with
 |none=>rw[B]at z;nomatch z
 |some d=>
  rw[B]at z
  cases L:lsD d with
  |some M=>
   have:M=ds:=by cases d <;> first |(cases L;done) |(cases L;cases z;rfl)
   subst this;refine Fp h pins s σ H R I ⟨Hf0,H0,Hf,ρ,d,st,B,λv Hf' H' x r=>?_⟩;obtain⟨a,vs,U,q,rs⟩:=jg L r
   exact⟨a,U,⟨vs,x.s.seq q⟩,k _ Hf' H' x λcc H2 f2 s2 i=>by
    have q':=(f2.trans s2).seq q;refine⟨λd ed=>?_,λei=>⟨vs,q',by rw[<- rs.length,ei];exact bL _⟩⟩;obtain⟨v,ev,rv⟩:=rs.get ed;refine⟨⟨vs,v,q',ev⟩,λx H3 ⟨T,y⟩=>?_⟩;subst T;have:=y vs q';rw[ev]at this;cases this
    exact⟨cc,Ext.refl s2,rv.up f2⟩⟩
  |none=>
   have T:tpD d=aa ds:=by cases d <;> first |(cases L;done) |(cases z;done) |(cases z;rfl)
   refine Fq h pins s σ H R I ⟨Hf0,H0,Hf,ρ,d,st,B,λv Hf' H' x r=>?_⟩;obtain⟨a,vs,U,q,rs⟩:=A8 T r;exact⟨a,U,⟨vs,x.s.tup q⟩,k _ Hf' H' x (G2 q rs)⟩
abbrev rng(lo:Int)(n:Nat):LD:=(bx n).map λ(i:Nat)=>.int (lo+i)
def wv{lo:Int}:me G Hf (Itr lo n) (rng lo n):=λHf' H' f s i=>by
 refine⟨λd q=>?_,λz=>?_⟩
 .unfold rng at q;rw[fS]at q
  cases e:(bx n)[i]? with
  |none=>rw[e]at q;nomatch q
  |some j=>
   rw[e]at q;obtain⟨hi,B⟩:=dX.mp e;rw[cK]at hi;rw[List.getElem_range]at B;subst B;cases q;exact⟨hi,λx H2 ⟨I,y⟩=>by subst I;exact⟨Hf',Ext.refl s,y⟩⟩
 .unfold rng at z;rw[aG,cK]at z;exact Nat.le_of_eq z.symm
abbrev ix:LD->OLD
 | [.int j]=>if -(2 ^ 62)<=j/\j<2 ^ 62 then aa (rng 0 j.toNat) else ae
 | [.int i,.int j]=>if -(2 ^ 62)<=i/\i<2 ^ 62/\-(2 ^ 62)<=j/\j<2 ^ 62 then aa (rng i (j-i).toNat) else ae
 | _=>ae
abbrev gf(f:MF2)(ρ:LS):OLD:=(f ρ).bind ix
def nz{pos:Pos}(T:Gl X "range")(hm:X.mg "range"=ae)(I:DA c X [a] f)(hs:a8 [a] X.env=[(aj,eval a X.env)]:=by rfl):DI c X tg (.Call (.Name "range" p) [a] [] pos) (gf f):=
 PI.imp (zX T hm I.pa hs) λσ H R q_=>by
  obtain⟨Hf0,H0,Hf,ρ,ds,st,q,k⟩:=q_;unfold gf at q
  cases z:f ρ with
  |none=>rw[z]at q;nomatch q
  |some B=>
   rw[z]at q;replace q:ix B=aa ds:=q;have U:=I.len ρ B z;refine⟨Hf0,H0,Hf,ρ,B,st,z,λvs Hf' H' x r=>?_⟩;unfold ix at q;split at q
   .split at q
    .rename_i j L;cases q;obtain⟨v,M,rv⟩:=r.one;cases (rv);exact⟨j,M,L.1,L.2,k _ Hf' H' x wv⟩
    .nomatch q
   .nomatch U
   .nomatch q
def G3{pos:Pos}(U:Gl X "range")(hm:X.mg "range"=ae)(M:DA c X [a,b] f)(hs:a8 [a,b] X.env=[(aj,eval a X.env),(aj,eval b X.env)]:=by rfl)(I:a8 [b] X.env=[(aj,eval b X.env)]:=by rfl):DI c X tg (.Call (.Name "range" p) [a,b] [] pos) (gf f):=
 PI.imp (Fu U hm M.pa hs I) λσ H R q_=>by
  obtain⟨Hf0,H0,Hf,ρ,ds,st,q,k⟩:=q_;unfold gf at q
  cases z:f ρ with
  |none=>rw[z]at q;nomatch q
  |some B=>
   rw[z]at q;replace q:ix B=aa ds:=q;have hl:=M.len ρ B z;refine⟨Hf0,H0,Hf,ρ,B,st,z,λvs Hf' H' x r=>?_⟩;unfold ix at q;split at q
   .nomatch hl
   .split at q
    .rename_i i j hj;cases q;obtain⟨v,v',T,rv,L⟩:=r.two;cases (rv);cases (L);exact⟨i,j,T,hj,k _ Hf' H' x wv⟩
    .nomatch q
   .nomatch q
abbrev dC(k:Nat)(js:LN)(ρ:LS):LS:=iW k .no++js.map λj=>(ρ[j]?).getD .no
def aM.weak(h:aM G Hf0 H0 Hf H σ ρ)(z:ρ'.length=ρ.length)(q:∀(i:Nat) (s:Sl),ρ'[i]?=aa s->s=.no\/ρ[i]?=aa s):aM G Hf0 H0 Hf H σ ρ':=by
 refine h.re h.ext z (λi v s a b=>?_) λi s v a b c p=>?_
 .rcases q i s b with e |e
  .subst e;trivial
  .exact h.at' i v s a e
 .rcases q i s b with e |e
  .subst e;exact(p.calm rfl).elim
  .exact⟨s,e,p⟩
def lf{q:Type}{x:q}{l:List q}{y:q}(h:(iW k x++l)[i]?=aa y):(i<k/\y=x)\/(k<=i/\l[i-k]?=aa y):=by
 by_cases hi:i<k
 .left;rw[oF (by simpa using hi),u8,if_pos hi]at h;exact⟨hi,(cu h).symm⟩
 .right;rw[mT (by simpa using ve hi),ic]at h;exact⟨ve hi,h⟩
def mf{q z:Type}{f:q->z}{l:List q}{y:z}(h:(l.map f)[i]?=aa y):∃x,l[i]?=aa x/\y=f x:=by
 rw[fS]at h
 cases e:l[i]? with
 |none=>rw[e]at h;nomatch h
 |some x=>rw[e]at h;exact⟨x,rfl,(cu h).symm⟩
def G4(h:js.Nodup){x:Nat}(a:js[i]?=aa x)(b:js[j]?=aa x):i=j:=by
 obtain⟨B,q⟩:=dX.mp a;obtain⟨I,z⟩:=dX.mp b;exact(vb h).mp (q.trans z.symm)
def aM.comp(k:Nat)(h:aM G Hf0 H0 Hf H σ ρ)(hj:js.Nodup):aM G Hf0 H0 Hf H (fX k js σ) (dC k js ρ):=by
 have own:∀i s,(dC k js ρ)[i]?=aa s->s.calm=aj->∃j,k<=i/\js[i-k]?=aa j/\ρ[j]?=aa s:=λi s a T=>by
  rcases lf a with⟨_,e⟩ |⟨hi,a⟩
  .subst e;nomatch T
  .obtain⟨j,B,es⟩:=mf a
   cases e:ρ[j]? with
   |none=>rw[e]at es;subst es;nomatch T
   |some t=>rw[e]at es;replace es:s=t:=es;subst es;exact⟨j,hi,B,e⟩
 have val:∀i v j,(fX k js σ)[i]?=aa v->k<=i->js[i-k]?=aa j->v=(σ[j]?).getD ae:=λi v j a hi B=>by
  rcases lf a with⟨hi',_⟩ |⟨_,a⟩
  .lia
  .obtain⟨j',I,es⟩:=mf a;rw[B]at I;cases I;exact es
 refine⟨h.ext,by simp[fX,dC],λi v s a b=>?_,λi j s t y z l a b c d p q=>?_⟩
 .rcases lf b with⟨_,e⟩ |⟨hi,b⟩
  .subst e;trivial
  .obtain⟨j,B,es⟩:=mf b;have ev:=val i v j a hi B
   cases e:ρ[j]? with
   |none=>rw[e]at es;subst es;trivial
   |some t=>
    rw[e]at es;subst es;obtain⟨u,eu,q⟩:=h.slot e;rw[eu]at ev;subst ev;exact q
 .have T:s.calm=aj:=by
   cases U:s.calm with
   |true=>exact(p.calm U).elim
   |false=>rfl
  have ht:t.calm=aj:=by
   cases U:t.calm with
   |true=>exact(q.calm U).elim
   |false=>rfl
  obtain⟨i',hi,ei,e1⟩:=own i s a T;obtain⟨j',hj',B,e2⟩:=own j t b ht;have v1:=val i _ i' c hi ei;have v2:=val j _ j' d hj' B;obtain⟨u1,L,_⟩:=h.slot e1;obtain⟨u2,M,_⟩:=h.slot e2;rw[L]at v1;rw[M]at v2;subst v1 v2;have:=h.dj i' j' s t y z l e1 e2 L M p q;subst this;have:=G4 hj ei B
  lia
abbrev fM(h:D->Option OD):LD->OLD
 | []=>aa []
 |d::ds=>(h d).bind λo=>(fM h ds).map λr=>match o with
  |some y=>y::r
  |none=>r
def G5{h:D->Option OD}{r:LD}(e:fM h (d::ds)=aa r):∃o q,h d=aa o/\fM h ds=aa q/\r=(match o with |some y=>y::q |none=>q):=by
 dsimp only[fM]at e
 cases z:h d with
 |none=>rw[z]at e;nomatch e
 |some o=>
  cases B:fM h ds with
  |none=>rw[z,B]at e;nomatch e
  |some q=>
   rw[z,B]at e;cases e;refine⟨o,q,rfl,rfl,?_⟩
   cases o <;> rfl
abbrev g3(g:D->LS->Option LS)(z:MF4)(q:MF1)(ρ:LS)(d:D):Option OD:=(g d ρ).bind λρ1=>(z ρ1).bind λb=>if b then (q ρ1).map aa else aa ae
abbrev bH(k:Nat)(js:LN)(fi:MF2)(g:D->LS->Option LS)(z:MF4)(q:MF1)(ρ:LS):OLD:=
 (fi ρ).bind λds=>if ds.length<=16777216 then fM (g3 g z q (dC k js ρ)) ds else ae
def nA{q:Type}{l:List q}(h:i<l.length):∃x,l[i]?=aa x/\l.drop i=x::l.drop (i+1):=⟨l[i],by simp[h],(qU h)⟩
abbrev DTs(c:Str->Addr)(X:Cx)(dw:LEx)(f:MF4):Prop:=PTs X dw (tDT (Gx c X) f)
def c7:DTs c X [] kY:=PTs.imp GQ λσ H Q z=>by
 obtain⟨Hf0,H0,Hf,ρ,b,st,q,k⟩:=z;exact(by cases q;exact k Hf H (Ext.refl st.sub))
def pi{f:MF4}(h:DT c X e f):DTs c X [e] f:=GR h
variable{g:D->LS->Option LS}{ft:MF4}{fe:MF1}{rs:LD}
def G6(hj:js.Nodup)(hk:∀d ρ ρ' i,g d ρ=aa ρ'->k<=i->ρ'[i]?=ρ[i]?)(eN:∀d ρ ρ',g d ρ=aa ρ'->ρ'.length=ρ.length){ti:TI}(st:aM G Hf0 H0 Hf H σ ρ)
 (hti:∀R:It->Hp->Prop,(∀J b7 H1,Ext Hf H b7 H1->wu G b7 H1 J ds->R J H1)->ti σ H R)(hz:ds.length<=16777216)(ef:fM (g3 g ft fe (dC k js ρ)) ds=aa rs)
 (kq:∀l vs Hf' H',Ext Hf H Hf' H'->H l=ae->Hf' l=ae->H' l=aa (.lst vs)->aC G Hf' rs vs->Q (.ref l) H'):lb k js ti (tDG G g) (tDT G ft) (tD G fe) σ H Q:=by
 refine hti _ λJ b7 H1 x1 it=>?_
 refine⟨λi m ys σ' H'=>m=ds.length-i/\i<=ds.length/\∃Hf' I aB,Ext b7 H1 Hf' H'/\aM G Hf0 H0 Hf' H' σ' _/\aC G Hf' I ys/\fM _ (ds.drop i)=aa aB/\rs=I++aB/\I.length<=i,
  ⟨ds.length,rfl,gs _,b7,[],rs,Ext.refl x1.s,(st.step x1).comp k hj,rfl,ef,rfl,bL _⟩,?_⟩
 rintro i m ys σ' H' ⟨rfl,hi,Hf',I,aB,x2,h9,ra,ec,er,hal⟩;have hys:ys.length<=bn:=by rw[cY,<- ra.length];lia
 obtain⟨hO,it2⟩:=it Hf' H' x2 i
 by_cases M:i<ds.length
 .obtain⟨d,ed,edr⟩:=nA M;obtain⟨go,yl⟩:=hO d ed
  refine .inr ⟨go,hys,λkF fy H2=>ds.length-_=ds.length-_/\i+1<=ds.length/\∃Hf' I aB,Ext b7 H1 Hf' H2/\aM G Hf0 H0 Hf' H2 fy _/\aC G Hf' I kF/\fM _ _=aa aB/\rs=I++aB/\I.length<=i+1,
   λkF fy H2 w=>⟨ds.length-(i+1),by lia,w⟩,λx H2 y=>?_⟩
  obtain⟨cc,x3,rx⟩:=yl x H2 y;rw[edr]at ec;obtain⟨o,r',q,U,B⟩:=G5 ec;unfold g3 at q
  cases eg:g d _ with
  |none=>rw[eg]at q;nomatch q
  |some ρ1=>
   rw[eg]at q;replace q:(ft ρ1).bind _=_:=q
   cases et:ft ρ1 with
   |none=>rw[et]at q;nomatch q
   |some b=>
    rw[et]at q;refine⟨Hf0,H0,cc,dC k js ρ,d,ρ1,h9.step x3,rx,eg,λgg L=>⟨Hf0,H0,cc,ρ1,b,L,et,λT H4 x4=>?_⟩⟩
    have back:∀{z H5:Hp},aM G Hf0 H0 z H5 gg ρ1->aM G Hf0 H0 z H5 gg _:=λ{z H5} s5=>s5.weak (eN _ _ _ eg).symm λj s hs=>by
     rcases lf hs with⟨_,e⟩ |⟨hj',_⟩
     .exact .inl e
     .exact .inr (by rw[hk _ _ _ _ eg hj'];exact hs)
    cases b with
    |true=>
     cases ee:fe ρ1 with
     |none=>rw[ee]at q;nomatch q
     |some y'=>
      rw[ee]at q;cases q;refine⟨Hf0,H0,T,ρ1,y',L.step x4,ee,λv z H5 x5 r5=>?_⟩;have x:=(x3.trans x4).trans x5;refine⟨rfl,M,z,I++[y'],r',x2.trans x,back ((L.step x4).step x5),(ra.up x.f).append (.cons r5 .nil),U,?_,by simp only[bg,fj];lia⟩;simp only[er,B,fm]
      rfl
    |false=>
     cases q;have x:=x3.trans x4;exact⟨rfl,M,T,I,r',x2.trans x,back (L.step x4),ra.up x.f,U,by rw[er,B],by lia⟩
 .have ei:i=ds.length:=by lia
  subst ei;refine .inl ⟨it2 rfl,hys,λl h1 h2=>?_⟩;rw[mU (bL _)]at ec;cases ec;rw[dh]at er;subst er;have x:=x1.trans x2;exact kq l ys Hf' _ (x.trans (Ext.tmp x.s h2)) (x.h.free h2) (x.s.free h2) bN ra
variable{fi:MF2}
def ww(L:js.Nodup)(M:∀d ρ ρ' i,g d ρ=aa ρ'->k<=i->ρ'[i]?=ρ[i]?)(B:∀d ρ ρ',g d ρ=aa ρ'->ρ'.length=ρ.length)(h:tDO G (bH k js fi g ft fe) σ H Q):
  lb k js (sI G fi) (tDG G g) (tDT G ft) (tD G fe) σ H Q:=by
 obtain⟨Hf0,H0,Hf,ρ,rs,st,z,T⟩:=h;unfold bH at z
 cases I:fi ρ with
 |none=>rw[I]at z;nomatch z
 |some ds=>
  rw[I]at z;replace z:(if ds.length<=16777216 then fM _ ds else ae)=aa rs:=z
  by_cases hz:ds.length<=16777216
  .rw[if_pos hz]at z;exact G6 L M B st (λR q=>⟨Hf0,H0,Hf,ρ,ds,st,I,λJ b7 H1 U it=>q J b7 H1 U it⟩) hz z T
  .rw[if_neg hz]at z
   nomatch z
def e7{pos:Pos}(k:Nat)(js:LN)(Nc:LSt)(B:X.calm=af)(hi:DIe c X tg iter fi)(q:∀cl C ex a7 b0,DG c (X.comp scope Nc cl C ex a7 b0) tg k g)(T:∀cl C ex a7 b0,DTs c (X.comp scope Nc cl C ex a7 b0) dw ft)
 (I:∀cl C ex a7 b0,DE c (X.comp scope Nc cl C ex a7 b0) da fe)(z:io scope X.env.scope.names X.N Nc k js=af:=by rfl)(M:∀x,gS iter X.env x=pure x:=by intro _;rfl)(L:js.Nodup:=by decide):
  DO c X (.ListComp da [⟨tg,iter,dw,0⟩] scope pos) (bH k js fi g ft fe):=
 PE.imp (GS (tt:=tDT (Gx c X) ft) (te:=tD (Gx c X) fe) k js Nc B hi (λcl C ex a7 b0=>(q cl C ex a7 b0).pg) T I z M) λσ H Q h=>
  ww L (q [] 0 [] X.s₀ X.H₀).keep (q [] 0 [] X.s₀ X.H₀).len h
def dvc(i:Nat){pos:Pos}(z:Nc[i]?=aa x:=by rfl)(B:Vis scope x:=by first |exact bV rfl |exact bE (bV rfl) |exact bE (bE rfl))(hd:NDb x:=by decide)
 (q:NCd x:=by decide):DE c (X.comp scope Nc cl C ex a7 b0) (.Name x pos) (ag i):=AN (pvc i z B hd q)
def nB(i:Nat){pos:Pos}(z:Nc[i]?=aa x:=by rfl)(B:Vis scope x:=by first |exact bV rfl |exact bE (bV rfl) |exact bE (bE rfl))(hd:NDb x:=by decide)
 (q:NCd x:=by decide):DC c (X.comp scope Nc cl C ex a7 b0) (.Name x pos) (am i):=AO (pvc i z B hd q)
def dgc(i k:Nat){pos:Pos}(z:i<k:=by decide)(q:Nc.Nodup:=by decide +kernel)(hi:Nc[i]?=aa x:=by rfl)(B:scope.names.lookup x=aa .local:=by rfl):DG c (X.comp scope Nc cl C ex a7 b0) (.Name x pos) k (aJ i):=
 A7 (pgc i q hi B) z
inductive Fl where
 |nx (ρ:LS)
 |bk (ρ:LS)
 |ct (ρ:LS)
 |rt (d:D)
 |rtO (ds:LD)
 |rtS (d:D) (ρ:LS)
 |rtT (o:O)
nonrec abbrev MF3:=LS->Option Fl
abbrev sJ(G:Gc)(Hf0 H0 Hf:Hp)(E:jO):Fl->Prop
 |.nx ρ'=>∀σ' Hf' H',aN Hf Hf'->aM G Hf0 H0 Hf' H' σ' ρ'->E.nx σ' H'
 |.bk ρ'=>∀σ' Hf' H',aN Hf Hf'->aM G Hf0 H0 Hf' H' σ' ρ'->E.bk σ' H'
 |.ct ρ'=>∀σ' Hf' H',aN Hf Hf'->aM G Hf0 H0 Hf' H' σ' ρ'->E.ct σ' H'
 |.rt d=>∀v Hf' H',Ext Hf0 H0 Hf' H'->Rep G Hf' d v->E.rt v H'
 |.rtO ds=>∀l vs Hf' H',Ext Hf0 H0 Hf' H'->H0 l=ae->Hf' l=ae->H' l=aa (.lst vs)->aC G Hf' ds vs->E.rt (.ref l) H'
 |.rtS d ρ=>∀v σ' Hf' H',aM G Hf0 H0 Hf' H' σ' ρ->Rep G Hf' d v->E.rt v H'
 |.rtT o=>∀u fp Hf' H',Ext Hf0 H0 Hf' H'->OT G Hf' H' o u fp->fp.Nodup->(∀a∈fp,H0 a=ae/\Hf' a=ae)->E.rt u H'
inductive tDS(G:Gc)(F:MF3)(E:jO)(σ:St)(H:Hp):Prop
 |mk:∀Hf0 H0 Hf ρ o,aM G Hf0 H0 Hf H σ ρ->F ρ=aa o->sJ G Hf0 H0 Hf E o->tDS G F E σ H
abbrev DS(c:Str->Addr)(X:Cx)(st:Stmt)(F:MF3):Prop:=PS X st (tDS (Gx c X) F)
abbrev DSs(c:Str->Addr)(X:Cx)(st:List Stmt)(F:MF3):Prop:=PSs X st (tDS (Gx c X) F)
abbrev bK(ρ:LS):Option Fl:=aa (.nx ρ)
abbrev aA(F F':MF3)(ρ:LS):Option Fl:=(F ρ).bind λo=>match o with
 |.nx ρ'=>F' ρ'
 |o=>aa o
abbrev bv(t:MF4)(F F':MF3)(ρ:LS):Option Fl:=(t ρ).bind λb=>if b then F ρ else F' ρ
abbrev bD(i:Nat)(f:MF1)(ρ:LS):Option Fl:=(f ρ).map λd=>.nx (ρ.set i (.im d))
abbrev dD(i:Nat)(f:MF2)(ρ:LS):Option Fl:=(f ρ).map λd=>.nx (ρ.set i (.own d))
abbrev bY(f:MF1)(ρ:LS):Option Fl:=(f ρ).map .rt
abbrev lg(f:MF2)(ρ:LS):Option Fl:=(f ρ).map .rtO
abbrev e8(i:Nat)(ρ:LS):Option Fl:=match ρ[i]? with
 |some (.im d)=>aa (.rt d)
 |some (.own xs)=>aa (.rtO xs)
 | _=>ae
abbrev cJ(f:MF1)(ρ:LS):Option Fl:=(f ρ).map λ_=>.nx ρ
abbrev iy(g:D->LS->Option LS)(F:MF3):LD->MF3
 | [],ρ=>aa (.nx ρ)
 |d::ds,ρ=>(g d ρ).bind λρ1=>(F ρ1).bind λo=>match o with
  |.nx q=>iy g F ds q
  |.ct q=>iy g F ds q
  |.bk q=>aa (.nx q)
  |.rt d=>aa (.rt d)
  |.rtO d=>aa (.rtO d)
  |.rtS d q=>aa (.rtS d q)
  |.rtT o=>aa (.rtT o)
abbrev cw(fi:MF2)(g:D->LS->Option LS)(F:MF3)(ρ:LS):Option Fl:=(fi ρ).bind λds=>iy g F ds ρ
abbrev sK(i:Nat)(ρ:LS):LS:=match ρ[i]? with
 |some (.own xs)=>ρ.set i (.im (.lst xs))
 |some (.ownd ks xs)=>ρ.set i (.im (.dic ks xs))
 |some (.obj c ns xs)=>ρ.set i (.im (.ins c ns xs))
 | _=>ρ
abbrev fu(i:Nat)(F:MF3)(ρ:LS):Option Fl:=F (sK i ρ)
abbrev fN(i:Nat)(f:MF1)(ρ:LS):Option Fl:=(f ρ).bind λd=>match ρ[i]? with
 |some (.own xs)=>if xs.length<16777216 then aa (.nx (ρ.set i (.own (xs++[d])))) else ae
 | _=>ae
abbrev fw(f:MF1)(ρ:LS):OLD:=(f ρ).bind λd=>match d with
 |.lst xs=>aa xs
 | _=>ae
abbrev fA(i:Nat)(f:MF2)(ρ:LS):Option Fl:=(f ρ).bind λds=>match ρ[i]? with
 |some (.own xs)=>if xs.length+ds.length<=16777216 then aa (.nx (ρ.set i (.own (xs++ds)))) else ae
 | _=>ae
def cn:DSs c X [] bK:=PSs.imp zS λE σ H z=>by
 obtain⟨Hf0,H0,Hf,ρ,o,B,q,k⟩:=z;exact(by cases q;exact k σ Hf H (aN.refl _) B)
variable{E:jO}
def sJ.up{o:Fl}(h:sJ G Hf0 H0 Hf E o)(s:aN Hf Hf'):sJ G Hf0 H0 Hf' E o:=by
 cases o with
 |nx ρ=>exact λσ' cc H2 s2 q=>h σ' cc H2 (s.trans s2) q
 |bk ρ=>exact λσ' cc H2 s2 q=>h σ' cc H2 (s.trans s2) q
 |ct ρ=>exact λσ' cc H2 s2 q=>h σ' cc H2 (s.trans s2) q
 |rt d=>exact h
 |rtO d=>exact h
 |rtS d ρ=>exact h
 |rtT o=>exact h
variable{st:Stmt}{sts:List Stmt}{F F':MF3}
def aH(I:DS c X st F)(L:DSs c X sts F'):DSs c X (st::sts) (aA F F'):=PSs.imp (vK I L) λE σ H M=>by
 obtain⟨Hf0,H0,Hf,ρ,o,T,q,k⟩:=M;unfold aA at q
 cases z:F ρ with
 |none=>rw[z]at q;nomatch q
 |some o1=>
  rw[z]at q;refine⟨Hf0,H0,Hf,ρ,o1,T,z,?_⟩
  cases o1 with
  |nx ρ1=>exact λU b7 H1 s1 B=>⟨Hf0,H0,b7,ρ1,o,B,q,k.up s1⟩
  |bk ρ1=>cases q;exact k
  |ct ρ1=>cases q;exact k
  |rt d=>cases q;exact k
  |rtO d=>cases q;exact k
  |rtS d ρ1=>cases q;exact k
  |rtT o'=>cases q;exact k
def aF(q:DS c X st F):DSs c X [st] F:=rK q
variable{a b:List Stmt}
def bO{pos:Pos}(T:DT c X cd t)(L:DSs c X a F)(M:DSs c X b F'):DS c X (.If cd a b pos) (bv t F F'):=PS.imp (vL T L M) λE σ H U=>by
 obtain⟨Hf0,H0,Hf,ρ,o,I,q,k⟩:=U;unfold bv at q
 cases B:t ρ with
 |none=>rw[B]at q;nomatch q
 |some x=>
  rw[B]at q;refine⟨Hf0,H0,Hf,ρ,x,I,B,λb7 H1 z=>?_⟩
  cases x with
  |true=>rw[if_pos rfl];exact⟨Hf0,H0,b7,ρ,o,I.step z,q,k.up z.f⟩
  |false=>rw[if_neg cy];exact⟨Hf0,H0,b7,ρ,o,I.step z,q,k.up z.f⟩
def A9{f:MF1}(I:PS X st (jQ te (jP i)))(hi:∀σ H Q,tD (Gx c X) f σ H Q->te σ H Q):DS c X st (bD i f):=PS.imp I λE σ H L=>by
 obtain⟨Hf0,H0,Hf,ρ,o,B,q,k⟩:=L;unfold bD at q
 cases z:f ρ with
 |none=>rw[z]at q;nomatch q
 |some d=>
  rw[z]at q;cases q;exact hi _ _ _ ⟨Hf0,H0,Hf,ρ,d,B,z,λv Hf' H' x r=>k _ Hf' H' x.f ((B.step x).setIm r)⟩
def Ba(T:PS X st (jQ te (jP i)))(hi:∀σ H Q,tDO (Gx c X) f σ H Q->te σ H Q):DS c X st (dD i f):=PS.imp T λE σ H U=>by
 obtain⟨Hf0,H0,Hf,ρ,o,B,q,k⟩:=U;unfold dD at q
 cases z:f ρ with
 |none=>rw[z]at q;nomatch q
 |some d=>
  rw[z]at q;cases q;exact hi _ _ _ ⟨Hf0,H0,Hf,ρ,d,B,z,λl vs Hf' H' x M I L r=>k _ Hf' H' x.f (B.setOwn rfl x M I ⟨vs,L,r⟩)⟩
def cV{pos:Pos}(i:Nat){f:MF1}(q:X.N.Nodup)(z:DE c X e f)(hi:X.N[i]?=aa x:=by rfl)(L:Loc X.env.scope x:=by first |exact bV rfl |exact bE rfl)(I:eX e (aa (.Name x b5)) pos.line X.env=pure aj:=by rfl)(B:LcF X x:=by first |exact .inl rfl |exact .inr rfl):
  DS c X (.Assign [.Name x b5] e pos) (bD i f):=A9 (k4 q hi L z I B) λ_ _ _ h=>h
def fO{pos:Pos}(i:Nat)(q:X.N.Nodup)(z:DO c X e f)(hi:X.N[i]?=aa x:=by rfl)(L:Loc X.env.scope x:=by first |exact bV rfl |exact bE rfl)(I:eX e (aa (.Name x b5)) pos.line X.env=pure aj:=by rfl)(B:LcF X x:=by first |exact .inl rfl |exact .inr rfl):
  DS c X (.Assign [.Name x b5] e pos) (dD i f):=Ba (k4 q hi L z I B) λ_ _ _ h=>h
def G7(h:tD G (aw f) σ H Q):tDO G f σ H Q:=by
 obtain⟨Hf0,H0,Hf,ρ,d,st,q,k⟩:=h;unfold aw at q
 cases z:f ρ with
 |none=>rw[z]at q;nomatch q
 |some ds=>
  rw[z]at q;have q:=cu q;subst q;exact⟨Hf0,H0,Hf,ρ,ds,st,z,λl vs Hf' H' x L B I r=>k _ _ H' (x.fix L B I) ⟨l,vs,rfl,bN,r.up (cv B)⟩⟩
def wx{pos:Pos}(i:Nat)(k:Nat)(js:LN)(Nc:LSt)(L:X.N.Nodup)(M:X.calm=af)(hi:DIe c X tg iter fi)
 (q:∀cl C ex a7 b0,DG c (X.comp scope Nc cl C ex a7 b0) tg k g)(ht:∀cl C ex a7 b0,DTs c (X.comp scope Nc cl C ex a7 b0) dw ft)(T:∀cl C ex a7 b0,DE c (X.comp scope Nc cl C ex a7 b0) da fe)
 (z:X.N[i]?=aa x:=by rfl)(hx:Loc X.env.scope x:=by first |exact bV rfl |exact bE rfl)
 (B:eX (.ListComp da [⟨tg,iter,dw,0⟩] scope pos) (aa (.Name x b5)) c0.line X.env=pure af:=by rfl)
 (I:io scope X.env.scope.names X.N Nc k js=af:=by rfl)(hs:∀x,gS iter X.env x=pure x:=by intro _;rfl)(hj:js.Nodup:=by decide)
 (U:LcF X x:=by first |exact .inl rfl |exact .inr rfl):
  DS c X (.Assign [.Name x b5] (.ListComp da [⟨tg,iter,dw,0⟩] scope pos) c0) (dD i (bH k js fi g ft fe)):=
 Ba (si (tt:=tDT (Gx c X) ft) (te:=tD (Gx c X) fe) k js Nc L z hx M hi (λcl C ex a7 b0=>(q cl C ex a7 b0).pg) ht T B I hs U) λσ H Q h=>ww hj (q [] 0 [] X.s₀ X.H₀).keep (q [] 0 [] X.s₀ X.H₀).len h
def jX{pos:Pos}(i:Nat)(k:Nat)(js:LN)(Nc:LSt)(L:X.N.Nodup)(M:X.calm=af)(hi:DIe c X tg iter fi)
 (q:∀cl C ex a7 b0,DG c (X.comp scope Nc cl C ex a7 b0) tg k g)(ht:∀cl C ex a7 b0,DTs c (X.comp scope Nc cl C ex a7 b0) dw ft)(T:∀cl C ex a7 b0,DE c (X.comp scope Nc cl C ex a7 b0) da fe)
 (z:X.N[i]?=aa x:=by rfl)(hx:Loc X.env.scope x:=by first |exact bV rfl |exact bE rfl)
 (B:eX (.ListComp da [⟨tg,iter,dw,0⟩] scope pos) (aa (.Name x b5)) c0.line X.env=pure af:=by rfl)
 (I:io scope X.env.scope.names X.N Nc k js=af:=by rfl)(hs:∀x,gS iter X.env x=pure x:=by intro _;rfl)(hj:js.Nodup:=by decide)
 (U:LcF X x:=by first |exact .inl rfl |exact .inr rfl):
  DS c X (.Assign [.Name x b5] (.ListComp da [⟨tg,iter,dw,0⟩] scope pos) c0) (bD i (aw (bH k js fi g ft fe))):=
 A9 (si (tt:=tDT (Gx c X) ft) (te:=tD (Gx c X) fe) k js Nc L z hx M hi (λcl C ex a7 b0=>(q cl C ex a7 b0).pg) ht T B I hs U) λσ H Q h=>ww hj (q [] 0 [] X.s₀ X.H₀).keep (q [] 0 [] X.s₀ X.H₀).len (G7 h)
def cW{pos:Pos}{f:MF1}(I:DE c X e f):DS c X (.Return (aa e) pos) (bY f):=PS.imp (m9 I) λE σ H L=>by
 obtain⟨Hf0,H0,Hf,ρ,o,B,q,k⟩:=L;unfold bY at q
 cases z:f ρ with
 |none=>rw[z]at q;nomatch q
 |some d=>
  rw[z]at q;cases q;exact⟨Hf0,H0,Hf,ρ,d,B,z,λv Hf' H' x r=>k v Hf' H' (B.ext.trans x) r⟩
abbrev gh(f:MF1)(ρ:LS):Option Fl:=(f ρ).map λd=>.rtS d ρ
def jh{pos:Pos}{f:MF1}(I:DE c X e f):DS c X (.Return (aa e) pos) (gh f):=PS.imp (m9 I) λE σ H L=>by
 obtain⟨Hf0,H0,Hf,ρ,o,B,q,k⟩:=L;unfold gh at q
 cases z:f ρ with
 |none=>rw[z]at q;nomatch q
 |some d=>
  rw[z]at q;cases q;exact⟨Hf0,H0,Hf,ρ,d,B,z,λv Hf' H' x r=>k v σ Hf' H' (B.step x) r⟩
def sL{pos:Pos}(I:DO c X e f):DS c X (.Return (aa e) pos) (lg f):=PS.imp (m9 I) λE σ H U=>by
 obtain⟨Hf0,H0,Hf,ρ,o,B,q,k⟩:=U;unfold lg at q
 cases z:f ρ with
 |none=>rw[z]at q;nomatch q
 |some d=>
  rw[z]at q;cases q;exact⟨Hf0,H0,Hf,ρ,d,B,z,λl vs Hf' H' x T L M r=>k l vs Hf' H' (B.ext.trans x) (B.ext.h.free T) L M r⟩
def G8{pos:Pos}(M:PE X e (eL i)):DS c X (.Return (aa e) pos) (e8 i):=PS.imp (m9 M) λE σ H U=>by
 obtain⟨Hf0,H0,Hf,ρ,o,B,z,k⟩:=U;unfold e8 at z
 cases es:ρ[i]? with
 |none=>rw[es]at z;nomatch z
 |some s=>
  rw[es]at z
  cases s with
  |im d=>
   cases z;obtain⟨v,I,r⟩:=B.imm es
   exact⟨_,I,k v Hf H B.ext r⟩
  |own xs=>
   cases z;obtain⟨l,I,L,T,vs,q,r⟩:=B.ownAt rfl es
   exact⟨_,I,k l vs Hf H B.ext L T q r⟩
  | _=>nomatch z
def g4{pos:Pos}(i:Nat)(z:X.N[i]?=aa x:=by rfl)(B:Vis X.env.scope x:=by first |exact bV rfl |exact bE (bV rfl) |exact bE (bE rfl))(hd:NDb x:=by decide)
 (q:NCd x:=by decide):DS c X (.Return (aa (.Name x p)) pos) (e8 i):=G8 (kX z B hd q)
variable{f:MF1}
def fb{pos:Pos}(I:DE c X e f)(L:eX e ae pos.line X.env=pure aj:=by rfl):DS c X (.Expr e pos) (cJ f):=PS.imp (cM I L) λE σ H M=>by
 obtain⟨Hf0,H0,Hf,ρ,o,B,q,k⟩:=M;unfold cJ at q
 cases z:f ρ with
 |none=>rw[z]at q;nomatch q
 |some d=>
  rw[z]at q;cases q;exact⟨Hf0,H0,Hf,ρ,d,B,z,λv Hf' H' x r=>k σ Hf' H' x.f (B.step x)⟩
def dG{pos:Pos}(hp:PassesOwn (model X.prog X.w) X.A X.env X.xe)(hc:X.calm=af)(hi:DI c X tg iter fi)(hg:DG c X tg kk g)(hb:DSs c X a F)(hs:∀x,gS iter X.env x=pure x:=by intro _;rfl):
  DS c X (.For tg iter a [] pos) (cw fi g F):=PS.imp (zY hp hc hi hg.pg hb hs) λE σ H q_=>by
 obtain⟨Hf0,H0,Hf,ρ,o,so,T,k⟩:=q_;unfold cw at T
 cases e1:fi ρ with
 |none=>rw[e1]at T;nomatch T
 |some ds=>
  rw[e1]at T;refine⟨Hf0,H0,Hf,ρ,ds,so,e1,λJ b7 H1 x1 it=>?_⟩;refine⟨λi m σ' H'=>m=ds.length-i/\i<=ds.length/\∃Hf' ρ',aM _ Hf0 H0 Hf' H' σ' ρ'/\aN b7 Hf'/\iy g F (ds.drop i) ρ'=aa o,⟨ds.length,rfl,gs _,b7,ρ,so.step x1,aN.refl _,T⟩,?_⟩;rintro i m σ' H' ⟨rfl,hi',Hf',ρ',L,s1,em⟩;obtain⟨hO,it2⟩:=it Hf' H' s1 L.sub i
  by_cases I:i<ds.length
  .obtain⟨d,ed,edr⟩:=nA I;obtain⟨go,yl⟩:=hO d ed;rw[edr]at em;dsimp only[iy]at em;refine .inr ⟨go,λfy H2=>ds.length-_=ds.length-_/\i+1<=ds.length/\∃Hf' ρ',aM _ Hf0 H0 Hf' H2 fy ρ'/\aN b7 Hf'/\iy g F _ ρ'=aa o,λfy H2 w=>⟨ds.length-(i+1),by lia,w⟩,λx H2 y=>?_⟩;obtain⟨cc,x2,rx⟩:=yl x H2 y
   cases eg:g d ρ' with
   |none=>rw[eg]at em;nomatch em
   |some ρ1=>
    rw[eg]at em;replace em:(F ρ1).bind _=_:=em
    cases eF:F ρ1 with
    |none=>rw[eF]at em;nomatch em
    |some o1=>
     rw[eF]at em;refine⟨Hf0,H0,cc,ρ',d,ρ1,L.step x2,rx,eg,λgg so3=>⟨Hf0,H0,cc,ρ1,o1,so3,eF,?_⟩⟩;have sf:=s1.trans x2.f
     cases o1 with
     |nx B=>exact λM q H4 U z=>⟨rfl,I,q,B,z,sf.trans U,em⟩
     |ct B=>exact λM q H4 U z=>⟨rfl,I,q,B,z,sf.trans U,em⟩
     |bk B=>cases em;exact λM q H4 U z=>k M q H4 ((x1.f.trans sf).trans U) z
     |rt d=>cases em;exact k
     |rtO d=>cases em;exact k
     |rtS d B=>cases em;exact k
     |rtT o'=>cases em;exact k
  .have ei:i=ds.length:=by lia
   subst ei;rw[mU (bL _)]at em;cases em;exact .inl ⟨it2 rfl,k σ' Hf' H' (x1.f.trans s1) L⟩
def G9(h:tDS G (fu i F) E σ H):tDS G F E σ H:=by
 obtain⟨Hf0,H0,Hf,ρ,o,I,L,k⟩:=h;unfold fu sK at L;split at L
 .rename_i xs es;obtain⟨l,M,T,B,vs,q,r⟩:=I.ownAt rfl es;exact⟨Hf0,H0,_,_,o,I.fixd (d:=.lst xs) rfl es M q ⟨l,vs,rfl,bN,r.up (cv B)⟩,L,k.up (cv B)⟩
 .rename_i ks xs es;obtain⟨l,M,T,B,vs,q,z,r⟩:=I.ownAt rfl es;exact⟨Hf0,H0,_,_,o,I.fixd (d:=.dic ks xs) rfl es M q ⟨l,vs,rfl,bN,z,r.up (cv B)⟩,L,k.up (cv B)⟩
 .rename_i U ns xs es;obtain⟨l,M,T,B,dx,vs,q,z,r⟩:=I.ownAt rfl es;exact⟨Hf0,H0,_,_,o,I.fixd (d:=.ins U ns xs) rfl es M q ⟨l,dx,vs,rfl,bN,z,r.up (cv B)⟩,L,k.up (cv B)⟩
 .exact⟨Hf0,H0,Hf,ρ,o,I,L,k⟩
def g5(i:Nat)(h:DS c X st F):DS c X st (fu i F):=PS.imp h λ_ _ _=>G9
def ji(h:PS X st (kZ (tBM X.K "list" vW (eL i) (k7 (tD (Gx c X) f) lX)))):DS c X st (fN i f):=PS.imp h λE σ H T=>by
 obtain⟨Hf0,H0,Hf,ρ,o,I,z,k⟩:=T;unfold fN at z
 cases B:f ρ with
 |none=>rw[B]at z;nomatch z
 |some d=>
  rw[B]at z;split at z
  .rename_i xs es;split at z
   .rename_i M;cases z;obtain⟨l,L,h0,hf,vs,q,r⟩:=I.ownAt rfl es;refine⟨_,L,.inl ⟨rfl,_,SqL.of q⟩,Hf0,H0,Hf,ρ,d,I,B,λv Hf' H' x U=>?_⟩;refine⟨l,vs,v,rfl,rfl,(x.h _ _ q),by rw[cY,<- r.length];exact M,k σ Hf' _ x.f ((I.step x).mutd rfl rfl es L ⟨vs++[v],bN,(r.up x.f).append (.cons U .nil)⟩)⟩
   .nomatch z
  .nomatch z
def jY(h:PS X st (kZ (tBM X.K "list" vX (eL i) (k7 (tD (Gx c X) f) lX)))):DS c X st (fA i (fw f)):=PS.imp h λE σ H q_=>by
 obtain⟨Hf0,H0,Hf,ρ,o,I,z,k⟩:=q_;unfold fA fw at z
 cases B:f ρ with
 |none=>rw[B]at z;nomatch z
 |some d=>
  rw[B]at z
  cases d with
  |lst ds=>
   replace z:(match ρ[i]? with |some (.own xs)=>if xs.length+ds.length<=16777216 then aa _ else ae | _=>ae)=aa o:=z
   split at z
   .rename_i xs es;split at z
    .rename_i U;cases z;obtain⟨l,L,h0,hf,vs,q,r⟩:=I.ownAt rfl es;refine⟨_,L,.inl ⟨rfl,_,SqL.of q⟩,Hf0,H0,Hf,ρ,.lst ds,I,B,λv Hf' H' x r'=>?_⟩;obtain⟨a,us,T,qa,M⟩:=r';subst T;refine⟨l,a,vs,us,rfl,rfl,(x.h _ _ q),x.s _ _ qa,by rw[cY,<- r.length,<- M.length];exact U,k σ Hf' _ x.f ((I.step x).mutd rfl rfl es L ⟨vs++us,bN,(r.up x.f).append M⟩)⟩
    .grind
   .grind
  | _=>nomatch z
abbrev Bb:Fl->OD
 |.rt d=>aa d
 |.rtO ds=>aa (.lst ds)
 |.rtS d _=>aa d
 |.nx _=>aa .non
 | _=>ae
abbrev dL(n:Nat)(ds:LD):LS:=ds.map .im++iW (n-ds.length) .no
abbrev cb(n:Nat)(F:MF3)(ds:LD):OD:=(F (dL n ds)).bind Bb
abbrev spD(G:Gc)(n:Nat)(m:LD->OD):Sp:=λvs H Q _=>∃Hf ds d,aN Hf H/\aC G Hf ds vs/\ds.length=n/\m ds=aa d/\∀v Hf' H',Ext Hf H Hf' H'->Rep G Hf' d v->Q v H'
def aM.start(L:aN Hf H)(r:aC G Hf ds vs):aM G Hf H Hf H (start N vs) (dL N.length ds):=by
 have im:∀i (s:Sl),(dL N.length ds)[i]?=aa s->s=.no\/∃d,ds[i]?=aa d/\s=.im d:=λi s b=>by
  unfold dL at b
  by_cases hi:i<ds.length
  .rw[oF (by simpa using hi)]at b;obtain⟨d,z,es⟩:=mf b;exact .inr ⟨d,z,es⟩
  .rw[mT (by simpa using ve hi)]at b;obtain⟨_,e⟩:=dX.mp b;rw[List.getElem_replicate]at e;exact .inl e.symm
 refine⟨Ext.refl L,by simp[L2.start,dL,r.length],λi v s a b=>?_,λi j s t v w l a b c d p q=>?_⟩
 .rcases im i s b with e |⟨d,z,es⟩
  .subst e;trivial
  .subst es;obtain⟨u,B,I⟩:=r.get z;refine⟨u,?_,I⟩;unfold L2.start at a;rw[oF (by simpa using ((dX.mp B).1)),fS,B]at a;exact(cu a).symm
 .rcases im i s a with e |⟨d,z,es⟩
  .subst e;exact(p.calm rfl).elim
  .subst es;exact(p.calm rfl).elim
variable{P:cS}{mg:MGT}{base:Heap}{n_:Nat}{qual:Str}{fd:fI}{ps:LSt}
def cA{f:Addr}(Fn:Fun K x qual st f fd)(S:bG N ps (bq st))
 (h:∀(cdv:Value) (A:cZ) (outer:List Env) (s:aE) (H:Hp) (E:XK),cN k (A.deeper (gt qual (bq st) s.heap.objs.size f cdv))->DSs c (gD CX0 P w K mg base N qual (bq st) f cdv A outer s H E).nox (jc st) F)(I:N.length=n_:=by rfl):
  eM P w K mg base CX0 (k+1) f fd ps (spD ⟨K,c⟩ ps.length (cb n_ F)):=by
 subst I;refine Fn.ok S (λvs H Q E L=>by obtain⟨Hf,ds,d,U,r,q,_⟩:=L;rw[<- r.length];exact q) λcdv A outer s H vs Q E hr L=>?_;obtain⟨Hf,ds,d,U,r,q,e,z⟩:=L;refine⟨_,h cdv A outer s H E hr,?_⟩;unfold cb at e
 cases B:F _ with
 |none=>rw[B]at e;nomatch e
 |some o=>
  rw[B]at e;refine⟨Hf,H,Hf,_,o,aM.start U r,B,?_⟩
  cases o with
  |nx ρ=>cases e;exact λσ' Hf' H' _ M=>z _ Hf' H' M.ext rfl
  |bk ρ=>nomatch e
  |ct ρ=>nomatch e
  |rt d=>cases e;exact z
  |rtO rs=>cases e;exact λl vs Hf' H' x hn T q r=>z _ _ H' (x.fix hn T q) ⟨l,vs,rfl,bN,r.up (cv T)⟩
  |rtS d ρ=>cases e;exact λv σ' Hf' H' M r=>z v Hf' H' M.ext r
  |rtT o=>nomatch e
variable{f:Addr}{fa:MF2}{k0:Nat}
def ba{pos:Pos}(pk:Pk X.prog X.w X.K X.mg X.base CX0 k x (f,fd) ps (spD (Gx c X) ps.length m))(I:cN k0 X.A)(M:DA c X (e::es) fa)(hl:(e::es).length=ps.length:=by rfl)(q:NDb x:=by decide)(he:StE X e es:=by rfl)(B:BkE X pos es:=by rfl)(z:k<=k0:=by decide)(hg:Gl X x:=by first |rfl |exact glc rfl):
  DE c X (.Call (.Name x p) (e::es) [] pos) (aq m fa):=PE.imp (nc pk.ok (I.mono z) hg pk.g pk.kp pk.b .nil o9 M.pa q he B) λσ H Q q_=>by
 obtain⟨Hf0,H0,Hf,ρ,d,st,U,kq⟩:=q_;obtain⟨ds,L,T⟩:=wq U;refine⟨Hf0,H0,Hf,ρ,ds,st,L,λvs Hf' H' x r=>?_⟩;rw[dh];exact⟨Hf',ds,d,x.s,r,(M.len ρ ds L).trans hl,T,λv cc H2 x2 r2=>kq v cc H2 (x.trans x2) r2⟩
def Ha{f:MF1}(h:f ρ=aa d):bD i f ρ=aa (.nx (ρ.set i (.im d))):=by
 unfold bD;rw[h];rfl
def Hb{f:MF2}{d:LD}(h:f ρ=aa d):dD i f ρ=aa (.nx (ρ.set i (.own d))):=by
 unfold dD;rw[h];rfl
def Hc{f:MF1}(h:f ρ=aa d):bY f ρ=aa (.rt d):=by
 unfold bY
 rw[h];rfl
def aZ{f:MF2}(h:f ρ=aa ds)(h':m ds=aa d):aq m f ρ=aa d:=by
 unfold aq;rw[h];exact h'
def wy{z:Type}{h:D->Option OD}(f:z->D)(p:z->Bool)(q:z->D):∀(xs:List z),(∀x∈xs,h (f x)=aa (if p x then aa (q x) else ae))->fM h (xs.map f)=aa ((xs.filter p).map q)
 | [],_=>rfl
 |x::xs,hh=>by
  rw[di];unfold fM;rw[hh x bR,wy f p q xs λy B=>hh y (cE _ B)]
  grind
def Hd{z:Type}{h:D->Option OD}(f:z->D)(q:z->D)(xs:List z)(B:∀x∈xs,h (f x)=aa (aa (q x))):fM h (xs.map f)=aa (xs.map q):=by
 have:=wy f (λ_=>af) q xs λx I=>(B x I).trans rfl;rw[this,filter_eq_self.mpr λ_ _=>rfl]
def wz{z:Type}(xs:List z)(f:z->D)(p:z->Bool)(q:z->D)
 (hi:fi ρ=aa (xs.map f))(hz:xs.length<=16777216)(B:∀x∈xs,g3 g ft fe (dC k js ρ) (f x)=aa (if p x then aa (q x) else ae)):bH k js fi g ft fe ρ=aa ((xs.filter p).map q):=by
 unfold bH;rw[hi];show(if (xs.map f).length<=16777216 then _ else ae)=_;rw[aG,if_pos hz];exact wy f p q xs B
def fZ{z:Type}(xs:List z)(f:z->D)(q:z->D)
 (hi:fi ρ=aa (xs.map f))(hz:xs.length<=16777216)(B:∀x∈xs,g3 g ft fe (dC k js ρ) (f x)=aa (aa (q x))):bH k js fi g ft fe ρ=aa (xs.map q):=by
 unfold bH;rw[hi];show(if (xs.map f).length<=16777216 then _ else ae)=_;rw[aG,if_pos hz];exact Hd f q xs B
def Bc(lo:Int)(n:Nat):rng lo n=(bx n).map λ(i:Nat)=>D.int (lo+i):=rfl
abbrev mh:Nat->D->Prop
 | 0,_=>False
 |n+1,d=>match d with
  |.lst xs=>∀x∈xs,mh n x
  |.tup xs=>∀x∈xs,mh n x
  |d=>d.scalar=af
def mh.mono:∀(n:Nat) (d:D),mh n d->mh (n+1) d
 | 0,_,h=>h.elim
 |n+1,d,h=>by
  cases d with
  |lst xs=>exact λx q=>mh.mono n x (h x q)
  |tup xs=>exact λx q=>mh.mono n x (h x q)
  | _=>exact h
def fP(i j:Int):dEq (.int i) (.int j)=aa (.bl (i==j)):=rfl
def wA(i j:Int):dNe (.int i) (.int j)=aa (.bl (!(i==j))):=rfl
variable{f:MF1}
def av{m:D->D->OD}{g:MF1}{x:D}(q:f ρ=aa x)(z:g ρ=aa y)(B:m x y=aa d):m2 m f g ρ=aa d:=by
 unfold m2;rw[q,z];exact B
variable{b:Bool}
def bf(h:f ρ=aa (.bl b)):mB f ρ=aa b:=by
 unfold mB;rw[h];rfl
def pj(h:f ρ=aa d)(h':su d=aa b):ge f ρ=aa b:=by
 unfold ge;rw[h];exact h'
variable{f:MF4}
def wB(h:f ρ=aa b):jV f ρ=aa (!b):=by
 unfold jV;rw[h];rfl
variable{g:MF4}
def He{r:Option Bool}(h:f ρ=aa af)(h':g ρ=r):ir f g ρ=r:=by
 unfold ir;rw[h];exact h'
def Hg(h:f ρ=aa aj):ir f g ρ=aa aj:=by
 unfold ir;rw[h];rfl
def Hh(h:f ρ=aa af):mOr f g ρ=aa af:=by
 unfold mOr;rw[h];rfl
def Hi{r:Option Bool}(h:f ρ=aa aj)(h':g ρ=r):mOr f g ρ=r:=by
 unfold mOr;rw[h];exact h'
variable{a:Bool}
def sM(h:f ρ=aa a)(h':g ρ=aa b):ir f g ρ=aa (a && b):=by
 cases a with
 |true=>exact He h h'
 |false=>exact Hg h
def wC(h:f ρ=aa a)(h':g ρ=aa b):mOr f g ρ=aa (a || b):=by
 cases a with
 |true=>exact Hh h
 |false=>exact Hi h h'
variable{f:MF1}
def sN{g:MF1}(h:f ρ=aa (.bl a))(h':g ρ=aa (.bl b)):jf f g ρ=aa (.bl (a && b)):=by
 unfold jf;rw[bf h]
 grind
def Bd{g:MF1}(h:f ρ=aa (.bl a))(h':g ρ=aa (.bl b)):vOr f g ρ=aa (.bl (a || b)):=by
 unfold vOr;rw[bf h]
 grind
def ai{g:MF2}(h:f ρ=aa d)(h':g ρ=aa ds):ac f g ρ=aa (d::ds):=by
 unfold ac;rw[h,h'];rfl
variable{f:MF2}
def aX(h:f ρ=aa ds):aO f ρ=aa (.tup ds):=by
 unfold aO;rw[h];rfl
def bo(h:f ρ=aa ds):aw f ρ=aa (.lst ds):=by
 unfold aw;rw[h];rfl
def ar{g:MF1}{i:Int}{r:OD}(h:f ρ=aa ds)(h':g ρ=aa (.int i))(q:atI ds i=r):mIx f g ρ=r:=by
 unfold mIx;rw[h,h'];exact q
variable{j:Int}
def sO{C:Int->Int->Prop}[∀i j,Decidable (C i j)]{g:Int->Int->D}{i:Int}(h:C i j):dI C g (.int i) (.int j)=aa (g i j):=by
 show(if C i j then aa _ else ae)=_;rw[if_pos h]
variable{f:MF1}
def Hj(h:f ρ=aa d)(h':ρ[i]?=aa (.own xs))(q:xs.length<16777216):fN i f ρ=aa (.nx (ρ.set i (.own (xs++[d])))):=by
 unfold fN;rw[h,h'];show(if xs.length<16777216 then _ else ae)=_;rw[if_pos q]
def Hk(h:f ρ=aa d):cJ f ρ=aa (.nx ρ):=by
 unfold cJ;rw[h];rfl
variable{ρ1:LS}
def nE{g:D->LS->Option LS}(q:g d ρ=aa ρ1)(z:ft ρ1=aa b)(B:b=af->fe ρ1=aa y):g3 g ft fe ρ d=aa (if b then aa y else ae):=by
 unfold g3
 grind
def fB{g:D->LS->Option LS}(q:g d ρ=aa ρ1)(z:ft ρ1=aa af)(B:fe ρ1=aa y):g3 g ft fe ρ d=aa (aa y):=nE q z λ_=>B
def bz(h:f ρ=aa d)(h':ip d=aa ds):aS f ρ=aa ds:=by
 unfold aS;rw[h];exact h'
def wD:∀{bs:List Bool} {us:LVa},a9 (bs.map V.bl) us->us=bs.map fV
 | [],_,.nil=>rfl
 |b::bs,_,.cons r t=>by
  rw[wD t];cases (r);rfl
def Hl(bs:List Bool):((bx bs.length).all λi=>(bs[i]?).getD af)=bs.all id:=by
 rw[iU,all_eq_true,all_eq_true];constructor
 .intro h b z;obtain⟨i,hi,e⟩:=List.getElem_of_mem z
  simp_all
 .intro h i hi;have q:=cF.mp hi;simp only[fH q];exact h _ (vc q)
def Hm(bs:List Bool):((bx bs.length).any λi=>(bs[i]?).getD aj)=bs.any id:=by
 rw[iU,any_eq_true,any_eq_true];constructor
 .rintro⟨i,hi,e⟩;have q:=cF.mp hi;simp only[fH q]at e;exact⟨_,vc q,e⟩
 .rintro⟨b,z,e⟩;obtain⟨i,hi,rfl⟩:=List.getElem_of_mem z;exact⟨i,cF.mpr hi,by simp only[fH hi];exact e⟩
variable{h':Heap}
def Be{h:Heap}{o:Obj}(q:∀b x,b∉[h.objs.size]->(h.push o).get? b=aa x->h'.get? b=aa x):∀b x,h.get? b=aa x->h'.get? b=aa x:=
 λb x e=>q b x (λz=>by rw[bj.mp z]at e;exact iZ _ (bI e)) (cg _ e)
def Ho(U:X.calm=af):d7 X (.builtin "all") (λxs H Q=>∃(p:Addr) (bs:List Bool),xs=[.ref p]/\SqL X.K H p (bs.map V.bl)/\Q (.bl (bs.all id)) H):=by
 intro pins s σ H xs us Q I r h;obtain⟨l,bs,rfl,hq,q⟩:=h;obtain⟨u,rfl,rx⟩:=jR r;subst rx;obtain⟨its,r',pl,hz⟩:=I.list hq;have e:=wD r';subst e;have B:=pl.isList;have L:l<s.heap.objs.size:=by obtain⟨_,e,_⟩:=B;exact bI e
 refine call_all_walk (m4 B ?_)
 refine⟨s.heap.objs.size,_,_,(bs.map fV).toArray.size,_,_,λi=>(bs[i]?).getD af,rfl,Walks.list (A:=X.A.in1) (I.ok.hd U) _ l (cr L) (bs.map fV).toArray,
  ⟨⟨_,e6 _ rfl,rfl,rfl⟩,B.push _⟩,λi v s' Q' E' T M=>?_,λh' tk hk=>?_⟩
 .have z:(bs.map fV)[i]?=aa v:=by simpa using T
  obtain⟨b,e,rfl⟩:=mf z;simp only[e]at M;exact lP M
 .have e:((bx (bs.map fV).toArray.size).all λi=>(bs[i]?).getD af)=bs.all id:=by
   rw[size_toArray,aG];exact Hl bs
  rw[e];exact⟨.bl _,H,I.kept (Be hk),rfl,q⟩
def Hq(U:X.calm=af):d7 X (.builtin "any") (λxs H Q=>∃(p:Addr) (bs:List Bool),xs=[.ref p]/\SqL X.K H p (bs.map V.bl)/\Q (.bl (bs.any id)) H):=by
 intro pins s σ H xs us Q I r h;obtain⟨l,bs,rfl,hq,q⟩:=h;obtain⟨u,rfl,rx⟩:=jR r;subst rx;obtain⟨its,r',pl,hz⟩:=I.list hq;have e:=wD r';subst e;have B:=pl.isList;have L:l<s.heap.objs.size:=by obtain⟨_,e,_⟩:=B;exact bI e
 refine call_any_walk (m4 B ?_)
 refine⟨s.heap.objs.size,_,_,(bs.map fV).toArray.size,_,_,λi=>(bs[i]?).getD aj,rfl,Walks.list (A:=X.A.in1) (I.ok.hd U) _ l (cr L) (bs.map fV).toArray,
  ⟨⟨_,e6 _ rfl,rfl,rfl⟩,B.push _⟩,λi v s' Q' E' T M=>?_,λh' tk hk=>?_⟩
 .have z:(bs.map fV)[i]?=aa v:=by simpa using T
  obtain⟨b,e,rfl⟩:=mf z;simp only[e]at M;exact lP M
 .have e:((bx (bs.map fV).toArray.size).any λi=>(bs[i]?).getD aj)=bs.any id:=by
   rw[size_toArray,aG];exact Hm bs
  rw[e];exact⟨.bl _,H,I.kept (Be hk),rfl,q⟩
abbrev f6:LD->Option (List Bool)
 | []=>aa []
 |.bl b::ds=>(f6 ds).map λr=>b::r
 | _=>ae
def Bf:∀{ds:LD} {bs:List Bool},f6 ds=aa bs->ds=bs.map D.bl
 | [],_,e=>by cases e;rfl
 |.bl b::ds,_,e=>by
  dsimp only[f6]at e
  cases es:f6 ds with
  |none=>rw[es]at e;cases e
  |some r=>rw[es]at e;cases e;rw[Bf es];rfl
 |.int _::_,_,e=>by cases e
 |.non::_,_,e=>by cases e
 |.str _::_,_,e=>by cases e
 |.lst _::_,_,e=>by cases e
 |.tup _::_,_,e=>by cases e
 |.kl _::_,_,e=>by cases e
 |.kt _::_,_,e=>by cases e
 |.dic _ _::_,_,e=>by cases e
 |.ins _ _ _::_,_,e=>by cases e
def aC.bls{G:Gc}{H:Hp}:∀{bs:List Bool} {vs:List V},aC G H (bs.map D.bl) vs->vs=bs.map V.bl
 | [],_,h=>h
 |b::bs,_,q2_=>by
  obtain⟨v,r,e,q,z⟩:=q2_;subst e;rw[aC.bls z,show v=V.bl b from q];rfl
abbrev sP:LD->OD
 | [d]=>(lsD d).bind λds=>(f6 ds).map λbs=>.bl (bs.all id)
 | _=>ae
abbrev sQ:LD->OD
 | [d]=>(lsD d).bind λds=>(f6 ds).map λbs=>.bl (bs.any id)
 | _=>ae
def sR{f:List Bool->D}(e:(match ds with | [d]=>(lsD d).bind λds=>(f6 ds).map f | _=>ae)=aa d):∃q xs bs,ds=[q]/\lsD q=aa xs/\xs=bs.map D.bl/\d=f bs:=by
 split at e
 .rename_i q
  cases z:lsD q with
  |none=>rw[z]at e;nomatch e
  |some xs=>
   rw[z]at e;replace e:(f6 xs).map f=aa d:=e
   cases B:f6 xs with
   |none=>rw[B]at e;nomatch e
   |some bs=>rw[B]at e;cases e;exact⟨q,xs,bs,rfl,z,Bf B,rfl⟩
 .nomatch e
def Hr(T:X.calm=af):ny c X (.builtin "all") sP:=by
 rintro pins s σ H vs us Q I rv ⟨Hf,ds,d,z,r,e,k⟩;obtain⟨d0,xs,bs,rfl,B,rfl,rfl⟩:=sR e;obtain⟨v,M,U⟩:=r.one;subst M;obtain⟨a,ws,L,q,rs⟩:=jg B U;subst L;refine Ho T pins s σ H _ us Q I rv ⟨a,bs,rfl,?_,k _ Hf H (Ext.refl z) rfl⟩;rw[<- rs.bls];exact z.seq q
def Hs(T:X.calm=af):ny c X (.builtin "any") sQ:=by
 rintro pins s σ H vs us Q I rv ⟨Hf,ds,d,z,r,e,k⟩;obtain⟨d0,xs,bs,rfl,B,rfl,rfl⟩:=sR e;obtain⟨v,M,U⟩:=r.one;subst M;obtain⟨a,ws,L,q,rs⟩:=jg B U;subst L;refine Hq T pins s σ H _ us Q I rv ⟨a,bs,rfl,?_,k _ Hf H (Ext.refl z) rfl⟩;rw[<- rs.bls];exact z.seq q
def Ht:∀ds d,sP ds=aa d->d.scalar=af:=λds d e=>by
 obtain⟨q,xs,bs,rfl,z,rfl,rfl⟩:=sR e;rfl
def Hu:∀ds d,sQ ds=aa d->d.scalar=af:=λds d e=>by
 obtain⟨q,xs,bs,rfl,z,rfl,rfl⟩:=sR e;rfl
abbrev jk:D->Option Key
 |.int i=>aa (.inl i)
 |.str x=>aa (.inr x)
 | _=>ae
def po{k:Key}(e:jk d=aa k)(r:Rep G H d v):v=kV k:=by
 cases d <;> first |(cases e;done) |(cases e;exact r)
abbrev mi(ks:List Key)(k:Key):Bool:=ks.any λj=>decide (j=k)
def Bg{k:Key}:∀{ks:List Key} {vs:List V},ks.length=vs.length->((ks.zip vs).any λq=>decide (q.1=k))=mi ks k
 | [],[],_=>rfl
 | [],_::_,h=>by cases h
 | _::_,[],h=>by cases h
 |j::ks,y::vs,h=>by
  simp only[oH,gR,gR,Bg (by simpa using h)];rfl
abbrev sS(i:Nat)(ρ:LS):Option Fl:=aa (.nx (ρ.set i (.ownd [] [])))
def Hv(L:PS X st (jQ AF (jP i))):DS c X st (sS i):=PS.imp L λE σ H M=>by
 obtain⟨Hf0,H0,Hf,ρ,o,B,I,k⟩:=M;cases I;intro q z;have x:Ext Hf H Hf (upd H q (.dK [])):=Ext.tmp B.sub z;exact k _ Hf _ x.f (B.setOwn rfl x z (B.sub.free z) ⟨[],bN,rfl,.nil⟩)
variable{p':Pos}
def Bh{pos:Pos}(i:Nat)(q:X.N.Nodup)(hi:X.N[i]?=aa x:=by rfl)(I:Loc X.env.scope x:=by first |exact bV rfl |exact bE rfl)(B:eX (.Dict [] [] pos) (aa (.Name x b5)) p'.line X.env=pure aj:=by rfl)(z:LcF X x:=by first |exact .inl rfl |exact .inr rfl):
  DS c X (.Assign [.Name x b5] (.Dict [] [] pos) p') (sS i):=Hv (k4 q hi I AG B z)
def Hw{k:Key}:∀{ks:List Key} {vs:List V},ks.length=vs.length->(d8 (ks.zip vs) k).isSome=mi ks k:=λ{ks vs} h=>by
 rw[<- vY,Bg h]
abbrev eh(f g:MF1)(ρ:LS):OLD:=(f ρ).bind λx=>(g ρ).bind λy=>match x,y with
 |.lst a,.lst b=>if a.length+b.length<=16777216 then aa (a++b) else ae
 | _,_=>ae
def Hx{g:MF1}(h:eh f g ρ=aa ds):∃a b,f ρ=aa (.lst a)/\g ρ=aa (.lst b)/\a.length+b.length<=16777216/\ds=a++b:=by
 unfold eh at h
 cases q:f ρ with
 |none=>rw[q]at h;nomatch h
 |some x=>
  cases z:g ρ with
  |none=>rw[q,z]at h;nomatch h
  |some y=>
   rw[q,z,aR,aR]at h;split at h
   .split at h
    .rename_i a b B;cases h;exact⟨a,b,rfl,rfl,B,rfl⟩
    .nomatch h
   .nomatch h
def iz{pos:Pos}{a b:Expr}{g:MF1}(U:DE c X a f)(hb:DE c X b g):DO c X (.BinOp a .Add b pos) (eh f g):=PE.imp (rQ Ax U hb) λσ H Q q_=>by
 obtain⟨Hf0,H0,Hf,ρ,ds,st,M,k⟩:=q_;obtain⟨xs,ys,I,L,hl,rfl⟩:=Hx M;refine⟨Hf0,H0,Hf,ρ,_,st,I,λv b7 H1 B r1=>⟨Hf0,H0,b7,ρ,_,st.step B,L,λu cc H2 q r2=>?_⟩⟩;obtain⟨l,vs,T,q1,s1⟩:=r1.up q.f;obtain⟨m,us,em,q2,s2⟩:=r2;subst T em;have x:=B.trans q;exact⟨l,m,vs,us,rfl,rfl,q.s _ _ q1,q.s _ _ q2,by rw[cY,<- s1.length,<- s2.length];exact hl,λp z=>k p _ cc _ (x.trans (Ext.tmp x.s z)) (x.h.free z) (x.s.free z) bN (s1.append s2)⟩
abbrev wp(F:MF3)(ρ:LS)(K:Fl->Prop):Prop:=∃o,F ρ=aa o/\K o
abbrev Bi(F:MF3)(K:Fl->Prop):Fl->Prop
 |.nx ρ=>wp F ρ K
 |o=>K o
abbrev sU(J:LS->Prop)(K:Fl->Prop):Fl->Prop
 |.nx ρ=>J ρ
 |.ct ρ=>J ρ
 |.bk ρ=>K (.nx ρ)
 |o=>K o
abbrev nF(Q:D->Prop)(o:Fl):Prop:=∃d,Bb o=aa d/\Q d
variable{K:Fl->Prop}
def ax(h:wp F ρ (Bi F' K)):wp (aA F F') ρ K:=by
 obtain⟨o,e,k⟩:=h;unfold wp aA;rw[e]
 cases o with
 |nx ρ'=>exact k
 | _=>exact⟨_,rfl,k⟩
def ce(h:K (.nx ρ)):wp bK ρ K:=⟨_,rfl,h⟩
def b6(h:f ρ=aa d)(k:K (.nx (ρ.set i (.im d)))):wp (bD i f) ρ K:=⟨_,Ha h,k⟩
def fc{f:MF2}{d:LD}(h:f ρ=aa d)(k:K (.nx (ρ.set i (.own d)))):wp (dD i f) ρ K:=⟨_,Hb h,k⟩
def dn(h:f ρ=aa d)(k:K (.rt d)):wp (bY f) ρ K:=⟨_,Hc h,k⟩
def wE{f:MF2}{d:LD}(h:f ρ=aa d)(k:K (.rtO d)):wp (lg f) ρ K:=⟨_,by unfold lg;rw[h];rfl,k⟩
def nG{o:Fl}(h:F ρ=aa o)(k:K o):wp F ρ K:=⟨_,h,k⟩
def bw(h:t ρ=aa b)(kT:b=af->wp F ρ K)(q:b=aj->wp F' ρ K):wp (bv t F F') ρ K:=by
 unfold wp bv;rw[h]
 cases b with
 |true=>exact kT rfl
 |false=>exact q rfl
def g6(e:sK i ρ=ρ')(h:wp F ρ' K):wp (fu i F) ρ K:=by
 subst e;exact h
def jl(h:f ρ=aa d)(h':ρ[i]?=aa (.own xs))(q:xs.length<16777216)(k:K (.nx (ρ.set i (.own (xs++[d]))))):wp (fN i f) ρ K:=⟨_,Hj h h' q,k⟩
def g7(h:f ρ=aa d)(k:K (.nx ρ)):wp (cJ f) ρ K:=⟨_,Hk h,k⟩
def Bj{L:Type}{g:D->LS->Option LS}{F:MF3}{K:Fl->Prop}(f:L->D)(I:List L->LS->Prop):∀(post pre:List L) (ρ:LS),I pre ρ ->
  (∀z x B ρ,pre++post=z++x::B->I z ρ->∃ρ1,g (f x) ρ=aa ρ1/\wp F ρ1 (sU (I (z++[x])) K))->(∀ρ',I (pre++post) ρ'->K (.nx ρ'))->wp (iy g F (post.map f)) ρ K
 | [],pre,ρ,h,_,hk=>⟨_,rfl,hk ρ (by rw[dh];exact h)⟩
 |x::post,pre,ρ,h,hs,hk=>by
  obtain⟨ρ1,M,o,T,k2⟩:=hs pre x post ρ rfl h;unfold wp;rw[di];dsimp only[iy];simp only[M,aR,T,aR]
  have go:=λq U=>
   Bj f I post (pre++[x]) q U (by rw[fm];exact hs) (by rw[fm];exact hk)
  cases o with
  |nx q=>exact go q k2
  |ct q=>exact go q k2
  |bk q=>exact⟨_,rfl,k2⟩
  |rt d=>exact⟨_,rfl,k2⟩
  |rtO d=>exact⟨_,rfl,k2⟩
  |rtS d q=>exact⟨_,rfl,k2⟩
  |rtT o=>exact⟨_,rfl,k2⟩
def eH{q:Type}{g:D->LS->Option LS}(xs:List q)(f:q->D)(I:List q->LS->Prop)(hi:fi ρ=aa (xs.map f))(z:I [] ρ)
 (L:∀pre x post ρ,xs=pre++x::post->I pre ρ->∃ρ1,g (f x) ρ=aa ρ1/\wp F ρ1 (sU (I (pre++[x])) K))(B:∀ρ',I xs ρ'->K (.nx ρ')):wp (cw fi g F) ρ K:=by
 obtain⟨o,e,k⟩:=Bj f I xs [] ρ z L B;refine⟨o,?_,k⟩;unfold cw;rw[hi];exact e
variable{Q:D->Prop}
def Bk(h:wp F (dL n ds) (nF Q)):∃d,cb n F ds=aa d/\Q d:=by
 obtain⟨o,e,d,z,q⟩:=h;refine⟨d,?_,q⟩;unfold cb;rw[e];exact z
def cx{r:D}(h:wp F (dL n ds) (nF λd=>d=r)):cb n F ds=aa r:=by
 obtain⟨d,e,q⟩:=Bk h;rw[e,q]
def cB(h:Q d):nF Q (.rt d):=⟨d,rfl,h⟩
def lh{d:LD}(h:Q (.lst d)):nF Q (.rtO d):=⟨.lst d,rfl,h⟩
variable{i:Int}
def li(h:0<j):gZ (.int i) (.int j)=aa (.int (i % j)):=sO h
def mj(h:oZ i j):jW (.int i) (.int j)=aa (.int (i / j)):=sO h
def sV(h:o0 i j):pf (.int i) (.int j)=aa (.int (i ^ j.toNat)):=sO h
def dR:bX (.int i) (.int j)=aa (.int (i+j)):=rfl
def g8:fY (.int i) (.int j)=aa (.int (i-j)):=rfl
def wF:dLt (.int i) (.int j)=aa (.bl (decide (i<j))):=rfl
def wG:dLe (.int i) (.int j)=aa (.bl (decide (i<=j))):=rfl
def ml:dGt (.int i) (.int j)=aa (.bl (decide (j<i))):=rfl
def f7{q:Type}(xs:List q)(f:q->D):cI [.lst (xs.map f)]=aa (.int xs.length):=by
 show aa _=_;rw[aG]
def Hy{q:Type}(f:q->D)(xs:List q)(lo hi:Option Int):nw (xs.map f) lo hi=((xs.drop (HT.sIx xs.length 0 lo)).take (HT.sIx xs.length xs.length hi-HT.sIx xs.length 0 lo)).map f:=by
 unfold nw
 simp_all
variable{lo hi:Option Int}
def sW{q:Type}{l h:LS->Option (Option Int)}{g:q->D}{xs:List q}(e:f ρ=aa (.lst (xs.map g)))(z:l ρ=aa lo)(B:h ρ=aa hi):mSl f l h ρ=aa (((xs.drop (HT.sIx xs.length 0 lo)).take (HT.sIx xs.length xs.length hi-HT.sIx xs.length 0 lo)).map g):=by
 unfold mSl;rw[e,aR];show(l ρ).bind _=_;rw[z,aR,B,<- Hy];rfl
abbrev kJ(J:LS->Prop)(o:Fl):Prop:=∃ρ',o=.nx ρ'/\J ρ'
def pq{S:MF3}(J:LS->Prop)(h:wp S ρ (kJ J))(k:∀ρ',J ρ'->wp F ρ' K):wp (aA S F) ρ K:=by
 apply ax;obtain⟨o,e,ρ',rfl,j⟩:=h;exact⟨_,e,k ρ' j⟩
def mm{i:Nat}(h:ρ[i]?=aa (.im d))(k:K (.rt d)):wp (e8 i) ρ K:=⟨_,by unfold e8;rw[h],k⟩
def pw{i:Nat}{d:LD}(h:ρ[i]?=aa (.own d))(k:K (.rtO d)):wp (e8 i) ρ K:=⟨_,by unfold e8;rw[h],k⟩
abbrev D.flat:D->Bool
 |.tup xs=>xs.all D.scalar
 |d=>d.scalar
abbrev nH(Hf H:Hp):Hp:=λa=>match H a with
 |some (.tup vs)=>aa (.tup vs)
 | _=>Hf a
def wH{a:Addr}(h:H a=aa (.tup vs)):nH Hf H a=aa (.tup vs):=by
 unfold nH;rw[h]
def wI{a:Addr}(h:∀vs,H a≠aa (.tup vs)):nH Hf H a=Hf a:=by
 unfold nH
 grind
def Hz(s:aN Hf H)(g:aN H H'):Ext Hf H (nH Hf H') H':=by
 refine⟨λb u e=>?_,g,λb u e=>?_,λl o e t=>wI λvs q=>?_⟩
 .have z:=g b u (s b u e)
  cases u with
  |tup vs=>exact wH z
  | _=>
   rw[wI (λvs q=>by rw[z]at q;nomatch q)];exact e
 .by_cases h:∃vs,H' b=aa (.tup vs)
  .obtain⟨vs,h⟩:=h;rw[wH h]at e;rw[h];exact e
  .rw[wI (λvs q=>h ⟨vs,q⟩)]at e;exact g b u (s b u e)
 .rw[g l o e]at q;cases q
  nomatch t
def aC.sc{G:Gc}{H H':Hp}:∀{ds:LD} {vs:List V},ds.all D.scalar=af->aC G H ds vs->aC G H' ds vs
 | [],_,_,h=>h
 |d::ds,_,hs,q3_=>by
  obtain⟨v,r,e,q,z⟩:=q3_;rw[all_cons,dy]at hs;exact⟨v,r,e,q.sc hs.1,aC.sc hs.2 z⟩
def Rep.flat(z:d.flat=af)(r:Rep G H d v):Rep G (nH Hf H) d v:=by
 cases d with
 |tup xs=>
  obtain⟨a,vs,e,h,q⟩:=r
  exact⟨a,vs,e,wH h,q.sc z⟩
 |non=>exact r.sc z
 |bl _=>exact r.sc z
 |int _=>exact r.sc z
 |str _=>exact r.sc z
 |lst _=>nomatch z
 |kl _=>nomatch z
 |kt _=>nomatch z
 |dic _ _=>nomatch z
 |ins _ _ _=>nomatch z
 |kd _ _=>nomatch z
 |dT _ _=>nomatch z
abbrev fQ(m:LD->OD)(f:MF2)(ρ:LS):OD:=(f ρ).bind λds=>(m ds).bind λd=>if d.flat then aa d else ae
variable{f:Addr}
def mn{pos:Pos}(pk:Pk X.prog X.w X.K X.mg X.base CX0 k x (f,fd) ps (spD (Gx c X) ps.length m))(T:cN k0 X.A)(U:DAB c X (e::es) fa)(hl:(e::es).length=ps.length:=by rfl)(I:NDb x:=by decide)(he:StE X e es:=by rfl)(M:BkE X pos es:=by rfl)(L:k<=k0:=by decide)(hg:Gl X x:=by first |rfl |exact glc rfl):
  DE c X (.Call (.Name x p) (e::es) [] pos) (fQ m fa):=PE.imp (nc pk.ok (T.mono L) hg pk.g pk.kp pk.b .nil o9 U.pa I he M) λσ H Q q_=>by
 obtain⟨Hf0,H0,Hf,ρ,d,st,q,kq⟩:=q_;unfold fQ at q
 cases z:fa ρ with
 |none=>rw[z]at q;nomatch q
 |some ds=>
  rw[z]at q;replace q:(m ds).bind _=_:=q
  cases B:m ds with
  |none=>rw[B]at q;nomatch q
  |some d'=>
   rw[B]at q;replace q:(if d'.flat=af then aa d' else ae)=aa d:=q;split at q
   .rename_i hs;cases q;refine⟨Hf0,H0,Hf,ρ,ds,st,z,λvs Hf' H' x r=>?_⟩;rw[dh];exact⟨H',ds,_,aN.refl _,r,(U.len ρ ds z).trans hl,B,λv cc H2 x2 r2=>kq v _ H2 (x.trans (Hz x.s x2.h)) ((r2.up x2.s).flat hs)⟩
   .nomatch q
abbrev nI(m q:D->D->OD)(f g h:MF1)(ρ:LS):OD:=(f ρ).bind λx=>(g ρ).bind λy=>(m x y).bind λz=>match z with
 |.bl af=>(h ρ).bind λw=>q y w
 |.bl aj=>aa (.bl aj)
 | _=>ae
variable{m m':D->D->OD}{f g h:MF1}
def HA(e:nI m m' f g h ρ=aa d):∃x y b,f ρ=aa x/\g ρ=aa y/\m x y=aa (.bl b)/\(b=aj->d=.bl aj)/\(b=af->∃w,h ρ=aa w/\m' y w=aa d):=by
 unfold nI at e
 cases I:f ρ with
 |none=>rw[I]at e;nomatch e
 |some x=>
  cases L:g ρ with
  |none=>rw[I,L]at e;nomatch e
  |some y=>
   simp only[I,L,aR,aR]at e
   cases B:m x y with
   |none=>rw[B]at e;nomatch e
   |some z=>
    rw[B,aR]at e
    cases z with
    |bl b=>
     cases b with
     |false=>
      exact⟨x,y,aj,rfl,rfl,B,λ_=>(cu e).symm,λq=>by nomatch q⟩
     |true=>
      cases M:h ρ with
      |none=>simp only[M]at e;nomatch e
      |some w=>rw[M]at e;exact⟨x,y,af,rfl,rfl,B,λq=>(by nomatch q),λ_=>⟨w,rfl,e⟩⟩
    | _=>nomatch e
def HB{pos:Pos}{a b c':Expr}{B:CmpOp}(ho:OpD c X (dk op) m)(hs:∀x y d,m x y=aa d->d.scalar=af)(ho':OpD c X (dk B) m')(hs':∀x y d,m' x y=aa d->d.scalar=af)(ha:DB c X a f)(hb:DB c X b g)(hc:DB c X c' h)
 (hm:lastMarks [op,B] [b,c']=aj:=by with_unfolding_all rfl):DE c X (.Compare a [op,B] [b,c'] pos) (nI m m' f g h):=PE.imp (FO ho ho' ha hb hc hm) λσ H Q q_=>by
 obtain⟨Hf0,H0,Hf,ρ,d,st,ef,k⟩:=q_;obtain⟨x,y,U,e1,e2,e3,eF,eT⟩:=HA ef;refine⟨Hf0,H0,Hf,ρ,x,st,e1,λv b7 H1 M r1=>⟨Hf0,H0,b7,ρ,y,st.step M,e2,λu cc H2 L r2=>⟨H2,x,y,.bl U,aN.refl _,r1.up L.h,r2,e3,λz Hf3 H3 x3 r3=>⟨U,r3,?_⟩⟩⟩⟩;have I:=Ext.grow L.s x3.h
 cases U with
 |false=>
  exact k _ cc H3 ((M.trans L).trans I) (by rw[eF rfl];rfl)
 |true=>
  obtain⟨w,e4,e5⟩:=eT rfl;exact⟨Hf0,H0,cc,ρ,w,((st.step (M.trans L)).step I),e4,λw' T H4 x4 r4=>⟨H4,y,w,d,aN.refl _,r2.up (x3.h.trans x4.h),r4,e5,λq Hf5 H5 x5 r5=>k _ T H5 (((M.trans L).trans I).trans (x4.trans (Ext.grow x4.s x5.h))) (r5.sc (hs' _ _ _ e5))⟩⟩
def HC{x w:D}{q:Bool}(z:f ρ=aa x)(B:g ρ=aa y)(I:m x y=aa (.bl b))(L:h ρ=aa w)(M:m' y w=aa (.bl q)):nI m m' f g h ρ=aa (.bl (b && q)):=by
 unfold nI;simp only[z,aR,B,aR,I,aR]
 cases b with
 |false=>rfl
 |true=>
  rw[L];exact M
def Bl{k:Int}(h:k.natAbs<2 ^ n):rp k<=n:=by
 unfold rp;split
 .exact gs _
 .rename_i q;have:k.natAbs≠0:=λz=>q (by rw[Int.natAbs_eq_zero.mp z];rfl);exact(Nat.log2_lt this).mpr h
abbrev jZ(i j:Int):Prop:=o4 i j\/(i.natAbs<2 ^ 200/\j.natAbs<2 ^ 200)
def jZ.ok(h:jZ i j):IntMulOk i j:=by
 rcases h with h |⟨h1,h2⟩
 .exact h.ok
 .have a:=Bl h1;have b:=Bl h2;unfold IntMulOk
  have:df.Int.intTooBig (rp i+rp j)=aj:=by
   have c:400<=bitsLine:=by decide
   exact decide_eq_false (by lia)
  rw[this,Bool.and_false];exact cy
noncomputable instance {i j:Int}:Decidable (jZ i j):=by unfold jZ;infer_instance
@[reducible]noncomputable def lj:D->D->OD:=dI jZ λi j=>.int (i*j)
def HD:OpR X (eY .Mult) (rI jZ λi j=>.int (i*j)):=opI λ_ _ _ _ _ _ _ z q=>mul_int q z.ok
def px:OpD c X (eY .Mult) lj:=sA HD λ_ _ _ _=>rfl
def nJ(h:jZ i j):lj (.int i) (.int j)=aa (.int (i*j)):=sO h
abbrev wJ(g:D->LS->Option LS)(f:MF1)(ρ:LS):Option Fl:=(f ρ).bind λd=>(g d ρ).map .nx
def HE{pos:Pos}{g:D->LS->Option LS}(T:DE c X e f)(U:DG c X tg k g)(hs:oR [tg] e pos.line X.env=pure aj:=by rfl)(hw:oS [tg] e X.env=pure ae:=by rfl)
 (M:(eD [tg] X.env).map (·.2)=[gx tg X.env]:=by rfl):DS c X (.Assign [tg] e pos) (wJ g f):=PS.imp (rL T U.pg hs hw M) λE σ H q_=>by
 obtain⟨Hf0,H0,Hf,ρ,o,L,q,kq⟩:=q_;unfold wJ at q
 cases z:f ρ with
 |none=>rw[z]at q;cases q
 |some d=>
  rw[z,aR]at q
  cases B:g d ρ with
  |none=>rw[B]at q;cases q
  |some ρ'=>
   rw[B]at q;cases q;exact⟨Hf0,H0,Hf,ρ,d,L,z,λv Hf' H' x r=>⟨Hf0,H0,Hf',ρ,d,ρ',L.step x,r,B,λσ' I=>kq σ' Hf' H' x.f I⟩⟩
set_option maxRecDepth 100000
abbrev dS(H:Hp)(l:Addr):Hp:=λa=>if a=l then ae else H a
def sX:dS H l l=ae:=by unfold dS;rw[if_pos rfl]
variable{a:Addr}
def wK(h:a≠l):dS H l a=H a:=by unfold dS;rw[if_neg h]
def Bm:aN (dS H l) H:=λa o e=>by
 by_cases h:a=l
 .subst h;rw[sX]at e;nomatch e
 .rw[wK h]at e;exact e
def wL{F:Hp}(s:aN F H)(h:F l=ae):aN F (dS H l):=λa o e=>by
 rw[wK (ik e h)];exact s a o e
inductive tDX(G:Gc)(f:LS->Option (D×LS))(σ:St)(H:Hp)(Q:VK):Prop
 |mk:∀Hf0 H0 Hf ρ d ρ',aM G Hf0 H0 Hf H σ ρ->f ρ=aa (d,ρ')->(∀v Hf' H',aN Hf Hf'->aM G Hf0 H0 Hf' H' σ ρ'->Rep G Hf' d v->Q v H')->tDX G f σ H Q
abbrev DX(c:Str->Addr)(X:Cx)(e:Expr)(f:LS->Option (D×LS)):Prop:=PE X e (tDX (Gx c X) f)
inductive sY(G:Gc)(f:LS->Option (LD×LS))(σ:St)(H:Hp)(R:It->Hp->Prop):Prop
 |mk:∀Hf0 H0 Hf ρ ds ρ',aM G Hf0 H0 Hf H σ ρ->f ρ=aa (ds,ρ')->(∀J Hf' H',aN Hf Hf'->aM G Hf0 H0 Hf' H' σ ρ'->me G Hf' J ds->R J H')->sY G f σ H R
abbrev DXi(c:Str->Addr)(X:Cx)(tg iter:Expr)(f:LS->Option (LD×LS)):Prop:=PI X tg iter (sY (Gx c X) f)
abbrev sZ:LD->OD
 | [.int a,.int b]=>aa (.int (if b>a then b else a))
 | _=>ae
def HF(U:X.calm=af):ny c X (.builtin "max") sZ:=by
 rintro pins s σ H vs us Q I rv ⟨Hf,ds,d,s0,r,e,k⟩;unfold sZ at e;split at e
 .rename_i a b;cases e;obtain⟨v1,vs1,rfl,L,v2,vs2,rfl,M,T⟩:=r;cases (T);cases (L);cases (M)
  cases rv with
  |cons r1 B=>
   cases B with
   |cons r2 B=>
    cases B;obtain⟨t,rfl⟩:=r1;obtain⟨u,rfl⟩:=r2;refine PySem.max_two_ints (I.ok.hd U) λh' tk z=>?_;refine⟨.int _,H,I.kept z,?_,k _ Hf H (Ext.refl s0) rfl⟩
    by_cases q:b>a
    .rw[if_pos q,if_pos q];exact⟨u,rfl⟩
    .rw[if_neg q,if_neg q];exact⟨t,rfl⟩
 .nomatch e
abbrev spM(G:Gc)(M n:Nat)(m:Addr->LD->LD->LD->Option (LD×D)):Sp:=λvs H Q _=>∃Hf q z xs ys d l us I L,vs=I++.ref l::L/\aN Hf H/\Hf l=ae/\H l=aa (.lst us)/\aC G Hf q I/\aC G Hf z L/\aC G Hf xs us/\q.length=M/\q.length+1+z.length=n/\m l q z xs=aa (ys,d) /\
 ∀v Hf' H' B,Ext Hf (dS H l) Hf' H'->Hf' l=ae->H' l=aa (.lst B)->aC G Hf' ys B->Rep G Hf' d v->Q v H'
abbrev wM(N:Nat)(l:Addr)(q z xs:LD):LS:=(dL N (q++.non::z)).set q.length (.pin l xs)
open Classical in
abbrev iA(l:Addr)(i:Nat)(ρ:LS):OLD:=match ρ[i]? with
 |some (.pin l' ys)=>if l'=l then aa ys else ae
 | _=>ae
variable{i:Nat}
def Bn(h:iA l i ρ=aa ys):ρ[i]?=aa (.pin l ys):=by
 unfold iA at h;split at h
 .rename_i z B e;split at h
  .rename_i q;cases h;rw[e,q]
  .nomatch h
 .nomatch h
abbrev gi(N:Nat)(F:MF3)(l:Addr)(q z xs:LD):Option (LD×D):=(F (wM N l q z xs)).bind λo=>match o with
 |.nx ρ=>(iA l q.length ρ).map λys=>(ys,.non)
 |.rtS d ρ=>(iA l q.length ρ).map λys=>(ys,d)
 | _=>ae
variable{vs0 vs1:List V}
def HG:(L2.start N (vs0++.non::vs1)).set vs0.length (aa (.ref l))=L2.start N (vs0++.ref l::vs1):=by
 unfold L2.start;simp[set_append]
variable{hB ds1:LD}
def aM.startM(B:aN Hf H)(q:Hf l=ae)(I:H l=aa (.lst us))(z:aC G Hf hB vs0)(L:aC G Hf ds1 vs1)(M:aC G Hf xs us):
  aM G Hf (dS H l) Hf H (L2.start N (vs0++.ref l::vs1)) (wM N.length l hB ds1 xs):=by
 have:=(aM.start (N:=N) (wL B q) (z.append (.cons (d:=.non) rfl L))).setOwn (i:=hB.length) (s:=.pin l xs) rfl (Ext.grow (wL B q) Bm) sX q ⟨rfl,us,I,M⟩;rw[z.length,HG,<- z.length]at this;exact this
variable{K:bA}
def jm{f:Addr}{n0:Nat}(Fn:Fun K x qual st f fd)(S:bG N ps (bq st))
 (h:∀(cdv:Value) (A:cZ) (outer:List Env) (s:aE) (H:Hp) (E:XK),cN k (A.deeper (gt qual (bq st) s.heap.objs.size f cdv))->DSs c (gD CX0 P w K mg base N qual (bq st) f cdv A outer s H E).nox (jc st) F)(hn_:N.length=n_:=by rfl):
  eM P w K mg base CX0 (k+1) f fd ps (spM ⟨K,c⟩ n0 ps.length (gi n_ F)):=by
 subst hn_;refine Fn.ok S (λvs H Q E q_=>by obtain⟨Hf,hB,ds1,xs,ys,d,l,us,vs0,vs1,ev,s0,hf,hu,r0,r1,rx,hn,hl,_⟩:=q_;simp only[ev,bg,cL,<- r0.length,<- r1.length];lia) λcdv A outer s H vs Q E hr q_=>?_;obtain⟨Hf,hB,ds1,xs,ys,d,l,us,vs0,vs1,ev,s0,hf,hu,r0,r1,rx,hn,hl,e,kq⟩:=q_;refine⟨_,h cdv A outer s H E hr,?_⟩;subst ev;unfold gi at e
 cases U:F _ with
 |none=>rw[U]at e;nomatch e
 |some o=>
  rw[U,aR]at e;refine⟨Hf,dS H l,Hf,_,o,aM.startM s0 hf hu r0 r1 rx,U,?_⟩
  cases o with
  |nx ρ=>
   replace e:(iA l hB.length ρ).map _=aa _:=e
   cases q:iA l hB.length ρ with
   |none=>rw[q]at e;nomatch e
   |some zs=>
    rw[q]at e;cases e;intro σ' Hf' H' _ M;obtain⟨l',e1,h0,z,T,L,B,I⟩:=M.ownAt rfl (Bn q);subst T
    exact kq .non Hf' H' L M.ext z B I rfl
  |rtS d' ρ=>
   replace e:(iA l hB.length ρ).map _=aa _:=e
   cases q:iA l hB.length ρ with
   |none=>rw[q]at e;nomatch e
   |some zs=>
    rw[q]at e;cases e;intro v σ' Hf' H' M r;obtain⟨l',e1,h0,z,T,L,B,I⟩:=M.ownAt rfl (Bn q);subst T
    exact kq v Hf' H' L M.ext z B I r
  | _=>nomatch e
def aM.giveS{s:Sl}(I:s.isOwn=af)(h:aM G Hf0 H0 Hf H σ ρ)(e:ρ[i]?=aa s)(z:σ[i]?=aa (aa (.ref l))):aM G Hf0 H0 Hf (dS H l) σ (ρ.set i .no):=by
 refine h.chg e z (λb u B=>?_) trivial λa p=>(p.calm rfl).elim
 by_cases q:b=l
 .subst q;exact .inl ((Holds.own I).mpr rfl)
 .exact .inr (by rw[wK q];exact B)
def aM.back{s:Sl}(T:s.isOwn=af)(z:s'.isOwn=af)(h:aM G Hf0 H0 Hf H σ ρ)(e:ρ[i]?=aa s)(q:σ[i]?=aa (aa (.ref l)))(x:Ext Hf (dS H l) Hf' H')(L:Hf' l=ae)(M:gX G Hf' H' l s'):aM G Hf0 H0 Hf' H' σ (ρ.set i s'):=by
 have:=(h.giveS T e q).setOwn (i:=i) z x sX L M;rw[set_set]at this
 have I:σ.set i (aa (.ref l))=σ:=by
  apply ext_getElem?;intro j
  by_cases B:i=j
  .subst B;rw[gP (dX.mp q).1,q]
  .rw[gQ B]
 rw[I]at this;exact this
open Classical in
abbrev tm(i:Nat)(ρ:LS):OLD:=match ρ[i]? with
 |some (.pin _ xs)=>aa xs
 | _=>ae
def Bo{pos:Pos}(i:Nat)(L:X.N[i]?=aa x:=by rfl)(M:Vis X.env.scope x:=by first |exact bV rfl |exact bE (bV rfl) |exact bE (bE rfl))(hd:NDb x:=by decide)
 (B:NCd x:=by decide):DC c X (.Name x pos) (tm i):=PE.imp (kX L M hd B) λσ H Q U=>by
 obtain⟨Hf0,H0,Hf,ρ,d,st,z,k⟩:=U;unfold tm at z;split at z
 .rename_i l xs es;cases z;obtain⟨T,I,_,_,_,vs,q,r⟩:=st.ownAt rfl es;exact⟨_,I,k T vs Hf H (Ext.refl st.sub) (.inl (SqL.of q)) r⟩
 .nomatch z
variable{K:Fl->Prop}
def jo(h:f ρ=aa d)(k:K (.rtS d ρ)):wp (gh f) ρ K:=⟨_,by unfold gh;rw[h];rfl,k⟩
def HH(h:ρ[i]?=aa (.pin l ys)):iA l i ρ=aa ys:=by
 unfold iA;rw[h];exact if_pos rfl
def jq{N:Nat}(h:F (wM N l hB ds1 xs)=aa (.rtS d ρ))(h':ρ[hB.length]?=aa (.pin l ys)):gi N F l hB ds1 xs=aa (ys,d):=by
 unfold gi;rw[h,aR];show(iA l hB.length ρ).map _=_;rw[HH h'];rfl
abbrev Fre(B Hf:Hp)(fp:LAd):Prop:=fp.Nodup/\∀a∈fp,B a=ae/\Hf a=ae
variable{B:Hp}
def Fre.nil:Fre B Hf []:=⟨.nil,λ_ h=>nomatch h⟩
def Fre.imp{q:Hp}(h:Fre B Hf fp)(k:∀a,B a=ae->q a=ae):Fre q Hf fp:=⟨h.1,λa z=>⟨k a (h.2 a z).1,(h.2 a z).2⟩⟩
abbrev bsH(b:Bool)(H0 H:Hp):Hp:=bif b then H else H0
inductive tDZ(G:Gc)(b:Bool)(f:LS->Option O)(σ:St)(H:Hp)(Q:VK):Prop
 |mk:∀Hf0 H0 Hf ρ o,aM G Hf0 H0 Hf H σ ρ->f ρ=aa o->(∀u fp Hf' H',Ext Hf H Hf' H'->OT G Hf' H' o u fp->Fre (bsH b H0 H) Hf' fp->Q u H')->tDZ G b f σ H Q
abbrev DZ(c:Str->Addr)(X:Cx)(b:Bool)(e:Expr)(f:LS->Option O):Prop:=PE X e (tDZ (Gx c X) b f)
variable{o:Expr}
abbrev zB(f:LS->Option O)(ρ:LS):OD:=(f ρ).bind λo=>if o.kn then aa o.toD else ae
def DZ.db{f:LS->Option O}(h:DZ c X af e f):DB c X e (zB f):=PE.imp h λσ H Q L=>by
 obtain⟨Hf0,H0,Hf,ρ,d,st,q,k⟩:=L;unfold zB at q
 cases z:f ρ with
 |none=>rw[z]at q;nomatch q
 |some o=>
  rw[z,aR]at q;split at q
  .rename_i I;cases q;exact⟨Hf0,H0,Hf,ρ,o,st,z,λu fp Hf' H' x r _=>k u Hf' H' x (r.rep x.s I)⟩
  .grind
mutual
noncomputable def O.flat:O->Bool
 |.fz d=>d.flat
 |.lst os=>O.flats os
 |.tup os=>O.flats os
 |.dic _ os=>O.flats os
 |.ins _ _ os=>O.flats os
 |.dT _ os=>O.flats os
 |.at _ o=>o.flat
 |.jnk _=>af
 |.any=>af
noncomputable def O.flats:List O->Bool
 | []=>af
 |o::os=>o.flat && O.flats os
end
abbrev wN(i:Nat)(f:LS->Option O)(ρ:LS):Option Fl:=(f ρ).map λo=>.nx (ρ.set i (.deep o))
def OTs.length{G:Gc}{Hf H:Hp}:∀{os:List O} {vs:List V} {fp:LAd},OTs G Hf H os vs fp->os.length=vs.length
 | [],_,_,h=>by rw[h.1];rfl
 |o::os,_,_,⟨v,r,f1,f2,e,h1,h2,ef⟩=>by subst e;simp[OTs.length h2]
abbrev Bp(i:Nat)(f:LS->Option O)(ρ:LS):Option Fl:=(f ρ).bind λo=>match ρ[i]? with
 |some (.deep (.lst os))=>if os.length<16777216 then aa (.nx (ρ.set i (.deep (.lst (os++[o]))))) else ae
 | _=>ae
abbrev Bq(G:Gc)(Hf H:Hp)(σ:St)(ρ:LS)(a:Addr):Prop:=∀(k:Nat) (t:Sl) (w:V),ρ[k]?=aa t->σ[k]?=aa (aa w)->Holds G Hf H t w a->False
abbrev gj(H0 H:Hp)(S:LAd):Hp:=λa=>if a∈S then H a else match H a with
 |some (.tup vs)=>aa (.tup vs)
 | _=>H0 a
variable{S:LAd}
def HI(h:a∈S):gj H0 H S a=H a:=by unfold gj;rw[if_pos h]
def HJ(h:H a=aa (.tup vs)):gj H0 H S a=aa (.tup vs):=by
 unfold gj;split
 .exact h
 .rw[h]
def HK(h:a∉S)(h':∀vs,H a≠aa (.tup vs)):gj H0 H S a=H0 a:=by
 unfold gj
 grind
def HL(s:aN H0 H)(S:LAd):aN (gj H0 H S) H:=λa o e=>by
 unfold gj at e;split at e
 .exact e
 .split at e
  .rename_i vs h;rw[h];exact e
  .exact s a o e
def HM(s:aN H0 H)(S:LAd):aN H0 (gj H0 H S):=λa o e=>by
 have q:=s a o e;unfold gj
 grind
abbrev Br(ks:LN)(a b:LS):Prop:=a.length=b.length/\∀m,m∉ks->a[m]?=b[m]?
def Br.refl(ks:LN)(a:LS):Br ks a a:=⟨rfl,λ_ _=>rfl⟩
variable{kvs:List (Key×V)}
def Inv.freeze(I:Inv X pins σ H s)(e:H l=aa (.dK kvs)):∃od,Inv X pins σ (upd H l (.frz od (.dK kvs))) s:=by
 obtain⟨z,ns,vs,T,od,es,ep,U,r⟩:=vZ I.hok e;refine⟨od,?_⟩
 have M:∀b u,H b=aa u->(∀w,u≠.dK w)->upd H l (.frz od (.dK kvs)) b=aa u:=λb u L hu=>by
  rw[bW (λq=>by subst q;rw[e]at L;cases L;exact hu _ rfl)];exact L
 have:=I.step (t':=s.toks) (d':=s.drawn) (ch:=[]) (λb L=>nomatch L) (λb o _ _ _ e _=>e) (λb o _ _ _ e _=>⟨o.slots,e⟩) (λb o _ _ n=>by rw[bW (λq=>by subst q;rw[e]at n;nomatch n)];exact n)
  (λb o _ e=>⟨o,e⟩) (λb xs L=>M b _ L (λw q=>by nomatch q)) (λb o u L=>M b _ L (λw q=>by nomatch q)) (λb ps L=>⟨#[],by rw[M b _ L (λw q=>by nomatch q)];simp⟩) (λm hm=>hm) (λb u L=>?_) I.bare
 .exact this
 .by_cases q:b=l
  .subst q;rw[bN]at L;cases L;exact⟨U,z,ns,vs,T,od,es,ep,U,r⟩
  .rw[bW q]at L;exact(I.hok b u L).stay (λc v _ h=>h) (λc h=>M c _ h (λw q=>by nomatch q)) (λc xs h=>M c _ h (λw q=>by nomatch q))
def KV.get:∀{xs:List (Key×V)} {us:List (Key×Value)} {i:Nat} {x:Key×V},KV xs us->xs[i]?=aa x->∃u,us[i]?=aa u/\x.1=u.1/\be x.2 u.2
 | _,_,_,_,.nil,e=>by simp at e
 | _,_,0,_,.cons r _,e=>by simp at e;subst e;exact⟨_,rfl,r⟩
 | _,_,i+1,x,.cons _ t,e=>by
  obtain⟨u,q,z⟩:=KV.get t (by simpa using e);exact⟨u,by simpa using q,z⟩
def HN{k:Key}{v:Value}(h:lW k v=af):be (kV k) v:=by
 rcases i8 h with⟨i,t,rfl,rfl⟩ |⟨x,t,rfl,rfl⟩
 .exact⟨t,rfl⟩
 .exact⟨t,rfl⟩
abbrev kD:Key->D
 |.inl i=>.int i
 |.inr x=>.str x
def HP(k:Key):Rep G H (kD k) (kV k):=by cases k <;> rfl
abbrev HQ:D->OLD
 |.kd ks _=>aa (ks.map kD)
 | _=>ae
abbrev gI(ks:List Key)(xs:LD)(k:Key):OD:=((ks.zip xs).find? λq=>decide (q.1=k)).map (·.2)
def wO{G:Gc}{H:Hp}{k:Key}:∀{ks:List Key} {xs:LD} {vs:List V},ks.length=vs.length->aC G H xs vs->(∀d,gI ks xs k=aa d->∃v,d8 (ks.zip vs) k=aa v/\Rep G H d v)/\(gI ks xs k=ae->d8 (ks.zip vs) k=ae)
 | [],_,_,_,_=>⟨λd h=>(by cases h),λ_=>rfl⟩
 | _::_,_,[],h,_=>by cases h
 |j::ks,[],v::vs,_,r=>by cases (r)
 |j::ks,x::xs,v::vs,h,q4_=>by
  obtain⟨u,L,e,z,I⟩:=q4_
  injection e with e1 e2
  subst e1 e2;obtain⟨a,b⟩:=wO (by simpa using h) I;unfold gI;simp only[oH,oH]
  by_cases q:j=k
  .subst q;refine⟨λd hd=>⟨v,rZ rfl,?_⟩,λhd=>?_⟩
   .rw[find?_cons_of_pos (by simp)]at hd;cases hd;exact z
   .rw[find?_cons_of_pos (by simp)]at hd;cases hd
  .rw[find?_cons_of_neg (by simpa using q),r6 q];exact⟨a,b⟩
abbrev jr:D->Option (List Key×LD)
 |.dic ks xs=>aa (ks,xs)
 |.kd ks xs=>aa (ks,xs)
 | _=>ae
variable{a:Expr}
def tu{p:List Key×LD}(e:jr d=aa p)(r:Rep G H d v):∃a vs,v=.ref a/\Rd H a (.dK (p.1.zip vs))/\p.1.length=vs.length/\aC G H p.2 vs:=by
 cases d with
 |dic ks xs=>cases e;obtain⟨a,vs,I,q,z,r⟩:=r;exact⟨a,vs,I,.inl q,z,r⟩
 |kd ks xs=>cases e;obtain⟨a,od,vs,I,q,z,r⟩:=r;exact⟨a,vs,I,.inr ⟨od,q⟩,z,r⟩
 | _=>nomatch e
def Rd.up{a:Addr}{u:HO}(h:Rd H a u)(s:aN H H'):Rd H' a u:=h.imp (s _ _) λq=>by
 obtain⟨o,e⟩:=q;exact(⟨o,s _ _ e⟩)
abbrev iB(x y:D):OD:=(jr x).bind λp=>(jk y).bind λk=>gI p.1 p.2 k
variable{b:Expr}
def tv{pos:Pos}(hu:X.A.units+64<cLine)(ha:DE c X a f)(hb:DE c X b g)(hs:v6 b:=by exact λ_ _=>rfl):DE c X (.Subscript a b pos) (m2 iB f g):=
 PE.imp (GH (by lia) ha hb hs) λσ H Q q_=>by
  obtain⟨Hf0,H0,Hf,ρ,d,st,ef,k⟩:=q_;obtain⟨x,y,e1,e2,I⟩:=ss ef;refine⟨Hf0,H0,Hf,ρ,x,st,e1,λv b7 H1 x1 r1=>⟨Hf0,H0,b7,ρ,y,st.step x1,e2,λu cc H2 U r2=>?_⟩⟩;unfold iB at I
  cases L:jr x with
  |none=>rw[L]at I;nomatch I
  |some p=>
   rw[L,aR]at I
   cases M:jk y with
   |none=>rw[M]at I;nomatch I
   |some ky=>
    rw[M,aR]at I;obtain⟨l,vs,el,q,z,r⟩:=tu L (r1.up U.f);have ev:=po M r2;subst ev el;obtain⟨w,hw,T⟩:=(wO z r).1 d I;exact⟨l,w,rfl,.inl ⟨_,ky,q.up U.s,rfl,hw.symm⟩,k _ cc H2 (x1.trans U) T⟩
abbrev g9(i:Nat)(F:MF3)(ρ:LS):Option Fl:=match ρ[i]? with
 |some (.ownd ks xs)=>F (ρ.set i (.im (.kd ks xs)))
 | _=>F ρ
def Bs(I:Inv X pins σ H s)(h:tDS (Gx c X) (g9 i F) E σ H):∃H',Inv X pins σ H' s/\tDS (Gx c X) F E σ H':=by
 obtain⟨Hf0,H0,Hf,ρ,o,so,ef,k⟩:=h;unfold g9 at ef;split at ef
 .rename_i ks xs es;obtain⟨l,U,h0,hf,vs,q,z,r⟩:=so.ownAt rfl es;obtain⟨od,I'⟩:=I.freeze q;refine⟨_,I',Hf0,H0,upd Hf l (.frz od (.dK (ks.zip vs))),ρ.set i _,o,?_,ef,k.up (cv hf)⟩
  have s1 : aM _ Hf0 H0 Hf (upd H l (.frz od (.dK (ks.zip vs)))) σ (ρ.set i .no):=so.chg es U (λb u hb=>by
   by_cases L:b=l
   .subst L;exact .inl ((Holds.own rfl).mpr rfl)
   .exact .inr (by rw[bW L];exact hb)) trivial λa p=>(p.calm rfl).elim
  have s2:aM (Gx c X) Hf0 H0 (upd Hf l (.frz od (.dK (ks.zip vs)))) (upd H l (.frz od (.dK (ks.zip vs)))) σ (ρ.set i .no):=by
   have fr:Bq (Gx c X) Hf H σ (ρ.set i .no) l:=λm t w b T p=>by
    rcases dH b with⟨_,e',_⟩ |⟨ne,b⟩
    .subst e';exact p.calm rfl
    .exact ne (so.dj m i t _ w _ l b es T U p ((Holds.own rfl).mpr rfl))
   have fr':Bq (Gx c X) Hf (upd H l (.frz od (.dK (ks.zip vs)))) σ _ l:=λm t w b T p=>by
    cases ht:t.isOwn with
    |true=>
     exact fr m t w b T ((Holds.own ht).mpr ((Holds.own ht).mp p))
    |false=>
     cases t with
     |deep o'=>
      obtain⟨fp,rr,ha⟩:=p
      obtain ⟨u,fp',eu,r2,_⟩:=so.at' m _ _ T (by
       rcases dH b with⟨_,e',_⟩ |⟨ne,b⟩
       .nomatch e'
       .exact b)
      cases eu
      have r3:OT _ Hf (upd H l (.frz od (.dK (ks.zip vs)))) o' w fp':=r2.frame (aN.refl _) λb' u' L M=>by
       rw[bW (λqq=>?_)]
       .exact L
       .subst qq
        rcases M with M |M
        .rw[q]at L;cases L;nomatch M
        .exact fr m _ w b T ⟨fp',r2,M⟩
      have:=OT.funM o' w _ _ r3 rr;subst this
      exact fr m _ w b T ⟨fp',r2,ha⟩
     | _=>first |exact qL p.1 |nomatch ht
   refine s1.re ⟨s1.ext.f.trans (cv hf),s1.ext.h,λb u e=>?_,λb u e t=>?_⟩ rfl (λm v t a b=>?_) λm t v a b T p=>⟨t,b,(s1.at' m _ t T b).back (λo' fp _ r=>r.up (cv hf) (aN.refl _)) p⟩
   .by_cases hb:b=l
    .subst hb;rw[bN]at e ⊢;exact e
    .rw[bW hb]at e;exact s1.ext.s b u e
   .rw[bW (λz=>by subst z;rw[h0]at e;nomatch e)];exact s1.ext.n b u e t
   .have qq:=s1.at' m v t a b
    cases ht:t.isOwn with
    |true=>
     obtain⟨l2,e2,e3,e4,q2⟩:=qq.own ht;subst e2;refine .ofOwn ht ⟨l2,rfl,e3,?_,q2.up (cv hf) λo' ho'=>ho'⟩;rw[bW (λz=>by subst z;exact fr' m t _ b a ((Holds.own ht).mpr rfl))]
     exact e4
    |false=>
     cases t with
     |no=>trivial
     |im d=>obtain⟨u',U,r⟩:=qq;exact⟨u',U,r.up (cv hf)⟩
     |val u'=>exact qq
     |deep o'=>
      obtain⟨w,fp,U,r,n,zz⟩:=qq;subst U;refine⟨w,fp,rfl,r.up (cv hf) (aN.refl _),n,λy hy=>⟨(zz y hy).1,?_⟩⟩;rw[bW (λz=>by subst z;exact fr' m _ w b a ⟨fp,r,hy⟩)]
      exact(zz y hy).2
     | _=>nomatch ht
  have res:=s2.setIm (i:=i) (d:=.kd ks xs) ⟨l,od,vs,rfl,bN,z,r.up (cv hf)⟩
  have e3:σ.set i (aa (.ref l))=σ:=by
   apply ext_getElem?;intro jj
   by_cases hj:i=jj
   .subst hj;rw[gP (dX.mp U).1,U]
   .rw[gQ hj]
  rw[e3,set_set]at res;exact res
 .exact⟨H,I,Hf0,H0,Hf,ρ,o,so,ef,k⟩
def wP(i:Nat)(h:DS c X st F):DS c X st (g9 i F):=λpins s σ H E I q=>by
 obtain⟨H',z,L⟩:=Bs I q;exact h pins s σ H' E z L
variable{ks:List Key}
def Bt(h:ρ[i]?=aa (.ownd ks xs))(k:wp F (ρ.set i (.im (.kd ks xs))) K):wp (g9 i F) ρ K:=by
 obtain⟨o,e,q⟩:=k;exact⟨o,by unfold g9;rw[h];exact e,q⟩
abbrev Bu:D->OD
 |.bl b=>aa (.int (if b then 1 else 0))
 | _=>ae
abbrev py(f:MF1)(ρ:LS):OD:=(f ρ).bind Bu
abbrev HR(te:TE):TE:=λσ H Q=>te σ H λx H1=>∃b,x=.bl b/\Q (.int (if b then 1 else 0)) H1
def HS:gu "int"=aa (.type "int"):=by decide +kernel
def HU{pos:Pos}(hg:Gl X "int")(hm:X.mg "int"=ae)(U:PE X e te)(L:a8 [e] X.env=(aj,eval e X.env)::a8 [] X.env:=by rfl)(z:(eE pos (a8 [] X.env)).any (·.1)=aj:=by rfl):
  PE X (.Call (.Name "int" p) [e] [] pos) (HR te):=by
 intro pins s σ H Q I h;refine lO (ja I hg hm HS ?_);refine lN ?_ L z;rw[L];refine lS (thn (U pins s σ H _ I h) λu s1 q_=>?_);obtain⟨x,H1,M,r1,b,T,q⟩:=q_;subst T;subst r1;exact bh (call_int_bool ⟨.int _,H1,M.tok _,⟨_,rfl⟩,q⟩)
def HV{pos:Pos}(T:Gl X "int")(U:X.mg "int"=ae)(M:DE c X e f)(L:a8 [e] X.env=(aj,eval e X.env)::a8 [] X.env:=by rfl)(I:(eE pos (a8 [] X.env)).any (·.1)=aj:=by rfl):DE c X (.Call (.Name "int" p) [e] [] pos) (py f):=
 PE.imp (HU T U M L I) λσ H Q q_=>by
  obtain⟨Hf0,H0,Hf,ρ,d0,st,q,k⟩:=q_;unfold py at q
  cases z:f ρ with
  |none=>rw[z]at q;nomatch q
  |some d=>
   rw[z,aR]at q;unfold Bu at q;split at q
   .rename_i b;cases q;refine⟨Hf0,H0,Hf,ρ,_,st,z,λv Hf' H' x r=>⟨b,r,k _ Hf' H' x rfl⟩⟩
   .nomatch q
abbrev nK(i:Nat)(q z:MF1)(ρ:LS):Option Fl:=(z ρ).bind λd=>(q ρ).bind λx=>match x with
 | .int k=>(match ρ[i]? with
  |some (.pin l xs)=>(ixN xs.length k).map λj=>.nx (ρ.set i (.pin l (xs.set j d)))
  | _=>ae)
 | _=>ae
variable{fk fv:MF1}
def HW(hp:PS X st (jQ (tD (Gx c X) fv) (vN (eL i) (tD (Gx c X) fk) vV))):DS c X st (nK i fk fv):=PS.imp hp λE σ H q_=>by
 obtain⟨Hf0,H0,Hf,ρ,o,so,z,k⟩:=q_;unfold nK at z
 cases T:fv ρ with
 |none=>rw[T]at z;nomatch z
 |some d=>
  rw[T]at z
  cases U:fk ρ with
  |none=>rw[U]at z;nomatch z
  |some x=>
   rw[U]at z
   obtain⟨L,rfl⟩:∃L,x=.int L:=by cases x <;> first |exact⟨_,rfl⟩ |nomatch z
   replace z:(match ρ[i]? with |some (.pin l xs)=>(ixN xs.length L).map λj=>Fl.nx _ | _=>ae)=aa o:=z
   split at z
   .rename_i l0 xs es
    cases ej:ixN xs.length L with
    |none=>rw[ej]at z;nomatch z
    |some j=>
     rw[ej]at z;cases z;refine⟨Hf0,H0,Hf,ρ,d,so,T,λv b7 H1 x1 r1=>?_⟩;have I:=so.step x1;obtain⟨l,el,h0,hf,eq,vs,q,r⟩:=I.ownAt rfl es;subst eq;refine⟨_,el,Hf0,H0,b7,ρ,.int L,I,U,λy cc H2 M r2=>?_⟩;exact⟨l,vs,L,j,rfl,r2,(M.h _ _ q),by rw[<- r.length];exact ej,(k σ cc _ (x1.f.trans M.f) ((I.step M).mutd rfl rfl es el ⟨rfl,vs.set j v,bN,(r.up M.f).set j (r1.up M.f)⟩))⟩
   .nomatch z
variable{i' value:Expr}
def HX{pos:Pos}(L:PE X e (eL i))(I:DE c X i' fk)(T:DE c X value fv)(M:oR [.Subscript e i' b5] value pos.line X.env=pure aj:=by rfl)(U:oS [.Subscript e i' b5] value X.env=pure ae:=by rfl)
 (q:(eD [.Subscript e i' b5] X.env).map (·.2)=[gx (.Subscript e i' b5) X.env]:=by rfl)
 (z:∀ v,gx (.Subscript e i' b5) X.env v=(do
   let ov <- gw [v] (eval e X.env)
   let iv <- gw [v,ov] (eval i' X.env)
   standAt b5
   gw [v,ov,iv] (setItem ov iv v)
   release [v,ov,iv] []):=by intro _;rfl):
  DS c X (.Assign [.Subscript e i' b5] value pos) (nK i fk fv):=HW (rL T (zV L I Au z) M U q)
def HY{k:Int}(M:fv ρ=aa d)(L:fk ρ=aa (.int k))(h':ρ[i]?=aa (.pin l xs))(z:0<=k)(I:k<xs.length)(q:K (.nx (ρ.set i (.pin l (xs.set k.toNat d))))):wp (nK i fk fv) ρ K:=⟨_,by
 unfold nK;rw[M,aR,L,aR,h'];show(ixN xs.length k).map _=_;unfold ixN;rw[if_pos z,if_pos I];rfl,q⟩
@[reducible]noncomputable def Xe:=LS->Option (D×LS)
@[reducible]noncomputable def Xa:=LS->Option (LD×LS)
@[reducible]noncomputable def Xt:=LS->Option (Bool×LS)
abbrev mX(f:MF1):Xe:=λρ=>(f ρ).map λd=>(d,ρ)
abbrev mX2(m:D->D->OD)(f g:Xe):Xe:=λρ=>(f ρ).bind λp=>(g p.2).bind λq=>(m p.1 q.1).map λd=>(d,q.2)
abbrev bc:Xa:=λρ=>aa ([],ρ)
abbrev aI(f:Xe)(g:Xa):Xa:=λρ=>(f ρ).bind λp=>(g p.2).map λq=>(p.1::q.1,q.2)
abbrev jt(f:Xa):Xe:=λρ=>(f ρ).map λp=>(.tup p.1,p.2)
abbrev pz(f:Xa):Xe:=λρ=>(f ρ).map λp=>(.lst p.1,p.2)
def HZ(h:mX f ρ=aa (d,ρ')):f ρ=aa d/\ρ'=ρ:=by
 unfold mX at h
 cases e:f ρ with
 |none=>rw[e]at h;nomatch h
 |some d'=>rw[e]at h;cases h;exact⟨rfl,rfl⟩
def wQ{f g:Xe}(h:mX2 m f g ρ=aa (d,ρ')):∃x y ρ1,f ρ=aa (x,ρ1)/\g ρ1=aa (y,ρ')/\m x y=aa d:=by
 unfold mX2 at h
 cases M:f ρ with
 |none=>rw[M]at h;nomatch h
 |some p=>
  rw[M,aR]at h
  cases I:g p.2 with
  |none=>rw[I]at h;nomatch h
  |some q=>
   rw[I,aR]at h
   cases L:m p.1 q.1 with
   |none=>rw[L]at h;nomatch h
   |some z=>rw[L]at h;cases h;exact⟨p.1,q.1,p.2,rfl,I,L⟩
def Bv{f:Xe}{g:Xa}(h:aI f g ρ=aa (ds,ρ')):∃d r ρ1,f ρ=aa (d,ρ1)/\g ρ1=aa (r,ρ')/\ds=d::r:=by
 unfold aI at h
 cases I:f ρ with
 |none=>rw[I]at h;nomatch h
 |some p=>
  rw[I,aR]at h
  cases z:g p.2 with
  |none=>rw[z]at h;nomatch h
  |some q=>rw[z]at h;cases h;exact⟨p.1,q.1,p.2,rfl,z,rfl⟩
inductive wR(G:Gc)(f:Xa)(σ:St)(H:Hp)(Q:List V->Hp->Prop):Prop
 |mk:∀Hf0 H0 Hf ρ ds ρ',aM G Hf0 H0 Hf H σ ρ->f ρ=aa (ds,ρ')->(∀vs Hf' H',aN Hf Hf'->aM G Hf0 H0 Hf' H' σ ρ'->aC G Hf' ds vs->Q vs H')->wR G f σ H Q
structure DAX(c:Str->Addr)(X:Cx)(es:LEx)(f:Xa):Prop where
 pa:PA X es (wR (Gx c X) f)
 len:∀ρ ds ρ',f ρ=aa (ds,ρ')->ds.length=es.length
inductive wS(G:Gc)(f:Xt)(σ:St)(H:Hp)(Q:Bool->Hp->Prop):Prop
 |mk:∀Hf0 H0 Hf ρ b ρ',aM G Hf0 H0 Hf H σ ρ->f ρ=aa (b,ρ')->(∀Hf' H',aN Hf Hf'->aM G Hf0 H0 Hf' H' σ ρ'->Q b H')->wS G f σ H Q
abbrev DTX(c:Str->Addr)(X:Cx)(e:Expr)(f:Xt):Prop:=PT X e (wS (Gx c X) f)
def DE.dx(h:DE c X e f):DX c X e (mX f):=PE.imp h λσ H Q I=>by
 obtain⟨Hf0,H0,Hf,ρ,d,ρ',st,z,k⟩:=I;obtain⟨q,rfl⟩:=HZ z;exact⟨Hf0,H0,Hf,_,d,st,q,λv Hf' H' x r=>k v Hf' H' x.f (st.step x) r⟩
def mo{pos:Pos}{op:Operator}{f g:Xe}(ho:OpD c X (eY op) m)(ha:DX c X a f)(hb:DX c X b g):DX c X (.BinOp a op b pos) (mX2 m f g):=PE.imp (rQ ho ha hb) λσ H Q q_=>by
 obtain⟨Hf0,H0,Hf,ρ,d,ρ',st,ef,k⟩:=q_;obtain⟨x,y,ρ1,T,U,e3⟩:=wQ ef;exact⟨Hf0,H0,Hf,ρ,x,ρ1,st,T,λv b7 H1 f1 I r1=>⟨Hf0,H0,b7,ρ1,y,ρ',I,U,λu cc H2 f2 q r2=>⟨cc,x,y,d,q.sub,r1.up f2,r2,e3,λw z M L r3=>k w z M ((f1.trans f2).trans L.f) (q.step L) r3⟩⟩⟩
def bp:DAX c X [] bc:=⟨PA.imp ci λσ H Q z=>by obtain⟨Hf0,H0,Hf,ρ,ds,ρ',st,q,k⟩:=z;cases q;exact k [] Hf H (aN.refl _) st rfl,λρ ds ρ' h=>by cases h;rfl⟩
def aP{f:Xe}{g:Xa}(U:DX c X e f)(M:DAX c X es g)(hs:StE X e es:=by rfl):DAX c X (e::es) (aI f g):=by
 refine⟨PA.imp (bJ U M.pa hs) λσ H Q q_=>?_,λρ ds ρ' h=>?_⟩
 .obtain⟨Hf0,H0,Hf,ρ,ds,ρ',st,T,k⟩:=q_;obtain⟨d,r,ρ1,L,q,rfl⟩:=Bv T;exact⟨Hf0,H0,Hf,ρ,d,ρ1,st,L,λv b7 H1 f1 z r1=>⟨Hf0,H0,b7,ρ1,r,ρ',z,q,λvs cc H2 f2 I r2=>k _ cc H2 (f1.trans f2) I (.cons (r1.up f2) r2)⟩⟩
 .obtain⟨d,r,ρ1,L,q,rfl⟩:=Bv h;simp[M.len ρ1 r ρ' q]
def tw{pos:Pos}{f:Xa}(h:DAX c X es f)(hz:es.length<=1000:=by exact lL rfl):DX c X (.Tuple es k' pos) (jt f):=PE.imp (rS h.pa) λσ H Q T=>by
 obtain⟨Hf0,H0,Hf,ρ,d,ρ',st,I,k⟩:=T;unfold jt at I
 cases L:f ρ with
 |none=>rw[L]at I;nomatch I
 |some q=>
  obtain⟨ds,ρ1⟩:=q;rw[L]at I;cases I;refine⟨Hf0,H0,Hf,ρ,ds,_,st,L,λvs Hf' H' f1 z r=>⟨?_,λq M=>(k _ _ _ (f1.trans (cv (z.sub.free M))) (z.step (Ext.new z.sub M)) ⟨q,vs,rfl,bN,r.up (cv (z.sub.free M))⟩)⟩⟩;rw[<- r.length,h.len ρ ds _ L];exact kR (pb hz)
def Ia{pos:Pos}{f:Xa}(h:DAX c X es f)(hz:es.length<=1000:=by exact lL rfl):DX c X (.List es pos) (pz f):=PE.imp (rV h.pa) λσ H Q T=>by
 obtain⟨Hf0,H0,Hf,ρ,d,ρ',st,I,k⟩:=T;unfold pz at I
 cases L:f ρ with
 |none=>rw[L]at I;nomatch I
 |some q=>
  obtain⟨ds,ρ1⟩:=q;rw[L]at I;cases I;refine⟨Hf0,H0,Hf,ρ,ds,_,st,L,λvs Hf' H' f1 z r=>⟨?_,λq M=>(k _ _ _ (f1.trans (cv (z.sub.free M))) (z.step (Ext.new z.sub M)) ⟨q,vs,rfl,bN,r.up (cv (z.sub.free M))⟩)⟩⟩;rw[<- r.length,h.len ρ ds _ L];exact kR (pb hz)
inductive tMX(G:Gc)(i:Nat)(f:Xa)(σ:St)(H:Hp)(Q:List V->Hp->Prop):Prop
 |mk:∀Hf0 H0 Hf ρ ds ρ' l,aM G Hf0 H0 Hf H σ ρ->σ[i]?=aa (aa (.ref l))->f ρ=aa (ds,ρ')->(∀vs Hf' H',aN Hf Hf'->aM G Hf0 H0 Hf' H' σ ρ'->aC G Hf' ds vs->Q (.ref l::vs) H')->tMX G i f σ H Q
structure DMX(c:Str->Addr)(X:Cx)(es:LEx)(i:Nat)(f:Xa):Prop where
 pa:PA X es (tMX (Gx c X) i f)
 len:∀ρ ds ρ',f ρ=aa (ds,ρ')->ds.length+1=es.length
abbrev cC(i:Nat)(m:Addr->LD->LD->LD->Option (LD×D))(f:Xa):Xe:=λρ=>match ρ[i]? with
 |some (.pin _ _)=>(f ρ).bind λp=>match p.2[i]? with
  |some (.pin l xs)=>(m l [] p.1 xs).map λq=>(q.2,p.2.set i (.pin l q.1))
  | _=>ae
 | _=>ae
open Classical in
abbrev gJ(i:Nat)(m:Addr->LD->LD->LD->Option (LD×D))(f:Xa):Xe:=λρ=>match ρ[i]? with
 |some (.own _)=>(f ρ).bind λp=>match p.2[i]? with
  |some (.own xs)=>if h:∃q,∀l,m l [] p.1 xs=aa q then aa (h.choose.2,p.2.set i (.own h.choose.1)) else ae
  | _=>ae
 | _=>ae
def cD{pos:Pos}(i:Nat){g:Xa}(I:DAX c X es g)(T:X.N[i]?=aa x:=by rfl)(hv:Vis X.env.scope x:=by first |exact bV rfl |exact bE (bV rfl) |exact bE (bE rfl))(hd:NDb x:=by decide)
 (q:NCd x:=by decide)(U:a8 (.Name x pos::es) X.env=(aj,eval (.Name x pos) X.env)::a8 es X.env:=by rfl):DMX c X (.Name x pos::es) i g:=
 ⟨PA.imp (bJ (kX T hv hd q) I.pa U) λσ H Q ⟨Hf0,H0,Hf,ρ,ds,ρ',l,st,M,L,k⟩=>⟨_,M,Hf0,H0,Hf,ρ,ds,ρ',st,L,λvs Hf' H' f1 z r=>k vs Hf' H' f1 z r⟩,λρ ds ρ' h=>by
  rw[cL,I.len ρ ds ρ' h]⟩
variable{f:Addr}{fa:Xa}
def du{pos:Pos}{m:Addr->LD->LD->LD->Option (LD×D)}(pk:Pk X.prog X.w X.K X.mg X.base CX0 k x (f,fd) ps (spM (Gx c X) 0 ps.length m))(hr0:cN k0 X.A)(ha:DMX c X (e::es) i fa)(hl:(e::es).length=ps.length:=by rfl)(hdb:NDb x:=by decide)(he:StE X e es:=by rfl)(hpl:BkE X pos es:=by rfl)(hk0:k<=k0:=by decide)(hg:Gl X x:=by first |rfl |exact glc rfl):
  DX c X (.Call (.Name x p) (e::es) [] pos) (cC i m fa):=PE.imp (nc pk.ok (hr0.mono hk0) hg pk.g pk.kp pk.b .nil o9 ha.pa hdb he hpl) λσ H Q q_=>by
 obtain⟨Hf0,H0,Hf,ρ,d,ρ',st,z,kq⟩:=q_;unfold cC at z;split at z
 .rename_i l0 xs0 eo0
  cases M:fa ρ with
  |none=>rw[M]at z;nomatch z
  |some pp=>
   obtain⟨ds,ρ1⟩:=pp;simp only[M,aR]at z;split at z
   .rename_i l xs eo
    cases U:m l [] ds xs with
    |none=>rw[U]at z;nomatch z
    |some q=>
     rw[U]at z;cases z;obtain⟨l1,el,_,_,_,_,_,_⟩:=st.ownAt rfl eo0;refine⟨Hf0,H0,Hf,ρ,ds,ρ1,l1,st,el,M,λvs Hf' H' f1 I r=>?_⟩;rw[dh];obtain⟨l2,L,h02,hf2,eq2,us2,hu2,rx2⟩:=I.ownAt rfl eo;subst eq2;rw[el]at L;cases L
     have hn:0+1+ds.length=ps.length:=by
      have:=(ha.len ρ ds _ M).trans hl
      lia
     exact⟨Hf',[],ds,xs,q.1,q.2,l1,us2,[],vs,rfl,I.sub,hf2,hu2,rfl,r,rx2,rfl,hn,U,λv T H3 us3 x3 hf3 hu3 rx3 r3=>kq v T H3 (f1.trans x3.f) (I.back rfl rfl eo el x3 hf3 ⟨rfl,us3,hu3,rx3⟩) r3⟩
   .nomatch z
 .nomatch z
def j6{pos:Pos}{m:Addr->LD->LD->LD->Option (LD×D)}(pk:Pk X.prog X.w X.K X.mg X.base CX0 k x (f,fd) ps (spM (Gx c X) 0 ps.length m))(hr0:cN k0 X.A)(ha:DMX c X (e::es) i fa)(hl:(e::es).length=ps.length:=by rfl)(hdb:NDb x:=by decide)(he:StE X e es:=by rfl)(hpl:BkE X pos es:=by rfl)(hk0:k<=k0:=by decide)(hg:Gl X x:=by first |rfl |exact glc rfl):
  DX c X (.Call (.Name x p) (e::es) [] pos) (gJ i m fa):=PE.imp (nc pk.ok (hr0.mono hk0) hg pk.g pk.kp pk.b .nil o9 ha.pa hdb he hpl) λσ H Q q_=>by
 obtain⟨Hf0,H0,Hf,ρ,d,ρ',st,z,kq⟩:=q_;unfold gJ at z;split at z
 .rename_i xs0 eo0
  cases M:fa ρ with
  |none=>rw[M]at z;nomatch z
  |some pp=>
   obtain⟨ds,ρ1⟩:=pp;simp only[M,aR]at z;split at z
   .rename_i xs eo;split at z
    .rename_i hq;have e2:=hq.choose_spec;generalize hq.choose=q at z e2;cases z;obtain⟨l1,U,_,_,_,_,_⟩:=st.ownAt rfl eo0;refine⟨Hf0,H0,Hf,ρ,ds,ρ1,l1,st,U,M,λvs Hf' H' f1 I r=>?_⟩;rw[dh];obtain⟨l2,L,h02,hf2,us2,hu2,rx2⟩:=I.ownAt rfl eo;rw[U]at L;cases L
     have hn:0+1+ds.length=ps.length:=by
      have:=(ha.len ρ ds _ M).trans hl
      lia
     exact⟨Hf',[],ds,xs,q.1,q.2,l1,us2,[],vs,rfl,I.sub,hf2,hu2,rfl,r,rx2,rfl,hn,e2 l1,λv T H3 us3 x3 hf3 hu3 rx3 r3=>kq v T H3 (f1.trans x3.f) (I.back rfl rfl eo U x3 hf3 ⟨us3,hu3,rx3⟩) r3⟩
    .nomatch z
   .nomatch z
 .nomatch z
abbrev dM(i:Nat)(f:Xe)(ρ:LS):Option Fl:=(f ρ).map λp=>.nx (p.2.set i (.im p.1))
abbrev nL(f:Xe)(ρ:LS):Option Fl:=(f ρ).map λp=>.rtS p.1 p.2
abbrev mq(i:Nat)(f:Xe)(ρ:LS):Option Fl:=match ρ[i]? with
 |some (.own _)=>(f ρ).bind λp=>match p.2[i]? with
  |some (.own xs)=>if xs.length<16777216 then aa (.nx (p.2.set i (.own (xs++[p.1])))) else ae
  | _=>ae
 | _=>ae
abbrev pA(t:Xt)(F F':MF3)(ρ:LS):Option Fl:=(t ρ).bind λp=>if p.1 then F p.2 else F' p.2
variable{f:Xe}
def fF{pos:Pos}(i:Nat)(L:X.N.Nodup)(M:DX c X e f)(hi:X.N[i]?=aa x:=by rfl)(hx:Loc X.env.scope x:=by first |exact bV rfl |exact bE rfl)(U:eX e (aa (.Name x b5)) pos.line X.env=pure aj:=by rfl)(T:LcF X x:=by first |exact .inl rfl |exact .inr rfl):
  DS c X (.Assign [.Name x b5] e pos) (dM i f):=PS.imp (k4 L hi hx M U T) λE σ H q_=>by
 obtain⟨Hf0,H0,Hf,ρ,o,so,q,k⟩:=q_;unfold dM at q
 cases z:f ρ with
 |none=>rw[z]at q;nomatch q
 |some p=>
  rw[z]at q;cases q;exact⟨Hf0,H0,Hf,ρ,p.1,p.2,so,z,λv Hf' H' s I r=>k _ Hf' H' s (I.setIm r)⟩
def Bw{pos:Pos}(L:DX c X e f):DS c X (.Return (aa e) pos) (nL f):=PS.imp (m9 L) λE σ H M=>by
 obtain⟨Hf0,H0,Hf,ρ,o,T,q,k⟩:=M;unfold nL at q
 cases z:f ρ with
 |none=>rw[z]at q;nomatch q
 |some p=>
  rw[z]at q;cases q;exact⟨Hf0,H0,Hf,ρ,p.1,p.2,T,z,λv Hf' H' s I r=>k v σ Hf' H' I r⟩
def wT(h:PS X st (kZ (tBM X.K "list" vW (eL i) (k7 (tDX (Gx c X) f) lX)))):DS c X st (mq i f):=PS.imp h λE σ H q_=>by
 obtain⟨Hf0,H0,Hf,ρ,o,so,z,k⟩:=q_;unfold mq at z;split at z
 .rename_i xs0 T
  cases L:f ρ with
  |none=>rw[L]at z;nomatch z
  |some p=>
   rw[L,aR]at z;split at z
   .rename_i xs es;split at z
    .rename_i hl;cases z;obtain⟨l,M,h0,hf,vs0,q0,r0⟩:=so.ownAt rfl T;refine⟨_,M,.inl ⟨rfl,_,SqL.of q0⟩,Hf0,H0,Hf,ρ,p.1,p.2,so,L,λv Hf' H' s I r'=>?_⟩;obtain⟨l2,U,h02,hf2,vs,q,r⟩:=I.ownAt rfl es;rw[M]at U;cases U;exact⟨l,vs,v,rfl,rfl,q,by rw[cY,<- r.length];exact hl,k σ Hf' _ s (I.mutd rfl rfl es M ⟨vs++[v],bN,r.append (.cons r' .nil)⟩)⟩
    .grind
   .grind
 .grind
variable{as:List Stmt}
def Ib{pos:Pos}{bs:List Stmt}{t:Xt}(T:DTX c X e t)(L:DSs c X as F)(M:DSs c X bs F'):DS c X (.If e as bs pos) (pA t F F'):=PS.imp (vL T L M) λE σ H U=>by
 obtain⟨Hf0,H0,Hf,ρ,o,so,q,k⟩:=U;unfold pA at q
 cases I:t ρ with
 |none=>rw[I]at q;nomatch q
 |some x=>
  obtain⟨b,ρ1⟩:=x;rw[I,aR]at q;refine⟨Hf0,H0,Hf,ρ,b,ρ1,so,I,λb7 H1 s1 z=>?_⟩
  cases b with
  |true=>rw[if_pos rfl];exact⟨Hf0,H0,b7,ρ1,o,z,q,k.up s1⟩
  |false=>rw[if_neg cy];exact⟨Hf0,H0,b7,ρ1,o,z,q,k.up s1⟩
abbrev mBX(f:Xe):Xt:=λρ=>(f ρ).bind λp=>match p.1 with
 |.bl b=>aa (b,p.2)
 | _=>ae
abbrev mTX(f:MF4):Xt:=λρ=>(f ρ).map λb=>(b,ρ)
abbrev DWX(c:Str->Addr)(X:Cx)(e:Expr)(f:Xt):Prop:=PW X e (wS (Gx c X) f)
abbrev iC:D->D->OD
 |.str z,.int i=>if 0<=i/\i<2 ^ 63/\i<(z.length:Int) then (z.cps[i.toNat]?).map λch=>.str ⟨#[ch]⟩ else ae
 | _,_=>ae
abbrev iD(x y:D):OD:=match x with
 |.lst ds=>ixD ds y
 |.tup ds=>ixD ds y
 | _=>ae
abbrev mr(f:Xa):Xa:=λρ=>(f ρ).bind λp=>(ix p.1).map λds=>(ds,p.2)
def DT.dtx{f:MF4}(h:DT c X e f):DTX c X e (mTX f):=PT.imp h λσ H Q I=>by
 obtain⟨Hf0,H0,Hf,ρ,L,ρ',st,q,k⟩:=I;unfold mTX at q
 cases z:f ρ with
 |none=>rw[z]at q;nomatch q
 |some x=>
  rw[z]at q;cases q;exact⟨Hf0,H0,Hf,ρ,_,st,z,λHf' H' x=>k Hf' H' x.f (st.step x)⟩
def Ic{pos:Pos}{g:Xe}(ho:OpD c X (dk op) m)(ha:DX c X a f)(hb:DX c X b g)(hm:oU op b=aj:=by first |exact nomark _ |rfl):
  DTX c X (.Compare a [op] [b] pos) (mBX (mX2 m f g)):=PT.imp (Ab ho ha hb hm) λσ H Q q_=>by
 obtain⟨Hf0,H0,Hf,ρ,bb,ρ',st,z,k⟩:=q_;unfold mBX at z
 cases M:mX2 m f g ρ with
 |none=>rw[M]at z;nomatch z
 |some q=>
  obtain⟨d,d3⟩:=q;simp only[M,aR]at z;obtain⟨x,y,ρ1,e1,e2,e3⟩:=wQ M
  cases d <;> first |(cases z;done) |skip
  cases z;exact⟨Hf0,H0,Hf,ρ,x,ρ1,st,e1,λv b7 H1 f1 T r1=>⟨Hf0,H0,b7,ρ1,y,_,T,e2,λu cc H2 f2 I r2=>⟨cc,x,y,_,I.sub,r1.up f2,r2,e3,λw L H3 U r3=>⟨_,r3,k L H3 ((f1.trans f2).trans U.f) (I.step U)⟩⟩⟩⟩
def DWX.dtx{f:Xt}(h:DWX c X e f):DTX c X e f:=PW.pt h
def Ie{x:D}(h:iC x y=aa d):∃z i ch,x=.str z/\y=.int i/\0<=i/\i<2 ^ 63/\i<(z.length:Int)/\z.cps[i.toNat]?=aa ch/\d=.str ⟨#[ch]⟩:=by
 unfold iC at h;split at h
 .rename_i z i;split at h
  .rename_i q
   cases e:z.cps[i.toNat]? with
   |none=>rw[e]at h;nomatch h
   |some ch=>rw[e]at h;cases h;exact⟨z,i,ch,rfl,rfl,q.1,q.2.1,q.2.2,e,rfl⟩
  .nomatch h
 .nomatch h
def wU{pos:Pos}{f:MF1}(U:DE c X a f)(hb:DE c X b g)(hs:Ad b:=by exact λ_ _=>rfl):DE c X (.Subscript a b pos) (m2 iC f g):=PE.imp (FT U hb hs) λσ H Q q_=>two (λvx vy H Q q=>by
 obtain⟨Hf,x,y,d,s0,r1,r2,e,k⟩:=q;obtain⟨z,i,ch,rfl,rfl,I,L,M,T,rfl⟩:=Ie e;exact⟨z,i,ch,r1,r2,I,L,M,T,k _ Hf H (Ext.refl s0) rfl⟩) q_
def nM{pos:Pos}{g:Xe}(ha:DX c X a f)(hb:DX c X b g)(hs:vU b:=by exact λ_ _=>rfl):DX c X (.Subscript a b pos) (mX2 iD f g):=PE.imp (Ap (Aq.or At) ha hb hs) λσ H Q q_=>by
 obtain⟨Hf0,H0,Hf,ρ,d,ρ',st,ef,k⟩:=q_;obtain⟨x,y,ρ1,e1,e2,I⟩:=wQ ef;refine⟨Hf0,H0,Hf,ρ,x,ρ1,st,e1,λv b7 H1 f1 hY L=>⟨Hf0,H0,b7,ρ1,y,ρ',hY,e2,λu cc H2 f2 z r2=>?_⟩⟩;have L:=L.up f2;unfold iD at I;split at I
 .rename_i ds
  cases y <;> first |(cases I;done) |skip
  rename_i n;cases (r2);obtain⟨l,vs,M,q,r⟩:=L;subst M;obtain⟨v,T,U⟩:=wn I r;exact .inl ⟨l,vs,n,v,rfl,rfl,SqL.of (z.sub _ _ q),T,k v cc H2 (f1.trans f2) z U⟩
 .rename_i ds
  cases y <;> first |(cases I;done) |skip
  rename_i n;cases (r2);obtain⟨l,vs,M,q,r⟩:=L;subst M;obtain⟨v,T,U⟩:=wn I r;exact .inr ⟨l,vs,n,v,rfl,rfl,SqT.of (z.sub _ _ q),T,k v cc H2 (f1.trans f2) z U⟩
 .nomatch I
def Bx{pos:Pos}{f:Xa}(hg:Gl X "range")(hm:X.mg "range"=ae)(T:DAX c X [a] f)(hs:a8 [a] X.env=[(aj,eval a X.env)]:=by rfl):DXi c X tg (.Call (.Name "range" p) [a] [] pos) (mr f):=
 PI.imp (zX hg hm T.pa hs) λσ H R q_=>by
  obtain⟨Hf0,H0,Hf,ρ,ds,ρ',st,I,k⟩:=q_;unfold mr at I
  cases L:f ρ with
  |none=>rw[L]at I;nomatch I
  |some q=>
   obtain⟨as,ρ1⟩:=q;simp only[L,aR]at I
   cases z:ix as with
   |none=>rw[z]at I;nomatch I
   |some ds'=>
    rw[z]at I;cases I;have hl:=T.len ρ as _ L;refine⟨Hf0,H0,Hf,ρ,as,_,st,L,λvs Hf' H' s1 M r=>?_⟩;unfold ix at z;split at z
    .split at z
     .rename_i j U;cases z;obtain⟨v,ev,rv⟩:=r.one;cases (rv);exact⟨j,ev,U.1,U.2,k _ Hf' H' s1 M wv⟩
     .nomatch z
    .nomatch hl
    .nomatch z
open PySem.Builtin PySem.Builtin.Str in
def By{g:Str}{pos:Pos}(I:Gl X x)(q:∃t,X.mg x=aa (.str g t))(hd:NDb x:=by decide):DE c X (.Name x pos) (λ_=>aa (.str g)):=by
 obtain⟨t,q⟩:=q
 exact PE.imp (oY I q (v:=.str g) ⟨t,rfl⟩ hd) λσ H Q L=>by
  obtain⟨Hf0,H0,Hf,ρ,d,st,z,k⟩:=L;cases z;exact k _ Hf H (Ext.refl st.sub) rfl
abbrev Its(x:Str):It:=⟨λi _=>i<x.length,λi H v H'=>H'=H/\∃ch,x.cps[i]?=aa ch/\v=.str ⟨#[ch]⟩,λi _=>x.length<=i⟩
variable{K:bA}
def Ig(it:Addr)(x:Str)(t:Tok):k6 P w K tg (Its x) [it] it (λi h=>h.IsStrIter it "str_ascii_iterator" x t i) where
 mem:=bj.mpr rfl
 obj:=λi h ⟨o,e,oc,od⟩ b hb=>by
  cases bj.mp hb;exact⟨o,e,λv z=>by rw[od]at z;nomatch z⟩
 keep:=λi h h' ⟨o,e,r⟩ k=>⟨o,k it (bj.mpr rfl) o e,r⟩
 item:=by
  intro X eP ew eK cm i pins s σ H E I hf st hg;obtain⟨f0,f1,f2,f3,f4,f5⟩:=hf it (bj.mpr rfl);have hx:=Array.getElem?_eq_getElem hg;refine wpAny_pyNext_ascii_item st hx λh' lw sb=>?_
  have I1:Inv X pins σ H {s with heap:=h',toks:=s.toks+1}:=I.turned (λb o hb e=>(sb.2 b hb).trans e) f0 f1 f3 f4 f5
  obtain⟨o,e,oc,od⟩:=id lw;exact⟨_,rfl,rM e oc od (by decide) ⟨.str ⟨#[x.cps[i]]⟩,H,I1,⟨_,rfl⟩,⟨rfl,_,hx,rfl⟩,lw,λb hb=>(hf b hb).1⟩⟩
 done:=by
  intro X eP ew eK cm i pins s σ H E I hf st hg;obtain⟨f0,f1,f2,f3,f4,f5⟩:=hf it (bj.mpr rfl);exact wpAny_pyNext_ascii_end (I.ok.hd cm) st (u5 hg) λh' eb=>⟨rfl,I.turned (λb o hb e=>eb b o hb e) f0 f1 f3 f4 f5⟩
 self:=λ_ _ _ _ _ st h=>wpAny_pyIter_striter_ascii st h
abbrev nN(f:MF1)(ρ:LS):OLD:=(f ρ).bind λd=>match d with
 |.str x=>if x.cps.all (· < 128)=af then aa (x.cps.toList.map λch=>.str ⟨#[ch]⟩) else ae
 | _=>ae
def Ih:me G Hf (Its x) (x.cps.toList.map λch=>D.str ⟨#[ch]⟩):=λHf' H' f s i=>by
 refine⟨λd q=>?_,λz=>?_⟩
 .rw[fS]at q
  cases e:x.cps.toList[i]? with
  |none=>rw[e]at q;nomatch q
  |some ch=>
   rw[e]at q;cases q;have hi:i<x.cps.size:=by simpa using (dX.mp e).1
   refine⟨hi,λv H2 ⟨L,T,I,M⟩=>?_⟩;subst L M;rw[<- u6,e]at I;cases I;exact⟨Hf',Ext.refl s,rfl⟩
 .rw[aG,qK]at z;exact Nat.le_of_eq z.symm
def Ii{l:Expr}{M:TE}(hl:PE X l M):PI X tg l (λσ H R=>M σ H λx H1=>∃z,x=.str z/\z.cps.all (· < 128)=af/\R (Its z) H1):=by
 intro pins s σ H R I h;refine thn (hl pins s σ H _ I h) λv s1 q_=>?_;obtain⟨x,H1,L,r1,z,T,as,q⟩:=q_;subst T;obtain⟨t,rfl⟩:=r1;refine wpAny_pyIter_ascii as ?_;refine⟨s1.heap.objs.size,_,_,_,H1,rfl,L.kept λb o e=>cg _ e,Ig _ z t,⟨_,e6 _ rfl,rfl,rfl⟩,λb U=>?_,q⟩;cases bj.mp U;exact L.fpOk Nat.le.refl (L.hok.fresh Nat.le.refl)
variable{f:MF1}
def Ij(h:DE c X e f):DI c X tg e (nN f):=PI.imp (Ii h) λσ H R I=>by
 obtain⟨Hf0,H0,Hf,ρ,ds,st,q,k⟩:=I;unfold nN at q
 cases z:f ρ with
 |none=>rw[z]at q;nomatch q
 |some d=>
  rw[z,aR]at q
  cases d <;> first |(cases q;done) |skip
  rename_i x;replace q:(if x.cps.all (· < 128)=af then aa _ else ae)=aa ds:=q;split at q
  .rename_i as;cases q;exact⟨Hf0,H0,Hf,ρ,_,st,z,λv b7 H1 M L=>⟨x,L,as,k _ b7 H1 M Ih⟩⟩
  .nomatch q
abbrev inS(y x:Str):Bool:=!(EC.Str.occurrences x y 0 x.length 1).isEmpty
abbrev nO(y x:D):OD:=match y,x with
 |.str y,.str x=>aa (.bl (inS y x))
 | _,_=>ae
def Ik:∀x y d,nO x y=aa d->d.scalar=af:=λx y d e=>by
 unfold nO at e;split at e
 .cases e;rfl
 .nomatch e
def Il:OpD c X (dk .In) nO:=by
 rintro pins s σ H U vy v u Q I L M ⟨Hf,x,y,d,T,q,z,e,k⟩;unfold nO at e;split at e
 .rename_i y x;cases e;cases (q);cases (z);obtain⟨t,rfl⟩:=L;obtain⟨t',rfl⟩:=M;exact PyProof.Rows.in_str ⟨.bl _,H,I,rfl,k _ Hf H (Ext.refl T) rfl⟩
 .nomatch e
abbrev Im:V->Option Int->Option Int->Hp->VK->Prop:=λx lo hi H Q=>∃z,x=.str z/\z.length<=bn/\Q (.str (gB z lo hi)) H
def Io:SlR X Im:=by
 rintro pins s σ H x v vl vu lo hi sl Q I rx hs pl pu ⟨z,rfl,hz,q⟩;obtain⟨t,rfl⟩:=rx;refine⟨"str",_,F.slot_str_getitem.lookup,typeIs_str _ _ _,?_⟩
 have L:∀t' k,EP X pins σ Q _ {s with toks:=k}:=λt' k=>⟨.str _,H,I.tok k,⟨t',rfl⟩,q⟩
 obtain⟨o,T,M,hd⟩:=hs
 cases pl with
 |none=>
  cases pu with
  |none=>exact qZ (l:=ae) (u:=ae) (st:=ae) ⟨o,T,M,hd⟩ rfl (rg ⟨c9 (rF z _ _) hz,L⟩)
  |int i U=>exact qZ (l:=ae) (u:=aa (i,U)) (st:=ae) ⟨o,T,M,hd⟩ rfl (rg ⟨c9 (rF z _ _) hz,L⟩)
 |int j tj=>
  cases pu with
  |none=>exact qZ (l:=aa (j,tj)) (u:=ae) (st:=ae) ⟨o,T,M,hd⟩ rfl (rg ⟨c9 (rF z _ _) hz,L⟩)
  |int i U=>exact qZ (l:=aa (j,tj)) (u:=aa (i,U)) (st:=ae) ⟨o,T,M,hd⟩ rfl (rg ⟨c9 (rF z _ _) hz,L⟩)
abbrev tz(d:D)(lo hi:Option Int):OD:=match d with
 |.str z=>if z.length<=16777216 then aa (.str (gB z lo hi)) else ae
 | _=>ae
def Ip{r:D}(h:tz d lo hi=aa r):∃z,d=.str z/\z.length<=bn/\r=.str (gB z lo hi):=by
 unfold tz at h;split at h
 .split at h
  .rename_i hz;cases h;exact⟨_,rfl,by rw[cY];exact hz,rfl⟩
  .nomatch h
 .nomatch h
abbrev nP(f:MF1)(l h:LS->Option (Option Int))(ρ:LS):OD:=(f ρ).bind λd=>(l ρ).bind λlo=>(h ρ).bind λhi=>tz d lo hi
def Bz{pos:Pos}{l h:LS->Option (Option Int)}{lo hi:Option Expr}(ha:DE c X e f)(hl:DPt c X lo l)(hh:DPt c X hi h):DE c X (.Subscript e (.Slice lo hi ae p2) pos) (nP f l h):=
 PE.imp (vT Io ha hl hh) λσ H Q q_=>by
  obtain⟨Hf0,H0,Hf,ρ,r,st,q,k⟩:=q_;unfold nP at q
  cases L:f ρ with
  |none=>rw[L]at q;nomatch q
  |some d=>
   rw[L,aR]at q
   cases M:l ρ with
   |none=>rw[M]at q;nomatch q
   |some lo'=>
    rw[M,aR]at q
    cases T:h ρ with
    |none=>rw[T]at q;nomatch q
    |some U=>
     rw[T,aR]at q;obtain⟨z,rfl,hz,rfl⟩:=Ip q;exact⟨Hf0,H0,Hf,ρ,_,st,L,λv b7 H1 x1 r1=>⟨Hf0,H0,b7,ρ,lo',st.step x1,M,λcc H2 x2=>⟨Hf0,H0,cc,ρ,U,(st.step x1).step x2,T,λI H3 x3=>⟨z,r1,hz,k _ I H3 ((x1.trans x2).trans x3) rfl⟩⟩⟩⟩
def ll:DS c X st (λ_=>ae):=λpins s σ H E I z=>by
 obtain⟨Hf0,H0,Hf,ρ,o,L,q,k⟩:=z
 nomatch q
def tB:entryFor table "dict.update.loop"=aa df.«dict.update.loop»:=entryFor_of_tree (by kernel_rfl)
def lm:plainId "dict.update.loop"=af:=by decide +kernel
def Iq:m6 (.type "list") "keys"=pure ae:=by rw[typeLookup_type,vk];kernel_rfl
abbrev Ir(P:cS)(w:World)(h:Heap)(D it:Addr)(items:Array Value)(ps:List (Key×Value)):Prop:=items.size=ps.length/\∀(i:Nat) (p:Key×Value),ps[i]?=aa p->∃t key,items[i]?=aa (.ref t)/\t≠D/\t≠it/\h.IsTuple t #[key,p.2]/\(c5 P w).is p.1 key=af
def Iu(hh:A.handled=ae)(D it l:Addr)(items:Array Value)(ps:List (Key×Value))(T:D≠it)(hDl:D≠l)(hil:it≠l)(nd:(ps.map (·.1)).Nodup)(hz:ps.length<=1000):
  ∀(n i:Nat) (s:aE),i+n=ps.length->Ir prog w s.heap D it items ps->s.heap.IsList l items->s.heap.IsListIter it l i->s.heap.DictOf (c5 prog w) D (ps.take i) ->
   (∀h' tk,h'.DictOf (c5 prog w) D ps->(∀b o,b≠D->b≠it->s.heap.get? b=aa o->h'.get? b=aa o)->R (.ok (.ret .none)) {s with heap:=h',toks:=tk}) ->
   fU (model prog w) A (.builtin "dict.update.loop" ⟨[.ref D,.ref it,.int i 0,.none],[]⟩) R s:=by
 intro n
 induction n with
 |zero=>
  intro i s hi pa hl U hd k;refine kU tB ?_;rw[rj lm];unfold df.«dict.update.loop»;dsimp only;have hx:items[i]?=ae:=u5 (by rw[pa.1];lia);refine ao (vj (A:=A.in1) hh U hl hx λh' eb=>?_);dsimp only;refine ao (bh (bh ?_));have e:ps.take i=ps:=mV (by lia);rw[e]at hd;obtain⟨od,es,ep,ho,r⟩:=hd
  exact k h' s.toks ⟨od,es,ep,eb D od T ho,r⟩ λb o _ hb I=>eb b o hb I
 |succ n ih=>
  intro i s hi pa hl U hd k;refine kU tB ?_;rw[rj lm];unfold df.«dict.update.loop»;dsimp only;obtain⟨p,hp⟩:∃p,ps[i]?=aa p:=⟨_,fH (by lia)⟩;obtain⟨t,key,e1,tD,tit,ht,hk⟩:=pa.2 i p hp;refine ao (vi U hl e1 λh1 hO sb1=>?_);dsimp only
  have ht1:h1.IsTuple t #[key,p.2]:=by
   obtain⟨o,I,r⟩:=ht;exact⟨o,(sb1.2 t tit).trans I,r⟩
  have hd1:h1.DictOf (c5 prog w) D (ps.take i):=by
   obtain⟨od,es,ep,ho,r⟩:=hd;exact⟨od,es,ep,(sb1.2 D T).trans ho,r⟩
  refine ao (dP (ao (wpAny_tryCatch ?_)));unfold zx
  refine ao (lQ (s:={s with heap:=h1}) ht1.typeIs ?_)
  rw[if_pos (by decide)];obtain⟨o,I,oc,nn,od⟩:=id ht1;refine ao (oP I od ?_);refine bh ?_;show wpAny _ _ (gw [key,p.2] (dictSet D key p.2)) _ _ _;refine dP (wpAny_dictSet_pairs (kvs:=ps.take i) hk hd1 (λh2 d2 sb2=>?_) (by rw[gr,cY];lia))
  have M:ps=ps.take i++p::ps.drop (i+1):=by
   have h0:i<ps.length:=by lia
   have:ps[i]=p:=by rw[fH h0]at hp;exact cu hp
   rw[<- this,<- qU h0,oG]
  have hst:ig (ps.take i) p.1 p.2=ps.take (i+1):=by
   unfold ig
   have hno:((ps.take i).any λkv=>decide (kv.1=p.1))=aj:=by
    rw[any_eq_false];intro kv hkv hc;rw[M,bU,di]at nd;have:=(kP.mp nd).2.2 kv.1 (bZ.mpr ⟨kv,hkv,rfl⟩) p.1 bR;exact this (of_decide_eq_true hc)
   rw[if_neg (by rw[hno];exact cy),take_add_one,hp];rfl
  rw[hst]at d2;have ke:∀b o,b≠D->b≠it->s.heap.get? b=aa o->h2.get? b=aa o:=λb o hb L I=>(sb2.2 b hb).trans ((sb1.2 b L).trans I);refine bh ⟨m5 lm _,?_⟩
  refine ih (i+1) {s with heap:=h2,toks:=s.toks+1} (by lia) ⟨pa.1,λj q hq=>?_⟩ ?_ ?_ d2 λh' tk hd' kp=>k h' tk hd' λb o hb L I=>kp b o hb L (ke b o hb L I)
  .obtain⟨t',key',f1,f2,f3,⟨o',z,r'⟩,f5⟩:=pa.2 j q hq;exact⟨t',key',f1,f2,f3,⟨o',ke t' o' f2 f3 z,r'⟩,f5⟩
  .obtain⟨o',z,r'⟩:=hl;exact⟨o',ke l o' (cq hDl) (cq hil) z,r'⟩
  .obtain⟨o',z,r'⟩:=hO;exact⟨o',(sb2.2 it (cq T)).trans z,r'⟩
variable{E:PRS}{items:Array Value}
def Iv{Q:Option Value->aE->Prop}(hh:A.handled=ae)(hl:PlainL s.heap l items)
 (h:∀h' tk,(∀b o,s.heap.get? b=aa o->h'.get? b=aa o)->Q ae {s with heap:=h',toks:=tk}):wpAny (model prog w) A (getAttr? (.ref l) "keys") Q E s:=by
 obtain⟨⟨c,dct,dat,sl⟩,k,U,T,hd,q⟩:=hl;simp only at T q hd;subst T q hd;obtain⟨hq,gq,dq,tq,oq⟩:=s;have M:∀I,(⟨hq,gq,dq,I,oq⟩:aE).TypeIs (.ref l) "list":=λ_=>⟨_,U,rfl⟩;have f1:=sub_AttributeError;have f3:=vz.lookup;have f4:=vz.bind (.ref l);have L:=am_list_getattr_none;unfold getAttr?;unfold getAttrBy?;unfold getAttrBy
 repeat (any_goals (first |assumption |exact M _ |((with_reducible show wpAny _ _ (call (Value.builtin "list.__getattribute__") _ _) _ _ _);refine call_meets vz (M _) am_entry_list_getattribute (PySem.F.args_list_getattribute_2 _ _) (meets_getattribute_miss_list l items k sl "keys" _ Iq (by decide)) ⟨U,hh,λh' I e z=>?_⟩) |wp_step))
 obtain⟨ta,ua,hea⟩:=z.there
 show wpAny _ _ (rf _ _ _ _ _ _ _) _ _ _;unfold rf;repeat any_goals (first |assumption |wp_step)
 exact h _ _ z.keeps
def Iw{ps:List (Key×Value)}{Q:PRS}(hh:A.handled=ae)(hl:PlainL s.heap l items)
 (nd:(ps.map (·.1)).Nodup)(hz:ps.length<=1000)(pa:items.size=ps.length/\∀(i:Nat) (p:Key×Value),ps[i]?=aa p->∃t key,items[i]?=aa (.ref t)/\s.heap.IsTuple t #[key,p.2]/\(c5 prog w).is p.1 key=af)
 (h:∀h' tk,h'.DictOf (c5 prog w) s.heap.objs.size ps->(∀b o,s.heap.get? b=aa o->h'.get? b=aa o)->Q (.ref s.heap.objs.size) {s with heap:=h',toks:=tk}):
  wpAny (model prog w) A (call (.type "dict") [.ref l]) Q E s:=by
 refine callType_codes (Q₁:=λobj I=>obj=.ref s.heap.objs.size/\I={s with heap:=s.heap.push {cls:=.type "dict",data:=.dict #[]}}) PySem.F.kt_called_dict (zL _) PySem.F.entry_dict_init (kt_code_dict_new _ ⟨rfl,rfl⟩) ?_
 rintro obj I ⟨rfl,rfl⟩;have q:(s.heap.push {cls:=.type "dict",data:=.dict #[]}).DictOf (c5 prog w) s.heap.objs.size []:=vG s.heap;have L:PlainL (s.heap.push {cls:=.type "dict",data:=.dict #[]}) l items:=hl.keeps λb o e=>cg _ e;refine⟨q.typeIs,PySem.F.args_dict_init_2 _ _,?_⟩;unfold df.«dict.__init__»;refine ao ?_;unfold zw;refine ao (vm q.typeIs ?_);show wpAny _ _ (pure (s.heap.objs.size,[fJ l])) _ _ _;refine bh ?_;show wpAny _ _ (rm "dict.__init__" s.heap.objs.size (.ref l) [] .none) _ _ _;unfold rm;refine ao (lQ L.isList.typeIs ?_);rw[if_pos (by decide)];refine ao (Iv hh L λM tk2 k2=>?_);simp only[Option.isNone_none,if_true];refine ao (wpAny_rule ?_);have T:PlainL M l items:=L.keeps k2
 refine ao (m4 (s:={s with heap:=M,toks:=tk2}) T.isList ?_)
 have up:∀b o,s.heap.get? b=aa o->M.get? b=aa o:=λb o e=>k2 b o (cg _ e);have z:∀{b:Addr} {o:Obj},s.heap.get? b=aa o->b≠s.heap.objs.size/\b≠M.objs.size:=λ{b o} e=>⟨cr (bI e),cr (bI (up b o e))⟩
 have hD:s.heap.objs.size≠M.objs.size:=by
  obtain⟨od,es,ep,ho,r⟩:=q;exact cr (bI (k2 _ _ ho))
 obtain⟨ol,nl,el,rl⟩:=id hl;refine bh ⟨m5 lm _,?_⟩;refine Iu (A:=A.in1) hh s.heap.objs.size M.objs.size l items ps hD (cq (z el).1) (cq (z el).2) nd hz ps.length 0 _ (Nat.zero_add _) ⟨pa.1,λi p hp=>?_⟩ ?_ ?_ ?_ λh' tk hd kp=>?_
 .obtain⟨t,key,e1,⟨ot,U,rt⟩,hk⟩:=pa.2 i p hp;exact⟨t,key,e1,(z U).1,(z U).2,⟨ot,cg _ (up _ _ U),rt⟩,hk⟩
 .exact(T.keeps λb o e=>cg _ e).isList
 .exact⟨_,e6 _ rfl,rfl,rfl⟩
 .obtain⟨od,es,ep,ho,r⟩:=q;exact⟨od,es,ep,cg _ (k2 _ _ ho),r⟩
 .exact⟨rfl,h h' tk hd λb o e=>kp b o (z e).1 (z e).2 (cg _ (up b o e))⟩
abbrev gK(K:bA)(H:Hp):List V->List Key->List V->Prop
 | [],[],[]=>True
 |v::vs,k::ks,u::us=>(∃t,v=.ref t/\SqT K H t [kV k,u])/\gK K H vs ks us
 | _,_,_=>False
def gK.len{K:bA}{H:Hp}:∀{vs:List V} {ks:List Key} {us:List V},gK K H vs ks us->vs.length=ks.length/\us.length=ks.length
 | [],[],[],_=>⟨rfl,rfl⟩
 | _::_,_::_,_::_,h=>by
  obtain⟨a,b⟩:=gK.len h.2
  exact⟨by rw[cL,cL,a],by rw[cL,cL,b]⟩
 | [],[],_::_,h=>h.elim
 | [],_::_,_,h=>h.elim
 | _::_,[],_,h=>h.elim
 | _::_,_::_,[],h=>h.elim
def Ix{a:Addr}{xs:List V}(s:aN H H')(h:SqT K H a xs):SqT K H' a xs:=by
 rcases h with h |h
 .refine .inl ?_
  rcases h with h |⟨od,h⟩
  .exact .inl (s _ _ h)
  .exact .inr ⟨od,s _ _ h⟩
 .exact .inr h
def gK.up{K:bA}{H H':Hp}(s:aN H H'):∀{vs:List V} {ks:List Key} {us:List V},gK K H vs ks us->gK K H' vs ks us
 | [],[],[],_=>trivial
 | _::_,_::_,_::_,⟨⟨t,e,q⟩,h⟩=>⟨⟨t,e,Ix s q⟩,gK.up s h⟩
 | [],[],_::_,h=>h.elim
 | [],_::_,_,h=>h.elim
 | _::_,[],_,h=>h.elim
 | _::_,_::_,[],h=>h.elim
def gK.at{X:Cx}{pins:PNS}{σ:St}{H:Hp}{s:aE}(I:Inv X pins σ H s):∀{vs:List V} {ks:List Key} {us:List V} {ws:LVa},gK X.K H vs ks us->a9 vs ws ->
  ∃ps:List (Key×Value),ps.map (·.1)=ks/\KV (ks.zip us) ps/\ws.length=ps.length/\∀(i:Nat) (p:Key×Value),ps[i]?=aa p->∃t key,ws[i]?=aa (.ref t)/\s.heap.IsTuple t #[key,p.2]/\(c5 X.prog X.w).is p.1 key=af
 | [],[],[],ws,_,r=>by
  cases r
  exact⟨[],rfl,.nil,rfl,λi p h=>by simp at h⟩
 |v::vs,k::ks,u::us,ws,h,r=>by
  cases r with
  |cons r1 rr=>
   rename_i w1 wr;obtain⟨⟨t,rfl,sq⟩,M⟩:=h;obtain⟨ps,T,p2,U,p4⟩:=gK.at I M rr;obtain⟨its,rv,tp,_⟩:=I.tuple sq;obtain⟨key,val,rfl,L,q⟩:=rv.two;cases (show w1=fJ t from r1);refine⟨(k,val)::ps,by rw[di,T],.cons ⟨rfl,q⟩ p2,by rw[cL,cL,U],λi p z=>?_⟩
   cases i with
   |zero=>
    cases z;refine⟨t,key,rfl,tp,?_⟩
    cases k with
    |inl i=>obtain⟨tk,rfl⟩:=L;exact zM _ _ i tk
    |inr x=>obtain⟨tk,rfl⟩:=L;exact zN _ _ x tk
   |succ i=>exact p4 i p z
 | [],[],_::_,_,h,_=>h.elim
 | [],_::_,_,_,h,_=>h.elim
 | _::_,[],_,_,h,_=>h.elim
 | _::_,_::_,[],_,h,_=>h.elim
def Iy(L:X.calm=af):d7 X (.type "dict") (λxs H Q=>∃a vs ks us,xs=[.ref a]/\SqL X.K H a vs/\gK X.K H vs ks us/\ks.Nodup/\ks.length<=1000/\∀p,H p=ae->Q (.ref p) (upd H p (.dK (ks.zip us)))):=by
 rintro pins s σ H xs ws Q I r ⟨a,vs,ks,us,rfl,sq,pv,nd,hl,q⟩;obtain⟨_,rfl,r1⟩:=jR r;cases r1;obtain⟨its,rv,pl,hz⟩:=I.list sq;obtain⟨ps,z,p2,U,p4⟩:=pv.at I rv;have M:ps.length=ks.length:=by rw[<- z,aG]
 refine Iw (I.ok.hd L) pl (by rw[z];exact nd) (by lia) ⟨by rw[size_toArray];exact U,λi p T=>by obtain⟨t,key,e,r⟩:=p4 i p T;exact⟨t,key,by rw[qP];exact e,r⟩⟩ λh' tk hd kp=>?_;refine⟨.ref _,_,I.laid (t':=tk) kp (bL _) (o:=.dK (ks.zip us)) ⟨?_,?_,ps,p2,hd⟩,rfl,q _ I.fresh⟩
 .rw[iY,cY];lia
 .exact beq_eq_false_iff_ne.mpr (cq (cr I.big))
def wV:gu "dict"=aa (.type "dict"):=by decide +kernel
abbrev j7:LD->Option (List Key×LD)
 | []=>aa ([],[])
 |.tup [x,y]::ds=>(jk x).bind λk=>(j7 ds).map λr=>(k::r.1,y::r.2)
 | _=>ae
def BA{G:Gc}{H:Hp}:∀{ds:LD} {vs:List V} {r:List Key×LD},j7 ds=aa r->aC G H ds vs->∃us,gK G.K H vs r.1 us/\aC G H r.2 us
 | [],vs,r,e,rs=>by
  cases e;cases (show vs=[]from rs)
  exact⟨[],trivial,rfl⟩
 |d::ds,vs,r,e,rs=>by
  obtain⟨v,vr,rfl,rv,rr⟩:=rs;unfold j7 at e;split at e
  .rename_i h;cases h
  .rename_i x y T h;cases h
   cases z:jk x with
   |none=>rw[z]at e;cases e
   |some k=>
    rw[z,aR]at e
    cases I:j7 ds with
    |none=>rw[I]at e;cases e
    |some q=>
     rw[I]at e;cases e;obtain⟨us,U,h2⟩:=BA I rr;obtain⟨t,ws,rfl,M,L⟩:=rv;obtain⟨a,_,rfl,ra,b,_,rfl,rb,rn⟩:=L;cases (show _=[]from rn);rw[po z ra]at M;exact⟨b::us,⟨⟨t,rfl,SqT.of M⟩,U⟩,.cons rb h2⟩
  .cases e
abbrev tE(i:Nat)(f:MF1)(ρ:LS):Option Fl:=(f ρ).bind λd=>(lsD d).bind λds=>(j7 ds).bind λr=>if r.1.Nodup/\r.1.length<=1000 then aa (.nx (ρ.set i (.ownd r.1 r.2))) else ae
def Iz{pos:Pos}(i:Nat)(hc:X.calm=af)(hN:X.N.Nodup)(hg:Gl X "dict")(hm:X.mg "dict"=ae)(he:DE c X e f)(hi:X.N[i]?=aa x:=by rfl)(hx:Loc X.env.scope x:=by first |exact bV rfl |exact bE rfl)(M:a8 [e] X.env=(aj,eval e X.env)::a8 [] X.env:=by rfl)
 (hs:eX (.Call (.Name "dict" p) [e] [] pos) (aa (.Name x b5)) c0.line X.env=pure aj:=by rfl)(hf:LcF X x:=by first |exact .inl rfl |exact .inr rfl):
  DS c X (.Assign [.Name x b5] (.Call (.Name "dict" p) [e] [] pos) c0) (tE i f):=PS.imp (k4 hN hi hx (rX (Iy hc) hg hm wV (bJ he ci M) (by decide) (by decide) M rfl) hs hf) λE σ H q_=>by
 obtain⟨Hf0,H0,Hf,ρ,o,so,z,k⟩:=q_;unfold tE at z
 cases U:f ρ with
 |none=>rw[U]at z;cases z
 |some d=>
  rw[U,aR]at z
  cases e2:lsD d with
  |none=>rw[e2]at z;cases z
  |some ds=>
   rw[e2,aR]at z
   cases e3:j7 ds with
   |none=>rw[e3]at z;cases z
   |some r=>
    rw[e3,aR]at z;split at z
    .rename_i I;cases z;refine⟨Hf0,H0,Hf,ρ,d,so,U,λv Hf' H' T rv=>?_⟩;obtain⟨a,vs,rfl,sq,rs⟩:=jg e2 rv;obtain⟨us,pv,ru⟩:=BA e3 rs;refine⟨a,vs,r.1,us,rfl,T.s.seq sq,pv.up T.s,I.1,I.2,λq hq=>?_⟩;have L:=so.step T;exact k _ Hf' _ T.f (L.setOwn (i:=i) (l:=q) (s:=.ownd r.1 r.2) rfl (Ext.grow L.sub (cv hq)) hq (L.sub.free hq) ⟨us,bN,pv.len.2.symm,ru⟩)
    .cases z
variable{t j:Nat}
def BB{s:Sl}(z:js[t]?=aa j)(q:ρ[j]?=aa s):(dC k js ρ)[k+t]?=aa s:=by
 unfold dC;rw[mT (by rw[ic];exact Nat.le_add_right _ _),ic,Nat.add_sub_cancel_left,fS,z];show aa ((ρ[j]?).getD .no)=_;rw[q];rfl
variable{jp:Nat}
def aM.compP(k:Nat)(h:aM G Hf0 H0 Hf H σ ρ)(hj:js.Nodup)(I:ρ[jp]?=aa (.pin l xs))(hc:∀j∈js,j=jp\/((ρ[j]?).getD .no).calm=af):
  aM G Hf (dS H l) Hf H (fX k js σ) (dC k js ρ):=by
 obtain⟨l',el,h0,hf,M,us,hu,rx⟩:=h.ownAt rfl I;subst M;have st:=h.comp k hj;refine st.re (Ext.grow (wL h.sub hf) Bm) rfl (λi v s a b=>?_) λi s v a b c d=>⟨s,b,d⟩;have q:=st.at' i v s a b
 rcases lf b with⟨_,e⟩ |⟨_,b⟩
 .subst e;trivial
 .obtain⟨j,U,es⟩:=mf b
  rcases hc j (qV U)with e |e
  .subst e;rw[I]at es;subst es;obtain⟨l2,L,_,z,T,w⟩:=q;subst T;exact⟨_,L,sX,z,rfl,w⟩
  .rw[<- es]at e
   cases s with
   |no=>trivial
   |im d=>exact q
   | _=>nomatch e
section
variable(k:Nat)(js:LN)(jp t:Nat)(g:D->LS->Option LS)(fe:Xe)(ρ:LS)(l:Addr)
open Classical in
abbrev mv(d:D)(xs:LD):Option (D×LD):=(g d (dC k js (ρ.set jp (.pin l xs)))).bind λρ1=>(fe ρ1).bind λq=>match q.2[k+t]? with
 |some (.pin _ xs')=>if ∀i,k<=i->q.2[i]?=(dC k js (ρ.set jp (.pin l xs')))[i]? then aa (q.1,xs') else ae
 | _=>ae
abbrev f8:LD->LD->Option (LD×LD)
 | [],xs=>aa ([],xs)
 |d::ds,xs=>(mv k js jp t g fe ρ l d xs).bind λy=>(f8 ds y.2).map λr=>(y.1::r.1,r.2)
end
abbrev iE(k:Nat)(js:LN)(jp t:Nat)(fi:Xa)(g:D->LS->Option LS)(fe:Xe):Xe:=λρ=>(fi ρ).bind λp=>match p.2[jp]? with
 |some (.pin l xs)=>if p.1.length<=16777216/\js[t]?=aa jp/\(js.all λj=>j==jp || ((p.2[j]?).getD .no).calm)=af then (f8 k js jp t g fe p.2 l p.1 xs).map λq=>(.lst q.1,p.2.set jp (.pin l q.2)) else ae
 | _=>ae
variable{g:D->LS->Option LS}{fe:Xe}
def BC{z:LD}(h:mv k js jp t g fe ρ l d xs=aa (y,z)):∃ρ1 I,g d (dC k js (ρ.set jp (.pin l xs)))=aa ρ1/\fe ρ1=aa (y,I)/\(∃M,I[k+t]?=aa (.pin M z))/\∀i,k<=i->I[i]?=(dC k js (ρ.set jp (.pin l z)))[i]?:=by
 unfold mv at h
 cases T:g d _ with
 |none=>rw[T]at h;nomatch h
 |some ρ1=>
  rw[T,aR]at h
  cases L:fe ρ1 with
  |none=>rw[L]at h;nomatch h
  |some q=>
   rw[L,aR]at h;split at h
   .rename_i M zs U;split at h
    .rename_i hi;cases h;exact⟨ρ1,q.2,rfl,L,⟨M,U⟩,hi⟩
    .nomatch h
   .nomatch h
def BD(h:f8 k js jp t g fe ρ l (d::ds) xs=aa (rs,ys)):∃y q r,mv k js jp t g fe ρ l d xs=aa (y,q)/\f8 k js jp t g fe ρ l ds q=aa (r,ys)/\rs=y::r:=by
 unfold f8 at h
 cases I:mv k js jp t g fe ρ l d xs with
 |none=>rw[I]at h;nomatch h
 |some y=>
  rw[I,aR]at h
  cases z:f8 k js jp t g fe ρ l ds y.2 with
  |none=>rw[z]at h;nomatch h
  |some r=>rw[z]at h;cases h;exact⟨y.1,y.2,r.1,rfl,z,rfl⟩
def tF{s:Sl}(h:ρ[jp]?=aa s):(ρ.set jp s')[jp]?=aa s':=gP (dX.mp h).1
def IA{fi:Xa}(hj:js.Nodup)(hk:∀d ρ ρ' i,g d ρ=aa ρ'->k<=i->ρ'[i]?=ρ[i]?)(eN:∀d ρ ρ',g d ρ=aa ρ'->ρ'.length=ρ.length){Q:VK}(h:tDX G (iE k js jp t fi g fe) σ H Q):
  lb k js (sY G fi) (tDG G g) (tDT G λ_=>aa af) (tDX G fe) σ H Q:=by
 obtain⟨Hf0,H0,Hf,ρ0,d0,ρ',st,I,kq⟩:=h;unfold iE at I
 cases e1:fi ρ0 with
 |none=>rw[e1]at I;nomatch I
 |some p=>
  obtain⟨ds,ρ⟩:=p;rw[e1,aR]at I;dsimp only at I;split at I
  .rename_i l xs ep;split at I
   .rename_i hz;obtain⟨hz,ht,hcm⟩:=hz
    cases e2:f8 k js jp t g fe ρ l ds xs with
    |none=>rw[e2]at I;nomatch I
    |some q=>
     obtain⟨rs,zs⟩:=q;rw[e2]at I;cases I;refine⟨Hf0,H0,Hf,ρ0,ds,ρ,st,e1,λJ b7 H1 f1 hY it=>?_⟩
     have hcm':=λj U=>by
      have:=all_eq_true.mp hcm j U;rw[gp]at this;exact this.imp beq_iff_eq.mp id
     have T:ρ.set jp (.pin l xs)=ρ:=by
      apply ext_getElem?;intro i
      by_cases hi:jp=i
      .subst hi;rw[tF ep,ep]
      .rw[gQ hi]
     have st0:aM G b7 (dS H1 l) b7 H1 (fX k js σ) (dC k js (ρ.set jp (.pin l xs))):=by rw[T];exact hY.compP k hj ep hcm'
     obtain⟨l9,el9,_,hf9,e9,_⟩:=hY.ownAt rfl ep;subst e9
     refine⟨λi m ys σ' H'=>m=ds.length-i/\i<=ds.length/\∃Hf' as L aB,aM G b7 _ Hf' H' σ' (dC k js (ρ.set jp (.pin l9 L)))/\aC G Hf' as ys/\f8 k js jp t g fe ρ l9 (ds.drop i) L=aa (aB,zs)/\rs=as++aB/\as.length<=i,
      ⟨ds.length,rfl,gs _,b7,[],xs,rs,st0,rfl,e2,rfl,bL _⟩,?_⟩
     rintro i m ys σ' H' ⟨rfl,hi,Hf',as,L,aB,z,ra,ec,er,hal⟩;have hys:ys.length<=bn:=by rw[cY,<- ra.length];lia
     obtain⟨hO,it2⟩:=it Hf' H' z.ext.f z.sub i
     by_cases hlt:i<ds.length
     .obtain⟨d,ed,edr⟩:=nA hlt;obtain⟨go,yl⟩:=hO d ed
      refine .inr ⟨go,hys,λkF fy H2=>ds.length-_=ds.length-_/\i+1<=ds.length/\∃Hf' as L aB,aM G b7 _ Hf' H2 fy _/\aC G Hf' as kF/\f8 k js jp t g fe ρ l9 _ L=aa _/\rs=as++aB/\as.length<=i+1,
       λkF fy H2 w=>⟨ds.length-(i+1),by lia,w⟩,λx H2 y=>?_⟩
      obtain⟨cc,x3,rx⟩:=yl x H2 y;rw[edr]at ec;obtain⟨y',xs2,r',et,ec',M⟩:=BD ec;obtain⟨ρ1,d3,eg,ee,⟨l',ex⟩,hag⟩:=BC et;refine⟨b7,dS H1 l9,cc,_,d,ρ1,z.step x3,rx,eg,λgg hX=>⟨b7,dS H1 l9,cc,ρ1,af,hX,rfl,λHf4 H4 x4=>AA ⟨b7,dS H1 l9,Hf4,ρ1,y',d3,hX.step x4,ee,λv Hf5 H5 f5 st5 r5=>?_⟩⟩⟩
      have hl2:(dC k js (ρ.set jp (.pin l9 xs2))).length=d3.length:=by
       rw[<- st5.len,hX.len,eN _ _ _ eg];unfold dC;rw[bg,bg,aG,aG]
      refine⟨rfl,hlt,Hf5,as++[y'],xs2,r',st5.weak hl2 λj s hs=>?_,(ra.up ((x3.f.trans x4.f).trans f5)).append (.cons r5 .nil),ec',by rw[er,M,fm];rfl,by rw[bg,fj];lia⟩
      rcases lf hs with⟨_,e⟩ |⟨U,_⟩
      .exact .inl e
      .exact .inr (by rw[hag j U];exact hs)
     .have ei:i=ds.length:=by lia
      subst ei;refine .inl ⟨it2 rfl,hys,λD h1 h2=>?_⟩;rw[mU (bL _)]at ec;cases ec;rw[dh]at er;subst er;obtain⟨l3,el3,h03,hf3,e3,us3,hu3,rx3⟩:=z.ownAt rfl (BB ht (tF ep));subst e3;have xn:=Ext.new (o:=.lst ys) z.sub h2;exact kq _ _ _ (f1.trans (z.ext.f.trans xn.f)) ((hY.back (s':=.pin l3 zs) rfl rfl ep el9 z.ext hf3 ⟨rfl,us3,hu3,rx3⟩).step xn) ⟨D,ys,rfl,bN,ra.up xn.f⟩
   .nomatch I
  .nomatch I
abbrev gL:LD->Option LSt
 | []=>aa []
 |.str x::ds=>(gL ds).map (x::·)
 | _=>ae
def wW:∀{ds:LD} {q:LSt},gL ds=aa q->ds=q.map D.str
 | [],q,h=>by cases h;rfl
 |d::ds,q,h=>by
  cases d with
  |str x=>
   have h:(gL ds).map _=aa q:=h
   cases e:gL ds with
   |none=>rw[e]at h;cases h
   |some ys=>rw[e]at h;cases h;rw[wW e];rfl
  | _=>cases h
def BE:∀q:LSt,gL (q.map D.str)=aa q
 | []=>rfl
 |z::q=>by
  show(gL _).map _=_;rw[BE q];rfl
abbrev tI(x y:D):OD:=match x with
 |.str a=>(lsD y).bind λds=>(gL ds).bind λq=>if PySem.JoinOk a q=af then aa (.str (vI a q)) else ae
 | _=>ae
def BF{G:Gc}{H:Hp}:∀(q:LSt) (vs:List V),aC G H (q.map D.str) vs->vs=q.map V.str
 | [],_,h=>h
 |z::q,_,⟨v,r,e,h1,h2⟩=>by rw[e,BF q r h2,show v=V.str z from h1];rfl
abbrev BG(K:bA):V->List V->Hp->VK->Prop:=λx vs H Q=>∃a l q,x=.str a/\vs=[.ref l]/\SqL K H l (q.map V.str)/\PySem.JoinOk a q=af/\Q (.str (vI a q)) H
def BH:∀(q:LSt) (its:LVa),a9 (q.map V.str) its->∃l:List (Str×Tok),its=strValues l/\l.map (·.1)=q
 | [],_,r=>by cases r;exact⟨[],rfl,rfl⟩
 |z::q,_,r=>by
  cases r with
  |cons a b=>
   obtain⟨t,rfl⟩:=a;obtain⟨l,I,L⟩:=BH q _ b;exact⟨(z,t)::l,by rw[I];rfl,by rw[di,L]⟩
def IB:MtR X "str.join" (BG X.K):=by
 rintro pins s σ H x xs v us Q I rx rv ⟨a,l,zs,rfl,rfl,M,L,q⟩;obtain⟨t,rfl⟩:=rx;obtain⟨u,rfl,ru⟩:=rv.one;subst ru;obtain⟨its,U,T,_⟩:=I.list M;obtain⟨ls,rfl,z⟩:=BH zs its U;exact SC.join T.isList z L λt' k=>⟨.str _,H,I.tok k,⟨t',rfl⟩,q⟩
def IC{g:MF1}(h:PE X e (tBM X.K "str" (BG X.K) (tD (Gx c X) f) (k7 (tD (Gx c X) g) lX))):DE c X e (m2 tI f g):=PE.imp h λσ H Q q_=>by
 obtain⟨Hf0,H0,Hf,ρ,d,st,ef,k⟩:=q_;obtain⟨x,y,e1,e2,z⟩:=ss ef;unfold tI at z;split at z
 .rename_i a
  cases I:lsD y with
  |none=>rw[I]at z;nomatch z
  |some ds=>
   rw[I,aR]at z
   cases L:gL ds with
   |none=>rw[L]at z;nomatch z
   |some U=>
    rw[L,aR]at z;split at z
    .rename_i hj;cases z;refine⟨Hf0,H0,Hf,ρ,_,st,e1,λv b7 H1 M r1=>?_⟩;cases (r1);refine⟨rfl,Hf0,H0,b7,ρ,_,st.step M,e2,λu cc H2 T r2=>?_⟩;obtain⟨l,vs,el,q,rs⟩:=jg I r2;rw[wW L]at rs;rw[BF U vs rs]at q;exact⟨a,l,U,rfl,by rw[el],T.s.seq q,hj,k _ cc H2 (M.trans T) rfl⟩
    .nomatch z
 .nomatch z
abbrev wX:D->Option Str
 |.str z=>if z.length<=16777216 then aa z else ae
 |.int i=>if i.natAbs.log2<1920 then aa (ToString.toString i) else ae
 | _=>ae
abbrev iF(out:Str)(q:LSt):Str:=q.foldl (·++·) out
def wY:∀(q:LSt) (out:Str),out.length<=(iF out q).length
 | [],_=>bL _
 |z::q,out=>by
  have:=wY q (out++z);rw[Str.length_append]at this;show out.length<=(iF (out++z) q).length;lia
abbrev DFs(c:Str->Addr)(X:Cx)(es:LEx)(f:LS->Option LSt):Prop:=∀(pins:PNS) (s:aE) (σ:St) (H:Hp) (Q:VK) (out:Str),Inv X pins σ H s ->
 (∃Hf0 H0 Hf ρ q,aM (Gx c X) Hf0 H0 Hf H σ ρ/\f ρ=aa q/\(iF out q).length<=16777216/\∀Hf' H',Ext Hf H Hf' H'->Q (.str (iF out q)) H')->wpAny (model X.prog X.w) X.A (joinParts out (evalEach es X.env)) (EP X pins σ Q) X.xe s
abbrev mFc(x:Str)(g:LS->Option LSt)(ρ:LS):Option LSt:=(g ρ).map (x::·)
abbrev mFv(f:MF1)(g:LS->Option LSt)(ρ:LS):Option LSt:=(f ρ).bind λd=>(wX d).bind λz=>(g ρ).map (z::·)
abbrev mFs(f:LS->Option LSt)(ρ:LS):OD:=(f ρ).bind λq=>if (iF Str.empty q).length<=16777216 then aa (.str (iF Str.empty q)) else ae
def pB:DFs c X [] nZ:=λpins s σ H Q out I z=>by
 obtain⟨Hf0,H0,Hf,ρ,L,st,q,hz,k⟩:=z
 exact (by
 cases q;exact joinParts_nil ⟨.str out,H,I.tok _,⟨_,rfl⟩,k Hf H (Ext.refl st.sub)⟩ (by rw[cY];exact hz))
variable{g:LS->Option LSt}
def iG{pos:Pos}(M:DFs c X es g):DFs c X (.Constant (.str x) j pos::es) (mFc x g):=λpins s σ H Q out I T=>by
 obtain⟨Hf0,H0,Hf,ρ,zs,st,q,hz,k⟩:=T
 exact (by
 unfold mFc at q
 cases z:g ρ with
 |none=>rw[z]at q;nomatch q
 |some ys=>
  rw[z]at q;cases q;have U:=wY ys (out++x);have L:(iF (out++x) ys).length<=16777216:=hz;exact joinParts_cons (Calls.Constant_str ⟨by rw[cY];lia,(M pins _ σ H Q _ (I.tok _) ⟨Hf0,H0,Hf,ρ,ys,st,z,L,k⟩)⟩))
def ID{z:Str}{u:Value}{Q:PRS}(e:wX d=aa z)(r:Rep G Hf d v)(L:be v u)(k:∀t tk,Q (.str z t) {s with toks:=tk}):wpAny (model prog w) A (formatField u Str.empty) Q E s:=by
 cases d with
 |str y=>
  replace e:(if y.length<=16777216 then aa y else ae)=aa z:=e;split at e
  .rename_i T;have I:=cu e;subst I;subst r;obtain⟨t,q⟩:=L;subst q;exact formatField_str k (by rw[cY];exact T)
  .nomatch e
 |int n=>
  replace e:(if n.natAbs.log2<1920 then aa _ else ae)=aa z:=e;split at e
  .rename_i M;have I:=cu e;subst I;subst r;obtain⟨t,q⟩:=L;subst q;exact formatField_int_small M (k _ _)
  .nomatch e
 | _=>nomatch e
def ln{pos:Pos}(he:DE c X e f)(hr:DFs c X es g):DFs c X (.FormattedValue e (-1) ae pos::es) (mFv f g):=λpins s σ H Q out I q_=>by
 obtain⟨Hf0,H0,Hf,ρ,zs,st,q,hz,k⟩:=q_
 exact (by
 unfold mFv at q
 cases L:f ρ with
 |none=>rw[L]at q;nomatch q
 |some d=>
  rw[L,aR]at q
  cases M:wX d with
  |none=>rw[M]at q;nomatch q
  |some z=>
   rw[M,aR]at q
   cases T:g ρ with
   |none=>rw[T]at q;nomatch q
   |some ys=>
    rw[T]at q;cases q;have h1:=wY ys (out++z);have h2:(iF (out++z) ys).length<=16777216:=hz;have h3:(out++z).length<=bn:=by rw[cY];lia
    refine joinParts_cons (FormattedValue_plain ?_);exact thn (he pins s σ H (λv H'=>∃Hf',Ext Hf H Hf' H'/\Rep _ Hf' d v) I ⟨Hf0,H0,Hf,ρ,d,st,L,λv Hf' H' x r=>⟨Hf',x,r⟩⟩) λu s1 ⟨v,H1,I1,r1,b7,U,rd⟩=>(ID M rd r1 λt tk=>⟨h3,hr pins _ σ H1 Q _ (I1.tok tk) ⟨Hf0,H0,b7,ρ,ys,st.step U,T,h2,λHf' H' x=>k Hf' H' (U.trans x)⟩⟩))
def pE{pos:Pos}{f:LS->Option LSt}(h:DFs c X (a::b::es) f):DE c X (.JoinedStr (a::b::es) pos) (mFs f):=λpins s σ H Q I L=>by
 obtain⟨Hf0,H0,Hf,ρ,d,st,q,k⟩:=L
 exact (by
 unfold mFs at q
 cases z:f ρ with
 |none=>rw[z]at q;nomatch q
 |some M=>
  rw[z,aR]at q;split at q
  .rename_i hz;cases q;exact JoinedStr_many (h pins s σ H Q Str.empty I ⟨Hf0,H0,Hf,ρ,M,st,z,hz,λHf' H' x=>k _ Hf' H' x rfl⟩)
  .nomatch q)
def BI{pos:Pos}(i:Nat){g:Xa}(I:DAX c (X.comp scope Nc cl C ex a7 b0) es g)(T:Nc[i]?=aa x:=by rfl)(hv:Vis scope x:=by first |exact bV rfl |exact bE (bV rfl) |exact bE (bE rfl))(hd:NDb x:=by decide)
 (q:NCd x:=by decide)(U:a8 (.Name x pos::es) (X.comp scope Nc cl C ex a7 b0).env=(aj,eval (.Name x pos) (X.comp scope Nc cl C ex a7 b0).env)::a8 es (X.comp scope Nc cl C ex a7 b0).env:=by rfl):DMX c (X.comp scope Nc cl C ex a7 b0) (.Name x pos::es) i g:=
 ⟨PA.imp (bJ (pvc i T hv hd q) I.pa U) λσ H Q ⟨Hf0,H0,Hf,ρ,ds,ρ',l,st,M,L,k⟩=>⟨_,M,Hf0,H0,Hf,ρ,ds,ρ',st,L,λvs Hf' H' f1 z r=>k vs Hf' H' f1 z r⟩,λρ ds ρ' h=>by
  rw[cL,I.len ρ ds ρ' h]⟩
variable{fi:Xa}{g:D->LS->Option LS}
def IE{pos:Pos}(i:Nat)(k:Nat)(js:LN)(jp t:Nat)(Nc:LSt)(hN:X.N.Nodup)(hc:X.calm=af)(hi:DXi c X tg iter fi)(I:∀cl C ex a7 b0,DG c (X.comp scope Nc cl C ex a7 b0) tg k g)
 (he:∀cl C ex a7 b0,DX c (X.comp scope Nc cl C ex a7 b0) da fe)(L:X.N[i]?=aa x:=by rfl)(hx:Loc X.env.scope x:=by first |exact bV rfl |exact bE rfl)
 (M:eX (.ListComp da [⟨tg,iter,[],0⟩] scope pos) (aa (.Name x b5)) c0.line X.env=pure af:=by rfl)(U:io scope X.env.scope.names X.N Nc k js=af:=by rfl)(hs:∀x,gS iter X.env x=pure x:=by intro _;rfl)
 (hf:LcF X x:=by first |exact .inl rfl |exact .inr rfl)(hj:js.Nodup:=by decide):
  DS c X (.Assign [.Name x b5] (.ListComp da [⟨tg,iter,[],0⟩] scope pos) c0) (dM i (iE k js jp t fi g fe)):=
 PS.imp (si (tt:=tDT (Gx c X) λ_=>aa af) (te:=tDX (Gx c X) fe) k js Nc hN L hx hc hi (λcl C ex a7 b0=>(I cl C ex a7 b0).pg) (λcl C ex a7 b0=>c7) he M U hs hf) λE σ H q_=>by
  obtain⟨Hf0,H0,Hf,ρ,o,so,q,kk⟩:=q_;unfold dM at q
  cases z:iE k js jp t fi g fe ρ with
  |none=>rw[z]at q;nomatch q
  |some p=>
   rw[z]at q;cases q;exact IA hj (I [] 0 [] X.s₀ X.H₀).keep (I [] 0 [] X.s₀ X.H₀).len ⟨Hf0,H0,Hf,ρ,p.1,p.2,so,z,λv Hf' H' s T r=>kk _ Hf' H' s (T.setIm r)⟩
abbrev CX1(P:cS)(w:World):CXT:=λouter H s E e s'=>∃a cls q H' B,e=.ref a/\oX B outer a cls q s'.heap/\s'.os=s.os/\i0 s'.gens/\Un (frs outer) [] H H' s.heap s'.heap/\HOk P w H' s'.heap /\
 (∀b,H' b≠ae->B.get? b≠ae)/\(∀b o,s.heap.get? b=aa o->b∉frs outer->B.get? b≠ae)/\E cls ae H'
variable{h:Heap}{a:Addr}
def eJ.obj{o:HO}(x:eJ P w H h a o):∃u,h.get? a=aa u:=by
 cases o with
 |lst xs=>obtain⟨_,_,_,_,e⟩:=x;exact⟨_,e⟩
 |tup xs=>obtain⟨_,_,_,o,e,_⟩:=x;exact⟨_,e⟩
 |dK kvs=>obtain⟨_,_,_,_,o,_,_,e,_⟩:=x;exact⟨_,e⟩
 |dT kvs=>obtain⟨_,_,_,_,o,_,_,e,_⟩:=x;exact⟨_,e⟩
 |set S n=>obtain⟨o,_,_,_,e,_⟩:=x;exact⟨_,e⟩
 |ins C dx fs=>obtain⟨_,_,_,e,_⟩:=x;exact⟨_,e⟩
 |own y=>obtain⟨_,e⟩:=x;exact⟨_,e⟩
 |xd fs=>obtain⟨_,⟨_,_,_,e,_⟩,_⟩:=x;exact⟨_,e⟩
 |rng lo hi=>obtain⟨_,_,_,e⟩:=x;exact⟨_,e⟩
 |frz o u=>exact⟨_,x.1⟩
 |tbl ps=>exact⟨_,x⟩
 |met f y=>exact⟨_,x⟩
 |ext φ=>exact x.2.1
variable{E:XK}{cls a0:Value}
def wZ{G:LAd}(J:Inv X pins σ H s)(hex:X.ex=[])(hst:∀b∈frs X.stack,b∈G)(U:∀b∈G,H b=ae)
 (M:∀b∈G,∀o,X.s₀.heap.get? b=aa o->b∈X.fs)(hfl:oX (ij s.heap G) X.outer a cls a0 h')(hup:s.heap.UpToSlots h')(hE:E cls ae H):
  CX1 X.prog X.w X.outer X.H₀ X.s₀ E (.ref a) {s with heap:=h'}:=by
 have stay:=λb o e n=>hfl.1 b o (lU _ e n)
 have frame:=λb o e L=>by
  refine hup b o e λvs hv=>?_;obtain⟨_,o',ho',hd⟩:=J.funs.mem L;rw[e]at ho';cases ho';exact hd vs hv
 have L:=J.base;rw[hex]at L;have ne:∀b:Addr,b∉([]:LAd):=λb h=>by nomatch h
 refine⟨a,cls,a0,H,_,rfl,hfl,J.os,J.bare,⟨λb o e n T _=>(stay b o (L.keep b o e n T (ne b)) λI=>T (M b I o e)),λb o e n T _=>?_,L.free,λb o e _=>?_,L.tups,L.frzs,L.tbls⟩,λb o e=>?_,λb hb'=>?_,λb o e T=>?_,hE⟩
 .obtain⟨sl,h1⟩:=L.slot b o e n T (ne b);obtain⟨sl2,h2⟩:=frame b _ h1 T;exact⟨sl2,h2⟩
 .obtain⟨o',h1⟩:=L.there b o e (ne b)
  by_cases I:b∈G
  .obtain⟨sl,h2⟩:=frame b o' h1 (M b I o e);exact⟨_,h2⟩
  .exact⟨o',stay b o' h1 I⟩
 .refine(J.hok b o e).stay (λc u hc hu=>stay c u hu λI=>?_) (λ_ q=>q) λ_ _ q=>q
  rcases hc with rfl |hc
  .rw[U _ I]at e;nomatch e
  .rw[U _ I]at hc;nomatch hc
 .cases eb:H b with
  |none=>exact absurd eb hb'
  |some o=>
   obtain⟨u,hu⟩:=(J.hok b o eb).obj;rw[lU _ hu λI=>by rw[U _ I]at eb;cases eb];exact λz=>by nomatch z
 .obtain⟨o',h1⟩:=L.there b o e (ne b);rw[lU _ h1 λI=>T (M b I o e)];exact λz=>by nomatch z
def nQ{base h:Heap}{as:LAd}:∀{l:List Env},h.FunFrames base l->(∀b∈frs l,b∈as)->h.FunFrames (ij h as) l
 | [],_,_=>trivial
 |env::l,⟨hk,⟨L,o,hf,_,ho,hd⟩,hr⟩,ez=>⟨hk,⟨L,o,hf,gC _ (ez L (by unfold frs;rw[jI,hf];exact bR)),ho,hd⟩,nQ hr λb q=>ez b (by unfold frs;rw[jI,hf];exact cE _ q)⟩
def Inv.stkNew(J:Inv X pins σ H s):∀b∈frs X.stack,∀o,X.s₀.heap.get? b=aa o->b∈X.fs:=λb q o e=>by
 rcases bM.mp (J.stkSub b q)with rfl |h
 .exact absurd (bI e) (Nat.not_lt.mpr J.ok.above)
 .exact h
variable{M:Model}{Ex:PRS}
def IF{e:Addr}{args:LVa}{Q:Unit->aE->Prop}(J:Inv X pins σ H s)(hex:X.ex=[])(L:X.stack=X.env::X.outer)(hf:X.env.frame=aa X.env.locals)(T:Heap.MadeExcOf s.heap h e cls args)(hE:E cls ae H)
 (hQ:∀s',CX1 X.prog X.w X.outer X.H₀ X.s₀ E (.ref e) s'->Q () s'):wpAny M X.A (leaving X.env (.ref e)) Q Ex {s with heap:=h}:=by
 have I:=J.ok.frames;rw[L]at I;refine wpAny_leaves_madeW I hf (λb o q=>lV _ q) (by rw[<- L];exact nQ J.stack λb z=>z) T λh' t f1 f2 f3 U=>hQ _ ?_;have:=wZ J hex (λb z=>z) J.stkFree J.stkNew f1 ((Heap.UpToSlots.of_keeps T.keeps).trans U) hE;exact this
variable{s':aE}
def IG{e:Value}{Q:Unit->aE->Prop}(I:Inv X pins σ H s)(hex:X.ex=[])(hs:X.stack=X.env::X.outer)(hf:X.env.frame=aa X.env.locals)(h:CX1 X.prog X.w X.stack H s E e s')
 (hQ:∀U,CX1 X.prog X.w X.outer X.H₀ X.s₀ E e U->Q () U):wpAny M X.A (leaving X.env e) Q Ex s':=by
 obtain⟨a,cls,a0,H',B,rfl,fl,os,bare,un,hok,kB,kS,hE⟩:=h;have J:=I.call' os un hok bare λb z=>by nomatch z
 obtain⟨f1,f2,f3,oe,vs,T,oT,ts,t1,t2,t3,t4,t5,t6,t7,t8,t9⟩:=fl;have fr:=J.ok.frames;rw[hs]at fr
 have inS:∀b o,X.s₀.heap.get? b=aa o->b∉X.fs->B.get? b≠ae:=λb o e n=>by
  obtain⟨o',h1⟩:=I.base.there b o e (by rw[hex];exact λz=>by nomatch z);exact kS b o' h1 λhm=>n (I.stkNew b hm o e)
 have hG:∀b∈frs X.stack++[a,T],H' b=ae:=λb L=>by
  rcases b8.1 L with L |L
  .exact J.stkFree b L
  .cases q:H' b with
   |none=>rfl
   |some o=>
    have:=kB b (by rw[q];exact λz=>by nomatch z)
    rcases bM.1 L with rfl |L
    .exact absurd f2 this
    .rw[bj.1 L]at this;exact absurd t5 this
 have hN:∀b∈frs X.stack++[a,T],∀o,X.s₀.heap.get? b=aa o->b∈X.fs:=λb L o e=>by
  rcases b8.1 L with L |L
  .exact J.stkNew b L o e
  .by_cases n:b∈X.fs
   .exact n
   .have:=inS b o e n
    rcases bM.1 L with rfl |L
    .exact absurd f2 this
    .rw[bj.1 L]at this;exact absurd t5 this
 have hfl:oX (ij s'.heap (frs X.stack++[a,T])) (X.env::X.outer) a cls a0 s'.heap:=
  ⟨λb o q=>lV _ q,gC _ (by simp),by rw[<- hs];exact nQ f3 λb L=>jH _ L,oe,vs,T,oT,ts,t1,t2,t3,t4,gC _ (by simp),t6,t7,t8,t9⟩
 exact wpAny_leaves_onW fr hf hfl λh' x1 x2=>hQ _ (wZ J hex (λb L=>jH _ L) hG hN x1 x2 hE)
@[reducible]noncomputable def IH:LVa:=[.type "ValueError",.type "Exception",.type "BaseException",.type "object"]
@[reducible]noncomputable def dU(K:bA)(C:Addr):Bool:=W.excIn K C IH "ValueError.__new__"
variable{nid:String}
def w5{z:LVa}(I:K.In h)(q:W.excIn K C z nid=af):
  ∃L N nm T bs hd sn sub ab col dd k0 k1 k2 k3 k5 mN,h.get? C=aa (excClassObj nm T C N bs L hd sn sub ab col dd k0 k1 k2 k3 k5 nid)/\h.Ns N mN/\mN "__init__"=ae/\OwnTail h z L:=by
 unfold W.excIn at q;split at q
 .rename_i dd cd sl ho;split at q
  .rename_i C' L k0 k1 k2 k3 n k5 hm U;simp only[dy,beq_iff_eq,Bool.not_eq_true']at q;obtain⟨⟨⟨⟨⟨q1,q2⟩,q3⟩,q4⟩,q5⟩,q6⟩:=q;subst q1 q2
   cases cd with
   |mk nm bs mro ns T hd sn sub ab col del=>
    subst hm q3
    have es:sl=#[k0,k1,k2,k3,aa (.builtin n),k5]:=by
     cases sl with
     |mk l=>dsimp only at U;rw[U]
    subst es;exact⟨L,ns,nm,T,bs,hd,sn,sub,ab,col,dd,k0,k1,k2,k3,k5,_,I _ _ ho,.of_isNs (W.isNs_of_in I q5),W.nsMap_none_of_in I q5 q6,W.tail_of_in I q4⟩
  .nomatch q
 .nomatch q
abbrev w6(X:Cx)(C:Addr)(q:Hp->Prop):Prop:=∀(pins:PNS) (σ:St) (H:Hp) (s:aE) (h:Heap) (a:Addr) (us:LVa),Inv X pins σ H s->Heap.MadeExcOf s.heap h a (.ref C) us->q H->X.xe (.ref a) {s with heap:=h}
variable{np cpos:Pos}{t:TA}
def II{pos:Pos}{Wx:Hp->Prop}(hC:dU X.K C=af)(hc:X.calm=af)(hw:w6 X C Wx)(hg:Gl X x)(hm:X.mg x=aa (.ref C))(ha:PA X (e::es) t)
 (he:StE X e es:=by rfl)(hpl:(eE cpos (a8 es X.env)).any (·.1)=aj:=by rfl)(U:NDb x:=by decide):
  PS X (.Raise (aa (.Call (.Name x np) (e::es) [] cpos)) ae pos) (λ_ σ H=>t σ H λvs H'=>vs.length<=bn/\Wx H'):=by
 intro pins s σ H D I h;obtain⟨bm,N,nm,qn,bs,hd,sn,sub,ab,col,dd,k0,k1,k2,k3,k5,mN,h1,h2,h3,T⟩:=w5 I.ok.mod.kin hC
 refine wpAny_Raise_call_subT (nm:=nm) (q:=qn) (N:=N) (bs:=bs) (hdct:=hd) (sn:=sn) (sub:=sub) (ab:=ab) (col:=col) (dd:=dd) (k0:=k0) (k1:=k1) (k2:=k2) (k3:=k3) (k5:=k5)
  vF (T.hasType vF.hasBase) (I.ok.hd hc) (by rw[he];show(aj || (eE cpos _).any (·.1))=aj;rw[hpl];rfl) h3 (rJ I hg hm ⟨rfl,?_⟩ U)
 rw[he];have z:=ha cpos pins s σ H _ I h;rw[he]at z;refine vv (thn z λus s2 q_=>?_);obtain⟨vs,H2,L,r2,hz,q⟩:=q_;refine⟨rfl,by rw[<- r2.length];exact hz,L.bk _ _ h1,h2.keeps L.bk,T.keeps L.bk,λh' a hx=>hw pins σ H2 s2 h' a us L hx q⟩
variable{cdv:Value}{outer:List Env}
def fR{f:Addr}:
  il (CX1 P w) (gD (CX1 P w) P w K mg base N qual scope f cdv A outer s H E) E:=λpins σ H' s1 e s' I h=>IG I rfl rfl rfl h λz q=>q
def pG{f:Addr}:
  w6 (gD (CX1 P w) P w K mg base N qual scope f cdv A outer s H E) C (λH'=>E (.ref C) ae H'):=λpins σ H' s1 h a us I z q=>IF I rfl rfl rfl z q λs' q=>q
abbrev tR(G:Gc)(C:Addr)(E:XK)(r:LS->Bool)(σ:St)(H:Hp):Prop:=∃Hf0 H0 Hf ρ,aM G Hf0 H0 Hf H σ ρ/\r ρ=af/\∀Hf' H',Ext Hf0 H0 Hf' H'->E (.ref C) ae H'
abbrev RX(c:Str->Addr)(X:Cx)(C:Addr)(E:XK)(e:Expr)(r:LS->Bool):Prop:=PE X e λσ H _=>tR (Gx c X) C E r σ H
abbrev RA(c:Str->Addr)(X:Cx)(C:Addr)(E:XK)(es:LEx)(r:LS->Bool):Prop:=PA X es λσ H _=>tR (Gx c X) C E r σ H
abbrev RS(c:Str->Addr)(X:Cx)(C:Addr)(E:XK)(st:Stmt)(r:LS->Bool):Prop:=PS X st λ_ σ H=>tR (Gx c X) C E r σ H
abbrev RSs(c:Str->Addr)(X:Cx)(C:Addr)(E:XK)(st:List Stmt)(r:LS->Bool):Prop:=PSs X st λ_ σ H=>tR (Gx c X) C E r σ H
@[reducible]noncomputable def rNo:LS->Bool:=λ_=>aj
def tJ(h:tR G C E rNo σ H):False:=by
 obtain⟨_,_,_,_,_,e,_⟩:=h;cases e
abbrev j8(q:LS->Bool)(f:Xe)(z:LS->Bool)(ρ:LS):Bool:=q ρ || match f ρ with
 |some p=>z p.2
 |none=>aj
abbrev dg(q:LS->Bool)(F:MF3)(z:LS->Bool)(ρ:LS):Bool:=q ρ || match F ρ with
 |some (.nx ρ')=>z ρ'
 | _=>aj
abbrev rIf(t:Xt)(q z:LS->Bool)(ρ:LS):Bool:=match t ρ with
 |some (af,ρ')=>q ρ'
 |some (aj,ρ')=>z ρ'
 |none=>aj
abbrev rOf{q:Type}(f:LS->Option q)(ρ:LS):Bool:=(f ρ).isSome
def PE.orR{t:TE}(h:PE X e t)(h':PE X e t'):PE X e λσ H Q=>t σ H Q\/t' σ H Q:=λpins s σ H Q I q=>q.elim (h pins s σ H Q I) (h' pins s σ H Q I)
def PA.orR{t':TA}(h:PA X es t)(h':PA X es t'):PA X es λσ H Q=>t σ H Q\/t' σ H Q:=λpos pins s σ H Q I q=>q.elim (h pos pins s σ H Q I) (h' pos pins s σ H Q I)
def PS.orR{t t':TS}(h:PS X st t)(h':PS X st t'):PS X st λD σ H=>t D σ H\/t' D σ H:=λpins s σ H D I q=>q.elim (h pins s σ H D I) (h' pins s σ H D I)
def pH:RX c X C E e rNo:=λ_ _ _ _ _ _ q=>(tJ q).elim
def ff:RA c X C E es rNo:=λ_ _ _ _ _ _ _ q=>(tJ q).elim
def hJ:RS c X C E st rNo:=λ_ _ _ _ _ _ q=>(tJ q).elim
def lq{aB:List Stmt}:RSs c X C E aB rNo:=λ_ _ _ _ _ _ q=>(tJ q).elim
variable{r1 r2:LS->Bool}
def pI{f:Xe}(hf:DX c X e f)(U:RX c X C E e r1)(h2:RA c X C E es r2)(hs:StE X e es:=by rfl):RA c X C E (e::es) (j8 r1 f r2):=PA.imp (bJ (PE.orR hf U) h2 hs) λσ H Q q=>by
 obtain⟨Hf0,H0,Hf,ρ,T,z,k⟩:=q
 rcases oE.mp z with z |z
 .exact .inr ⟨Hf0,H0,Hf,ρ,T,z,k⟩
 .cases I:f ρ with
  |none=>rw[I]at z;nomatch z
  |some p=>
   rw[I]at z;exact .inl ⟨Hf0,H0,Hf,ρ,p.1,p.2,T,I,λv Hf' H' s L rr=>⟨Hf0,H0,Hf',p.2,L,z,k⟩⟩
variable{r:LS->Bool}
def IJ{pos:Pos}(h:RA c X C E es r):RX c X C E (.Tuple es k' pos) r:=PE.imp (rS h) λσ H Q q=>q
def BJ{pos:Pos}(h:RA c X C E es r):RX c X C E (.List es pos) r:=PE.imp (rV h) λσ H Q q=>q
def BK{pos:Pos}(h:RX c X C E e r):RS c X C E (.Return (aa e) pos) r:=PS.imp (m9 h) λD σ H q=>q
def ju{pos:Pos}(h:RX c X C E e r)(z:eX e ae pos.line X.env=pure aj:=by rfl):RS c X C E (.Expr e pos) r:=PS.imp (cM h z) λD σ H q=>q
def pJ{pos:Pos}(i:Nat)(z:X.N.Nodup)(h:RX c X C E e r)(hi:X.N[i]?=aa x:=by rfl)(T:Loc X.env.scope x:=by first |exact bV rfl |exact bE rfl)(L:eX e (aa (.Name x b5)) pos.line X.env=pure aj:=by rfl)(I:LcF X x:=by first |exact .inl rfl |exact .inr rfl):
  RS c X C E (.Assign [.Name x b5] e pos) r:=PS.imp (k4 z hi T h L I) λD σ H q=>q
variable{ra rb:LS->Bool}
def j9{bs:List Stmt}{pos:Pos}{t:Xt}(hc:DTX c X cd t)(U:RSs c X C E as ra)(hb:RSs c X C E bs rb):RS c X C E (.If cd as bs pos) (rIf t ra rb):=PS.imp (vL hc U hb) λD σ H q=>by
 obtain⟨Hf0,H0,Hf,ρ,so,z,k⟩:=q;unfold rIf at z
 cases L:t ρ with
 |none=>rw[L]at z;nomatch z
 |some p=>
  obtain⟨T,ρ'⟩:=p;rw[L]at z;refine⟨Hf0,H0,Hf,ρ,T,ρ',so,L,λHf' H' s I=>?_⟩
  cases T with
  |true=>rw[if_pos rfl];exact⟨Hf0,H0,Hf',ρ',I,z,k⟩
  |false=>rw[if_neg (by decide)];exact⟨Hf0,H0,Hf',ρ',I,z,k⟩
def fg{aB:List Stmt}(hF:DS c X st F)(U:RS c X C E st r1)(h2:RSs c X C E aB r2):RSs c X C E (st::aB) (dg r1 F r2):=PSs.imp (vK (PS.orR hF U) h2) λD σ H q=>by
 obtain⟨Hf0,H0,Hf,ρ,L,z,k⟩:=q
 rcases oE.mp z with z |z
 .exact .inr ⟨Hf0,H0,Hf,ρ,L,z,k⟩
 .split at z
  .rename_i ρ' T;exact .inl ⟨Hf0,H0,Hf,ρ,.nx ρ',L,T,λσ' Hf' H' s I=>⟨Hf0,H0,Hf',ρ',I,z,k⟩⟩
  .nomatch z
def pK{pos:Pos}{fa:MF2}(hC:dU X.K C=af)(hc:X.calm=af)(hw:w6 X C λH=>E (.ref C) ae H)(hg:Gl X x)(hm:X.mg x=aa (.ref C))(U:DA c X (e::es) fa)(hz:(e::es).length<=1000:=by exact lL rfl)
 (he:StE X e es:=by rfl)(T:(eE cpos (a8 es X.env)).any (·.1)=aj:=by rfl)(L:NDb x:=by decide):
  RS c X C E (.Raise (aa (.Call (.Name x np) (e::es) [] cpos)) ae pos) (rOf fa):=PS.imp (II hC hc hw hg hm U.pa he T L) λD σ H q=>by
 obtain⟨Hf0,H0,Hf,ρ,so,I,k⟩:=q;unfold rOf at I
 cases z:fa ρ with
 |none=>rw[z]at I;nomatch I
 |some ds=>
  refine⟨Hf0,H0,Hf,ρ,ds,so,z,λvs Hf' H' x rr=>⟨?_,k Hf' H' (so.ext.trans x)⟩⟩;rw[<- rr.length,U.len ρ ds z];exact kR (pb hz)
abbrev spR(G:Gc)(n:Nat)(C:Addr)(r:LD->Bool):Sp:=λvs H _ E=>∃Hf ds,aN Hf H/\aC G Hf ds vs/\ds.length=n/\r ds=af/\∀Hf' H',Ext Hf H Hf' H'->E (.ref C) ae H'
variable{f:Addr}{sp:Sp}
def Fun.okX(F:Fun K x qual st f fd)(S:bG N ps (bq st))(len:∀vs H Q E,sp vs H Q E->vs.length=ps.length)
 (q:∀ (cdv:Value) (A:cZ) (outer:List Env) (s:aE) (H:Hp) (vs:List V) (Q:VK) (E:XK),cN k (A.deeper (gt qual (bq st) s.heap.objs.size f cdv))->sp vs H Q E ->
   ∃t,PSs (gD (CX1 P w) P w K mg base N qual (bq st) f cdv A outer s H E) (jc st) t/\t {nx:=λ_ H'=>Q .non H',rt:=Q} (start N vs) H):eM P w K mg base (CX1 P w) (k+1) f fd ps sp:=by
 obtain⟨oc,od,kV,doc,pm,an,cdv,ct,osl,rfl,T,z⟩:=F.ex;exact Aj T z S len λA outer s H vs Q E L I=>q cdv A outer s H vs Q E L I
def gk(U:Fun K x qual st f fd)(S:bG N ps (bq st))
 (h:∀(cdv:Value) (A:cZ) (outer:List Env) (s:aE) (H:Hp) (E:XK),cN k (A.deeper (gt qual (bq st) s.heap.objs.size f cdv))->RSs c (gD (CX1 P w) P w K mg base N qual (bq st) f cdv A outer s H E) C E (jc st) r)(q:N.length=n_:=by rfl):
  eM P w K mg base (CX1 P w) (k+1) f fd ps (spR ⟨K,c⟩ ps.length C λds=>r (dL n_ ds)):=by
 subst q;refine Fun.okX U S (λvs H Q E z=>by obtain⟨Hf,ds,T,I,L,_⟩:=z;rw[<- I.length];exact L) λcdv A outer s H vs Q E hr z=>?_;obtain⟨Hf,ds,T,I,L,e,kq⟩:=z;exact⟨_,h cdv A outer s H E hr,⟨Hf,H,Hf,_,aM.start T I,e,kq⟩⟩
def Ext.out(a:Ext Hf0 H0 Hf H)(I:H0 l=ae)(b:Ext Hf (dS H l) Hf' H'):Ext Hf0 H0 Hf' H':=by
 have q:∀x o,H0 x=aa o->dS H l x=aa o:=λx o e=>by
  have L:x≠l:=λz=>by subst z;rw[I]at e;nomatch e
  unfold dS;rw[if_neg L];exact a.h x o e
 exact⟨a.f.trans b.f,λx o e=>b.h x o (q x o e),b.s,λx o e t=>(b.n x o (q x o e) t).trans (a.n x o e t)⟩
abbrev c8(ra:LS->Bool)(r:LD->Bool)(fa:Xa)(ρ:LS):Bool:=ra ρ || match fa ρ with
 |some p=>r p.1
 |none=>aj
def fh{pos:Pos}{r:LD->Bool}(pk:Pk X.prog X.w X.K X.mg X.base (CX1 X.prog X.w) k x (f,fd) ps (spR (Gx c X) ps.length C r))(hp:il (CX1 X.prog X.w) X E)(hr0:cN k0 X.A)(ha:DAX c X (e::es) fa)(hra:RA c X C E (e::es) ra)(hl:(e::es).length=ps.length:=by rfl)(T:NDb x:=by decide)(he:StE X e es:=by rfl)(hpl:BkE X pos es:=by rfl)(U:k<=k0:=by decide)(hg:Gl X x:=by first |rfl |exact glc rfl):
  RX c X C E (.Call (.Name x p) (e::es) [] pos) (c8 ra r fa):=PE.imp (nc pk.ok (hr0.mono U) hg pk.g pk.kp pk.b .nil hp (PA.orR ha.pa hra) T he hpl) λσ H Q q_=>by
 obtain⟨Hf0,H0,Hf,ρ,so,z,kq⟩:=q_
 rcases oE.mp z with z |z
 .exact .inr ⟨Hf0,H0,Hf,ρ,so,z,kq⟩
 .cases L:fa ρ with
  |none=>rw[L]at z;nomatch z
  |some q=>
   obtain⟨ds,ρ1⟩:=q;rw[L]at z;refine .inl ⟨Hf0,H0,Hf,ρ,ds,ρ1,so,L,λvs Hf' H' f1 I rr=>?_⟩;rw[dh];exact⟨Hf',ds,I.sub,rr,(ha.len ρ ds _ L).trans hl,z,λcc H2 x2=>kq cc H2 (I.ext.trans x2)⟩
def BL{pos:Pos}(pk:Pk X.prog X.w X.K X.mg X.base CX0 k x (f,fd) ps sp)(L:cN k0 X.A)(T:RA c X C E (e::es) ra)(q:NDb x:=by decide)(U:StE X e es:=by rfl)(I:BkE X pos es:=by rfl)(z:k<=k0:=by decide)(hg:Gl X x:=by first |rfl |exact glc rfl):
  RX c X C E (.Call (.Name x p) (e::es) [] pos) ra:=PE.imp (nc pk.ok (L.mono z) hg pk.g pk.kp pk.b .nil o9 T q U I) λσ H Q q_=>q_
variable{Ar:cZ}{g:Array GenState}{d:Drawn}{tk:Nat}{os:OsState}{nm qn nm2 qn2:Str}{N C2 N2:Addr}{bm bs2 bm2 sub sub2:LVa}{hd hd2 ab ab2:Bool}{sn sn2:LSt}{col col2:Option Bool}{dd dd2:Option Addr}{k0 k1 k2 k3 k5 j0 j1 j2 j3 j5:Option Value}{oe:Obj}{Q:Bool->aE->Prop}
def IK{bs:LVa}(U:h.get? C=aa (excClassObj nm qn C N bs bm hd sn sub ab col dd k0 k1 k2 k3 k5 nid))(q:h.get? C2=aa (excClassObj nm2 qn2 C2 N2 bs2 bm2 hd2 sn2 sub2 ab2 col2 dd2 j0 j1 j2 j3 j5 nid))(he:h.get? a=aa oe)(z:oe.cls=.ref C)
 (T:bm2.contains (.type "BaseException")=af)(I:(fJ C::bm).contains (.ref C2)=af)(hq:Q af ⟨h,g,d,tk,os⟩):wpAny M Ar (excMatches (.ref a) (.ref C2)) Q Ex ⟨h,g,d,tk,os⟩:=by
 have L:(fJ C2::bm2).contains (.type "BaseException")=af:=by rw[contains_cons,T,Bool.or_true]
 have nt:=tc_notTuple
 repeat (first |(with_reducible refine wpAny_loadPart_at he ?_;rw[z]) |(with_reducible refine wpAny_isSubtype_exc q ?_;rw[L]) |(with_reducible refine wpAny_isSubtype_exc U ?_;rw[I]) |(with_reducible refine wpAny_loadPart_at q ?_) |wp_step)
 exact hq
def w9{G:LAd}(J:Inv X pins σ H s)(hex:X.ex=[])(hun:∀b∈G,H b=ae)(T:∀b∈G,∀o,X.s₀.heap.get? b=aa o->b∈X.fs)(hI:∀p∈X.pn++pins,p.1∉G)
 (hk:(ij s.heap G).StaysIn h')(hup:s.heap.UpToSlots h'):Inv X pins σ H {s with heap:=h'}:=by
 have stay:=λb o e n=>hk b o (lU _ e n)
 have frame:=λb o e L=>by
  refine hup b o e λvs hv=>?_;obtain⟨_,o',ho',hd⟩:=J.funs.mem L;rw[e]at ho';cases ho';exact hd vs hv
 have I:∀c v,s.heap.IsCell c v->h'.IsCell c v:=λc v q_=>by
  obtain⟨o,ho,hd⟩:=q_;obtain⟨sl,e⟩:=hup c o ho λvs q=>by rw[hd]at q;nomatch q
  exact⟨_,e,hd⟩
 have L:=J.base;have ne:∀b:Addr,b∉X.ex:=λb h=>by rw[hex]at h;nomatch h
 refine⟨J.ok,J.os,J.bare,⟨λb o e n hf _=>(stay b o (L.keep b o e n hf (ne b)) λU=>hf (T b U o e)),λb o e n hf _=>?_,L.free,λb o e _=>?_,L.tups,L.frzs,L.tbls⟩,?_,λx c e=>?_,J.free,J.freeC,λp hp=>?_,λb o e=>?_,J.len⟩
 .obtain⟨sl,h1⟩:=L.slot b o e n hf (ne b);obtain⟨sl2,h2⟩:=frame b _ h1 hf;exact⟨sl2,h2⟩
 .obtain⟨o',h1⟩:=L.there b o e (ne b)
  by_cases U:b∈G
  .obtain⟨sl,h2⟩:=frame b o' h1 (T b U o e);exact⟨_,h2⟩
  .exact⟨o',stay b o' h1 U⟩
 .obtain⟨m,hn,hl⟩:=J.loc;refine⟨m,hup.ns hn,λi x v e1 e2 e3=>?_⟩;obtain⟨u,r,l⟩:=hl i x v e1 e2 e3;refine⟨u,r,?_⟩
  rcases l with l |⟨k,c,e,z⟩
  .exact .inl l
  .exact .inr ⟨k,c,e,I c _ z⟩
 .obtain⟨v,z⟩:=J.cell x c e;exact⟨v,I c v z⟩
 .obtain⟨e,n,ne',nf,d⟩:=J.pin p hp;exact⟨stay p.1 p.2 e (hI p hp),n,ne',nf,d⟩
 .refine(J.hok b o e).stay (λc u hc hu=>stay c u hu λU=>?_) (λ_ q=>q) λ_ _ q=>q
  rcases hc with rfl |hc
  .rw[hun _ U]at e;nomatch e
  .rw[hun _ U]at hc;nomatch hc
variable{n:Str}
def IL{v:Option Value}{m:MGT}(I:Inv X pins σ H s)(hN:X.N.Nodup)(hi:X.N[i]?=aa n)(hm:s.heap.Ns X.env.locals m)(hl:∀(j:Nat) (x:Str) (v:V),X.N[j]?=aa x->σ[j]?=aa (aa v)->Vis X.env.scope x->∃u,be v u/\zO X.env s.heap m x u)
 (hn:h'.Ns X.env.locals λx=>if x=n then v else m x)(hs:gU X.env.locals s.heap h'):Inv X pins (σ.set i ae) H {s with heap:=h',toks:=tk}:=by
 have keep:∀b o,b≠X.env.locals->s.heap.get? b=aa o->h'.get? b=aa o:=λb o T e=>(hs.2 b T).trans e;have neL:∀b o,X.s₀.heap.get? b=aa o->b≠X.env.locals:=λb o e=>cr (fo (bI e) I.ok.above);have nT:∀b u,H b=aa u->b≠X.env.locals:=λb u e z=>by rw[z,I.free]at e;nomatch e
 have L:∀x c,X.env.cells.lookup x=aa c->∀v,s.heap.IsCell c v->h'.IsCell c v:=λx c e v ⟨o,ho,hd⟩=>⟨o,keep c o (I.cne x c e) ho,hd⟩;have T:=I.base;refine⟨I.ok,I.os,I.bare,⟨λb o e q hf U=>keep b o (neL b o e) (T.keep b o e q hf U),λb o e q hf U=>?_,T.free,λb o e U=>?_,T.tups,T.frzs,T.tbls⟩,⟨_,hn,λj x w e1 e2 e3=>?_⟩,λx c e=>?_,I.free,I.freeC,λp hp=>?_,λb o e=>?_,by rw[length_set];exact I.len⟩
 .obtain⟨sl,h1⟩:=T.slot b o e q hf U;exact⟨sl,keep b _ (neL b o e) h1⟩
 .obtain⟨o',h1⟩:=T.there b o e U;exact⟨o',keep b o' (neL b o e) h1⟩
 .have hj:j≠i:=λz=>by
   subst z
   by_cases hs':j<σ.length
   .rw[gP hs']at e2;nomatch e2
   .rw[List.getElem?_eq_none (by rw[length_set];lia)]at e2;nomatch e2
  rw[gQ (cq hj)]at e2;obtain⟨u,r,l⟩:=hl j x w e1 e2 e3;refine⟨u,r,?_⟩
  rcases l with⟨k,l⟩ |⟨k,c,e,z⟩
  .have U:x≠n:=λz=>by
    subst z;obtain⟨hj1,ej⟩:=dX.mp e1;obtain⟨hi1,ei⟩:=dX.mp hi;exact hj ((vb hN).mp (ej.trans ei.symm))
   exact .inl ⟨k,by show(if x=n then v else m x)=_;rw[if_neg U];exact l⟩
  .exact .inr ⟨k,c,e,L x c e _ z⟩
 .obtain⟨v,z⟩:=I.cell x c e;exact⟨v,L x c e v z⟩
 .obtain⟨e,q,ne',nf,d⟩:=I.pin p hp;exact⟨keep p.1 p.2 ne' e,q,ne',nf,d⟩
 .refine(I.hok b o e).stay (λc u hc hu=>keep c u ?_ hu) (λ_ q=>q) λ_ _ q=>q
  rcases hc with rfl |hc
  .exact nT _ o e
  .exact nT c _ hc
variable{Q:Unit->aE->Prop}
def IM{pos:Pos}(I:Inv X pins σ H s)(hN:X.N.Nodup)(hi:X.N[i]?=aa n)(hl:X.env.kindOf n=aa .local)(hx:Loc X.env.scope n)(hf:X.fn n=af\/X.env.scope.names.lookup n=aa .local)(h:∀s',Inv X pins (σ.set i ae) H s'->Q () s'):
  wpAny M Ar (do bindName X.env n .none;unbindBehindTheSuite X.env n pos) Q Ex s:=by
 have q:(X.env.scope.kind==.class || (X.env.scope.kind==.module && X.env.locals != X.env.globals))=aj:=by rw[I.ok.kind];rfl
 refine ao (wpAny_bindName (rH I hN hi hx (v:=.non) rfl (λs1 U=>?_) hf));obtain⟨m,hm,z⟩:=id U.loc;have L:i<σ.length:=by rw[I.len];exact(dX.mp hi).1
 have T:(m n).isSome=af:=by
  obtain⟨u,_,l⟩:=z i n .non hi (gP L) (by rcases hx with k |k;exact .inl k;exact .inr (.inl k))
  rcases l with⟨_,e⟩ |⟨k,_⟩
  .rw[e];rfl
  .rw[hl]at k
   rcases k with k |k <;> nomatch k
 refine wpAny_onRaise ?_;refine ao (wpAny_point (ao ?_));unfold deleteName;simp only[hl,q];refine ao (wpAny_nsDel_keeps hm λh' v hn hs=>?_);rw[T];refine bh (wpAny_point (h _ ?_));have:=IL (tk:=s1.toks) U hN hi hm z hn hs;rw[set_set]at this;exact this
abbrev ka(a:Addr)(C:Addr):HO:=.ext λh=>∃o,h.get? a=aa o/\o.cls=.ref C
abbrev pL(K:bA)(C:Addr)(v:Value):Bool:=match K.lookup C with
 | some o=>(match o.data with
  |.cls cd=>cd.mro.contains v
  | _=>aj)
 |none=>aj
@[reducible]noncomputable def Cx.hand(X:Cx)(a:Addr):Cx:={X with A:=X.A.mark (aa (.ref a)),calm:=aj,xe:=λ_ _=>False}
def BM(a:Addr)(I:Inv X pins σ H s):Inv (X.hand a) pins σ H s:=
 ⟨⟨I.ok.mod,I.ok.kind,I.ok.glob,I.ok.blt,I.ok.above,I.ok.inj,I.ok.has,I.ok.cab,(λz=>by nomatch z),I.ok.frames,I.ok.stk,I.ok.exf,I.ok.bs,I.ok.bsz,I.ok.noex,I.ok.exfs,I.ok.funs,I.ok.frf⟩,I.os,I.bare,I.base,I.loc,I.cell,I.free,I.freeC,I.pin,I.hok,I.len⟩
def IN(ok:X.Ok)(I:Inv (X.hand a) pins σ H s):Inv X pins σ H s:=⟨ok,I.os,I.bare,I.base,I.loc,I.cell,I.free,I.freeC,I.pin,I.hok,I.len⟩
def IP(I:Inv X pins σ H s)(hH:H a=ae)(ho:∃o,s.heap.get? a=aa o/\o.cls=.ref C)(h0:∀o,X.s₀.heap.get? a≠aa o)(hL:a≠X.env.locals)(hc:∀x c,X.env.cells.lookup x=aa c->c≠a)(hp:∀p∈X.pn++pins,p.1≠a):Inv X pins σ (upd H a (ka a C)) s:=by
 have ne:∀b u,H b=aa u->b≠a:=λb u e z=>by rw[z,hH]at e;nomatch e
 have up:∀b u,H b=aa u->upd H a (ka a C) b=aa u:=λb u e=>by rw[bW (ne b u e)];exact e
 have no:∀b,b≠a->H b=ae->upd H a (ka a C) b=ae:=λb L e=>by rw[bW L];exact e
 have L:=I.base;refine⟨I.ok,I.os,I.bare,⟨L.keep,L.slot,λb o e q hx=>no b (λz=>h0 o (by rw[<- z];exact e)) (L.free b o e q hx),L.there,λb xs e=>up b _ (L.tups b xs e),λb o u e=>up b _ (L.frzs b o u e),λb ps e=>?_⟩,I.loc,I.cell,no _ (cq hL) I.free,λx c e=>no c (hc x c e) (I.freeC x c e),λp T=>?_,λb o e=>?_,I.len⟩
 .obtain⟨more,U⟩:=L.tbls b ps e;exact⟨more,up b _ U⟩
 .obtain⟨e,q,r⟩:=I.pin p T;exact⟨e,no _ (hp p T) q,r⟩
 .by_cases z:b=a
  .subst z;rw[bN]at e;cases e;obtain⟨ob,U,h2⟩:=ho;exact⟨⟨ob,U,h2⟩,⟨ob,U⟩,λh1' h2' ⟨o',g1,g2⟩ k=>⟨o',k o' g1,g2⟩⟩
  .rw[bW z]at e;exact(I.hok b o e).stay (λ_ u _ hu=>hu) (λc q=>up c _ q) λc xs q=>up c _ q
variable{e:Value}{x2:Str}{hpos:Pos}{b₀:Stmt}{suite:List Stmt}
def IQ{E0:XK}{D:jO}{iH:Hp->Prop}(I:Inv X pins σ H s)(hex:X.ex=[])(hs:X.stack=X.env::X.outer)(hf:X.env.frame=aa X.env.locals)(h:CX1 X.prog X.w X.stack H s E0 e s')(hE:∀cls dx H',E0 cls dx H'->cls=.ref C/\iH H')
 (hC:dU X.K C=af)(hC2:dU X.K C2=af)(hm:pL X.K C (.ref C2)=af)(hg:Gl X x2)(hm2:X.mg x2=aa (.ref C2))(hN:X.N.Nodup)(hi:X.N[i]?=aa n)(hl:X.env.kindOf n=aa .local)(hx:Loc X.env.scope n)(hfn:X.fn n=af\/X.env.scope.names.lookup n=aa .local)(hno:∀x,X.env.cells.lookup x=ae)
 {t:TS}(hps:∀a,PSs (X.hand a) (b₀::suite) t)(k:∀a H',iH H'->H' a=ae->t {nx:=λσ' H''=>D.nx (σ'.set i ae) H'',rt:=λ_ _=>False} (σ.set i (aa (.ref a))) (upd H' a (ka a C)))
 (hdb:(x2==("__debug__":Str))=aj:=by decide):
  wpAny (model X.prog X.w) X.A (noteFrame e X.env) (λ_ a7=>wpAny (model X.prog X.w) X.A (setFlight e ae) (λ_ s₃=>wpAny (model X.prog X.w) X.A (handleBy e X.env [.ExceptHandler (aa (.Name x2 np)) (aa n) (b₀::suite) hpos]) (SP X pins D) X.xe s₃) X.xe a7) X.xe s':=by
 obtain⟨a,cls,a0,H',B,rfl,fl,os,bare,un,hok,kB,kS,hE'⟩:=h;obtain⟨rfl,hgood⟩:=hE _ _ _ hE';have J:=I.call' os un hok bare λb z=>by nomatch z
 obtain⟨f1,f2,f3,oe,vs,T,oT,ts,t1,t2,t3,t4,t5,t6,t7,t8,t9⟩:=fl;have fr:=J.ok.frames;rw[hs]at fr
 have inS:∀b o,X.s₀.heap.get? b=aa o->b∉X.fs->B.get? b≠ae:=λb o e n=>by
  obtain⟨o',h1⟩:=I.base.there b o e (by rw[hex];exact λz=>by nomatch z);exact kS b o' h1 λhm=>n (I.stkNew b hm o e)
 have two:∀b∈[a,T],B.get? b=ae:=λb L=>by
  rcases bM.1 L with rfl |L
  .exact f2
  .rw[bj.1 L];exact t5
 have hun:∀b∈frs X.stack++_,H' b=ae:=λb L=>by
  rcases b8.1 L with L |L
  .exact J.stkFree b L
  .cases q:H' b with
   |none=>rfl
   |some o=>exact absurd (two b L) (kB b (by rw[q];exact λz=>by nomatch z))
 have U:∀b∈frs X.stack++_,∀o,X.s₀.heap.get? b=aa o->b∈X.fs:=λb L o e=>by
  rcases b8.1 L with L |L
  .exact J.stkNew b L o e
  .by_cases n:b∈X.fs
   .exact n
   .exact absurd (two b L) (inS b o e n)
 have hI:∀p∈X.pn++pins,p.1∉frs X.stack++_:=λp hp L=>by
  obtain⟨e,q,ne',nf,_⟩:=I.pin p hp;have nst:=λz=>(bM.mp (I.stkSub _ z)).elim ne' nf
  rcases b8.1 L with L |L
  .exact nst L
  .exact absurd (two _ L) (kS _ _ e nst)
 have afr:a∉frs X.stack:=λz=>by
  obtain⟨_,o,ho,hd⟩:=J.stack.mem z;rw[t1]at ho;cases ho;exact hd vs t3
 have hfl:oX (ij s'.heap (frs X.stack++[a,T])) (X.env::X.outer) a _ a0 s'.heap:=
  ⟨λb o q=>lV _ q,gC _ (by simp),by rw[<- hs];exact nQ f3 λb L=>jH _ L,oe,vs,T,oT,ts,t1,t2,t3,t4,gC _ (by simp),t6,t7,t8,t9⟩
 refine wpAny_looks_onW fr hf hfl λh4 held4 up4=>?_;refine wpAny_landsW held4 λh5 fl5 up5=>?_;have J5:=w9 J hex hun U hI fl5.1 (up4.trans up5);obtain⟨bm,N,nm,qn,bs,hd,sn,sub,ab,col,dd,k0,k1,k2,k3,k5,mN,c1,_,_,Tl⟩:=w5 J5.kIn hC;obtain⟨bm2,N2,nm2,qn2,bs2,hd2,sn2,sub2,ab2,col2,dd2,j0,j1,j2,j3,j5,mN2,d1,_,_,Tl2⟩:=w5 J5.kIn hC2
 have ez:(fJ C::bm).contains (.ref C2)=af:=by
  unfold pL at hm;split at hm
  .rename_i o ho;have:=J5.kIn _ _ ho;rw[c1]at this;cases this;exact hm
  .nomatch hm
 obtain⟨ob,hob,hobc⟩:=fl5.there;refine wpAny_handleBy_cons (codeAny_handlers_test (rJ (BM a J5) hg hm2 ?_ hdb)) (by intro q;nomatch q);refine IK c1 d1 hob hobc (Tl2.hasType vF.hasBase) ez ?_;refine codeAny_handlers_suite_as (lands_againW fl5 λh6 fl6 up6=>?_);have J6:=w9 J hex hun U hI fl6.1 ((up4.trans up5).trans up6);obtain⟨ob6,hob6,hobc6⟩:=fl6.there;have aL:a≠X.env.locals:=λz=>afr (by rw[hs];unfold frs;rw[jI,hf,z];exact bR)
 have J7:=IP J6 (hun a (by simp)) ⟨ob6,hob6,hobc6⟩ (λo e=>by
  have:=U a (by simp) o e;exact afr (by rw[hs];unfold frs;rw[jI,hf];exact cE _ this)) aL (λx c e=>by rw[hno x]at e;nomatch e) λp hp z=>hI p hp (by rw[z];simp)
 refine rH J7 hN hi hx (v:=.ref a) rfl (λs8 J8=>?_) hfn;refine dF (hps a pins s8 _ _ _ (BM a J8) (k a H' hgood (hun a (by simp)))) (λfl9 s9 q9=>?_) λ_ _ z=>z.elim
 cases fl9 with
 |next=>
  obtain⟨σ9,H9,J9,n9⟩:=q9
  exact IM (IN J6.ok J9) hN hi hl hx hfn λs10 J10=>⟨_,_,J10,n9⟩
 |ret u=>obtain⟨_,_,_,_,_,z⟩:=q9;exact z.elim
 |brk=>obtain⟨_,_,_,z⟩:=q9;exact z.elim
 |cont=>obtain⟨_,_,_,z⟩:=q9;exact z.elim
end L2
namespace L2
open List
open PySem PySem.Spec PyProof.Rows PySem.Builtin.ObjectAttr
structure jv(K:bA)(C:Addr):Prop where
 ga:i6 K (.ref C) "__getattribute__"=aa (aa (.builtin "BaseException.__getattribute__"))
 hook:i6 K (.ref C) "__getattr__"=aa ae
 bex:gc K C (.type "BaseException")=aa af
 cls:(W.clsIn K C).isSome=af
 has:i6 K (.ref C) "__class__"=aa (aa (.builtin "object.__class__"))
 spec:W.specialIn K (.builtin "object.__class__") "__get__"=aa (aa (.builtin "getset_descriptor.__get__"))
 takes:W.takesIn K (.builtin "object.__class__")=aa af
 mro:gc K C (.type "object")=aa af
abbrev AtC(a C:Addr)(h:Heap):Prop:=∃o,h.get? a=aa o/\o.cls=.ref C
variable{C a:Addr}{M:Model}{h:Heap}
def pM(p:AtC a C h):W.Looks M h (typeOf (.ref a)) (.ref C):=by
 obtain⟨o,b,c⟩:=p;exact c▸(W.Looks.ld b).andThen .now
variable{K:bA}{name:Str}{v g:Value}
def IR{x:Addr}(b:K.In h)(c:i6 K (.ref C) name=aa (aa v))(d:W.specialIn K v "__get__"=aa (aa g))(e:W.takesIn K v=aa af):W.Looks M h (find (.ref x) (.ref C) name) (.bind g v):=by
 exact(W.looks_findIn b c).andThen ((W.looks_specialIn b d).andThen ((show W.Looks M h _ (aa _)from(W.looks_takesIn b e).andThen .now).andThen (W.Looks.tag .now)))
variable{prog:cS}{w:World}{Ar:cZ}{Ex:PRS}{s:aE}
def IS{nm:Value}{Q:Unit->aE->Prop}(c:K.In s.heap)(p:AtC a C s.heap)(d:gc K C (.type "BaseException")=aa af)(h:Q () s):
  wpAny (model prog w) Ar (checkBuiltinCall "BaseException.__getattribute__" ⟨[.ref a,nm],[]⟩) Q Ex s:=by
 cases s with
 |mk i f dd tt j=>
  have t0:=pM (M:=model prog w) p;have l:=W.looks_mroIn (M:=model prog w) c d;have e:builtinKind "BaseException.__getattribute__"=aa .slot:=by decide +kernel
  have b:splitId "BaseException.__getattribute__"=aa ("BaseException","__getattribute__"):=by decide +kernel
  simp only[checkBuiltinCall,e,b]
  .unfold isInstance
   repeat lk
   repeat (first |exact h |wp_step)
def IT{tk:Tok}{P:PRS}(d:K.In s.heap)(p:AtC a C s.heap)(c:W.Looks (model prog w) s.heap (find (.ref a) (.ref C) name) (.bind g v))
 (h:wpAny (model prog w) Ar (call g [v,.ref a,.ref C]) P Ex s):
  wpAny (model prog w) Ar (df.«object.__getattribute__» ⟨[.ref a,.str name tk],[]⟩) (λb s'=>match b with |.done (.ret v)=>P v s' | _=>False) Ex s:=by
 cases s with
 |mk f e dd tt i=>
  exact ao (bh (ao (bh (ao ((pM p).at (ao (c.at (ao (dP (dF h (λu s' z=>bh z) λ_ _ z=>z))))))))))
variable{Q:Option Value->aE->Prop}
def IU(T:jv K C)(e:K.In s.heap)(p:AtC a C s.heap)
 (h:∀d,wpAny (model prog w) d (df.«object.__getattribute__» ⟨[.ref a,.str name s.toks],[]⟩) (λb s'=>match b with |.done (.ret v)=>wpAny (model prog w) Ar (handedOut v) (λv c=>Q (aa v) c) (λ_ _=>False) s' | _=>False) (λ_ _=>False) {s with toks:=s.toks+1}):
  wpAny (model prog w) Ar (getAttr? (.ref a) name) Q Ex s:=by
 cases s with
 |mk j i dd tt l=>
  refine ao (wpAny_mkText (ao (rh (dP (ao ((pM p).at (ao ((W.looks_findIn e T.ga).at ?_))))))));refine ao ?_;refine(W.looks_findIn e T.hook).at ?_;refine ao (rh (dP ?_));refine ao (bh (wpAny_call (vn F.excAttr_ValueError.ga.plain F.entry_bexc_ga (IS e p T.bex ?_))));refine dF (h _) (λb s' z=>?_) λ_ _ z=>z.elim
  rcases b with(_ | _ | _ | _) | _ <;> first |exact dF z (λv c f=>bh f) (λ_ _ z=>z.elim) |exact z.elim
variable{R:Result->aE->Prop}
def IV{d:Value}(b:K.In s.heap)(p:AtC a C s.heap)(c:gc K C (.type "object")=aa af)
 (h:R (.ok (.ret (.ref C))) s):fU (model prog w) Ar (.call (.builtin "getset_descriptor.__get__") ⟨[.builtin "object.__class__",.ref a,d],[]⟩) R s:=by
 have e:=pM (M:=model prog w) p;have f:=W.looks_mroIn (M:=model prog w) b c;refine vn W.KF.slot_gs.plain W.KF.entry_gs (W.KF.slot_gs.check _ _ _ _ _ _ _ _ W.KF.type_class (W.KF.args_gs _ _ _) ?_);refine ao (bh ?_);unfold df.Getset_descriptor.descrGetter df.Getset_descriptor.descrCheckInstance df.Getset_descriptor.descrNameAndClass isInstance;simp only[W.KF.owner_class]
 repeat lk
 refine⟨Code.quiet_builtin _ (by decide +kernel),kU W.KF.entry_class ?_⟩
 repeat lk
 exact h
def IW(T:jv K C)(b:K.In s.heap)(p:AtC a C s.heap)(h:Q (aa (.ref C)) {s with toks:=s.toks+1}):wpAny (model prog w) Ar (getAttr? (.ref a) "__class__") Q Ex s:=by
 have d:W.Looks (model prog w) s.heap (find (.ref a) _ "__class__") _:=IR b T.has T.spec T.takes;exact IU T b p λc=>IT b p d (wpAny_call (IV b p T.mro (W.handed_on rfl h)))
def xa(T:jv K C):W.KitX K (.ref a) (.ref C) (AtC a C) where
 ty:=λ_ _ _ p=>pM p
 it:=λ_ _ X _=>by
  have hcD:=T.cls;unfold W.clsIn at hcD;split at hcD
  .rename_i c' d' cd' sl' ho;intro A' Q' E' s' k q;exact ao (wpAny_loadPart (k _ _ (X _ _ ho)) (bh q))
  .nomatch hcD
 ne:=λh tp dd its n sl X htp=>by
  have hcD:=T.cls;refine Bool.eq_false_iff.mpr λq=>?_;have e:=fJ.inj (beq_iff_eq.mp q);subst e;unfold W.clsIn at hcD;split at hcD
  .rename_i c' d' cd' sl' ho;cases ((X _ _ ho).symm.trans htp)
  .nomatch hcD
 ca:=λX p k=>IW T X p k
open PySem.Spec PyProof.Rows
section
variable{X:Cx}
def xb{a:Addr}:(fJ a)≠.builtin "__main__.__loader__#opaque":=λz=>by cases z
def IY:d7 X (.builtin "isinstance") (λxs H Q=>∃a C T b,xs=[.ref a,.ref T]/\H a=aa (ka a C)/\jv X.K C/\fK X.K (.ref C) (.ref T)=aa b/\Q (.bl b) H):=by
 intro pins s σ H xs us Q I r h;obtain⟨a,C,T,b,rfl,d,c,e,q⟩:=h;obtain⟨u,j,rfl,i,f⟩:=na r;cases (i);cases (f);exact W.kia_one (xa c) I.kIn (I.hok _ _ d).1 e xb λtk=>⟨.bl b,H,I.tok tk,rfl,q⟩
def IZ:d7 X (.builtin "isinstance") (λxs H Q=>∃a C T b,xs=[.ref a,.ty T]/\H a=aa (ka a C)/\jv X.K C/\fK X.K (.ref C) (.type T)=aa b/\Q (.bl b) H):=by
 intro pins s σ H xs us Q I r h;obtain⟨a,C,T,b,rfl,d,c,e,q⟩:=h;obtain⟨u,j,rfl,i,f⟩:=na r;cases (i);cases (f);exact W.kia_one (xa c) I.kIn (I.hok _ _ d).1 e xb λtk=>⟨.bl b,H,I.tok tk,rfl,q⟩
def BN:∀{ds:LAd} {us:LVa},a9 (ds.map V.ref) us->us=ds.map fJ
 | [],_,.nil=>rfl
 | _::_,_,.cons r t=>by rw[BN t];cases (r);rfl
def I0:d7 X (.builtin "isinstance") (λxs H Q=>∃(a C d:Addr) (ds:LAd) (b:Bool),xs=[.ref a,.ref d]/\H a=aa (ka a C)/\H d=aa (.tup (ds.map V.ref))/\jv X.K C/\W.kitAny X.K (.ref C) (ds.map fJ)=aa b/\Q (.bl b) H):=by
 intro pins s σ H xs us Q I r h;obtain⟨a,C,d,ds,b,rfl,j,l,f,e,q⟩:=h;obtain⟨u,z,rfl,y,p⟩:=na r;cases (y);cases (p);obtain⟨_,its,x,o,c,i,n,hd⟩:=I.hok _ _ l;obtain rfl:=BN x;obtain⟨oc,od,m,os⟩:=o;cases (i);cases (hd);exact W.kia_tup (xa f) I.kIn (I.hok _ _ j).1 c e xb λtk=>⟨.bl b,H,I.tok tk,rfl,q⟩
inductive tH(i:Nat)(C:Addr)(b:Bool)(σ:St)(H:Hp)(Q:VK):Prop
 |mk:∀a,σ[i]?=aa (aa (.ref a))->H a=aa (ka a C)->(∀H',aN H H'->Q (.bl b) H')->tH i C b σ H Q
inductive tHs(i:Nat)(C:Addr)(bs:List Bool)(σ:St)(H:Hp)(Q:List V->Hp->Prop):Prop
 |mk:∀a,σ[i]?=aa (aa (.ref a))->H a=aa (ka a C)->(∀H',aN H H'->Q (bs.map V.bl) H')->tHs i C bs σ H Q
variable{e:Expr}{es:LEx}{i:Nat}{C A B Z:Addr}{b:Bool}{bs:List Bool}{n:Str}{p q q1 q2 q3 q4 pos:Pos}{x y z:Str}{T:String}
def BO:PA X [] (tHs i C []):=PA.imp ci λσ H Q h=>by
 obtain⟨a,_,_,k⟩:=h;exact k H (aN.refl _)
def lr(j:PE X e (tH i C b))(l:PA X es (tHs i C bs))(m:StE X e es:=by rfl):PA X (e::es) (tHs i C (b::bs)):=PA.imp (bJ j l m) λσ H Q h=>by
 obtain⟨a,c,d,k⟩:=h;exact⟨a,c,d,λo s1=>⟨a,c,s1 _ _ d,λf s2=>k f (s1.trans s2)⟩⟩
variable(T0:jv X.K C)(hg:Gl X "isinstance")(hm:X.mg "isinstance"=ae)(hv:PE X (.Name n q) (eL i))
include T0 hg hm hv
def tL(d:Gl X x)(f:X.mg x=aa (.ref A))(u:fK X.K (.ref C) (.ref A)=aa b)(c:NDb x:=by decide)
 (m:a8 [.Name n q,.Name x q1] X.env=(aj,eval (.Name n q) X.env)::a8 [.Name x q1] X.env:=by rfl)(l:a8 [.Name x q1] X.env=(aj,eval (.Name x q1) X.env)::a8 [] X.env:=by rfl)
 (j:(eE pos (a8 [.Name x q1] X.env)).any (·.1)=aj:=by rfl):PE X (.Call (.Name "isinstance" p) [.Name n q,.Name x q1] [] pos) (tH i C b):=
 PE.imp (ng IY hg hm boot_isinstance (bJ hv (bJ (oY (v:=.ref A) d f rfl c) ci l) m) (by decide) (by decide) m j) λσ H Q h=>by
  obtain⟨a,o,r,k⟩:=h;exact⟨.ref a,o,a,C,A,b,rfl,r,T0,u,k H (aN.refl _)⟩
def BP(f:Gl X x)(j:X.mg x=ae)(c:gu x=aa (.type T))(G:fK X.K (.ref C) (.type T)=aa b)(l:x ≠ "__name__":=by decide)(d:NDb x:=by decide)
 (r:a8 [.Name n q,.Name x q1] X.env=(aj,eval (.Name n q) X.env)::a8 [.Name x q1] X.env:=by rfl)(o:a8 [.Name x q1] X.env=(aj,eval (.Name x q1) X.env)::a8 [] X.env:=by rfl)
 (m:(eE pos (a8 [.Name x q1] X.env)).any (·.1)=aj:=by rfl):PE X (.Call (.Name "isinstance" p) [.Name n q,.Name x q1] [] pos) (tH i C b):=
 PE.imp (ng IZ hg hm boot_isinstance (bJ hv (bJ (ET (v:=.ty T) f j c rfl l d) ci o) r) (by decide) (by decide) r m) λσ H Q h=>by
  obtain⟨a,u,E,k⟩:=h;exact⟨.ref a,u,a,C,T,b,rfl,E,T0,G,k H (aN.refl _)⟩
end
variable{X:Cx}{pins:PNS}{xe:PRS}{σ:St}{H:Hp}
def pN{b:PNS}(I:Inv (X.to (X.pn++pins) xe) b σ H s):Inv X pins σ H s:=
 ⟨⟨I.ok.mod,I.ok.kind,I.ok.glob,I.ok.blt,I.ok.above,I.ok.inj,I.ok.has,I.ok.cab,I.ok.hd,I.ok.frames,I.ok.stk,I.ok.exf,I.ok.bs,I.ok.bsz,I.ok.noex,I.ok.exfs,I.ok.funs,I.ok.frf⟩,I.os,I.bare,I.base,I.loc,I.cell,I.free,I.freeC,λp c=>I.pin p (jH _ c),I.hok,I.len⟩
def BQ(I:Inv X pins σ H s):Inv (X.to (X.pn++pins) xe) [] σ H s:=
 ⟨⟨I.ok.mod,I.ok.kind,I.ok.glob,I.ok.blt,I.ok.above,I.ok.inj,I.ok.has,I.ok.cab,I.ok.hd,I.ok.frames,I.ok.stk,I.ok.exf,I.ok.bs,I.ok.bsz,I.ok.noex,I.ok.exfs,I.ok.funs,I.ok.frf⟩,I.os,I.bare,I.base,I.loc,I.cell,I.free,I.freeC,λp b=>I.pin p (by rw[dh]at b;exact b),I.hok,I.len⟩
abbrev Sl.bare:Sl->Sl
 |.im d=>.im d
 | _=>.no
variable{Hf:Hp}{ρ:LS}
def aM.bare{G:Gc}{Hf0 H0:Hp}(h:aM G Hf0 H0 Hf H σ ρ):aM G Hf H Hf H σ (ρ.map Sl.bare):=by
 refine h.re (Ext.refl h.sub) (by simp) (λi v s a b=>?_) λi s v a b c d=>?_
 .rw[fS]at b;obtain⟨e,f,rfl⟩:=jJ.mp b;have q:=h.at' i v e a f
  cases e <;> first |exact q |trivial
 .rw[fS]at b;obtain⟨e,f,rfl⟩:=jJ.mp b
  exact(d.calm (by cases e <;> rfl)).elim
abbrev jw(r:LS->Bool)(j:Nat)(bs:List Bool)(ρ:LS):Option Fl:=if r (ρ.map Sl.bare) then aa (.nx ((iW ρ.length Sl.no).set j (.im (.lst (bs.map D.bl))))) else ae
def BR{G:Gc}{H:Hp}:∀bs:List Bool,aC G H (bs.map D.bl) (bs.map V.bl)
 | []=>rfl
 |b::bs=>⟨.bl b,_,rfl,rfl,BR bs⟩
variable{c:Str->Addr}{C2:Addr}{es:LEx}{r:LS->Bool}{i j:Nat}{n y x2:Str}{np hpos yp lp ap:Pos}{st:Stmt}
def BS{bs:List Bool}{pos:Pos}(hr:∀(E:XK) pn xe,il (CX1 X.prog X.w) (X.to pn xe) E->RS c (X.to pn xe) C E st r)(hh:∀a,PA (X.hand a) es (tHs i C bs))(hex:X.ex=[])(hs:X.stack=X.env::X.outer)(hf:X.env.frame=aa X.env.locals)
 (hC:dU X.K C=af)(hC2:dU X.K C2=af)(hm:pL X.K C (.ref C2)=af)(hg:Gl X x2)(hm2:X.mg x2=aa (.ref C2))(hN:X.N.Nodup)(hi:X.N[i]?=aa n)(hj:X.N[j]?=aa y)(hl:X.env.kindOf n=aa .local)(hx:Loc X.env.scope n)(hfn:X.fn n=af\/X.env.scope.names.lookup n=aa .local)
 (hy:Loc X.env.scope y)(hfy:X.fn y=af\/X.env.scope.names.lookup y=aa .local)(hno:∀x,X.env.cells.lookup x=ae)(hij:i≠j)(hb:bs.length<=bn)
 (hsy:eX (.List es lp) (aa (.Name y yp)) ap.line X.env=pure aj:=by rfl)(hdb:(x2==("__debug__":Str))=aj:=by decide):
  DS c X (.Try [st] [.ExceptHandler (aa (.Name x2 np)) (aa n) [.Assign [.Name y yp] (.List es lp) ap] hpos] [] [] pos) (jw r j bs):=by
 intro pins s σ H D I h;obtain⟨Hf0,H0,Hf,ρ,o,B,Y,k⟩:=h;unfold jw at Y;split at Y
 case isFalse=>nomatch Y
 case isTrue er=>
 cases Y;refine wpAny_Try_except ?_
 let xe:Value->aE->Prop:=λp G=>wpAny (model X.prog X.w) X.A (noteFrame p X.env) (λ_ J=>wpAny (model X.prog X.w) X.A (setFlight p ae) (λ_ L=>wpAny (model X.prog X.w) X.A (handleBy p X.env [.ExceptHandler (aa (.Name x2 np)) (aa n) [.Assign [.Name y yp] (.List es lp) ap] hpos]) (SP X pins D) X.xe L) X.xe J) X.xe G
 let E0:XK:=λcls _ H'=>cls=.ref C/\∃Hf',Ext Hf H Hf' H'
 have hp:il (CX1 X.prog X.w) (X.to (X.pn++pins) xe) E0:=by
  intro eZ σ' H' s1 p s' e hx1;refine IQ (pN e) hex hs hf hx1 (λcls dx H'' z=>z) hC hC2 hm hg hm2 hN hi hl hx hfn hno (λa=>rK (k4 hN hj hy (rV (hh a)) hsy hfy)) (λa H'' b hn=>?_) hdb;obtain⟨Hf',ex⟩:=b;have hiL:i<σ'.length:=by rw[e.len];exact(dX.mp hi).1
  have d:j<σ'.length:=by rw[e.len];exact(dX.mp hj).1
  refine⟨a,by rw[gP hiL],bN,λH3 s3=>⟨by simpa using hb,λl hl3=>?_⟩⟩;have x0:=ex.trans (Ext.grow ex.s ((cv hn).trans s3));have xn:=Ext.new (o:=HO.lst (bs.map V.bl)) x0.s hl3;refine k _ _ _ (x0.f.trans xn.f) ⟨B.ext.trans (x0.trans xn),?_,?_,?_⟩
  .have:=B.len;have l2:=I.len;have l3:σ'.length=X.N.length:=e.len;simp only[length_set,ic];lia
  .intro i' v' s' a' T
   by_cases q:i'=j
   .subst q;rw[gP (by rw[ic,<- B.len,I.len,<- e.len];exact d)]at T;cases T;rw[gQ hij,gP (by simpa using d)]at a';cases a';exact⟨_,rfl,l,_,rfl,bN,BR bs⟩
   .rw[gQ (cq q)]at T;have:=va (qV T);subst this;trivial
  .intro i1 i2 s1 s2 v1 v2 a' U b2 c1 c2 d1 d2;refine(d1.calm ?_).elim
   by_cases q:i1=j
   .subst q;rw[gP (by rw[ic,<- B.len,I.len,<- e.len];exact d)]at U;cases U;rfl
   .rw[gQ (cq q)]at U;have:=va (qV U);subst this;rfl
 refine dF (rK (hr E0 _ xe hp) [] s σ H {nx:=λ_ _=>False,rt:=λ_ _=>False} (BQ I) ⟨Hf,H,Hf,ρ.map Sl.bare,B.bare,er,λHf' H' x=>⟨rfl,Hf',x⟩⟩) (λf s1 m=>?_) λp s1 m=>m
 cases f with
 |next=>obtain⟨_,_,_,z⟩:=m;exact z.elim
 |ret u=>obtain⟨_,_,_,_,_,z⟩:=m;exact z.elim
 |brk=>obtain⟨_,_,_,z⟩:=m;exact z.elim
 |cont=>obtain⟨_,_,_,z⟩:=m;exact z.elim
variable{E:XK}
def cX{aB:List Stmt}(h:RS c X C E st r):RSs c X C E (st::aB) r:=PSs.imp (vK h (u:=λ_ _ _=>False) λ_ _ _ _ _ _ q=>q.elim) λD σ H q=>q
variable{e:Expr}
def nR(h:RX c X C E e r)(b:StE X e es:=by rfl):RA c X C E (e::es) r:=PA.imp (bJ h (t:=λ_ _ _=>False) (λ_ _ _ _ _ _ _ q=>q.elim) b) λσ H Q q=>q
abbrev BU(B:Heap)(l:List Env)(e:Addr)(cls b d:Value)(h:Heap):Prop:=B.StaysIn h/\B.get? e=ae/\h.FunFrames B l/\h.TracedAtW B e cls b d
abbrev iI(X:Cx)(pins:PNS)(σ:St)(H:Hp)(E:XK)(f:Value)(a:Addr)(s':aE):Prop:=∃cls d G,Inv X pins σ H s'/\(∀b∈frs X.stack,b∈G)/\(∀b∈G,H b=ae)/\(∀b∈G,∀o,X.s₀.heap.get? b=aa o->b∈X.fs)/\(∀p∈X.pn++pins,p.1∉G) /\
 BU (ij s'.heap G) (X.env::X.outer) a cls d f s'.heap/\E cls ae H
def BV{base h h':Heap}{f:LAd}:∀{l:List Env},h.FunFrames base l->(∀b∈frs l,b∈f/\h'.get? b=h.get? b)->h'.FunFrames (ij h' f) l
 | [],_,_=>trivial
 |env::l,q1_,ez=>by
  obtain⟨q,⟨L,o,d,_,u,hd⟩,x⟩:=q1_;have m:=ez L (by unfold frs;rw[jI,d];exact bR);exact⟨q,⟨L,o,d,gC _ m.1,m.2.trans u,hd⟩,BV x λb p=>ez b (by unfold frs;rw[jI,d];exact cE _ p)⟩
variable{s':aE}{e:Value}
def Ja(I:Inv X pins σ H s)(hex:X.ex=[])(Y:X.stack=X.env::X.outer)(h:CX1 X.prog X.w X.stack H s E e s'):∃a H',e=.ref a/\Un (frs X.stack) [] H H' s.heap s'.heap/\iI X pins σ H' E .none a s':=by
 obtain⟨a,cls,x,H',B,rfl,G,os,bare,un,hok,kB,u,l⟩:=h;have J:=I.call' os un hok bare λb z=>by nomatch z
 obtain⟨f1,f2,A,oe,vs,T,oT,ts,t1,t2,t3,t4,t5,t6,t7,t8,t9⟩:=G
 have inS:∀b o,X.s₀.heap.get? b=aa o->b∉X.fs->B.get? b≠ae:=λb o e n=>by
  obtain⟨o',L⟩:=I.base.there b o e (by rw[hex];exact λz=>by nomatch z);exact u b o' L λN=>n (I.stkNew b N o e)
 have two:∀b∈[a,T],B.get? b=ae:=λb d=>by
  rcases bM.1 d with rfl |d
  .exact f2
  .rw[bj.1 d];exact t5
 refine⟨a,H',rfl,un,cls,x,frs X.stack++[a,T],J,λb d=>jH _ d,λb d=>?_,λb d o e=>?_,λp U d=>?_,⟨λb o q=>lV _ q,gC _ (by simp),by rw[<- Y];exact nQ A λb d=>jH _ d,oe,vs,T,oT,ts,t1,t2,t3,t4,gC _ (by simp),t6,t7,t8,t9⟩,l⟩
 .rcases b8.1 d with d |d
  .exact J.stkFree b d
  .cases q:H' b with
   |none=>rfl
   |some o=>exact absurd (two b d) (kB b (by rw[q];exact λz=>by nomatch z))
 .rcases b8.1 d with d |d
  .exact J.stkNew b d o e
  .by_cases n:b∈X.fs
   .exact n
   .exact absurd (two b d) (inS b o e n)
 .obtain⟨e,q,m,nf,_⟩:=I.pin p U;have f:=λz=>(bM.mp (I.stkSub _ z)).elim m nf
  rcases b8.1 d with d |d
  .exact f d
  .exact absurd (two _ d) (u _ _ e f)
variable{fl:Value}
def BW{cls L:Value}{G:LAd}{A:Heap}(hex:X.ex=[])(hs:X.stack=X.env::X.outer)(J:Inv X pins σ H s)(m:∀b∈frs X.stack,b∈G)(x:∀b∈G,H b=ae)(f:∀b∈G,∀o,X.s₀.heap.get? b=aa o->b∈X.fs)(l:∀p∈X.pn++pins,p.1∉G)
 (hh:BU (ij s.heap G) (X.env::X.outer) a cls L fl A)(I:s.heap.UpToSlots A)(hE:E cls ae H):iI X pins σ H E fl a {s with heap:=A}:=by
 obtain⟨k1,k2,k3,oe,vs,T,oT,ts,t1,t2,t3,t4,t5,t6,t7,t8,t9⟩:=hh
 have two:∀b,b∈a::T::G->b∈G\/s.heap.get? b=ae:=λb d=>by
  by_cases B:b∈G
  .exact .inl B
  .refine .inr ?_
   have q:(ij s.heap G).get? b=ae:=by
    rcases bM.1 d with rfl |d
    .exact k2
    .rcases bM.1 d with rfl |d
     .exact t5
     .exact absurd d B
   cases z:s.heap.get? b with
   |none=>rfl
   |some o=>rw[lU _ z B]at q;nomatch q
 refine⟨cls,L,a::T::G,(w9 J hex x f l k1 I),λb d=>cE _ (cE _ (m b d)),λb d=>?_,λb d o e=>?_,λp U d=>?_,⟨λb o q=>lV _ q,gC _ (by simp),nQ k3 λb d=>cE _ (cE _ (m b (by rw[hs];exact d))),oe,vs,T,oT,ts,t1,t2,t3,t4,gC _ (by simp),t6,t7,t8,t9⟩,hE⟩
 .rcases two b d with z |z
  .exact x b z
  .cases q:H b with
   |none=>rfl
   |some o=>obtain⟨u,Y⟩:=(J.hok b o q).obj;rw[z]at Y;nomatch Y
 .rcases two b d with z |z
  .exact f b z o e
  .obtain⟨o',N⟩:=J.base.there b o e (by rw[hex];exact λz=>by nomatch z);rw[z]at N;nomatch N
 .rcases two _ d with z |z
  .exact l p U z
  .have:=(J.pin p U).1;rw[z]at this;nomatch this
def Jb{Q:Unit->aE->Prop}(hex:X.ex=[])(p:X.stack=X.env::X.outer)(u:X.env.frame=aa X.env.locals)(U:iI X pins σ H E .none a s)(k:∀fl h',iI X pins σ H E fl a {s with heap:=h'}->s.heap.UpToSlots h'->Q () {s with heap:=h'}):
  wpAny M X.A (noteFrame (.ref a) X.env) Q Ex s:=by
 obtain⟨cls,z,G,J,l,m,d,f,x,q⟩:=U;have o:=J.ok.frames;rw[p]at o;exact wpAny_looks_onW o u x λh' b up=>k _ h' (BW hex p J l m d f b up q) up
def Jc{m:MGT}{h':Heap}(hs:X.stack=X.env::X.outer)(U:iI X pins σ H E fl a s)(hn:s.heap.Ns C m)(hC:fW X pins H C)(x:gU C s.heap h'):iI X pins σ H E fl a {s with heap:=h'}:=by
 obtain⟨cls,a0,G,J,p,A,f,l,⟨k1,k2,k3,I,vs,T,B,ts,L,t2,t3,t4,t5,t6,N,t8,t9⟩,hE⟩:=U;obtain⟨f0,f1,f2,f3,f4,f5⟩:=hC;obtain⟨o,es,ep,ho,hd,_⟩:=hn
 have ne:∀b u ws,s.heap.get? b=aa u->u.data=.fields ws->b≠C:=λb u ws e q z=>by
  rw[z,ho]at e;cases e;rw[hd]at q
  nomatch q
 have fr:∀b∈frs X.stack,b≠C:=λb d z=>by
  rw[z]at d;exact(bM.mp (J.stkSub C d)).elim f1 f2
 have mem:∀b o,s.heap.get? b=aa o->(ij s.heap G).get? b=ae->b∈G:=λb o e q=>by
  by_cases Y:b∈G
  .exact Y
  .rw[lU _ e Y]at q;nomatch q
 refine⟨cls,a0,G,J.turned (λb o d e=>(x.2 b d).trans e) f0 f1 f3 f4 f5,p,A,f,l,⟨λb o q=>lV _ q,gC _ (mem a I L k2),BV k3 λb d=>?_,I,vs,T,B,ts,(x.2 a (ne a I vs L t3)).trans L,t2,t3,t4,gC _ (mem T B N t5),t6,(x.2 T (ne T B ts N t8)).trans N,t8,t9⟩,hE⟩;rw[<- hs]at d;exact⟨p b d,x.2 b (fr b d)⟩
def Jd{α:Type}{Q:α->aE->Prop}{what:String}{l:Env}(hex:X.ex=[])(hs:X.stack=X.env::X.outer)(U:iI X pins σ H E fl a s)(k:∀B h',iI X pins σ H E B a {s with heap:=h'}->Ex (.ref a) {s with heap:=h'}):
  wpAny M Ar (PySem.passOn what (.ref a) l:Sem α) Q Ex s:=by
 obtain⟨cls,a0,G,J,I,L,p,u,⟨k1,k2,k3,oe,vs,T,oT,ts,N,t2,Y,t4,t5,t6,t7,A,t9⟩,hE⟩:=U;have d:∀b,b≠T->(s.heap.update T (Obj.mapFields (·.setIfInBounds 3 (l.frame.elim jM λf=>rawInt f)))).get? b=s.heap.get? b:=λb hb=>jL _ _ (cq hb);have x:=(u4.mp t9).1
 have nf:∀b o,s.heap.get? b=aa o->(∀ws,o.data≠.fields ws)->b≠T:=λb o e n z=>by
  rw[z,t7]at e;cases e;exact n ts A
 refine ao (gv N Y t4 ?_);refine ao (ao (gv N Y t4 ?_));exact wpAny_setField t7 A x (wpAny_throw (k (l.frame.elim jM λf=>rawInt f) _ (BW hex hs J I L p u ⟨λb o m=>((d b λq=>by rw[q,t5]at m;nomatch m).trans (k1 b o m)),k2,(k3.of_keeps λb o e n=>⟨o,(d b (nf b o e n)).trans e,rfl⟩),oe,vs,T,_,_,(d a (cq t6)).trans N,t2,Y,t4,t5,t6,m7 _ t7 (Obj.isFreed_of_fields (Obj.data_mapFields A _)),Obj.data_mapFields A _,by simp[x]⟩ (λb o e n=>⟨o.slots,(d b (nf b o e n)).trans e⟩) hE)))
def Je{Q:Unit->aE->Prop}(hex:X.ex=[])(hs:X.stack=X.env::X.outer)(x:X.env.frame=aa X.env.locals)(U:iI X pins σ H E fl a s)
 (hQ:∀p,CX1 X.prog X.w X.outer X.H₀ X.s₀ E (.ref a) p->Q () p):wpAny M X.A (leaving X.env (.ref a)) Q Ex s:=by
 obtain⟨cls,a0,G,J,B,I,m,hI,⟨k1,k2,k3,u⟩,hE⟩:=U;have fr:=J.ok.frames;rw[hs]at fr
 have l:∀h',oX _ X.outer a cls a0 h'->s.heap.UpToSlots h'->Q () {s with heap:=h'}:=λh' x1 x2=>hQ _ (wZ J hex B I m x1 x2 hE)
 by_cases q:fl=rawInt X.env.locals
 .subst q;refine ao (wpAny_noteFrame_againW x u ?_);refine wpAny_landsW ⟨k1,k2,k3,u⟩ λh' ⟨L,N,⟨_,_,Y⟩,j4⟩ up=>l h' ⟨L,N,Y,j4⟩ up
 .obtain⟨oe,vs,T,oT,ts,t1,⟨tc,t0⟩,t3,t4,t5,t6,t7,t8,t9⟩:=u;subst tc;have d:∀b,b≠T->(s.heap.update T (Obj.mapFields (·.setIfInBounds 3 jM))).get? b=s.heap.get? b:=λb hb=>jL _ _ (cq hb)
  have nf:∀b o,s.heap.get? b=aa o->(∀ws,o.data≠.fields ws)->b≠T:=λb o e n z=>by
   rw[z,t7]at e;cases e;exact n ts t8
  unfold leaving noteFrame;simp only[x];refine ao (ao (gv t1 t3 t4 ?_));refine ao (gv t7 t8 t9 ?_);rw[if_neg (λz=>q (beq_iff_eq.mp z))];refine ao (wpAny_setField t7 t8 (u4.mp t9).1 ?_);exact wpAny_newEntryW fr (k3.of_keeps λb o e n=>⟨o,(d b (nf b o e n)).trans e,rfl⟩) x ((d a (cq t6)).trans t1) (λb o f=>(d b λq=>by rw[q,t5]at f;nomatch f).trans (k1 b o f)) k2 t3 (u4.mp t4).1 t0 λh' ⟨L,⟨_,_,N⟩,Y,j4⟩=>(l h' ⟨L,k2,N,Y⟩ λb o e n=>j4 b o ((d b (nf b o e n)).trans e) n)
abbrev xc(X:Cx)(E:XK):Prop:=∀(pins:PNS) (σ:St) (H:Hp) (fl:Value) (a:Addr) (s:aE),iI X pins σ H E fl a s->X.xe (.ref a) s
variable{P:cS}{mg:MGT}{base:Heap}{scope:Scope}{A:cZ}
def Jf{N:LSt}{qual:Str}{f:Addr}{cdv:Value}{outer:List Env}:
  xc (gD (CX1 P w) P w K mg base N qual scope f cdv A outer s H E) E:=λpins σ H' fl a s1 U=>Je rfl rfl rfl U λb q=>q
variable{da tg iter:Expr}{dw:LEx}{Nc:LSt}{k:Nat}{js:LN}{g:TG}{tt:TT}{te:TE}{fp:LAd}{cl:List (Str×Addr)}
def Jg{pos:Pos}{E0:XK}(hex:X.ex=[])(B:X.stack=X.env::X.outer)(hfr:X.env.frame=aa X.env.locals){H2:Hp}{s2:aE}{it:Addr}{tn:Nat->Heap->Prop}{J:It}{Q:VK}{RR:Value->Addr->Result->aE->Prop}{E:PRS}
 (hc:X.calm=af)(ck:la scope X.env.scope.names X.N Nc k js)
 (hg:∀cl C ex f d,PG (X.comp scope Nc cl C ex f d) tg g)(ht:∀cl C ex f d,PTs (X.comp scope Nc cl C ex f d) dw tt)(he:∀cl C ex f d xe,il (CX1 X.prog X.w) ((X.comp scope Nc cl C ex f d).to [] xe) E0->PE ((X.comp scope Nc cl C ex f d).to [] xe) da te)
 (a1:∀x c,cl.lookup x=aa c->X.env.cells.lookup x=aa c)(a2:∀x,(x,fE)∈scope.names->∃c,cl.lookup x=aa c)
 (I2:Inv X pins σ H2 s2)(T:k6 X.prog X.w X.K tg J fp it tn)(h9:tn 0 s2.heap)(f2:∀b∈fp,fW X pins H2 b)(hW:sd J g tt te (fX k js σ) H2 Q)
 (hRR:∀(D C:Addr) (s':aE) (H':Hp),Inv X pins σ H' s'->(∃m,s'.heap.Ns C m)->fW X pins H' C->Q (.ref D) H'->RR (.ref D) C (.ok .next) s')
 (hRE:∀(D C:Addr) (fl:Value) (a:Addr) (H':Hp) (s':aE),iI X pins σ H' E0 fl a s'->(∃m,s'.heap.Ns C m)->fW X pins H' C->RR (.ref D) C (.error (.ref a)) s'):
  wpAny (model X.prog X.w) X.A (newList []) (λp I=>wpAny (model X.prog X.w) X.A (newFunctionEnv scope X.env.globals cl [] X.env.qual ae .none (aa X.env)) (λl L =>
   fU (model X.prog X.w) X.A (.compStart (.ListComp da [⟨tg,iter,dw,0⟩] scope pos) 0 (.ref it) p {l with scope:=relabel scope X.env}) (RR p l.locals) L) E I) E s2:=by
 refine AH (PX:=λY=>il _ Y E0) hc ck hg ht he a1 a2 I2 T h9 f2 hW hRR λD C hD q G=>?_;intro eZ σ' H' s1 e s' o hx1
 have IX:=I2.call' o.os o.base o.hok o.bare λb hb=>by
  obtain⟨_,f1,_,f3,f4,f5⟩:=f2 b hb;exact⟨f3,f1,f4,f5⟩
 obtain⟨a,H'',rfl,un,U⟩:=Ja IX hex B hx1;obtain⟨m,⟨oC,es,ep,u,hdC,hk1,hk2⟩,_⟩:=o.loc;have nC:C∉frs X.stack:=λz=>absurd (qX (G C z) q) (iZ _);exact Jb hex B hfr U λfl h' U' up=>hRE D C fl a H'' _ U' ⟨m,up.ns ⟨oC,es,ep,(un.keep C oC u o.free nC (λz=>by nomatch z)),hdC,hk1,hk2⟩⟩ (I2.fpOk (by lia) (un.free C oC u o.free (λz=>by nomatch z)))
variable{ex:LAd}{a7:aE}{b0:Hp}{e:Expr}
def PE.toE{t:TE}(h:PE (X.comp scope Nc cl C ex a7 b0) e t):PE ((X.comp scope Nc cl C ex a7 b0).to [] xe) e t:=λpins s σ H Q I q=>
 dF (h pins s σ H Q (sh I) q) (λu s' ⟨v,H',b,r,d⟩=>⟨v,H',se b,r,d⟩) λ_ _ z=>z.elim
def PA.toE{t:TA}(h:PA (X.comp scope Nc cl C ex a7 b0) es t):PA ((X.comp scope Nc cl C ex a7 b0).to [] xe) es t:=λpos pins s σ H Q I q=>
 dF (h pos pins s σ H Q (sh I) q) (λu s' ⟨v,H',b,r,d⟩=>⟨v,H',se b,r,d⟩) λ_ _ z=>z.elim
variable{x:Str}
def glT{Y:Cx}{pn:PNS}(h:Gl Y x):Gl (Y.to pn xe) x:=h
variable{fa:Xa}
def DAX.toE(h:DAX c (X.comp scope Nc cl C ex a7 b0) es fa):DAX c ((X.comp scope Nc cl C ex a7 b0).to [] xe) es fa:=⟨PA.toE h.pa,h.len⟩
abbrev kc(g:D->LS->Option LS)(f:MF4)(b:MF1)(re:LS->Bool)(ρ:LS):LD->Bool
 | []=>aj
 |d::ds=>match g d ρ with
  | some ρ1=>(match f ρ1 with
   |some af=>re ρ1 || ((b ρ1).isSome && kc g f b re ρ ds)
   |some aj=>kc g f b re ρ ds
   |none=>aj)
  |none=>aj
abbrev pO(k:Nat)(js:LN)(fi:MF2)(g:D->LS->Option LS)(d:MF4)(b:MF1)(re:LS->Bool)(ρ:LS):Bool:=match fi ρ with
 |some ds=>decide (ds.length<=16777216) && kc g d b re (dC k js ρ) ds
 |none=>aj
variable{fi:MF2}{g:D->LS->Option LS}{ft:MF4}{fe:MF1}{re:LS->Bool}
def Jh{G:Gc}(hj:js.Nodup)(hk:∀d ρ ρ' i,g d ρ=aa ρ'->k<=i->ρ'[i]?=ρ[i]?)(eN:∀d ρ ρ',g d ρ=aa ρ'->ρ'.length=ρ.length){Q:VK}(h:tR G C E (pO k js fi g ft fe re) σ H):
  lb k js (sI G fi) (tDG G g) (tDT G ft) (λσ H Q=>tD G fe σ H Q\/tR G C E re σ H) σ H Q:=by
 obtain⟨Hf0,H0,Hf,ρ,st,u,kE⟩:=h;unfold pO at u
 cases e1:fi ρ with
 |none=>rw[e1]at u;nomatch u
 |some ds=>
  rw[e1]at u;rw[dy,decide_eq_true_eq]at u;obtain⟨hz,u⟩:=u;refine⟨Hf0,H0,Hf,ρ,ds,st,e1,λJ B H1 x1 it=>?_⟩
  refine⟨λi m ys σ' H'=>m=ds.length-i/\i<=ds.length/\∃Hf' q,Ext B H1 Hf' H'/\aM G Hf0 H0 Hf' H' σ' _/\aC G Hf' q ys/\kc g ft fe re _ (ds.drop i)=af/\q.length<=i,
   ⟨ds.length,rfl,gs _,B,[],Ext.refl x1.s,(st.step x1).comp k hj,rfl,u,bL _⟩,?_⟩
  rintro i m ys σ' H' ⟨rfl,hi,Hf',q,x2,h9,ra,l,hal⟩;have hys:ys.length<=bn:=by rw[cY,<- ra.length];lia
  obtain⟨hO,it2⟩:=it Hf' H' x2 i
  have L:i<ds.length:=by
   rcases lM i ds.length with z |z
   .exact z
   .rw[mU z]at l
    nomatch l
  obtain⟨d,ed,edr⟩:=nA L;obtain⟨go,yl⟩:=hO d ed
  refine .inr ⟨go,hys,λkF fy T=>ds.length-_=ds.length-_/\i+1<=ds.length/\∃Hf' q,Ext B H1 Hf' T/\aM G Hf0 H0 Hf' T fy _/\aC G Hf' q kF/\kc g ft fe re _ _=af/\q.length<=i+1,
   λkF fy T w=>⟨ds.length-(i+1),by lia,w⟩,λx T y=>?_⟩
  obtain⟨U,x3,rx⟩:=yl x T y;rw[edr]at l;unfold kc at l
  cases eg:g d _ with
  |none=>rw[eg]at l;nomatch l
  |some ρ1=>
   rw[eg]at l;dsimp only at l
   cases et:ft ρ1 with
   |none=>rw[et]at l;nomatch l
   |some b=>
    rw[et]at l;refine⟨Hf0,H0,U,dC k js ρ,d,ρ1,h9.step x3,rx,eg,λgg p=>⟨Hf0,H0,U,ρ1,b,p,et,λI H4 N=>?_⟩⟩
    have back:∀{o H5:Hp},aM G Hf0 H0 o H5 gg ρ1->aM G Hf0 H0 o H5 gg _:=λ{o H5} s5=>s5.weak (eN _ _ _ eg).symm λj s hs=>by
     rcases lf hs with⟨_,e⟩ |⟨hj',_⟩
     .exact .inl e
     .exact .inr (by rw[hk _ _ _ _ eg hj'];exact hs)
    cases b with
    |true=>
     rcases oE.mp l with l |l
     .exact .inr ⟨Hf0,H0,I,ρ1,p.step N,l,kE⟩
     .rw[dy]at l;obtain⟨Y,l⟩:=l
      cases ee:fe ρ1 with
      |none=>rw[ee]at Y;nomatch Y
      |some y'=>
       refine .inl ⟨Hf0,H0,I,ρ1,y',p.step N,ee,λv o H5 x5 r5=>?_⟩;have x:=(x3.trans N).trans x5
       exact⟨rfl,L,o,q++[y'],x2.trans x,back ((p.step N).step x5),(ra.up x.f).append (.cons r5 .nil),l,by rw[bg,fj];lia⟩
    |false=>
     have x:=x3.trans N;exact⟨rfl,L,I,q,x2.trans x,back (p.step N),ra.up x.f,l,by lia⟩
abbrev BX:V->List V->Hp->VK->Prop:=λx vs H Q=>∃l xs y i,x=.ref l/\vs=[.int i,y]/\H l=aa (.lst xs)/\0<=i/\i<=xs.length/\xs.length<16777216/\Q .non (upd H l (.lst (xs.take i.toNat++y::xs.drop i.toNat)))
def BY:∀{xs:List V} {us:LVa} (n:Nat),a9 xs us->a9 (xs.take n) (us.take n)
 | _,_,0,_=>.nil
 | _,_,_+1,.nil=>.nil
 | _,_,n+1,.cons r t=>.cons r (BY n t)
def BZ:∀{xs:List V} {us:LVa} (n:Nat),a9 xs us->a9 (xs.drop n) (us.drop n)
 | _,_,0,h=>h
 | _,_,_+1,.nil=>.nil
 | _,_,n+1,.cons _ t=>BZ n t
def xf:MtM X "list.insert" BX:=by
 intro pins s σ H x vs v us Q I B u h;obtain⟨l,xs,y,i,rfl,rfl,d,L,hi,hz,q⟩:=h;subst B;obtain⟨N,J,rfl,p,G⟩:=na u;obtain⟨t,rfl⟩:=p;obtain⟨z,its,n,r,o,e⟩:=I.lstM d
 have b:zy i=af:=by
  unfold zy;rw[dy,decide_eq_true_eq,decide_eq_true_eq];lia
 refine call_meets F.slot_list_insert ⟨_,e,rfl⟩ F.entry_list_insert (F.args_list_insert_3 _ _ _) (PySem.AutoSeq1.list_insert_list_int_val_1 l its.toArray n i t J (by rw[b];exact λz=>by nomatch z) (by rw[size_toArray,<- o];exact z)) ⟨e,?_⟩;refine⟨.non,_,I.lset d e ?_ ((BY _ r).append (.cons G (BZ _ r))) ?_,rfl,q⟩
 .have f:¬i<0:=by lia
  have m:min i.toNat its.toArray.size=i.toNat:=by rw[size_toArray];lia
  simp only[if_neg f,m];simp[mV]
 .rw[bg,cL,gr,ie,cY];lia
abbrev mw(i:Nat)(f:Xa)(ρ:LS):Option Fl:=match ρ[i]? with
 |some (.own _)=>(f ρ).bind λp=>match p.2[i]?,p.1 with
  |some (.own xs),[.int n,d]=>if 0<=n/\n<=xs.length/\xs.length<16777216 then aa (.nx (p.2.set i (.own (xs.take n.toNat++d::xs.drop n.toNat)))) else ae
  | _,_=>ae
 | _=>ae
def B0{G:Gc}{H:Hp}:∀{ds:LD} {vs:List V} (n:Nat),aC G H ds vs->aC G H (ds.take n) (vs.take n)
 | _,_,0,_=>by rw[take_zero,take_zero];rfl
 | [],_,_+1,h=>by cases (h);rfl
 |d::ds,_,n+1,⟨v,r,e,h1,h2⟩=>by subst e;exact⟨v,_,rfl,h1,B0 n h2⟩
def B1{G:Gc}{H:Hp}:∀{ds:LD} {vs:List V} (n:Nat),aC G H ds vs->aC G H (ds.drop n) (vs.drop n)
 | _,_,0,h=>h
 | [],_,_+1,h=>by cases (h);rfl
 |d::ds,_,n+1,⟨v,r,e,h1,h2⟩=>by subst e;exact B1 n h2
def xg{f:Xa}(h:PS X st (kZ (tBM X.K "list" BX (eL i) (wR (Gx c X) f)))):DS c X st (mw i f):=PS.imp h λE σ H q_=>by
 obtain⟨Hf0,H0,Hf,ρ,o,so,b,k⟩:=q_;unfold mw at b;split at b
 .rename_i xs0 G
  cases u:f ρ with
  |none=>rw[u]at b;nomatch b
  |some p=>
   rw[u,aR]at b;split at b
   .rename_i xs n d es B;split at b
    .rename_i hl;cases b;obtain⟨l,z,h0,hf,vs0,q0,r0⟩:=so.ownAt rfl G;refine⟨_,z,.inl ⟨rfl,_,SqL.of q0⟩,Hf0,H0,Hf,ρ,p.1,p.2,so,u,λvs1 Hf' H' s m r'=>?_⟩;rw[B]at r';obtain⟨v1,r1,I,N,v2,r2,J,T,L⟩:=r';cases (N);cases (L);subst J;subst I;obtain⟨l2,U,h02,hf2,vs,q,r⟩:=m.ownAt rfl es;rw[z]at U;cases U;have Y:=r.length;refine⟨l,vs,v2,n,rfl,rfl,q,hl.1,by lia,by lia,k σ Hf' _ s (m.mutd rfl rfl es z ⟨_,bN,(B0 _ r).append ⟨v2,_,rfl,T,B1 _ r⟩⟩)⟩
    .nomatch b
   .nomatch b
 .nomatch b
def B2:gu "ValueError"=aa (.type "ValueError"):=by decide +kernel
def B3(h:gc K C v=aa af):pL K C v=af:=by
 unfold gc W.clsIn at h;unfold pL
 cases e:K.lookup C with
 |none=>rw[e]at h;nomatch h
 |some o=>
  rw[e]at h;obtain⟨oc,od,b,sl⟩:=o
  cases b with
  |cls d=>
   rw[aR]at h;split at h
   .nomatch h
   .exact cu h
  | _=>nomatch h
variable{sts:List Stmt}
def PSs.orR{t t':TS}(h:PSs X sts t)(h':PSs X sts t'):PSs X sts λD σ H=>t D σ H\/t' D σ H:=λpins s σ H D I q=>q.elim (h pins s σ H D I) (h' pins s σ H D I)
abbrev pP(i:Nat)(r:LS->Bool)(ρ:LS):Bool:=match ρ[i]? with
 |some (.own _)=>r ρ
 | _=>aj
abbrev jx(i:Nat)(r:LS->Bool)(ρ:LS):Bool:=match ρ[i]? with
 |some (.own xs)=>r (ρ.set i (.im (.lst xs)))
 | _=>aj
def tM(i:Nat)(h:RS c X C E st r):RS c X C E st (jx i r):=PS.imp h λp σ H q=>by
 obtain⟨Hf0,H0,Hf,ρ,f,b,k⟩:=q;unfold jx at b;split at b
 .rename_i xs es;obtain⟨l,m,u,o,vs,q,r⟩:=f.ownAt rfl es;exact⟨Hf0,H0,_,_,f.fixd (d:=.lst xs) rfl es m q ⟨l,vs,rfl,bN,r.up (cv o)⟩,b,k⟩
 .nomatch b
abbrev kf(g:D->LS->Option LS)(F:MF3)(r:LS->Bool):LD->LS->Bool
 | [],_=>aj
 |d::ds,ρ=>match g d ρ with
  |some ρ1=>r ρ1 || match F ρ1 with
   |some (.nx d3)=>kf g F r ds d3
   |some (.ct d3)=>kf g F r ds d3
   | _=>aj
  |none=>aj
abbrev iJ(fi:MF2)(g:D->LS->Option LS)(F:MF3)(r:LS->Bool)(ρ:LS):Bool:=match fi ρ with
 |some ds=>kf g F r ds ρ
 |none=>aj
variable{a:List Stmt}{F:MF3}{kk:Nat}
def nS{pos:Pos}(hp:PassesOwn (model X.prog X.w) X.A X.env X.xe)(hc:X.calm=af)(hi:DI c X tg iter fi)(hg:DG c X tg kk g)(hF:DSs c X a F)(hr:RSs c X C E a r)(hs:∀x,gS iter X.env x=pure x:=by intro _;rfl):
  RS c X C E (.For tg iter a [] pos) (iJ fi g F r):=PS.imp (zY hp hc hi hg.pg (PSs.orR hF hr) hs) λE' σ H q=>by
 obtain⟨Hf0,H0,Hf,ρ,so,T,k⟩:=q;unfold iJ at T;split at T
 .rename_i ds e1;refine⟨Hf0,H0,Hf,ρ,ds,so,e1,λJ o H1 x1 it=>?_⟩;refine⟨λi m σ' H'=>m=ds.length-i/\i<=ds.length/\∃Hf' ρ',aM _ Hf0 H0 Hf' H' σ' ρ'/\aN o Hf'/\kf g F r (ds.drop i) ρ'=af,⟨ds.length,rfl,gs _,o,ρ,so.step x1,aN.refl _,T⟩,?_⟩;rintro i m σ' H' ⟨rfl,hi',Hf',ρ',I,s1,em⟩;obtain⟨hO,it2⟩:=it Hf' H' s1 I.sub i
  have u:i<ds.length:=by
   rcases lM i ds.length with z |z
   .exact z
   .rw[mU z]at em;nomatch em
  obtain⟨d,ed,Y⟩:=nA u;obtain⟨go,yl⟩:=hO d ed;rw[Y]at em;unfold kf at em;refine .inr ⟨go,λL N=>ds.length-(i+1)=ds.length-(i+1)/\i+1<=ds.length/\∃Hf' ρ',aM _ Hf0 H0 Hf' N L ρ'/\aN o Hf'/\kf g F r (ds.drop (i+1)) ρ'=af,λL N w=>⟨ds.length-(i+1),by lia,w⟩,λx N y=>?_⟩;obtain⟨l,x2,rx⟩:=yl x N y;split at em
  .rename_i ρ1 eg;refine⟨Hf0,H0,l,ρ',d,ρ1,I.step x2,rx,eg,λgg B=>?_⟩
   rcases oE.mp em with em |em
   .exact .inr ⟨Hf0,H0,l,ρ1,B,em,k⟩
   .split at em
    .rename_i b U;exact .inl ⟨Hf0,H0,l,ρ1,.nx b,B,U,λσ4 p H4 s4 G=>⟨rfl,u,p,b,G,(s1.trans x2.f).trans s4,em⟩⟩
    .rename_i b U;exact .inl ⟨Hf0,H0,l,ρ1,.ct b,B,U,λσ4 p H4 s4 G=>⟨rfl,u,p,b,G,(s1.trans x2.f).trans s4,em⟩⟩
    .nomatch em
  .nomatch em
 .nomatch T
set_option maxRecDepth 100000
abbrev kg(σ:LSt)(x:Str):LSt:=if σ.any (·==x) then σ else σ++[x]
abbrev eA(val:Nat->Str):Nat->LSt
 | 0=>[]
 |i+1=>kg (eA val i) (val i)
def tN(val:Nat->Str):∀i,(eA val i).length<=i
 | 0=>bL _
 |i+1=>by
  have b:=tN val i;show(kg (eA val i) (val i)).length<=_;unfold kg;split
  .omega
  .rw[bg,fj];lia
def B4(σ:LSt)(v k:Str):(kg σ v).any (·==k)=(σ.any (·==k) || decide (k=v)):=by
 unfold kg;rw[iU];split
 .rename_i h;rw[gp,decide_eq_true_eq];exact⟨.inl,λz=>z.elim id λe=>e▸h⟩
 .rw[any_append,gp,gp,decide_eq_true_eq,gR,any_nil,Bool.or_false,beq_iff_eq];exact or_congr_right eq_comm
def B5(σ:LSt)(v:Str):(kg σ v).length=if σ.any (·==v) then σ.length else σ.length+1:=by
 unfold kg
 split <;> simp
variable{n:Nat}
def Ji{a:Addr}{S b:Str->Bool}{d:Nat}(q:h.SetOf (strKind P w) a S n)(e:∀k,S k=b k)(f:n=d):h.SetOf (strKind P w) a b d:=by
 obtain rfl:=funext e;subst f;exact q
variable{I:Addr}{wr:LAd}{G:Array GenState->Array GenState->Prop}{Pv:Nat->Value->Prop}
def Jj{St:Nat->aE->Prop}(W:WalksS P w A.in1 I fp wr G n Pv St)(S:Addr)(u:S∉fp)(val:Nat->Str)(T:∀i v,Pv i v->∃t,v=.str (val i) t)(hb:n+1<scanBound):
  ∀(k i:Nat) (s:aE),n-i=k->i<=n->St i s->s.heap.SetOf (strKind P w) S (λj=>(eA val i).any (·==j)) (eA val i).length ->
   (∀s',Moved (S::wr) G s s'->s'.heap.SetOf (strKind P w) S (λj=>(eA val n).any (·==j)) (eA val n).length->R (.ok (.ret .none)) s') ->
   fU (model P w) A (.builtin "set.update.loop" ⟨[.ref S,.ref I],[]⟩) R s:=by
 have U:=λh=>u (W.sub _ h);have sub:∀b∈wr,b∈S::wr:=λb h=>cE _ h;have stay:∀{s s':aE} {Z:Str->Bool} {m:Nat},Moved wr G s s'->s.heap.SetOf (strKind P w) S Z m->s'.heap.SetOf (strKind P w) S Z m:=λm ⟨o,es,B,t,N,r⟩=>⟨o,es,B,t,m.heap S o U N,r⟩;intro k
 induction k with
 |zero=>
  intro i s L hi st q d;obtain rfl:i=n:=by lia
  refine kU F.entry_set_update_loop ?_
  exact ao (W.done s _ _ st λs' m=>(bh (d s' (m.mono sub) (stay m q))))
 |succ k Y=>
  intro i s L hi st q d;have lt:i<n:=by lia
  refine kU F.entry_set_update_loop ?_;refine ao (W.item i s _ _ lt st λv s' J p m=>?_);obtain⟨t,rfl⟩:=T i v J;have is:(strKind P w).is (val i) (.str (val i) t)=af:=PySem.W.isStrOf_self (val i) t;refine ao (dP ?_);refine dP (ao ((strKind P w).pyHash is ?_));have l:(eA val i).length+1<scanBound:=by have:=tN val i;lia
  have q1:=stay m q
  refine wpAny_setAddHashed_of (knd:=strKind P w) (s:={s' with toks:=s'.toks+1}) is rfl q1 l λh' z q2=>?_
  have q3:h'.SetOf (strKind P w) S (λj=>(eA val (i+1)).any (·==j)) (eA val (i+1)).length:=Ji q2 (λj=>(B4 _ _ _).symm) (B5 _ _).symm;refine bh ⟨m5 F.plain_set_update_loop _,Y _ _ (by lia) lt (W.frame _ s' _ _ p (Nat.le_succ _) λb f o e=>?_) q3 λs2 m2 q4=>?_⟩
  .rw[z.2 b λh=>u (by rw[<- h];exact f)];exact e
  .refine d s2 (Moved.trans W.gtrans ((m.mono sub).then_heap (Nat.le_succ _) λb o f e=>?_) m2) q4;rw[z.2 b λh=>f (by rw[h];exact bR)];exact e
abbrev xh(vs:LVa)(xs:LSt):Prop:=vs.length=xs.length/\∀(i:Nat) (v:Value),vs[i]?=aa v->∃t,v=.str (xs.getD i "") t
@[reducible]noncomputable def jy(b:Bool):Obj:={cls:=.type "set",dict:=ae,data:=.set #[] 0 (.fresh 0 0 b)}
def Jk(h:Heap)(b:Bool):(h.push (jy b)).SetOf (strKind P w) h.objs.size (λ_=>aj) 0:=
 ⟨_,#[],0,_,e6 _ rfl,⟨rfl,rfl,rfl⟩,rfl,λe d=>by simp at d,λk=>by simp,by decide,rfl,rfl⟩
variable{E:PRS}{items:Array Value}{xs:LSt}
set_option maxHeartbeats 8000000 in
def Jl{l:Addr}{Q:PRS}(hh:A.handled=ae)(hl:s.heap.IsList l items)(hi:xh items.toList xs)(hb:items.size+1<scanBound)
 (h:∀ (h':Heap) (tk:Nat),h'.SetOf (strKind P w) s.heap.objs.size (λj=>(eA (λi=>xs.getD i "") items.size).any (·==j)) (eA (λi=>xs.getD i "") items.size).length ->
   (∀b o,b<s.heap.objs.size->s.heap.get? b=aa o->h'.get? b=aa o)->Q (.ref s.heap.objs.size) {s with heap:=h',toks:=tk}):
  wpAny (model P w) A (call (.type "set") [.ref l]) Q E s:=by
 obtain⟨c,tl,hmro⟩:=kW.mro;have hmade:=kW.made;have hsub:=kW.sub;refine wpAny_call (codeAny_of_tree (bh ⟨Code.quiet_builtin _ (by decide +kernel),kU F.entry_type_call ?_⟩));rw[cZ.under_plain (weight_type_call_type "set" [.ref l] []) rfl];have h1:=kW.notType;have h2:=kW.canCreate;have hct:=F.typeCall_set_1 (.ref l)
 repeat (any_goals (first |assumption |wp_step))
 refine oV (code_set_new_1 (.ref l) (E:=E) (Q₁:=λob m=>∃d,ob=.ref s.heap.objs.size/\m={s with heap:=s.heap.push (jy d)}) λd=>⟨d,rfl,rfl⟩) λr m hr=>?_
 cases r with
 |error e=>exact hr
 |ok fl=>
  cases fl with
  |ret ob=>
   obtain⟨d,rfl,rfl⟩:=hr;have g0:(s.heap.push (jy d)).get? s.heap.objs.size=aa (jy d):=e6 _ rfl
   have hT:aE.TypeIs {s with heap:=s.heap.push (jy d)} (.ref s.heap.objs.size) "set":=⟨_,g0,rfl⟩
   have hli:=kW.init.lookup;have hbi:=kW.init.bind (.ref s.heap.objs.size)
   repeat (any_goals (first |assumption |wp_step))
   refine oV (vn (R:=wants (λr a7=>r=.none/\∃ h' tk,a7={ s with heap:=h',toks:=tk } /\
     h'.SetOf (strKind P w) s.heap.objs.size (λj=>(eA (λi=>xs.getD i "") items.size).any (·==j)) (eA (λi=>xs.getD i "") items.size).length /\
     (∀b o,b<s.heap.objs.size->s.heap.get? b=aa o->h'.get? b=aa o)) E) kW.init.plain F.entry_set_init (check_set_init_1 hT ?_)) λN a7 f=>?_
   .obtain⟨⟨oc,od,odt,os⟩,J,u,nl,z⟩:=hl;simp only at u z;subst u z;have L:(s.heap.push (jy d)).get? l=aa {cls:=.type "list",dict:=od,data:=.seq items nl,slots:=os}:=cg _ J;have k1:=F.sub_list_set;have k2:=F.sub_list_frozenset;have k3:(jN "list" == jN "dict")=aj:=by decide
    have B:(s.heap.push (jy d)).IsList l items:=⟨_,L,rfl,nl,rfl⟩;unfold df.«set.__init__» noKeywords df.Frozenset.updateFrom;generalize U:pyIter=PI
    wp_walk
    subst U;refine m4 B (ao (wpAny_runValue ?_));have lt:l<s.heap.objs.size:=bI J;have hh3:A.in1.in1.in1.handled=ae:=by simp[hh]
    have ne1:l≠(s.heap.push (jy d)).objs.size:=by rw[rE];exact cr (Nat.lt_succ_of_lt lt)
    have nin:s.heap.objs.size∉[(s.heap.push (jy d)).objs.size,l]:=by
     rw[rE];simp only[bM,cp,or_false,not_or];exact⟨cr (Nat.lt_succ_self _),mZ lt⟩
    have hv:∀(i:Nat) (v:Value),items[i]?=aa v->∃t,v=.str ((λi=>xs.getD i "") i) t:=λi v hv=>hi.2 i v (by rw[u6];exact hv);refine Jj ((Walks.list hh3 _ l ne1 items).toS) s.heap.objs.size nin (λi=>xs.getD i "") hv hb (items.size-0) 0 _ (by lia) (gs _) ⟨⟨_,e6 _ rfl,rfl,rfl⟩,(B.push _)⟩ ?hS0 ?hR
    case hS0=>
     obtain⟨o,es,ep,t,ho,r⟩:=Jk (P:=P) (w:=w) s.heap d;exact⟨o,es,ep,t,cg _ ho,r⟩
    case hR=>
     intro s' T Y;obtain⟨h',g',d',tk',os'⟩:=s';have eg:g'=s.gens:=T.gens;have ed:d'=s.drawn:=T.drawn;have eo:os'=s.os:=T.os;subst eg ed eo;show wpAny _ _ _ _ _ _;refine bh ?_;show wpAny _ _ (ret jM) _ _ _;refine bh ⟨rfl,h',tk',rfl,Y,λb o q e=>?_⟩;have n2:b≠(s.heap.push (jy d)).objs.size:=by rw[rE];exact cr (Nat.lt_succ_of_lt q)
     refine T.heap b o ?_ (cg _ (cg _ e));simp only[bM,cp,or_false,not_or];exact⟨cr q,n2⟩
   .cases N with
    |error e=>exact f
    |ok p=>
     cases p with
     |ret r=>
      obtain⟨rfl,h',tk,rfl,q',kk⟩:=f
      repeat (any_goals (first |assumption |wp_step))
      exact h _ _ q' kk
     | _=>exact f.elim
  | _=>exact hr.elim
abbrev iK(xs:LSt):Nat:=(eA (λi=>xs.getD i "") xs.length).length
def B6:∀{xs:LSt} {vs:LVa},a9 (xs.map V.str) vs->xh vs xs
 | [],_,.nil=>⟨rfl,λi v h=>by simp at h⟩
 |x::xs,_,.cons r h=>by
  obtain⟨b,d⟩:=B6 h;refine⟨by simp[b],λi v e=>?_⟩
  cases i with
  |zero=>
   obtain⟨t,rfl⟩:=r;cases e
   exact⟨t,rfl⟩
  |succ i=>exact d i v e
abbrev Jm(K:bA)(te:TE):TE:=λσ H Q=>te σ H λx b=>∃l xs,x=.ref l/\SqL K b l (xs.map V.str)/\xs.length<4000/\Q (.int (iK xs:Nat)) b
variable{p p2 ey:Pos}
def Jn{pos:Pos}(hc:X.calm=af)(m:Gl X "len")(B:X.mg "len"=ae)(z:Gl X "set")(J:X.mg "set"=ae)(he:PE X e te)
 (U:a8 [.Call (.Name "set" p2) [e] [] ey] X.env=(aj,eval (.Call (.Name "set" p2) [e] [] ey) X.env)::a8 [] X.env:=by rfl)(Y:a8 [e] X.env=(aj,eval e X.env)::a8 [] X.env:=by rfl)
 (L:(eE pos (a8 [] X.env)).any (·.1)=aj:=by rfl)(d:(eE ey (a8 [] X.env)).any (·.1)=aj:=by rfl):
  PE X (.Call (.Name "len" p) [.Call (.Name "set" p2) [e] [] ey] [] pos) (Jm X.K te):=by
 intro pins s σ H Q I h;refine lO (ja I m B dZ ?_);refine zv ?_ U L;rw[U];refine lS (lO (ja I z J boot_set ?_));refine lN ?_ Y d;rw[Y];refine lS (thn (he pins s σ H _ I h) λu s1 q_=>?_);obtain⟨x,H1,f,r1,l,xs,rfl,hq,hb,q⟩:=q_;cases r1;refine bh ?_;obtain⟨its,rr,pl,hz⟩:=f.list hq;have ii:xh its xs:=B6 rr;have zz:its.toArray.size=xs.length:=by rw[size_toArray,ii.1]
 refine Jl (items:=its.toArray) (xs:=xs) (f.ok.hd hc) pl.isList (by simpa using ii) (by rw[zz];unfold scanBound;lia) λh' tk qs keep=>?_;rw[zz]at qs;refine bh ?_;obtain⟨o,T,ep,tb,ho,hex,hd,_,_,N,hf,hn⟩:=qs
 refine call_len_set (s:={s1 with heap:=h',toks:=tk}) ho hex hd hf (by unfold scanBound at N;lia) ?_
 refine⟨.int (iK xs:Nat),H1,f.kept λb u g=>keep b u (bI g) g,?_,q⟩;rw[hn];exact⟨_,rfl⟩
def B7:∀(xs:LSt),gL (xs.map D.str)=aa xs
 | []=>rfl
 |x::xs=>by show(gL _).map _=_;rw[B7 xs];rfl
def B8{G:Gc}{H:Hp}:∀{xs:LSt} {vs:List V},aC G H (xs.map D.str) vs->vs=xs.map V.str
 | [],_,r=>r
 |x::xs,_,r=>by
  obtain⟨v,vs,rfl,b,d⟩:=r;rw[B8 d,show v=V.str x from b];rfl
abbrev lu(f:MF1)(ρ:LS):OD:=(f ρ).bind λd=>(lsD d).bind λds=>(gL ds).bind λxs=>if xs.length<4000 then aa (.int (iK xs:Nat)) else ae
variable{f:MF1}
def Jo(h:f ρ=aa (.lst (xs.map D.str)))(b:xs.length<4000):lu f ρ=aa (.int (iK xs:Nat)):=by
 unfold lu;rw[h];show((gL (xs.map D.str)).bind λxs=>if xs.length<4000 then aa (D.int (iK xs:Nat)) else ae)=_;rw[B7];exact if_pos b
def B9{pos:Pos}(hc:X.calm=af)(o:Gl X "len")(z:X.mg "len"=ae)(u:Gl X "set")(B:X.mg "set"=ae)(ha:DE c X e f)
 (U:a8 [.Call (.Name "set" p2) [e] [] ey] X.env=(aj,eval (.Call (.Name "set" p2) [e] [] ey) X.env)::a8 [] X.env:=by rfl)(Y:a8 [e] X.env=(aj,eval e X.env)::a8 [] X.env:=by rfl)
 (J:(eE pos (a8 [] X.env)).any (·.1)=aj:=by rfl)(m:(eE ey (a8 [] X.env)).any (·.1)=aj:=by rfl):DE c X (.Call (.Name "len" p) [.Call (.Name "set" p2) [e] [] ey] [] pos) (lu f):=
 PE.imp (Jn hc o z u B ha U Y J m) λσ H Q q_=>by
  obtain⟨Hf0,H0,Hf,ρ,ds,st,b,k⟩:=q_;unfold lu at b;obtain⟨d,L,b⟩:=cs.mp b;obtain⟨xs,N,b⟩:=cs.mp b;obtain⟨ts,T,b⟩:=cs.mp b;split at b
  .rename_i hl;cases b;refine⟨Hf0,H0,Hf,ρ,d,st,L,λv Hf' H' x r=>?_⟩;obtain⟨l,vs,rfl,q,rs⟩:=jg N r;rw[wW T]at rs;obtain rfl:=B8 rs;exact⟨l,ts,rfl,x.s.seq q,hl,k _ Hf' _ x rfl⟩
  .nomatch b
def Ca(val:Nat->Str):∀i k,k∈eA val i↔∃j,j<i/\val j=k
 | 0,k=>⟨(λh=>nomatch h),λ⟨j,h,_⟩=>absurd h (Nat.not_lt_zero _)⟩
 |i+1,k=>by
  have l:=Ca val i k;have e:=B4 (eA val i) (val i) k;have any:∀(σ:LSt),σ.any (·==k)=af↔k∈σ:=λσ=>by simp[any_eq_true]
  rw[<- any];show(kg (eA val i) (val i)).any (·==k)=af↔_;rw[e,gp,any,l,decide_eq_true_eq];constructor
  .rintro(⟨j,d,b⟩ |rfl)
   .exact⟨j,by lia,b⟩
   .exact⟨i,by lia,rfl⟩
  .rintro⟨j,d,b⟩
   rcases lM j i with h |h
   .exact .inl ⟨j,h,b⟩
   .obtain rfl:j=i:=by lia
    exact .inr b.symm
def Cb(val:Nat->Str):∀i,(eA val i).length=i↔∀j k,j<k->k<i->val j≠val k
 | 0=>⟨λ_ j k _ h=>by lia,λ_=>rfl⟩
 |i+1=>by
  have m:=Cb val i;have o:=tN val i;show(kg (eA val i) (val i)).length=i+1↔_;rw[B5];have any:(eA val i).any (·==val i)=af↔∃j,j<i/\val j=val i:=by rw[<- Ca];simp[any_eq_true]
  by_cases h:(eA val i).any (·==val i)=af
  .rw[if_pos h];obtain⟨j,b,d⟩:=any.mp h;exact⟨λe=>by lia,λg=>absurd d (g j i b (by lia))⟩
  .rw[if_neg h];constructor
   .intro e j k b d l
    rcases lM k i with h4 |h4
    .exact m.mp (by lia) j k b h4 l
    .obtain rfl:k=i:=by lia
     exact h (any.mpr ⟨j,b,l⟩)
   .intro g;rw[m.mpr λj k b d=>g j k b (by lia)]
def Jp(xs:LSt):iK xs<=xs.length:=tN _ _
def Jq(xs:LSt):iK xs=xs.length↔xs.Nodup:=by
 unfold iK;rw[Cb,qQ,pairwise_iff_getElem];constructor
 .intro h i j hi d b e;refine h i j b d ?_;show xs.getD i ""=xs.getD j "";rw[jG,jG,fH hi,fH d];exact congrArg (λz=>(aa z).getD ("":Str)) e
 .intro h i j b d e;have hi:i<xs.length:=by lia
  refine h i j hi d b ?_;have e:xs.getD i ""=xs.getD j "":=e;rw[jG,jG,fH hi,fH d]at e;exact e
abbrev Sl.frz:Sl->Sl
 |.im d=>.im d
 |.own xs=>.im (.lst xs)
 |.deep o=>if o.kn then .im o.toD else .no
 | _=>.no
section
variable(k:Nat)(js:LN)(jp t:Nat)(g:D->LS->Option LS)(tt:Xt)(fe:Xe)(ρ:LS)(l:Addr)
end
abbrev pQ(g:D->LS->Option LS)(f:Xe)(ρ:LS):Option Fl:=(f ρ).bind λp=>(g p.1 p.2).map .nx
def Jr{pos:Pos}{f:Xe}(u:DX c X e f)(z:DG c X tg k g)(B:oR [tg] e pos.line X.env=pure aj:=by rfl)(J:oS [tg] e X.env=pure ae:=by rfl)
 (q:(eD [tg] X.env).map (·.2)=[gx tg X.env]:=by rfl):DS c X (.Assign [tg] e pos) (pQ g f):=PS.imp (rL u z.pg B J q) λE σ H N=>by
 obtain⟨Hf0,H0,Hf,ρ,o,T,b,L⟩:=N;unfold pQ at b;obtain⟨p,l,b⟩:=cs.mp b;obtain⟨ρ',m,b⟩:=jJ.mp b;subst b;exact⟨Hf0,H0,Hf,ρ,p.1,p.2,T,l,λv Hf' H' f1 st r=>⟨Hf0,H0,Hf',p.2,p.1,ρ',st,r,m,λσ' d=>L σ' Hf' H' f1 d⟩⟩
variable{ρ1 ρ':LS}{d:D}{K:Fl->Prop}
def Js{f:Xe}(h:f ρ=aa (d,ρ1))(h':g d ρ1=aa ρ')(k:K (.nx ρ')):wp (pQ g f) ρ K:=⟨_,by unfold pQ;rw[h,aR,h'];rfl,k⟩
def DE.pe(h:DE c X e f):PE X e (tD (Gx c X) f):=h
def DX.pe{f:Xe}(h:DX c X e f):PE X e (tDX (Gx c X) f):=h
section
variable{prog:cS}{w:World}{K:Type}[DecidableEq K]{knd:KeyKind prog w K}{A:cZ}{E:PRS}{s:aE}
def Jt{d:Addr}{kvs:List (K×Value)}{k:K}{key dv:Value}{Q:PRS}(m:knd.is k key=af)(hm:s.heap.DictOf knd d kvs)(hz:kvs.length<=bn)
 (h1:∀v,gT kvs k=aa v->Q v {s with toks:=s.toks+1})
 (h2:gT kvs k=ae->∀h',h'.DictOf knd d (ig kvs k dv)->gU d s.heap h'->Q dv {s with heap:=h',toks:=s.toks+1}):
  wpAny (model prog w) A (dictSetDefault d key dv) Q E s:=by
 have hmm:=hm.mapOf;obtain⟨o,es,ep,N,hc,hd,hk,hp,hn⟩:=hm
 have Y:es.size<=bn:=by
  have e1:=hp.length;have e2:es.toList.length=es.size:=by simp
  lia
 obtain⟨o',es',ep',T,hc',B,hk',hf⟩:=hmm;rw[N]at T;cases T;rw[hd]at B;cases B
 have L:(es.findIdx? λe=>knd.is k e.key)=kvs.findIdx? λU=>decide (U.1=k):=by
  rw[<- hp.findIdx k];obtain⟨l⟩:=es;simp
 unfold dictSetDefault
 try with_reducible refine dP ?_
 refine ao (knd.pyHash m ?_)
 refine ao (wpAny_dictFind_of (s:={s with toks:=s.toks+1}) m N hd hk ?_)
 cases hi:es.findIdx? λe=>knd.is k e.key with
 |some i=>
  have q:gT kvs k=(es[i]?).map (·.val):=by rw[<- hf k,findBy_of_findIdx?,hi]
  refine ao (wpAny_dictEntries (s:={s with toks:=s.toks+1}) N hd ?_)
  cases J:es[i]? with
  |none=>
   exfalso;have:=Array.findIdx?_eq_some_iff_findIdx_eq.mp hi;have hlt:i<es.size:=this.1;rw[Array.getElem?_eq_getElem hlt]at J
   exact nomatch J
  |some e=>
   rw[J]at q
   exact ao (wpAny_rule (bh (h1 e.val q)))
 |none=>
  have q:gT kvs k=ae:=by rw[<- hf k,findBy_of_findIdx?,hi]
  have z:k∉kvs.map (·.1):=not_mem_of_findIdx_none (L▸hi)
  have u:¬(kvs.any λU=>decide (U.1=k))=af:=by
   rw[any_eq_true];rintro⟨U,hkv,J⟩;exact z (bZ.mpr ⟨U,hkv,of_decide_eq_true J⟩)
  refine ao (wpAny_rule (ao (wpAny_updateDictKeys (hz:=Y) (s:={ s with toks:=s.toks + 1 }) N hd (bh (h2 q _ ⟨_,_,ep + 1,m7 _ N (Obj.isFreed_of_dict (Obj.data_mapDictKeys hd _)),
   hc.mapDictKeys _,Obj.data_mapDictKeys hd _,hk.push m _,?_,?_⟩ (gU.update ..))))))
  .rw[ig,if_neg u];have:=hp.append m (knd.hash k) dv;obtain⟨l⟩:=es
   simpa using this
  .rw[ig,if_neg u,bU,kP];refine⟨hn,by simp,?_⟩;intro a ha b hb;simp only[di,map_nil,bj]at hb;subst hb;exact λe=>z (e▸ha)
def Ju(knd:KeyKind prog w K)(d:Addr)(key:Value)(hd:(d==gb)=aj)(dv:Value):
  MeetsIn prog w (df.«dict.setdefault» ⟨[.ref d,key,dv],[]⟩) (λ_ R s=>∃ k kvs,knd.is k key=af/\s.heap.DictOf knd d kvs/\kvs.length<=bn /\
   (∀v,gT kvs k=aa v->R (.ok (.ret v)) {s with toks:=s.toks+1}) /\
   (gT kvs k=ae->∀h',h'.DictOf knd d (ig kvs k dv)->gU d s.heap h'->R (.ok (.ret dv)) {s with heap:=h',toks:=s.toks+1})):=
 .of_wp λA R s L=>by
  obtain⟨k,kvs,u,m,hz,o,q⟩:=L;refine ao ?_;refine ao (vm m.typeIs ?_);refine bh ?_;show wpAny _ _ (if _=af then _ else _) _ _ s;rw[hd,if_neg (λz=>nomatch z)];exact ao (Jt u m hz (λv J=>bh ⟨v,rfl,o v J⟩) λB h' b l=>bh ⟨dv,rfl,q B h' b l⟩)
end
abbrev mx(kvs more:List (Key×V)):List (Key×V):=more.foldl (λb l=>fq b l.1 l.2) kvs
def KV.mergeL{more:List (Key×V)}{l:List (Key×Value)}(b:KV more l):∀{kvs:List (Key×V)} {vs:List (Key×Value)},KV kvs vs->KV (mx kvs more) (merged vs l):=by
 unfold KV at b
 induction b with
 |nil=>exact λh=>h
 | @cons p q ps u r _ o=>
  intro kvs vs h;obtain⟨m,z⟩:=r;have:=o (h.put q.1 z);rw[<- m]at this;show KV (mx (fq kvs p.1 p.2) ps) (merged (ig vs q.1 q.2) u);rw[<- m];exact this
def Jv(more:List (Key×V)):∀kvs:List (Key×V),(mx kvs more).length<=kvs.length+more.length:=by
 induction more with
 |nil=>exact λ_=>bL _
 |cons p more b=>
  intro kvs;have l:=b (fq kvs p.1 p.2);have m:=AB kvs p.1 p.2;show(mx (fq kvs p.1 p.2) more).length<=_;rw[cL];lia
def Jw(more:List (Key×V)):∀kvs:List (Key×V),((kvs++more).map (·.1)).Nodup->mx kvs more=kvs++more:=by
 induction more with
 |nil=>exact λkvs _=>(dh kvs).symm
 |cons p more m=>
  intro kvs nd
  have b:fq kvs p.1 p.2=kvs++[p]:=by
   unfold fq;rw[if_neg];rw[any_eq_true];rintro⟨x,l,e⟩;rw[bU,di,kP]at nd;exact nd.2.2 x.1 (bZ.mpr ⟨x,l,rfl⟩) p.1 bR (of_decide_eq_true e)
  show mx (fq kvs p.1 p.2) more=_;rw[b,m (kvs++[p]) (by simpa using nd)];simp
abbrev Cc:V->List V->Hp->VK->Prop:=λx vs H Q=>∃d b kvs more,x=.ref d/\vs=[.ref b]/\d≠b/\H d=aa (.dK kvs)/\Rd H b (.dK more)/\kvs.length+more.length<=bn/\Q .non (upd H d (.dK (mx kvs more)))
def Jx:MtR X "dict.update" Cc:=by
 rintro pins s σ H x vs v us Q I rx rv ⟨d,b,kvs,more,rfl,rfl,J,hd,T,hz,q⟩;cases rx;obtain⟨u,rfl,ru⟩:=rv.one;cases ru;obtain⟨z1,n1,L,l,z⟩:=vZ I.hok hd;obtain⟨z2,n2,N,m,B⟩:=k9 I.hok T;refine call_meetsIn PySem.F.slot_dict_update z.typeIs PySem.F.entry_dict_update (PySem.F.args_dict_update_2 _ _) (meets_dict_update _ d b J n2) ⟨L,N,z,B,by rw[<- l.length,<- m.length];exact hz,λh' o _ Y=>?_⟩;have U:∃q,h'.get? d=aa q:=let ⟨q,_,_,hq,_⟩:=o;⟨q,hq⟩;exact⟨.non,_,AE (t':=s.toks) I (by rw[hd];exact True.intro) Y U (v5 (c9 (Jv more kvs) hz) n1 (m.mergeL l) o),rfl,q⟩
abbrev Cd:V->List V->Hp->VK->Prop:=λx vs H Q=>∃d kvs k v,x=.ref d/\vs=[kV k,v]/\H d=aa (.dK kvs)/\(∀u,d8 kvs k=aa u->Q u H)/\(d8 kvs k=ae->kvs.length<bn/\Q v (upd H d (.dK (fq kvs k v))))
def Ce:MtR X "dict.setdefault" Cd:=by
 rintro pins s σ H x vs v us Q I rx b ⟨d,kvs,k,L,rfl,rfl,hd,q1,q2⟩;cases rx;obtain⟨u1,u2,rfl,r1,J⟩:=na b;obtain⟨z,B,u,l,dd⟩:=vZ I.hok hd;refine call_meetsIn vB dd.typeIs PySem.F.entry_dict_setdefault (PySem.F.args_dict_setdefault_3 _ _ _) (Ju _ d u1 B u2) ⟨k,u,pc r1,dd,by rw[<- l.length];exact z,λw Y=>?_,λT h' o U=>?_⟩
 .have b:=l.val k;rw[Y]at b
  cases m:d8 kvs k with
  |none=>rw[m]at b;exact b.elim
  |some v=>rw[m]at b;exact⟨v,H,I.tok _,b,q1 v m⟩
 .have m:d8 kvs k=ae:=by
   have b:=l.val k;rw[T]at b
   cases m:d8 kvs k with
   |none=>rfl
   |some v=>rw[m]at b;exact b.elim
  obtain⟨hl,q⟩:=q2 m;have N:∃q,h'.get? d=aa q:=let ⟨q,_,_,hq,_⟩:=o;⟨q,hq⟩;have:=AB kvs k L;exact⟨L,_,AE I (by rw[hd];exact True.intro) U N (v5 (by lia) B (l.put k J) o),J,q⟩
def Jy:d7 X (.type "dict") (λxs H Q=>∃a kvs,xs=[.ref a]/\Rd H a (.dK kvs)/\∀p,H p=ae->Q (.ref p) (upd H p (.dK kvs))):=by
 rintro pins s σ H xs ws Q I r ⟨a,kvs,rfl,rd,q⟩;obtain⟨_,rfl,m⟩:=jR r;cases m;exact GN I rd λp s' l b=>⟨.ref p,_,b,rfl,q p l⟩
def Jz:d7 X (.builtin "len") (λxs H Q=>∃a kvs,xs=[V.ref a]/\Rd H a (.dK kvs)/\Q (.int kvs.length) H):=by
 rintro pins s σ H xs ws Q I r ⟨a,kvs,rfl,rd,q⟩;obtain⟨_,rfl,l⟩:=jR r;cases l;exact GD I rd λt s' b=>⟨.int kvs.length,H,b,⟨t,rfl⟩,q⟩
def lv{pos:Pos}{i:Int}(m:Gl X x)(b:∃t,X.mg x=aa (.int i t))(hd:NDb x:=by decide):DE c X (.Name x pos) (λ_=>aa (.int i)):=by
 obtain⟨t,b⟩:=b
 exact PE.imp (oY m b (v:=.int i) ⟨t,rfl⟩ hd) λσ H Q o=>by
  obtain⟨Hf0,H0,Hf,ρ,d,st,l,k⟩:=o;cases l;exact k _ Hf H (Ext.refl st.sub) rfl
def xi{pos:Pos}:DE c X (.Dict [] [] pos) (λ_=>aa (.dic [] [])):=PE.imp AG λσ H Q m=>by
 obtain⟨Hf0,H0,Hf,ρ,d,st,b,k⟩:=m;cases b;intro q l;exact k _ _ _ (Ext.new st.sub l) ⟨q,[],rfl,bN,rfl,.nil⟩
abbrev pR(i:Nat)(f:MF1)(ρ:LS):Option Fl:=(f ρ).bind λd=>(jr d).map λr=>.nx (ρ.set i (.ownd r.1 r.2))
variable{b5 c0:Pos}
def JA{pos:Pos}(i:Nat)(Y:X.N.Nodup)(hg:Gl X "dict")(hm:X.mg "dict"=ae)(he:DE c X e f)(hi:X.N[i]?=aa x:=by rfl)(hx:Loc X.env.scope x:=by first |exact bV rfl |exact bE rfl)(u:a8 [e] X.env=(aj,eval e X.env)::a8 [] X.env:=by rfl)
 (hs:eX (.Call (.Name "dict" p) [e] [] pos) (aa (.Name x b5)) c0.line X.env=pure aj:=by rfl)(hf:LcF X x:=by first |exact .inl rfl |exact .inr rfl):
  DS c X (.Assign [.Name x b5] (.Call (.Name "dict" p) [e] [] pos) c0) (pR i f):=PS.imp (k4 Y hi hx (rX Jy hg hm wV (bJ he ci u) (by decide) (by decide) u rfl) hs hf) λE σ H q_=>by
 obtain⟨Hf0,H0,Hf,ρ,o,L,m,k⟩:=q_;unfold pR at m;obtain⟨d,T,m⟩:=cs.mp m;obtain⟨r,U,m⟩:=jJ.mp m;subst m;refine⟨Hf0,H0,Hf,ρ,d,L,T,λv Hf' H' J rv=>?_⟩;obtain⟨a,vs,rfl,rd,z,rs⟩:=tu U rv;refine⟨a,r.1.zip vs,rfl,rd.up J.s,λq B=>?_⟩;have b:=L.step J;exact k _ Hf' _ J.f (b.setOwn (i:=i) (l:=q) (s:=.ownd r.1 r.2) rfl (Ext.grow b.sub (cv B)) B (b.sub.free B) ⟨vs,bN,z,rs⟩)
def JB{r:List Key×LD}(h:f ρ=aa d)(h':jr d=aa r)(q:K (.nx (ρ.set i (.ownd r.1 r.2)))):wp (pR i f) ρ K:=⟨_,by unfold pR;rw[h,aR,h'];rfl,q⟩
abbrev pS(i:Nat)(f:MF1)(ρ:LS):Option Fl:=match ρ[i]? with
 |some (.ownd ks xs)=>(f ρ).bind λd=>(jr d).bind λr=>if (ks++r.1).Nodup/\ks.length+r.1.length<=16777216 then aa (.nx (ρ.set i (.ownd (ks++r.1) (xs++r.2)))) else ae
 | _=>ae
variable{ks:List Key}
def Cf{vs:List V}(h:ks.length=vs.length):(ks.zip vs).map (·.1)=ks:=by
 rw[oJ (by lia)]
def JC(h:PS X st (kZ (tBM X.K "dict" Cc (eL i) (k7 (tD (Gx c X) f) lX)))):DS c X st (pS i f):=PS.imp h λE σ H q_=>by
 obtain⟨Hf0,H0,Hf,ρ,o,B,m,k⟩:=q_;unfold pS at m;split at m
 .rename_i ks xs es;obtain⟨d,L,m⟩:=cs.mp m;obtain⟨r,N,m⟩:=cs.mp m;split at m
  .rename_i U;have m:=cu m;subst m;obtain⟨l,J,h0,Y,vs,q,z,rr⟩:=B.ownAt rfl es;refine⟨_,J,.inr (.inr (.inl ⟨rfl,.inl ⟨_,q⟩⟩)),Hf0,H0,Hf,ρ,d,B,L,λw Hf' H' x r'=>?_⟩;obtain⟨b,us,T,rd,z2,r2⟩:=tu N r';subst T;have u:Hf' l=ae:=(x.n l _ q rfl).trans Y;have hz:(ks.zip vs).length+(r.1.zip us).length<=bn:=by rw[iY,iY,cY];lia
   refine⟨l,b,_,_,rfl,rfl,λe=>?_,x.h _ _ q,rd.up x.s,hz,?_⟩
   .subst e
    rcases rd with rd |⟨_,rd⟩ <;> (rw[u]at rd;nomatch rd)
   refine k σ Hf' _ x.f ((B.step x).mutd rfl rfl es J ⟨vs++us,?_,by rw[bg,bg,z,z2],(rr.up x.f).append r2⟩);rw[bN,Jw _ _ (by rw[bU,Cf z,Cf z2];exact U.1),zip_append z]
  .nomatch m
 .nomatch m
def JD{xs:LD}{r:List Key×LD}(b:ρ[i]?=aa (.ownd ks xs))(h:f ρ=aa d)(h':jr d=aa r)(m:(ks++r.1).Nodup)(l:ks.length+r.1.length<=16777216)(q:K (.nx (ρ.set i (.ownd (ks++r.1) (xs++r.2))))):wp (pS i f) ρ K:=⟨_,by
 unfold pS;rw[b];dsimp only;rw[h,aR,h',aR,if_pos ⟨m,l⟩],q⟩
abbrev my(i:Nat)(b l:MF1)(ρ:LS):Option Fl:=match ρ[i]? with
 |some (.ownd ks xs)=>(b ρ).bind λy=>(jk y).bind λk=>(l ρ).bind λd=>if mi ks k=af then aa (.nx ρ) else if ks.length<16777216 then aa (.nx (ρ.set i (.ownd (ks++[k]) (xs++[d])))) else ae
 | _=>ae
variable{fv:MF1}
def Cg{U:MF1}(h:PS X st (kZ (tBM X.K "dict" Cd (eL i) (k7 (tD (Gx c X) U) (k7 (tD (Gx c X) fv) lX))))):DS c X st (my i U fv):=PS.imp h λE σ H q_=>by
 obtain⟨Hf0,H0,Hf,ρ,o,B,b,k⟩:=q_;unfold my at b;split at b
 .rename_i ks xs es;obtain⟨y,e1,b⟩:=cs.mp b;obtain⟨N,e2,b⟩:=cs.mp b;obtain⟨d,e3,b⟩:=cs.mp b;obtain⟨l,T,h0,hf,vs,q,z,rr⟩:=B.ownAt rfl es;refine⟨_,T,.inr (.inr (.inl ⟨rfl,.inl ⟨_,q⟩⟩)),Hf0,H0,Hf,ρ,y,B,e1,λw L H1 x1 r1=>⟨Hf0,H0,L,ρ,d,B.step x1,e3,λv m H2 x2 r2=>?_⟩⟩;have ev:=po e2 r1;subst ev;have x:=x1.trans x2;have J:=Hw (k:=N) z;refine⟨l,_,N,v,rfl,rfl,x.h _ _ q,λu hu=>?_,λY=>?_⟩
  .rw[hu]at J;rw[if_pos (show mi ks N=af from J.symm)]at b;have b:=cu b;subst b;exact k σ m _ x.f (B.step x)
  .rw[Y]at J;rw[if_neg (λe=>by rw[<- J]at e;nomatch e)]at b;split at b
   .rename_i hl;have b:=cu b;subst b;refine⟨by rw[iY,cY];lia,k σ m _ x.f ((B.step x).mutd rfl rfl es T ⟨vs++[v],?_,by rw[bg,bg,z];rfl,(rr.up x.f).append (.cons r2 .nil)⟩)⟩;rw[bN,GB v Y,zip_append z];rfl
   .nomatch b
 .nomatch b
abbrev Ch:D->OD
 |.dic ks _=>aa (.int (ks.length:Nat))
 |.kd ks _=>aa (.int (ks.length:Nat))
 | _=>ae
variable{a:Expr}{G:Gc}{v:V}
def JE{y:D}(e:Ch d=aa y)(r:Rep G H d v):∃a kvs,v=.ref a/\Rd H a (.dK kvs)/\y=.int (kvs.length:Nat):=by
 cases d with
 |dic ks xs=>
  cases e;obtain⟨a,vs,rfl,q,z,_⟩:=r
  exact⟨a,_,rfl,.inl q,by rw[iY,<- z,oM]⟩
 |kd ks xs=>
  cases e;obtain⟨a,od,vs,rfl,q,z,_⟩:=r
  exact⟨a,_,rfl,.inr ⟨od,q⟩,by rw[iY,<- z,oM]⟩
 | _=>nomatch e
abbrev gM(f:MF1)(ρ:LS):OD:=(f ρ).bind Ch
def pU{pos:Pos}(u:Gl X "len")(z:X.mg "len"=ae)(q:DB c X e f)(b:a8 [e] X.env=(aj,eval e X.env)::a8 [] X.env:=by rfl):DE c X (.Call (.Name "len" p) [e] [] pos) (gM f):=
 PE.imp (ng Jz u z dZ (bJ q ci b) (by decide) (by decide) b rfl) λσ H Q B=>by
  obtain⟨Hf0,H0,Hf,ρ,d,J,l,k⟩:=B;unfold gM at l;obtain⟨y,m,o⟩:=cs.mp l;refine⟨Hf0,H0,Hf,ρ,y,J,m,λv Hf' H' x r=>?_⟩;obtain⟨a,kvs,rfl,rd,rfl⟩:=JE o r;exact⟨a,kvs,rfl,rd,k _ Hf' H' x rfl⟩
nonrec abbrev ZpO(h:Heap)(z TI TO a:Addr)(f:Bool):Prop:=
 h.get? z=aa {cls:=.type "zip",dict:=ae,data:=.fields #[rawInt a,.bool f,.bool aj,.ref TI,.ref TO],slots:=#[]}
variable{f:Bool}{oa:Obj}
def Ci{z TI TO a:Addr}{Q:Bool->aE->Prop}(hz:ZpO s.heap z TI TO a f)(o:s.heap.get? a=aa oa)(h:∀h',ZpO h' z TI TO a af->gU z s.heap h'->Q aj {s with heap:=h'}):wpAny (model P w) A (rA (.ref z)) Q E s:=by
 unfold rA;refine ao (gv hz rfl (x:=rawInt a) rfl ?_)
 change wpAny (model P w) _ (loadIfAlive ((a:Int).toNat) >>= _) _ _ _
 rw[kM];refine ao (W.kdx_alive o ?_);simp only[Option.isNone_some,kL,if_false];refine ao (gv hz rfl (x:=.bool f) rfl ?_)
 cases f with
 |true=>
  rw[if_neg (show ¬((fV af != fV af)=af)from cy)]
  exact bh (h _ hz (gU.refl _ _))
 |false=>
  rw[if_pos (show(fV aj != fV af)=af from rfl)];exact ao (wpAny_setField_rec hz (by simp) λm b l=>bh (h m b l))
variable{k1:Nat}{xs ys:Array Value}
def JF{z TI TO a T U Y l2:Addr}{k2:Nat}{x y:Value}(D:ZipApart z TI TO T U Y l2)
 (hz:ZpO s.heap z TI TO a f)(ha:s.heap.get? a=aa oa)(hTI:IsPair s.heap TI (.ref T) (.ref U))
 (h1:s.heap.IsListIter T Y k1)(h2:s.heap.IsListIter U l2 k2)(hl1:s.heap.IsList Y xs)(hl2:s.heap.IsList l2 ys)(hx:xs[k1]?=aa x)(hy:ys[k2]?=aa y)
 (hQ:∀ h',ZpO h' z TI TO a af->h'.IsListIter T Y (k1 + 1)->h'.IsListIter U l2 (k2 + 1)->IsPair h' s.heap.objs.size x y ->
   (∀c o,c≠z->c≠T->c≠U->s.heap.get? c=aa o->h'.get? c=aa o)->Q (aa (.ref s.heap.objs.size)) {s with heap:=h'}):
  wpAny (model P w) A (pyNext (.ref z)) Q E s:=by
 have hT:s.TypeIs (.ref z) "zip":=⟨_,hz,rfl⟩;unfold pyNext;refine ao (rh (vh (name:=Str.ofString "__next__") hT rC (wpAny_call_entry rC hT F.entry_zip_next ?_ (F.args_zip_next_1 _))));show wpAny _ _ (field (.ref z) 2 >>= _) _ _ _;refine ao (gv hz rfl (x:=.bool aj) rfl ?_);show wpAny _ _ (field (.ref z) 3 >>= _) _ _ _;refine ao (gv hz rfl (x:=.ref TI) rfl ?_);refine ao (oP hTI rfl ?_);show wpAny _ _ (rA (.ref z) >>= _) _ _ _;refine ao (Ci hz ha λk8 L b=>?_);simp only[kL,if_false];rw[<- Array.forIn_toList];simp only[forIn_cons,forIn_nil];refine ao (ao (ao (dP ?_)));show wpAny _ _ (vq (.ref T) >>= _) _ _ _;refine ao (wpAny_nextOf_list_item (h1.extBut b.extBut D.i1z) (hl1.extBut b.extBut D.l1z) hx λh₂ u l=>bh (bh ?_));refine ao (ao (dP ?_));show wpAny _ _ (vq (.ref U) >>= _) _ _ _;refine ao (wpAny_nextOf_list_item ((h2.extBut b.extBut D.i2z).extBut l.extBut D.i12.symm) ((hl2.extBut b.extBut D.l2z).extBut l.extBut D.l2i1) hy λq J m=>bh (bh (bh ?_)));refine ao (wpAny_newTuple (hsz:=by show 2<=bn;rw[cY];decide) ?_);have hsz:q.objs.size=s.heap.objs.size:=by rw[m.1,l.1,b.1]
 have N:ZpO q z TI TO a af:=m.extBut _ _ D.i2z.symm (l.extBut _ _ D.i1z.symm L);refine bh ⟨_,rfl,bh ?_⟩;show Q (aa (.ref q.objs.size)) _;rw[hsz];have B:=u.extBut m.extBut D.i12;refine hQ (q.push {cls:=.type "tuple",data:=.seq #[x,y]}) (cg _ N) (B.at λo e=>cg _ e) (J.at λo e=>cg _ e) ?_ λc o c1 c3 c4 e=>cg _ (m.extBut _ _ c4 (l.extBut _ _ c3 (b.extBut _ _ c1 e)));rw[<- hsz];exact e6 _ rfl
def JG{z TI TO a q L N l2:Addr}(hh:A.handled=ae)(D:ZipApart z TI TO q L N l2)
 (hz:ZpO s.heap z TI TO a f)(ha:s.heap.get? a=aa oa)(u:IsPair s.heap TI (.ref q) (.ref L))(h1:s.heap.IsListIter q N k1)(B:s.heap.IsList N xs)(hx:xs[k1]?=ae)
 (hQ:∀h',(∀c o,c≠z->c≠q->c≠L->s.heap.get? c=aa o->h'.get? c=aa o)->Q ae {s with heap:=h'}):wpAny (model P w) A (pyNext (.ref z)) Q E s:=by
 have U:s.TypeIs (.ref z) "zip":=⟨_,hz,rfl⟩;unfold pyNext;refine ao (rh (vh (name:=Str.ofString "__next__") U rC (wpAny_call_entry rC U F.entry_zip_next ?_ (F.args_zip_next_1 _))));show wpAny _ _ (field (.ref z) 2 >>= _) _ _ _;refine ao (gv hz rfl (x:=.bool aj) rfl ?_);show wpAny _ _ (field (.ref z) 3 >>= _) _ _ _;refine ao (gv hz rfl (x:=.ref TI) rfl ?_);refine ao (oP u rfl ?_);show wpAny _ _ (rA (.ref z) >>= _) _ _ _;refine ao (Ci hz ha λY J l=>?_);simp only[kL,if_false];rw[<- Array.forIn_toList];simp only[forIn_cons,forIn_nil];refine ao (ao (ao (dP ?_)));show wpAny _ _ (vq (.ref q) >>= _) _ _ _;refine ao (wpAny_nextOf_list_end hh (h1.extBut l.extBut D.i1z) (B.extBut l.extBut D.l1z) hx λh₂ e m he=>?_);obtain⟨o,ho,hc⟩:=he;refine ao (wpAny_isInstance (T:="StopIteration") (b:=af) ⟨o,ho,hc⟩ isSubtype_stop ?_);exact bh (hQ _ λc o c1 c3 _ x=>m _ _ c3 (l.extBut _ _ c1 x))
abbrev ZSt(h:Heap)(D z TI TO l m:Addr):Prop:=(IsZip h z TI TO .none/\∃a b,IsPair h TO a b)\/∃a oa f,ZpO h z TI TO a f/\h.get? a=aa oa/\a≠D/\a≠z/\a≠l/\a≠m
def JH{D z TI TO l m N T:Addr}{x y:Value}(Z:ZipApart z TI TO l m N T)(hD:D<s.heap.objs.size)
 (hz:ZSt s.heap D z TI TO l m)(q:IsPair s.heap TI (.ref l) (.ref m))(h1:s.heap.IsListIter l N k)(h2:s.heap.IsListIter m T k)(u:s.heap.IsList N xs)(B:s.heap.IsList T ys)(hx:xs[k]?=aa x)(hy:ys[k]?=aa y)
 (hQ:∀h' t,ZSt h' D z TI TO l m->h'.IsListIter l N (k+1)->h'.IsListIter m T (k+1)->IsPair h' t x y->(∀c o,c≠z->c≠TO->c≠l->c≠m->s.heap.get? c=aa o->h'.get? c=aa o)->Q (aa (.ref t)) {s with heap:=h'}):
  wpAny (model P w) A (pyNext (.ref z)) Q E s:=by
 have lt:∀{c:Addr} {o:Obj},s.heap.get? c=aa o->s.heap.objs.size≠c:=λe=>mZ (bI e);have e1:s.heap.objs.size≠l:=by obtain⟨o,e,_⟩:=h1;exact lt e
 have e2:s.heap.objs.size≠m:=by obtain⟨o,e,_⟩:=h2;exact lt e
 rcases hz with⟨hz,a,b,hTO⟩ |⟨a,oa,f,hz,ha,aD,az,a1,a2⟩
 .exact wpAny_pyNext_zip_item Z hz q hTO h1 h2 u B hx hy λh' U b2 Y b4 J _ L=>hQ h' _ (.inr ⟨_,_,aj,U,J,mZ hD,lt hz,e1,e2⟩) Y b4 J L
 .exact JF Z hz ha q h1 h2 u B hx hy λh' U Y b4 J L=>hQ h' _ (.inr ⟨a,oa,af,U,L a oa az a1 a2 ha,aD,az,a1,a2⟩) Y b4 J λc o c1 _ c3 c4 e=>L c o c1 c3 c4 e
def JI(hh:A.handled=ae)(D z TI TO J L l1 l2:Addr)(Z:ZipApart z TI TO J L l1 l2)(Dz:D≠z)(DTI:D≠TI)(N:D≠TO)(D1:D≠J)(D2:D≠L)(Dl1:D≠l1)(Dl2:D≠l2)(xs ys:Array Value)(ps:List (Key×Value))(nd:(ps.map (·.1)).Nodup)(hz:ps.length<=1000)
 (hsz:xs.size=ps.length)(pa:∀(i:Nat) (p:Key×Value),ps[i]?=aa p->∃key,xs[i]?=aa key/\ys[i]?=aa p.2/\(c5 P w).is p.1 key=af):
  ∀(n i:Nat) (s:aE),i+n=ps.length->ZSt s.heap D z TI TO J L->IsPair s.heap TI (.ref J) (.ref L)->s.heap.IsList l1 xs->s.heap.IsList l2 ys->s.heap.IsListIter J l1 i->s.heap.IsListIter L l2 i->s.heap.DictOf (c5 P w) D (ps.take i) ->
   (∀h' tk,h'.DictOf (c5 P w) D ps->(∀b o,b≠D->b≠z->b≠TO->b≠J->b≠L->s.heap.get? b=aa o->h'.get? b=aa o)->R (.ok (.ret .none)) {s with heap:=h',toks:=tk}) ->
   fU (model P w) A (.builtin "dict.update.loop" ⟨[.ref D,.ref z,.int i 0,.none],[]⟩) R s:=by
 intro n
 induction n with
 |zero=>
  intro i s hi zs m q u h1 h2 hd k;refine kU tB ?_;rw[rj lm];unfold df.«dict.update.loop»;dsimp only;have hx:xs[i]?=ae:=u5 (by lia)
  have fin:∀h',(∀c o,c≠z->c≠TO->c≠J->c≠L->s.heap.get? c=aa o->h'.get? c=aa o)->R (.ok (.ret .none)) {s with heap:=h'}:=λh' kk=>by
   have e:ps.take i=ps:=mV (by lia);rw[e]at hd;obtain⟨od,es,ep,ho,r⟩:=hd;exact k h' s.toks ⟨od,es,ep,kk D od Dz N D1 D2 ho,r⟩ λb o _ b1 b2 b3 b4 T=>kk b o b1 b2 b3 b4 T
  rcases zs with⟨hz,a,b,Y⟩ |⟨a,oa,f,hz,ha,aD,az,a1,a2⟩
  .refine ao (wpAny_pyNext_zip_end (A:=A.in1) hh Z hz m Y h1 h2 q u (.inl hx) λh' kk=>?_);dsimp only;exact ao (bh (bh (fin h' kk)))
  .refine ao (JG (A:=A.in1) hh Z hz ha m h1 q hx λh' kk=>?_);dsimp only
   exact ao (bh (bh (fin h' λc o c1 _ c3 c4 e=>kk c o c1 c3 c4 e)))
 |succ n ih=>
  intro i s hi zs m q u h1 h2 hd k;refine kU tB ?_;rw[rj lm];unfold df.«dict.update.loop»;dsimp only;obtain⟨p,hp⟩:∃p,ps[i]?=aa p:=⟨_,fH (by lia)⟩;obtain⟨key,e1,e2,hk⟩:=pa i p hp;have hDlt:D<s.heap.objs.size:=by obtain⟨od,es,ep,ho,r⟩:=hd;exact bI ho
  refine ao (JH Z hDlt zs m h1 h2 q u e1 e2 λha t zs1 i11 i21 ht kk=>?_);dsimp only
  have hd1:ha.DictOf (c5 P w) D (ps.take i):=by
   obtain⟨od,es,ep,ho,r⟩:=hd;exact⟨od,es,ep,kk D od Dz N D1 D2 ho,r⟩
  have ht1:ha.IsTuple t #[key,p.2]:=⟨_,ht,rfl,_,rfl⟩;refine ao (dP (ao (wpAny_tryCatch ?_)));unfold zx
  refine ao (lQ (s:={s with heap:=ha}) ht1.typeIs ?_)
  rw[if_pos (by decide)];obtain⟨o,T,oc,nn,od⟩:=id ht1;refine ao (oP T od ?_);refine bh ?_;show wpAny _ _ (gw [key,p.2] (dictSet D key p.2)) _ _ _;refine dP (wpAny_dictSet_pairs (kvs:=ps.take i) hk hd1 (λh2 d2 l=>?_) (by rw[gr,cY];lia))
  have B:ps=ps.take i++p::ps.drop (i+1):=by
   have h0:i<ps.length:=by lia
   have:ps[i]=p:=by rw[fH h0]at hp;exact cu hp
   rw[<- this,<- qU h0,oG]
  have hst:ig (ps.take i) p.1 p.2=ps.take (i+1):=by
   unfold ig
   have hno:((ps.take i).any λkv=>decide (kv.1=p.1))=aj:=by
    rw[any_eq_false];intro kv hkv hc;rw[B,bU,di]at nd;have:=(kP.mp nd).2.2 kv.1 (bZ.mpr ⟨kv,hkv,rfl⟩) p.1 bR;exact this (of_decide_eq_true hc)
   rw[if_neg (by rw[hno];exact cy),take_add_one,hp];rfl
  rw[hst]at d2;have ke:∀b o,b≠D->b≠z->b≠TO->b≠J->b≠L->s.heap.get? b=aa o->h2.get? b=aa o:=λb o hb b1 b2 b3 b4 T=>(l.2 b hb).trans (kk b o b1 b2 b3 b4 T);refine bh ⟨m5 lm _,?_⟩
  refine ih (i+1) {s with heap:=h2,toks:=s.toks+1} (by lia) ?_ ?_ ?_ ?_ ?_ ?_ d2 λh' tk hd' kp=>k h' tk hd' λb o hb b1 b2 b3 b4 T=>kp b o hb b1 b2 b3 b4 (ke b o hb b1 b2 b3 b4 T)
  .rcases zs1 with⟨hz,a,b,Y⟩ |⟨a,oa,f,hz,ha,aD,az,a1,a2⟩
   .exact .inl ⟨(l.2 z (cq Dz)).trans hz,a,b,(l.2 TO (cq N)).trans Y⟩
   .exact .inr ⟨a,oa,f,(l.2 z (cq Dz)).trans hz,(l.2 a aD).trans ha,aD,az,a1,a2⟩
  .exact ke TI _ (cq DTI) Z.TIz Z.TITO Z.TIi1 Z.TIi2 m
  .obtain⟨o',U,r'⟩:=q;exact⟨o',ke l1 o' (cq Dl1) Z.l1z Z.l1TO Z.l1i1 Z.l1i2 U,r'⟩
  .obtain⟨o',U,r'⟩:=u;exact⟨o',ke l2 o' (cq Dl2) Z.l2z Z.l2TO Z.l2i1 Z.l2i2 U,r'⟩
  .exact i11.at λo e=>(l.2 J (cq D1)).trans e
  .exact i21.at λo e=>(l.2 L (cq D2)).trans e
def JJ:m6 (.type "zip") "keys"=pure ae:=by rw[typeLookup_type,vk];kernel_rfl
def JK:m6 (.type "zip") "__getattr__"=pure ae:=by rw[typeLookup_type,vk];kernel_rfl
def JL:entryFor table "zip.__getattribute__"=aa df.«object.__getattribute__»:=
 entryFor_alias (id':="object.__getattribute__") (by kernel_rfl) (by decide +kernel) (by decide +kernel) (by kernel_rfl)
def JM(a TI TO:Addr)(name:Str)(u:Tok)(m:m6 (.type "zip") name=pure ae)(b:(["__module__","__name__","__qualname__","__doc__","__annotations__"]:LSt).contains name=aj)(hsz:name.length+100<=bn:=by size_fits):
  Meets (df.«object.__getattribute__» ⟨[.ref a,.str name u],[]⟩) (λA R s=>IsZip s.heap a TI TO .none/\raisesAttr (.ref a) name A R s):=
 Meets.of_wp λprog w A R s l=>by
  obtain⟨o,g,d,tk,os⟩:=s;obtain⟨q,l⟩:=l;have z:(⟨o,g,d,tk,os⟩:aE).TypeIs (.ref a) "zip":=⟨_,q,rfl⟩;unfold df.«object.__getattribute__»
  repeat (any_goals (first |assumption |wp_step))
  simp only[b,kL,if_false]
  repeat (any_goals (first |assumption |wp_step))
  exact wpAny_raiseAttrError l.1 l.2 (attrMsg_fits (by decide +kernel) hsz)
def JN{z TI TO:Addr}(T:A.handled=ae)(B:IsZip s.heap z TI TO .none)
 (h:∀h' tk,(∀b o,s.heap.get? b=aa o->h'.get? b=aa o)->Q ae {s with heap:=h',toks:=tk}):wpAny (model P w) A (getAttr? (.ref z) "keys") Q E s:=by
 obtain⟨U,L,J,tq,Y⟩:=s;have u:∀m,(⟨U,L,J,m,Y⟩:aE).TypeIs (.ref z) "zip":=λ_=>⟨_,B,rfl⟩;have f1:=sub_AttributeError;have f3:=vA.lookup;have f4:=vA.bind (.ref z);have q:=JK;unfold getAttr?;unfold getAttrBy?;unfold getAttrBy
 repeat (any_goals (first |assumption |exact u _ |((with_reducible show wpAny _ _ (call (Value.builtin "zip.__getattribute__") _ _) _ _ _);refine call_meets vA (u _) JL (PySem.F.args_zip_getattribute_2 _ _) (JM z TI TO "keys" _ JJ (by decide)) ⟨B,T,λh' m e l=>?_⟩) |wp_step))
 obtain⟨ta,ua,N⟩:=l.there
 show wpAny _ _ (rf _ _ _ _ _ _ _) _ _ _;unfold rf;repeat any_goals (first |assumption |wp_step)
 exact h _ _ l.keeps
def JO{z TI TO U Y l1 l2:Addr}{ps:List (Key×Value)}{a b:Value}{Q:PRS}(hh:A.handled=ae)(Z:ZipApart z TI TO U Y l1 l2)
 (hz:IsZip s.heap z TI TO .none)(J:IsPair s.heap TI (.ref U) (.ref Y))(L:IsPair s.heap TO a b)(h1:s.heap.IsListIter U l1 0)(h2:s.heap.IsListIter Y l2 0)(N:s.heap.IsList l1 xs)(T:s.heap.IsList l2 ys)
 (nd:(ps.map (·.1)).Nodup)(hsz:ps.length<=1000)(hxs:xs.size=ps.length)(pa:∀(i:Nat) (p:Key×Value),ps[i]?=aa p->∃key,xs[i]?=aa key/\ys[i]?=aa p.2/\(c5 P w).is p.1 key=af)
 (h:∀h' tk,h'.DictOf (c5 P w) s.heap.objs.size ps->(∀b o,b≠z->b≠TO->b≠U->b≠Y->s.heap.get? b=aa o->h'.get? b=aa o)->Q (.ref s.heap.objs.size) {s with heap:=h',toks:=tk}):
  wpAny (model P w) A (call (.type "dict") [.ref z]) Q E s:=by
 refine callType_codes (Q₁:=λobj q=>obj=.ref s.heap.objs.size/\q={s with heap:=s.heap.push {cls:=.type "dict",data:=.dict #[]}}) PySem.F.kt_called_dict (zL _) PySem.F.entry_dict_init (kt_code_dict_new _ ⟨rfl,rfl⟩) ?_
 rintro obj q ⟨rfl,rfl⟩;have l:(s.heap.push {cls:=.type "dict",data:=.dict #[]}).DictOf (c5 P w) s.heap.objs.size []:=vG s.heap;have u:∀b o,s.heap.get? b=aa o->(s.heap.push {cls:=.type "dict",data:=.dict #[]}).get? b=aa o:=λb o e=>cg _ e;refine⟨l.typeIs,PySem.F.args_dict_init_2 _ _,?_⟩;unfold df.«dict.__init__»;refine ao ?_;unfold zw;refine ao (vm l.typeIs ?_);show wpAny _ _ (pure (s.heap.objs.size,[fJ z])) _ _ _;refine bh ?_;show wpAny _ _ (rm "dict.__init__" s.heap.objs.size (.ref z) [] .none) _ _ _
 have hzT:({s with heap:=s.heap.push {cls:=.type "dict",data:=.dict #[]}}:aE).TypeIs (.ref z) "zip":=⟨_,u _ _ hz,rfl⟩
 unfold rm;refine ao (lQ hzT ?_);rw[if_pos (by decide)];refine ao (JN hh (u _ _ hz) λB tk2 k2=>?_);simp only[Option.isNone_none,if_true];refine ao (wpAny_rule ?_);have up:∀b o,s.heap.get? b=aa o->B.get? b=aa o:=λb o e=>k2 b o (u b o e)
 refine ao (wpAny_pyIter_zip (s:={s with heap:=B,toks:=tk2}) (up _ _ hz) ?_)
 have m:∀{b:Addr} {o:Obj},s.heap.get? b=aa o->s.heap.objs.size≠b:=λe=>mZ (bI e);refine bh ⟨m5 lm _,?_⟩;refine JI (A:=A.in1) hh s.heap.objs.size z TI TO U Y l1 l2 Z (m hz) (m J) (m L) ?_ ?_ ?_ ?_ xs ys ps nd hsz hxs pa ps.length 0 _ (Nat.zero_add _) (.inl ⟨up _ _ hz,a,b,up _ _ L⟩) (up _ _ J) ?_ ?_ (h1.at λo e=>up _ _ e) (h2.at λo e=>up _ _ e) ?_ λh' tk hd kp=>?_
 .obtain⟨o,e,_⟩:=h1;exact m e
 .obtain⟨o,e,_⟩:=h2;exact m e
 .obtain⟨o,e,_⟩:=N;exact m e
 .obtain⟨o,e,_⟩:=T;exact m e
 .obtain⟨o,e,r⟩:=N;exact⟨o,up _ _ e,r⟩
 .obtain⟨o,e,r⟩:=T;exact⟨o,up _ _ e,r⟩
 .obtain⟨od,es,ep,ho,r⟩:=l;exact⟨od,es,ep,k2 _ _ ho,r⟩
 .exact⟨rfl,h h' tk hd λb o c1 c2 c3 c4 e=>kp b o (cq (m e)) c1 c2 c3 c4 (up b o e)⟩
def KV.zip:∀{ks:List Key} {us:List V} {ws:LVa},a9 us ws->KV (ks.zip us) (ks.zip ws)
 | [],_,_,_=>.nil
 | _::_,_,_,.nil=>.nil
 | _::_,_,_,.cons r t=>.cons ⟨rfl,r⟩ (KV.zip t)
abbrev JP(K:bA)(o:TA):TE:=λσ H Q=>o σ H λvs b=>∃(l m:Addr) (ks:List Key) (us:List V),vs=[.ref l,.ref m]/\SqL K b l (ks.map kV)/\SqL K b m us/\ks.length=us.length/\ks.Nodup/\ks.length<=1000/\∀p,b p=ae->Q (.ref p) (upd b p (.dK (ks.zip us)))
variable{b:Expr}{ta:TA}{p0 pos0:Pos}
def JQ{pos:Pos}(hc:X.calm=af)(hgd:Gl X "dict")(hmd:X.mg "dict"=ae)(hg:Gl X "zip")(hm:X.mg "zip"=ae)(ha:PA X [a,b] ta)(hs:a8 [a,b] X.env=[(aj,eval a X.env),(aj,eval b X.env)]:=by rfl)(B:a8 [b] X.env=[(aj,eval b X.env)]:=by rfl)
 (J:a8 [.Call (.Name "zip" p) [a,b] [] pos] X.env=(aj,eval (.Call (.Name "zip" p) [a,b] [] pos) X.env)::a8 [] X.env:=by rfl):
  PE X (.Call (.Name "dict" p0) [.Call (.Name "zip" p) [a,b] [] pos] [] pos0) (JP X.K ta):=by
 intro pins s σ H Q I h;refine lO (ja I hgd hmd wV (lN ?_ J rfl) (by decide) (by decide));rw[J];show wpAny _ _ (spliced ((aj,eval (.Call (.Name "zip" p) [a,b] [] pos) X.env)::eE pos0 (a8 [] X.env))) _ _ s;refine lS ?_;refine Call_ (ja I hg hm boot_zip (lN (thn (ha pos pins s σ H _ I h) λus s1 ⟨vs,H1,z,T,q1⟩=>?_) (by rw[hs,B]) (by rw[B];rfl)));obtain⟨l1,l2,ks,ws,e,q1,q2,hl,nd,hz,q⟩:=q1;subst e;obtain⟨u,v,rfl,ru,rv⟩:=na T;subst ru;subst rv;obtain⟨L,T,p1,z1⟩:=z.list q1;obtain⟨l,r2,p2,z2⟩:=z.list q2;have e1:=T.length;have e2:=r2.length;rw[aG]at e1;refine call_zip_2 p1.isList p2.isList λh' a1 a2 a3 a4 a5 a6 U=>vw ?_;have hps:(ks.zip l).length=ks.length:=by rw[iY];lia
 have lt:∀{c:Addr} {o:Obj},s1.heap.get? c=aa o->c<s1.heap.objs.size:=λe=>bI e;have hl1:h'.IsList l1 L.toArray:=by obtain⟨o,e,r⟩:=p1.isList;exact⟨o,U _ _ e,r⟩
 have hl2:h'.IsList l2 l.toArray:=by obtain⟨o,e,r⟩:=p2.isList;exact⟨o,U _ _ e,r⟩
 refine JO (s:={s1 with heap:=h'}) (ps:=ks.zip l) (z.ok.hd hc) (zipApart_new p1.lt p2.lt) a1 a2 a3 a4 a5 hl1 hl2 (by rw[oJ (by lia)];exact nd) (by lia) (by rw[size_toArray];lia) (λi pr hp=>?_) λY tk hd kp=>?_
 .obtain⟨i1,i2⟩:=List.getElem?_zip_eq_some.mp hp;obtain⟨u,eu,rk⟩:=T.get (x:=kV pr.1) (i:=i) (by rw[fS,i1];rfl);exact⟨u,by rw[qP];exact eu,by rw[qP];exact i2,pc rk⟩
 .have hd':Y.DictOf (c5 X.prog X.w) h'.objs.size (ks.zip l):=hd;have m:s1.heap.objs.size<=h'.objs.size:=by lia
  refine⟨.ref _,_,z.laid (t':=tk) (a:=h'.objs.size) (λb o e=>?_) m (o:=.dK (ks.zip ws)) ⟨?_,?_,ks.zip l,KV.zip r2,hd'⟩,rfl,q _ (z.hok.fresh m)⟩
  .have N:∀n,b≠s1.heap.objs.size+n:=λn=>cr (fo (lt e) (Nat.le_add_right _ _));exact kp b o (N 4) (N 3) (N 0) (N 1) (U b o e)
  .rw[iY,cY];lia
  .exact beq_eq_false_iff_ne.mpr (cq (cr (fo z.big m)))
abbrev nU:LD->Option (List Key)
 | []=>aa []
 |d::ds=>(jk d).bind λk=>(nU ds).map λr=>k::r
def Cj{G:Gc}{H:Hp}:∀{ds:LD} {vs:List V} {ks:List Key},nU ds=aa ks->aC G H ds vs->vs=ks.map kV
 | [],vs,ks,e,r=>by
  cases e
  exact r
 |d::ds,vs,ks,e,r=>by
  obtain⟨v,vr,rfl,u,o⟩:=r;obtain⟨k,l,e⟩:=cs.mp e;obtain⟨q,m,e⟩:=jJ.mp e;subst e;rw[po l u,Cj m o];rfl
abbrev xj:LD->OD
 | [x,y]=>(lsD x).bind λxs=>(lsD y).bind λys=>(nU xs).bind λks=>if ks.Nodup/\ks.length=ys.length/\ks.length<=1000 then aa (.dic ks ys) else ae
 | _=>ae
abbrev tO(f:MF2)(ρ:LS):OD:=(f ρ).bind xj
def JR{pos:Pos}{f:MF2}(hc:X.calm=af)(z:Gl X "dict")(B:X.mg "dict"=ae)(hg:Gl X "zip")(hm:X.mg "zip"=ae)(ha:DA c X [a,b] f)(hs:a8 [a,b] X.env=[(aj,eval a X.env),(aj,eval b X.env)]:=by rfl)(L:a8 [b] X.env=[(aj,eval b X.env)]:=by rfl)
 (N:a8 [.Call (.Name "zip" p) [a,b] [] pos] X.env=(aj,eval (.Call (.Name "zip" p) [a,b] [] pos) X.env)::a8 [] X.env:=by rfl):DE c X (.Call (.Name "dict" p0) [.Call (.Name "zip" p) [a,b] [] pos] [] pos0) (tO f):=
 PE.imp (JQ hc z B hg hm ha.pa hs L N) λσ H Q q_=>by
  obtain⟨Hf0,H0,Hf,ρ,d,st,l,k⟩:=q_;unfold tO at l;obtain⟨ds,Y,l⟩:=cs.mp l;refine⟨Hf0,H0,Hf,ρ,ds,st,Y,λvs Hf' H' x r=>?_⟩;unfold xj at l;split at l
  .rename_i x1 y1;obtain⟨xs,e2,l⟩:=cs.mp l;obtain⟨ys,e3,l⟩:=cs.mp l;obtain⟨ks,e4,l⟩:=cs.mp l;split at l
   .rename_i U;have l:=cu l;subst l;obtain⟨v1,v2,rfl,r1,r2⟩:=r.two;obtain⟨l1,vs1,rfl,q1,T⟩:=jg e2 r1;obtain⟨l2,m,rfl,q2,u⟩:=jg e3 r2;have:=Cj e4 T;subst this;have hl:=u.length;refine⟨l1,l2,ks,m,rfl,x.s.seq q1,x.s.seq q2,by lia,U.1,U.2.2,λq J=>?_⟩;have x2:=Ext.new (o:=.dK (ks.zip m)) x.s J;exact k _ _ _ (x.trans x2) ⟨q,m,rfl,bN,by lia,u.up x2.f⟩
   .nomatch l
  .nomatch l
section
variable{prog:cS}{w:World}{K:Type}[DecidableEq K]{knd:KeyKind prog w K}{A:cZ}{E:PRS}{s:aE}
nonrec abbrev xk(knd:KeyKind prog w K)(kvs:List (K×Value))(i:Nat)(v:Value):Prop:=∃k x,kvs[i]?=aa (k,x)/\knd.is k v=af
def JS{R:Result->aE->Prop}(hh:A.handled=ae){d:Addr}{kvs:List (K×Value)}{B:Nat}(hd:(d==gb)=aj)(hm:s.heap.DictAt knd d kvs B)(S:Addr)(res:Value)(Y:Nat)(hS:s.heap.get? S=aa {cls:=.type "list",data:=.seq #[] Y})
 (hR:∀ h' tk l U,(∀ b o,b≠S->s.heap.get? b=aa o->h'.get? b=aa o)->h'.get? S=aa { cls:=.type "list",dict:=ae,data:=.seq l U,slots:=#[] } ->
   ItemsOf (xk knd kvs) l kvs.length->R (.ok (.ret res)) {s with heap:=h',toks:=tk})(hn:kvs.length<=bn):
  wpAny (model prog w) A.in1 (rq (.ref S) (.ref d) res)
   (λfin s'=>match fin with |.done f=>R (.ok f) s' |.again U=>U.quiet=af/\fU (model prog w) A U R s') (λe s'=>R (.error e) s') s:=by
 obtain⟨od,es,ho,hr⟩:=id hm;have hof:s.heap.DictOf knd d kvs:=⟨od,es,B,ho,hr⟩;have hT:s.TypeIs (.ref d) "dict":=hof.typeIs
 have L:S≠d:=λz=>by
  subst z;obtain⟨o,e,c⟩:=hT;rw[hS]at e;cases e;exact absurd (show jN "list"=jN "dict" from c) (by decide)
 have J:S≠s.heap.objs.size:=cr (bI hS);have hdI:d≠s.heap.objs.size:=cr (bI ho)
 have hSf:S∉[s.heap.objs.size,d]:=λh=>by
  rcases bM.mp h with e |e
  .exact J e
  .exact L (bj.mp e)
 unfold rq;refine ao (lQ hT ?_)
 have h1:df.List.listSameRef (.ref S) (.ref d)=aj:=by
  show(S==d)=aj;exact beq_eq_false_iff_ne.mpr L
 have h2:(jN "dict" == jN "list")=aj:=by decide
 have h3:(jN "dict" == jN "tuple")=aj:=by decide
 simp only[h1,h2,h3,Bool.or_false,kL,if_false];refine ao (wpAny_pyIter_dict hd hm ?_)
 have T:({s with heap:=s.heap.push {cls:=.type "dict_keyiterator",data:=.fields #[.ref d,rawInt 0,rawInt kvs.length,rawInt B]}}:aE).TypeIs (.ref d) "dict":=by
  obtain⟨o,e,c⟩:=hT;exact⟨o,cg _ e,c⟩
 refine ao (dP ?_);unfold df.List.listLengthHint;refine ao (wpAny_specialOf T PySem.F.slot_dict_len.lookup ?_)
 wp_delta
 refine ao (wpAny_isInstance T (b:=af) (by rw[isSubtype_type];kernel_rfl) ?_);show wpAny _ _ (typeOf (fJ d) >>= _) _ _ _;refine ao (lQ T ?_);refine bh ?_;rw[if_pos (by decide)];refine ao (wpAny_rule ?_);refine ao ?_;show wpAny _ _ (updateSeq S (·.push .none) >>= λ_=>updateSeq S (·.pop)) _ _ _;have m:=cg {cls:=.type "dict_keyiterator",data:=.fields #[.ref d,.int 0 0,.int kvs.length 0,.int B 0]} hS;refine ao (wpAny_updateSeq m rfl ?_);have q:=m7 (gA (·.push jM)) m rfl;refine wpAny_updateSeq (hz:=by seq_fits) q rfl ?_;have N:=m7 (gA (·.pop)) q rfl
 have oth:∀b o,b≠S->s.heap.get? b=aa o->(((s.heap.push {cls:=.type "dict_keyiterator",data:=.fields #[.ref d,.int 0 0,.int kvs.length 0,.int B 0]}).update S (gA (·.push jM))).update S (gA (·.pop))).get? b=aa o:=λb o hb e=>
  (jL _ _ (cq hb)).trans ((jL _ _ (cq hb)).trans (cg _ e))
 have hit:(((s.heap.push {cls:=.type "dict_keyiterator",data:=.fields #[.ref d,.int 0 0,.int kvs.length 0,.int B 0]}).update S (gA (·.push jM))).update S (gA (·.pop))).IsKeyIter s.heap.objs.size d 0 kvs.length B:=
  ⟨_,(jL _ _ J).trans ((jL _ _ J).trans (e6 _ rfl)),rfl,rfl⟩
 have hm3:(((s.heap.push {cls:=.type "dict_keyiterator",data:=.fields #[.ref d,.int 0 0,.int kvs.length 0,.int B 0]}).update S (gA (·.push jM))).update S (gA (·.pop))).DictAt knd d kvs B:=hm.at' λo e=>oth d o (cq L) e;refine bh ⟨m5 F.plain_extend_loop _,codeAny_extend_loopS (Walks.dictKeys (A:=A.in1) hh s.heap.objs.size d hdI kvs B).toS hn _ hSf _ kvs.length 0 _ _ _ rfl (gs _) ⟨hit,hm3⟩ N (ItemsOf.nil _) λs' l U hmv hS' hacc=>?_⟩;rw[Moved.eq_with hmv];refine hR s'.heap s'.toks l U (λb ob hb e=>hmv.heap b ob (λu=>?_) (oth b ob hb e)) hS' hacc
 rcases bM.mp u with e' |u
 .exact hb e'
 .exact absurd (bI e) (by rw[bj.mp u];exact iZ _)
def JT{R:Result->aE->Prop}(Y:A.handled=ae){d:Addr}{kvs:List (K×Value)}{U:Nat}(hd:(d==gb)=aj)(hm:s.heap.DictAt knd d kvs U)(S:Addr)(T:d≠S)(L:s.heap.get? S=aa {cls:=.type "list",data:=.seq #[]})
 (hR:∀ h' tk l q,(∀ b o,b≠S->s.heap.get? b=aa o->h'.get? b=aa o)->h'.get? S=aa { cls:=.type "list",dict:=ae,data:=.seq l q,slots:=#[] } ->
   ItemsOf (xk knd kvs) l kvs.length->R (.ok (.ret .none)) {s with heap:=h',toks:=tk})(hn:kvs.length<=bn):
  wpAny (model prog w) A.in1 (df.«list.__init__» ⟨[.ref S,.ref d],[]⟩)
   (λJ s'=>match J with |.done f=>R (.ok f) s' |.again q=>q.quiet=af/\fU (model prog w) A q R s') (λe s'=>R (.error e) s') s:=by
 show wpAny _ _ (do let old <- zE (.ref S);df.List.listUpdate (.ref S) (λ_=>#[]);letGo old.toList.reverse;rq (.ref S) (.ref d) .none) _ _ s
 refine ao ?_;unfold zE;refine ao (oP L rfl (bh ?_));show wpAny _ _ (updateSeq S (λ_=>#[]) >>= λ_=>letGo (#[]:Array Value).toList.reverse >>= λ_=>rq (.ref S) (.ref d) .none) _ _ s;refine ao (wpAny_updateSeq L rfl ?_);have m:=m7 (gA (λ_=>(#[]:Array Value))) L rfl
 have z:∀b o,b≠S->s.heap.get? b=aa o->(s.heap.update S (gA (λ_=>(#[]:Array Value)))).get? b=aa o:=
  λb o B e=>(jL _ _ (cq B)).trans e
 refine ao (wpAny_letGo ?_);refine JS Y hd (hm.at' λo e=>z d o T e) S .none _ m (λh' tk l q hk N u=>?_) hn;exact hR h' tk l q (λb o B e=>hk b o B (z b o B e)) N u
def JU{Q:PRS}(Y:A.handled=ae){d:Addr}{kvs:List (K×Value)}{T:Nat}(hd:(d==gb)=aj)(N:s.heap.DictAt knd d kvs T)
 (U:∀ h' tk l z,(∀ b o,s.heap.get? b=aa o->h'.get? b=aa o) ->
   h'.get? s.heap.objs.size=aa {cls:=.type "list",dict:=ae,data:=.seq l z,slots:=#[]}->ItemsOf (xk knd kvs) l kvs.length->Q (.ref s.heap.objs.size) {s with heap:=h',toks:=tk})(hn:kvs.length<=bn):
  wpAny (model prog w) A (call (.type "list") [.ref d]) Q E s:=by
 have J:d≠s.heap.objs.size:=by obtain⟨o,es,ho,_⟩:=N;exact cr (bI ho)
 refine callType_codes (Q₁:=λobj m=>obj=.ref s.heap.objs.size/\m={s with heap:=s.heap.push {cls:=.type "list",data:=.seq #[]}}) F.called_list (F.typeCall_list_1 _) F.entry_list_init
  (code_list_new _ ⟨rfl,rfl⟩) λobj m u=>?_
 obtain⟨rfl,rfl⟩:=u;have L:(s.heap.push {cls:=.type "list",data:=.seq #[]}).get? s.heap.objs.size=aa {cls:=.type "list",data:=.seq #[]}:=e6 _ rfl;refine⟨⟨_,L,rfl⟩,F.args_list_init_2 _ _,JT (A:=A.in1) Y hd (N.at' λo e=>cg _ e) _ J L (λh' tk l z hk B q=>?_) hn⟩;exact⟨rfl,U h' tk l z (λb o e=>hk b o (cr (bI e)) (cg _ e)) B q⟩
end
def Ck:∀{xs:List V} {its:LVa},xs.length=its.length->(∀(i:Nat) x u,xs[i]?=aa x->its[i]?=aa u->be x u)->a9 xs its
 | [],[],_,_=>.nil
 |x::xs,u::its,hl,h=>.cons (h 0 x u rfl rfl) (Ck (Nat.succ.inj hl) λi y w l m=>h (i+1) y w l m)
 | [],_::_,hl,_=>nomatch hl
 | _::_,[],hl,_=>nomatch hl
def JV(hc:X.calm=af):d7 X (.type "list") (λxs H Q=>∃a od kvs,xs=[.ref a]/\H a=aa (.frz od (.dK kvs))/\∀p,H p=ae->Q (.ref p) (upd H p (.lst (kvs.map λJ=>kV J.1)))):=by
 rintro pins s σ H xs ws Q I r ⟨a,od,kvs,rfl,hH,q⟩;obtain⟨_,rfl,r1⟩:=jR r;cases r1;obtain⟨ho,z,ns,vs,B,od',es,ep,Y,L,T,kk,pp,nd⟩:=I.hok a _ hH;have hm:s.heap.DictAt _ a vs ep:=⟨od',es,Y,L,T,kk,pp,nd⟩;have hl:=B.length;refine JU (I.ok.hd hc) ns hm (λh' tk l c' kp hS m=>?_) (by lia);obtain⟨hsz,U⟩:=m;have N:l.toList.length=kvs.length:=by rw[qK,hsz,hl]
 refine⟨.ref _,_,I.laid (t':=tk) kp (bL _) (o:=.lst (kvs.map λJ=>kV J.1)) ⟨by rw[aG];exact z,l.toList,c',Ck (by rw[aG,N]) λi x u e1 e2=>?_,by rw[Array.toArray_toList];exact hS⟩,rfl,q _ I.fresh⟩;rw[fS]at e1;obtain⟨J,ek,rfl⟩:=jJ.mp e1;obtain⟨k,y,ev,hk⟩:=U i u (by rw[<- u6];exact e2);obtain⟨w',ew,e3,_⟩:=KV.get B ek;rw[ev]at ew;cases ew;rw[e3];exact HN hk
abbrev xl(f:MF1)(ρ:LS):OLD:=(f ρ).bind HQ
variable{f:MF1}
def JW{pos:Pos}(N:X.calm=af)(Y:Gl X "list")(hm:X.mg "list"=ae)(T:DE c X e f)(m:a8 [e] X.env=(aj,eval e X.env)::a8 [] X.env:=by rfl):DO c X (.Call (.Name "list" p) [e] [] pos) (xl f):=
 PE.imp (rX (JV N) Y hm boot_list (bJ T ci m) (by decide) (by decide) m rfl) λσ H Q q_=>by
  obtain⟨Hf0,H0,Hf,ρ,ds,so,B,k⟩:=q_;unfold xl at B;obtain⟨d,J,u⟩:=cs.mp B;refine⟨Hf0,H0,Hf,ρ,d,so,J,λv Hf' H' x r=>?_⟩
  cases d with
  |kd ks xs=>
   cases u;obtain⟨a,od,vs,rfl,q,z,_⟩:=r;refine⟨a,od,_,rfl,x.s _ _ q,λl o=>?_⟩;have U:Hf' l=ae:=x.s.free o;refine k l _ Hf' _ (x.trans (Ext.tmp x.s o)) (aN.free x.h o) U bN ?_
   have L:(ks.zip vs).map (λkv=>kV kv.1)=ks.map kV:=by
    have:=map_map (g:=kV) (f:=Prod.fst) (l:=ks.zip vs);rw[oJ (by lia)]at this;exact this.symm
   rw[L]
   have go:∀ks:List Key,aC (Gx c X) Hf' (ks.map kD) (ks.map kV):=λks=>by
    induction ks with
    |nil=>exact rfl
    |cons k ks ih=>exact .cons (HP k) ih
   exact go ks
  | _=>nomatch u
abbrev xm(x y z:D):OD:=(jr x).bind λp=>(jk y).map λk=>(gI p.1 p.2 k).getD z
abbrev pV(f g h:MF1)(ρ:LS):OD:=(f ρ).bind λx=>(g ρ).bind λy=>(h ρ).bind λz=>xm x y z
variable{o:Expr}{apos cpos:Pos}
def JX(hu:X.A.units+64<cLine){g h:MF1}(ho:DE c X o f)(hk:DE c X a g)(hx:DE c X b h)(m:M2 X o "get" apos a b cpos):DE c X (.Call (.Attribute o "get" apos) [a,b] [] cpos) (pV f g h):=
 PE.imp (GM (by lia) ho hk hx m) λσ H Q q_=>by
  obtain⟨Hf0,H0,Hf,ρ,d,st,q,k⟩:=q_;unfold pV at q;obtain⟨x,e1,q⟩:=cs.mp q;obtain⟨y,e2,q⟩:=cs.mp q;obtain⟨z,e3,q⟩:=cs.mp q;obtain⟨p,e4,q⟩:=cs.mp q;obtain⟨L,e5,q⟩:=jJ.mp q;refine⟨Hf0,H0,Hf,ρ,x,st,e1,λv N H1 J r1=>?_⟩;obtain⟨l,vs,ev,rd,z0,r⟩:=tu e4 r1;subst ev;refine⟨l,rfl,.inl ⟨_,rd.up J.s⟩,Hf0,H0,N,ρ,y,st.step J,e2,λu T H2 x2 r2=>⟨Hf0,H0,T,ρ,z,(st.step J).step x2,e3,λw U H3 x3 r3=>?_⟩⟩;have eu:=po e5 r2;subst eu;have B:=x2.trans x3;refine⟨d8 (p.1.zip vs) L,.inl ⟨_,L,(rd.up J.s).up B.h,rfl,rfl⟩,k _ U H3 (J.trans B) ?_⟩;obtain⟨h1,h2⟩:=wO (k:=L) z0 (r.up B.f);subst q
  cases hv:gI p.1 p.2 L with
  |none=>rw[h2 hv];exact r3
  |some d=>
   obtain⟨w',hw,Y⟩:=h1 d hv;rw[hw];exact Y
abbrev xo:D->OLD
 |.tup xs=>aa xs
 | _=>ae
abbrev kh(f:MF1)(l h:LS->Option (Option Int))(ρ:LS):OD:=(f ρ).bind λd=>(xo d).bind λds=>(l ρ).bind λlo=>(h ρ).bind λhi=>if HT.sIx ds.length 0 lo=0/\HT.sIx ds.length ds.length hi=ds.length then ae else aa (.tup (nw ds lo hi))
def Cm{pos:Pos}{l h:LS->Option (Option Int)}{lo hi:Option Expr}(ha:DE c X e f)(hl:DPt c X lo l)(hh:DPt c X hi h):DE c X (.Subscript e (.Slice lo hi ae p2) pos) (kh f l h):=
 PE.imp (vT Ga ha hl hh) λσ H Q q_=>by
  obtain⟨Hf0,H0,Hf,ρ,rs,st,m,k⟩:=q_;unfold kh at m;obtain⟨d,e1,m⟩:=cs.mp m;obtain⟨ds,U,m⟩:=cs.mp m;obtain⟨B,e3,m⟩:=cs.mp m;obtain⟨u,e4,m⟩:=cs.mp m;split at m
  .nomatch m
  .rename_i hn;have m:=cu m;subst m;refine⟨Hf0,H0,Hf,ρ,d,st,e1,λv L H1 J r1=>⟨Hf0,H0,L,ρ,B,st.step J,e3,λN H2 x2=>⟨Hf0,H0,N,ρ,u,(st.step J).step x2,e4,λHf3 H3 T=>?_⟩⟩⟩
   cases d with
   |tup xs=>
    cases U;obtain⟨a,vs,ea,q,r⟩:=r1;subst ea;have x:=(J.trans x2).trans T;have y:=x2.trans T;have z:=r.length;refine⟨a,vs,rfl,SqT.of (y.h _ _ (J.s _ _ q)),by rw[<- z];exact hn,λp hp=>?_⟩;have Y:=Ext.new (o:=.tup (l5 vs B u)) T.s hp
    exact k _ _ _ (x.trans Y) ⟨p,_,rfl,bN,(A3 (r.up y.f) _ _).up Y.f⟩
   | _=>nomatch U
abbrev pW(t:MF4)(f g:MF2)(ρ:LS):OLD:=(t ρ).bind λb=>if b then f ρ else g ρ
variable{cd:Expr}
def JY{pos:Pos}{t:MF4}{f g:MF2}(U:DT c X cd t)(N:DO c X a f)(T:DO c X b g):DO c X (.IfExp cd a b pos) (pW t f g):=PE.imp (zQ U N T) λσ H Q Y=>by
 obtain⟨Hf0,H0,Hf,ρ,d,st,q,k⟩:=Y;unfold pW at q;obtain⟨x,L,q⟩:=cs.mp q;refine⟨Hf0,H0,Hf,ρ,x,st,L,λz H1 u=>?_⟩
 cases x with
 |true=>rw[if_pos rfl]at q ⊢;exact⟨Hf0,H0,z,ρ,d,st.step u,q,λl vs m B x2 J=>k l vs m B (u.trans x2) (u.h.free J)⟩
 |false=>rw[if_neg cy]at q ⊢;exact⟨Hf0,H0,z,ρ,d,st.step u,q,λl vs m B x2 J=>k l vs m B (u.trans x2) (u.h.free J)⟩
def Cn{it t:Addr}{items:Array Value}(B:t≠it):∀(n i:Nat) (s:aE) (Q:LVa->aE->Prop),s.heap.IsListIter it t i->s.heap.IsList t items->i+n<=items.size ->
  (∀h',h'.IsListIter it t (i+n)->gU it s.heap h'->Q ((items.toList.drop i).take n) {s with heap:=h'})->wpAny (model prog w) A (draw (.ref it) n) Q E s
 | 0,i,s,Q,hit,_,_,hQ=>by
  show wpAny _ _ (pure []) Q E s
  exact bh (by simpa using hQ s.heap hit (gU.refl ..))
 |n+1,i,s,Q,hit,ht,hle,hQ=>by
  have z:i<items.size:=by lia
  show wpAny _ _ (pyNext (.ref it) >>= _) Q E s;refine ao (vi hit ht (x:=items[i]) (by simp[z]) λL m l=>?_);refine ao (dP (Cn B n (i+1) _ _ m (ht.extBut l.extBut B) (by lia) λJ q u=>bh ?_));have hd:items.toList.drop i=items[i]::items.toList.drop (i+1):=by simp[qU,z]
  have:=hQ J (by rw[show i+(n+1)=i+1+n by lia];exact q) (l.trans u);rw[hd,take_succ_cons]at this;exact this
variable{t:Addr}
def JZ{Q:LVa->aE->Prop}(Y:A.handled=ae)(J:s.heap.IsList t items)
 (U:∀h',Heap.ExtBut s.heap.objs.size s.heap h'->Q items.toList {s with heap:=h'}):wpAny (model prog w) A (unpackItems (.ref t) items.size ae) Q E s:=by
 have B:t≠s.heap.objs.size:=by obtain⟨o,ho,_⟩:=J;exact cr (bI ho)
 unfold unpackItems;refine ao ?_;unfold notIterableAtAll;refine ao (wpAny_specialOf J.typeIs PySem.F.slot_list_iter.lookup ?_);refine bh ?_;simp only[kL,if_false];refine ao (dP (m4 J ?_));refine ao (dP (Cn B items.size 0 _ _ ⟨_,e6 _ rfl,rfl,rfl⟩ (J.push _) (by lia) λL m l=>?_))
 have z:List.take items.size (List.drop 0 items.toList)=items.toList:=by
  rw[drop_zero];exact mV (by simp)
 rw[z];rw[if_neg (by simp)];have u:L.IsList t items:=(J.push _).extBut l.extBut B;refine ao (dP (vj Y m u (by simp) λN q=>?_));simp only[Option.isSome_none,kL,if_false];exact bh (U N λb o T e=>q b o T (l.extBut b o T (cg _ e)))
def J0{env:Env}{l:LEx}{x1}{pos:Pos}{Q:Unit->aE->Prop}(q:A.handled=ae)(z:s.heap.IsList t items)
 (u:(eD l env).length=items.size)(m:(eD l env).findIdx? (·.1)=ae)
 (h:∀h',Heap.ExtBut s.heap.objs.size s.heap h'->wpAny (model prog w) A (assignInOrder ((eD l env).map (·.2)) items.toList) Q E {s with heap:=h'}):
  wpAny (model prog w) A (gx (.Tuple l x1 pos) env (.ref t)) Q E s:=by
 rw[arm_assign_Tuple];refine ao (oQ ?_);unfold unpack;rw[u,m];exact ao (dP (JZ q z h))
abbrev J1(K:bA)(n:Nat)(t:TGs):TG:=λv σ H Q=>∃a xs,v=.ref a/\SqL K H a xs/\xs.length=n/\t xs σ H Q
def J2{pos:Pos}{t:TGs}(J:X.calm=af)(h:PGs X es t)
 (N:(eD es X.env).length=n:=by rfl)(l:(eD es X.env).findIdx? (·.1)=ae:=by rfl):PG X (.Tuple es k pos) (J1 X.K n t):=by
 intro pins s σ H v u Q I r m;obtain⟨a,xs,B,T,L,m⟩:=m;subst B;cases r;obtain⟨its,q,U,hz⟩:=I.list T;refine J0 (I.ok.hd J) U.isList (by simp[N,<- L,q.length]) l λh' Y=>?_
 have z:Inv X pins σ H {s with heap:=h'}:=I.kept (t':=s.toks) λb o e=>Y b o (cr (bI e)) e
 exact h pins _ σ H xs _ Q z (by simpa using q) m
abbrev tQ(g:LD->LS->Option LS)(d:D)(ρ:LS):Option LS:=(lsD d).bind λds=>g ds ρ
def Co{pos:Pos}{g:LD->LS->Option LS}(L:X.calm=af)(h:DGs c X es k g)(N:(eD es X.env).length=es.length:=by rfl)(u:(eD es X.env).findIdx? (·.1)=ae:=by rfl):DG c X (.Tuple es kk pos) k (tQ g):=by
 refine⟨PG.imp (J2 L h.pg N u) λv σ H Q T=>?_,λd ρ ρ' h'=>?_,λd ρ ρ' i h' hi=>?_⟩
 .obtain⟨Hf0,H0,Hf,ρ,d,ρ',st,r,J,q⟩:=T;obtain⟨ds,m,l⟩:=cs.mp J;obtain⟨a,vs,B,U,z⟩:=jg m r;exact⟨a,vs,B,st.sub.seq U,by rw[<- z.length];exact h.many _ _ _ l,Hf0,H0,Hf,ρ,ds,ρ',st,z,l,q⟩
 .obtain⟨ds,m,l⟩:=cs.mp h';exact h.len _ _ _ l
 .obtain⟨ds,m,l⟩:=cs.mp h';exact h.keep _ _ _ _ l hi
structure Foq(G:Gc)(Hf H:Hp)(o:O)(v:V)(fp:LAd)(o1:O)(v1:V)(f1:LAd)(R:O->O):Prop where
 r:OT G Hf H o1 v1 f1
 n:f1.Nodup
 sub:∀a∈f1,a∈fp
 back:∀(Hf' H':Hp) (o2:O) (f2:LAd),aN Hf Hf'->(∀b u,H b=aa u->(jU u=af\/b∈fp)->b∉f1->H' b=aa u)->OT G Hf' H' o2 v1 f2 ->
  ∃fp',OT G Hf' H' (R o2) v fp'/\(∀a∈fp',a∈f2\/(a∈fp/\a∉f1))/\(f2.Nodup->(∀a∈f2,a∈fp->a∈f1)->fp'.Nodup)
def Foq.refl{o:O}(h:OT G Hf H o v fp)(n:fp.Nodup):Foq G Hf H o v fp o v fp id:=
 ⟨h,n,λ_ h=>h,λ_ _ _ f2 _ _ q=>⟨f2,q,λ_ h=>.inl h,λn _=>n⟩⟩
def Foq.trans{o o1 o2:O}{v1 N:V}{f1 f2:LAd}{R J:O->O}(F:Foq G Hf H o v fp o1 v1 f1 R)(F':Foq G Hf H o1 v1 f1 o2 N f2 J):Foq G Hf H o v fp o2 N f2 (λx=>R (J x)):=by
 refine⟨F'.r,F'.n,λa h=>F.sub a (F'.sub a h),λHf' H' o3 T s k h=>?_⟩;obtain⟨q,r1,m1,U⟩:=F'.back Hf' H' o3 T s (λb u e B l=>k b u e (B.imp_right (F.sub b)) l) h;obtain⟨fp',r2,m2,Y⟩:=F.back Hf' H' _ q s (λb u e B l=>k b u e B λz=>l (F'.sub b z)) r1;refine⟨fp',r2,λa m=>?_,λnf L=>Y (U nf λa m l=>L a m (F.sub a l)) λa m l=>?_⟩
 .rcases m2 a m with z |⟨z,z'⟩
  .rcases m1 a z with y |⟨y,y'⟩
   .exact .inl y
   .exact .inr ⟨F.sub a y,y'⟩
  .exact .inr ⟨z,λy=>z' (F'.sub a y)⟩
 .rcases m1 a m with y |⟨y,_⟩
  .exact F'.sub a (L a y l)
  .exact y
@[reducible]noncomputable def Xq:=LS->Option (O×(O->O))
def DZ.de{f:LS->Option O}(h:DZ c X af e f):DE c X e (zB f):=PE.imp h λσ H Q Y=>by
 obtain⟨Hf0,H0,Hf,ρ,d,st,B,k⟩:=Y;unfold zB at B;obtain⟨o,T,B⟩:=cs.mp B;split at B
 .rename_i U;cases B;refine⟨Hf0,H0,Hf,ρ,o,st,T,λu fp Hf' H' x r z=>?_⟩;have z:Fre H Hf' fp:=z;have sub:aN (gj Hf' H' fp) H':=HL x.s fp;have more:aN Hf' (gj Hf' H' fp):=HM x.s fp
  have r2:OT (Gx c X) Hf' (gj Hf' H' fp) o u fp:=r.frame (aN.refl _) λb w L m=>by
   rcases m with m |m
   .cases w with
    |tup vs=>exact HJ L
    | _=>nomatch m
   .rw[HI m];exact L
  refine k u (gj Hf' H' fp) H' ⟨x.f.trans more,x.h,sub,λl w J N=>?_⟩ (OT.repM more o u fp U r2);rw[HK (λm=>?_) λvs q=>?_]
  .exact x.n l w J N
  .have:=(z.2 l m).1;rw[J]at this
   nomatch this
  .rw[x.h l w J]at q;cases q
   nomatch N
 .nomatch B
def J3{q:ExceptHandler}{B:List ExceptHandler}{pos:Pos}(z:∀pn xe,DS c (X.to pn xe) st F):DS c X (.Try [st] (q::B) [] [] pos) F:=by
 intro pins s σ H D I h;refine wpAny_Try_except ?_;refine dF (rK (z (X.pn++pins) _) [] s σ H D (BQ I) h) (λf s1 m=>?_) λL s1 m=>m
 cases f with
 |next=>obtain⟨σ',H',l,k⟩:=m;exact zS pins s1 σ' H' D (pN l) k
 |ret u=>obtain⟨v,σ',H',l,J,k⟩:=m;exact⟨v,σ',H',pN l,J,k⟩
 |brk=>obtain⟨σ',H',l,k⟩:=m;exact⟨σ',H',pN l,k⟩
 |cont=>obtain⟨σ',H',l,k⟩:=m;exact⟨σ',H',pN l,k⟩
abbrev iL(F G:MF3)(ρ:LS):Option Fl:=match F ρ with
 |some o=>aa o
 |none=>G ρ
variable{F':MF3}
def Cp(q:DS c X st F)(u:DS c X st F'):DS c X st (iL F F'):=λpins s σ H D I h=>by
 obtain⟨Hf0,H0,Hf,ρ,o,m,l,k⟩:=h;unfold iL at l;split at l
 .rename_i e;exact q pins s σ H D I ⟨_,_,_,ρ,_,m,e.trans l,k⟩
 .exact u pins s σ H D I ⟨_,_,_,ρ,_,m,l,k⟩
variable{E:XK}
def J4(h:PS X st (kZ (tBM X.K "list" vX (eL i) λσ H _=>tR (Gx c X) C E r σ H))):RS c X C E st (pP i r):=PS.imp h λL σ H q=>by
 obtain⟨Hf0,H0,Hf,ρ,u,m,k⟩:=q;unfold pP at m;split at m
 .rename_i xs es;obtain⟨l,z,N,T,J,B,U⟩:=u.ownAt rfl es;exact⟨_,z,.inl ⟨rfl,_,SqL.of B⟩,Hf0,H0,Hf,ρ,u,m,k⟩
 .nomatch m
abbrev pX(i:Nat)(r:LS->Bool)(ρ:LS):Bool:=match ρ[i]? with
 |some (.ownd ks xs)=>r (ρ.set i (.im (.kd ks xs)))
 | _=>aj
def Ka(i:Nat)(h:RS c X C E st r):RS c X C E st (pX i r):=λpins s σ H D I q=>by
 obtain⟨Hf0,H0,Hf,ρ,N,u,k⟩:=q;unfold pX at u;split at u
 .rename_i ks xs es
  have t0:tDS (Gx c X) (g9 i λρ'=>if r ρ' then aa (.nx ρ') else ae) {nx:=λσ' H'=>tR (Gx c X) C E r σ' H',rt:=λ_ _=>False} σ H:=
   ⟨Hf0,H0,Hf,ρ,.nx _,N,by unfold g9;rw[es];exact if_pos u,λσ' Hf' H' _ m=>⟨Hf0,H0,Hf',_,m,u,k⟩⟩
  obtain⟨H',J,z,B,Hf',ρ',o',m,l,L⟩:=Bs I t0;split at l
  .have l:=cu l;subst l;exact h pins s σ H' D J (L σ Hf' H' (aN.refl _) m)
  .nomatch l
 .nomatch u
abbrev nV(f g:MF1)(ρ:LS):OD:=(f ρ).bind λx=>(g ρ).bind λy=>(xo x).bind λa=>(xo y).bind λb=>if a≠[]/\b≠[]/\a.length+b.length<=16777216 then aa (.tup (a++b)) else ae
def Kb{pos:Pos}{g:MF1}(ha:DE c X a f)(hb:DE c X b g):DE c X (.BinOp a .Add b pos) (nV f g):=PE.imp (rQ Gd ha hb) λσ H Q q_=>by
 obtain⟨Hf0,H0,Hf,ρ,rs,st,q,k⟩:=q_;unfold nV at q;obtain⟨d,Y,q⟩:=cs.mp q;obtain⟨d',e2,q⟩:=cs.mp q;obtain⟨xs,J,q⟩:=cs.mp q;obtain⟨ys,L,q⟩:=cs.mp q;split at q
 .rename_i hh;obtain⟨h1,h2,h3⟩:=hh;have q:=cu q;subst q
  cases d with
  |tup xs'=>
   cases J
   cases d' with
   |tup kF=>
    cases L;refine⟨Hf0,H0,Hf,ρ,_,st,Y,λv B H1 N r1=>⟨Hf0,H0,B,ρ,_,st.step N,e2,λu U H2 x2 r2=>?_⟩⟩;obtain⟨l,vs,el,q1,s1⟩:=r1.up x2.f;obtain⟨m,us,em,q2,s2⟩:=r2;subst el em;have x:=N.trans x2;refine⟨l,m,vs,us,rfl,rfl,SqT.of (x2.s _ _ q1),SqT.of (x2.s _ _ q2),λz=>h1 (u9 (by rw[s1.length,z];rfl)),by rw[cY,<- s1.length,<- s2.length];exact h3,λz=>(h2 (u9 (by rw[s2.length,z];rfl))).elim,λ_ p hp=>?_⟩;have T:=Ext.new (o:=.tup (vs++us)) x.s hp
    exact k _ _ _ (x.trans T) ⟨p,_,rfl,bN,(s1.append s2).up T.f⟩
   | _=>nomatch L
  | _=>nomatch J
 .nomatch q
abbrev nW(i:Nat)(l:Xe)(fv:MF1)(ρ:LS):Option Fl:=(fv ρ).bind λd=>match ρ[i]? with
 |some (.own _)=>(l ρ).bind λp=>match p.1,p.2[i]? with
  |.int k,aa (.own xs)=>(ixN xs.length k).map λj=>.nx (p.2.set i (.own (xs.set j d)))
  | _,_=>ae
 | _=>ae
variable{fk:Xe}
def Kc(hp:PS X st (jQ (tD (Gx c X) fv) (vN (eL i) (tDX (Gx c X) fk) vV))):DS c X st (nW i fk fv):=PS.imp hp λE σ H q_=>by
 obtain⟨Hf0,H0,Hf,ρ,o,Y,m,k⟩:=q_;unfold nW at m;obtain⟨d,e1,m⟩:=cs.mp m;split at m
 .rename_i xs0 N;obtain⟨p,e2,m⟩:=cs.mp m;split at m
  .rename_i ky xs ek es;obtain⟨j,ej,m⟩:=jJ.mp m;subst m;refine⟨Hf0,H0,Hf,ρ,d,Y,e1,λv J H1 x1 r1=>?_⟩;have z:=Y.step x1;obtain⟨l0,u,_⟩:=z.ownAt rfl N;refine⟨_,u,Hf0,H0,J,ρ,p.1,p.2,z,e2,λy L H2 s2 B U=>?_⟩;obtain⟨l,T,h0,hf,vs,q,r⟩:=B.ownAt rfl es;rw[u]at T;cases T;rw[ek]at U;exact⟨l0,vs,ky,j,rfl,U,q,by rw[<- r.length];exact ej,k σ L _ (x1.f.trans s2) (B.mutd rfl rfl es u ⟨vs.set j v,bN,r.set j (r1.up s2)⟩)⟩
  .nomatch m
 .nomatch m
variable{i' value:Expr}
def Ke{pos:Pos}(u:PE X e (eL i))(q:DX c X i' fk)(B:DE c X value fv)(z:oR [.Subscript e i' b5] value pos.line X.env=pure aj:=by rfl)(J:oS [.Subscript e i' b5] value X.env=pure ae:=by rfl)
 (l:(eD [.Subscript e i' b5] X.env).map (·.2)=[gx (.Subscript e i' b5) X.env]:=by rfl)
 (m:∀ v,gx (.Subscript e i' b5) X.env v=(do
   let ov <- gw [v] (eval e X.env)
   let iv <- gw [v,ov] (eval i' X.env)
   standAt b5
   gw [v,ov,iv] (setItem ov iv v)
   release [v,ov,iv] []):=by intro _;rfl):
  DS c X (.Assign [.Subscript e i' b5] value pos) (nW i fk fv):=Kc (rL B (zV u q Au m) z J l)
inductive Cq(G:Gc)(f:Xe)(σ:St)(H:Hp)(Q:VK):Prop
 |mk:∀Hf0 H0 Hf ρ d ρ',aM G Hf0 H0 Hf H σ ρ->f ρ=aa (d,ρ')->(∀ds l vs Hf' H',d=.lst ds->aN Hf Hf'->aM G Hf0 H0 Hf' H' σ ρ'->H' l=ae->aC G Hf' ds vs->Q (.ref l) (upd H' l (.lst vs)))->Cq G f σ H Q
abbrev pY(i:Nat)(f:Xe)(ρ:LS):Option Fl:=(f ρ).bind λp=>match p.1 with
 |.lst ds=>aa (.nx (p.2.set i (.own ds)))
 | _=>ae
variable{jp t:Nat}{fe:Xe}
def Kf{fi:Xa}(hj:js.Nodup)(hk:∀d ρ ρ' i,g d ρ=aa ρ'->k<=i->ρ'[i]?=ρ[i]?)(eN:∀d ρ ρ',g d ρ=aa ρ'->ρ'.length=ρ.length){Q:VK}(h:Cq G (iE k js jp t fi g fe) σ H Q):
  lb k js (sY G fi) (tDG G g) (tDT G λ_=>aa af) (tDX G fe) σ H Q:=by
 obtain⟨Hf0,H0,Hf,ρ0,d0,ρ',st,z,kq⟩:=h;unfold iE at z
 cases e1:fi ρ0 with
 |none=>rw[e1]at z;nomatch z
 |some p=>
  obtain⟨ds,ρ⟩:=p;rw[e1,aR]at z;dsimp only at z;split at z
  .rename_i l xs ep;split at z
   .rename_i hz;obtain⟨hz,ht,hcm⟩:=hz
    cases e2:f8 k js jp t g fe ρ l ds xs with
    |none=>rw[e2]at z;nomatch z
    |some q=>
     obtain⟨rs,zs⟩:=q;rw[e2]at z;cases z;refine⟨Hf0,H0,Hf,ρ0,ds,ρ,st,e1,λJ u H1 f1 hY it=>?_⟩
     have hcm':=λj Y=>by
      have:=all_eq_true.mp hcm j Y;rw[gp]at this;exact this.imp beq_iff_eq.mp id
     have U:ρ.set jp (.pin l xs)=ρ:=by
      apply ext_getElem?;intro i
      by_cases hi:jp=i
      .subst hi;rw[tF ep,ep]
      .rw[gQ hi]
     have st0:aM G u (dS H1 l) u H1 (fX k js σ) (dC k js (ρ.set jp (.pin l xs))):=by rw[U];exact hY.compP k hj ep hcm'
     obtain⟨l9,el9,_,hf9,e9,_⟩:=hY.ownAt rfl ep;subst e9
     refine⟨λi m ys σ' H'=>m=ds.length-i/\i<=ds.length/\∃Hf' N L aB,aM G u _ Hf' H' σ' (dC k js (ρ.set jp (.pin l9 L)))/\aC G Hf' N ys/\f8 k js jp t g fe ρ l9 (ds.drop i) L=aa (aB,zs)/\rs=N++aB/\N.length<=i,
      ⟨ds.length,rfl,gs _,u,[],xs,rs,st0,rfl,e2,rfl,bL _⟩,?_⟩
     rintro i m ys σ' H' ⟨rfl,hi,Hf',N,L,aB,B,ra,ec,er,hal⟩;have hys:ys.length<=bn:=by rw[cY,<- ra.length];lia
     obtain⟨hO,it2⟩:=it Hf' H' B.ext.f B.sub i
     by_cases hlt:i<ds.length
     .obtain⟨d,ed,edr⟩:=nA hlt;obtain⟨go,yl⟩:=hO d ed
      refine .inr ⟨go,hys,λkF fy H2=>ds.length-_=ds.length-_/\i+1<=ds.length/\∃Hf' N L aB,aM G u _ Hf' H2 fy _/\aC G Hf' N kF/\f8 k js jp t g fe ρ l9 _ L=aa _/\rs=N++aB/\N.length<=i+1,
       λkF fy H2 w=>⟨ds.length-(i+1),by lia,w⟩,λx H2 y=>?_⟩
      obtain⟨cc,x3,rx⟩:=yl x H2 y;rw[edr]at ec;obtain⟨y',xs2,r',et,ec',T⟩:=BD ec;obtain⟨ρ1,d3,eg,ee,⟨l',ex⟩,hag⟩:=BC et;refine⟨u,dS H1 l9,cc,_,d,ρ1,B.step x3,rx,eg,λgg hX=>⟨u,dS H1 l9,cc,ρ1,af,hX,rfl,λHf4 H4 x4=>AA ⟨u,dS H1 l9,Hf4,ρ1,y',d3,hX.step x4,ee,λv Hf5 H5 f5 st5 r5=>?_⟩⟩⟩
      have hl2:(dC k js (ρ.set jp (.pin l9 xs2))).length=d3.length:=by
       rw[<- st5.len,hX.len,eN _ _ _ eg];unfold dC;rw[bg,bg,aG,aG]
      refine⟨rfl,hlt,Hf5,N++[y'],xs2,r',st5.weak hl2 λj s hs=>?_,(ra.up ((x3.f.trans x4.f).trans f5)).append (.cons r5 .nil),ec',by rw[er,T,fm];rfl,by rw[bg,fj];lia⟩
      rcases lf hs with⟨_,e⟩ |⟨Y,_⟩
      .exact .inl e
      .exact .inr (by rw[hag j Y];exact hs)
     .have ei:i=ds.length:=by lia
      subst ei;refine .inl ⟨it2 rfl,hys,λD h1 h2=>?_⟩;rw[mU (bL _)]at ec;cases ec;rw[dh]at er;subst er;obtain⟨l3,el3,h03,hf3,e3,us3,hu3,rx3⟩:=B.ownAt rfl (BB ht (tF ep));subst e3;exact kq _ D ys _ _ rfl (f1.trans B.ext.f) (hY.back (s':=.pin l3 zs) rfl rfl ep el9 B.ext hf3 ⟨rfl,us3,hu3,rx3⟩) h2 ra
   .nomatch z
  .nomatch z
variable{fi:Xa}
def Kg{pos:Pos}(i:Nat)(k:Nat)(js:LN)(jp t:Nat)(Nc:LSt)(hN:X.N.Nodup)(hc:X.calm=af)(hi:DXi c X tg iter fi)(z:∀cl C ex a7 b0,DG c (X.comp scope Nc cl C ex a7 b0) tg k g)
 (he:∀cl C ex a7 b0,DX c (X.comp scope Nc cl C ex a7 b0) da fe)(B:X.N[i]?=aa x:=by rfl)(hx:Loc X.env.scope x:=by first |exact bV rfl |exact bE rfl)
 (L:eX (.ListComp da [⟨tg,iter,[],0⟩] scope pos) (aa (.Name x b5)) c0.line X.env=pure af:=by rfl)(T:io scope X.env.scope.names X.N Nc k js=af:=by rfl)(hs:∀x,gS iter X.env x=pure x:=by intro _;rfl)
 (hf:LcF X x:=by first |exact .inl rfl |exact .inr rfl)(hj:js.Nodup:=by decide):
  DS c X (.Assign [.Name x b5] (.ListComp da [⟨tg,iter,[],0⟩] scope pos) c0) (pY i (iE k js jp t fi g fe)):=
 PS.imp (si (tt:=tDT (Gx c X) λ_=>aa af) (te:=tDX (Gx c X) fe) k js Nc hN B hx hc hi (λcl C ex a7 b0=>(z cl C ex a7 b0).pg) (λcl C ex a7 b0=>c7) he L T hs hf) λE σ H q_=>by
  obtain⟨Hf0,H0,Hf,ρ,o,so,m,kk⟩:=q_;unfold pY at m;obtain⟨p,U,m⟩:=cs.mp m;split at m
  .rename_i ds Y;have m:=cu m;subst m;refine Kf hj (z [] 0 [] X.s₀ X.H₀).keep (z [] 0 [] X.s₀ X.H₀).len ⟨Hf0,H0,Hf,ρ,p.1,p.2,so,U,λas l vs Hf' H' u f1 q J r=>?_⟩;rw[Y]at u;have u:=D.lst.inj u;subst u;exact kk _ Hf' _ f1 (q.setOwn rfl (Ext.tmp q.sub J) J (q.sub.free J) ⟨vs,bN,r⟩)
  .nomatch m
variable{A B:Addr}{b:Bool}{n:Str}{q q1 q2 q4:Pos}
def Cr{pos:Pos}{l:Nat}(T0:jv X.K C)(hg:Gl X "isinstance")(hm:X.mg "isinstance"=ae)(hv:PE X (.Name n q) (eL i))(L:Gl X x)(T:X.mg x=aa (.ref A))(N:Gl X y)(U:X.mg y=aa (.ref B))(hk:W.kitAny X.K (.ref C) [.ref A,.ref B]=aa b)
 (u:NDb x:=by decide)(J:(y==("__debug__":Str))=aj:=by decide)
 (hs:a8 [.Name n q,.Tuple [.Name x q1,.Name y q2] l q4] X.env=(aj,eval (.Name n q) X.env)::a8 [.Tuple [.Name x q1,.Name y q2] l q4] X.env:=by rfl)
 (hs2:a8 [.Tuple [.Name x q1,.Name y q2] l q4] X.env=(aj,eval (.Tuple [.Name x q1,.Name y q2] l q4) X.env)::a8 [] X.env:=by rfl)
 (t1:a8 [.Name x q1,.Name y q2] X.env=(aj,eval (.Name x q1) X.env)::a8 [.Name y q2] X.env:=by rfl)(t2:a8 [.Name y q2] X.env=(aj,eval (.Name y q2) X.env)::a8 [] X.env:=by rfl)
 (Y:(eE pos (a8 [.Tuple [.Name x q1,.Name y q2] l q4] X.env)).any (·.1)=aj:=by rfl):PE X (.Call (.Name "isinstance" p) [.Name n q,.Tuple [.Name x q1,.Name y q2] l q4] [] pos) (tH i C b):=
 PE.imp (ng I0 hg hm boot_isinstance (bJ hv (bJ (rS (bJ (oY (v:=.ref A) L T rfl u) (bJ (oY (v:=.ref B) N U rfl J) ci t2) t1)) ci hs2) hs) (by decide) (by decide) hs Y) λσ H Q h=>by
  obtain⟨a,h1,m,k⟩:=h;refine⟨.ref a,h1,(show 2<=bn by decide),λtp hn=>⟨a,C,tp,[A,B],b,rfl,?_,bN,T0,hk,k _ (cv hn)⟩⟩;rw[bW (λz=>by rw[z,hn]at m;nomatch m)];exact m
variable{wi:TI}{g:TG}
def Kh{pos:Pos}{E0:XK}(hex:X.ex=[])(l:X.stack=X.env::X.outer)(hfr:X.env.frame=aa X.env.locals)(hU:xc X E0)(k:Nat)(js:LN)(Nc:LSt)(hN:X.N.Nodup)(hi':X.N[i]?=aa x)(hx:Loc X.env.scope x)(hc:X.calm=af)(hi:PI X tg iter wi)
 (hg:∀cl C ex a7 b0,PG (X.comp scope Nc cl C ex a7 b0) tg g)(ht:∀cl C ex a7 b0,PTs (X.comp scope Nc cl C ex a7 b0) dw tt)(he:∀cl C ex a7 b0 xe,il (CX1 X.prog X.w) ((X.comp scope Nc cl C ex a7 b0).to [] xe) E0->PE ((X.comp scope Nc cl C ex a7 b0).to [] xe) da te)
 (hsw:eX (.ListComp da [⟨tg,iter,dw,0⟩] scope pos) (aa (.Name x b5)) c0.line X.env=pure af)
 (u:io scope X.env.scope.names X.N Nc k js=af)(hs:∀x,gS iter X.env x=pure x)
 (hf:X.fn x=af\/X.env.scope.names.lookup x=aa .local):
  PS X (.Assign [.Name x b5] (.ListComp da [⟨tg,iter,dw,0⟩] scope pos) c0) (jQ (lb k js wi g tt te) (jP i)):=by
 intro pins s σ H D I h;have u:=la.of u;rw[exec_Assign_Name_used _ _ _ _ hsw];refine ao (oQ (ao ?_));obtain⟨cl,hcl,a1,a2⟩:=v8 λx hx e=>I.ok.has x.1 (u.free x hx e)
 refine ao (dF (vg rfl hs hcl u.kind u.loc
  (thn (hi pins s σ H _ I h) λv s1 h1=>thn h1 λitv s2 h2=>?_)) (λ_ s' hq=>bh (bh hq)) λ_ _ e=>e)
 obtain⟨it,fp,tn,J,H2,e,I2,T,h9,f2,hW⟩:=h2;subst e;refine Jg hex l hfr hc u hg ht he a1 a2 I2 T h9 f2 hW (λD' C s' H' I' ⟨m,L⟩ fC q=>?_) λD C fl a H' s' U ⟨m,L⟩ fC=>⟨m,L,λh' sb cenv hl=>Jd hex l (Jc l U L fC sb) λfl' h'' U'=>hU _ _ _ _ _ _ U'⟩;obtain⟨f0,f1,f2',f3,f4,f5⟩:=fC;refine wpAny_assign_Name (vJ (v:=.ref D') I' hN hi' hx rfl (λs'' Y ⟨a,sb,ha⟩=>?_) hf)
 have hCa:C≠a:=by
  rcases ha with z |z
  .rw[z];exact f1
  .exact(f4 x a z).symm
 exact⟨m,L.sameBut sb hCa,λh' hs'=>⟨_,H',Y.turned (λb o hb e=>(hs'.2 b hb).trans e) f0 f1 f3 f4 f5,q⟩⟩
variable{fi:MF2}{g:D->LS->Option LS}{fe:MF1}
def Ki{pos:Pos}(i:Nat)(U:X.N.Nodup)(k:Nat)(js:LN)(Nc:LSt)(hc:X.calm=af)(hex:X.ex=[])(J:X.stack=X.env::X.outer)(m:X.env.frame=aa X.env.locals)(Y:xc X E)(hi:DIe c X tg iter fi)(u:∀cl C ex a7 b0,DG c (X.comp scope Nc cl C ex a7 b0) tg k g)(ht:∀cl C ex a7 b0,DTs c (X.comp scope Nc cl C ex a7 b0) dw ft)
 (he:∀cl C ex a7 b0,DE c (X.comp scope Nc cl C ex a7 b0) da fe)(hr:∀cl l ex a7 b0 xe,il (CX1 X.prog X.w) ((X.comp scope Nc cl l ex a7 b0).to [] xe) E->RX c ((X.comp scope Nc cl l ex a7 b0).to [] xe) C E da re)
 (z:X.N[i]?=aa x:=by rfl)(hx:Loc X.env.scope x:=by first |exact bV rfl |exact bE rfl)
 (L:eX (.ListComp da [⟨tg,iter,dw,0⟩] scope pos) (aa (.Name x b5)) c0.line X.env=pure af:=by rfl)
 (T:io scope X.env.scope.names X.N Nc k js=af:=by rfl)(hs:∀x,gS iter X.env x=pure x:=by intro _;rfl)(hj:js.Nodup:=by decide)
 (hf:LcF X x:=by first |exact .inl rfl |exact .inr rfl):
  RS c X C E (.Assign [.Name x b5] (.ListComp da [⟨tg,iter,dw,0⟩] scope pos) c0) (pO k js fi g ft fe re):=
 PS.imp (Kh hex J m Y (tt:=tDT (Gx c X) ft) (te:=λσ H Q=>tD (Gx c X) fe σ H Q\/tR (Gx c X) C E re σ H) k js Nc U z hx hc hi (λcl C ex a7 b0=>(u cl C ex a7 b0).pg) ht (λcl l ex a7 b0 xe hp=>PE.orR (PE.toE (he cl l ex a7 b0)) (hr cl l ex a7 b0 xe hp)) L T hs hf) λD σ H h=>
  Jh hj (u [] 0 [] X.s₀ X.H₀).keep (u [] 0 [] X.s₀ X.H₀).len h
end L2
namespace N_k85
open List
open PySem PySem.Spec PyProof.Rows L2
local macro_rules | `(tactic| walk_at "sc")=>`(tactic| exact ⟨rfl,rfl,rfl,by decide +kernel,rfl,by decide +kernel,by decide +kernel⟩)
abbrev top(i:Nat):Stmt:=PySem.Challenge.pw_standstill_k85_wide.main.body.getD i (.Pass ⟨0,0,0,0⟩)
@[reducible]noncomputable def xp:=top 9
@[reducible]noncomputable def xq:=top 10
@[reducible]noncomputable def s_3:=top 12
@[reducible]noncomputable def xr:=top 13
@[reducible]noncomputable def s_9:=top 14
@[reducible]noncomputable def s_4:=top 15
@[reducible]noncomputable def s_2:=top 16
@[reducible]noncomputable def xt:=top 17
@[reducible]noncomputable def xu:=top 18
@[reducible]noncomputable def xv:=top 19
@[reducible]noncomputable def xw:=top 20
@[reducible]noncomputable def xx:=top 21
@[reducible]noncomputable def xy:=top 23
@[reducible]noncomputable def s_1:=top 28
@[reducible]noncomputable def s_8:=top 29
@[reducible]noncomputable def xz:=top 30
@[reducible]noncomputable def xA:=top 31
@[reducible]noncomputable def xB:=top 32
@[reducible]noncomputable def xC:=top 33
@[reducible]noncomputable def xD:=top 34
@[reducible]noncomputable def s_6:=top 35
@[reducible]noncomputable def xE:=top 36
@[reducible]noncomputable def xF:=top 37
@[reducible]noncomputable def xG:=top 38
@[reducible]noncomputable def xH:=top 39
@[reducible]noncomputable def xI:=top 40
@[reducible]noncomputable def xJ:=top 41
@[reducible]noncomputable def xK:=top 42
@[reducible]noncomputable def s_0:=top 44
@[reducible]noncomputable def xL:=top 45
@[reducible]noncomputable def xM:=top 46
@[reducible]noncomputable def xN:=top 47
@[reducible]noncomputable def xO:=top 48
@[reducible]noncomputable def xP:=top 49
@[reducible]noncomputable def xQ:=top 50
@[reducible]noncomputable def xR:=top 51
@[reducible]noncomputable def xS:=top 52
@[reducible]noncomputable def xT:=top 53
@[reducible]noncomputable def xU:=top 54
@[reducible]noncomputable def xV:=top 55
@[reducible]noncomputable def xW:=top 56
@[reducible]noncomputable def s_5:=top 57
@[reducible]noncomputable def xX:=top 58
@[reducible]noncomputable def s_7:=top 59
def Kj:bG ["word","signs","most"] ["word","signs","most"] (bq xp):=by walk_at "sc"
def Kk:bG ["word"] ["word"] (bq xq):=by walk_at "sc"
def nX:bG ["rows","kinds","row"] ["rows"] (bq s_3):=by walk_at "sc"
def tS:bG ["row","kinds","name"] ["row","kinds"] (bq xr):=by walk_at "sc"
def Cs:bG ["words"] ["words"] (bq s_9):=by walk_at "sc"
def nY:bG ["row","kinds","args","over"] ["row","kinds"] (bq s_4):=by walk_at "sc"
def lx:bG ["pairs","outer","kinds","variable","kind","told"] ["pairs","outer","kinds"] (bq s_2):=by walk_at "sc"
def n5:bG ["args","pairs","told","arg"] ["args","pairs"] (bq xt):=by walk_at "sc"
def Ct:bG ["row","found"] ["row"] (bq xu):=by walk_at "sc"
def Kl:bG ["part"] ["part"] (bq xv):=by walk_at "sc"
def tU:bG ["items","args","thing","worth"] ["items"] (bq xw):=by walk_at "sc"
def ly:bG ["pairs","kinds","names_of","found","variable","kind","longer","way"] ["pairs","kinds"] (bq xx):=by walk_at "sc"
def xY:bG ["thing","name","args"] ["thing"] (bq xy):=by walk_at "sc"
def ki:bG ["rows","rules","places"] ["rows"] (bq s_1):=by walk_at "sc"
def kj:bG ["rows","kinds","rules","row","names"] ["rows","kinds"] (bq s_8):=by walk_at "sc"
def Cu:bG ["listed","most","what"] ["listed","most","what"] (bq xz):=by walk_at "sc"
def pZ:bG ["pairs","kinds","outer","variables","found","way","names"] ["pairs","kinds","outer"] (bq xA):=by walk_at "sc"
def Cv:bG ["body","names","sides"] ["body","names"] (bq xB):=by walk_at "sc"
def Km:bG ["args","names"] ["args","names"] (bq xC):=by walk_at "sc"
def Kn:bG ["thing","names"] ["thing","names"] (bq xD):=by walk_at "sc"
def n6:bG ["row","names","kinds","body","word"] ["row","names","kinds"] (bq s_6):=by walk_at "sc"
def Cw:bG ["low","high","items","body","rules"] ["low","high","items","body"] (bq xE):=by walk_at "sc"
def Cy:bG ["part","names","kinds"] ["part","names","kinds"] (bq xF):=by walk_at "sc"
def lz:bG ["items","over","names","kinds","found","thing","worth"] ["items","over","names","kinds"] (bq xG):=by walk_at "sc"
def lA:bG ["rules","places","rule","text"] ["rules"] (bq xH):=by walk_at "sc"
def xZ:bG ["rule","texts","part"] ["rule"] (bq xI):=by walk_at "sc"
def Cz:bG ["rule","places","head"] ["rule","places"] (bq xJ):=by walk_at "sc"
def Ko:bG ["part","places"] ["part","places"] (bq xK):=by walk_at "sc"
def Kp:bG ["_law_state","_law_many"] ["_law_state","_law_many"] (bq s_0):=by walk_at "sc"
def tW:bG ["_law_script","_law_seed_here","_law_cell"] ["_law_script"] (bq xL):=by walk_at "sc"
def Kq:bG ["_law_name","_law_first","_law_many"] ["_law_name","_law_first","_law_many"] (bq xM):=by walk_at "sc"
def CA:bG ["_law_state","_law_name","_law_way"] ["_law_state","_law_name"] (bq xN):=by walk_at "sc"
def km:bG ["_law_state","_law_count","_law_many","_law_pairs","_law_size","_law_k","_law_rows","_law_left"] ["_law_state","_law_count"] (bq xO):=by walk_at "sc"
def Kr:bG ["_law_state"] ["_law_state"] (bq xP):=by walk_at "sc"
def lB:bG ["_law_state","_law_count","_law_one","_law_other","_law_rows","_law_k","_law_thing","_law_body","_law_at"] ["_law_state","_law_count"] (bq xQ):=by walk_at "sc"
def CB:bG ["_law_state","_law_count","_law_most","_law_some"] ["_law_state","_law_count","_law_most"] (bq xR):=by walk_at "sc"
def mz:bG ["_law_state","_law_count","_law_one","_law_other","_law_rows","_law_some","_law_over","_law_way"] ["_law_state","_law_count"] (bq xS):=by walk_at "sc"
def tX:bG ["_law_state","_law_count","_law_rows","_law_row","_law_side"] ["_law_state","_law_count"] (bq xT):=by walk_at "sc"
def n8:bG ["_law_state","_law_count","_law_way","_law_body","_law_rows","_law_pairs","_law_k"] ["_law_state","_law_count"] (bq xU):=by walk_at "sc"
def tY:bG ["_law_state","_law_body","_law_k","_law_some"] ["_law_state"] (bq xV):=by walk_at "sc"
def CC:bG ["_law_found_here","_law_rows","_law_parts"] ["_law_found_here","_law_rows"] (bq xW):=by walk_at "sc"
def mC:bG ["_law_rows","_law_found_here","e"] ["_law_rows"] (bq s_5):=by walk_at "sc"
def mD:bG ["_law_plain","_law_most","_law_word","_law_head","_law_parts","_law_part"] ["_law_plain"] (bq xX):=by walk_at "sc"
def gl:bG ["_law_script","_law_state","_law_way","_law_more","_law_rows","_law_bad","_law_found_here","_law_table","_law_plain"] ["_law_script"] (bq s_7):=by walk_at "sc"
set_option genInjectivity false
set_option genSizeOf false
structure Wa where
(e_37 e_33 e_3 e_11 e_9 e_4 e_2 e_10 e_34 e_42 e_28 e_22 e_35 e_1 e_8 e_13 e_14 e_23 e_38 e_16 e_6 e_36 e_15 e_12 e_17 e_27 e_39 e_43 e_0 e_29 e_18 e_24 e_19 e_40 e_21 e_30 e_20 e_31 e_26 e_32 e_41 e_5 e_25 e_7:Addr×fI)
 (cl:Str->Addr)
 (C_BadName C_NoRow C_NoThing C_StillError C_Wide:Addr)
structure Wd(K:bA)(mg:MGT)(a:Wa):Prop where
 e_37:Df K mg "is_made_of" xp ["word","signs","most"] a.e_37
 e_33:Df K mg "is_variable" xq ["word"] a.e_33
 e_3:Df K mg "kinds_of" s_3 ["rows"] a.e_3
 e_11:Df K mg "must_be_new" xr ["row","kinds"] a.e_11
 e_9:Df K mg "must_be_unlike" s_9 ["words"] a.e_9
 e_4:Df K mg "must_be_known" s_4 ["row","kinds"] a.e_4
 e_2:Df K mg "must_be_pairs" s_2 ["pairs","outer","kinds"] a.e_2
 e_10:Df K mg "must_be_told" xt ["args","pairs"] a.e_10
 e_34:Df K mg "uses" xu ["row"] a.e_34
 e_42:Df K mg "part_uses" xv ["part"] a.e_42
 e_28:Df K mg "args_of" xw ["items"] a.e_28
 e_22:Df K mg "ways" xx ["pairs","kinds"] a.e_22
 e_35:Df K mg "shown_thing" xy ["thing"] a.e_35
 e_1:Df K mg "plain_of" s_1 ["rows"] a.e_1
 e_8:Df K mg "rules_of" s_8 ["rows","kinds"] a.e_8
 e_13:Df K mg "must_be_narrow" xz ["listed","most","what"] a.e_13
 e_14:Df K mg "names_by_ways" xA ["pairs","kinds","outer"] a.e_14
 e_23:Df K mg "has_like" xB ["body","names"] a.e_23
 e_38:Df K mg "name_all" xC ["args","names"] a.e_38
 e_16:Df K mg "text_of" xD ["thing","names"] a.e_16
 e_6:Df K mg "rules_by" s_6 ["row","names","kinds"] a.e_6
 e_36:Df K mg "choice" xE ["low","high","items","body"] a.e_36
 e_15:Df K mg "put_part" xF ["part","names","kinds"] a.e_15
 e_12:Df K mg "put_items" xG ["items","over","names","kinds"] a.e_12
 e_17:Df K mg "places_in" xH ["rules"] a.e_17
 e_27:Df K mg "texts_in" xI ["rule"] a.e_27
 e_39:Df K mg "numbered" xJ ["rule","places"] a.e_39
 e_43:Df K mg "numbered_part" xK ["part","places"] a.e_43
 e_0:Df K mg "_law_next" s_0 ["_law_state","_law_many"] a.e_0
 e_29:Df K mg "_law_seed" xL ["_law_script"] a.e_29
 e_18:Df K mg "_law_kind" xM ["_law_name","_law_first","_law_many"] a.e_18
 e_24:Df K mg "_law_single" xN ["_law_state","_law_name"] a.e_24
 e_19:Df K mg "_law_rules" xO ["_law_state","_law_count"] a.e_19
 e_40:Df K mg "_law_pairs_of_two" xP ["_law_state"] a.e_40
 e_21:Df K mg "_law_things" xQ ["_law_state","_law_count"] a.e_21
 e_30:Df K mg "_law_divisor" xR ["_law_state","_law_count","_law_most"] a.e_30
 e_20:Df K mg "_law_items" xS ["_law_state","_law_count"] a.e_20
 e_31:Df K mg "_law_given_none" xT ["_law_state","_law_count"] a.e_31
 e_26:Df K mg "_law_ways" xU ["_law_state","_law_count"] a.e_26
 e_32:Df K mg "_law_two_parts" xV ["_law_state"] a.e_32
 e_41:Df K mg "_law_two_right" xW ["_law_found_here","_law_rows"] a.e_41
 e_5:Df K mg "_law_found" s_5 ["_law_rows"] a.e_5
 e_25:Df K mg "_law_most_items" xX ["_law_plain"] a.e_25
 e_7:Df K mg "law" s_7 ["_law_script"] a.e_7
 g_BadName:mg "BadName"=aa (.ref a.C_BadName)
 g_NoRow:mg "NoRow"=aa (.ref a.C_NoRow)
 g_NoThing:mg "NoThing"=aa (.ref a.C_NoThing)
 g_StillError:mg "StillError"=aa (.ref a.C_StillError)
 g_Wide:mg "Wide"=aa (.ref a.C_Wide)
 x_BadName:dU K a.C_BadName=af
 x_StillError:dU K a.C_StillError=af
 x_Wide:dU K a.C_Wide=af
 ec_BadName:jv K a.C_BadName
 mr_StillError:gc K a.C_BadName (.ref a.C_StillError)=aa af
 ke_BadName:fK K (.ref a.C_BadName) (.ref a.C_BadName)=aa af
 kv_ValueError:fK K (.ref a.C_BadName) (.type "ValueError")=aa af
 ke_Wide:fK K (.ref a.C_BadName) (.ref a.C_Wide)=aa aj
 km_NoRow_NoThing:W.kitAny K (.ref a.C_BadName) [.ref a.C_NoRow,.ref a.C_NoThing]=aa aj
 ec_Wide:jv K a.C_Wide
 mr2_StillError:gc K a.C_Wide (.ref a.C_StillError)=aa af
 ke2_BadName:fK K (.ref a.C_Wide) (.ref a.C_BadName)=aa aj
 kv2_ValueError:fK K (.ref a.C_Wide) (.type "ValueError")=aa af
 ke2_Wide:fK K (.ref a.C_Wide) (.ref a.C_Wide)=aa af
 km2_NoRow_NoThing:W.kitAny K (.ref a.C_Wide) [.ref a.C_NoRow,.ref a.C_NoThing]=aa aj
 g_SMALL:∃t,mg "SMALL"=aa (.str "abcdefghijklmnopqrstuvwxyz" t)
 g_GREAT:∃t,mg "GREAT"=aa (.str "ABCDEFGHIJKLMNOPQRSTUVWXYZ" t)
 g_MOST_RULES:∃t,mg "MOST_RULES"=aa (.int 400 t)
 g_MOST_THINGS:∃t,mg "MOST_THINGS"=aa (.int 60 t)
 g_MOST_ITEMS:∃t,mg "MOST_ITEMS"=aa (.int 60 t)
 z_ValueError:mg "ValueError"=ae
 z_all:mg "all"=ae
 z_any:mg "any"=ae
 z_dict:mg "dict"=ae
 z_int:mg "int"=ae
 z_isinstance:mg "isinstance"=ae
 z_len:mg "len"=ae
 z_list:mg "list"=ae
 z_max:mg "max"=ae
 z_range:mg "range"=ae
 z_set:mg "set"=ae
 z_zip:mg "zip"=ae
set_option genInjectivity true
set_option genSizeOf true
nonrec abbrev qD(P:cS)(w:World)(K:bA)(mg:MGT)(base:Heap)(a:Wa)(k:Nat)(x:Str)(e:Addr×fI)(ps:LSt)(m:LD->OD):Prop:=Pk P w K mg base CX0 k x e ps (spD ⟨K,a.cl⟩ ps.length m)
nonrec abbrev qM(P:cS)(w:World)(K:bA)(mg:MGT)(base:Heap)(a:Wa)(k:Nat)(x:Str)(e:Addr×fI)(ps:LSt)(b:Nat)(m:Addr->LD->LD->LD->Option (LD×D)):Prop:=Pk P w K mg base CX0 k x e ps (spM ⟨K,a.cl⟩ b ps.length m)
abbrev b_9:MF3:=
 (bv (mB (m2 dLt (lu (ag 0)) (aq cI (ac (ag 0) nZ)))) (λ_=>ae) bK)
abbrev m_9:=cb 1 b_9
abbrev x6:LS->Bool:=
 (rIf (mTX (mB (m2 dLt (lu (ag 0)) (aq cI (ac (ag 0) nZ))))) (rOf (ac (kSt "a name or a variable is told twice") nZ)) rNo)
abbrev r_9:LD->Bool:=λds=>x6 (dL 1 ds)
abbrev b_2:MF3:=
 (aA (cJ (aq m_9 (ac (aw (bH 2 [] (aS (m2 bX (ag 1) (ag 0))) (cU (bu (aJ 0) (bu (aJ 1) cP))) kY (ag 0))) nZ)))
  (aA (bD 5 (aw (bH 2 [] (aS (ag 2)) (cU (bu (aJ 0) (bu (aJ 1) cP))) kY (ag 0))))
  (cw (aS (ag 0)) (cU (bu (aJ 3) (bu (aJ 4) cP))) (bv (mB (m2 iw (ag 4) (ag 5))) (λ_=>ae) bK))))
abbrev m_2:=cb 6 b_2
abbrev x8:LS->Bool:=
 (dg (c8 rNo r_9 (aI (mX (aw (bH 2 [] (aS (m2 bX (ag 1) (ag 0))) (cU (bu (aJ 0) (bu (aJ 1) cP))) kY (ag 0)))) bc)) (cJ (aq m_9 (ac (aw (bH 2 [] (aS (m2 bX (ag 1) (ag 0))) (cU (bu (aJ 0) (bu (aJ 1) cP))) kY (ag 0))) nZ)))
  (dg rNo (bD 5 (aw (bH 2 [] (aS (ag 2)) (cU (bu (aJ 0) (bu (aJ 1) cP))) kY (ag 0))))
  (iJ (aS (ag 0)) (cU (bu (aJ 3) (bu (aJ 4) cP))) (bv (mB (m2 iw (ag 4) (ag 5))) (λ_=>ae) bK) (rIf (mTX (mB (m2 iw (ag 4) (ag 5)))) (rOf (ac (mFs (mFc "the kind " (mFv (ag 4) (mFc " of " (mFv (ag 3) (mFc " isn't told ahead" nZ)))))) nZ)) rNo))))
abbrev r_2:LD->Bool:=λds=>x8 (dL 6 ds)
abbrev x9:MF3:=
 (bY (jf (nI dLe dLe (kI 1) (aq cI (ac (ag 0) nZ)) (ag 2)) (aq sP (ac (aw (bH 1 [1] (nN (ag 0)) (aJ 0) kY (m2 nO (ag 0) (ag 1)))) nZ))))
abbrev tZ:=cb 3 x9
abbrev ya:MF3:=
 (bY (jf (aq tZ (ac (nP (ag 0) (λ_=>aa ae) (mPt (kI 1))) (ac (kSt "ABCDEFGHIJKLMNOPQRSTUVWXYZ") (ac (kI 1) nZ)))) (vOr (m2 dEq (aq cI (ac (ag 0) nZ)) (kI 1)) (aq tZ (ac (nP (ag 0) (mPt (kI 1)) (λ_=>aa ae)) (ac (kSt "abcdefghijklmnopqrstuvwxyz") (ac (kI 7) nZ)))))))
abbrev p5:=cb 1 ya
abbrev yb:MF3:=
 (aA (bD 2 (aw (bH 2 [] (aS (ag 1)) (cU (bu (aJ 0) (bu (aJ 1) cP))) kY (ag 0))))
  (cw (aS (ag 0)) (aJ 3) (bv (ir (ge (aq p5 (ac (ag 3) nZ))) (mB (m2 iw (ag 3) (ag 2)))) (λ_=>ae) bK)))
abbrev ub:=cb 4 yb
abbrev yc:LS->Bool:=
 (dg rNo (bD 2 (aw (bH 2 [] (aS (ag 1)) (cU (bu (aJ 0) (bu (aJ 1) cP))) kY (ag 0))))
  (iJ (aS (ag 0)) (aJ 3) (bv (ir (ge (aq p5 (ac (ag 3) nZ))) (mB (m2 iw (ag 3) (ag 2)))) (λ_=>ae) bK) (rIf (mTX (ir (ge (aq p5 (ac (ag 3) nZ))) (mB (m2 iw (ag 3) (ag 2))))) (rOf (ac (mFs (mFc "the variable " (mFv (ag 3) (mFc " isn't told" nZ)))) nZ)) rNo)))
abbrev CD:LD->Bool:=λds=>yc (dL 4 ds)
abbrev yd:MF3:=
 (aA (dD 1 nZ)
  (aA (cw (aS (ag 0)) (cU (bu (aJ 2) (bu (aJ 3) cP))) (fA 1 (fw (mIx (am 2) (kI 1)))))
  (e8 1)))
abbrev uc:=cb 4 yd
abbrev ye:MF3:=
 (aA (bv (mB (m2 dEq (mIx (am 0) (kI 0)) (kSt "unlike"))) (bY (aO (ac (aw (ac (mIx (am 0) (kI 1)) (ac (mIx (am 0) (kI 2)) nZ))) (ac (aw nZ) nZ)))) bK)
  (aA (bv (mB (m2 dIn (mIx (am 0) (kI 0)) (aO (ac (kSt "least") (ac (kSt "most") nZ))))) (bY (aO (ac (aq uc (ac (mIx (am 0) (kI 2)) nZ)) (ac (mIx (am 0) (kI 3)) nZ)))) bK)
  (bY (aO (ac (mIx (aS (mIx (am 0) (kI 1))) (kI 1)) (ac (aw nZ) nZ))))))
abbrev ud:=cb 1 ye
abbrev yf:MF3:=
 (aA (dD 1 (bH 1 [] (aS (mIx (am 0) (m1 bP (kI 2)))) (aJ 0) kY (aq ud (ac (ag 0) nZ))))
  (aA (bv (mB (m2 dEq (mIx (am 0) (kI 0)) (kSt "choose"))) (fN 1 (aO (ac (aq uc (ac (mIx (am 0) (kI 3)) nZ)) (ac (mIx (am 0) (kI 4)) nZ)))) (bv (mB (m2 dNe (mIx (am 0) (kI 0)) (kSt "never"))) (fN 1 (aO (ac (mIx (aS (mIx (am 0) (kI 1))) (kI 1)) (ac (aw nZ) nZ)))) bK))
  (e8 1)))
abbrev ue:=cb 2 yf
abbrev b_4:MF3:=
 (aA (cJ (aq m_2 (ac (mIx (am 0) (m1 bP (kI 1))) (ac (aw nZ) (ac (ag 1) nZ)))))
  (cw (aS (aq ue (ac (ag 0) nZ))) (cU (bu (aJ 2) (bu (aJ 3) cP))) (aA (cJ (aq m_2 (ac (ag 3) (ac (mIx (am 0) (m1 bP (kI 1))) (ac (ag 1) nZ)))))
  (cJ (aq ub (ac (ag 2) (ac (m2 bX (mIx (am 0) (m1 bP (kI 1))) (ag 3)) nZ)))))))
abbrev m_4:=cb 4 b_4
abbrev uf:LS->Bool:=
 (dg (c8 rNo r_2 (aI (mX (mIx (am 0) (m1 bP (kI 1)))) (aI (mX (aw nZ)) (aI (mX (ag 1)) bc)))) (cJ (aq m_2 (ac (mIx (am 0) (m1 bP (kI 1))) (ac (aw nZ) (ac (ag 1) nZ)))))
  (iJ (aS (aq ue (ac (ag 0) nZ))) (cU (bu (aJ 2) (bu (aJ 3) cP))) (aA (cJ (aq m_2 (ac (ag 3) (ac (mIx (am 0) (m1 bP (kI 1))) (ac (ag 1) nZ)))))
  (cJ (aq ub (ac (ag 2) (ac (m2 bX (mIx (am 0) (m1 bP (kI 1))) (ag 3)) nZ))))) (dg (c8 rNo r_2 (aI (mX (ag 3)) (aI (mX (mIx (am 0) (m1 bP (kI 1)))) (aI (mX (ag 1)) bc)))) (cJ (aq m_2 (ac (ag 3) (ac (mIx (am 0) (m1 bP (kI 1))) (ac (ag 1) nZ)))))
  (c8 rNo CD (aI (mX (ag 2)) (aI (mX (m2 bX (mIx (am 0) (m1 bP (kI 1))) (ag 3))) bc))))))
abbrev r_4:LD->Bool:=λds=>uf (dL 4 ds)
abbrev yg:MF3:=
 (aA (bD 2 (mIx (am 0) (kI 1)))
  (aA (bv (mB (m2 dIn (ag 2) (aw (bH 2 [] (aS (ag 1)) (cU (bu (aJ 0) (bu (aJ 1) cP))) kY (ag 0))))) (λ_=>ae) bK)
  (cJ (aq m_9 (ac (mIx (am 0) (kI 2)) nZ)))))
abbrev p6:=cb 3 yg
abbrev yh:LS->Bool:=
 (dg rNo (bD 2 (mIx (am 0) (kI 1)))
  (dg (rIf (mTX (mB (m2 dIn (ag 2) (aw (bH 2 [] (aS (ag 1)) (cU (bu (aJ 0) (bu (aJ 1) cP))) kY (ag 0)))))) (rOf (ac (mFs (mFc "the kind " (mFv (ag 2) (mFc " is told twice" nZ)))) nZ)) rNo) (bv (mB (m2 dIn (ag 2) (aw (bH 2 [] (aS (ag 1)) (cU (bu (aJ 0) (bu (aJ 1) cP))) kY (ag 0))))) (λ_=>ae) bK)
  (c8 rNo r_9 (aI (mX (mIx (am 0) (kI 2))) bc))))
abbrev CF:LD->Bool:=λds=>yh (dL 3 ds)
abbrev b_3:MF3:=
 (aA (dD 1 nZ)
  (aA (cw (aS (ag 0)) (aJ 2) (bv (mB (m2 dEq (mIx (am 2) (kI 0)) (kSt "kind"))) (aA (cJ (fQ p6 (ac (ag 2) (ac (eO 1) nZ))))
  (fN 1 (aO (ac (mIx (am 2) (kI 1)) (ac (aw (aS (mIx (am 2) (kI 2)))) nZ))))) (cJ (fQ m_4 (ac (ag 2) (ac (eO 1) nZ))))))
  (e8 1)))
abbrev m_3:=cb 3 b_3
abbrev ug:LS->Bool:=
 (dg rNo (dD 1 nZ)
  (iJ (aS (ag 0)) (aJ 2) (bv (mB (m2 dEq (mIx (am 2) (kI 0)) (kSt "kind"))) (aA (cJ (fQ p6 (ac (ag 2) (ac (eO 1) nZ))))
  (fN 1 (aO (ac (mIx (am 2) (kI 1)) (ac (aw (aS (mIx (am 2) (kI 2)))) nZ))))) (cJ (fQ m_4 (ac (ag 2) (ac (eO 1) nZ))))) (rIf (mTX (mB (m2 dEq (mIx (am 2) (kI 0)) (kSt "kind")))) (jx 1 (c8 rNo CF (aI (mX (ag 2)) (aI (mX (ag 1)) bc)))) (jx 1 (c8 rNo r_4 (aI (mX (ag 2)) (aI (mX (ag 1)) bc)))))))
abbrev r_3:LD->Bool:=λds=>ug (dL 3 ds)
abbrev uh:MF3:=
 (aA (bv (mB (m2 dIn (mIx (am 0) (kI 0)) (aO (ac (kSt "in") (ac (kSt "out") nZ))))) (bY (aO (ac (mIx (am 0) (kI 0)) (ac (m2 iB (ag 1) (mIx (am 0) (kI 1))) nZ)))) bK)
  (bY (aO (ac (mIx (am 0) (kI 0)) (ac (mIx (am 0) (kI 1)) (ac (aw (bH 2 [1] (aS (mIx (am 0) (kI 2))) (cU (bu (aJ 0) (bu (aJ 1) cP))) kY (aO (ac (m2 iB (ag 2) (ag 0)) (ac (ag 1) nZ))))) nZ))))))
abbrev yi:=cb 2 uh
abbrev uj:MF3:=
 (aA (bD 2 (vIf (mB (m2 dIs (mIx (am 0) (kI 1)) kN)) kN (m2 iB (ag 1) (mIx (am 0) (kI 1)))))
  (bY (aO (ac (mIx (am 0) (kI 0)) (ac (ag 2) (ac (aw (bH 1 [1] (aS (mIx (am 0) (kI 2))) (aJ 0) kY (aq yi (ac (ag 0) (ac (ag 1) nZ))))) nZ))))))
abbrev yj:=cb 3 uj
abbrev ym:MF3:=
 (bv (mB (m2 dGt (je (aq cI (ac (ag 0) nZ)) (gM (ag 0))) (ag 1))) (λ_=>ae) bK)
abbrev iM:=cb 3 ym
abbrev yn:LS->Bool:=
 (rIf (mTX (mB (m2 dGt (je (aq cI (ac (ag 0) nZ)) (gM (ag 0))) (ag 1)))) (rOf (ac (mFs (mFc "more than " (mFv (ag 1) (mFc " " (mFv (ag 2) nZ))))) nZ)) rNo)
abbrev og:LD->Bool:=λds=>yn (dL 3 ds)
abbrev uk:MF3:=
 (aA (dD 1 (pW (mB (m2 dIs (mIx (am 0) (kI 1)) kN)) nZ (ac (mIx (am 0) (kI 1)) nZ)))
  (aA (cw (aS (mIx (am 0) (kI 2))) (aJ 2) (bv (mB (m2 dIn (mIx (am 2) (kI 0)) (aO (ac (kSt "in") (ac (kSt "out") nZ))))) (fN 1 (mIx (am 2) (kI 1))) (fA 1 (fw (aw (bH 2 [] (aS (mIx (am 2) (kI 2))) (cU (bu (aJ 0) (bu (aJ 1) cP))) kY (ag 0)))))))
  (e8 1)))
abbrev p7:=cb 3 uk
abbrev p8:MF3:=
 (aA (sS 1)
  (aA (cw (aS (ag 0)) (aJ 2) (cw (aS (aq p7 (ac (ag 2) nZ))) (aJ 3) (my 1 (ag 3) (gM (eO 1)))))
  (aA (g9 1 (cJ (aq iM (ac (ag 1) (ac (kI 60) (ac (kSt "things") nZ))))))
  (g9 1 (bY (ag 1))))))
abbrev ul:=cb 4 p8
abbrev um:LS->Bool:=
 (dg rNo (sS 1)
  (dg rNo (cw (aS (ag 0)) (aJ 2) (cw (aS (aq p7 (ac (ag 2) nZ))) (aJ 3) (my 1 (ag 3) (gM (eO 1)))))
  (pX 1 (c8 rNo og (aI (mX (ag 1)) (aI (mX (kI 60)) (aI (mX (kSt "things")) bc)))))))
abbrev yo:LD->Bool:=λds=>um (dL 4 ds)
abbrev yq:MF3:=
 (lg (bH 1 [1] (aS (ag 0)) (aJ 0) kY (pV (ag 1) (ag 0) (ag 0))))
abbrev uo:=cb 2 yq
abbrev yr:MF3:=
 (aA (bD 2 (aw (bH 1 [1] (aS (ag 0)) (aJ 0) (mB (m2 dEq (mIx (am 0) (kI 0)) (kSt "unlike"))) (aq uo (ac (kh (ag 0) (mPt (kI 1)) (λ_=>aa ae)) (ac (ag 1) nZ))))))
  (bY (aq sQ (ac (aw (bH 2 [] (aS (ag 2)) (tQ (bu (aJ 0) (bu (aJ 1) cP))) kY (m2 dEq (ag 0) (ag 1)))) nZ))))
abbrev mE:=cb 3 yr
abbrev uq:MF3:=
 (aA (tE 2 (ag 1))
  (aA (g9 2 (bD 3 (aw (ac (aw nZ) nZ))))
  (aA (cw (aS (ag 0)) (cU (bu (aJ 4) (bu (aJ 5) cP))) (aA (dD 6 nZ)
  (aA (cw (aS (ag 3)) (aJ 7) (fA 6 (fw (aw (bH 1 [7] (aS (m2 iB (ag 2) (ag 5))) (aJ 0) kY (aw (eh (ag 1) (aw (ac (ag 0) nZ)))))))))
  (fu 6 (bD 3 (ag 6))))))
  (e8 3))))
abbrev yt:=cb 8 uq
abbrev ur:MF3:=
 (aA (bD 3 (aw (bH 2 [] (aS (ag 0)) (cU (bu (aJ 0) (bu (aJ 1) cP))) kY (ag 0))))
  (aA (dD 4 nZ)
  (aA (cw (aS (aq yt (ac (ag 0) (ac (ag 1) nZ)))) (aJ 5) (aA (pR 6 (ag 2))
  (aA (pS 6 (tO (ac (ag 3) (ac (ag 5) nZ))))
  (fu 6 (fN 4 (ag 6))))))
  (e8 4))))
abbrev ko:=cb 7 ur
abbrev ut:MF3:=
 (aA (dD 4 (bH 2 [3] (aS (ag 2)) (cU (bu (aJ 0) (bu (aJ 1) cP))) kY (aO (ac (kSt "may") (ac (ag 0) (ac (ag 2) nZ))))))
  (aA (fN 4 (aO (ac (kSt "never") (ac kN (ac (aw (eh (ag 3) (aw (ac (aO (ac (kSt "most") (ac (m2 fY (ag 0) (kI 1)) (ac (ag 2) nZ)))) nZ)))) nZ)))))
  (aA (fN 4 (aO (ac (kSt "never") (ac kN (ac (aw (eh (ag 3) (aw (ac (aO (ac (kSt "least") (ac (m2 bX (ag 1) (kI 1)) (ac (ag 2) nZ)))) nZ)))) nZ)))))
  (e8 4))))
abbrev yu:=cb 5 ut
abbrev uu:MF3:=
 (aA (bD 1 (mIx (am 0) (kI 0)))
  (aA (bD 2 (m2 tI (kSt ",") (mIx (am 0) (kI 1))))
  (bY (vIf (ge (ag 2)) (mFs (mFv (ag 1) (mFc "(" (mFv (ag 2) (mFc ")" nZ))))) (ag 1)))))
abbrev yv:=cb 3 uu
abbrev yw:MF3:=
 (bY (aq yv (ac (aO (ac (mIx (am 0) (kI 0)) (ac (aq uo (ac (mIx (am 0) (kI 1)) (ac (ag 1) nZ))) nZ))) nZ)))
abbrev jz:=cb 2 yw
abbrev p9:MF3:=
 (aA (dD 4 nZ)
  (aA (cw (aS (ag 0)) (cU (bu (aJ 5) (bu (aJ 6) cP))) (fA 4 (fw (aw (bH 1 [6,5] (aS (aq ko (ac (ag 1) (ac (ag 3) (ac (ag 2) nZ))))) (aJ 0) kY (aO (ac (aq jz (ac (ag 2) (ac (ag 0) nZ))) (ac (ag 1) nZ))))))))
  (aA (fu 4 (cJ (aq iM (ac (ag 4) (ac (kI 60) (ac (kSt "items") nZ))))))
  (e8 4))))
abbrev mF:=cb 7 p9
abbrev uv:LS->Bool:=
 (dg rNo (dD 4 nZ)
  (dg rNo (cw (aS (ag 0)) (cU (bu (aJ 5) (bu (aJ 6) cP))) (fA 4 (fw (aw (bH 1 [6,5] (aS (aq ko (ac (ag 1) (ac (ag 3) (ac (ag 2) nZ))))) (aJ 0) kY (aO (ac (aq jz (ac (ag 2) (ac (ag 0) nZ))) (ac (ag 1) nZ))))))))
  (jx 4 (c8 rNo og (aI (mX (ag 4)) (aI (mX (kI 60)) (aI (mX (kSt "items")) bc)))))))
abbrev uw:LD->Bool:=λds=>uv (dL 7 ds)
abbrev qb:MF3:=
 (aA (bv (mB (m2 dEq (mIx (am 0) (kI 0)) (kSt "is"))) (bY (aO (ac (kSt "in") (ac (aq jz (ac (mIx (am 0) (kI 1)) (ac (ag 1) nZ))) nZ)))) bK)
  (aA (bv (mB (m2 dEq (mIx (am 0) (kI 0)) (kSt "not"))) (bY (aO (ac (kSt "out") (ac (aq jz (ac (mIx (am 0) (kI 1)) (ac (ag 1) nZ))) nZ)))) bK)
  (bY (aO (ac (mIx (am 0) (kI 0)) (ac (mIx (am 0) (kI 1)) (ac (aq mF (ac (mIx (am 0) (kI 2)) (ac (mIx (am 0) (kI 3)) (ac (ag 1) (ac (ag 2) nZ))))) nZ)))))))
abbrev kr:=cb 3 qb
abbrev ux:LS->Bool:=
 (dg rNo (bv (mB (m2 dEq (mIx (am 0) (kI 0)) (kSt "is"))) (bY (aO (ac (kSt "in") (ac (aq jz (ac (mIx (am 0) (kI 1)) (ac (ag 1) nZ))) nZ)))) bK)
  (dg rNo (bv (mB (m2 dEq (mIx (am 0) (kI 0)) (kSt "not"))) (bY (aO (ac (kSt "out") (ac (aq jz (ac (mIx (am 0) (kI 1)) (ac (ag 1) nZ))) nZ)))) bK)
  (j8 rNo (mX (mIx (am 0) (kI 0))) (j8 rNo (mX (mIx (am 0) (kI 1))) (c8 rNo uw (aI (mX (mIx (am 0) (kI 2))) (aI (mX (mIx (am 0) (kI 3))) (aI (mX (ag 1)) (aI (mX (ag 2)) bc)))))))))
abbrev yx:LD->Bool:=λds=>ux (dL 3 ds)
abbrev b_6:MF3:=
 (aA (bD 3 (aw (bH 1 [1,2] (aS (mIx (am 0) (m1 bP (kI 2)))) (aJ 0) (mB (m2 dNe (mIx (am 0) (kI 0)) (kSt "unlike"))) (aq kr (ac (ag 0) (ac (ag 1) (ac (ag 2) nZ)))))))
  (aA (bv (mB (m2 dEq (mIx (am 0) (kI 0)) (kSt "never"))) (lg (ac (aO (ac (kSt "never") (ac kN (ac (ag 3) nZ)))) nZ)) bK)
  (aA (bv (mB (m2 dEq (mIx (am 0) (kI 0)) (kSt "choose"))) (bY (aq yu (ac (mIx (am 0) (kI 1)) (ac (mIx (am 0) (kI 2)) (ac (aq mF (ac (mIx (am 0) (kI 3)) (ac (mIx (am 0) (kI 4)) (ac (ag 1) (ac (ag 2) nZ))))) (ac (ag 3) nZ)))))) bK)
  (aA (bD 4 (vIf (mB (m2 dEq (mIx (am 0) (kI 0)) (kSt "rule"))) (kSt "make") (kSt "may")))
  (lg (ac (aO (ac (ag 4) (ac (aq jz (ac (mIx (am 0) (kI 1)) (ac (ag 1) nZ))) (ac (ag 3) nZ)))) nZ))))))
abbrev m_6:=cb 5 b_6
abbrev qc:LS->Bool:=
 (dg (pO 1 [1,2] (aS (mIx (am 0) (m1 bP (kI 2)))) (aJ 0) (mB (m2 dNe (mIx (am 0) (kI 0)) (kSt "unlike"))) (aq kr (ac (ag 0) (ac (ag 1) (ac (ag 2) nZ)))) (c8 rNo yx (aI (mX (ag 0)) (aI (mX (ag 1)) (aI (mX (ag 2)) bc))))) (bD 3 (aw (bH 1 [1,2] (aS (mIx (am 0) (m1 bP (kI 2)))) (aJ 0) (mB (m2 dNe (mIx (am 0) (kI 0)) (kSt "unlike"))) (aq kr (ac (ag 0) (ac (ag 1) (ac (ag 2) nZ)))))))
  (dg rNo (bv (mB (m2 dEq (mIx (am 0) (kI 0)) (kSt "never"))) (lg (ac (aO (ac (kSt "never") (ac kN (ac (ag 3) nZ)))) nZ)) bK)
  (rIf (mTX (mB (m2 dEq (mIx (am 0) (kI 0)) (kSt "choose")))) (j8 rNo (mX (mIx (am 0) (kI 1))) (j8 rNo (mX (mIx (am 0) (kI 2))) (c8 rNo uw (aI (mX (mIx (am 0) (kI 3))) (aI (mX (mIx (am 0) (kI 4))) (aI (mX (ag 1)) (aI (mX (ag 2)) bc))))))) rNo)))
abbrev qd:LD->Bool:=λds=>qc (dL 5 ds)
abbrev b_8:MF3:=
 (aA (dD 2 nZ)
  (aA (cw (aS (ag 0)) (aJ 3) (bv (mB (m2 dNe (mIx (am 3) (kI 0)) (kSt "kind"))) (cw (aS (aq ko (ac (mIx (am 3) (m1 bP (kI 1))) (ac (ag 1) (ac (λ_=>aa (.dic [] [])) nZ))))) (aJ 4) (bv (jV (ge (aq mE (ac (mIx (am 3) (m1 bP (kI 2))) (ac (ag 4) nZ))))) (aA (fA 2 (fw (aq m_6 (ac (ag 3) (ac (ag 4) (ac (ag 1) nZ))))))
  (cJ (fQ iM (ac (eO 2) (ac (kI 400) (ac (kSt "rules") nZ)))))) bK)) bK))
  (e8 2)))
abbrev m_8:=cb 5 b_8
abbrev uz:LS->Bool:=
 (dg rNo (dD 2 nZ)
  (iJ (aS (ag 0)) (aJ 3) (bv (mB (m2 dNe (mIx (am 3) (kI 0)) (kSt "kind"))) (cw (aS (aq ko (ac (mIx (am 3) (m1 bP (kI 1))) (ac (ag 1) (ac (λ_=>aa (.dic [] [])) nZ))))) (aJ 4) (bv (jV (ge (aq mE (ac (mIx (am 3) (m1 bP (kI 2))) (ac (ag 4) nZ))))) (aA (fA 2 (fw (aq m_6 (ac (ag 3) (ac (ag 4) (ac (ag 1) nZ))))))
  (cJ (fQ iM (ac (eO 2) (ac (kI 400) (ac (kSt "rules") nZ)))))) bK)) bK) (rIf (mTX (mB (m2 dNe (mIx (am 3) (kI 0)) (kSt "kind")))) (iJ (aS (aq ko (ac (mIx (am 3) (m1 bP (kI 1))) (ac (ag 1) (ac (λ_=>aa (.dic [] [])) nZ))))) (aJ 4) (bv (jV (ge (aq mE (ac (mIx (am 3) (m1 bP (kI 2))) (ac (ag 4) nZ))))) (aA (fA 2 (fw (aq m_6 (ac (ag 3) (ac (ag 4) (ac (ag 1) nZ))))))
  (cJ (fQ iM (ac (eO 2) (ac (kI 400) (ac (kSt "rules") nZ)))))) bK) (rIf (mTX (jV (ge (aq mE (ac (mIx (am 3) (m1 bP (kI 2))) (ac (ag 4) nZ)))))) (dg (pP 2 (c8 rNo qd (aI (mX (ag 3)) (aI (mX (ag 4)) (aI (mX (ag 1)) bc))))) (fA 2 (fw (aq m_6 (ac (ag 3) (ac (ag 4) (ac (ag 1) nZ))))))
  (jx 2 (c8 rNo og (aI (mX (ag 2)) (aI (mX (kI 400)) (aI (mX (kSt "rules")) bc)))))) rNo)) rNo)))
abbrev uA:LD->Bool:=λds=>uz (dL 5 ds)
abbrev b_1:MF3:=
 (aA (bD 1 (aq m_8 (ac (ag 0) (ac (aq m_3 (ac (ag 0) nZ)) nZ))))
  (aA (bD 2 (aq ul (ac (ag 1) nZ)))
  (bY (aO (ac (aw (xl (ag 2))) (ac (aO (ac (gM (ag 2)) (ac (aw (bH 1 [2] (aS (ag 1)) (aJ 0) kY (aq yj (ac (ag 0) (ac (ag 1) nZ))))) nZ))) nZ))))))
abbrev m_1:=cb 3 b_1
abbrev qe:LS->Bool:=
 (j8 rNo (mX (ag 0)) (c8 rNo r_3 (aI (mX (ag 0)) bc)))
abbrev r_1:LD->Bool:=λds=>qe (dL 3 ds)
abbrev mG:LS->Bool:=
 (dg (c8 rNo uA (aI (mX (ag 0)) (aI (mX (aq m_3 (ac (ag 0) nZ))) bc))) (bD 1 (aq m_8 (ac (ag 0) (ac (aq m_3 (ac (ag 0) nZ)) nZ))))
  (c8 rNo yo (aI (mX (ag 1)) bc)))
abbrev ku:LD->Bool:=λds=>mG (dL 3 ds)
abbrev b_5:MF3:=
 (aA (bD 1 (aw nZ))
  (aA (iL (bD 1 (aw (ac (aq m_1 (ac (ag 0) nZ)) nZ))) (iL (jw (c8 rNo ku (aI (mX (ag 0)) bc)) 1 [af,aj,af,aj]) (jw (c8 rNo r_1 (aI (mX (ag 0)) bc)) 1 [aj,af,af,aj])))
  (e8 1)))
abbrev m_5:=cb 3 b_5
abbrev b_0:MF3:=
 (aA (nK 0 (kI 0) (m2 gZ (m2 bX (m2 lj (mIx (tm 0) (kI 0)) (kI 1181783497276652981)) (kI 12345678910987)) (m2 fY (m2 pf (kI 2) (kI 61)) (kI 1))))
  (gh (m2 gZ (m2 jW (mIx (tm 0) (kI 0)) (kI 65537)) (ag 1))))
abbrev m_0:=gi 2 b_0
abbrev qf:MF3:=
 (aA (bD 3 (aw (bH 1 [1] (gf (ac (kI 1) (ac (m2 bX (ag 2) (kI 1)) nZ))) (aJ 0) (mB (m2 dEq (m2 gZ (ag 1) (ag 0)) (kI 0))) (ag 0))))
  (nL (mX2 iD (mX (ag 3)) (cC 0 m_0 (aI (mX (aq cI (ac (ag 3) nZ))) bc)))))
abbrev uB:=gi 4 qf
abbrev uC:MF3:=
 (bY (aO (ac (kSt "kind") (ac (ag 0) (ac (aw (bH 1 [1] (gf (ac (ag 2) nZ)) (aJ 0) kY (m2 bX (ag 1) (m2 iC (kSt "abcdefghijkl") (ag 0))))) nZ)))))
abbrev kx:=cb 3 uC
abbrev qg:MF3:=
 (aA (dM 2 (cC 0 uB (aI (mX (ag 1)) (aI (mX (kI 12)) bc))))
  (aA (dM 3 (cC 0 uB (aI (mX (m2 jW (ag 1) (ag 2))) (aI (mX (kI 4)) bc))))
  (aA (bD 4 (aw (ac (aq kx (ac (kSt "k") (ac (kSt "a") (ac (ag 2) nZ)))) (ac (aq kx (ac (kSt "j") (ac (kSt "b") (ac (ag 3) nZ)))) nZ))))
  (aA (pY 5 (iE 1 [0] 0 0 (mr (aI (mX (m2 jW (m2 jW (ag 1) (ag 2)) (ag 3))) bc)) (aJ 0) (jt (aI (mX (aO (ac (kSt "q") (ac (aw nZ) nZ)))) (aI (cC 1 m_0 (aI (mX (kI 3)) bc)) bc)))))
  (aA (nW 5 (cC 0 m_0 (aI (mX (aq cI (ac (eO 5) nZ))) bc)) (aO (ac (aO (ac (kSt "p") (ac (aw (ac (kSt "X") (ac (kSt "Y") nZ))) nZ))) (ac (kI 1) nZ))))
  (aA (bD 6 (aw (ac (aO (ac (kSt "X") (ac (kSt "k") nZ))) (ac (aO (ac (kSt "Y") (ac (kSt "j") nZ))) nZ))))
  (aA (dM 7 (cC 0 m_0 (aI (mX (kI 3)) bc)))
  (aA (bv (mB (m2 dEq (ag 7) (kI 0))) (fu 5 (gh (aw (eh (ag 4) (aw (ac (aO (ac (kSt "choose") (ac (kI 1) (ac (kI 2) (ac (ag 5) (ac (ag 6) (ac (aw nZ) (ac (aw nZ) nZ)))))))) nZ)))))) bK)
  (fu 5 (gh (aw (eh (ag 4) (aw (ac (aO (ac (kSt "may") (ac (aO (ac (kSt "q") (ac (aw nZ) nZ))) (ac (aw (ac (aO (ac (mIx (ac (kSt "least") (ac (kSt "most") nZ)) (m2 fY (ag 7) (kI 1))) (ac (kI 2) (ac (ag 5) (ac (ag 6) nZ))))) nZ)) (ac (aw nZ) nZ))))) nZ))))))))))))))
abbrev uD:=gi 8 qg
abbrev qh:MF3:=
 (aA (dM 2 (cC 0 uD (aI (mX (m2 bX (ag 1) (kI 3))) bc)))
  (aA (bD 3 (mIx (am 2) (m1 bP (kI 1))))
  (aA (bD 4 (mIx (aS (mIx (aS (mIx (am 2) (kI 0))) (kI 2))) (kI 0)))
  (gh (aw (eh (aw (mSl (ag 2) (λ_=>aa ae) (mPt (m1 bP (kI 1))))) (aw (ac (nV (kh (ag 3) (λ_=>aa ae) (mPt (m1 bP (kI 2)))) (aO (ac (aw (eh (mIx (am 3) (m1 bP (kI 2))) (aw (ac (aO (ac (kSt "unlike") (ac (ag 4) (ac (ag 4) nZ)))) nZ)))) (ac (mIx (am 3) (m1 bP (kI 1))) nZ)))) nZ))))))))
abbrev yy:=gi 5 qh
abbrev uE:MF3:=
 (aA (bD 1 (kI 0))
  (aA (cw (aS (mIx (am 0) (kI 1))) (cU (bu (aJ 2) (bu (aJ 3) (bu (aJ 4) cP)))) (cw (aS (ag 4)) (aJ 5) (bv (mB (m2 dEq (aq cI (ac (ag 5) nZ)) (kI 3))) (bD 1 (aq sZ (ac (ag 1) (ac (aq cI (ac (mIx (am 5) (kI 2)) nZ)) nZ)))) bK)))
  (e8 1)))
abbrev uF:=cb 6 uE
abbrev qi:MF3:=
 (aA (dM 2 (cC 0 m_0 (aI (mX (kI 4)) bc)))
  (aA (bv (mB (m2 dEq (ag 2) (kI 0))) (gh (aO (ac (kSt "never") (ac (aw (ac (aO (ac (kSt "not") (ac (aO (ac (ag 1) (ac (aw nZ) nZ))) nZ))) nZ)) (ac (aw nZ) nZ))))) bK)
  (gh (aO (ac (mIx (ac (kSt "rule") (ac (kSt "may") (ac (kSt "may") nZ))) (m2 fY (ag 2) (kI 1))) (ac (aO (ac (ag 1) (ac (aw nZ) nZ))) (ac (aw nZ) (ac (aw nZ) nZ))))))))
abbrev oh:=gi 3 qi
abbrev qj:MF3:=
 (aA (dM 2 (mX2 bX (mX (kI 5)) (cC 0 m_0 (aI (mX (kI 8)) bc))))
  (aA (dD 3 (ac (aO (ac (kSt "X") (ac (kSt "k") nZ))) (ac (aO (ac (kSt "Y") (ac (kSt "k") nZ))) nZ)))
  (aA (bD 4 (m2 lj (ag 2) (ag 2)))
  (aA (bv (mB (m2 dLt (ag 2) (kI 8))) (aA (fN 3 (aO (ac (kSt "Z") (ac (kSt "k") nZ))))
  (bD 4 (m2 lj (ag 4) (ag 2)))) bK)
  (aA (fu 3 (dD 6 (bH 1 [3] (gf (ac (m2 jW (ag 1) (ag 4)) nZ)) (aJ 0) kY (aO (ac (kSt "rule") (ac (aO (ac (kSt "p") (ac (aw nZ) nZ))) (ac (aw (ac (aO (ac (kSt "is") (ac (aO (ac (kSt "q") (ac (aw nZ) nZ))) nZ))) nZ)) (ac (ag 1) nZ))))))))
  (aA (bD 7 (m2 gZ (ag 1) (ag 4)))
  (aA (bv (mB (m2 dGt (ag 7) (kI 5))) (aA (fN 6 (aO (ac (kSt "choose") (ac (kI 0) (ac (kI 1) (ac (aw (ac (aO (ac (aO (ac (kSt "p") (ac (aw nZ) nZ))) (ac (kI 1) nZ))) (ac (aO (ac (aO (ac (kSt "q") (ac (aw nZ) nZ))) (ac (kI 1) nZ))) (ac (aO (ac (aO (ac (kSt "q") (ac (aw nZ) nZ))) (ac (kI 2) nZ))) nZ)))) (ac (aw nZ) (ac (aw nZ) (ac (aw nZ) nZ)))))))))
  (bD 7 (m2 fY (ag 7) (kI 5)))) bK)
  (aA (cw (gf (ac (ag 7) nZ)) (aJ 5) (mw 6 (aI (cC 0 m_0 (aI (mX (m2 bX (aq cI (ac (eO 6) nZ)) (kI 1))) bc)) (aI (cC 0 oh (aI (mX2 iD (mX (aw (ac (kSt "p") (ac (kSt "q") (ac (kSt "r") nZ))))) (cC 0 m_0 (aI (mX (kI 3)) bc))) bc)) bc))))
  (fu 6 (gh (aw (eh (aw (ac (aq kx (ac (kSt "k") (ac (kSt "a") (ac (ag 2) nZ)))) nZ)) (ag 6)))))))))))))
abbrev yz:=gi 8 qj
abbrev qk:MF3:=
 (aA (bD 1 (kI 1000003))
  (aA (cw (aS (ag 0)) (aJ 2) (bD 1 (m2 gZ (m2 bX (m2 bX (m2 lj (ag 1) (kI 7368787)) (m2 gZ (ag 2) (m2 pf (kI 10) (kI 30)))) (kI 11)) (m2 fY (m2 pf (kI 2) (kI 61)) (kI 1)))))
  (e8 1)))
abbrev yA:=cb 3 qk
abbrev ql:MF3:=
 (nL (pz (aI (mX2 bX (mX (kI 2)) (cC 0 m_0 (aI (mX (kI 6)) bc))) (aI (mX2 bX (mX (kI 2)) (cC 0 m_0 (aI (mX (kI 6)) bc))) bc))))
abbrev yB:=gi 1 ql
abbrev qm:MF3:=
 (aA (pQ (tQ (bu (aJ 2) (bu (aJ 3) cP))) (cC 0 yB bc))
  (aA (dD 4 (ac (aq kx (ac (kSt "k") (ac (kSt "a") (ac (ag 2) nZ)))) (ac (aq kx (ac (kSt "j") (ac (kSt "b") (ac (ag 3) nZ)))) nZ)))
  (aA (cw (gf (ac (m2 fY (ag 1) (m2 lj (ag 2) (ag 3))) nZ)) (aJ 5) (mq 4 (cC 0 oh (aI (mX (m2 bX (m2 bX (kSt "s") (m2 iC (kSt "abcdefgh") (m2 jW (ag 5) (kI 8)))) (m2 iC (kSt "abcdefgh") (m2 gZ (ag 5) (kI 8))))) bc))))
  (aA (bD 6 (aO (ac (kSt "p") (ac (aw (ac (kSt "X") (ac (kSt "Y") nZ))) nZ))))
  (aA (dM 7 (mX2 iD (mX (aw (ac (aw nZ) (ac (aw (ac (aO (ac (kSt "not") (ac (ag 6) nZ))) nZ)) nZ)))) (cC 0 m_0 (aI (mX (kI 2)) bc))))
  (aA (fu 4 (dM 8 (mX2 bX (mX (kI 2)) (cC 0 m_0 (aI (mX (m2 fY (aq cI (ac (ag 4) nZ)) (kI 1))) bc)))))
  (fu 4 (gh (aw (eh (aw (eh (aw (mSl (ag 4) (λ_=>aa ae) (mPt (ag 8)))) (aw (ac (aO (ac (kSt "may") (ac (ag 6) (ac (ag 7) (ac (aw (ac (aO (ac (kSt "X") (ac (kSt "k") nZ))) (ac (aO (ac (kSt "Y") (ac (kSt "j") nZ))) nZ))) nZ))))) nZ)))) (aw (mSl (ag 4) (mPt (ag 8)) (λ_=>aa ae)))))))))))))
abbrev yC:=gi 9 qm
abbrev qo:MF3:=
 (aA (dD 1 nZ)
  (aA (cw (gf (ac (kI 2) nZ)) (aJ 2) (aA (dM 3 (iE 1 [0] 0 0 (mr (aI (mX2 bX (mX (kI 30)) (cC 0 m_0 (aI (mX (kI 31)) bc))) bc)) (aJ 0) (jt (aI (mX (aO (ac (kSt "q") (ac (aw nZ) nZ)))) (aI (cC 1 m_0 (aI (mX (kI 3)) bc)) bc)))))
  (mq 1 (jt (aI (mX2 iD (mX (aw (ac (kSt "least") (ac (kSt "most") nZ)))) (cC 0 m_0 (aI (mX (kI 2)) bc))) (aI (mX (kI 2)) (aI (mX (ag 3)) (aI (mX (aw nZ)) bc))))))))
  (fu 1 (gh (aw (ac (aO (ac (kSt "may") (ac (aO (ac (kSt "p") (ac (aw nZ) nZ))) (ac (ag 1) (ac (aw nZ) nZ))))) nZ))))))
abbrev yD:=gi 4 qo
abbrev uG:MF3:=
 (aA (bv (mOr (mB (m2 dNe (aq cI (ac (ag 0) nZ)) (kI 1))) (mOr (mB (m2 dNe (mIx (aS (mIx (am 0) (kI 0))) (kI 0)) (aw (ac (kSt "p") (ac (kSt "q") nZ))))) (mB (m2 dNe (aq cI (ac (mIx (aS (mIx (aS (mIx (am 0) (kI 0))) (kI 1))) (kI 1)) nZ)) (kI 1))))) (bY (kBl aj)) bK)
  (aA (bD 2 (mIx (aS (mIx (aS (mIx (aS (mIx (aS (mIx (am 0) (kI 0))) (kI 1))) (kI 1))) (kI 0))) (kI 2)))
  (bY (m2 dEq (aw (bH 1 [] (aS (ag 2)) (aJ 0) kY (aq cI (ac (mIx (am 0) (kI 2)) nZ)))) (aw (bH 1 [] (aS (mIx (aS (mIx (am 1) (kI 0))) (kI 2))) (aJ 0) kY (aq cI (ac (mIx (am 0) (kI 2)) nZ))))))))
abbrev yE:=cb 3 uG
abbrev qp:MF3:=
 (aA (dM 2 (cC 0 m_0 (aI (mX (kI 3)) bc)))
  (aA (dD 3 (ac (aO (ac (kSt "unlike") (ac (kSt "X") (ac (kSt "Y") nZ)))) (ac (aO (ac (kSt "is") (ac (aO (ac (kSt "q") (ac (aw nZ) nZ))) nZ))) (ac (mIx (ac (aO (ac (kSt "unlike") (ac (kSt "Z") (ac (kSt "Y") nZ)))) (ac (aO (ac (kSt "is") (ac (aO (ac (kSt "q") (ac (aw nZ) nZ))) nZ))) nZ)) (py (m2 dEq (ag 2) (kI 2)))) nZ))))
  (aA (bv (mB (m2 dEq (ag 2) (kI 1))) (mw 3 (aI (cC 0 m_0 (aI (mX (kI 4)) bc)) (aI (mX (aO (ac (kSt "unlike") (ac (kSt "Z") (ac (kSt "X") nZ))))) bc))) bK)
  (aA (dD 4 (ac (aq kx (ac (kSt "k") (ac (kSt "a") (ac (mIx (ac (kI 8) (ac (kI 8) (ac (kI 12) nZ))) (ag 2)) nZ)))) (ac (aq kx (ac (kSt "j") (ac (kSt "b") (ac (mIx (ac (kI 8) (ac (kI 8) (ac (kI 3) nZ))) (ag 2)) nZ)))) nZ)))
  (aA (bD 5 (aw (ac (aO (ac (kSt "X") (ac (kSt "k") nZ))) (ac (aO (ac (kSt "Y") (ac (kSt "k") nZ))) (ac (aO (ac (kSt "Z") (ac (mIx (ac (kSt "k") (ac (kSt "k") (ac (kSt "j") nZ))) (ag 2)) nZ))) nZ)))))
  (aA (fu 3 (mq 4 (jt (aI (mX2 iD (mX (aw (ac (kSt "rule") (ac (kSt "may") nZ)))) (cC 0 m_0 (aI (mX (kI 2)) bc))) (aI (mX (aO (ac (kSt "p") (ac (aw nZ) nZ)))) (aI (mX (ag 3)) (aI (mX (ag 5)) bc)))))))
  (aA (cw (gf (ac (m2 fY (ag 1) (mIx (ac (kI 392) (ac (kI 336) (ac (kI 396) nZ))) (ag 2))) nZ)) (aJ 6) (mw 4 (aI (mX2 bX (mX (kI 2)) (cC 0 m_0 (aI (mX (m2 fY (aq cI (ac (eO 4) nZ)) (kI 1))) bc))) (aI (cC 0 oh (aI (mX2 iD (mX (aw (ac (kSt "p") (ac (kSt "q") (ac (kSt "r") nZ))))) (cC 0 m_0 (aI (mX (kI 3)) bc))) bc)) bc))))
  (fu 4 (gh (ag 4))))))))))
abbrev yF:=gi 7 qp
abbrev b_7:MF3:=
 (aA (dD 1 (ac (aq yA (ac (ag 0) nZ)) nZ))
  (aA (dM 2 (gJ 1 m_0 (aI (mX (kI 6)) bc)))
  (aA (dM 3 (mX2 fY (gJ 1 m_0 (aI (mX (kI 5)) bc)) (mX (kI 2))))
  (aA (bv (mB (m2 dEq (ag 2) (kI 5))) (aA (dM 4 (gJ 1 yD bc))
  (bY (aq yE (ac (aq m_5 (ac (ag 4) nZ)) (ac (ag 4) nZ))))) bK)
  (aA (bv (mB (m2 dEq (ag 2) (kI 0))) (dM 4 (gJ 1 yz (aI (mX (m2 bX (kI 400) (ag 3))) bc))) (bv (mB (m2 dEq (ag 2) (kI 1))) (dM 4 (gJ 1 yC (aI (mX (m2 bX (kI 60) (ag 3))) bc))) (bv (mB (m2 dEq (ag 2) (kI 2))) (dM 4 (gJ 1 uD (aI (mX (m2 bX (kI 60) (ag 3))) bc))) (bv (mB (m2 dEq (ag 2) (kI 4))) (dM 4 (gJ 1 yF (aI (mX (m2 bX (kI 400) (ag 3))) bc))) (dM 4 (gJ 1 yy (aI (mX (m2 bX (kI 60) (ag 3))) bc)))))))
  (aA (pA (mBX (mX2 dEq (gJ 1 m_0 (aI (mX (kI 2)) bc)) (mX (kI 0)))) (aA (bD 5 (aw (eh (ag 4) (aw (ac (aO (ac (kSt "may") (ac (aO (ac (kSt "p") (ac (aw (ac (kSt "W") nZ)) nZ))) (ac (aw nZ) (ac (aw nZ) nZ))))) nZ)))))
  (bv (mB (m2 dNe (aq m_5 (ac (ag 5) nZ)) (aw (ac (kBl aj) (ac (kBl af) (ac (kBl af) (ac (kBl aj) nZ))))))) (bY (kBl aj)) bK)) bK)
  (aA (bD 6 (aq m_5 (ac (ag 4) nZ)))
  (aA (bv (ir (mB (m2 dGt (ag 3) (kI 0))) (mB (m2 dNe (ag 2) (kI 3)))) (bY (m2 dEq (ag 6) (aw (ac (kBl af) (ac (kBl aj) (ac (kBl af) (ac (kBl aj) nZ))))))) bK)
  (aA (bv (mB (m2 dNe (aq cI (ac (ag 6) nZ)) (kI 1))) (bY (kBl aj)) bK)
  (aA (wJ (cU (bu (aJ 7) (bu (aJ 8) cP))) (mIx (am 6) (kI 0)))
  (aA (bv (mOr (mB (m2 dEq (ag 2) (kI 0))) (mB (m2 dEq (ag 2) (kI 4)))) (bY (m2 dEq (aq cI (ac (mIx (am 8) (kI 1)) nZ)) (m2 bX (kI 400) (ag 3)))) bK)
  (aA (bv (mB (m2 dEq (ag 2) (kI 1))) (bY (jf (m2 dEq (aq cI (ac (ag 7) nZ)) (m2 bX (kI 60) (ag 3))) (m2 dEq (mIx (am 8) (kI 0)) (m2 bX (kI 60) (ag 3))))) bK)
  (aA (bv (mB (m2 dEq (ag 2) (kI 2))) (bY (m2 dEq (aq uF (ac (ag 8) nZ)) (m2 bX (kI 60) (ag 3)))) bK)
  (bY (jf (m2 dEq (ag 8) (aO (ac (kI 0) (ac (aw nZ) nZ)))) (m2 dEq (ag 7) (aw nZ)))))))))))))))))
abbrev m_7:=cb 9 b_7
seal DSs DS DX DE DO PE PS PA
variable{P:cS}{w:World}{K:bA}{mg:MGT}{base:Heap}{a:Wa}
def yG(W:Wd K mg a):qD P w K mg base a 1 "must_be_unlike" a.e_9 ["words"] m_9:=by
 refine W.e_9.pk (cA (F:=b_9) W.e_9.F Cs λ_ _ _ _ _ _ b=>?_);unfold b_9;exact(aF (bO (br wg wk (DE.db (B9 rfl rfl W.z_len rfl W.z_set (dv 0))) (DE.db (d9 eR eS rfl W.z_len dZ (cj (DE.db (dv 0)) c6)))) (aF ll) cn))
variable{C:Addr}
def CG(W:Wd K mg a)(c:dU K C=af)(b:mg "BadName"=aa (.ref C)):Pk P w K mg base (CX1 P w) 1 "must_be_unlike" a.e_9 ["words"] (spR ⟨K,a.cl⟩ ["words"].length C r_9):=by
 refine W.e_9.pk (gk (r:=x6) W.e_9.F Cs λ_ _ _ _ _ _ d=>?_);unfold x6;exact(cX (j9 (DT.dtx (br wg wk (DE.db (B9 rfl rfl W.z_len rfl W.z_set (dv 0))) (DE.db (d9 eR eS rfl W.z_len dZ (cj (DE.db (dv 0)) c6))))) (cX (pK c rfl pG rfl b (ah au ak))) lq))
def qr(W:Wd K mg a):qD P w K mg base a 2 "must_be_pairs" a.e_2 ["pairs","outer","kinds"] m_2:=by
 refine W.e_2.pk (cA (F:=b_2) W.e_2.F lx λ_ _ _ _ _ _ b=>?_);unfold b_2;exact (aH (fb (ba (yG W) b (ah (DO.de (e7 2 [] ["variable","kind"] rfl (DI.de (bC (bB cO (dv 1) (dv 0)))) (λ_ _ _ _ _=>(dJ rfl (bF (dgc 0 2) (bF (dgc 1 2) dB)))) (λ_ _ _ _ _=>c7) (λ_ _ _ _ _=>(dvc 0)))) ak)))
 (aH (jX 5 2 [] ["kind","names"] lx.nd rfl (DI.de (bC (dv 2))) (λ_ _ _ _ _=>(dJ rfl (bF (dgc 0 2) (bF (dgc 1 2) dB)))) (λ_ _ _ _ _=>c7) (λ_ _ _ _ _=>(dvc 0)))
 (aF (dG eG rfl (bC (dv 0)) (dJ rfl (bF (bQ 3 6 lx.nd) (bF (bQ 4 6 lx.nd) dB))) (aF (bO (br nv nr (DE.db (dv 4)) (DE.db (dv 5))) (aF ll) cn))))))
def CH(W:Wd K mg a)(c:dU K C=af)(b:mg "BadName"=aa (.ref C)):Pk P w K mg base (CX1 P w) 2 "must_be_pairs" a.e_2 ["pairs","outer","kinds"] (spR ⟨K,a.cl⟩ ["pairs","outer","kinds"].length C r_2):=by
 refine W.e_2.pk (gk (r:=x8) W.e_2.F lx λ_ _ _ _ _ _ d=>?_);unfold x8;exact (fg (fb (ba (yG W) d (ah (DO.de (e7 2 [] ["variable","kind"] rfl (DI.de (bC (bB cO (dv 1) (dv 0)))) (λ_ _ _ _ _=>(dJ rfl (bF (dgc 0 2) (bF (dgc 1 2) dB)))) (λ_ _ _ _ _=>c7) (λ_ _ _ _ _=>(dvc 0)))) ak))) (ju (fh (CG W c b) fR d (aP (DE.dx (DO.de (e7 2 [] ["variable","kind"] rfl (DI.de (bC (bB cO (dv 1) (dv 0)))) (λ_ _ _ _ _=>(dJ rfl (bF (dgc 0 2) (bF (dgc 1 2) dB)))) (λ_ _ _ _ _=>c7) (λ_ _ _ _ _=>(dvc 0))))) bp) ff))
 (fg (jX 5 2 [] ["kind","names"] lx.nd rfl (DI.de (bC (dv 2))) (λ_ _ _ _ _=>(dJ rfl (bF (dgc 0 2) (bF (dgc 1 2) dB)))) (λ_ _ _ _ _=>c7) (λ_ _ _ _ _=>(dvc 0))) hJ
 (cX (nS i5 rfl (bC (dv 0)) (dJ rfl (bF (bQ 3 6 lx.nd) (bF (bQ 4 6 lx.nd) dB))) (aF (bO (br nv nr (DE.db (dv 4)) (DE.db (dv 5))) (aF ll) cn)) (cX (j9 (DT.dtx (br nv nr (DE.db (dv 4)) (DE.db (dv 5)))) (cX (pK c rfl pG rfl b (ah (pE (iG (ln (dv 4) (iG (ln (dv 3) (iG pB)))))) ak))) lq))))))
def CI(W:Wd K mg a):qD P w K mg base a 1 "is_made_of" a.e_37 ["word","signs","most"] tZ:=by
 refine W.e_37.pk (cA (F:=x9) W.e_37.F Kj λ_ _ _ _ _ _ b=>?_);unfold x9;exact(aF (cW (sy (HB AS AT AS AT (DE.db al) (DE.db (d9 eR eS rfl W.z_len dZ (cj (DE.db (dv 0)) c6))) (DE.db (dv 2))) (pd (d9 (Hr rfl) Ht rfl W.z_all boot_all (cj (DE.db (DO.de (e7 1 [1] ["sign","signs"] rfl (DI.de (Ij (dv 0))) (λ_ _ _ _ _=>(dgc 0 1)) (λ_ _ _ _ _=>c7) (λ_ _ _ _ _=>(gY Il Ik (DE.db (dvc 0)) (DE.db (dvc 1))))))) c6))))))
def yH(W:Wd K mg a):qD P w K mg base a 2 "is_variable" a.e_33 ["word"] p5:=by
 refine W.e_33.pk (cA (F:=ya) W.e_33.F Kk λ_ _ _ _ _ _ b=>?_);have c:=b.units;unfold ya;exact(aF (cW (sy (ba (CI W) b (ah (Bz (dv 0) ma (md al)) (ah (By rfl W.g_GREAT) (ah al ak)))) (pd (GY (gY (b9 c) cf (DE.db (d9 eR eS rfl W.z_len dZ (cj (DE.db (dv 0)) c6))) (DE.db al)) (pd (ba (CI W) b (ah (Bz (dv 0) (md al) ma) (ah (By rfl W.g_SMALL) (ah al ak))))))))))
def CJ(W:Wd K mg a):qD P w K mg base a 3 "must_be_told" a.e_10 ["args","pairs"] ub:=by
 refine W.e_10.pk (cA (F:=yb) W.e_10.F n5 λ_ _ _ _ _ _ b=>?_);unfold yb;exact (aH (jX 2 2 [] ["variable","kind"] n5.nd rfl (DI.de (bC (dv 1))) (λ_ _ _ _ _=>(dJ rfl (bF (dgc 0 2) (bF (dgc 1 2) dB)))) (λ_ _ _ _ _=>c7) (λ_ _ _ _ _=>(dvc 0)))
 (aF (dG eG rfl (bC (dv 0)) (bQ 3 4 n5.nd) (aF (bO (DW.dt (sw (lc (DE.db (ba (yH W) b (ah (dv 3) ak)))) (sv (br nv nr (DE.db (dv 3)) (DE.db (dv 2)))))) (aF ll) cn)))))
def Ks(W:Wd K mg a)(d:dU K C=af)(c:mg "BadName"=aa (.ref C)):Pk P w K mg base (CX1 P w) 3 "must_be_told" a.e_10 ["args","pairs"] (spR ⟨K,a.cl⟩ ["args","pairs"].length C CD):=by
 refine W.e_10.pk (gk (r:=yc) W.e_10.F n5 λ_ _ _ _ _ _ b=>?_);unfold yc;exact (fg (jX 2 2 [] ["variable","kind"] n5.nd rfl (DI.de (bC (dv 1))) (λ_ _ _ _ _=>(dJ rfl (bF (dgc 0 2) (bF (dgc 1 2) dB)))) (λ_ _ _ _ _=>c7) (λ_ _ _ _ _=>(dvc 0))) hJ
 (cX (nS i5 rfl (bC (dv 0)) (bQ 3 4 n5.nd) (aF (bO (DW.dt (sw (lc (DE.db (ba (yH W) b (ah (dv 3) ak)))) (sv (br nv nr (DE.db (dv 3)) (DE.db (dv 2)))))) (aF ll) cn)) (cX (j9 (DT.dtx (DW.dt (sw (lc (DE.db (ba (yH W) b (ah (dv 3) ak)))) (sv (br nv nr (DE.db (dv 3)) (DE.db (dv 2))))))) (cX (pK d rfl pG rfl c (ah (pE (iG (ln (dv 3) (iG pB)))) ak))) lq)))))
def CK(W:Wd K mg a):qD P w K mg base a 1 "args_of" a.e_28 ["items"] uc:=by
 refine W.e_28.pk (cA (F:=yd) W.e_28.F tU λ_ _ _ _ _ _ b=>?_);unfold yd;exact (aH (fO 1 tU.nd (aQ ak))
 (aH (dG eG rfl (bC (dv 0)) (dJ rfl (bF (bQ 2 4 tU.nd) (bF (bQ 3 4 tU.nd) dB))) (aF (jY (cM (cT dz i3 i4 jb (pv 1) (bJ (DE.pe (ay (dvC 2) al)) ci))))))
 (aF (g4 1))))
def Kt(W:Wd K mg a):qD P w K mg base a 2 "part_uses" a.e_42 ["part"] ud:=by
 refine W.e_42.pk (cA (F:=ye) W.e_42.F Kl λ_ _ _ _ _ _ b=>?_);have c:=b.units;unfold ye;exact (aH (bO (br (b9 c) cf (DE.db (ay (dvC 0) al)) (DE.db au)) (aF (cW (aU (ah (DO.de (aQ (ah (ay (dvC 0) al) (ah (ay (dvC 0) al) ak)))) (ah (DO.de (aQ ak)) ak))))) cn)
 (aH (bO (br nu nq (DE.db (ay (dvC 0) al)) (DE.db (aU (ah au (ah au ak))))) (aF (cW (aU (ah (ba (CK W) b (ah (ay (dvC 0) al) ak)) (ah (ay (dvC 0) al) ak))))) cn)
 (aF (cW (aU (ah (ay (DE.dc (ay (dvC 0) al)) al) (ah (DO.de (aQ ak)) ak)))))))
def CL(W:Wd K mg a):qD P w K mg base a 3 "uses" a.e_34 ["row"] ue:=by
 refine W.e_34.pk (cA (F:=yf) W.e_34.F Ct λ_ _ _ _ _ _ b=>?_);have c:=b.units;unfold yf;exact (aH (wx 1 1 [] ["part"] Ct.nd rfl (DI.de (bC (ay (dvC 0) (dA al)))) (λ_ _ _ _ _=>(dgc 0 1)) (λ_ _ _ _ _=>c7) (λ_ _ _ _ _=>(ba (Kt W) b (ah (dvc 0) ak))))
 (aH (bO (br (b9 c) cf (DE.db (ay (dvC 0) al)) (DE.db au)) (aF (ji (cM (cT dz gy gz gE (pv 1) (bJ (DE.pe (aU (ah (ba (CK W) b (ah (ay (dvC 0) al) ak)) (ah (ay (dvC 0) al) ak)))) ci))))) (aF (bO (br (gH c) gG (DE.db (ay (dvC 0) al)) (DE.db au)) (aF (ji (cM (cT dz gy gz gE (pv 1) (bJ (DE.pe (aU (ah (ay (DE.dc (ay (dvC 0) al)) al) (ah (DO.de (aQ ak)) ak)))) ci))))) cn)))
 (aF (g4 1))))
def CM(W:Wd K mg a):qD P w K mg base a 4 "must_be_known" a.e_4 ["row","kinds"] m_4:=by
 refine W.e_4.pk (cA (F:=b_4) W.e_4.F nY λ_ _ _ _ _ _ b=>?_);unfold b_4;exact (aH (fb (ba (qr W) b (ah (ay (dvC 0) (dA al)) (ah (DO.de (aQ ak)) (ah (dv 1) ak)))))
 (aF (dG eG rfl (bC (ba (CL W) b (ah (dv 0) ak))) (dJ rfl (bF (bQ 2 4 nY.nd) (bF (bQ 3 4 nY.nd) dB))) (aH (fb (ba (qr W) b (ah (dv 3) (ah (ay (dvC 0) (dA al)) (ah (dv 1) ak)))))
 (aF (fb (ba (CJ W) b (ah (dv 2) (ah (bB cO (ay (dvC 0) (dA al)) (dv 3)) ak)))))))))
def Ku(W:Wd K mg a)(d:dU K C=af)(c:mg "BadName"=aa (.ref C)):Pk P w K mg base (CX1 P w) 4 "must_be_known" a.e_4 ["row","kinds"] (spR ⟨K,a.cl⟩ ["row","kinds"].length C r_4):=by
 refine W.e_4.pk (gk (r:=uf) W.e_4.F nY λ_ _ _ _ _ _ b=>?_);unfold uf;exact (fg (fb (ba (qr W) b (ah (ay (dvC 0) (dA al)) (ah (DO.de (aQ ak)) (ah (dv 1) ak))))) (ju (fh (CH W d c) fR b (aP (DE.dx (ay (dvC 0) (dA al))) (aP (DE.dx (DO.de (aQ ak))) (aP (DE.dx (dv 1)) bp))) ff))
 (cX (nS i5 rfl (bC (ba (CL W) b (ah (dv 0) ak))) (dJ rfl (bF (bQ 2 4 nY.nd) (bF (bQ 3 4 nY.nd) dB))) (aH (fb (ba (qr W) b (ah (dv 3) (ah (ay (dvC 0) (dA al)) (ah (dv 1) ak)))))
 (aF (fb (ba (CJ W) b (ah (dv 2) (ah (bB cO (ay (dvC 0) (dA al)) (dv 3)) ak)))))) (fg (fb (ba (qr W) b (ah (dv 3) (ah (ay (dvC 0) (dA al)) (ah (dv 1) ak))))) (ju (fh (CH W d c) fR b (aP (DE.dx (dv 3)) (aP (DE.dx (ay (dvC 0) (dA al))) (aP (DE.dx (dv 1)) bp))) ff))
 (cX (ju (fh (Ks W d c) fR b (aP (DE.dx (dv 2)) (aP (DE.dx (bB cO (ay (dvC 0) (dA al)) (dv 3))) bp)) ff)))))))
def CN(W:Wd K mg a):qD P w K mg base a 2 "must_be_new" a.e_11 ["row","kinds"] p6:=by
 refine W.e_11.pk (cA (F:=yg) W.e_11.F tS λ_ _ _ _ _ _ b=>?_);unfold yg;exact (aH (cV 2 tS.nd (ay (dvC 0) al))
 (aH (bO (br nu nq (DE.db (dv 2)) (DE.db (DO.de (e7 2 [] ["kind","names"] rfl (DI.de (bC (dv 1))) (λ_ _ _ _ _=>(dJ rfl (bF (dgc 0 2) (bF (dgc 1 2) dB)))) (λ_ _ _ _ _=>c7) (λ_ _ _ _ _=>(dvc 0)))))) (aF ll) cn)
 (aF (fb (ba (yG W) b (ah (ay (dvC 0) al) ak))))))
def Kv(W:Wd K mg a)(c:dU K C=af)(b:mg "BadName"=aa (.ref C)):Pk P w K mg base (CX1 P w) 2 "must_be_new" a.e_11 ["row","kinds"] (spR ⟨K,a.cl⟩ ["row","kinds"].length C CF):=by
 refine W.e_11.pk (gk (r:=yh) W.e_11.F tS λ_ _ _ _ _ _ d=>?_);unfold yh;exact (fg (cV 2 tS.nd (ay (dvC 0) al)) hJ
 (fg (bO (br nu nq (DE.db (dv 2)) (DE.db (DO.de (e7 2 [] ["kind","names"] rfl (DI.de (bC (dv 1))) (λ_ _ _ _ _=>(dJ rfl (bF (dgc 0 2) (bF (dgc 1 2) dB)))) (λ_ _ _ _ _=>c7) (λ_ _ _ _ _=>(dvc 0)))))) (aF ll) cn) (j9 (DT.dtx (br nu nq (DE.db (dv 2)) (DE.db (DO.de (e7 2 [] ["kind","names"] rfl (DI.de (bC (dv 1))) (λ_ _ _ _ _=>(dJ rfl (bF (dgc 0 2) (bF (dgc 1 2) dB)))) (λ_ _ _ _ _=>c7) (λ_ _ _ _ _=>(dvc 0))))))) (cX (pK c rfl pG rfl b (ah (pE (iG (ln (dv 2) (iG pB)))) ak))) lq)
 (cX (ju (fh (CG W c b) fR d (aP (DE.dx (ay (dvC 0) al)) bp) ff)))))
def yI(W:Wd K mg a):qD P w K mg base a 5 "kinds_of" a.e_3 ["rows"] m_3:=by
 refine W.e_3.pk (cA (F:=b_3) W.e_3.F nX λ_ _ _ _ _ _ b=>?_);have c:=b.units;unfold b_3;exact (aH (fO 1 nX.nd (aQ ak))
 (aH (dG eG rfl (bC (dv 0)) (bQ 2 3 nX.nd) (aF (bO (br (b9 c) cf (DE.db (ay (dvC 2) al)) (DE.db au)) (aH (fb (mn (CN W) b (cj (DE.db (dv 2)) (cj (dvB 1) c6))))
 (aF (ji (cM (cT dz gy gz gE (pv 1) (bJ (DE.pe (aU (ah (ay (dvC 2) al) (ah (DO.de (A5 boot_list rfl W.z_list (DE.dc (ay (dvC 2) al)))) ak)))) ci)))))) (aF (fb (mn (CM W) b (cj (DE.db (dv 2)) (cj (dvB 1) c6))))))))
 (aF (g4 1))))
def Kw(W:Wd K mg a)(d:dU K C=af)(c:mg "BadName"=aa (.ref C)):Pk P w K mg base (CX1 P w) 5 "kinds_of" a.e_3 ["rows"] (spR ⟨K,a.cl⟩ ["rows"].length C r_3):=by
 refine W.e_3.pk (gk (r:=ug) W.e_3.F nX λ_ _ _ _ _ _ b=>?_);have e:=b.units;unfold ug;exact (fg (fO 1 nX.nd (aQ ak)) hJ
 (cX (nS i5 rfl (bC (dv 0)) (bQ 2 3 nX.nd) (aF (bO (br (b9 e) cf (DE.db (ay (dvC 2) al)) (DE.db au)) (aH (fb (mn (CN W) b (cj (DE.db (dv 2)) (cj (dvB 1) c6))))
 (aF (ji (cM (cT dz gy gz gE (pv 1) (bJ (DE.pe (aU (ah (ay (dvC 2) al) (ah (DO.de (A5 boot_list rfl W.z_list (DE.dc (ay (dvC 2) al)))) ak)))) ci)))))) (aF (fb (mn (CM W) b (cj (DE.db (dv 2)) (cj (dvB 1) c6))))))) (cX (j9 (DT.dtx (br (b9 e) cf (DE.db (ay (dvC 2) al)) (DE.db au))) (cX (tM 1 (ju (fh (Kv W d c) fR b (aP (DE.dx (dv 2)) (aP (DE.dx (dv 1)) bp)) ff)))) (cX (tM 1 (ju (fh (Ku W d c) fR b (aP (DE.dx (dv 2)) (aP (DE.dx (dv 1)) bp)) ff)))))))))
def Kx(W:Wd K mg a):qD P w K mg base a 1 "numbered_part" a.e_43 ["part","places"] yi:=by
 refine W.e_43.pk (cA (F:=uh) W.e_43.F Ko λ_ _ _ _ _ _ c=>?_);have b:=c.units;unfold uh;exact (aH (bO (br nu nq (DE.db (ay (dvC 0) al)) (DE.db (aU (ah au (ah au ak))))) (aF (cW (aU (ah (ay (dvC 0) al) (ah (tv b (dv 1) (ay (dvC 0) al)) ak))))) cn)
 (aF (cW (aU (ah (ay (dvC 0) al) (ah (ay (dvC 0) al) (ah (DO.de (e7 2 [1] ["text","worth","places"] rfl (DI.de (bC (ay (dvC 0) al))) (λ_ _ _ _ _=>(dJ rfl (bF (dgc 0 2) (bF (dgc 1 2) dB)))) (λ_ _ _ _ _=>c7) (λ_ _ _ _ _=>(aU (ah (tv b (dvc 2) (dvc 0)) (ah (dvc 1) ak)))))) ak)))))))
def Ky(W:Wd K mg a):qD P w K mg base a 2 "numbered" a.e_39 ["rule","places"] yj:=by
 refine W.e_39.pk (cA (F:=uj) W.e_39.F Cz λ_ _ _ _ _ _ b=>?_);have c:=b.units;unfold uj;exact (aH (cV 2 Cz.nd (we (br AV AW (DE.db (ay (dvC 0) al)) (DE.db l6)) l6 (tv c (dv 1) (ay (dvC 0) al))))
 (aF (cW (aU (ah (ay (dvC 0) al) (ah (dv 2) (ah (DO.de (e7 1 [1] ["part","places"] rfl (DI.de (bC (ay (dvC 0) al))) (λ_ _ _ _ _=>(dgc 0 1)) (λ_ _ _ _ _=>c7) (λ_ _ _ _ _=>(ba (Kx W) b (ah (dvc 0) (ah (dvc 1) ak)))))) ak)))))))
def qt(W:Wd K mg a):qD P w K mg base a 1 "must_be_narrow" a.e_13 ["listed","most","what"] iM:=by
 refine W.e_13.pk (cA (F:=ym) W.e_13.F Cu λ_ _ _ _ _ _ b=>?_);unfold ym;exact(aF (bO (br sC sD (DE.db (DE.orE (d9 eR eS rfl W.z_len dZ (cj (DE.db (dv 0)) c6)) (pU rfl W.z_len (DE.db (dv 0))))) (DE.db (dv 1))) (aF ll) cn))
def yJ(W:Wd K mg a)(c:dU K C=af)(b:mg "Wide"=aa (.ref C)):Pk P w K mg base (CX1 P w) 1 "must_be_narrow" a.e_13 ["listed","most","what"] (spR ⟨K,a.cl⟩ ["listed","most","what"].length C og):=by
 refine W.e_13.pk (gk (r:=yn) W.e_13.F Cu λ_ _ _ _ _ _ d=>?_);unfold yn;exact(cX (j9 (DT.dtx (br sC sD (DE.db (DE.orE (d9 eR eS rfl W.z_len dZ (cj (DE.db (dv 0)) c6)) (pU rfl W.z_len (DE.db (dv 0))))) (DE.db (dv 1)))) (cX (pK c rfl pG rfl b (ah (pE (iG (ln (dv 1) (iG (ln (dv 2) pB))))) ak))) lq))
def CO(W:Wd K mg a):qD P w K mg base a 1 "texts_in" a.e_27 ["rule"] p7:=by
 refine W.e_27.pk (cA (F:=uk) W.e_27.F xZ λ_ _ _ _ _ _ b=>?_);unfold uk;exact (aH (fO 1 xZ.nd (JY (br AV AW (DE.db (ay (dvC 0) al)) (DE.db l6)) (aQ ak) (aQ (ah (ay (dvC 0) al) ak))))
 (aH (dG eG rfl (bC (ay (dvC 0) al)) (bQ 2 3 xZ.nd) (aF (bO (br nu nq (DE.db (ay (dvC 2) al)) (DE.db (aU (ah au (ah au ak))))) (aF (ji (cM (cT dz gy gz gE (pv 1) (bJ (DE.pe (ay (dvC 2) al)) ci))))) (aF (jY (cM (cT dz i3 i4 jb (pv 1) (bJ (DE.pe (DO.de (e7 2 [] ["text","worth"] rfl (DI.de (bC (ay (dvC 2) al))) (λ_ _ _ _ _=>(dJ rfl (bF (dgc 0 2) (bF (dgc 1 2) dB)))) (λ_ _ _ _ _=>c7) (λ_ _ _ _ _=>(dvc 0))))) ci))))))))
 (aF (g4 1))))
def Kz(W:Wd K mg a):qD P w K mg base a 2 "places_in" a.e_17 ["rules"] ul:=by
 refine W.e_17.pk (cA (F:=p8) W.e_17.F lA λ_ _ _ _ _ _ b=>?_);unfold p8;exact (aH (Bh 1 lA.nd)
 (aH (dG eG rfl (bC (dv 0)) (bQ 2 4 lA.nd) (aF (dG eG rfl (bC (ba (CO W) b (ah (dv 2) ak))) (bQ 3 4 lA.nd) (aF (Cg (cM (cT rB vB zK Ce (pv 1) (bJ (DE.pe (dv 3)) (bJ (DE.pe (pU rfl W.z_len (dvB 1))) ci)))))))))
 (aH (wP 1 (fb (ba (qt W) b (ah (dv 1) (ah (lv rfl W.g_MOST_THINGS) (ah au ak))))))
 (aF (wP 1 (cW (dv 1)))))))
def KA(W:Wd K mg a)(d:dU K C=af)(c:mg "Wide"=aa (.ref C)):Pk P w K mg base (CX1 P w) 2 "places_in" a.e_17 ["rules"] (spR ⟨K,a.cl⟩ ["rules"].length C yo):=by
 refine W.e_17.pk (gk (r:=um) W.e_17.F lA λ_ _ _ _ _ _ b=>?_);unfold um;exact (fg (Bh 1 lA.nd) hJ
 (fg (dG i5 rfl (bC (dv 0)) (bQ 2 4 lA.nd) (aF (dG i5 rfl (bC (ba (CO W) b (ah (dv 2) ak))) (bQ 3 4 lA.nd) (aF (Cg (cM (cT rB vB zK Ce (pv 1) (bJ (DE.pe (dv 3)) (bJ (DE.pe (pU rfl W.z_len (dvB 1))) ci))))))))) hJ
 (cX (Ka 1 (ju (fh (yJ W d c) fR b (aP (DE.dx (dv 1)) (aP (DE.dx (lv rfl W.g_MOST_THINGS)) (aP (DE.dx au) bp))) ff))))))
def CP(W:Wd K mg a):qD P w K mg base a 1 "name_all" a.e_38 ["args","names"] uo:=by
 refine W.e_38.pk (cA (F:=yq) W.e_38.F Km λ_ _ _ _ _ _ b=>?_);have c:=b.units;unfold yq;exact(aF (sL (e7 1 [1] ["arg","names"] rfl (DI.de (bC (dv 0))) (λ_ _ _ _ _=>(dgc 0 1)) (λ_ _ _ _ _=>c7) (λ_ _ _ _ _=>(JX c (dvc 1) (dvc 0) (dvc 0) ⟨rfl,rfl,rfl,rfl⟩)))))
def uH(W:Wd K mg a):qD P w K mg base a 2 "has_like" a.e_23 ["body","names"] mE:=by
 refine W.e_23.pk (cA (F:=yr) W.e_23.F Cv λ_ _ _ _ _ _ b=>?_);have c:=b.units;unfold yr;exact (aH (jX 2 1 [1] ["part","names"] Cv.nd rfl (DI.de (bC (dv 0))) (λ_ _ _ _ _=>(dgc 0 1)) (λ_ _ _ _ _=>(pi (br (b9 c) cf (DE.db (ay (nB 0) al)) (DE.db au)))) (λ_ _ _ _ _=>(ba (CP W) b (ah (Cm (dvc 0) (md al) ma) (ah (dvc 1) ak)))))
 (aF (cW (d9 (Hs rfl) Hu rfl W.z_any boot_any (cj (DE.db (DO.de (e7 2 [] ["first","second"] rfl (DI.de (bC (dv 2))) (λ_ _ _ _ _=>(Co rfl (bF (dgc 0 2) (bF (dgc 1 2) dB)))) (λ_ _ _ _ _=>c7) (λ_ _ _ _ _=>(gY (b9 c) cf (DE.db (dvc 0)) (DE.db (dvc 1))))))) c6)))))
def KB(W:Wd K mg a):qD P w K mg base a 1 "ways" a.e_22 ["pairs","kinds"] yt:=by
 refine W.e_22.pk (cA (F:=uq) W.e_22.F ly λ_ _ _ _ _ _ b=>?_);have c:=b.units;unfold uq;exact (aH (Iz 2 rfl ly.nd rfl W.z_dict (dv 1))
 (aH (wP 2 (cV 3 ly.nd (DO.de (aQ (ah (DO.de (aQ ak)) ak)))))
 (aH (dG eG rfl (bC (dv 0)) (dJ rfl (bF (bQ 4 8 ly.nd) (bF (bQ 5 8 ly.nd) dB))) (aH (fO 6 ly.nd (aQ ak))
 (aH (dG eG rfl (bC (dv 3)) (bQ 7 8 ly.nd) (aF (jY (cM (cT dz i3 i4 jb (pv 6) (bJ (DE.pe (DO.de (e7 1 [7] ["name","way"] rfl (DI.de (bC (tv c (dv 2) (dv 5)))) (λ_ _ _ _ _=>(dgc 0 1)) (λ_ _ _ _ _=>c7) (λ_ _ _ _ _=>(DO.de (iz (dvc 1) (DO.de (aQ (ah (dvc 0) ak))))))))) ci))))))
 (aF (g5 6 (cV 3 ly.nd (dv 6)))))))
 (aF (g4 3)))))
def qu(W:Wd K mg a):qD P w K mg base a 2 "names_by_ways" a.e_14 ["pairs","kinds","outer"] ko:=by
 refine W.e_14.pk (cA (F:=ur) W.e_14.F pZ λ_ _ _ _ _ _ b=>?_);unfold ur;exact (aH (jX 3 2 [] ["variable","kind"] pZ.nd rfl (DI.de (bC (dv 0))) (λ_ _ _ _ _=>(dJ rfl (bF (dgc 0 2) (bF (dgc 1 2) dB)))) (λ_ _ _ _ _=>c7) (λ_ _ _ _ _=>(dvc 0)))
 (aH (fO 4 pZ.nd (aQ ak))
 (aH (dG eG rfl (bC (ba (KB W) b (ah (dv 0) (ah (dv 1) ak)))) (bQ 5 7 pZ.nd) (aH (JA 6 pZ.nd rfl W.z_dict (dv 2))
 (aH (JC (cM (cT rB PySem.F.slot_dict_update PySem.F.type_dict_update Jx (pv 6) (bJ (DE.pe (JR rfl rfl W.z_dict rfl W.z_zip (ah (dv 3) (ah (dv 5) ak)))) ci))))
 (aF (g5 6 (ji (cM (cT dz gy gz gE (pv 4) (bJ (DE.pe (dv 6)) ci)))))))))
 (aF (g4 4)))))
def CQ(W:Wd K mg a):qD P w K mg base a 1 "choice" a.e_36 ["low","high","items","body"] yu:=by
 refine W.e_36.pk (cA (F:=ut) W.e_36.F Cw λ_ _ _ _ _ _ b=>?_);unfold ut;exact (aH (wx 4 2 [3] ["text","worth","body"] Cw.nd rfl (DI.de (bC (dv 2))) (λ_ _ _ _ _=>(dJ rfl (bF (dgc 0 2) (bF (dgc 1 2) dB)))) (λ_ _ _ _ _=>c7) (λ_ _ _ _ _=>(aU (ah au (ah (dvc 0) (ah (dvc 2) ak))))))
 (aH (ji (cM (cT dz gy gz gE (pv 4) (bJ (DE.pe (aU (ah au (ah l6 (ah (DO.de (iz (dv 3) (DO.de (aQ (ah (aU (ah au (ah (bB iu (dv 0) al) (ah (dv 2) ak)))) ak))))) ak))))) ci))))
 (aH (ji (cM (cT dz gy gz gE (pv 4) (bJ (DE.pe (aU (ah au (ah l6 (ah (DO.de (iz (dv 3) (DO.de (aQ (ah (aU (ah au (ah (bB cO (dv 1) al) (ah (dv 2) ak)))) ak))))) ak))))) ci))))
 (aF (g4 4)))))
def KC(W:Wd K mg a):qD P w K mg base a 1 "shown_thing" a.e_35 ["thing"] yv:=by
 refine W.e_35.pk (cA (F:=uu) W.e_35.F xY λ_ _ _ _ _ _ b=>?_);unfold uu;exact (aH (cV 1 xY.nd (ay (dvC 0) al))
 (aH (cV 2 xY.nd (IC (cT PySem.F.plainAttrs_str PySem.F.slot_str_join PySem.F.type_str_join IB (DE.pe au) (bJ (DE.pe (ay (dvC 0) al)) ci))))
 (aF (cW (we (lc (DE.db (dv 2))) (pE (ln (dv 1) (iG (ln (dv 2) (iG pB))))) (dv 1))))))
def mH(W:Wd K mg a):qD P w K mg base a 2 "text_of" a.e_16 ["thing","names"] jz:=by
 refine W.e_16.pk (cA (F:=yw) W.e_16.F Kn λ_ _ _ _ _ _ b=>?_);unfold yw;exact(aF (cW (ba (KC W) b (ah (aU (ah (ay (dvC 0) al) (ah (ba (CP W) b (ah (ay (dvC 0) al) (ah (dv 1) ak))) ak))) ak))))
def CS(W:Wd K mg a):qD P w K mg base a 3 "put_items" a.e_12 ["items","over","names","kinds"] mF:=by
 refine W.e_12.pk (cA (F:=p9) W.e_12.F lz λ_ _ _ _ _ _ b=>?_);unfold p9;exact (aH (fO 4 lz.nd (aQ ak))
 (aH (dG eG rfl (bC (dv 0)) (dJ rfl (bF (bQ 5 7 lz.nd) (bF (bQ 6 7 lz.nd) dB))) (aF (jY (cM (cT dz i3 i4 jb (pv 4) (bJ (DE.pe (DO.de (e7 1 [6,5] ["inner","worth","thing"] rfl (DI.de (bC (ba (qu W) b (ah (dv 1) (ah (dv 3) (ah (dv 2) ak)))))) (λ_ _ _ _ _=>(dgc 0 1)) (λ_ _ _ _ _=>c7) (λ_ _ _ _ _=>(aU (ah (ba (mH W) b (ah (dvc 2) (ah (dvc 0) ak))) (ah (dvc 1) ak))))))) ci))))))
 (aH (g5 4 (fb (ba (qt W) b (ah (dv 4) (ah (lv rfl W.g_MOST_ITEMS) (ah au ak))))))
 (aF (g4 4)))))
def CT(W:Wd K mg a)(d:dU K C=af)(c:mg "Wide"=aa (.ref C)):Pk P w K mg base (CX1 P w) 3 "put_items" a.e_12 ["items","over","names","kinds"] (spR ⟨K,a.cl⟩ ["items","over","names","kinds"].length C uw):=by
 refine W.e_12.pk (gk (r:=uv) W.e_12.F lz λ_ _ _ _ _ _ b=>?_);unfold uv;exact (fg (fO 4 lz.nd (aQ ak)) hJ
 (fg (dG i5 rfl (bC (dv 0)) (dJ rfl (bF (bQ 5 7 lz.nd) (bF (bQ 6 7 lz.nd) dB))) (aF (jY (cM (cT dz i3 i4 jb (pv 4) (bJ (DE.pe (DO.de (e7 1 [6,5] ["inner","worth","thing"] rfl (DI.de (bC (ba (qu W) b (ah (dv 1) (ah (dv 3) (ah (dv 2) ak)))))) (λ_ _ _ _ _=>(dgc 0 1)) (λ_ _ _ _ _=>c7) (λ_ _ _ _ _=>(aU (ah (ba (mH W) b (ah (dvc 2) (ah (dvc 0) ak))) (ah (dvc 1) ak))))))) ci)))))) hJ
 (cX (tM 4 (ju (fh (yJ W d c) fR b (aP (DE.dx (dv 4)) (aP (DE.dx (lv rfl W.g_MOST_ITEMS)) (aP (DE.dx au) bp))) ff))))))
def yK(W:Wd K mg a):qD P w K mg base a 4 "put_part" a.e_15 ["part","names","kinds"] kr:=by
 refine W.e_15.pk (cA (F:=qb) W.e_15.F Cy λ_ _ _ _ _ _ b=>?_);have c:=b.units;unfold qb;exact (aH (bO (br (b9 c) cf (DE.db (ay (dvC 0) al)) (DE.db au)) (aF (cW (aU (ah au (ah (ba (mH W) b (ah (ay (dvC 0) al) (ah (dv 1) ak))) ak))))) cn)
 (aH (bO (br (b9 c) cf (DE.db (ay (dvC 0) al)) (DE.db au)) (aF (cW (aU (ah au (ah (ba (mH W) b (ah (ay (dvC 0) al) (ah (dv 1) ak))) ak))))) cn)
 (aF (cW (aU (ah (ay (dvC 0) al) (ah (ay (dvC 0) al) (ah (ba (CS W) b (ah (ay (dvC 0) al) (ah (ay (dvC 0) al) (ah (dv 1) (ah (dv 2) ak))))) ak))))))))
def KD(W:Wd K mg a)(e:dU K C=af)(d:mg "Wide"=aa (.ref C)):Pk P w K mg base (CX1 P w) 4 "put_part" a.e_15 ["part","names","kinds"] (spR ⟨K,a.cl⟩ ["part","names","kinds"].length C yx):=by
 refine W.e_15.pk (gk (r:=ux) W.e_15.F Cy λ_ _ _ _ _ _ b=>?_);have c:=b.units;unfold ux;exact (fg (bO (br (b9 c) cf (DE.db (ay (dvC 0) al)) (DE.db au)) (aF (cW (aU (ah au (ah (ba (mH W) b (ah (ay (dvC 0) al) (ah (dv 1) ak))) ak))))) cn) hJ
 (fg (bO (br (b9 c) cf (DE.db (ay (dvC 0) al)) (DE.db au)) (aF (cW (aU (ah au (ah (ba (mH W) b (ah (ay (dvC 0) al) (ah (dv 1) ak))) ak))))) cn) hJ
 (cX (BK (IJ (pI (DE.dx (ay (dvC 0) al)) pH (pI (DE.dx (ay (dvC 0) al)) pH (nR (fh (CT W e d) fR b (aP (DE.dx (ay (dvC 0) al)) (aP (DE.dx (ay (dvC 0) al)) (aP (DE.dx (dv 1)) (aP (DE.dx (dv 2)) bp)))) ff)))))))))
def uI(W:Wd K mg a):qD P w K mg base a 5 "rules_by" a.e_6 ["row","names","kinds"] m_6:=by
 refine W.e_6.pk (cA (F:=b_6) W.e_6.F n6 λ_ _ _ _ _ _ b=>?_);have c:=b.units;unfold b_6;exact (aH (jX 3 1 [1,2] ["part","names","kinds"] n6.nd rfl (DI.de (bC (ay (dvC 0) (dA al)))) (λ_ _ _ _ _=>(dgc 0 1)) (λ_ _ _ _ _=>(pi (br (gH c) gG (DE.db (ay (nB 0) al)) (DE.db au)))) (λ_ _ _ _ _=>(ba (yK W) b (ah (dvc 0) (ah (dvc 1) (ah (dvc 2) ak))))))
 (aH (bO (br (b9 c) cf (DE.db (ay (dvC 0) al)) (DE.db au)) (aF (sL (aQ (ah (aU (ah au (ah l6 (ah (dv 3) ak)))) ak)))) cn)
 (aH (bO (br (b9 c) cf (DE.db (ay (dvC 0) al)) (DE.db au)) (aF (cW (ba (CQ W) b (ah (ay (dvC 0) al) (ah (ay (dvC 0) al) (ah (ba (CS W) b (ah (ay (dvC 0) al) (ah (ay (dvC 0) al) (ah (dv 1) (ah (dv 2) ak))))) (ah (dv 3) ak))))))) cn)
 (aH (cV 4 n6.nd (we (br (b9 c) cf (DE.db (ay (dvC 0) al)) (DE.db au)) au au))
 (aF (sL (aQ (ah (aU (ah (dv 4) (ah (ba (mH W) b (ah (ay (dvC 0) al) (ah (dv 1) ak))) (ah (dv 3) ak)))) ak))))))))
def KE(W:Wd K mg a)(e:dU K C=af)(d:mg "Wide"=aa (.ref C)):Pk P w K mg base (CX1 P w) 5 "rules_by" a.e_6 ["row","names","kinds"] (spR ⟨K,a.cl⟩ ["row","names","kinds"].length C qd):=by
 refine W.e_6.pk (gk (r:=qc) W.e_6.F n6 λ_ _ _ _ _ _ b=>?_);have c:=b.units;unfold qc;exact (fg (jX 3 1 [1,2] ["part","names","kinds"] n6.nd rfl (DI.de (bC (ay (dvC 0) (dA al)))) (λ_ _ _ _ _=>(dgc 0 1)) (λ_ _ _ _ _=>(pi (br (gH c) gG (DE.db (ay (nB 0) al)) (DE.db au)))) (λ_ _ _ _ _=>(ba (yK W) b (ah (dvc 0) (ah (dvc 1) (ah (dvc 2) ak)))))) (Ki 3 n6.nd 1 [1,2] ["part","names","kinds"] rfl rfl rfl rfl Jf (DI.de (bC (ay (dvC 0) (dA al)))) (λ_ _ _ _ _=>(dgc 0 1)) (λ_ _ _ _ _=>(pi (br (gH c) gG (DE.db (ay (nB 0) al)) (DE.db au)))) (λ_ _ _ _ _=>(ba (yK W) b (ah (dvc 0) (ah (dvc 1) (ah (dvc 2) ak))))) (λ_ _ _ _ _ _ f=>(fh (KD W e d) f b (DAX.toE (aP (DE.dx (dvc 0)) (aP (DE.dx (dvc 1)) (aP (DE.dx (dvc 2)) bp)))) ff)))
 (fg (bO (br (b9 c) cf (DE.db (ay (dvC 0) al)) (DE.db au)) (aF (sL (aQ (ah (aU (ah au (ah l6 (ah (dv 3) ak)))) ak)))) cn) hJ
 (cX (j9 (DT.dtx (br (b9 c) cf (DE.db (ay (dvC 0) al)) (DE.db au))) (cX (BK (BL (CQ W) b (pI (DE.dx (ay (dvC 0) al)) pH (pI (DE.dx (ay (dvC 0) al)) pH (nR (fh (CT W e d) fR b (aP (DE.dx (ay (dvC 0) al)) (aP (DE.dx (ay (dvC 0) al)) (aP (DE.dx (dv 1)) (aP (DE.dx (dv 2)) bp)))) ff))))))) lq))))
def yL(W:Wd K mg a):qD P w K mg base a 6 "rules_of" a.e_8 ["rows","kinds"] m_8:=by
 refine W.e_8.pk (cA (F:=b_8) W.e_8.F kj λ_ _ _ _ _ _ b=>?_);have c:=b.units;unfold b_8;exact (aH (fO 2 kj.nd (aQ ak))
 (aH (dG eG rfl (bC (dv 0)) (bQ 3 5 kj.nd) (aF (bO (br (gH c) gG (DE.db (ay (dvC 3) al)) (DE.db au)) (aF (dG eG rfl (bC (ba (qu W) b (ah (ay (dvC 3) (dA al)) (ah (dv 1) (ah xi ak))))) (bQ 4 5 kj.nd) (aF (bO (sx (lc (DE.db (ba (uH W) b (ah (ay (dvC 3) (dA al)) (ah (dv 4) ak)))))) (aH (jY (cM (cT dz i3 i4 jb (pv 2) (bJ (DE.pe (ba (uI W) b (ah (dv 3) (ah (dv 4) (ah (dv 1) ak))))) ci))))
 (aF (fb (mn (qt W) b (cj (dvB 2) (cj (DE.db (lv rfl W.g_MOST_RULES)) (cj (DE.db au) c6))))))) cn)))) cn)))
 (aF (g4 2))))
def KG(W:Wd K mg a)(d:dU K C=af)(c:mg "Wide"=aa (.ref C)):Pk P w K mg base (CX1 P w) 6 "rules_of" a.e_8 ["rows","kinds"] (spR ⟨K,a.cl⟩ ["rows","kinds"].length C uA):=by
 refine W.e_8.pk (gk (r:=uz) W.e_8.F kj λ_ _ _ _ _ _ b=>?_);have e:=b.units;unfold uz;exact (fg (fO 2 kj.nd (aQ ak)) hJ
 (cX (nS i5 rfl (bC (dv 0)) (bQ 3 5 kj.nd) (aF (bO (br (gH e) gG (DE.db (ay (dvC 3) al)) (DE.db au)) (aF (dG i5 rfl (bC (ba (qu W) b (ah (ay (dvC 3) (dA al)) (ah (dv 1) (ah xi ak))))) (bQ 4 5 kj.nd) (aF (bO (sx (lc (DE.db (ba (uH W) b (ah (ay (dvC 3) (dA al)) (ah (dv 4) ak)))))) (aH (jY (cM (cT dz i3 i4 jb (pv 2) (bJ (DE.pe (ba (uI W) b (ah (dv 3) (ah (dv 4) (ah (dv 1) ak))))) ci))))
 (aF (fb (mn (qt W) b (cj (dvB 2) (cj (DE.db (lv rfl W.g_MOST_RULES)) (cj (DE.db au) c6))))))) cn)))) cn)) (cX (j9 (DT.dtx (br (gH e) gG (DE.db (ay (dvC 3) al)) (DE.db au))) (cX (nS i5 rfl (bC (ba (qu W) b (ah (ay (dvC 3) (dA al)) (ah (dv 1) (ah xi ak))))) (bQ 4 5 kj.nd) (aF (bO (sx (lc (DE.db (ba (uH W) b (ah (ay (dvC 3) (dA al)) (ah (dv 4) ak)))))) (aH (jY (cM (cT dz i3 i4 jb (pv 2) (bJ (DE.pe (ba (uI W) b (ah (dv 3) (ah (dv 4) (ah (dv 1) ak))))) ci))))
 (aF (fb (mn (qt W) b (cj (dvB 2) (cj (DE.db (lv rfl W.g_MOST_RULES)) (cj (DE.db au) c6))))))) cn)) (cX (j9 (DT.dtx (sx (lc (DE.db (ba (uH W) b (ah (ay (dvC 3) (dA al)) (ah (dv 4) ak))))))) (fg (jY (cM (cT dz i3 i4 jb (pv 2) (bJ (DE.pe (ba (uI W) b (ah (dv 3) (ah (dv 4) (ah (dv 1) ak))))) ci)))) (J4 (cM (cT dz i3 i4 jb (pv 2) (nR (fh (KE W d c) fR b (aP (DE.dx (dv 3)) (aP (DE.dx (dv 4)) (aP (DE.dx (dv 1)) bp))) ff)))))
 (cX (tM 2 (ju (fh (yJ W d c) fR b (aP (DE.dx (dv 2)) (aP (DE.dx (lv rfl W.g_MOST_RULES)) (aP (DE.dx au) bp))) ff))))) lq)))) lq)))))
def KH(W:Wd K mg a):qD P w K mg base a 7 "plain_of" a.e_1 ["rows"] m_1:=by
 refine W.e_1.pk (cA (F:=b_1) W.e_1.F ki λ_ _ _ _ _ _ b=>?_);unfold b_1;exact (aH (cV 1 ki.nd (ba (yL W) b (ah (dv 0) (ah (ba (yI W) b (ah (dv 0) ak)) ak))))
 (aH (cV 2 ki.nd (ba (Kz W) b (ah (dv 1) ak)))
 (aF (cW (aU (ah (DO.de (JW rfl rfl W.z_list (dv 2))) (ah (aU (ah (pU rfl W.z_len (DE.db (dv 2))) (ah (DO.de (e7 1 [2] ["rule","places"] rfl (DI.de (bC (dv 1))) (λ_ _ _ _ _=>(dgc 0 1)) (λ_ _ _ _ _=>c7) (λ_ _ _ _ _=>(ba (Ky W) b (ah (dvc 0) (ah (dvc 1) ak)))))) ak))) ak)))))))
def KI(W:Wd K mg a)(d:dU K C=af)(c:mg "BadName"=aa (.ref C)):Pk P w K mg base (CX1 P w) 7 "plain_of" a.e_1 ["rows"] (spR ⟨K,a.cl⟩ ["rows"].length C r_1):=by
 refine W.e_1.pk (gk (r:=qe) W.e_1.F ki λ_ _ _ _ _ _ b=>?_);unfold qe;exact(cX (pJ 1 ki.nd (BL (yL W) b (pI (DE.dx (dv 0)) pH (nR (fh (Kw W d c) fR b (aP (DE.dx (dv 0)) bp) ff))))))
def KJ(W:Wd K mg a)(d:dU K C=af)(c:mg "Wide"=aa (.ref C)):Pk P w K mg base (CX1 P w) 7 "plain_of" a.e_1 ["rows"] (spR ⟨K,a.cl⟩ ["rows"].length C ku):=by
 refine W.e_1.pk (gk (r:=mG) W.e_1.F ki λ_ _ _ _ _ _ b=>?_);unfold mG;exact (fg (cV 1 ki.nd (ba (yL W) b (ah (dv 0) (ah (ba (yI W) b (ah (dv 0) ak)) ak)))) (pJ 1 ki.nd (fh (KG W d c) fR b (aP (DE.dx (dv 0)) (aP (DE.dx (ba (yI W) b (ah (dv 0) ak))) bp)) ff))
 (cX (pJ 2 ki.nd (fh (KA W d c) fR b (aP (DE.dx (dv 1)) bp) ff))))
def yM(W:Wd K mg a):qD P w K mg base a 8 "_law_found" a.e_5 ["_law_rows"] m_5:=by
 refine W.e_5.pk (cA (F:=b_5) W.e_5.F mC λ_ _ _ _ _ _ c=>?_);unfold b_5;exact (aH (cV 1 mC.nd (DO.de (aQ ak)))
 (aH (Cp (J3 λ_ _=>(cV 1 mC.nd (DO.de (aQ (ah (ba (KH W) c (ah (dv 0) ak)) ak))))) (Cp (BS (λE pn xe b=>(pJ 1 mC.nd (BJ (nR (fh (KJ W W.x_Wide W.g_Wide) b c (aP (DE.dx (dv 0)) bp) ff))))) (λ_=>(lr (tL W.ec_Wide rfl W.z_isinstance (pv 2) rfl W.g_Wide W.ke2_Wide) (lr (tL W.ec_Wide rfl W.z_isinstance (pv 2) rfl W.g_BadName W.ke2_BadName) (lr (BP W.ec_Wide rfl W.z_isinstance (pv 2) rfl W.z_ValueError B2 W.kv2_ValueError) (lr (by refine Cr W.ec_Wide ?_ W.z_isinstance (pv 2) ?_ W.g_NoRow ?_ W.g_NoThing W.km2_NoRow_NoThing <;> rfl) BO))))) rfl rfl rfl W.x_Wide W.x_StillError (B3 W.mr2_StillError) rfl W.g_StillError mC.nd rfl rfl rfl (by first | exact bV rfl | exact bE rfl) (by first | exact bV rfl | exact bE rfl) (by first | exact bV rfl | exact bE rfl) (by first | exact bV rfl | exact bE rfl) (λ_=>rfl) (by decide) (by decide)) (BS (λE pn xe b=>(pJ 1 mC.nd (BJ (nR (fh (KI W W.x_BadName W.g_BadName) b c (aP (DE.dx (dv 0)) bp) ff))))) (λ_=>(lr (tL W.ec_BadName rfl W.z_isinstance (pv 2) rfl W.g_Wide W.ke_Wide) (lr (tL W.ec_BadName rfl W.z_isinstance (pv 2) rfl W.g_BadName W.ke_BadName) (lr (BP W.ec_BadName rfl W.z_isinstance (pv 2) rfl W.z_ValueError B2 W.kv_ValueError) (lr (by refine Cr W.ec_BadName ?_ W.z_isinstance (pv 2) ?_ W.g_NoRow ?_ W.g_NoThing W.km_NoRow_NoThing <;> rfl) BO))))) rfl rfl rfl W.x_BadName W.x_StillError (B3 W.mr_StillError) rfl W.g_StillError mC.nd rfl rfl rfl (by first | exact bV rfl | exact bE rfl) (by first | exact bV rfl | exact bE rfl) (by first | exact bV rfl | exact bE rfl) (by first | exact bV rfl | exact bE rfl) (λ_=>rfl) (by decide) (by decide))))
 (aF (g4 1))))
def dW(W:Wd K mg a):qM P w K mg base a 1 "_law_next" a.e_0 ["_law_state","_law_many"] 0 m_0:=by
 refine W.e_0.pk (jm (F:=b_0) W.e_0.F Kp λ_ _ _ _ _ _ b=>?_);unfold b_0;exact (aH (HX (pv 0) al (bB l7 (bB cO (bB px (ay (Bo 0) al) al) al) (bB iu (bB wf al al) al)))
 (aF (jh (bB l7 (bB nj (ay (Bo 0) al) al) (dv 1)))))
def CU(W:Wd K mg a):qM P w K mg base a 2 "_law_divisor" a.e_30 ["_law_state","_law_count","_law_most"] 0 uB:=by
 refine W.e_30.pk (jm (F:=qf) W.e_30.F CB λ_ _ _ _ _ _ b=>?_);have c:=b.units;unfold qf;exact (aH (jX 3 1 [1] ["_law_k","_law_count"] CB.nd rfl (DI.de (G3 rfl W.z_range (ah al (ah (bB cO (dv 2) al) ak)))) (λ_ _ _ _ _=>(dgc 0 1)) (λ_ _ _ _ _=>(pi (br (b9 c) cf (DE.db (bB l7 (dvc 1) (dvc 0))) (DE.db al)))) (λ_ _ _ _ _=>(dvc 0)))
 (aF (Bw (nM (DE.dx (dv 3)) (du (dW W) b (cD 0 (aP (DE.dx (d9 eR eS rfl W.z_len dZ (cj (DE.db (dv 3)) c6))) bp)))))))
def mI(W:Wd K mg a):qD P w K mg base a 1 "_law_kind" a.e_18 ["_law_name","_law_first","_law_many"] kx:=by
 refine W.e_18.pk (cA (F:=uC) W.e_18.F Kq λ_ _ _ _ _ _ b=>?_);unfold uC;exact(aF (cW (aU (ah au (ah (dv 0) (ah (DO.de (e7 1 [1] ["_law_k","_law_first"] rfl (DI.de (nz rfl W.z_range (ah (dv 2) ak))) (λ_ _ _ _ _=>(dgc 0 1)) (λ_ _ _ _ _=>c7) (λ_ _ _ _ _=>(bB cO (dvc 1) (wU au (dvc 0)))))) ak))))))
def CV(W:Wd K mg a):qM P w K mg base a 3 "_law_items" a.e_20 ["_law_state","_law_count"] 0 uD:=by
 refine W.e_20.pk (jm (F:=qg) W.e_20.F mz λ_ _ _ _ _ _ b=>?_);have c:=b.units;unfold qg;exact (aH (fF 2 mz.nd (du (CU W) b (cD 0 (aP (DE.dx (dv 1)) (aP (DE.dx al) bp)))))
 (aH (fF 3 mz.nd (du (CU W) b (cD 0 (aP (DE.dx (bB nj (dv 1) (dv 2))) (aP (DE.dx al) bp)))))
 (aH (cV 4 mz.nd (DO.de (aQ (ah (ba (mI W) b (ah au (ah au (ah (dv 2) ak)))) (ah (ba (mI W) b (ah au (ah au (ah (dv 3) ak)))) ak)))))
 (aH (Kg 5 1 [0] 0 0 ["_law_k","_law_state"] mz.nd rfl (Bx rfl W.z_range (aP (DE.dx (bB nj (bB nj (dv 1) (dv 2)) (dv 3))) bp)) (λ_ _ _ _ _=>(dgc 0 1)) (λ_ _ _ _ _=>(tw (aP (DE.dx (aU (ah au (ah (DO.de (aQ ak)) ak)))) (aP (du (dW W) b (BI 1 (aP (DE.dx al) bp))) bp)))))
 (aH (Ke (pv 5) (du (dW W) b (cD 0 (aP (DE.dx (d9 eR eS rfl W.z_len dZ (cj (dvB 5) c6))) bp))) (aU (ah (aU (ah au (ah (DO.de (aQ (ah au (ah au ak)))) ak))) (ah al ak))))
 (aH (cV 6 mz.nd (DO.de (aQ (ah (aU (ah au (ah au ak))) (ah (aU (ah au (ah au ak))) ak)))))
 (aH (fF 7 mz.nd (du (dW W) b (cD 0 (aP (DE.dx al) bp))))
 (aH (bO (br (b9 c) cf (DE.db (dv 7)) (DE.db al)) (aF (g5 5 (jh (DO.de (iz (dv 4) (DO.de (aQ (ah (aU (ah au (ah al (ah al (ah (dv 5) (ah (dv 6) (ah (DO.de (aQ ak)) (ah (DO.de (aQ ak)) ak)))))))) ak)))))))) cn)
 (aF (g5 5 (jh (DO.de (iz (dv 4) (DO.de (aQ (ah (aU (ah au (ah (aU (ah au (ah (DO.de (aQ ak)) ak))) (ah (DO.de (aQ (ah (aU (ah (ay (DO.dc (aQ (ah au (ah au ak)))) (bB iu (dv 7) al)) (ah al (ah (dv 5) (ah (dv 6) ak))))) ak))) (ah (DO.de (aQ ak)) ak))))) ak))))))))))))))))
def KL(W:Wd K mg a):qM P w K mg base a 4 "_law_given_none" a.e_31 ["_law_state","_law_count"] 0 yy:=by
 refine W.e_31.pk (jm (F:=qh) W.e_31.F tX λ_ _ _ _ _ _ d=>?_);unfold qh;exact (aH (fF 2 tX.nd (du (CV W) d (cD 0 (aP (DE.dx (bB cO (dv 1) al)) bp))))
 (aH (cV 3 tX.nd (ay (dvC 2) (dA al)))
 (aH (cV 4 tX.nd (ay (DE.dc (ay (DE.dc (ay (dvC 2) al)) al)) al))
 (aF (jh (DO.de (iz (DO.de (by refine wo ?a ?b ?c;(case a=>exact(dv 2));(case b=>exact ma);(case c=>exact(md (dA al))))) (DO.de (aQ (ah (Kb (Cm (dv 3) ma (md (dA al))) (aU (ah (DO.de (iz (ay (dvC 3) (dA al)) (DO.de (aQ (ah (aU (ah au (ah (dv 4) (ah (dv 4) ak)))) ak))))) (ah (ay (dvC 3) (dA al)) ak)))) ak))))))))))
def KM(W:Wd K mg a):qD P w K mg base a 1 "_law_most_items" a.e_25 ["_law_plain"] uF:=by
 refine W.e_25.pk (cA (F:=uE) W.e_25.F mD λ_ _ _ _ _ _ b=>?_);have c:=b.units;unfold uE;exact (aH (cV 1 mD.nd al)
 (aH (dG eG rfl (bC (ay (dvC 0) al)) (dJ rfl (bF (bQ 2 6 mD.nd) (bF (bQ 3 6 mD.nd) (bF (bQ 4 6 mD.nd) dB)))) (aF (dG eG rfl (bC (dv 4)) (bQ 5 6 mD.nd) (aF (bO (br (b9 c) cf (DE.db (d9 eR eS rfl W.z_len dZ (cj (DE.db (dv 5)) c6))) (DE.db al)) (aF (cV 1 mD.nd (G1 (HF rfl) rfl W.z_max boot_max (ah (dv 1) (ah (d9 eR eS rfl W.z_len dZ (cj (DE.db (ay (dvC 5) al)) c6)) ak))))) cn)))))
 (aF (g4 1))))
def yN(W:Wd K mg a):qM P w K mg base a 2 "_law_single" a.e_24 ["_law_state","_law_name"] 0 oh:=by
 refine W.e_24.pk (jm (F:=qi) W.e_24.F CA λ_ _ _ _ _ _ b=>?_);have c:=b.units;unfold qi;exact (aH (fF 2 CA.nd (du (dW W) b (cD 0 (aP (DE.dx al) bp))))
 (aH (bO (br (b9 c) cf (DE.db (dv 2)) (DE.db al)) (aF (jh (aU (ah au (ah (DO.de (aQ (ah (aU (ah au (ah (aU (ah (dv 1) (ah (DO.de (aQ ak)) ak))) ak))) ak))) (ah (DO.de (aQ ak)) ak)))))) cn)
 (aF (jh (aU (ah (ay (DO.dc (aQ (ah au (ah au (ah au ak))))) (bB iu (dv 2) al)) (ah (aU (ah (dv 1) (ah (DO.de (aQ ak)) ak))) (ah (DO.de (aQ ak)) (ah (DO.de (aQ ak)) ak)))))))))
def KN(W:Wd K mg a):qM P w K mg base a 3 "_law_rules" a.e_19 ["_law_state", "_law_count"] 0 yz:= by
  refine W.e_19.pk (jm (F:= qj) W.e_19.F km λ_ _ _ _ _ _ b=> ?_);unfold qj;refine aH ?z1 ?z2
  (case z1 =>
    refine fF 2 ?z3 (mo cO (DE.dx al) (du (dW W) b (cD 0 (aP (DE.dx al) bp))))
    (case z3 =>
      exact km.nd))
  (case z2 =>
    refine aH ?z4 ?z5
    (case z4 =>
      refine fO 3 ?z6 ?z7
      (case z6 =>
        exact km.nd)
      (case z7 =>
        refine aQ ?z8
        (case z8 =>
          refine ah ?z9 ?z10
          (case z9 =>
            refine aU ?z11
            (case z11 =>
              refine ah au ?z12
              (case z12 =>
                exact(ah au ak))))
          (case z10 =>
            refine ah ?z13 ak
            (case z13 =>
              refine aU ?z14
              (case z14 =>
                refine ah au ?z15
                (case z15 =>
                  exact(ah au ak))))))))
    (case z5 =>
      refine aH ?z16 ?z17
      (case z16 =>
        refine cV 4 ?z18 ?z19
        (case z18 =>
          exact km.nd)
        (case z19 =>
          exact(bB px (dv 2) (dv 2))))
      (case z17 =>
        refine aH ?z20 ?z21
        (case z20 =>
          refine bO ?z22 ?z23 cn
          (case z22 =>
            refine br wg wk ?z24 ?z25
            (case z24 =>
              exact(DE.db (dv 2)))
            (case z25 =>
              exact(DE.db al)))
          (case z23 =>
            refine aH ?z26 ?z27
            (case z26 =>
              refine ji (cM (cT dz gy gz gE (pv 3) (bJ (DE.pe (aU (ah au (ah au ak)))) ci))))
            (case z27 =>
              refine aF ?z28
              (case z28 =>
                refine cV 4 ?z29 ?z30
                (case z29 =>
                  exact km.nd)
                (case z30 =>
                  exact(bB px (dv 4) (dv 2)))))))
        (case z21 =>
          refine aH ?z31 ?z32
          (case z31 =>
            refine g5 3 ?z33
            (case z33 =>
              refine wx 6 1 [3] ["_law_k", "_law_pairs"] ?z34 rfl ?z35 (λ_ _ _ _ _=> (dgc 0 1)) (λ_ _ _ _ _=> c7) (λ_ _ _ _ _=> (aU (ah au (ah (aU (ah au (ah (DO.de (aQ ak)) ak))) (ah (DO.de (aQ (ah (aU (ah au (ah (aU (ah au (ah (DO.de (aQ ak)) ak))) ak))) ak))) (ah (dvc 1) ak))))))
              (case z34 =>
                exact km.nd)
              (case z35 =>
                refine DI.de ?z36
                (case z36 =>
                  refine nz rfl W.z_range ?z37
                  (case z37 =>
                    refine ah ?z38 ak
                    (case z38 =>
                      exact(bB nj (dv 1) (dv 4))))))))
          (case z32 =>
            refine aH ?z39 ?z40
            (case z39 =>
              refine cV 7 ?z41 ?z42
              (case z41 =>
                exact km.nd)
              (case z42 =>
                exact(bB l7 (dv 1) (dv 4))))
            (case z40 =>
              refine aH ?z43 ?z44
              (case z43 =>
                refine bO ?z45 ?z46 cn
                (case z45 =>
                  refine br sC sD ?z47 ?z48
                  (case z47 =>
                    exact(DE.db (dv 7)))
                  (case z48 =>
                    exact(DE.db al)))
                (case z46 =>
                  refine aH ?z49 ?z50
                  (case z49 =>
                    refine ji (cM (cT dz gy gz gE (pv 6) (bJ (DE.pe (aU (ah au (ah al (ah al (ah (DO.de (aQ (ah (aU (ah (aU (ah au (ah (DO.de (aQ ak)) ak))) (ah al ak))) (ah (aU (ah (aU (ah au (ah (DO.de (aQ ak)) ak))) (ah al ak))) (ah (aU (ah (aU (ah au (ah (DO.de (aQ ak)) ak))) (ah al ak))) ak))))) (ah (DO.de (aQ ak)) (ah (DO.de (aQ ak)) (ah (DO.de (aQ ak)) ak))))))))) ci))))
                  (case z50 =>
                    refine aF ?z51
                    (case z51 =>
                      refine cV 7 ?z52 ?z53
                      (case z52 =>
                        exact km.nd)
                      (case z53 =>
                        exact(bB iu (dv 7) al))))))
              (case z44 =>
                refine aH ?z54 ?z55
                (case z54 =>
                  refine dG eG rfl ?z56 (bQ 5 8 km.nd) ?z57
                  (case z56 =>
                    refine nz rfl W.z_range ?z58
                    (case z58 =>
                      exact(ah (dv 7) ak)))
                  (case z57 =>
                    refine aF ?z59
                    (case z59 =>
                      refine xg (cM (cT dz vC vD xf (pv 6) (DAX.pa (aP (du (dW W) b (cD 0 (aP (DE.dx (bB cO (d9 eR eS rfl W.z_len dZ (cj (dvB 6) c6)) al)) bp))) (aP (du (yN W) b (cD 0 (aP (nM (DE.dx (DO.de (aQ (ah au (ah au (ah au ak)))))) (du (dW W) b (cD 0 (aP (DE.dx al) bp)))) bp))) bp))))))))
                (case z55 =>
                  refine aF ?z60
                  (case z60 =>
                    refine g5 6 ?z61
                    (case z61 =>
                      refine jh ?z62
                      (case z62 =>
                        refine DO.de ?z63
                        (case z63 =>
                          refine iz ?z64 (dv 6)
                          (case z64 =>
                            refine DO.de ?z65
                            (case z65 =>
                              refine aQ ?z66
                              (case z66 =>
                                refine ah ?z67 ak
                                (case z67 =>
                                  exact(ba (mI W) b (ah au (ah au (ah (dv 2) ak))))))))))))))))))))
def KO(W:Wd K mg a):qD P w K mg base a 1 "_law_seed" a.e_29 ["_law_script"] yA:=by
 refine W.e_29.pk (cA (F:=qk) W.e_29.F tW λ_ _ _ _ _ _ b=>?_);unfold qk;exact (aH (cV 1 tW.nd al)
 (aH (dG eG rfl (bC (dv 0)) (bQ 2 3 tW.nd) (aF (cV 1 tW.nd (bB l7 (bB cO (bB cO (bB px (dv 1) al) (bB l7 (dv 2) (bB wf al al))) al) (bB iu (bB wf al al) al)))))
 (aF (g4 1))))
def KP(W:Wd K mg a):qM P w K mg base a 2 "_law_pairs_of_two" a.e_40 ["_law_state"] 0 yB:=by
 refine W.e_40.pk (jm (F:=ql) W.e_40.F Kr λ_ _ _ _ _ _ b=>?_);unfold ql;exact(aF (Bw (Ia (aP (mo cO (DE.dx al) (du (dW W) b (cD 0 (aP (DE.dx al) bp)))) (aP (mo cO (DE.dx al) (du (dW W) b (cD 0 (aP (DE.dx al) bp)))) bp)))))
def KQ(W:Wd K mg a):qM P w K mg base a 3 "_law_things" a.e_21 ["_law_state","_law_count"] 0 yC:=by
 refine W.e_21.pk (jm (F:=qm) W.e_21.F lB λ_ _ _ _ _ _ d=>?_);unfold qm;exact (aH (Jr (du (KP W) d (cD 0 bp)) (Co rfl (bF (bQ 2 9 lB.nd) (bF (bQ 3 9 lB.nd) dB))))
 (aH (fO 4 lB.nd (aQ (ah (ba (mI W) d (ah au (ah au (ah (dv 2) ak)))) (ah (ba (mI W) d (ah au (ah au (ah (dv 3) ak)))) ak))))
 (aH (dG eG rfl (nz rfl W.z_range (ah (bB iu (dv 1) (bB px (dv 2) (dv 3))) ak)) (bQ 5 9 lB.nd) (aF (wT (cM (cT dz gy gz gE (pv 4) (bJ (DX.pe (du (yN W) d (cD 0 (aP (DE.dx (bB cO (bB cO au (wU au (bB nj (dv 5) al))) (wU au (bB l7 (dv 5) al)))) bp)))) ci))))))
 (aH (cV 6 lB.nd (aU (ah au (ah (DO.de (aQ (ah au (ah au ak)))) ak))))
 (aH (fF 7 lB.nd (nM (DE.dx (DO.de (aQ (ah (DO.de (aQ ak)) (ah (DO.de (aQ (ah (aU (ah au (ah (dv 6) ak))) ak))) ak))))) (du (dW W) d (cD 0 (aP (DE.dx al) bp)))))
 (aH (g5 4 (fF 8 lB.nd (mo cO (DE.dx al) (du (dW W) d (cD 0 (aP (DE.dx (bB iu (d9 eR eS rfl W.z_len dZ (cj (DE.db (dv 4)) c6)) al)) bp))))))
 (aF (g5 4 (jh (DO.de (iz (DO.de (iz (DO.de (by refine wo ?a ?b ?c;(case a=>exact(dv 4));(case b=>exact ma);(case c=>exact(md (dv 8))))) (DO.de (aQ (ah (aU (ah au (ah (dv 6) (ah (dv 7) (ah (DO.de (aQ (ah (aU (ah au (ah au ak))) (ah (aU (ah au (ah au ak))) ak)))) ak))))) ak))))) (DO.de (by refine wo ?a ?b ?c;(case a=>exact(dv 4));(case b=>exact(md (dv 8)));(case c=>exact ma))))))))))))))
def KR(W:Wd K mg a):qM P w K mg base a 2 "_law_two_parts" a.e_32 ["_law_state"] 0 yD:=by
 refine W.e_32.pk (jm (F:=qo) W.e_32.F tY λ_ _ _ _ _ _ b=>?_);unfold qo;exact (aH (fO 1 tY.nd (aQ ak))
 (aH (dG eG rfl (nz rfl W.z_range (ah al ak)) (bQ 2 4 tY.nd) (aH (IE 3 1 [0] 0 0 ["_law_j","_law_state"] tY.nd rfl (Bx rfl W.z_range (aP (mo cO (DE.dx al) (du (dW W) b (cD 0 (aP (DE.dx al) bp)))) bp)) (λ_ _ _ _ _=>(dgc 0 1)) (λ_ _ _ _ _=>(tw (aP (DE.dx (aU (ah au (ah (DO.de (aQ ak)) ak)))) (aP (du (dW W) b (BI 1 (aP (DE.dx al) bp))) bp)))))
 (aF (wT (cM (cT dz gy gz gE (pv 1) (bJ (DX.pe (tw (aP (nM (DE.dx (DO.de (aQ (ah au (ah au ak))))) (du (dW W) b (cD 0 (aP (DE.dx al) bp)))) (aP (DE.dx al) (aP (DE.dx (dv 3)) (aP (DE.dx (DO.de (aQ ak))) bp)))))) ci)))))))
 (aF (g5 1 (jh (DO.de (aQ (ah (aU (ah au (ah (aU (ah au (ah (DO.de (aQ ak)) ak))) (ah (dv 1) (ah (DO.de (aQ ak)) ak))))) ak))))))))
def KS(W:Wd K mg a):qD P w K mg base a 1 "_law_two_right" a.e_41 ["_law_found_here","_law_rows"] yE:=by
 refine W.e_41.pk (cA (F:=uG) W.e_41.F CC λ_ _ _ _ _ _ c=>?_);have b:=c.units;unfold uG;exact (aH (bO (DW.dt (wd (br (gH b) gG (DE.db (d9 eR eS rfl W.z_len dZ (cj (DE.db (dv 0)) c6))) (DE.db al)) (wd (br (gH b) gG (DE.db (ay (DE.dc (ay (dvC 0) al)) al)) (DE.db (DO.de (aQ (ah au (ah au ak)))))) (AR (br (gH b) gG (DE.db (d9 eR eS rfl W.z_len dZ (cj (DE.db (ay (DE.dc (ay (DE.dc (ay (dvC 0) al)) al)) al)) c6))) (DE.db al)))))) (aF (cW iq)) cn)
 (aH (cV 2 CC.nd (ay (DE.dc (ay (DE.dc (ay (DE.dc (ay (DE.dc (ay (dvC 0) al)) al)) al)) al)) al))
 (aF (cW (gY (b9 b) cf (DE.db (DO.de (e7 1 [] ["_law_part"] rfl (DI.de (bC (dv 2))) (λ_ _ _ _ _=>(dgc 0 1)) (λ_ _ _ _ _=>c7) (λ_ _ _ _ _=>(d9 eR eS (glc rfl) W.z_len dZ (cj (DE.db (ay (nB 0) al)) c6)))))) (DE.db (DO.de (e7 1 [] ["_law_part"] rfl (DI.de (bC (ay (DE.dc (ay (dvC 1) al)) al))) (λ_ _ _ _ _=>(dgc 0 1)) (λ_ _ _ _ _=>c7) (λ_ _ _ _ _=>(d9 eR eS (glc rfl) W.z_len dZ (cj (DE.db (ay (nB 0) al)) c6)))))))))))
def KU(W:Wd K mg a):qM P w K mg base a 3 "_law_ways" a.e_26 ["_law_state","_law_count"] 0 yF:=by
 refine W.e_26.pk (jm (F:=qp) W.e_26.F n8 λ_ _ _ _ _ _ b=>?_);have c:=b.units;unfold qp;exact (aH (fF 2 n8.nd (du (dW W) b (cD 0 (aP (DE.dx al) bp))))
 (aH (fO 3 n8.nd (aQ (ah (aU (ah au (ah au (ah au ak)))) (ah (aU (ah au (ah (aU (ah au (ah (DO.de (aQ ak)) ak))) ak))) (ah (ay (DO.dc (aQ (ah (aU (ah au (ah au (ah au ak)))) (ah (aU (ah au (ah (aU (ah au (ah (DO.de (aQ ak)) ak))) ak))) ak)))) (HV rfl W.z_int (gY (b9 c) cf (DE.db (dv 2)) (DE.db al)))) ak)))))
 (aH (bO (br (b9 c) cf (DE.db (dv 2)) (DE.db al)) (aF (xg (cM (cT dz vC vD xf (pv 3) (DAX.pa (aP (du (dW W) b (cD 0 (aP (DE.dx al) bp))) (aP (DE.dx (aU (ah au (ah au (ah au ak))))) bp))))))) cn)
 (aH (fO 4 n8.nd (aQ (ah (ba (mI W) b (ah au (ah au (ah (ay (DO.dc (aQ (ah al (ah al (ah al ak))))) (dv 2)) ak)))) (ah (ba (mI W) b (ah au (ah au (ah (ay (DO.dc (aQ (ah al (ah al (ah al ak))))) (dv 2)) ak)))) ak))))
 (aH (cV 5 n8.nd (DO.de (aQ (ah (aU (ah au (ah au ak))) (ah (aU (ah au (ah au ak))) (ah (aU (ah au (ah (ay (DO.dc (aQ (ah au (ah au (ah au ak))))) (dv 2)) ak))) ak))))))
 (aH (g5 3 (wT (cM (cT dz gy gz gE (pv 4) (bJ (DX.pe (tw (aP (nM (DE.dx (DO.de (aQ (ah au (ah au ak))))) (du (dW W) b (cD 0 (aP (DE.dx al) bp)))) (aP (DE.dx (aU (ah au (ah (DO.de (aQ ak)) ak)))) (aP (DE.dx (dv 3)) (aP (DE.dx (dv 5)) bp)))))) ci)))))
 (aH (dG eG rfl (nz rfl W.z_range (ah (bB iu (dv 1) (ay (DO.dc (aQ (ah al (ah al (ah al ak))))) (dv 2))) ak)) (bQ 6 7 n8.nd) (aF (xg (cM (cT dz vC vD xf (pv 4) (DAX.pa (aP (mo cO (DE.dx al) (du (dW W) b (cD 0 (aP (DE.dx (bB iu (d9 eR eS rfl W.z_len dZ (cj (dvB 4) c6)) al)) bp)))) (aP (du (yN W) b (cD 0 (aP (nM (DE.dx (DO.de (aQ (ah au (ah au (ah au ak)))))) (du (dW W) b (cD 0 (aP (DE.dx al) bp)))) bp))) bp))))))))
 (aF (g5 4 (jh (dv 4)))))))))))
def KW(W:Wd K mg a):qD P w K mg base a 9 "law" a.e_7 ["_law_script"] m_7:=by
 refine W.e_7.pk (cA (F:=b_7) W.e_7.F gl λ_ _ _ _ _ _ c=>?_);have b:=c.units;unfold b_7;exact (aH (fO 1 gl.nd (aQ (ah (ba (KO W) c (ah (dv 0) ak)) ak)))
 (aH (fF 2 gl.nd (j6 (dW W) c (cD 1 (aP (DE.dx al) bp))))
 (aH (fF 3 gl.nd (mo iu (j6 (dW W) c (cD 1 (aP (DE.dx al) bp))) (DE.dx al)))
 (aH (bO (br (b9 b) cf (DE.db (dv 2)) (DE.db al)) (aH (fF 4 gl.nd (j6 (KR W) c (cD 1 bp)))
 (aF (cW (ba (KS W) c (ah (ba (yM W) c (ah (dv 4) ak)) (ah (dv 4) ak)))))) cn)
 (aH (bO (br (b9 b) cf (DE.db (dv 2)) (DE.db al)) (aF (fF 4 gl.nd (j6 (KN W) c (cD 1 (aP (DE.dx (bB cO al (dv 3))) bp))))) (aF (bO (br (b9 b) cf (DE.db (dv 2)) (DE.db al)) (aF (fF 4 gl.nd (j6 (KQ W) c (cD 1 (aP (DE.dx (bB cO al (dv 3))) bp))))) (aF (bO (br (b9 b) cf (DE.db (dv 2)) (DE.db al)) (aF (fF 4 gl.nd (j6 (CV W) c (cD 1 (aP (DE.dx (bB cO al (dv 3))) bp))))) (aF (bO (br (b9 b) cf (DE.db (dv 2)) (DE.db al)) (aF (fF 4 gl.nd (j6 (KU W) c (cD 1 (aP (DE.dx (bB cO al (dv 3))) bp))))) (aF (fF 4 gl.nd (j6 (KL W) c (cD 1 (aP (DE.dx (bB cO al (dv 3))) bp))))))))))))
 (aH (Ib (Ic (b9 b) (j6 (dW W) c (cD 1 (aP (DE.dx al) bp))) (DE.dx al)) (aH (cV 5 gl.nd (DO.de (iz (dv 4) (DO.de (aQ (ah (aU (ah au (ah (aU (ah au (ah (DO.de (aQ (ah au ak))) ak))) (ah (DO.de (aQ ak)) (ah (DO.de (aQ ak)) ak))))) ak))))))
 (aF (bO (br (gH b) gG (DE.db (ba (yM W) c (ah (dv 5) ak))) (DE.db (DO.de (aQ (ah iq (ah iq (ah iq (ah iq ak)))))))) (aF (cW iq)) cn))) cn)
 (aH (cV 6 gl.nd (ba (yM W) c (ah (dv 4) ak)))
 (aH (bO (DW.dt (sw (br sC sD (DE.db (dv 3)) (DE.db al)) (sv (br (gH b) gG (DE.db (dv 2)) (DE.db al))))) (aF (cW (gY (b9 b) cf (DE.db (dv 6)) (DE.db (DO.de (aQ (ah iq (ah iq (ah iq (ah iq ak)))))))))) cn)
 (aH (bO (br (gH b) gG (DE.db (d9 eR eS rfl W.z_len dZ (cj (DE.db (dv 6)) c6))) (DE.db al)) (aF (cW iq)) cn)
 (aH (HE (ay (dvC 6) al) (dJ rfl (bF (bQ 7 9 gl.nd) (bF (bQ 8 9 gl.nd) dB))))
 (aH (bO (DW.dt (wd (br (b9 b) cf (DE.db (dv 2)) (DE.db al)) (AR (br (b9 b) cf (DE.db (dv 2)) (DE.db al))))) (aF (cW (gY (b9 b) cf (DE.db (d9 eR eS rfl W.z_len dZ (cj (DE.db (ay (dvC 8) al)) c6))) (DE.db (bB cO al (dv 3)))))) cn)
 (aH (bO (br (b9 b) cf (DE.db (dv 2)) (DE.db al)) (aF (cW (sy (gY (b9 b) cf (DE.db (d9 eR eS rfl W.z_len dZ (cj (DE.db (dv 7)) c6))) (DE.db (bB cO al (dv 3)))) (pd (gY (b9 b) cf (DE.db (ay (dvC 8) al)) (DE.db (bB cO al (dv 3)))))))) cn)
 (aH (bO (br (b9 b) cf (DE.db (dv 2)) (DE.db al)) (aF (cW (gY (b9 b) cf (DE.db (ba (KM W) c (ah (dv 8) ak))) (DE.db (bB cO al (dv 3)))))) cn)
 (aF (cW (sy (gY (b9 b) cf (DE.db (dv 8)) (DE.db (aU (ah al (ah (DO.de (aQ ak)) ak))))) (pd (gY (b9 b) cf (DE.db (dv 7)) (DE.db (DO.de (aQ ak)))))))))))))))))))))
local macro_rules | `(tactic| walk_at "evS")=>`(tactic| first | decide | lia | assumption | exact ⟨by decide,by decide⟩ | exact ⟨by lia,by lia⟩ | exact .inl ⟨by decide,by decide⟩ | exact .inr ⟨by decide,by decide⟩ | exact .inl ⟨by lia,by lia⟩ | exact .inr ⟨by lia,by lia⟩ | exact ⟨by decide,by decide,by decide⟩)
local macro_rules | `(tactic| walk_at "evO")=>`(tactic| first | with_reducible exact dR | with_reducible exact g8 | with_reducible exact wF | with_reducible exact ml | with_reducible exact wG | with_reducible exact dGe_eq | with_reducible exact fP _ _ | with_reducible exact wA _ _ | ((with_reducible apply li); (focus walk_at "evS")) | ((with_reducible apply mj); (focus walk_at "evS")) | ((with_reducible apply dMul_eq); (focus walk_at "evS")) | ((with_reducible apply nJ); (focus first | assumption | exact .inl (by walk_at "evS") | exact .inr ⟨by lia,by lia⟩)) | ((with_reducible apply sV); (focus walk_at "evS")) | ((with_reducible apply dShr_eq); (focus walk_at "evS")) | with_reducible exact dEq_str _ _ | with_reducible exact dNe_str _ _ | with_reducible exact dEq_bl _ _ | with_reducible exact dAndB_eq | exact dEq_nil _ _ | exact dNe_nil _ _ | assumption | rfl)
local macro_rules | `(tactic| walk_at "ev")=>`(tactic| first
 | with_reducible assumption
 | ((with_reducible apply av); (focus walk_at "ev"); (focus walk_at "ev"); (focus walk_at "evO"))
 | ((with_reducible apply bf); (focus walk_at "ev"))
 | ((with_reducible apply pj); (focus walk_at "ev"); (focus first | assumption | rfl))
 | ((with_reducible apply sM); (focus walk_at "ev"); (focus walk_at "ev"))
 | ((with_reducible apply wC); (focus walk_at "ev"); (focus walk_at "ev"))
 | ((with_reducible apply wB); (focus walk_at "ev"))
 | ((with_reducible apply sN); (focus walk_at "ev"); (focus walk_at "ev"))
 | ((with_reducible apply Bd); (focus walk_at "ev"); (focus walk_at "ev"))
 | ((with_reducible apply vNot_eq); (focus walk_at "ev"))
 | ((with_reducible apply ai); (focus walk_at "ev"); (focus walk_at "ev"))
 | ((with_reducible apply aX); (focus walk_at "ev"))
 | ((with_reducible apply bo); (focus walk_at "ev"))
 | ((with_reducible apply aZ); (focus walk_at "ev"); (focus first | with_reducible assumption | with_reducible exact f7 _ _ | assumption | exact f7 _ _ | exact len_kl _ _ | rfl))
 | ((with_reducible apply callS_is); (focus walk_at "ev"); (focus assumption); (focus rfl))
 | ((with_reducible apply ar); (focus walk_at "ev"); (focus walk_at "ev"); (focus first | assumption | rfl))
 | ((with_reducible apply sl_kl); (focus walk_at "ev"); (focus rfl); (focus rfl))
 | ((with_reducible apply sW); (focus walk_at "ev"); (focus rfl); (focus rfl))
 | ((with_reducible apply bz); (focus walk_at "ev"); (focus rfl))
 | rfl)
local macro_rules | `(tactic| walk_at "nrm")=>`(tactic| simp only [Bi,set_cons_succ,set_cons_zero])
local macro_rules | `(tactic| walk_at "set")=>`(tactic| (apply ax; (first | with_reducible apply b6 | with_reducible apply fc); (focus walk_at "ev"); walk_at "nrm"))
local macro_rules | `(tactic| walk_at "if0")=>`(tactic| ((with_reducible first | apply bw | apply dn); (focus walk_at "ev")))
open PySem.Builtin PySem.Builtin.Str
@[reducible]noncomputable def tx(l:LN):Str:=⟨l.toArray⟩
def hV(l:LN):(tx l).length=l.length:=by show l.toArray.size=_;simp
def uJ(a b:LN):tx a++tx b=tx (a++b):=by
 apply Str.ext';rw[Str.cps_append];simp
def mJ{a b:LN}(h:tx a=tx b):a=b:=by
 have:=congrArg (λz:Str=>z.cps.toList) h
 simpa using this
variable{ρ:LS}{d:D}
def aY{f:MF1}(h:f ρ=aa d):mX f ρ=aa (d,ρ):=by
 unfold mX;rw[h];rfl
variable{f:Xe}{ρ1 d3:LS}
def gN{m:D->D->OD}{g:Xe}{x y:D}(b:f ρ=aa (x,ρ1))(c:g ρ1=aa (y,d3))(e:m x y=aa d):mX2 m f g ρ=aa (d,d3):=by
 unfold mX2;rw[b,aR,c,aR,e];rfl
variable{ds:LD}
def bi{g:Xa}(b:f ρ=aa (d,ρ1))(c:g ρ1=aa (ds,d3)):aI f g ρ=aa (d::ds,d3):=by
 unfold aI;rw[b,aR,c];rfl
variable{f:Xa}
def KY{b:LD}(c:f ρ=aa (b,ρ1))(e:ix b=aa ds):mr f ρ=aa (ds,ρ1):=by
 unfold mr;rw[c,aR,e];rfl
variable{i:Nat}{m:Addr->LD->LD->LD->Option (LD×D)}{xs0 xs ys:LD}
def kz{l h:Addr}(b:ρ[i]?=aa (.pin h xs0))(c:f ρ=aa (ds,ρ1))(e:ρ1[i]?=aa (.pin l xs))(g:m l [] ds xs=aa (ys,d)):cC i m f ρ=aa (d,ρ1.set i (.pin l ys)):=by
 unfold cC;rw[b,c,aR,e];show(m l [] ds xs).map _=_;rw[g];rfl
open Classical in
def kA(c:ρ[i]?=aa (.own xs0))(g:f ρ=aa (ds,ρ1))(j:ρ1[i]?=aa (.own xs))(b:∀l,m l [] ds xs=aa (ys,d)):gJ i m f ρ=aa (d,ρ1.set i (.own ys)):=by
 unfold gJ;rw[c];show(f ρ).bind _=_;rw[g,aR];dsimp only;rw[j];show(if h:∃q,∀l,m l [] ds xs=aa q then _ else ae)=_;rw[dif_pos ⟨(ys,d),b⟩]
 have e:(⟨(ys,d),b⟩:∃q,∀l,m l [] ds xs=aa q).choose=(ys,d):=by
  have:=(⟨(ys,d),b⟩:∃q,∀l,m l [] ds xs=aa q).choose_spec 0;rw[b 0]at this;exact cu this.symm
 rw[e]
variable{f:Xe}{K:Fl->Prop}
def fD(h:f ρ=aa (d,ρ1))(k:K (.nx (ρ1.set i (.im d)))):wp (dM i f) ρ K:=⟨_,by unfold dM;rw[h];rfl,k⟩
def CW(h:f ρ=aa (d,ρ1))(k:K (.rtS d ρ1)):wp (nL f) ρ K:=⟨_,by unfold nL;rw[h];rfl,k⟩
variable{F F':MF3}{b:Bool}
def KZ{t:Xt}(h:t ρ=aa (b,ρ1))(kT:b=af->wp F ρ1 K)(c:b=aj->wp F' ρ1 K):wp (pA t F F') ρ K:=by
 unfold wp pA;rw[h]
 cases b with
 |true=>exact kT rfl
 |false=>exact c rfl
abbrev nx(s:Int):Int:=(s*1181783497276652981+12345678910987) % (2 ^ 61-1)
abbrev okS(s:Int):Prop:=0<=s/\s<2305843009213693951
def cQ(s:Int):okS (nx s):=by
 unfold okS nx;lia
abbrev dr(s k:Int):Int:=nx s / 65537 % k
variable{k:Int}
def eB(s:Int)(h:0<k):0<=dr s k/\dr s k<k:=⟨qO _ (by lia),qN _ h⟩
def oi(l:Addr)(s k:Int)(h:okS s)(g:0<k):m_0 l [] [.int k] [.int s]=aa ([.int (nx s)],.int (dr s k)):=by
 obtain⟨j,n⟩:=h
 have w:wp b_0 [.pin l [.int s],.im (.int k)] (λo=>o=.rtS (.int (dr s k)) [.pin l [.int (nx s)],.im (.int k)]):=by
  apply ax;have c:jZ s 1181783497276652981:=.inr ⟨by lia,by decide⟩;exact HY (av (av (av rfl rfl (nJ c)) rfl dR) (av (av rfl rfl (sV (by decide))) rfl g8) (li (by decide))) rfl rfl (by decide) (by show _<1;decide) (jo (av (av rfl rfl (mj (by have:=cQ s;unfold okS at this;walk_at "evS"))) rfl (li g)) rfl)
 obtain⟨o,e,rfl⟩:=w;exact jq e rfl
abbrev smL:LN:=("abcdefghijklmnopqrstuvwxyz":Str).cps.toList
def CY(c:LN)(v:Int)(h:0<=v/\v<(c.length:Nat))(g:c.length<=1000):iC (.str (tx c)) (.int v)=aa (.str (tx [c.getD v.toNat 0])):=by
 show(if 0<=v/\v<2 ^ 63/\v<_ then ((tx c).cps[v.toNat]?).map _ else ae)=_;rw[if_pos ⟨h.1,by lia,by rw[hV];exact h.2⟩];have e:v.toNat<c.length:=by lia
 rw[qP,fH e,jG,fH e];rfl
def CZ(v:Int)(a:0<=v)(b:v<=500):ix [D.int v]=aa ((bx v.toNat).map λ(i:Nat)=>D.int i):=by
 show(if -_<=v/\v<2 ^ 62 then aa _ else ae)=_;rw[if_pos ⟨by lia,by lia⟩,Bc];simp
abbrev grL:LN:=("ABCDEFGHIJKLMNOPQRSTUVWXYZ":Str).cps.toList
abbrev kpS:LSt:=["kind","rule","may","choose","never","if","and","not","unlike","least","most","of","to","over","in","for"]
abbrev kpW:L2N:=kpS.map λz=>z.cps.toList
abbrev kept(w:LN):Bool:=kpW.any λk=>k==w
abbrev K0(c w:LN):Bool:=w.all λx=>decide (x∈c)
abbrev made(w c:LN)(most:Nat):Bool:=(decide (1<=w.length) && decide (w.length<=most)) && K0 c w
abbrev oj(w:LN):Bool:=made w smL 8 && !kept w
@[reducible]noncomputable def sT(w:LN):D:=.str (tx w)
variable{ρ':LS}
def bxX{g:Xe}{m:D->D->OD}(h:mX2 m f g ρ=aa (.bl b,ρ')):mBX (mX2 m f g) ρ=aa (b,ρ'):=by
 unfold mBX;rw[h];rfl
abbrev kC(w:LN):Bool:=made (w.take 1) grL 1 && (decide (w.length=1) || made (w.drop 1) smL 7)
variable{v:Int}
def C0(h:f ρ=aa (.int v,ρ1))(a:0<=v)(b:v<=500):mr (aI f bc) ρ=aa ((bx v.toNat).map (λ(i:Nat)=>D.int i),ρ1):=KY (bi h rfl) (CZ v a b)
def K1{f:Xa}(h:f ρ=aa (ds,ρ1)):pz f ρ=aa (.lst ds,ρ1):=by
 unfold pz;rw[h];rfl
def C1(w:LN)(L:L2N):inD (.str (tx w)) (.lst (L.map sT))=aa (decide (w∈L)):=by
 show(if ((D.str (tx w)).scalar && (L.map sT).all D.scalar)=af then aa _ else ae)=_;rw[if_pos (by rw[all_map];exact(dy _ _).mpr ⟨rfl,all_eq_true.mpr λ_ _=>rfl⟩),any_map]
 congr 1
 rw[iU,decide_eq_true_eq,any_eq_true];constructor
 .rintro⟨k,c,e⟩;have e:(tx k==tx w)=af:=e;rw[beq_iff_eq]at e;exact mJ e▸c
 .intro h;refine⟨w,h,?_⟩;show(tx w==tx w)=af;exact beq_iff_eq.mpr rfl
def inW(w:LN)(L:L2N):dIn (.str (tx w)) (.lst (L.map sT))=aa (.bl (decide (w∈L))):=by
 unfold dIn;rw[C1];rfl
def C3(w:LN)(L:L2N):iw (.str (tx w)) (.lst (L.map sT))=aa (.bl (!decide (w∈L))):=by
 unfold iw;rw[C1];rfl
@[reducible]noncomputable def kdD(x:LN×L2N):D:=.tup [sT x.1,.lst (x.2.map sT)]
@[reducible]noncomputable def Th:=LN×L2N
@[reducible]noncomputable def Ti:=Th×Int
@[reducible]noncomputable def Pr:=LN×LN
@[reducible]noncomputable def bS(z:Ti):D:=.tup [kdD z.1,.int z.2]
@[reducible]noncomputable def prD(p:Pr):D:=.tup [sT p.1,sT p.2]
inductive Pa where
 |is (t:Th)
 |no (t:Th)
 |un (a b:LN)
 |ct (w:Bool) (n:Int) (its:List Ti) (ov:List Pr)
@[reducible]noncomputable def Pa.toD:Pa->D
 |.is t=>.tup [.str "is",kdD t]
 |.no t=>.tup [.str "not",kdD t]
 |.un a b=>.tup [.str "unlike",sT a,sT b]
 |.ct w n its ov=>.tup [.str (if w then "least" else "most"),.int n,.lst (its.map bS),.lst (ov.map prD)]
inductive Ro where
 |kind (n:LN) (ns:L2N)
 |rule (b:Bool) (t:Th) (bd:List Pa) (ps:List Pr)
 |choose (lo hi:Int) (its:List Ti) (ov:List Pr) (bd:List Pa) (ps:List Pr)
 |never (bd:List Pa) (ps:List Pr)
@[reducible]noncomputable def Ro.toD:Ro->D
 |.kind n ns=>.tup [.str "kind",sT n,.lst (ns.map sT)]
 |.rule b t bd ps=>.tup [.str (if b then "rule" else "may"),kdD t,.lst (bd.map Pa.toD),.lst (ps.map prD)]
 |.choose lo hi its ov bd ps=>.tup [.str "choose",.int lo,.int hi,.lst (its.map bS),.lst (ov.map prD),.lst (bd.map Pa.toD),.lst (ps.map prD)]
 |.never bd ps=>.tup [.str "never",.lst (bd.map Pa.toD),.lst (ps.map prD)]
abbrev yO{c:Type}(L:List c)(z:c)(k:Int):c:=L.getD k.toNat z
def K2{c:Type}{L:List c}{z:c}(f:c->D)(h:0<=k/\k<(L.length:Nat)):atI (L.map f) k=aa (f (yO L z k)):=by
 have e:k.toNat<L.length:=by lia
 unfold atI ixN yO;rw[if_pos h.1,if_pos (by rw[aG];lia),aR,fS,fH e,jG,fH e];rfl
def K3{c:Type}{L:List c}{z:c}(f:c->D)(h:0<=k/\k<(L.length:Nat)):iD (.lst (L.map f)) (.int k)=aa (f (yO L z k)):=K2 f h
@[reducible]noncomputable def vrs(ps:List Pr):L2N:=ps.map (·.1)
abbrev mK(vs:L2N)(w:LN):Prop:=w∈vs\/oj w=af
abbrev jA(vs:L2N)(t:Th):Prop:=∀w∈t.2,mK vs w
structure C4(ks:L2N)(vs:L2N)(ps:List Pr):Prop where
 nd:(vs++vrs ps).Nodup
 kd:∀p∈ps,p.2∈ks
 vr:∀p∈ps,kC p.1=af
abbrev PsL(ks:L2N)(vs:L2N)(ps:List Pr):Prop:=C4 ks vs ps/\ps.length<=3
abbrev qv(ks vs:L2N):Pa->Prop
 |.is t=>jA vs t
 |.no t=>jA vs t
 |.un a b=>mK vs a/\mK vs b
 |.ct _ _ its ov=>PsL ks vs ov/\∀z∈its,jA (vs++vrs ov) z.1
abbrev qw(ks:L2N):Ro->Prop
 |.kind _ _=>False
 |.rule _ t bd ps=>PsL ks [] ps/\jA (vrs ps) t/\∀p∈bd,qv ks (vrs ps) p
 |.choose _ _ its ov bd ps=>PsL ks [] ps/\(PsL ks (vrs ps) ov/\∀z∈its,jA (vrs ps++vrs ov) z.1)/\∀p∈bd,qv ks (vrs ps) p
 |.never bd ps=>PsL ks [] ps/\∀p∈bd,qv ks (vrs ps) p
def tX1{f:MF4}(h:f ρ=aa b):mTX f ρ=aa (b,ρ):=by
 unfold mTX;rw[h];rfl
variable{f:MF1}
def kG{g:MF1}{a b:LD}(h:f ρ=aa (.lst a))(h':g ρ=aa (.lst b))(c:a.length+b.length<=16777216):eh f g ρ=aa (a++b):=by
 unfold eh
 grind
open NumText PySem.Builtin PySem.Builtin.Str
nonrec abbrev asc(w:LN):Prop:=w.all (· < 128)=af
variable{w:LN}
def K4(h:asc w):(tx w).cps.all (· < 128)=af:=by
 simpa using h
def K5(x:Nat)(c:LN):inS ⟨#[x]⟩ (tx c)=decide (x∈c):=StrLaws.found_one _ x
def C5(w:LN)(h:w.length<=1000):cI [.str (tx w)]=aa (.int (w.length:Int)):=by
 show(if (tx w).length<=16777216 then aa _ else ae)=_;rw[hV,if_pos (by lia)]
def K6(h:f ρ=aa (.str (tx w)))(c:asc w):nN f ρ=aa (w.map λx=>D.str ⟨#[x]⟩):=by
 unfold nN;rw[h,aR];show(if (tx w).cps.all (· < 128)=af then aa _ else ae)=_;rw[if_pos (K4 c)]
def K7(bs:List Bool):sP [.lst (bs.map D.bl)]=aa (.bl (bs.all id)):=by
 have:∀l:List Bool,f6 (l.map D.bl)=aa l:=by
  intro l
  induction l with
  |nil=>rfl
  |cons a l c=>rw[di];unfold f6;rw[c];rfl
 show((f6 _).map λbs=>D.bl _)=_;rw[this];rfl
def C6(w c:LN)(most:Nat)(l:w.length<=1000)(e:asc w):tZ [.str (tx w),.str (tx c),.int (most:Int)]=aa (.bl (made w c most)):=by
 apply cx;show wp _ [.im _,.im _,.im _] _;refine dn ?_ (cB rfl);refine sN ?_ ?_
 .have:=HC (f:=λ_=>aa (.int 1)) (g:=aq cI (ac (ag 0) nZ)) (h:=ag 2) (ρ:=[.im _,.im (.str (tx c)),.im (.int most)]) rfl (aZ rfl (C5 w l)) wG rfl wG;rw[this]
  congr 3 <;> exact decide_eq_decide.mpr (by lia)
 .have j:bH 1 [1] (nN (ag 0)) (aJ 0) kY (m2 nO (ag 0) (ag 1)) [.im (.str (tx w)),.im (.str (tx c)),.im (.int most)]=aa ((w.map λx=>decide (x∈c)).map D.bl):=by
   rw[map_map];exact fZ w _ (λx=>D.bl _) (K6 rfl e) (by lia) λx _=>fB rfl rfl (av rfl rfl (show aa _=_ by rw[K5]))
  refine aZ (ai (bo j) rfl) ?_;rw[K7,all_map];rfl
def C7(w:LN)(i:Int)(h:0<=i/\i<=w.length):gB (tx w) (aa i) ae=tx (w.drop i.toNat):=by
 have:=StrLaws.sliceText_from (x:=tx w) ⟨h.1,h.2⟩;show StrLaws.sliceText _ _ ae=_;rw[this]
 congr 2
 show(w.drop i.toNat).take _=_;rw[mV (by rw[ie];show _<=(w.length-i).toNat;lia)]
def K8(w:LN)(i:Int)(h:(w.length:Int)<=i):gB (tx w) (aa i) ae=tx (w.drop i.toNat):=by
 have e:vt (aa i) ae 1 (tx w).length=vt (aa ((tx w).length:Int)) ae 1 (tx w).length:=by
  have n:=hV w;have g:¬i<0:=by lia
  have j:¬(((tx w).length:Nat):Int)<0:=by lia
  have l:min i (((tx w).length:Nat):Int)=((tx w).length:Nat):=by lia
  simp[vt,g,j,l]
 have c:gB (tx w) (aa i) ae=gB (tx w) (aa w.length) ae:=by
  unfold gB;rw[e,hV]
 rw[c,C7 w _ ⟨by lia,by lia⟩,drop_of_length_le (by lia),drop_of_length_le (by lia)]
def K9(w:LN)(i:Int)(h:0<=i):gB (tx w) (aa i) ae=tx (w.drop i.toNat):=by
 by_cases hi:i<=w.length
 .exact C7 w i ⟨h,hi⟩
 .exact K8 w i (by lia)
def La(w:LN)(j:Int)(h:0<=j/\j<=w.length):gB (tx w) ae (aa j)=tx (w.take j.toNat):=by
 have:=StrLaws.sliceText_to (x:=tx w) ⟨h.1,h.2⟩;show StrLaws.sliceText _ ae _=_;rw[this];simp
def Lb(w:LN):gB (tx w) ae (aa 1)=tx (w.take 1):=by
 cases w with
 |nil=>rfl
 |cons a w=>exact La _ 1 ⟨by decide,by rw[cL];lia⟩
def Lc(w:LN)(lo hi:Option Int)(h:w.length<=1000):tz (.str (tx w)) lo hi=aa (.str (gB (tx w) lo hi)):=by
 show(if (tx w).length<=16777216 then aa _ else ae)=_;rw[hV,if_pos (by lia)]
variable{l:LS->Option (Option Int)}
def C8{h:LS->Option (Option Int)}{lo hi:Option Int}{r:Str}(c:f ρ=aa (.str (tx w)))(e:l ρ=aa lo)(g:h ρ=aa hi)(n:w.length<=1000)(j:gB (tx w) lo hi=r):nP f l h ρ=aa (.str r):=by
 unfold nP;rw[c,aR,e,aR,g,aR,Lc w lo hi n,j]
def C9{a b:LN}(h:asc b)(c:a ⊆ b):asc a:=all_eq_true.mpr λx e=>all_eq_true.mp h x (c e)
def Ld(w:LN)(c:w.length<=1000)(g:asc w):p5 [.str (tx w)]=aa (.bl (kC w)):=by
 apply cx;refine dn (sN ?_ (Bd ?_ ?_)) (cB rfl)
 .exact aZ (ai (C8 rfl rfl rfl c (Lb w)) (ai rfl (ai rfl rfl))) (C6 _ grL 1 (by rw[gr];lia) (C9 g (take_subset _ _)))
 .refine av (aZ rfl (C5 w c)) rfl ((fP _ _).trans ?_)
  congr 2
  by_cases e:w.length=1
  .rw[e];rfl
  .rw[decide_eq_false e];exact beq_eq_false_iff_ne.mpr (by lia)
 .exact aZ (ai (C8 rfl rfl rfl c (K9 w 1 (by decide))) (ai rfl (ai rfl rfl))) (C6 _ smL 7 (by rw[ie];lia) (C9 g (drop_subset _ _)))
def Da:∀x∈smL,x<128:=by decide +kernel
def Le:∀x∈grL,x<128:=by decide +kernel
def yP(h:oj w=af):w.length<=8/\∀x∈w,x∈smL:=by
 unfold oj made at h;simp only[dy,decide_eq_true_eq]at h;exact⟨h.1.1.2,λx c=>of_decide_eq_true (all_eq_true.mp h.1.2 x c)⟩
def Lf:∀x∈grL,x∉smL:=by decide +kernel
def Lg(h:oj w=af):kC w=aj:=by
 obtain⟨_,e⟩:=yP h
 have c:1<=w.length:=by
  unfold oj made at h;simp only[dy,decide_eq_true_eq]at h;exact h.1.1.1
 match w,c with
 |x::w,_=>
  rw[Bool.eq_false_iff];intro z;unfold kC made at z;simp only[dy,decide_eq_true_eq]at z;have:=of_decide_eq_true (all_eq_true.mp z.1.2 x (by simp));exact Lf x this (e x bR)
def Lh(h:oj w=af):asc w:=all_eq_true.mpr λx c=>decide_eq_true (Da x ((yP h).2 x c))
def Db(h:kC w=af):w.length<=8/\∀x∈w,x∈grL\/x∈smL:=by
 unfold kC made at h;simp only[dy,gp,decide_eq_true_eq]at h;obtain⟨j,c⟩:=h
 match w with
 | []=>exact⟨by simp,λx g=>(cp g).elim⟩
 |x::w=>
  have g:=of_decide_eq_true (all_eq_true.mp j.2 x (by simp))
  rcases c with c |c
  .have:w=[]:=length_eq_zero_iff.mp (by rw[cL]at c;lia);subst this;exact⟨by simp,λz hz=>by rw[bj.mp hz];exact .inl g⟩
  .have n:w.length<=7:=c.1.2;refine⟨by rw[cL];lia,λz hz=>?_⟩
   rcases bM.mp hz with e |e
   .rw[e];exact .inl g
   .exact .inr (of_decide_eq_true (all_eq_true.mp c.2 z e))
def Li(h:kC w=af):asc w:=all_eq_true.mpr λx c=>decide_eq_true (((Db h).2 x c).elim (Le x) (Da x))
def Lj(ws:L2N):(ws.map tx).Nodup↔ws.Nodup:=by
 rw[qQ,qQ,pairwise_map];exact⟨λh=>h.imp λh e=>h (by rw[e]),λh=>h.imp λh e=>h (mJ e)⟩
variable{ws:L2N}
def Lk(h:f ρ=aa (.lst (ws.map sT)))(c:ws.length<4000):lu f ρ=aa (.int (iK (ws.map tx):Nat)):=by
 refine Jo (xs:=ws.map tx) ?_ (by rw[aG];exact c);rw[h,map_map];rfl
def Ll(ws:L2N):decide (((iK (ws.map tx):Nat):Int)<(ws.length:Nat))=!decide ws.Nodup:=by
 have g:=Jp (ws.map tx);have c:=Jq (ws.map tx);rw[aG,Lj]at c;rw[aG]at g
 by_cases h:ws.Nodup
 .rw[decide_eq_true h,c.mpr h];simp
 .rw[decide_eq_false h];exact decide_eq_true (by have:iK (ws.map tx)≠ws.length:=λe=>h (c.mp e);lia)
def Lm(ws:L2N)(c:ws.length<4000):mB (m2 dLt (lu (ag 0)) (aq cI (ac (ag 0) nZ))) [.im (.lst (ws.map sT))]=aa (!decide ws.Nodup):=by
 refine bf (av (Lk rfl c) (aZ (ai rfl rfl) (f7 ws sT)) ?_);rw[wF,Ll]
def Dc(ws:L2N)(h:ws.Nodup)(c:ws.length<4000):m_9 [.lst (ws.map sT)]=aa .non:=by
 apply cx;refine bw (Lm ws c) (λe=>?_) λ_=>ce ⟨_,rfl,rfl⟩;rw[decide_eq_true h]at e
 nomatch e
variable{fi:MF2}
def om{c:Type}{f:c->D}{q:c->LN}{L:List c}(h:fi ρ=aa (L.map f))(g:∀x,∃r,f x=.tup [sT (q x),r])(hz:L.length<=1000):bH 2 [] fi (cU (bu (aJ 0) (bu (aJ 1) cP))) kY (ag 0) ρ=aa ((L.map q).map sT):=by
 rw[map_map];refine fZ L f (sT ∘ q) h (by lia) λz _=>?_;obtain⟨r,e⟩:=g z;rw[e];exact fB rfl rfl rfl
def Dd{c:Type}(f:c->D)(a b:List c)(h:a.length+b.length<=1000):bX (.lst (a.map f)) (.lst (b.map f))=aa (.lst ((a++b).map f)):=by
 show(if (a.map f).length+(b.map f).length<=16777216 then aa (D.lst (a.map f++b.map f)) else ae)=_;rw[if_pos (by rw[aG,aG];lia),bU]
def yQ(ks:List (LN×L2N))(c ps:List Pr)(h:C4 (ks.map (·.1)) (vrs c) ps)(u:c.length+ps.length<=100)(s:ks.length<=1000):m_2 [.lst (ps.map prD),.lst (c.map prD),.lst (ks.map kdD)]=aa .non:=by
 apply cx;show wp _ [.im (.lst (ps.map prD)),.im (.lst (c.map prD)),.im (.lst (ks.map kdD)),.no,.no,.no] _;apply ax;have r:vrs (c++ps)=vrs c++vrs ps:=bU;refine g7 (aZ (ai (bo (om (L:=c++ps) (f:=prD) (q:=(·.1)) (bz (av rfl rfl (Dd prD c ps (by lia))) rfl) (λz=>⟨_,rfl⟩) (by rw[bg];lia))) rfl) (Dc _ (by show(vrs (c++ps)).Nodup;rw[r];exact h.nd) (by rw[aG,bg];lia))) ?_;apply ax;refine b6 (bo (om (L:=ks) (f:=kdD) (q:=(·.1)) (bz rfl rfl) (λz=>⟨_,rfl⟩) (by lia))) ?_;show wp _ [.im (.lst (ps.map prD)),.im (.lst (c.map prD)),.im (.lst (ks.map kdD)),.no,.no,.im (.lst ((ks.map (·.1)).map sT))] _;refine eH ps prD (λ_ ρ=>∃g j,ρ=[.im (.lst (ps.map prD)),.im (.lst (c.map prD)),.im (.lst (ks.map kdD)),g,j,.im (.lst ((ks.map (·.1)).map sT))]) (bz rfl rfl) ⟨_,_,rfl⟩ ?_ ?_
 .rintro pre p post ρ n ⟨g,j,rfl⟩;refine⟨_,rfl,?_⟩;have o:p∈ps:=by rw[n];simp
  refine bw (bf (av rfl rfl (C3 p.2 _))) (λe=>?_) λ_=>ce ⟨_,_,rfl⟩;rw[decide_eq_true (h.kd p o)]at e
  nomatch e
 .rintro ρ ⟨g,j,rfl⟩;exact⟨_,rfl,rfl⟩
def Ln(c:L2N)(ps:List Pr)(h:∀w∈c,mK (vrs ps) w)(n:∀p∈ps,kC p.1=af)(u:ps.length<=100):ub [.lst (c.map sT),.lst (ps.map prD)]=aa .non:=by
 apply cx;show wp _ [.im (.lst (c.map sT)),.im (.lst (ps.map prD)),.no,.no] _;apply ax;refine b6 (bo (om (L:=ps) (f:=prD) (q:=(·.1)) (bz rfl rfl) (λz=>⟨_,rfl⟩) (by lia))) ?_;show wp _ [.im (.lst (c.map sT)),.im (.lst (ps.map prD)),.im (.lst ((vrs ps).map sT)),.no] _;refine eH c sT (λ_ ρ=>∃g,ρ=[.im (.lst (c.map sT)),.im (.lst (ps.map prD)),.im (.lst ((vrs ps).map sT)),g]) (bz rfl rfl) ⟨_,rfl⟩ ?_ ?_
 .rintro pre w post ρ r ⟨g,rfl⟩;refine⟨_,rfl,?_⟩;have o:=h w (by rw[r];simp)
  have s:w.length<=8/\asc w:=by
   rcases o with z |z
   .obtain⟨p,j,rfl⟩:=bZ.mp z;exact⟨(Db (n p j)).1,Li (n p j)⟩
   .exact⟨(yP z).1,Lh z⟩
  refine bw (b:=kC w && !decide (w∈vrs ps)) (sM (pj (aZ (ai rfl rfl) (Ld w (by lia) s.2)) rfl) (bf (av rfl rfl (C3 w _)))) (λe=>?_) λ_=>ce ⟨_,rfl⟩
  rcases o with z |z
  .rw[decide_eq_true z,Bool.not_true,Bool.and_false]at e;nomatch e
  .rw[Lg z]at e;nomatch e
 .rintro ρ ⟨g,rfl⟩;exact⟨_,rfl,rfl⟩
def Lo(h:f ρ=aa (.lst ds))(h':ρ[i]?=aa (.own xs))(c:xs.length+ds.length<=16777216):fA i (fw f) ρ=aa (.nx (ρ.set i (.own (xs++ds)))):=by
 unfold fA fw;rw[h]
 show((match ρ[i]? with |some (.own xs)=>_ | _=>_):Option Fl)=_
 rw[h'];exact if_pos c
def on(h:f ρ=aa (.lst ds))(h':ρ[i]?=aa (.own xs))(c:xs.length+ds.length<=16777216)(k:K (.nx (ρ.set i (.own (xs++ds))))):wp (fA i (fw f)) ρ K:=⟨_,Lo h h' c,k⟩
@[reducible]noncomputable def Us:=L2N×List Pr
@[reducible]noncomputable def usD(u:Us):D:=.tup [.lst (u.1.map sT),.lst (u.2.map prD)]
abbrev jB(its:List Ti):L2N:=its.flatMap λz=>z.1.2
abbrev paU:Pa->Us
 |.is t=>(t.2,[])
 |.no t=>(t.2,[])
 |.un a b=>([a,b],[])
 |.ct _ _ its ov=>(jB its,ov)
abbrev roU:Ro->List Us
 |.kind _ _=>[]
 |.rule _ t bd _=>bd.map paU++[(t.2,[])]
 |.choose _ _ its ov bd _=>bd.map paU++[(jB its,ov)]
 |.never bd _=>bd.map paU
abbrev roP:Ro->List Pr
 |.kind _ _=>[]
 |.rule _ _ _ ps=>ps
 |.choose _ _ _ _ _ ps=>ps
 |.never _ ps=>ps
abbrev roB:Ro->List Pa
 |.kind _ _=>[]
 |.rule _ _ bd _=>bd
 |.choose _ _ _ _ bd _=>bd
 |.never bd _=>bd
abbrev PaS:Pa->Prop
 |.is t=>t.2.length<=100
 |.no t=>t.2.length<=100
 |.un _ _=>True
 |.ct _ _ its _=>its.length<=100/\∀z∈its,z.1.2.length<=100
abbrev RoS:Ro->Prop
 |.kind _ ns=>ns.length<=100
 |.rule _ t bd _=>t.2.length<=100/\bd.length<=100/\∀p∈bd,PaS p
 |.choose _ _ its _ bd _=>(its.length<=100/\∀z∈its,z.1.2.length<=100)/\bd.length<=100/\∀p∈bd,PaS p
 |.never bd _=>bd.length<=100/\∀p∈bd,PaS p
variable{its:List Ti}
def Lp(h:∀z∈its,z.1.2.length<=100):(jB its).length<=100*its.length:=by
 unfold jB
 induction its with
 |nil=>simp
 |cons z its e=>
  rw[mW,bg,cL];have g:=h z bR;have j:=e λx c=>h x (cE _ c);lia
def De(its:List Ti)(o:its.length<=100)(h:∀z∈its,z.1.2.length<=100):uc [.lst (its.map bS)]=aa (.lst ((jB its).map sT)):=by
 apply cx;show wp _ [.im (.lst (its.map bS)),.no,.no,.no] _;apply ax;refine fc rfl ?_;show wp _ [.im (.lst (its.map bS)),.own [],.no,.no] _;apply ax;refine eH its bS (λpre ρ=>∃c g,ρ=[.im (.lst (its.map bS)),.own ((jB pre).map sT),c,g]) (bz rfl rfl) ⟨_,_,rfl⟩ ?_ ?_
 .rintro pre z post ρ j ⟨c,g,rfl⟩;refine⟨_,rfl,?_⟩;have hz:=h z (by rw[j];simp);have q:=Lp (its:=pre) λx n=>h x (by rw[j];simp[n])
  have p:pre.length<=100:=by
   have:=congrArg iX j;rw[bg]at this;lia
  refine on (ar rfl rfl rfl) rfl (by rw[aG,aG];lia) ⟨.im (kdD z.1),.im (.int z.2),?_⟩
  have e:jB (pre++[z])=jB pre++z.1.2:=by
   unfold jB;rw[f9];simp
  rw[e,bU];rfl
 .rintro ρ ⟨c,g,rfl⟩;exact⟨_,rfl,_,rfl,rfl⟩
def Lq(p:Pa)(h:PaS p):ud [p.toD]=aa (usD (paU p)):=by
 apply cx;show wp _ [.im p.toD] _
 cases p with
 |is t=>
  apply ax;refine bw (b:=aj) (bf (av (ar rfl rfl rfl) rfl rfl)) (λe=>nomatch e) λ_=>ce ?_;apply ax;refine bw (b:=aj) (bf (av (ar rfl rfl rfl) rfl rfl)) (λe=>nomatch e) λ_=>ce ?_
  exact dn (aX (ai (ar (bz (ar rfl rfl rfl) rfl) rfl rfl) (ai rfl rfl))) (cB rfl)
 |no t=>
  apply ax;refine bw (b:=aj) (bf (av (ar rfl rfl rfl) rfl rfl)) (λe=>nomatch e) λ_=>ce ?_;apply ax;refine bw (b:=aj) (bf (av (ar rfl rfl rfl) rfl rfl)) (λe=>nomatch e) λ_=>ce ?_
  exact dn (aX (ai (ar (bz (ar rfl rfl rfl) rfl) rfl rfl) (ai rfl rfl))) (cB rfl)
 |un a b=>
  apply ax;refine bw (b:=af) (bf (av (ar rfl rfl rfl) rfl rfl)) (λ_=>?_) λe=>nomatch e
  exact dn (aX (ai (bo (ai (ar rfl rfl rfl) (ai (ar rfl rfl rfl) rfl))) (ai rfl rfl))) (cB rfl)
 |ct w n its ov=>
  apply ax
  refine bw (b:=aj) (bf (av (ar rfl rfl rfl) rfl (by cases w <;> rfl))) (λe=>nomatch e) λ_=>ce ?_
  apply ax
  refine bw (b:=af) (bf (av (ar rfl rfl rfl) rfl (by cases w <;> rfl))) (λ_=>?_) λe=>nomatch e
  exact dn (aX (ai (aZ (ai (ar rfl rfl rfl) rfl) (De its h.1 h.2)) (ai (ar rfl rfl rfl) rfl))) (cB rfl)
def Dg(r:Ro)(o:∀n ns,r≠.kind n ns)(h:RoS r):ue [r.toD]=aa (.lst ((roU r).map usD)):=by
 have bd:∀(bd:List Pa) (ρ:LS) (fi:MF2),fi ρ=aa (bd.map Pa.toD)->bd.length<=100->(∀p∈bd,PaS p)->bH 1 [] fi (aJ 0) kY (aq ud (ac (ag 0) nZ)) ρ=aa ((bd.map paU).map usD):=λbd ρ fi g s j=>by
  rw[map_map];exact fZ bd Pa.toD (usD ∘ paU) g (by lia) λp q=>fB rfl rfl (aZ (ai rfl rfl) (Lq p (j p q)))
 apply cx;show wp _ [.im r.toD,.no] _
 cases r with
 |kind n ns=>exact absurd rfl (o n ns)
 |rule b t c ps=>
  apply ax;refine fc (bd c _ _ (bz (ar rfl rfl rfl) rfl) h.2.1 h.2.2) ?_;apply ax
  refine bw (b:=aj) (bf (av (ar rfl rfl rfl) rfl (by cases b <;> rfl))) (λe=>nomatch e) λ_=>?_
  refine bw (b:=af) (bf (av (ar rfl rfl rfl) rfl (by cases b <;> rfl))) (λ_=>?_) λe=>nomatch e
  refine jl (aX (ai (ar (bz (ar rfl rfl rfl) rfl) rfl rfl) (ai rfl rfl))) rfl (by rw[aG,aG];have:=h.2.1;lia) ⟨_,rfl,_,rfl,?_⟩;show D.lst (_++[_])=_;unfold roU;rw[bU]
  rfl
 |choose lo hi its ov c ps=>
  apply ax;refine fc (bd c _ _ (bz (ar rfl rfl rfl) rfl) h.2.1 h.2.2) ?_;apply ax;refine bw (b:=af) (bf (av (ar rfl rfl rfl) rfl rfl)) (λ_=>?_) λe=>nomatch e;refine jl (aX (ai (aZ (ai (ar rfl rfl rfl) rfl) (De its h.1.1 h.1.2)) (ai (ar rfl rfl rfl) rfl))) rfl (by rw[aG,aG];have:=h.2.1;lia) ⟨_,rfl,_,rfl,?_⟩;show D.lst (_++[_])=_;unfold roU;rw[bU]
  rfl
 |never c ps=>
  apply ax;refine fc (bd c _ _ (bz (ar rfl rfl rfl) rfl) h.1 h.2) ?_;apply ax;refine bw (b:=aj) (bf (av (ar rfl rfl rfl) rfl rfl)) (λe=>nomatch e) λ_=>?_;refine bw (b:=aj) (bf (av (ar rfl rfl rfl) rfl rfl)) (λe=>nomatch e) λ_=>ce ⟨_,rfl,_,rfl,rfl⟩
@[reducible]noncomputable def Kd:=LN×L2N
abbrev uK(K vs:L2N)(u:Us):Prop:=PsL K vs u.2/\∀w∈u.1,mK (vs++vrs u.2) w
variable{K vs:L2N}
def uL(h:vs.Nodup):PsL K vs []:=⟨⟨by simpa using h,λ_ z=>(cp z).elim,λ_ z=>(cp z).elim⟩,by decide⟩
def thU(c:vs.Nodup){t:Th}(h:jA vs t):uK K vs (t.2,[]):=⟨uL c,λw e=>by simpa using h w e⟩
def itU{ov:List Pr}(h:PsL K vs ov/\∀z∈its,jA (vs++vrs ov) z.1):uK K vs (jB its,ov):=by
 refine⟨h.1,λw c=>?_⟩;obtain⟨z,hz,c⟩:=dY.mp c;exact h.2 z hz w c
def yR(c:vs.Nodup):∀p:Pa,qv K vs p->uK K vs (paU p)
 |.is _,h=>thU c h
 |.no _,h=>thU c h
 |.un a b,h=>⟨uL c,λw g=>by
   rcases bM.mp g with e |e
   .rw[e];show mK (vs++[]) a;rw[dh];exact h.1
   .rw[bj.mp e];show mK (vs++[]) b;rw[dh];exact h.2⟩
 |.ct _ _ _ _,h=>itU h
def Lr:∀r:Ro,qw K r->PsL K [] (roP r)/\∀u∈roU r,uK K (vrs (roP r)) u
 |.rule _ t bd ps,h=>by
  have c:(vrs ps).Nodup:=by simpa using h.1.1.nd
  refine⟨h.1,λu j=>?_⟩
  rcases b8.mp j with e |e
  .obtain⟨p,g,rfl⟩:=bZ.mp e;exact yR c p (h.2.2 p g)
  .rw[bj.mp e];exact thU c h.2.1
 |.choose _ _ its ov bd ps,h=>by
  have c:(vrs ps).Nodup:=by simpa using h.1.1.nd
  refine⟨h.1,λu j=>?_⟩
  rcases b8.mp j with e |e
  .obtain⟨p,g,rfl⟩:=bZ.mp e;exact yR c p (h.2.2 p g)
  .rw[bj.mp e];exact itU h.2.1
 |.never bd ps,h=>by
  have c:(vrs ps).Nodup:=by simpa using h.1.1.nd
  refine⟨h.1,λu j=>?_⟩;obtain⟨p,g,rfl⟩:=bZ.mp j;exact yR c p (h.2 p g)
def ow(r:Ro)(c:∀n ns,r≠.kind n ns)(ρ:LS):mIx (am 0) (m1 bP (kI 1)) (.im r.toD::ρ)=aa (.lst ((roP r).map prD)):=by
 cases r with
 |kind n ns=>exact absurd rfl (c n ns)
 |rule b t bd ps=>exact ar rfl rfl rfl
 |choose lo hi its ov bd ps=>exact ar rfl rfl rfl
 |never bd ps=>exact ar rfl rfl rfl
def Ls(ks:List Kd)(r:Ro)(h:qw (ks.map (·.1)) r)(A:RoS r)(s:ks.length<=1000):m_4 [r.toD,.lst (ks.map kdD)]=aa .non:=by
 have c:∀n ns,r≠.kind n ns:=λn ns e=>by subst e;exact h
 obtain⟨o,x⟩:=Lr r h;have G:=o.2;apply cx;show wp _ [.im r.toD,.im (.lst (ks.map kdD)),.no,.no] _;apply ax;refine g7 (aZ (ai (ow r c _) (ai rfl (ai rfl rfl))) (yQ ks [] (roP r) o.1 (by rw[length_nil];lia) s)) ?_;refine eH (roU r) usD (λ_ ρ=>∃g j,ρ=[.im r.toD,.im (.lst (ks.map kdD)),g,j]) (bz (aZ (ai rfl rfl) (Dg r c A)) rfl) ⟨_,_,rfl⟩ ?_ ?_
 .rintro pre u post ρ y ⟨g,j,rfl⟩;refine⟨_,rfl,?_⟩;obtain⟨q,E⟩:=x u (by rw[y];simp);have H:=q.2;apply ax;refine g7 (aZ (ai rfl (ai (ow r c _) (ai rfl rfl))) (yQ ks (roP r) u.2 q.1 (by lia) s)) ?_;refine g7 (aZ (ai rfl (ai (av (ow r c _) rfl (Dd prD (roP r) u.2 (by lia))) rfl)) (Ln u.1 (roP r++u.2) (λw B=>?_) (λp z=>?_) (by rw[bg];lia))) ⟨_,_,rfl⟩
  .rw[show vrs (roP r++u.2)=vrs (roP r)++vrs u.2 from bU];exact E w B
  .exact(b8.mp z).elim (o.1.vr p) (q.1.vr p)
 .rintro ρ ⟨g,j,rfl⟩;exact⟨_,rfl,rfl⟩
def Lu(ks:List Kd)(n:LN)(c:Sl)(e:ks.length<=1000):mB (m2 dIn (ag 2) (aw (bH 2 [] (aS (ag 1)) (cU (bu (aJ 0) (bu (aJ 1) cP))) kY (ag 0)))) [c,.im (.lst (ks.map kdD)),.im (sT n)]=aa (decide (n∈ks.map (·.1))):=
 bf (av rfl (bo (om (L:=ks) (f:=kdD) (q:=(·.1)) (bz rfl rfl) (λz=>⟨_,rfl⟩) e)) (inW n _))
def Lv(ks:List Kd)(n:LN)(ns:L2N)(h:n∉ks.map (·.1))(j:ns.Nodup)(g:ns.length<4000)(c:ks.length<=1000):p6 [Ro.toD (.kind n ns),.lst (ks.map kdD)]=aa .non:=by
 apply cx;show wp _ [.im (Ro.toD (.kind n ns)),.im (.lst (ks.map kdD)),.no] _;apply ax;refine b6 (d:=sT n) (ar rfl rfl rfl) ?_;show wp _ [.im (Ro.toD (.kind n ns)),.im (.lst (ks.map kdD)),.im (sT n)] _;apply ax;refine bw (Lu ks n _ c) (λe=>absurd (of_decide_eq_true e) h) λ_=>ce ?_;exact g7 (aZ (ai (ar rfl rfl rfl) rfl) (Dc ns j g)) ⟨_,rfl,rfl⟩
abbrev jC:Ro->List Kd
 |.kind n ns=>[(n,ns)]
 | _=>[]
abbrev cz(rs:List Ro):List Kd:=rs.flatMap jC
def uM(rs:List Ro):(cz rs).length<=rs.length:=by
 unfold cz
 induction rs with
 |nil=>simp
 |cons r rs c=>
  rw[mW,bg,cL]
  have:(jC r).length<=1:=by cases r <;> simp[jC]
  lia
abbrev qx(ks:List Kd):Ro->Prop
 |.kind n ns=>n∉ks.map (·.1)/\ns.Nodup
 |r=>qw (ks.map (·.1)) r
def yS(r:Ro)(a b:Sl):mB (m2 dEq (mIx (am 2) (kI 0)) (kSt "kind")) [a,b,.im r.toD]=aa (match r with |.kind _ _=>af | _=>aj):=by
 cases r with
 |kind n ns=>exact bf (av (ar rfl rfl rfl) rfl rfl)
 |rule b t bd ps=>exact bf (av (ar rfl rfl rfl) rfl (by cases b <;> rfl))
 |choose lo hi its ov bd ps=>exact bf (av (ar rfl rfl rfl) rfl rfl)
 |never bd ps=>exact bf (av (ar rfl rfl rfl) rfl rfl)
variable{m:LD->OD}
def yT{f:MF2}(h:f ρ=aa ds)(e:m ds=aa .non):fQ m f ρ=aa .non:=by
 unfold fQ;rw[h,aR,e];rfl
abbrev iH(rs:List Ro):Prop:=∀pre r post,rs=pre++r::post->qx (cz pre) r/\RoS r
def Dh(pre:List Ro)(r:Ro):cz (pre++[r])=cz pre++jC r:=by
 unfold cz;rw[f9,kO]
def Di(a:Sl)(ks:List Kd)(r:Ro)(h:qx ks r)(j:RoS r)(c:ks.length<=1000):wp (bv (mB (m2 dEq (mIx (am 2) (kI 0)) (kSt "kind"))) (aA (cJ (fQ p6 (ac (ag 2) (ac (eO 1) nZ))))
  (fN 1 (aO (ac (mIx (am 2) (kI 1)) (ac (aw (aS (mIx (am 2) (kI 2)))) nZ))))) (cJ (fQ m_4 (ac (ag 2) (ac (eO 1) nZ))))) [a,.own (ks.map kdD),.im r.toD] (λo=>o=.nx [a,.own ((ks++jC r).map kdD),.im r.toD]):=by
 refine bw (yS r _ _) (λe=>?_) λe=>?_
 .cases r with
  |kind n ns=>
   apply ax;refine g7 (yT (ai rfl (ai rfl rfl)) (Lv ks n ns h.1 h.2 (by have:ns.length<=100:=j;lia) c)) ?_;refine jl (d:=kdD (n,ns)) (aX (ai (ar rfl rfl rfl) (ai (bo (bz (ar rfl rfl rfl) rfl)) rfl))) rfl (by rw[aG];lia) ?_;show Fl.nx [a,.own (ks.map kdD++[kdD (n,ns)]),_]=Fl.nx [a,.own ((ks++[(n,ns)]).map kdD),_];rw[bU]
   rfl
  |rule b t bd ps=>nomatch e
  |choose lo hi its ov bd ps=>nomatch e
  |never bd ps=>nomatch e
 .have g:jC r=[]/\qw (ks.map (·.1)) r:=by
   cases r with
   |kind n ns=>nomatch e
   |rule b t bd ps=>exact⟨rfl,h⟩
   |choose lo hi its ov bd ps=>exact⟨rfl,h⟩
   |never bd ps=>exact⟨rfl,h⟩
  refine g7 (yT (ai rfl (ai rfl rfl)) (Ls ks r g.2 j c)) ?_;rw[g.1,dh]
def yU(rs:List Ro)(h:iH rs)(p:rs.length<=1000):m_3 [.lst (rs.map Ro.toD)]=aa (.lst ((cz rs).map kdD)):=by
 apply cx;unfold b_3;show wp _ [.im (.lst (rs.map Ro.toD)),.no,.no] _;apply ax;refine fc (d:=[]) rfl ?_;show wp _ [.im (.lst (rs.map Ro.toD)),.own [],.no] _;apply ax;refine eH rs Ro.toD (λpre ρ=>∃c,ρ=[.im (.lst (rs.map Ro.toD)),.own ((cz pre).map kdD),c]) (bz rfl rfl) ⟨_,rfl⟩ ?_ ?_
 .rintro pre r post ρ g ⟨c,rfl⟩;refine⟨_,rfl,?_⟩;obtain⟨j,n⟩:=h pre r post g;have q:pre.length<=rs.length:=by rw[g,bg];lia
  have:=uM pre;obtain⟨o,e,rfl⟩:=Di (.im (.lst (rs.map Ro.toD))) (cz pre) r j n (by lia);exact⟨_,e,_,by rw[Dh]⟩
 .rintro ρ ⟨c,rfl⟩;exact pw rfl (lh rfl)
variable{r1 r2:LS->Bool}
def rS2(h:F ρ=aa (.nx ρ1))(c:r2 ρ1=af):dg r1 F r2 ρ=af:=by
 unfold dg;rw[h,gp];exact .inr c
def rS1(h:r1 ρ=af):dg r1 F r2 ρ=af:=by
 unfold dg;rw[h,Bool.true_or]
def rC1{r:LD->Bool}{c:Xa}(h:c ρ=aa (ds,ρ1))(e:r ds=af):c8 rNo r c ρ=af:=by
 unfold c8;rw[h,gp];exact .inr e
def rE2{f:Xe}(h:f ρ=aa (d,ρ1))(c:r2 ρ1=af):j8 r1 f r2 ρ=af:=by
 unfold j8;rw[h,gp];exact .inr c
nonrec abbrev Rz{c:Type}(b:Bool)(o:Option c):Prop:=b=af/\o=ae
def gm(h:F ρ=aa (.nx ρ1))(c:Rz (r2 ρ1) (F' ρ1)):Rz (dg r1 F r2 ρ) (aA F F' ρ):=⟨rS2 h c.1,by unfold aA;rw[h];exact c.2⟩
def yV(h:Rz (r1 ρ) (F ρ)):Rz (dg r1 F r2 ρ) (aA F F' ρ):=⟨rS1 h.1,by unfold aA;rw[h.2];rfl⟩
def zH(h:Rz b (F ρ)):Rz b (aA F F' ρ):=⟨h.1,by unfold aA;rw[h.2];rfl⟩
variable{fa:MF2}{fx:Xa}{rd:LD->Bool}
def zC(e:fx ρ=aa (ds,ρ1))(c:fa ρ'=aa ds)(h:Rz (rd ds) (m ds)):Rz (c8 rNo rd fx ρ) (aq m fa ρ'):=⟨rC1 e h.1,by unfold aq;rw[c];exact h.2⟩
def Dj(e:fx ρ=aa (ds,ρ1))(c:fa ρ'=aa ds)(h:Rz (rd ds) (m ds)):Rz (c8 rNo rd fx ρ) (fQ m fa ρ'):=⟨rC1 e h.1,by unfold fQ;rw[c,aR,h.2];rfl⟩
def zD(h:Rz b (f ρ)):Rz b (cJ f ρ):=⟨h.1,by unfold cJ;rw[h.2];rfl⟩
def wN(h:Rz b (f ρ)):Rz b (bD i f ρ):=⟨h.1,by unfold bD;rw[h.2];rfl⟩
def Lw(h:Rz b (f ρ)):Rz b (fA i (fw f) ρ):=⟨h.1,by unfold fA fw;rw[h.2];rfl⟩
variable{r:LS->Bool}
def Lx(h:ρ[i]?=aa (.own xs))(q:Rz (r (ρ.set i (.im (.lst xs)))) (F (ρ.set i (.im (.lst xs))))):Rz (jx i r ρ) (fu i F ρ):=by
 unfold jx fu sK;rw[h];exact q
def Ly{ks:List Key}(h:ρ[i]?=aa (.ownd ks xs))(q:Rz (r (ρ.set i (.im (.kd ks xs)))) (F (ρ.set i (.im (.kd ks xs))))):Rz (pX i r ρ) (g9 i F ρ):=by
 unfold pX g9;rw[h];exact q
variable{o:Option Fl}
def Dk(h:ρ[i]?=aa (.own xs))(q:Rz (r (ρ.set i (.im (.lst xs)))) o):Rz (jx i r ρ) o:=by
 unfold jx;rw[h];exact q
def Bp(h:ρ[i]?=aa (.own xs))(q:Rz (r ρ) o):Rz (pP i r ρ) o:=by
 unfold pP;rw[h];exact q
def zR{k:Nat}(h:Rz b (F (dL k ds))):Rz b (cb k F ds):=⟨h.1,by unfold cb;rw[h.2];rfl⟩
variable{t:MF4}
def zI(e:t ρ=aa af)(h:Rz b (F ρ)):Rz b (bv t F F' ρ):=⟨h.1,by unfold bv;rw[e];exact h.2⟩
def zJ(e:t ρ=aa aj)(h:Rz b (F' ρ)):Rz b (bv t F F' ρ):=⟨h.1,by unfold bv;rw[e];exact h.2⟩
def qy{j:Type}{f:j->D}{g:D->LS->Option LS}{F:MF3}{r:LS->Bool}{I:List j->LS->Prop}:∀(q p:List j) (ρ:LS),I p ρ->(∀e x s,p++q=e++x::s->∀ρ,I e ρ->∃ρ1,g (f x) ρ=aa ρ1/\(Rz (r ρ1) (F ρ1)\/∃d3,F ρ1=aa (.nx d3)/\I (e++[x]) d3))->(∀ρ,¬I (p++q) ρ)->Rz (kf g F r (q.map f) ρ) (iy g F (q.map f) ρ)
 | [],p,ρ,h,_,bd=>(bd ρ (by rw[dh];exact h)).elim
 |x::q,p,ρ,h,st,bd=>by
  obtain⟨ρ1,n,c⟩:=st p x q rfl ρ h;rw[di,kf,iy,n];show Rz (r ρ1 || _) ((F ρ1).bind _)
  rcases c with c |⟨d3,e2,e3⟩
  .rw[c.1,c.2];exact⟨rfl,rfl⟩
  .rw[e2];have z:=qy q (p++[x]) d3 e3 (by simpa using st) (by simpa using bd);exact⟨by rw[gp];exact .inr z.1,z.2⟩
variable{g:D->LS->Option LS}
def zF(e:fi ρ=aa ds)(h:Rz (kf g F r ds ρ) (iy g F ds ρ)):Rz (iJ fi g F r ρ) (cw fi g F ρ):=by
 unfold iJ cw;rw[e];exact h
variable{ft:MF4}{fe:MF1}
def rT1{re:LS->Bool}(h:g d ρ=aa ρ1)(e:ft ρ1=aa af)(c:re ρ1=af):kc g ft fe re ρ (d::ds)=af:=by
 unfold kc;rw[h];simp[e,c]
abbrev hZ{c:Type}(F:List (List c))(ns:List c):List (List c):=F.flatMap λw=>ns.map λn=>w++[n]
abbrev gn{c:Type}(S:List (List c)):List (List c):=S.foldl hZ [[]]
def yW{e:Type}(ns:List e):∀F:List (List e),(hZ F ns).length=F.length*ns.length
 | []=>by simp[hZ]
 |w::F=>by
  have c:=yW ns F;unfold hZ at c ⊢;rw[mW,bg,c,aG,cL,qY,Nat.add_comm]
def yX{c:Type}(S:List (List c))(ns:List c):gn (S++[ns])=hZ (gn S) ns:=by unfold gn;rw[lK];rfl
def yY{c:Type}(f:c->LN)(g:c->D)(w:LN):∀L:List c,gI (L.map λx=>(i7 (tx (f x)):Key)) (L.map g) (.inr (tx w))=(L.find? λx=>decide (f x=w)).map g
 | []=>rfl
 |x::L=>by
  have h:=yY f g w L;unfold gI at h ⊢;rw[di,di,oH,find?_cons,find?_cons]
  by_cases e:f x=w
  .rw[decide_eq_true (show(i7 (tx (f x)):Key)=.inr (tx w) by rw[e]),decide_eq_true e];rfl
  .rw[decide_eq_false (λz=>e (mJ (rG z))),decide_eq_false e];exact h
@[reducible]noncomputable def As:=List (LN×LN)
abbrev aK(n:As):List Key:=n.map λp=>.inr (tx p.1)
abbrev aV(n:As):LD:=n.map λp=>sT p.2
abbrev eV(d:D)(n:As):Prop:=jr d=aa (aK n,aV n)
abbrev nmF(n:As)(w:LN):LN:=((n.find? λp=>decide (p.1=w)).map (·.2)).getD w
variable{n:As}
def Lz(h:eV d n)(w:LN):xm d (sT w) (sT w)=aa (sT (nmF n w)):=by
 unfold xm;rw[h,aR];show aa ((gI (aK n) (aV n) (.inr (tx w))).getD (sT w))=_;unfold aK aV nmF;rw[yY (λp:LN×LN=>p.1) (λp=>sT p.2) w n]
 cases n.find? λp=>decide (p.1=w) <;> rfl
def LA{g h:MF1}(c:f ρ=aa d)(e:g ρ=aa (sT w))(j:h ρ=aa (sT w))(p:eV d n):pV f g h ρ=aa (sT (nmF n w)):=by
 unfold pV;rw[c,aR,e,aR,j,aR];exact Lz p w
abbrev jD(ks:List Kd):List Key:=ks.map λk=>.inr (tx k.1)
abbrev kH(ks:List Kd):LD:=ks.map λk=>.lst (k.2.map sT)
abbrev kOf(ks:List Kd)(k:LN):L2N:=((ks.find? λq=>decide (q.1=k)).map (·.2)).getD []
abbrev Dl(d:D)(ks:List Kd):Prop:=jr d=aa (jD ks,kH ks)
variable{ks:List Kd}
def LB{k:LN}(h:k∈ks.map (·.1)):∃q,ks.find? (λq=>decide (q.1=k))=aa q/\kOf ks k=q.2/\q∈ks:=by
 obtain⟨q,j,e⟩:=bZ.mp h
 cases c:ks.find? (λq=>decide (q.1=k))with
 |none=>exact absurd (find?_eq_none.mp c q j) (by simpa using e)
 |some x=>exact⟨x,rfl,by unfold kOf;rw[c];rfl,mem_of_find?_eq_some c⟩
def LC(h:Dl d ks){k:LN}(j:k∈ks.map (·.1)):iB d (sT k)=aa (.lst ((kOf ks k).map sT)):=by
 obtain⟨q,c,e,_⟩:=LB j;unfold iB;rw[h,aR];show gI (jD ks) (kH ks) (.inr (tx k))=_;unfold jD kH;rw[yY (λq:Kd=>q.1) (λq=>D.lst (q.2.map sT)) k ks,c,e];rfl
def Dm:∀ks:List Kd,j7 (ks.map kdD)=aa (jD ks,kH ks)
 | []=>rfl
 |k::ks=>by
  rw[di];show((jk (.str (tx k.1))).bind λy=>(j7 (ks.map kdD)).map λr=>(y::r.1,D.lst (k.2.map sT)::r.2))=_;rw[Dm ks];rfl
def yZ{c:Type}(f:c->LN)(L:List c)(h:(L.map f).Nodup):(L.map λx=>(i7 (tx (f x)):Key)).Nodup:=by
 rw[qQ,pairwise_map]at h ⊢;exact h.imp λh e=>h (mJ (rG e))
abbrev psN(ks:List Kd)(ps:List Pr):List L2N:=ps.map λp=>kOf ks p.2
structure PsK(ks:List Kd)(ps:List Pr):Prop where
 k:∀p∈ps,p.2∈ks.map (·.1)
 l:∀p∈ps,0<(kOf ks p.2).length/\(kOf ks p.2).length<=12
 n:ps.length<=3
def Dn:∀(S:List L2N),(∀ns∈S,ns.length<=12)->(gn S.reverse).length<=12 ^ S.length
 | [],_=>bL _
 |ns::S,h=>by
  rw[reverse_cons,yX,yW,cL,Nat.pow_succ];exact oK (Dn S λm c=>h m (cE _ c)) (h ns bR)
def Do:∀(S:List L2N),∀w∈gn S.reverse,w.length=S.length
 | [],w,hw=>by cases bj.mp hw;rfl
 |ns::S,w,hw=>by
  rw[reverse_cons,yX]at hw;obtain⟨v,e,c⟩:=dY.mp hw;obtain⟨n,_,rfl⟩:=bZ.mp c;rw[bg,Do S v e];rfl
variable{ps:List Pr}
def y0(h:PsK ks ps):(gn (psN ks ps)).length<=1728/\∀w∈gn (psN ks ps),w.length=ps.length:=by
 have c:=Dn (psN ks ps).reverse λm q=>by
  obtain⟨p,s,rfl⟩:=bZ.mp (mem_reverse.mp q);exact(h.l p s).2
 have e:=Do (psN ks ps).reverse;rw[reverse_reverse]at c e;have j:(psN ks ps).reverse.length=ps.length:=by unfold psN;rw[length_reverse,aG]
 rw[j]at c;refine⟨c9 c (c9 (Nat.pow_le_pow_right (by decide) h.n) (by decide)),λw u=>(e w u).trans j⟩
def Dp{a b:List Pr}(h:PsK ks (a++b)):PsK ks a:=⟨λp c=>h.k p (b8.mpr (.inl c)),λp c=>h.l p (b8.mpr (.inl c)),by have:=h.n;rw[bg]at this;lia⟩
def LF(nd:(ks.map (·.1)).Nodup)(L:ks.length<=1000)(h:PsK ks ps):yt [.lst (ps.map prD),.lst (ks.map kdD)]=aa (.lst ((gn (psN ks ps)).map λw=>D.lst (w.map sT))):=by
 apply cx;unfold uq;show wp _ [.im (.lst (ps.map prD)),.im (.lst (ks.map kdD)),.no,.no,.no,.no,.no,.no] _;apply ax
 have M:tE 2 (ag 1) [.im (.lst (ps.map prD)),.im (.lst (ks.map kdD)),.no,.no,.no,.no,.no,.no]=aa (.nx [.im (.lst (ps.map prD)),.im (.lst (ks.map kdD)),.ownd (jD ks) (kH ks),.no,.no,.no,.no,.no]):=by
  show((j7 (ks.map kdD)).bind λr=>if r.1.Nodup/\r.1.length<=1000 then aa (Fl.nx [.im (.lst (ps.map prD)),.im (.lst (ks.map kdD)),.ownd r.1 r.2,.no,.no,.no,.no,.no]) else ae)=_;rw[Dm,aR,if_pos ⟨yZ (λk:Kd=>k.1) ks nd,by unfold jD;rw[aG];exact L⟩]
 refine nG M ?_;apply ax;refine Bt (ks:=jD ks) (xs:=kH ks) rfl ?_;refine b6 (d:=.lst ((gn (psN ks [])).map λw=>D.lst (w.map sT))) rfl ?_;show wp _ [.im (.lst (ps.map prD)),.im (.lst (ks.map kdD)),.im (.kd (jD ks) (kH ks)),.im (.lst ((gn (psN ks [])).map λw=>D.lst (w.map sT))),.no,.no,.no,.no] _;have e:Dl (.kd (jD ks) (kH ks)) ks:=rfl;generalize D.kd (jD ks) (kH ks)=N at e;apply ax;refine eH ps prD (λpre ρ=>∃x y u c,ρ=[.im (.lst (ps.map prD)),.im (.lst (ks.map kdD)),.im N,.im (.lst ((gn (psN ks pre)).map λw=>D.lst (w.map sT))),x,y,u,c]) (bz rfl rfl) ⟨_,_,_,_,rfl⟩ ?_ ?_
 .rintro pre p post ρ z ⟨x,y,u,c,rfl⟩;have B:p∈ps:=by rw[z];simp
  obtain⟨f1,f2⟩:=y0 (Dp (z▸h));have s:pre.length<=3:=(Dp (z▸h)).n;have E:=LC e (h.k p B);have q:=(h.l p B).2;have H:psN ks (pre++[p])=psN ks pre++[kOf ks p.2]:=by unfold psN;rw[bU];rfl
  rw[H,yX];generalize gn (psN ks pre)=F at f1 f2;generalize kOf ks p.2=ns at E q;refine⟨_,rfl,?_⟩;show wp _ [.im (.lst (ps.map prD)),.im (.lst (ks.map kdD)),.im N,.im (.lst (F.map λw=>D.lst (w.map sT))),.im (sT p.1),.im (sT p.2),u,c] _;apply ax;refine fc (d:=[]) rfl ?_;show wp _ [.im (.lst (ps.map prD)),.im (.lst (ks.map kdD)),.im N,.im (.lst (F.map λw=>D.lst (w.map sT))),.im (sT p.1),.im (sT p.2),.own [],c] _;apply ax;refine eH F (λw=>D.lst (w.map sT)) (λpre ρ=>∃c,ρ=[.im (.lst (ps.map prD)),.im (.lst (ks.map kdD)),.im N,.im (.lst (F.map λw=>D.lst (w.map sT))),.im (sT p.1),.im (sT p.2),.own ((hZ pre ns).map λw=>D.lst (w.map sT)),c]) (bz rfl rfl) ⟨_,rfl⟩ ?_ ?_
  .rintro G w A ρ j ⟨c,rfl⟩;refine⟨_,rfl,?_⟩;have Q:w.length<=3:=by rw[f2 w (by rw[j];simp)];exact s
   have I:G.length<=1728:=by have:=congrArg iX j;rw[bg]at this;lia
   have J:bH 1 [7] (aS (m2 iB (ag 2) (ag 5))) (aJ 0) kY (aw (eh (ag 1) (aw (ac (ag 0) nZ)))) [.im (.lst (ps.map prD)),.im (.lst (ks.map kdD)),.im N,.im (.lst (F.map λw=>D.lst (w.map sT))),.im (sT p.1),.im (sT p.2),.own ((hZ G ns).map λw=>D.lst (w.map sT)),.im (.lst (w.map sT))]=aa ((ns.map λn=>w++[n]).map λw=>D.lst (w.map sT)):=by
    rw[map_map];refine fZ ns sT _ (bz (av rfl rfl E) rfl) (by lia) λn _=>fB rfl rfl ?_;show(eh _ _ _).map D.lst=aa (D.lst ((w++[n]).map sT));unfold eh;show((if (w.map sT).length+1<=16777216 then aa (w.map sT++[sT n]) else ae):OLD).map D.lst=_;rw[if_pos (by rw[aG];lia),bU];rfl
   refine on (bo J) rfl (by rw[aG,yW,aG,aG];have:=oK I q;lia) ⟨.im (.lst (w.map sT)),?_⟩;have:hZ (G++[w]) ns=hZ G ns++ns.map λn=>w++[n]:=by unfold hZ;rw[f9];simp
   rw[this,bU];rfl
  .rintro ρ ⟨c,rfl⟩;refine g6 (ρ':=[.im (.lst (ps.map prD)),.im (.lst (ks.map kdD)),.im N,.im (.lst (F.map λw=>D.lst (w.map sT))),.im (sT p.1),.im (sT p.2),.im (.lst ((hZ F ns).map λw=>D.lst (w.map sT))),c]) rfl ?_;exact b6 (d:=.lst ((hZ F ns).map λw=>D.lst (w.map sT))) rfl ⟨_,_,_,_,rfl⟩
 .rintro ρ ⟨x,y,u,c,rfl⟩;exact mm rfl (cB rfl)
abbrev nbw(ks:List Kd)(ps:List Pr)(n:As):List As:=(gn (psN ks ps)).map λw=>n++(vrs ps).zip w
abbrev asD(n:As):D:=.dic (aK n) (aV n)
def LG(vs w:L2N)(e:vs.length=w.length)(j:vs.Nodup)(h:vs.length<=100):xj [.lst (vs.map sT),.lst (w.map sT)]=aa (asD (vs.zip w)):=by
 have c:∀vs:L2N,nU (vs.map sT)=aa (vs.map λv=>(i7 (tx v):Key)):=λvs=>by
  induction vs with
  |nil=>rfl
  |cons v vs p=>
   rw[di];show((jk (.str (tx v))).bind λk=>(nU (vs.map sT)).map λr=>k::r)=_;rw[p];rfl
 show(nU (vs.map sT)).bind _=_;rw[c,aR,if_pos ⟨yZ (λv=>v) vs (by simpa using j),by rw[aG,aG];exact e,by rw[aG];lia⟩];unfold asD aK aV
 congr 2
 .have:=map_map (g:=λv=>(i7 (tx v):Key)) (f:=Prod.fst) (l:=vs.zip w);rw[oJ (by lia)]at this;exact this
 .have:=map_map (g:=sT) (f:=Prod.snd) (l:=vs.zip w);rw[map_snd_zip (by lia)]at this;exact this
def Dr(n m:As):aK (n++m)=aK n++aK m:=bU
def LH(n m:As):aV (n++m)=aV n++aV m:=bU
def y3(nd:(ks.map (·.1)).Nodup)(y:ks.length<=1000)(h:PsK ks ps)(hd:eV d n)(u:(n.map (·.1)++vrs ps).Nodup)(E:n.length<=100):ko [.lst (ps.map prD),.lst (ks.map kdD),d]=aa (.lst ((nbw ks ps n).map asD)):=by
 apply cx;unfold ur;show wp _ [.im (.lst (ps.map prD)),.im (.lst (ks.map kdD)),.im d,.no,.no,.no,.no] _;have B:=h.n;apply ax;refine b6 (bo (om (L:=ps) (f:=prD) (q:=(·.1)) (bz rfl rfl) (λz=>⟨_,rfl⟩) (by lia))) ?_;apply ax;refine fc (d:=[]) rfl ?_;show wp _ [.im (.lst (ps.map prD)),.im (.lst (ks.map kdD)),.im d,.im (.lst ((vrs ps).map sT)),.own [],.no,.no] _;obtain⟨f1,f2⟩:=y0 h;apply ax;refine eH (gn (psN ks ps)) (λw=>D.lst (w.map sT)) (λpre ρ=>∃e c,ρ=[.im (.lst (ps.map prD)),.im (.lst (ks.map kdD)),.im d,.im (.lst ((vrs ps).map sT)),.own ((pre.map λw=>n++(vrs ps).zip w).map asD),e,c]) (bz (aZ (ai rfl (ai rfl rfl)) (LF nd y h)) rfl) ⟨_,_,rfl⟩ ?_ ?_
 .rintro pre w post ρ s ⟨e,c,rfl⟩;refine⟨_,rfl,?_⟩;have A:(vrs ps).length=w.length:=by rw[aG,f2 w (by rw[s];simp)]
  have x:pre.length<=1728:=by have:=congrArg iX s;rw[bg]at this;lia
  show wp _ [.im (.lst (ps.map prD)),.im (.lst (ks.map kdD)),.im d,.im (.lst ((vrs ps).map sT)),.own ((pre.map λw=>n++(vrs ps).zip w).map asD),.im (.lst (w.map sT)),c] _;apply ax;refine JB rfl hd ?_;show wp _ [.im (.lst (ps.map prD)),.im (.lst (ks.map kdD)),.im d,.im (.lst ((vrs ps).map sT)),.own ((pre.map λw=>n++(vrs ps).zip w).map asD),.im (.lst (w.map sT)),.ownd (aK n) (aV n)] _;apply ax;have j:((vrs ps).zip w).map (·.1)=vrs ps:=oJ (by lia)
  refine JD (ks:=aK n) (xs:=aV n) (r:=(aK ((vrs ps).zip w),aV ((vrs ps).zip w))) rfl (by
   unfold tO;rw[ai rfl (ai rfl rfl),aR];exact LG (vrs ps) w A (kP.mp u).2.1 (by rw[aG];lia)) rfl ?_ ?_ ?_
  .rw[<- Dr];exact yZ (λp:LN×LN=>p.1) _ (by rw[bU,j];exact u)
  .unfold aK;rw[aG,aG,iY,aG];lia
  dsimp only;rw[<- Dr,<- LH];refine g6 (ρ':=[.im (.lst (ps.map prD)),.im (.lst (ks.map kdD)),.im d,.im (.lst ((vrs ps).map sT)),.own ((pre.map λw=>n++(vrs ps).zip w).map asD),.im (.lst (w.map sT)),.im (asD (n++(vrs ps).zip w))]) rfl ?_;refine jl (d:=asD (n++(vrs ps).zip w)) rfl rfl (by rw[aG,aG];lia) ⟨.im (.lst (w.map sT)),.im (asD (n++(vrs ps).zip w)),?_⟩;rw[bU,bU];rfl
 .rintro ρ ⟨e,c,rfl⟩;exact pw rfl (lh rfl)
abbrev jn(a:LN):L2N->LN
 | []=>[]
 | [x]=>x
 |x::y::r=>x++a++jn a (y::r)
def LI(a:LN):∀ws:L2N,Txt.join (tx a) (ws.map tx)=tx (jn a ws):=by
 intro ws;show df.Str.glued (tx a) (ws.map tx)=_;rw[StrLaws.glued_eq_join]
 induction ws with
 |nil=>rfl
 |cons x r c=>
  cases r with
  |nil=>rfl
  |cons y r=>
   show tx x++tx a++Str.join (tx a) ((y::r).map tx)=_;rw[c,uJ,uJ];rfl
abbrev mL(ws:L2N):Nat:=(ws.map iX).sum
def y4(a:LN):∀ws,(jn a ws).length<=mL ws+ws.length*a.length
 | []=>gs _
 | [x]=>by show x.length<=_;unfold mL;simp
 |x::y::r=>by
  have c:=y4 a (y::r);show(x++a++jn a (y::r)).length<=_;rw[bg,bg];unfold mL at c ⊢;rw[di,sum_cons,cL (a:=x),qY];lia
def y6(b:Nat):∀ws:L2N,(∀w∈ws,w.length<=b)->mL ws<=ws.length*b
 | [],_=>gs _
 |w::ws,h=>by
  have e:=y6 b ws λx c=>h x (cE _ c);have j:=h w bR;unfold mL at e ⊢;rw[di,sum_cons,cL,qY];lia
def LJ(a:LN)(ws:L2N)(h:a.length<=16)(j:mL ws+ws.length<=100000):tI (.str (tx a)) (.lst (ws.map sT))=aa (.str (tx (jn a ws))):=by
 have e:ws.map sT=(ws.map tx).map D.str:=by rw[map_map];rfl
 show(gL (ws.map sT)).bind (λc=>if PySem.JoinOk (tx a) c=af then aa (D.str (vI (tx a) c)) else ae)=_;rw[e,BE,aR,if_pos,LI];refine joinOk_of_weight ?_ (by rw[hV];exact h);rw[map_map,aG];have:(λx=>x.length) ∘ tx=iX:=funext λw=>hV w;rw[this];unfold mL at j;lia
def y7(a b:LN)(h:a.length+b.length<=100000):bX (.str (tx a)) (.str (tx b))=aa (.str (tx (a++b))):=by
 show(if (tx a).length+(tx b).length<=16777216 then aa (D.str (tx a++tx b)) else ae)=_;rw[hV,hV,if_pos (by lia),uJ]
def Ds:∀(ws:L2N) (o:LN),iF (tx o) (ws.map tx)=tx (ws.foldl (·++·) o)
 | [],_=>rfl
 |w::ws,o=>by
  show iF (tx o++tx w) (ws.map tx)=_;rw[uJ,Ds ws (o++w)];rfl
def LK{f:LS->Option LSt}{r:LN}(h:f ρ=aa (ws.map tx))(c:ws.foldl (·++·) []=r)(j:r.length<=100000):mFs f ρ=aa (.str (tx r)):=by
 have e:iF Str.empty (ws.map tx)=tx r:=by rw[<- c];exact Ds ws []
 unfold mFs;rw[h,aR,e,hV,if_pos (by lia)]
variable{zs:LSt}
def Dt{g:LS->Option LSt}(h:f ρ=aa (.str (tx w)))(e:w.length<=100000)(c:g ρ=aa zs):mFv f g ρ=aa (tx w::zs):=by
 unfold mFv;rw[h,aR];show(if (tx w).length<=16777216 then aa (tx w) else ae).bind _=_;rw[hV,if_pos (by lia),aR,c];rfl
def Du{x:Str}{g:LS->Option LSt}(h:x=tx w)(c:g ρ=aa zs):mFc x g ρ=aa (tx w::zs):=by
 unfold mFc;rw[c,h];rfl
def LL{a:LN}:∀{ws:L2N},ws≠[]->(∀w∈ws,0<w.length)->0<(jn a ws).length
 | [],h,_=>absurd rfl h
 | [x],_,h=>h x bR
 |x::y::r,_,h=>by
  show 0<(x++a++jn a (y::r)).length;have:=h x bR;rw[bg,bg];lia
def LM(w:LN)(h:w.length<=100000):su (.str (tx w))=aa (decide (0<w.length)):=by
 show(if (tx w).length<=16777216 then aa (((tx w).length:Int) != 0) else ae)=_;rw[hV,if_pos (by lia)]
 congr 1
 by_cases e:w.length=0
 .rw[e];rfl
 .rw[decide_eq_true (show 0<w.length by lia)];simp only[bne_iff_ne,ne_eq];lia
def cmT:(",":Str)=tx [44]:=by decide +kernel
def opT:("(":Str)=tx [40]:=by decide +kernel
def clT:(")":Str)=tx [41]:=by decide +kernel
abbrev thT(t:Th):LN:=if t.2=[] then t.1 else t.1++[40]++jn [44] t.2++[41]
abbrev tT(n:As)(t:Th):LN:=thT (t.1,t.2.map (nmF n))
structure y8(t:Th):Prop where
 a:t.1.length<=8
 l:t.2.length<=3
 w:∀w∈t.2,0<w.length/\w.length<=8
abbrev lC(n:As)(t:Th):Prop:=y8 (t.1,t.2.map (nmF n))
def LO{t:Th}(h:y8 t):(thT t).length<=50:=by
 have j:=y4 [44] t.2;have s:=y6 8 t.2 λw c=>(h.w w c).2;have a:=h.a;have l:=h.l;unfold thT;split
 .omega
 .simp only[bg,fj]at *;lia
def LP(t:Th)(h:y8 t):yv [kdD t]=aa (sT (thT t)):=by
 have j:=y4 [44] t.2;have s:=y6 8 t.2 λw e=>(h.w w e).2;have q:=h.a;have u:=h.l;rw[fj]at j;apply cx;unfold uu;show wp _ [.im (kdD t),.no,.no] _;apply ax;refine b6 (d:=sT t.1) (ar rfl rfl rfl) ?_;show wp _ [.im (kdD t),.im (sT t.1),.no] _;apply ax;refine b6 (d:=sT (jn [44] t.2)) (av (x:=.str (tx [44])) (by rw[cmT]) (ar rfl rfl rfl) (LJ [44] t.2 (by decide) (by lia))) ?_;show wp _ [.im (kdD t),.im (sT t.1),.im (sT (jn [44] t.2))] _;have tt:ge (ag 2) [.im (kdD t),.im (sT t.1),.im (sT (jn [44] t.2))]=aa (decide (0<(jn [44] t.2).length)):=pj rfl (LM _ (by lia));refine dn (d:=sT (thT t)) ?_ (cB rfl);unfold vIf;rw[tt,aR]
 by_cases c:t.2=[]
 .have p:jn [44] t.2=[]:=by rw[c];rfl
  unfold thT;rw[if_pos c,if_neg (by rw[p];decide)];rfl
 .rw[if_pos (decide_eq_true (LL c λw e=>(h.w w e).1))];refine LK (ws:=[t.1,[40],jn [44] t.2,[41]]) (Dt rfl (by lia) (Du opT (Dt rfl (by lia) (Du clT rfl)))) ?_ ?_
  .unfold thT;rw[if_neg c];simp
  .have:=LO h;lia
def Dv(c:eV d n)(x:D)(ws:L2N)(e:ip x=aa (ws.map sT))(h:ws.length<=1000):uo [x,d]=aa (.lst ((ws.map (nmF n)).map sT)):=by
 apply cx;show wp _ [.im x,.im d] _;rw[map_map];exact wE (fZ ws sT (sT ∘ nmF n) (bz rfl e) (by lia) λw _=>fB rfl rfl (LA rfl rfl rfl c)) (lh rfl)
def uN(c:eV d n)(t:Th)(h:lC n t):jz [kdD t,d]=aa (sT (tT n t)):=by
 apply cx;show wp _ [.im (kdD t),.im d] _;have e:=h.l;rw[aG]at e;exact dn (aZ (ai (aX (ai (ar rfl rfl rfl) (ai (aZ (ai (ar rfl rfl rfl) (ai rfl rfl)) (Dv c _ t.2 rfl (by lia))) rfl))) rfl) (LP (t.1,t.2.map (nmF n)) h)) (cB rfl)
abbrev isU:Pa->Bool
 |.un _ _=>af
 | _=>aj
abbrev qz(n:As):Pa->L2N
 |.un a b=>[nmF n a,nmF n b]
 | _=>[]
abbrev dN(n:As)(bd:List Pa):Bool:=bd.any λp=>match p with
 |.un a b=>decide (nmF n a=nmF n b)
 | _=>aj
def LQ(bs:List Bool):sQ [.lst (bs.map D.bl)]=aa (.bl (bs.any id)):=by
 have:∀l:List Bool,f6 (l.map D.bl)=aa l:=by
  intro l
  induction l with
  |nil=>rfl
  |cons a l c=>rw[di];unfold f6;rw[c];rfl
 show((f6 _).map λbs=>D.bl _)=_;rw[this];rfl
def uO(p:Pa)(ρ:LS):mB (m2 dEq (mIx (am 0) (kI 0)) (kSt "unlike")) (.im p.toD::ρ)=aa (isU p):=by
 cases p with
 |is t=>exact bf (av (ar rfl rfl rfl) rfl rfl)
 |no t=>exact bf (av (ar rfl rfl rfl) rfl rfl)
 |un a b=>exact bf (av (ar rfl rfl rfl) rfl rfl)
 |ct w n its ov=>exact bf (av (ar rfl rfl rfl) rfl (by cases w <;> rfl))
def y9(p:Pa)(ρ:LS):mB (m2 dNe (mIx (am 0) (kI 0)) (kSt "unlike")) (.im p.toD::ρ)=aa (!isU p):=by
 cases p with
 |is t=>exact bf (av (ar rfl rfl rfl) rfl rfl)
 |no t=>exact bf (av (ar rfl rfl rfl) rfl rfl)
 |un a b=>exact bf (av (ar rfl rfl rfl) rfl rfl)
 |ct w n its ov=>exact bf (av (ar rfl rfl rfl) rfl (by cases w <;> rfl))
def eqT(a b:LN):dEq (sT a) (sT b)=aa (.bl (decide (a=b))):=by
 rw[show dEq (sT a) (sT b)=aa (.bl (tx a==tx b))from rfl]
 congr 2
 apply iU.mpr;rw[beq_iff_eq,decide_eq_true_eq];exact⟨mJ,λe=>by rw[e]⟩
def Dw(j:eV d n)(bd:List Pa)(q:bd.length<=1000):mE [.lst (bd.map Pa.toD),d]=aa (.bl (dN n bd)):=by
 apply cx;show wp _ [.im (.lst (bd.map Pa.toD)),.im d,.no] _;apply ax;refine b6 (d:=.lst ((bd.filter isU).map λp=>D.lst ((qz n p).map sT))) (bo (wz bd Pa.toD isU (λp=>D.lst ((qz n p).map sT)) (bz rfl rfl) (by lia) λp _=>?_)) ?_
 .cases p with
  |un a b=>
   refine fB rfl (uO (.un a b) _) (aZ (ai (d:=.tup [sT a,sT b]) rfl (ai rfl rfl)) (Dv j _ [a,b] rfl (by simp)))
  |is t=>exact nE (b:=aj) (y:=.non) rfl (uO (.is t) _) λe=>nomatch e
  |no t=>exact nE (b:=aj) (y:=.non) rfl (uO (.no t) _) λe=>nomatch e
  |ct w k its ov=>exact nE (b:=aj) (y:=.non) rfl (uO (.ct w k its ov) _) λe=>nomatch e
 show wp _ [.im (.lst (bd.map Pa.toD)),.im d,.im (.lst ((bd.filter isU).map λp=>D.lst ((qz n p).map sT)))] _
 have h:bH 2 [] (aS (ag 2)) (tQ (bu (aJ 0) (bu (aJ 1) cP))) kY (m2 dEq (ag 0) (ag 1)) [.im (.lst (bd.map Pa.toD)),.im d,.im (.lst ((bd.filter isU).map λp=>D.lst ((qz n p).map sT)))]=aa (((bd.filter isU).map λp=>match p with |.un a b=>decide (nmF n a=nmF n b) | _=>aj).map D.bl):=by
  rw[map_map];refine fZ (bd.filter isU) (λp=>D.lst ((qz n p).map sT)) _ (bz rfl rfl) (c9 (length_filter_le _ _) (by lia)) λp s=>?_;have c:=(kQ.mp s).2
  cases p with
  |un a b=>exact fB (ρ1:=[.im (sT (nmF n a)),.im (sT (nmF n b))]) rfl rfl (av rfl rfl (eqT _ _))
  |is t=>nomatch c
  |no t=>nomatch c
  |ct w k its ov=>nomatch c
 refine dn (aZ (ai (bo h) rfl) (LQ _)) (cB ?_)
 congr 1
 unfold dN;rw[any_map];clear h q
 induction bd with
 |nil=>rfl
 |cons p bd u=>
  rw[gR,<- u]
  cases p with
  |un a b=>rw[filter_cons_of_pos rfl,gR];rfl
  |is t=>rw[vd (show ¬aj=af from cy)];rfl
  |no t=>rw[vd (show ¬aj=af from cy)];rfl
  |ct w k its ov=>rw[vd (show ¬aj=af from cy)];rfl
inductive PP where
 |i (t:LN)
 |o (t:LN)
 |c (w:Bool) (n:Int) (its:List (LN×Int))
@[reducible]noncomputable def tiD(z:LN×Int):D:=.tup [sT z.1,.int z.2]
@[reducible]noncomputable def PP.toD:PP->D
 |.i t=>.tup [.str "in",sT t]
 |.o t=>.tup [.str "out",sT t]
 |.c w n its=>.tup [.str (if w then "least" else "most"),.int n,.lst (its.map tiD)]
structure PR where
 w:Str
 h:Option LN
 b:List PP
@[reducible]noncomputable def hdD:Option LN->D
 |none=>.non
 |some t=>sT t
@[reducible]noncomputable def PR.toD(r:PR):D:=.tup [.str r.w,hdD r.h,.lst (r.b.map PP.toD)]
abbrev itF(ks:List Kd)(ov:List Pr)(n:As)(its:List Ti):List (LN×Int):=its.flatMap λz=>(nbw ks ov n).map λm=>(tT m z.1,z.2)
abbrev ppF(ks:List Kd)(n:As):Pa->PP
 |.is t=>.i (tT n t)
 |.no t=>.o (tT n t)
 |.ct w k its ov=>.c w k (itF ks ov n its)
 |.un _ _=>.i []
abbrev bdF(ks:List Kd)(n:As)(bd:List Pa):List PP:=(bd.filter λp=>!isU p).map (ppF ks n)
abbrev chF(lo hi:Int)(its:List (LN×Int))(b:List PP):List PR:=(its.map λz=>PR.mk "may" (aa z.1) b)++[PR.mk "never" ae (b++[.c aj (lo-1) its]),PR.mk "never" ae (b++[.c af (hi+1) its])]
abbrev rbF(ks:List Kd)(n:As):Ro->List PR
 |.kind _ _=>[]
 |.rule b t bd _=>[PR.mk (if b then "make" else "may") (aa (tT n t)) (bdF ks n bd)]
 |.choose lo hi its ov bd _=>chF lo hi (itF ks ov n its) (bdF ks n bd)
 |.never bd _=>[PR.mk "never" ae (bdF ks n bd)]
structure ItK(ks:List Kd)(n:As)(its:List Ti)(ov:List Pr):Prop where
 p:PsK ks ov
 d:(n.map (·.1)++vrs ov).Nodup
 t:∀z∈its,∀m∈nbw ks ov n,lC m z.1
 l:(itF ks ov n its).length<=60
 s:its.length<=100
abbrev PaK(ks:List Kd)(n:As):Pa->Prop
 |.is t=>lC n t
 |.no t=>lC n t
 |.ct _ _ its ov=>ItK ks n its ov
 |.un _ _=>True
abbrev RoK(ks:List Kd)(n:As):Ro->Prop
 |.kind _ _=>True
 |.rule _ t bd _=>lC n t/\bd.length<=100/\∀p∈bd,PaK ks n p
 |.choose _ _ its ov bd _=>ItK ks n its ov/\bd.length<=100/\∀p∈bd,PaK ks n p
 |.never bd _=>bd.length<=100/\∀p∈bd,PaK ks n p
def Dx{c:Type}(L:List c)(f:c->D)(k:Int)(w:Str)(h:(L.length:Int)<=k):iM [.lst (L.map f),.int k,.str w]=aa .non:=by
 apply cx;show wp _ [.im (.lst (L.map f)),.im (.int k),.im (.str w)] _
 have e:je (aq cI (ac (ag 0) nZ)) (gM (ag 0)) [.im (.lst (L.map f)),.im (.int k),.im (.str w)]=aa (.int (L.length:Int)):=by
  unfold je;rw[aZ (ai rfl rfl) (f7 L f)];rfl
 refine bw (bf (av e rfl ml)) (λz=>?_) λ_=>ce ⟨_,rfl,rfl⟩;have:=of_decide_eq_true z;lia
@[reducible]noncomputable def Dy:MF2:=ac (mFs (mFc "more than " (mFv (ag 1) (mFc " " (mFv (ag 2) nZ))))) nZ
def DD{m:Nat}(k:Int)(w:Str)(e:je (aq cI (ac (ag 0) nZ)) (gM (ag 0)) [.im d,.im (.int k),.im (.str w)]=aa (.int (m:Int)))(h:k<(m:Int))(c:(Dy [.im .non,.im (.int k),.im (.str w)]).isSome=af):Rz (og [d,.int k,.str w]) (iM [d,.int k,.str w]):=by
 have t:mB (m2 dGt (je (aq cI (ac (ag 0) nZ)) (gM (ag 0))) (ag 1)) [.im d,.im (.int k),.im (.str w)]=aa af:=bf (b:=af) (av e rfl (by rw[ml,decide_eq_true h]));refine zR (zI t ⟨?_,rfl⟩);show rIf _ _ _ [.im d,.im (.int k),.im (.str w)]=af;unfold rIf;rw[tX1 t];exact c
def DF{c:Type}(L:List c)(f:c->D)(k:Int)(w:Str)(h:k<(L.length:Int))(e:(Dy [.im .non,.im (.int k),.im (.str w)]).isSome=af):Rz (og [.lst (L.map f),.int k,.str w]) (iM [.lst (L.map f),.int k,.str w]):=by
 refine DD (m:=L.length) k w ?_ h e;unfold je;rw[aZ (ai rfl rfl) (f7 L f)];rfl
def DH(h:PsK ks ps)(n:As):(nbw ks ps n).length<=1728:=by unfold nbw;rw[aG];exact(y0 h).1
variable{g:MF2}
def uP(h:f ρ=ae):ac f g ρ=ae:=by unfold ac;rw[h];rfl
def qA(h:g ρ=ae):ac f g ρ=ae:=by unfold ac;rw[h];cases f ρ <;> rfl
def LR(h:g ρ=ae):bY (aO g) ρ=ae:=by unfold bY aO;rw[h];rfl
def LU(h:g ρ=ae):bY (aq m g) ρ=ae:=by unfold bY aq;rw[h];rfl
def LV{g:D->LS->Option LS}(h:g d ρ=aa ρ1)(e:ft ρ1=aa af)(c:fe ρ1=ae):fM (g3 g ft fe ρ) (d::ds)=ae:=by
 unfold fM g3;rw[h];simp[e,c]
section
variable{ks:List Kd}(nd:(ks.map (·.1)).Nodup)(hk:ks.length<=1000)
include nd hk
structure ItW(ks:List Kd)(n:As)(its:List Ti)(ov:List Pr):Prop where
 p:PsK ks ov
 d:(n.map (·.1)++vrs ov).Nodup
 t:∀z∈its,∀m∈nbw ks ov n,lC m z.1
 l:(itF ks ov n its).length<=1000
 s:its.length<=100
def DJ{n:As}{d:D}(hd:eV d n)(q:n.length<=100){its:List Ti}{ov:List Pr}(h:ItW ks n its ov){K:Fl->Prop}(k:∀c e,K (.nx [.im (.lst (its.map bS)),.im (.lst (ov.map prD)),.im d,.im (.lst (ks.map kdD)),.own ((itF ks ov n its).map tiD),c,e])):
  wp (cw (aS (ag 0)) (cU (bu (aJ 5) (bu (aJ 6) cP))) (fA 4 (fw (aw (bH 1 [6,5] (aS (aq ko (ac (ag 1) (ac (ag 3) (ac (ag 2) nZ))))) (aJ 0) kY (aO (ac (aq jz (ac (ag 2) (ac (ag 0) nZ))) (ac (ag 1) nZ)))))))) [.im (.lst (its.map bS)),.im (.lst (ov.map prD)),.im d,.im (.lst (ks.map kdD)),.own [],.no,.no] K:=by
 have A:=DH h.p n;have y:=h.s;refine eH its bS (λpre ρ=>∃c e,ρ=[.im (.lst (its.map bS)),.im (.lst (ov.map prD)),.im d,.im (.lst (ks.map kdD)),.own ((itF ks ov n pre).map tiD),c,e]) (bz rfl rfl) ⟨_,_,rfl⟩ ?_ ?_
 .rintro pre z post ρ j ⟨c,e,rfl⟩;refine⟨_,rfl,?_⟩;have hz:=h.t z (by rw[j];simp)
  have x:(itF ks ov n pre).length<=1000:=by
   have:=h.l;rw[j]at this;unfold itF at this ⊢;rw[f9,bg]at this;lia
  show wp _ [.im (.lst (its.map bS)),.im (.lst (ov.map prD)),.im d,.im (.lst (ks.map kdD)),.own ((itF ks ov n pre).map tiD),.im (kdD z.1),.im (.int z.2)] _;refine on (ds:=((nbw ks ov n).map λm=>(tT m z.1,z.2)).map tiD) (bo ?_) rfl (by rw[aG,aG,aG];lia) ⟨.im (kdD z.1),.im (.int z.2),?_⟩
  .rw[map_map];exact fZ (nbw ks ov n) asD _ (bz (aZ (ai rfl (ai rfl (ai rfl rfl))) (y3 nd hk h.p hd h.d q)) rfl) (by lia) λm u=>fB rfl rfl (aX (ai (aZ (ai rfl (ai rfl rfl)) (uN (show eV (asD m) m from rfl) z.1 (hz m u))) (ai rfl rfl)))
  .have:itF ks ov n (pre++[z])=itF ks ov n pre++(nbw ks ov n).map λm=>(tT m z.1,z.2):=by unfold itF;rw[f9];simp
   rw[this,bU];rfl
 .rintro ρ ⟨c,e,rfl⟩;exact k c e
def DK{n:As}{d:D}(hd:eV d n)(q:n.length<=100){its:List Ti}{ov:List Pr}(h:ItK ks n its ov):mF [.lst (its.map bS),.lst (ov.map prD),d,.lst (ks.map kdD)]=aa (.lst ((itF ks ov n its).map tiD)):=by
 apply cx;unfold p9;show wp _ [.im (.lst (its.map bS)),.im (.lst (ov.map prD)),.im d,.im (.lst (ks.map kdD)),.no,.no,.no] _;apply ax;refine fc (d:=[]) rfl ?_;apply ax;have c:=h.l;refine DJ nd hk hd q ⟨h.p,h.d,h.t,by lia,h.s⟩ λe j=>?_;apply ax;refine g6 (ρ':=[.im (.lst (its.map bS)),.im (.lst (ov.map prD)),.im d,.im (.lst (ks.map kdD)),.im (.lst ((itF ks ov n its).map tiD)),e,j]) rfl ?_;refine g7 (aZ (ai rfl (ai rfl (ai rfl rfl))) (Dx _ tiD 60 "items" (by lia))) ?_;exact mm rfl (cB rfl)
def DL{n:As}{d:D}(hd:eV d n)(q:n.length<=100){its:List Ti}{ov:List Pr}(h:ItW ks n its ov)(p:60<(itF ks ov n its).length):Rz (uw [.lst (its.map bS),.lst (ov.map prD),d,.lst (ks.map kdD)]) (mF [.lst (its.map bS),.lst (ov.map prD),d,.lst (ks.map kdD)]):=by
 refine zR ?_;show Rz (uv [.im (.lst (its.map bS)),.im (.lst (ov.map prD)),.im d,.im (.lst (ks.map kdD)),.no,.no,.no]) (p9 [.im (.lst (its.map bS)),.im (.lst (ov.map prD)),.im d,.im (.lst (ks.map kdD)),.no,.no,.no]);refine gm (ρ1:=[.im (.lst (its.map bS)),.im (.lst (ov.map prD)),.im d,.im (.lst (ks.map kdD)),.own [],.no,.no]) rfl ?_;obtain⟨o,e,c,j,rfl⟩:=DJ nd hk hd q h (K:=λo=>∃c j,o=.nx [.im (.lst (its.map bS)),.im (.lst (ov.map prD)),.im d,.im (.lst (ks.map kdD)),.own ((itF ks ov n its).map tiD),c,j]) λc j=>⟨c,j,rfl⟩;refine gm e (zH ?_);refine Lx rfl ?_;exact zD (zC (bi (aY rfl) (bi (aY rfl) (bi (aY rfl) rfl))) (ai rfl (ai rfl (ai rfl rfl))) (DF _ tiD 60 "items" (by lia) rfl))
def LW{n:As}{d:D}(hd:eV d n)(c:n.length<=100)(p:Pa)(h:PaK ks n p)(j:isU p=aj):kr [p.toD,d,.lst (ks.map kdD)]=aa (ppF ks n p).toD:=by
 apply cx;unfold qb;show wp _ [.im p.toD,.im d,.im (.lst (ks.map kdD))] _
 cases p with
 |is t=>
  apply ax;refine bw (b:=af) (bf (av (ar rfl rfl rfl) rfl rfl)) (λ_=>?_) λe=>nomatch e
  exact dn (aX (ai rfl (ai (aZ (ai (ar rfl rfl rfl) (ai rfl rfl)) (uN hd t h)) rfl))) (cB rfl)
 |no t=>
  apply ax;refine bw (b:=aj) (bf (av (ar rfl rfl rfl) rfl rfl)) (λe=>nomatch e) λ_=>ce ?_;apply ax;refine bw (b:=af) (bf (av (ar rfl rfl rfl) rfl rfl)) (λ_=>?_) λe=>nomatch e
  exact dn (aX (ai rfl (ai (aZ (ai (ar rfl rfl rfl) (ai rfl rfl)) (uN hd t h)) rfl))) (cB rfl)
 |un a b=>nomatch j
 |ct w k its ov=>
  apply ax
  refine bw (b:=aj) (bf (av (ar rfl rfl rfl) rfl (by cases w <;> rfl))) (λe=>nomatch e) λ_=>ce ?_
  apply ax
  refine bw (b:=aj) (bf (av (ar rfl rfl rfl) rfl (by cases w <;> rfl))) (λe=>nomatch e) λ_=>ce ?_
  exact dn (aX (ai (ar rfl rfl rfl) (ai (ar rfl rfl rfl) (ai (aZ (ai (ar rfl rfl rfl) (ai (ar rfl rfl rfl) (ai rfl (ai rfl rfl)))) (DK nd hk hd c h)) rfl)))) (cB rfl)
def uQ{n:As}{d:D}(hd:eV d n)(z:n.length<=100)(bd:List Pa)(B:bd.length<=100)(h:∀p∈bd,PaK ks n p){ρ:LS}{fi:MF2}(x:fi ρ=aa (bd.map Pa.toD))(s:ρ[1]?=aa (.im d))(u:ρ[2]?=aa (.im (.lst (ks.map kdD)))):
  bH 1 [1,2] fi (aJ 0) (mB (m2 dNe (mIx (am 0) (kI 0)) (kSt "unlike"))) (aq kr (ac (ag 0) (ac (ag 1) (ac (ag 2) nZ)))) ρ=aa ((bdF ks n bd).map PP.toD):=by
 unfold bdF;rw[map_map]
 have q:dC 1 [1,2] ρ=[.no,.im d,.im (.lst (ks.map kdD))]:=by
  show[Sl.no]++[1,2].map (λj=>(ρ[j]?).getD .no)=_;simp[s,u]
 refine wz bd Pa.toD (λp=>!isU p) (PP.toD ∘ ppF ks n) x (by lia) λp A=>?_;rw[q]
 cases c:isU p with
 |false=>exact fB rfl ((y9 p _).trans (by rw[c];rfl)) (aZ (ai rfl (ai rfl (ai rfl rfl))) (LW nd hk hd z p (h p A) c))
 |true=>exact nE (b:=aj) (y:=.non) rfl ((y9 p _).trans (by rw[c];rfl)) λe=>nomatch e
def LX(lo hi:Int)(its:List (LN×Int))(b:List PP)(q:its.length<=1000)(s:b.length<=1000):yu [.int lo,.int hi,.lst (its.map tiD),.lst (b.map PP.toD)]=aa (.lst ((chF lo hi its b).map PR.toD)):=by
 apply cx;unfold ut;show wp _ [.im (.int lo),.im (.int hi),.im (.lst (its.map tiD)),.im (.lst (b.map PP.toD)),.no] _;apply ax;refine fc (d:=(its.map λz=>PR.mk "may" (aa z.1) b).map PR.toD) (by rw[map_map];exact fZ its tiD _ (bz rfl rfl) (by lia) λz _=>fB rfl rfl (aX (ai rfl (ai rfl (ai rfl rfl))))) ?_
 have e:∀(p:PP) (ρ:LS) (f g:MF1),f ρ=aa (.lst (b.map PP.toD))->g ρ=aa p.toD->aw (eh f (aw (ac g nZ))) ρ=aa (.lst ((b++[p]).map PP.toD)):=λp ρ f g h j=>by
  refine bo ?_;unfold eh;rw[h,aR,bo (ai j rfl)];show(if (b.map PP.toD).length+1<=16777216 then aa (b.map PP.toD++[p.toD]) else ae)=_;rw[if_pos (by rw[aG];lia),bU];rfl
 show wp _ [.im (.int lo),.im (.int hi),.im (.lst (its.map tiD)),.im (.lst (b.map PP.toD)),.own ((its.map λz=>PR.mk "may" (aa z.1) b).map PR.toD)] _;apply ax;refine jl (d:=PR.toD (PR.mk "never" ae (b++[.c aj (lo-1) its]))) (aX (ai rfl (ai rfl (ai (e (.c aj (lo-1) its) _ _ _ rfl (aX (ai rfl (ai (av rfl rfl g8) (ai rfl rfl))))) rfl)))) rfl (by rw[aG,aG];lia) ?_;apply ax;refine jl (d:=PR.toD (PR.mk "never" ae (b++[.c af (hi+1) its]))) (aX (ai rfl (ai rfl (ai (e (.c af (hi+1) its) _ _ _ rfl (aX (ai rfl (ai (av rfl rfl dR) (ai rfl rfl))))) rfl)))) rfl (by rw[bg,aG,aG,fj];lia) ?_;refine pw rfl (lh ?_);unfold chF;rw[bU,fm];rfl
def DM{n:As}{d:D}(hd:eV d n)(c:n.length<=100)(r:Ro)(s:∀a b,r≠.kind a b)(h:RoK ks n r):m_6 [r.toD,d,.lst (ks.map kdD)]=aa (.lst ((rbF ks n r).map PR.toD)):=by
 apply cx;unfold b_6;show wp _ [.im r.toD,.im d,.im (.lst (ks.map kdD)),.no,.no] _
 cases r with
 |kind a b=>exact absurd rfl (s a b)
 |rule b t bd ps=>
  apply ax;refine b6 (bo (uQ nd hk hd c bd h.2.1 h.2.2 (bz (ar rfl rfl rfl) rfl) rfl rfl)) ?_;apply ax
  refine bw (b:=aj) (bf (av (ar rfl rfl rfl) rfl (by cases b <;> rfl))) (λe=>nomatch e) λ_=>ce ?_
  apply ax
  refine bw (b:=aj) (bf (av (ar rfl rfl rfl) rfl (by cases b <;> rfl))) (λe=>nomatch e) λ_=>ce ?_
  apply ax;refine b6 (d:=.str (if b then "make" else "may")) ?_ ?_
  .unfold vIf
   rw[bf (b:=b) (av (ar rfl rfl rfl) rfl (by cases b <;> rfl)),aR]
   cases b <;> rfl
  exact wE (ai (aX (ai rfl (ai (aZ (ai (ar rfl rfl rfl) (ai rfl rfl)) (uN hd t h.1)) (ai rfl rfl)))) rfl) (lh rfl)
 |choose lo hi its ov bd ps=>
  apply ax;refine b6 (bo (uQ nd hk hd c bd h.2.1 h.2.2 (bz (ar rfl rfl rfl) rfl) rfl rfl)) ?_;apply ax;refine bw (b:=aj) (bf (av (ar rfl rfl rfl) rfl rfl)) (λe=>nomatch e) λ_=>ce ?_;apply ax;refine bw (b:=af) (bf (av (ar rfl rfl rfl) rfl rfl)) (λ_=>?_) λe=>nomatch e
  have q:(bdF ks n bd).length<=1000:=by
   unfold bdF;rw[aG];have:=length_filter_le (λp=>!isU p) bd;have:=h.2.1;lia
  have j:=h.1.l
  exact dn (aZ (ai (ar rfl rfl rfl) (ai (ar rfl rfl rfl) (ai (aZ (ai (ar rfl rfl rfl) (ai (ar rfl rfl rfl) (ai rfl (ai rfl rfl)))) (DK nd hk hd c h.1)) (ai rfl rfl)))) (LX nd hk lo hi _ _ (by lia) q)) (cB rfl)
 |never bd ps=>
  apply ax;refine b6 (bo (uQ nd hk hd c bd h.1 h.2 (bz (ar rfl rfl rfl) rfl) rfl rfl)) ?_;apply ax;refine bw (b:=af) (bf (av (ar rfl rfl rfl) rfl rfl)) (λ_=>?_) λe=>nomatch e;exact wE (ai (aX (ai rfl (ai rfl (ai rfl rfl)))) rfl) (lh rfl)
def LY{n:As}{d:D}(hd:eV d n)(u:n.length<=100)(w:Bool)(c:Int){its:List Ti}{ov:List Pr}(h:ItW ks n its ov)(j:60<(itF ks ov n its).length):Rz (yx [(Pa.ct w c its ov).toD,d,.lst (ks.map kdD)]) (kr [(Pa.ct w c its ov).toD,d,.lst (ks.map kdD)]):=by
 refine zR ?_;show Rz (ux [.im (Pa.ct w c its ov).toD,.im d,.im (.lst (ks.map kdD))]) (qb [.im (Pa.ct w c its ov).toD,.im d,.im (.lst (ks.map kdD))])
 have p:∀(x:Str) (F:MF3),dEq (.str (if w then "least" else "most")) (.str x)=aa (.bl aj)->bv (mB (m2 dEq (mIx (am 0) (kI 0)) (λ_=>aa (.str x)))) F bK [.im (Pa.ct w c its ov).toD,.im d,.im (.lst (ks.map kdD))]=aa (.nx [.im (Pa.ct w c its ov).toD,.im d,.im (.lst (ks.map kdD))]):=λx F y=>by
  obtain⟨o,e,rfl⟩:=bw (F:=F) (F':=bK) (K:=λo=>o=.nx [.im (Pa.ct w c its ov).toD,.im d,.im (.lst (ks.map kdD))]) (b:=aj) (bf (av (ar (f:=am 0) (g:=λ_=>aa (.int 0)) (ρ:=[.im (Pa.ct w c its ov).toD,.im d,.im (.lst (ks.map kdD))]) rfl rfl rfl) (g:=λ_=>aa (.str x)) rfl y)) (λe=>nomatch e) λ_=>ce rfl;exact e
 refine gm (p _ _ (by cases w <;> rfl)) (gm (p _ _ (by cases w <;> rfl)) ?_)
 have q:=DL nd hk hd u h j;refine⟨rE2 (aY (ar rfl rfl rfl)) (rE2 (aY (ar rfl rfl rfl)) (rC1 (bi (aY (ar rfl rfl rfl)) (bi (aY (ar rfl rfl rfl)) (bi (aY rfl) (bi (aY rfl) rfl)))) q.1)),?_⟩
 have s:aq mF (ac (mIx (am 0) (kI 2)) (ac (mIx (am 0) (kI 3)) (ac (ag 1) (ac (ag 2) nZ)))) [.im (Pa.ct w c its ov).toD,.im d,.im (.lst (ks.map kdD))]=ae:=by
  unfold aq;rw[ai (ar rfl rfl rfl) (ai (ar rfl rfl rfl) (ai rfl (ai rfl rfl)))];exact q.2
 exact LR (qA (qA (uP s)))
def LZ{n:As}{d:D}(hd:eV d n)(x:n.length<=100)(b:Bool)(t:Th)(ps:List Pr)(w:Bool)(c:Int){its:List Ti}{ov:List Pr}(h:ItW ks n its ov)(e:60<(itF ks ov n its).length):Rz (qd [(Ro.rule b t [.ct w c its ov] ps).toD,d,.lst (ks.map kdD)]) (m_6 [(Ro.rule b t [.ct w c its ov] ps).toD,d,.lst (ks.map kdD)]):=by
 refine zR ?_;show Rz (qc [.im (Ro.rule b t [.ct w c its ov] ps).toD,.im d,.im (.lst (ks.map kdD)),.no,.no]) (b_6 [.im (Ro.rule b t [.ct w c its ov] ps).toD,.im d,.im (.lst (ks.map kdD)),.no,.no]);have q:=LY nd hk hd x w c h e;have j:aS (mIx (am 0) (m1 bP (kI 2))) [.im (Ro.rule b t [.ct w c its ov] ps).toD,.im d,.im (.lst (ks.map kdD)),.no,.no]=aa [(Pa.ct w c its ov).toD]:=bz (ar rfl rfl rfl) rfl;have p:mB (m2 dNe (mIx (am 0) (kI 0)) (kSt "unlike")) [.im (Pa.ct w c its ov).toD,.im d,.im (.lst (ks.map kdD))]=aa af:=y9 (.ct w c its ov) _;refine yV ⟨?_,?_⟩
 .unfold pO;rw[j];show(af && kc _ _ _ _ [.no,.im d,.im (.lst (ks.map kdD))] [(Pa.ct w c its ov).toD])=af;rw[Bool.true_and];exact rT1 (ρ1:=[.im (Pa.ct w c its ov).toD,.im d,.im (.lst (ks.map kdD))]) rfl p (rC1 (bi (aY rfl) (bi (aY rfl) (bi (aY rfl) rfl))) q.1)
 .have s:bH 1 [1,2] (aS (mIx (am 0) (m1 bP (kI 2)))) (aJ 0) (mB (m2 dNe (mIx (am 0) (kI 0)) (kSt "unlike"))) (aq kr (ac (ag 0) (ac (ag 1) (ac (ag 2) nZ)))) [.im (Ro.rule b t [.ct w c its ov] ps).toD,.im d,.im (.lst (ks.map kdD)),.no,.no]=ae:=by
   unfold bH;rw[j,aR];show fM (g3 _ _ _ [.no,.im d,.im (.lst (ks.map kdD))]) [(Pa.ct w c its ov).toD]=ae
   have u:aq kr (ac (ag 0) (ac (ag 1) (ac (ag 2) nZ))) [.im (Pa.ct w c its ov).toD,.im d,.im (.lst (ks.map kdD))]=ae:=by
    unfold aq;rw[ai rfl (ai rfl (ai rfl rfl))];exact q.2
   exact LV (ρ1:=[.im (Pa.ct w c its ov).toD,.im d,.im (.lst (ks.map kdD))]) rfl p u
  unfold bD aw;rw[s];rfl
def L3{n:As}{d:D}(hd:eV d n)(p:n.length<=100)(lo hi:Int)(ps:List Pr){its:List Ti}{ov:List Pr}(h:ItW ks n its ov)(c:60<(itF ks ov n its).length):Rz (qd [(Ro.choose lo hi its ov [] ps).toD,d,.lst (ks.map kdD)]) (m_6 [(Ro.choose lo hi its ov [] ps).toD,d,.lst (ks.map kdD)]):=by
 refine zR ?_;show Rz (qc [.im (Ro.choose lo hi its ov [] ps).toD,.im d,.im (.lst (ks.map kdD)),.no,.no]) (b_6 [.im (Ro.choose lo hi its ov [] ps).toD,.im d,.im (.lst (ks.map kdD)),.no,.no]);obtain⟨o,e,rfl⟩:=b6 (i:=3) (K:=λo=>o=.nx [.im (Ro.choose lo hi its ov [] ps).toD,.im d,.im (.lst (ks.map kdD)),.im (.lst ((bdF ks n []).map PP.toD)),.no]) (bo (uQ nd hk hd p [] (by decide) (λ_ z=>(cp z).elim) (ρ:=[.im (Ro.choose lo hi its ov [] ps).toD,.im d,.im (.lst (ks.map kdD)),.no,.no]) (fi:=aS (mIx (am 0) (m1 bP (kI 2)))) (bz (ar rfl rfl rfl) rfl) rfl rfl)) rfl;refine gm e ?_;have j:∀(x:Str) (b:Bool),dEq (.str "choose") (.str x)=aa (.bl b)->mB (m2 dEq (mIx (am 0) (kI 0)) (λ_=>aa (.str x))) [.im (Ro.choose lo hi its ov [] ps).toD,.im d,.im (.lst (ks.map kdD)),.im (.lst ((bdF ks n []).map PP.toD)),.no]=aa b:=λx b y=>bf (av (ar rfl rfl rfl) rfl y)
 have u:∀F:MF3,bv (mB (m2 dEq (mIx (am 0) (kI 0)) (kSt "never"))) F bK [.im (Ro.choose lo hi its ov [] ps).toD,.im d,.im (.lst (ks.map kdD)),.im (.lst ((bdF ks n []).map PP.toD)),.no]=aa (.nx [.im (Ro.choose lo hi its ov [] ps).toD,.im d,.im (.lst (ks.map kdD)),.im (.lst ((bdF ks n []).map PP.toD)),.no]):=λF=>by
  unfold bv;rw[j "never" aj rfl];rfl
 refine gm (u _) (zH (zI (j "choose" af rfl) ?_));have q:=DL nd hk hd p h c;refine⟨?_,?_⟩
 .unfold rIf;rw[tX1 (j "choose" af rfl)];show j8 _ _ _ _=af;exact rE2 (aY (ar rfl rfl rfl)) (rE2 (aY (ar rfl rfl rfl)) (rC1 (bi (aY (ar rfl rfl rfl)) (bi (aY (ar rfl rfl rfl)) (bi (aY rfl) (bi (aY rfl) rfl)))) q.1))
 .have s:aq mF (ac (mIx (am 0) (kI 3)) (ac (mIx (am 0) (kI 4)) (ac (ag 1) (ac (ag 2) nZ)))) [.im (Ro.choose lo hi its ov [] ps).toD,.im d,.im (.lst (ks.map kdD)),.im (.lst ((bdF ks n []).map PP.toD)),.no]=ae:=by
   unfold aq;rw[ai (ar rfl rfl rfl) (ai (ar rfl rfl rfl) (ai rfl (ai rfl rfl)))];exact q.2
  exact LU (qA (qA (uP s)))
end
abbrev dO:Ro->Bool
 |.kind _ _=>af
 | _=>aj
abbrev rwF(ks:List Kd)(r:Ro):List PR:=((nbw ks (roP r) []).filter λn=>!dN n (roB r)).flatMap λn=>rbF ks n r
abbrev rsF(ks:List Kd)(rs:List Ro):List PR:=rs.flatMap λr=>if dO r then [] else rwF ks r
structure RwK(ks:List Kd)(r:Ro):Prop where
 p:PsK ks (roP r)
 d:(vrs (roP r)).Nodup
 b:(roB r).length<=1000
 k:∀n∈nbw ks (roP r) [],dN n (roB r)=aj->RoK ks n r/\n.length<=100
def nKd(r:Ro)(a b c:Sl):mB (m2 dNe (mIx (am 3) (kI 0)) (kSt "kind")) [a,b,c,.im r.toD,.no]=aa (!dO r)/\∀z:Sl,mB (m2 dNe (mIx (am 3) (kI 0)) (kSt "kind")) [a,b,c,.im r.toD,z]=aa (!dO r):=by
 have h:∀z:Sl,mB (m2 dNe (mIx (am 3) (kI 0)) (kSt "kind")) [a,b,c,.im r.toD,z]=aa (!dO r):=λz=>by
  cases r with
  |kind n ns=>exact bf (av (ar rfl rfl rfl) rfl rfl)
  |rule b t bd ps=>exact bf (av (ar rfl rfl rfl) rfl (by cases b <;> rfl))
  |choose lo hi its ov bd ps=>exact bf (av (ar rfl rfl rfl) rfl rfl)
  |never bd ps=>exact bf (av (ar rfl rfl rfl) rfl rfl)
 exact⟨h _,h⟩
def uR(r:Ro)(e:dO r=aj)(a b c z:Sl):mIx (am 3) (m1 bP (kI 1)) [a,b,c,.im r.toD,z]=aa (.lst ((roP r).map prD))/\mIx (am 3) (m1 bP (kI 2)) [a,b,c,.im r.toD,z]=aa (.lst ((roB r).map Pa.toD)):=by
 cases r with
 |kind n ns=>nomatch e
 |rule b t bd ps=>exact⟨ar rfl rfl rfl,ar rfl rfl rfl⟩
 |choose lo hi its ov bd ps=>exact⟨ar rfl rfl rfl,ar rfl rfl rfl⟩
 |never bd ps=>exact⟨ar rfl rfl rfl,ar rfl rfl rfl⟩
def za(m:As)(h:m∈nbw ks ps []):m.length<=ps.length:=by
 obtain⟨w,_,rfl⟩:=bZ.mp h;rw[nil_append,iY,aG];exact Nat.min_le_left _ _
@[reducible]noncomputable def DN:MF3:=(bv (jV (ge (aq mE (ac (mIx (am 3) (m1 bP (kI 2))) (ac (ag 4) nZ))))) (aA (fA 2 (fw (aq m_6 (ac (ag 3) (ac (ag 4) (ac (ag 1) nZ))))))
  (cJ (fQ iM (ac (eO 2) (ac (kI 400) (ac (kSt "rules") nZ)))))) bK)
@[reducible]noncomputable def L4:MF3:=bv (mB (m2 dNe (mIx (am 3) (kI 0)) (kSt "kind"))) (cw (aS (aq ko (ac (mIx (am 3) (m1 bP (kI 1))) (ac (ag 1) (ac (λ_=>aa (.dic [] [])) nZ))))) (aJ 4) DN) bK
@[reducible]noncomputable def wyF(ks:List Kd)(r:Ro)(c:List As):List PR:=(c.filter λn=>!dN n (roB r)).flatMap λn=>rbF ks n r
structure RwW(ks:List Kd)(r:Ro):Prop where
 p:PsK ks (roP r)
 d:(vrs (roP r)).Nodup
 b:(roB r).length<=1000
 k:∀n∈nbw ks (roP r) [],dN n (roB r)=aj->n.length<=100/\(rbF ks n r).length<=1000/\(RoK ks n r\/Rz (qd [r.toD,asD n,.lst (ks.map kdD)]) (m_6 [r.toD,asD n,.lst (ks.map kdD)]))
abbrev RwO(ks:List Kd)(r:Ro):Prop:=∀n∈nbw ks (roP r) [],dN n (roB r)=aj->RoK ks n r
section
variable{ks:List Kd}(nd:(ks.map (·.1)).Nodup)(hk:ks.length<=1000)
include nd hk
def ox(r:Ro)(c:List As)(n:As):wyF ks r (c++[n])=wyF ks r c++if dN n (roB r) then [] else rbF ks n r:=by
 unfold wyF;rw[filter_append,f9]
 cases h:dN n (roB r) <;> simp[h]
def DP(z:Sl)(r:Ro)(q:dO r=aj)(u:(roB r).length<=1000)(n:As)(x:n.length<=100)(s:dN n (roB r)=aj->RoK ks n r)(R:List PR)(c:(R++if dN n (roB r) then [] else rbF ks n r).length<=400){K:Fl->Prop}(k:K (.nx [z,.im (.lst (ks.map kdD)),.own ((R++if dN n (roB r) then [] else rbF ks n r).map PR.toD),.im r.toD,.im (asD n)])):
  wp DN [z,.im (.lst (ks.map kdD)),.own (R.map PR.toD),.im r.toD,.im (asD n)] K:=by
 have j:eV (asD n) n:=rfl;refine bw (b:=!dN n (roB r)) (wB (pj (aZ (ai (uR r q _ _ _ _).2 (ai rfl rfl)) (Dw j (roB r) u)) rfl)) (λe=>?_) λe=>ce ?_
 .have h:dN n (roB r)=aj:=by simpa using e
  rw[h]at c k;replace c:(R++rbF ks n r).length<=400:=c;replace k:K (.nx [z,.im (.lst (ks.map kdD)),.own ((R++rbF ks n r).map PR.toD),.im r.toD,.im (asD n)]):=k;apply ax;have p:∀a b,r≠.kind a b:=λa b z=>by rw[z]at q;nomatch q
  refine on (aZ (ai rfl (ai rfl (ai rfl rfl))) (DM nd hk j x r p (s h))) rfl (by rw[aG,aG];rw[bg]at c;lia) ?_;rw[<- bU];exact g7 (yT (ai rfl (ai rfl (ai rfl rfl))) (Dx (R++rbF ks n r) PR.toD 400 "rules" (by lia))) k
 .have h:dN n (roB r)=af:=by simpa using e
  rw[h]at k
  simpa using k
def DQ(z:Sl)(r:Ro)(h:dO r=aj->RwK ks r)(R:List PR)(c:(R++if dO r then [] else rwF ks r).length<=400)(j:Sl){K:Fl->Prop}(k:∀j,K (.nx [z,.im (.lst (ks.map kdD)),.own ((R++if dO r then [] else rwF ks r).map PR.toD),.im r.toD,j])):
  wp L4 [z,.im (.lst (ks.map kdD)),.own (R.map PR.toD),.im r.toD,j] K:=by
 refine bw ((nKd r _ _ _).2 _) (λe=>?_) λe=>ce ?_
 .have u:dO r=aj:=by simpa using e
  have x:=h u;have H:=DH x.p [];rw[u]at c k;replace c:(R++wyF ks r (nbw ks (roP r) [])).length<=400:=c;replace k:∀j,K (.nx [z,.im (.lst (ks.map kdD)),.own ((R++wyF ks r (nbw ks (roP r) [])).map PR.toD),.im r.toD,j]):=k;have E:=y3 nd hk x.p (n:=[]) (d:=.dic [] []) rfl (by simpa using x.d) (by simp);refine eH (nbw ks (roP r) []) asD (λB ρ=>∃j,ρ=[z,.im (.lst (ks.map kdD)),.own ((R++wyF ks r B).map PR.toD),.im r.toD,j]) (bz (aZ (ai (uR r u _ _ _ _).1 (ai rfl (ai rfl rfl))) E) rfl) ⟨j,by simp[wyF]⟩ ?_ ?_
  .rintro B n s ρ y ⟨j,rfl⟩;refine⟨_,rfl,?_⟩;have A:n∈nbw ks (roP r) []:=by rw[y];simp
   have G:(R++wyF ks r (B++[n])).length<=400:=by
    have:wyF ks r (nbw ks (roP r) [])=wyF ks r (B++[n])++wyF ks r s:=by
     unfold wyF;rw[y,<- f9,<- filter_append];simp
    rw[this,bg,bg]at c;rw[bg];lia
   rw[ox nd hk,<- fm]at G
   have q:n.length<=100:=by
    have:=za _ A;have:=x.p.n;lia
   refine DP nd hk z r u x.b n q (λe=>(x.k n A e).1) _ G ⟨.im (asD n),?_⟩;rw[ox nd hk,<- fm]
  .rintro ρ ⟨j,rfl⟩;exact k j
 .have u:dO r=af:=by simpa using e
  rw[u]at k
  simpa using k j
def oy(pre:List Ro)(x:Ro):rsF ks (pre++[x])=rsF ks pre++if dO x then [] else rwF ks x:=by unfold rsF;rw[f9];simp
def DR(rs:List Ro)(u:rs.length<=1000)(h:∀r∈rs,dO r=aj->RwK ks r)(c:(rsF ks rs).length<=400):m_8 [.lst (rs.map Ro.toD),.lst (ks.map kdD)]=aa (.lst ((rsF ks rs).map PR.toD)):=by
 apply cx;unfold b_8;show wp _ [.im (.lst (rs.map Ro.toD)),.im (.lst (ks.map kdD)),.no,.no,.no] _;apply ax;refine fc (d:=[]) rfl ?_;show wp _ [.im (.lst (rs.map Ro.toD)),.im (.lst (ks.map kdD)),.own [],.no,.no] _;apply ax;refine eH rs Ro.toD (λpre ρ=>∃p j,ρ=[.im (.lst (rs.map Ro.toD)),.im (.lst (ks.map kdD)),.own ((rsF ks pre).map PR.toD),p,j]) (bz rfl rfl) ⟨_,_,rfl⟩ ?_ ?_
 .rintro pre r post ρ q ⟨p,j,rfl⟩;refine⟨_,rfl,?_⟩;have e:r∈rs:=by rw[q];simp
  have s:rsF ks rs=rsF ks (pre++[r])++rsF ks post:=by rw[q];unfold rsF;rw[<- f9];simp
  rw[s,oy nd hk,bg]at c;exact DQ nd hk _ r (h r e) _ (by lia) _ λj=>⟨_,_,by rw[oy nd hk]⟩
 .rintro ρ ⟨p,j,rfl⟩;exact pw rfl (lh rfl)
def L5(rs:List Ro)(h:∀r∈rs,dO r=aj->RwW ks r)(hb:400<(rsF ks rs).length\/∃r∈rs,dO r=aj/\¬RwO ks r):Rz (uA [.lst (rs.map Ro.toD),.lst (ks.map kdD)]) (m_8 [.lst (rs.map Ro.toD),.lst (ks.map kdD)]):=by
 refine zR ?_;show Rz (uz [.im (.lst (rs.map Ro.toD)),.im (.lst (ks.map kdD)),.no,.no,.no]) (b_8 [.im (.lst (rs.map Ro.toD)),.im (.lst (ks.map kdD)),.no,.no,.no]);refine gm (ρ1:=[.im (.lst (rs.map Ro.toD)),.im (.lst (ks.map kdD)),.own [],.no,.no]) rfl ?_;refine zH (zF (ds:=rs.map Ro.toD) (bz rfl rfl) ?_);generalize Sl.im (.lst (rs.map Ro.toD))=z;refine qy (I:=λpre ρ=>(∃a3 c,ρ=[z,.im (.lst (ks.map kdD)),.own ((rsF ks pre).map PR.toD),a3,c])/\(rsF ks pre).length<=400/\∀r∈pre,dO r=aj->RwO ks r) rs [] _ ⟨⟨_,_,rfl⟩,(show([]:List PR).length<=400 by decide),λ_ z=>(cp z).elim⟩ ?_ ?_
 .rintro pre r post he ρ ⟨⟨a3,c,rfl⟩,B,ho⟩;refine⟨[z,.im (.lst (ks.map kdD)),.own ((rsF ks pre).map PR.toD),.im r.toD,c],rfl,?_⟩;have E:r∈rs:=by rw[show rs=pre++r::post from he];simp
  by_cases hq:(rsF ks (pre++[r])).length<=400/\(dO r=aj->RwO ks r)
  .refine .inr ?_;obtain⟨q1,q2⟩:=hq;have u:=q1;rw[oy nd hk]at u;obtain⟨o,e,c,rfl⟩:=DQ nd hk z r (λe=>let w:=h r E e;⟨w.p,w.d,w.b,λn hn A=>⟨q2 e n hn A,(w.k n hn A).1⟩⟩) _ u c (K:=λo=>∃c,o=.nx [z,.im (.lst (ks.map kdD)),.own ((rsF ks pre++if dO r then [] else rwF ks r).map PR.toD),.im r.toD,c]) λc=>⟨c,rfl⟩;refine⟨_,e,⟨_,_,by rw[oy nd hk]⟩,q1,λx s=>?_⟩
   rcases b8.mp s with s |s
   .exact ho x s
   .rw[bj]at s;subst s;exact q2
  .refine .inl ?_
   have y:dO r=aj:=by
    cases e:dO r with
    |false=>rfl
    |true=>exact(hq ⟨by rw[oy nd hk,e];simpa using B,λz=>by rw[e]at z;nomatch z⟩).elim
   have T:=h r E y;have tk:mB (m2 dNe (mIx (am 3) (kI 0)) (kSt "kind")) [z,.im (.lst (ks.map kdD)),.own ((rsF ks pre).map PR.toD),.im r.toD,c]=aa af:=by rw[(nKd r _ _ _).2 _,y];rfl
   have enb:=y3 nd hk T.p (n:=[]) (d:=.dic [] []) rfl (by simpa using T.d) (by simp)
   suffices q:Rz (iJ _ _ _ _ [z,.im (.lst (ks.map kdD)),.own ((rsF ks pre).map PR.toD),.im r.toD,c]) (cw _ _ _ [z,.im (.lst (ks.map kdD)),.own ((rsF ks pre).map PR.toD),.im r.toD,c])from zI tk ⟨by(try unfold rIf);rw[tX1 tk];exact q.1,q.2⟩
   refine zF (ds:=(nbw ks (roP r) []).map asD) (bz (aZ (ai (uR r y _ _ _ _).1 (ai rfl (ai rfl rfl))) enb) rfl) ?_;refine qy (I:=λj ρ=>(∃c,ρ=[z,.im (.lst (ks.map kdD)),.own ((rsF ks pre++wyF ks r j).map PR.toD),.im r.toD,c])/\(rsF ks pre++wyF ks r j).length<=400/\∀n∈j,dN n (roB r)=aj->RoK ks n r) (nbw ks (roP r) []) [] _ ⟨⟨c,by simp[wyF]⟩,by simpa[wyF]using B,λ_ z=>(cp z).elim⟩ ?_ ?_
   .rintro j n Q hne ρ ⟨⟨c,rfl⟩,n4,no⟩;refine⟨[z,.im (.lst (ks.map kdD)),.own ((rsF ks pre++wyF ks r j).map PR.toD),.im r.toD,.im (asD n)],rfl,?_⟩;have Y:n∈nbw ks (roP r) []:=by rw[show nbw ks (roP r) []=j++n::Q from hne];simp
    have U:eV (asD n) n:=rfl;have G:=wB (pj (aZ (ai (uR r y z (.im (.lst (ks.map kdD))) (.own ((rsF ks pre++wyF ks r j).map PR.toD)) (.im (asD n))).2 (ai (f:=ag 4) (g:=λ_=>aa []) rfl rfl)) (Dw U (roB r) T.b)) rfl)
    by_cases M:(rsF ks pre++wyF ks r (j++[n])).length<=400/\(dN n (roB r)=aj->RoK ks n r)
    .refine .inr ?_;obtain⟨q1,q2⟩:=M;have u:=q1;rw[ox nd hk,<- fm]at u
     have J:n.length<=100:=by
      have:=za _ Y;have:=T.p.n;lia
     obtain⟨o,e,rfl⟩:=DP nd hk z r y T.b n J q2 _ u (K:=λo=>o=.nx [z,.im (.lst (ks.map kdD)),.own ((rsF ks pre++wyF ks r j++if dN n (roB r) then [] else rbF ks n r).map PR.toD),.im r.toD,.im (asD n)]) rfl;refine⟨_,e,⟨_,by rw[ox nd hk,<- fm]⟩,q1,λx s=>?_⟩
     rcases b8.mp s with s |s
     .exact no x s
     .rw[bj]at s;subst s;exact q2
    .refine .inl ?_
     have H:dN n (roB r)=aj:=by
      cases e:dN n (roB r)with
      |false=>rfl
      |true=>exact(M ⟨by rw[ox nd hk,e];simpa using n4,λz=>by rw[e]at z;nomatch z⟩).elim
     obtain⟨w1,w2,w3⟩:=T.k n Y H;rw[H]at G
     suffices q:Rz (dg _ _ _ [z,.im (.lst (ks.map kdD)),.own ((rsF ks pre++wyF ks r j).map PR.toD),.im r.toD,.im (asD n)]) (aA _ _ [z,.im (.lst (ks.map kdD)),.own ((rsF ks pre++wyF ks r j).map PR.toD),.im r.toD,.im (asD n)])from zI G ⟨by(try unfold rIf);rw[tX1 G];exact q.1,q.2⟩
     have hkr:∀a b,r≠.kind a b:=λa b z=>by rw[z]at y;nomatch y
     by_cases N:RoK ks n r
     .obtain⟨o,e,rfl⟩:=on (i:=2) (f:=aq m_6 (ac (ag 3) (ac (ag 4) (ac (ag 1) nZ)))) (ρ:=[z,.im (.lst (ks.map kdD)),.own ((rsF ks pre++wyF ks r j).map PR.toD),.im r.toD,.im (asD n)]) (K:=λo=>o=.nx [z,.im (.lst (ks.map kdD)),.own ((rsF ks pre++wyF ks r j).map PR.toD++(rbF ks n r).map PR.toD),.im r.toD,.im (asD n)]) (aZ (ai rfl (ai rfl (ai rfl rfl))) (DM nd hk U w1 r hkr N)) rfl (by rw[aG,aG];lia) rfl;refine gm e ?_;rw[<- bU]
      have q4:400<(rsF ks pre++wyF ks r j++rbF ks n r).length:=by
       rcases lM 400 (rsF ks pre++wyF ks r j++rbF ks n r).length with q |q
       .exact q
       .exact(M ⟨by rw[ox nd hk,H,<- fm];exact q,λ_=>N⟩).elim
      generalize rsF ks pre++wyF ks r j++rbF ks n r=L at q4;refine Dk rfl ?_;exact zD (Dj (bi (aY rfl) (bi (aY rfl) (bi (aY rfl) rfl))) (ai rfl (ai rfl (ai rfl rfl))) <| DF L PR.toD 400 "rules" (by lia) rfl)
     .refine yV ?_;refine Bp rfl ?_;exact Lw (zC (bi (aY rfl) (bi (aY rfl) (bi (aY rfl) rfl))) (ai rfl (ai rfl (ai rfl rfl))) (w3.resolve_left N))
   .rintro ρ ⟨_,n4,no⟩;exact hq ⟨by rw[oy nd hk,y];exact n4,λ_=>no⟩
 .rintro ρ ⟨_,h4,ho⟩
  rcases hb with hb |⟨r,y,A,hn⟩
  .exact absurd hb (Nat.not_lt.mpr h4)
  .exact hn (ho r y A)
end
abbrev ppT:PP->L2N
 |.i t=>[t]
 |.o t=>[t]
 |.c _ _ its=>its.map (·.1)
abbrev prT(r:PR):L2N:=r.h.toList++r.b.flatMap ppT
def DU(p:PP)(ρ:LS)(i:Nat)(h:ρ[i]?=aa (.im p.toD)):mB (m2 dIn (mIx (am i) (kI 0)) (aO (ac (kSt "in") (ac (kSt "out") nZ)))) ρ=aa (match p with |.c _ _ _=>aj | _=>af):=by
 have e:am i ρ=ip p.toD:=by unfold am;rw[h]
 cases p with
 |i t=>exact bf (av (x:=.str "in") (ar (ds:=[.str "in",sT t]) (e.trans rfl) rfl rfl) rfl rfl)
 |o t=>exact bf (av (x:=.str "out") (ar (ds:=[.str "out",sT t]) (e.trans rfl) rfl rfl) rfl rfl)
 |c w n its=>exact bf (av (x:=.str (if w then "least" else "most")) (ar (ds:=[.str (if w then "least" else "most"),.int n,.lst (its.map tiD)]) (e.trans rfl) rfl rfl) rfl (by cases w <;> rfl))
def L6(r:PR)(Q:r.b.length<=1000)(hi:∀p∈r.b,(ppT p).length<=1000):p7 [r.toD]=aa (.lst ((prT r).map sT)):=by
 apply cx;unfold uk;show wp _ [.im r.toD,.no,.no] _;apply ax;refine fc (d:=r.h.toList.map sT) ?_ ?_
 .obtain⟨w,h,b⟩:=r
  cases h with
  |none=>
   unfold pW;rw[bf (b:=af) (av (ar rfl rfl rfl) rfl rfl)]
   rfl
  |some t=>
   unfold pW;rw[bf (b:=aj) (av (ar rfl rfl rfl) rfl rfl)];show ac (mIx (am 0) (kI 1)) nZ [.im (PR.toD ⟨w,aa t,b⟩),.no,.no]=_;exact ai (ar rfl rfl rfl) rfl
 show wp _ [.im r.toD,.own (r.h.toList.map sT),.no] _;apply ax;refine eH r.b PP.toD (λpre ρ=>∃s,ρ=[.im r.toD,.own ((r.h.toList++pre.flatMap ppT).map sT),s]) (bz (ar rfl rfl rfl) rfl) ⟨.no,by simp⟩ ?_ ?_
 .rintro pre p post ρ u ⟨s,rfl⟩;refine⟨_,rfl,?_⟩
  have j:(r.h.toList++pre.flatMap ppT).length<=1+1000*1000:=by
   have M:r.h.toList.length<=1:=by cases r.h <;> simp
   have G:∀l:List PP,(∀p∈l,(ppT p).length<=1000)->(l.flatMap ppT).length<=l.length*1000:=λl=>by
    induction l with
    |nil=>intro _;simp
    |cons x l J=>
     intro h;rw[mW,bg,cL,qY];have:=h x bR;have:=J λy B=>h y (cE _ B);lia
   have N:=G pre λy B=>hi y (by rw[u];simp[B]);have H:pre.length<=1000:=by have:=congrArg iX u;rw[bg]at this;lia
   rw[bg];have:=Nat.mul_le_mul_right 1000 H;lia
  have I:=hi p (by rw[u];simp);have E:r.h.toList++(pre++[p]).flatMap ppT=(r.h.toList++pre.flatMap ppT)++ppT p:=by rw[f9];simp
  rw[E];generalize r.h.toList++pre.flatMap ppT=T at j;show wp _ [.im r.toD,.own (T.map sT),.im p.toD] _;refine bw (DU p _ 2 rfl) (λe=>?_) λe=>?_
  .cases p with
   |i t=>exact jl (d:=sT t) (ar rfl rfl rfl) rfl (by rw[aG];lia) ⟨.im (PP.toD (.i t)),by rw[bU];rfl⟩
   |o t=>exact jl (d:=sT t) (ar rfl rfl rfl) rfl (by rw[aG];lia) ⟨.im (PP.toD (.o t)),by rw[bU];rfl⟩
   |c w n its=>nomatch e
  .cases p with
   |i t=>nomatch e
   |o t=>nomatch e
   |c w n its=>
    have A:its.length<=1000:=by have:(its.map (·.1)).length<=1000:=I;rwa [aG]at this
    exact on (ds:=(its.map (·.1)).map sT) (bo (om (L:=its) (f:=tiD) (q:=(·.1)) (bz (ar rfl rfl rfl) rfl) (λz=>⟨_,rfl⟩) A)) rfl (by rw[aG,aG,aG];lia) ⟨.im (PP.toD (.c w n its)),by rw[bU];rfl⟩
 .rintro ρ ⟨s,rfl⟩;exact pw rfl (lh rfl)
abbrev eC(c:L2N)(t:LN):L2N:=if t∈c then c else c++[t]
abbrev tbF(ts:L2N):L2N:=ts.foldl eC []
abbrev tK(c:L2N):List Key:=c.map λt=>.inr (tx t)
abbrev tV(c:L2N):LD:=(bx c.length).map λ(i:Nat)=>D.int i
def L7(c:L2N)(ts:L2N)(t:LN):(ts++[t]).foldl eC c=eC (ts.foldl eC c) t:=by rw[lK];rfl
def uS(ts:L2N):∀j:L2N,j.Nodup->(ts.foldl eC j).Nodup/\(∀t,t∈ts.foldl eC j↔t∈j\/t∈ts)/\j.length<=(ts.foldl eC j).length:=by
 induction ts with
 |nil=>exact λj h=>⟨h,λt=>by simp,bL _⟩
 |cons x ts y=>
  intro j h
  have q:(eC j x).Nodup/\(∀t,t∈eC j x↔t∈j\/t=x)/\j.length<=(eC j x).length:=by
   unfold eC;split
   .rename_i p;exact⟨h,λt=>⟨.inl,λz=>z.elim id λe=>by rw[e];exact p⟩,bL _⟩
   .rename_i p;refine⟨kP.mpr ⟨h,by simp,λa s b u e=>?_⟩,λt=>by simp,by simp⟩;rw[bj.mp u]at e;rw[e]at s;exact p s
  obtain⟨a,b,c⟩:=y (eC j x) q.1;refine⟨a,λt=>?_,c9 q.2.2 c⟩;rw[foldl_cons,b t,q.2.1 t,bM,or_assoc]
def L8(c:L2N)(t:LN):mi (tK c) (.inr (tx t))=decide (t∈c):=by
 apply iU.mpr;unfold mi tK;rw[any_map,any_eq_true,decide_eq_true_eq];constructor
 .rintro⟨x,j,e⟩;have:=mJ (rG (of_decide_eq_true e));rw[<- this];exact j
 .exact λh=>⟨t,h,decide_eq_true rfl⟩
def L9(c:L2N)(t:LN)(q:c.length<=100000)(a b:Sl)(K:Fl->Prop)(k:K (.nx [a,.ownd (tK (eC c t)) (tV (eC c t)),b,.im (sT t)])):wp (my 1 (ag 3) (gM (eO 1))) [a,.ownd (tK c) (tV c),b,.im (sT t)] K:=by
 refine⟨_,?_,k⟩;unfold my;show(if mi (tK c) (.inr (tx t))=af then aa (Fl.nx [a,.ownd (tK c) (tV c),b,.im (sT t)]) else if (tK c).length<16777216 then aa (Fl.nx [a,.ownd (tK c++[.inr (tx t)]) (tV c++[.int ((tK c).length:Nat)]),b,.im (sT t)]) else ae)=_;rw[L8];unfold eC
 by_cases h:t∈c
 .rw[if_pos (decide_eq_true h),if_pos h]
 .rw[if_neg (by rw[decide_eq_false h];exact cy),if_neg h];have e:(tK c).length=c.length:=by unfold tK;rw[aG]
  rw[e,if_pos (by lia)];have j:tK (c++[t])=tK c++[.inr (tx t)]:=by unfold tK;rw[bU];rfl
  have p:tV (c++[t])=tV c++[.int (c.length:Nat)]:=by
   unfold tV;rw[bg,fj,range_succ,bU];rfl
  rw[j,p]
variable{K:Fl->Prop}
def DV(rs:List PR)(E:rs.length<=1000)(B:∀r∈rs,r.b.length<=1000/\∀p∈r.b,(ppT p).length<=1000)(h:(tbF (rs.flatMap prT)).length<=9000)(k:∀u c,K (.nx [.im (.lst (rs.map PR.toD)),.ownd (tK (tbF (rs.flatMap prT))) (tV (tbF (rs.flatMap prT))),u,c])):
  wp (cw (aS (ag 0)) (aJ 2) (cw (aS (aq p7 (ac (ag 2) nZ))) (aJ 3) (my 1 (ag 3) (gM (eO 1))))) [.im (.lst (rs.map PR.toD)),.ownd (tK (tbF [])) (tV (tbF [])),.no,.no] K:=by
 have j:∀a b:L2N,rs.flatMap prT=a++b->(tbF a).length<=9000:=λa b e=>by
  rw[e]at h;unfold tbF at h ⊢;rw[lK]at h;have:=(uS b (a.foldl eC []) (uS a [] dE).1).2.2;lia
 refine eH rs PR.toD (λpre ρ=>∃u c,ρ=[.im (.lst (rs.map PR.toD)),.ownd (tK (tbF (pre.flatMap prT))) (tV (tbF (pre.flatMap prT))),u,c]) (bz rfl rfl) ⟨_,_,rfl⟩ ?_ ?_
 .rintro pre r post ρ y ⟨u,c,rfl⟩;refine⟨_,rfl,?_⟩;obtain⟨z,A⟩:=B r (by rw[y];simp);refine eH (prT r) sT (λq ρ=>∃c,ρ=[.im (.lst (rs.map PR.toD)),.ownd (tK (tbF (pre.flatMap prT++q))) (tV (tbF (pre.flatMap prT++q))),.im r.toD,c]) (bz (aZ (ai rfl rfl) (L6 r z A)) rfl) ⟨_,by rw[dh];rfl⟩ ?_ ?_
  .rintro q t s ρ x ⟨c,rfl⟩;refine⟨_,rfl,?_⟩;have G:=j (pre.flatMap prT++q) (t::s++post.flatMap prT) (by rw[y,f9,mW,x];simp);refine L9 (tbF (pre.flatMap prT++q)) t (by lia) _ _ _ ⟨.im (sT t),?_⟩;rw[<- fm];show _=[_,Sl.ownd (tK ((pre.flatMap prT++q++[t]).foldl eC [])) (tV ((pre.flatMap prT++q++[t]).foldl eC [])),_,_];rw[L7];rfl
  .rintro ρ ⟨c,rfl⟩;refine⟨.im r.toD,c,?_⟩;rw[f9];simp
 .rintro ρ ⟨u,c,rfl⟩;exact k u c
def DY(T:L2N)(k:Int)(w:Str):je (aq cI (ac (ag 0) nZ)) (gM (ag 0)) [.im (.kd (tK T) (tV T)),.im (.int k),.im (.str w)]=aa (.int (T.length:Nat)):=by
 show aa (D.int ((tK T).length:Nat))=_;unfold tK;rw[aG]
def Ma(rs:List PR)(s:rs.length<=1000)(q:∀r∈rs,r.b.length<=1000/\∀p∈r.b,(ppT p).length<=1000)(c:(tbF (rs.flatMap prT)).length<=60):ul [.lst (rs.map PR.toD)]=aa (.kd (tK (tbF (rs.flatMap prT))) (tV (tbF (rs.flatMap prT)))):=by
 apply cx;unfold p8;show wp _ [.im (.lst (rs.map PR.toD)),.no,.no,.no] _;apply ax;refine nG (o:=.nx [.im (.lst (rs.map PR.toD)),.ownd (tK (tbF [])) (tV (tbF [])),.no,.no]) rfl ?_;apply ax;refine DV rs s q (by lia) λe h=>?_;generalize tbF (rs.flatMap prT)=T at c;apply ax;refine Bt (ks:=tK T) (xs:=tV T) rfl ?_;show wp _ [.im (.lst (rs.map PR.toD)),.im (.kd (tK T) (tV T)),e,h] _
 have j:iM [.kd (tK T) (tV T),.int 60,.str "things"]=aa .non:=by
  apply cx;show wp _ [.im (.kd (tK T) (tV T)),.im (.int 60),.im (.str "things")] _;refine bw (bf (av (DY T _ _) rfl ml)) (λz=>?_) λ_=>ce ⟨_,rfl,rfl⟩;have:=of_decide_eq_true z;lia
 refine g7 (aZ (ai rfl (ai rfl (ai rfl rfl))) j) ?_;refine⟨_,rfl,cB rfl⟩
def Mb(rs:List PR)(u:rs.length<=1000)(s:∀r∈rs,r.b.length<=1000/\∀p∈r.b,(ppT p).length<=1000)(q:(tbF (rs.flatMap prT)).length<=9000)(j:60<(tbF (rs.flatMap prT)).length):Rz (yo [.lst (rs.map PR.toD)]) (ul [.lst (rs.map PR.toD)]):=by
 refine zR ?_;show Rz (um [.im (.lst (rs.map PR.toD)),.no,.no,.no]) (p8 [.im (.lst (rs.map PR.toD)),.no,.no,.no]);refine gm (ρ1:=[.im (.lst (rs.map PR.toD)),.ownd (tK (tbF [])) (tV (tbF [])),.no,.no]) rfl ?_;obtain⟨o,e,c,h,rfl⟩:=DV rs u s q (K:=λo=>∃c h,o=.nx [.im (.lst (rs.map PR.toD)),.ownd (tK (tbF (rs.flatMap prT))) (tV (tbF (rs.flatMap prT))),c,h]) λc h=>⟨c,h,rfl⟩;refine gm e (zH ?_);generalize tbF (rs.flatMap prT)=T at j;refine Ly rfl ?_;exact zD (zC (bi (aY rfl) (bi (aY rfl) (bi (aY rfl) rfl))) (ai rfl (ai rfl (ai rfl rfl))) (DD (m:=T.length) 60 "things" (DY T _ _) (by lia) rfl))
abbrev pos(c:L2N)(t:LN):Nat:=c.idxOf t
def D0(t:LN):∀(c:L2N) (xs:LD),c.length=xs.length->t∈c->gI (tK c) xs (.inr (tx t))=xs[c.idxOf t]?
 | [],_,_,h=>(cp h).elim
 |a::c,[],hl,_=>by simp at hl
 |a::c,x::xs,hl,h=>by
  have j:=D0 t c xs (by simpa using hl);unfold gI tK at j ⊢;rw[di,oH,find?_cons,idxOf_cons]
  by_cases e:a=t
  .subst e;simp
  .rw[decide_eq_false (λz=>e (mJ (rG z))),beq_eq_false_iff_ne.mpr e];show Option.map _ (List.find? _ _)=_;rw[j ((bM.mp h).resolve_left (cq e))];simp
def ixT{c:L2N}{t:LN}(h:t∈c):iB (.kd (tK c) (tV c)) (sT t)=aa (.int (pos c t:Nat)):=by
 show gI (tK c) (tV c) (.inr (tx t))=_;have e:c.idxOf t<c.length:=idxOf_lt_length_of_mem h;rw[D0 t c (tV c) (by unfold tV;rw[aG,cK]) h];unfold tV;rw[fS,qR e];rfl
@[reducible]noncomputable def niD(c:L2N)(z:LN×Int):D:=.tup [.int (pos c z.1:Nat),.int z.2]
@[reducible]noncomputable def PP.nD(e:L2N):PP->D
 |.i t=>.tup [.str "in",.int (pos e t:Nat)]
 |.o t=>.tup [.str "out",.int (pos e t:Nat)]
 |.c w n its=>.tup [.str (if w then "least" else "most"),.int n,.lst (its.map (niD e))]
@[reducible]noncomputable def hnD(c:L2N):Option LN->D
 |none=>.non
 |some t=>.int (pos c t:Nat)
@[reducible]noncomputable def PR.nD(c:L2N)(r:PR):D:=.tup [.str r.w,hnD c r.h,.lst (r.b.map (PP.nD c))]
def Mc(j:L2N)(p:PP)(h:∀t∈ppT p,t∈j)(q:(ppT p).length<=1000):yi [p.toD,.kd (tK j) (tV j)]=aa (p.nD j):=by
 apply cx;unfold uh;show wp _ [.im p.toD,.im (.kd (tK j) (tV j))] _;apply ax;refine bw (DU p _ 0 rfl) (λe=>?_) λe=>ce ?_
 .cases p with
  |i t=>exact dn (aX (ai (ar rfl rfl rfl) (ai (av rfl (ar rfl rfl rfl) (ixT (h t (by simp[ppT])))) rfl))) (cB rfl)
  |o t=>exact dn (aX (ai (ar rfl rfl rfl) (ai (av rfl (ar rfl rfl rfl) (ixT (h t (by simp[ppT])))) rfl))) (cB rfl)
  |c w n its=>nomatch e
 .cases p with
  |i t=>nomatch e
  |o t=>nomatch e
  |c w n its=>
   have s:its.length<=1000:=by have:(its.map (·.1)).length<=1000:=q;rwa [aG]at this
   refine dn (aX (ai (ar rfl rfl rfl) (ai (ar rfl rfl rfl) (ai (bo (fZ its tiD (niD j) (bz (ar rfl rfl rfl) rfl) (by lia) λz hz=>?_)) rfl)))) (cB rfl);exact fB rfl rfl (aX (ai (av rfl rfl (ixT (h z.1 (bZ.mpr ⟨z,hz,rfl⟩)))) (ai rfl rfl)))
def Md(c:L2N)(r:PR)(h:∀t∈prT r,t∈c)(s:r.b.length<=1000)(j:∀p∈r.b,(ppT p).length<=1000):yj [r.toD,.kd (tK c) (tV c)]=aa (r.nD c):=by
 apply cx;unfold uj;show wp _ [.im r.toD,.im (.kd (tK c) (tV c)),.no] _;apply ax;refine b6 (d:=hnD c r.h) ?_ ?_
 .obtain⟨w,hd,b⟩:=r;unfold vIf
  cases hd with
  |none=>rw[bf (b:=af) (av (ar rfl rfl rfl) rfl rfl)];rfl
  |some t=>
   rw[bf (b:=aj) (av (ar rfl rfl rfl) rfl rfl)];show m2 iB (ag 1) (mIx (am 0) (kI 1)) [.im (PR.toD ⟨w,aa t,b⟩),.im (.kd (tK c) (tV c)),.no]=_;exact av rfl (ar rfl rfl rfl) (ixT (h t (by simp[prT])))
 exact dn (aX (ai (ar rfl rfl rfl) (ai rfl (ai (bo (fZ r.b PP.toD (PP.nD c) (bz (ar rfl rfl rfl) rfl) (by lia) λp e=>fB rfl rfl (aZ (ai rfl (ai rfl rfl)) (Mc c p (λt q=>h t (b8.mpr (.inr (dY.mpr ⟨p,e,q⟩)))) (j p e))))) rfl)))) (cB rfl)
abbrev plR(rs:List Ro):List PR:=rsF (cz rs) rs
abbrev plT(rs:List Ro):L2N:=tbF ((plR rs).flatMap prT)
@[reducible]noncomputable def plD(rs:List Ro):D:=.tup [.lst ((plT rs).map sT),.tup [.int ((plT rs).length:Nat),.lst ((plR rs).map (PR.nD (plT rs)))]]
structure PlK(rs:List Ro):Prop where
 g:iH rs
 l:rs.length<=1000
 n:((cz rs).map (·.1)).Nodup
 k:∀r∈rs,dO r=aj->RwK (cz rs) r
 r:(plR rs).length<=400
 b:∀r∈plR rs,r.b.length<=1000/\∀p∈r.b,(ppT p).length<=1000
 t:(plT rs).length<=60
def Me(rs:List Ro)(h:PlK rs):m_1 [.lst (rs.map Ro.toD)]=aa (plD rs):=by
 apply cx;unfold b_1;show wp _ [.im (.lst (rs.map Ro.toD)),.no,.no] _;have j:=uM rs;have q:=h.l;have c:=h.r;apply ax;refine b6 (d:=.lst ((plR rs).map PR.toD)) (aZ (ai rfl (ai (aZ (ai rfl rfl) (yU rs h.g h.l)) rfl)) (DR h.n (by lia) rs h.l h.k h.r)) ?_;show wp _ [.im (.lst (rs.map Ro.toD)),.im (.lst ((plR rs).map PR.toD)),.no] _;apply ax;refine b6 (d:=.kd (tK (plT rs)) (tV (plT rs))) (aZ (ai rfl rfl) (Ma (plR rs) (by lia) h.b h.t)) ?_;show wp _ [.im (.lst (rs.map Ro.toD)),.im (.lst ((plR rs).map PR.toD)),.im (.kd (tK (plT rs)) (tV (plT rs)))] _;have e:∀r∈plR rs,∀t∈prT r,t∈plT rs:=λr c t p=>((uS ((plR rs).flatMap prT) [] dE).2.1 t).mpr (.inr (dY.mpr ⟨r,c,p⟩));refine dn (aX (ai (d:=.lst ((plT rs).map sT)) (bo ?_) (ai (aX (ai (d:=.int ((plT rs).length:Nat)) ?_ (ai (bo (fZ (plR rs) PR.toD (PR.nD (plT rs)) (bz rfl rfl) (by lia) λr c=>fB rfl rfl (aZ (ai rfl (ai rfl rfl)) (Md (plT rs) r (e r c) (h.b r c).1 (h.b r c).2)))) rfl))) rfl))) (cB rfl)
 .show aa ((tK (plT rs)).map kD)=_;unfold tK;rw[map_map];rfl
 .show aa (D.int ((tK (plT rs)).length:Nat))=_;unfold tK;rw[aG]
def Mf{f:MF2}(h:f ρ=ae):aq m f ρ=ae:=by unfold aq;rw[h];rfl
def Mg(rs:List Ro)(g:iH rs)(c:rs.length<=1000)(h:Rz (uA [.lst (rs.map Ro.toD),.lst ((cz rs).map kdD)]) (m_8 [.lst (rs.map Ro.toD),.lst ((cz rs).map kdD)])):Rz (ku [.lst (rs.map Ro.toD)]) (m_1 [.lst (rs.map Ro.toD)]):=by
 refine zR ?_;show Rz (mG [.im (.lst (rs.map Ro.toD)),.no,.no]) (b_1 [.im (.lst (rs.map Ro.toD)),.no,.no]);have e:=aZ (f:=ac (ag 0) nZ) (ρ:=[.im (.lst (rs.map Ro.toD)),.no,.no]) (ai rfl rfl) (yU rs g c);exact yV (wN (zC (bi (aY rfl) (bi (aY e) rfl)) (ai rfl (ai e rfl)) h))
def Mh(rs:List Ro)(g:iH rs)(c:rs.length<=1000)(n:((cz rs).map (·.1)).Nodup)(k:∀r∈rs,dO r=aj->RwK (cz rs) r)(j:(plR rs).length<=400)(b:∀r∈plR rs,r.b.length<=1000/\∀p∈r.b,(ppT p).length<=1000)(s:(plT rs).length<=9000)(q:60<(plT rs).length):Rz (ku [.lst (rs.map Ro.toD)]) (m_1 [.lst (rs.map Ro.toD)]):=by
 refine zR ?_;show Rz (mG [.im (.lst (rs.map Ro.toD)),.no,.no]) (b_1 [.im (.lst (rs.map Ro.toD)),.no,.no]);have h:=uM rs;obtain⟨o,e,rfl⟩:=b6 (i:=1) (ρ:=[.im (.lst (rs.map Ro.toD)),.no,.no]) (f:=aq m_8 (ac (ag 0) (ac (aq m_3 (ac (ag 0) nZ)) nZ))) (K:=λo=>o=.nx [.im (.lst (rs.map Ro.toD)),.im (.lst ((plR rs).map PR.toD)),.no]) (aZ (ai rfl (ai (aZ (ai rfl rfl) (yU rs g c)) rfl)) (DR n (by lia) rs c k j)) rfl;exact gm e (zH (wN (zC (bi (aY rfl) rfl) (ai rfl rfl) (Mb (plR rs) (by lia) b s q))))
@[reducible]noncomputable def rW:Ro:=.rule aj ([112],[[87]]) [] []
def D3(ks:List Kd)(y:ks.length<=1000):Rz (r_4 [rW.toD,.lst (ks.map kdD)]) (m_4 [rW.toD,.lst (ks.map kdD)]):=by
 refine zR ?_;show Rz (uf [.im rW.toD,.im (.lst (ks.map kdD)),.no,.no]) (b_4 [.im rW.toD,.im (.lst (ks.map kdD)),.no,.no]);have j:m_2 [.lst [],.lst [],.lst (ks.map kdD)]=aa .non:=yQ ks [] [] (uL dE).1 (by decide) y
 have s:cJ (aq m_2 (ac (mIx (am 0) (m1 bP (kI 1))) (ac (aw nZ) (ac (ag 1) nZ)))) [.im rW.toD,.im (.lst (ks.map kdD)),.no,.no]=aa (.nx [.im rW.toD,.im (.lst (ks.map kdD)),.no,.no]):=by
  have w:wp (cJ (aq m_2 (ac (mIx (am 0) (m1 bP (kI 1))) (ac (aw nZ) (ac (ag 1) nZ))))) [.im rW.toD,.im (.lst (ks.map kdD)),.no,.no] (λo=>o=.nx [.im rW.toD,.im (.lst (ks.map kdD)),.no,.no]):=g7 (aZ (ai (ow rW (λ_ _ z=>nomatch z) _) (ai rfl (ai rfl rfl))) j) rfl;obtain⟨o,e,rfl⟩:=w;exact e
 refine gm s (zF (ds:=[usD ([[87]],[])]) (bz (aZ (ai rfl rfl) (Dg rW (λ_ _ z=>nomatch z) ⟨by decide,by decide,λ_ z=>(cp z).elim⟩)) rfl) ?_);refine qy (f:=usD) (I:=λp ρ=>p=[]/\ρ=[.im rW.toD,.im (.lst (ks.map kdD)),.no,.no]) [([[87]],[])] [] _ ⟨rfl,rfl⟩ ?_ (λρ z=>nomatch z.1);rintro p x q c ρ ⟨rfl,rfl⟩;replace c:[(([[87]],[]):Us)]=x::q:=c;obtain⟨rfl,rfl⟩:=mY c;refine⟨[.im rW.toD,.im (.lst (ks.map kdD)),.im (.lst [sT [87]]),.im (.lst [])],rfl,.inl ?_⟩
 have u:cJ (aq m_2 (ac (ag 3) (ac (mIx (am 0) (m1 bP (kI 1))) (ac (ag 1) nZ)))) [.im rW.toD,.im (.lst (ks.map kdD)),.im (.lst [sT [87]]),.im (.lst [])]=aa (.nx [.im rW.toD,.im (.lst (ks.map kdD)),.im (.lst [sT [87]]),.im (.lst [])]):=by
  have w:wp (cJ (aq m_2 (ac (ag 3) (ac (mIx (am 0) (m1 bP (kI 1))) (ac (ag 1) nZ))))) [.im rW.toD,.im (.lst (ks.map kdD)),.im (.lst [sT [87]]),.im (.lst [])] (λo=>o=.nx [.im rW.toD,.im (.lst (ks.map kdD)),.im (.lst [sT [87]]),.im (.lst [])]):=g7 (aZ (ai rfl (ai (ow rW (λ_ _ z=>nomatch z) _) (ai rfl rfl))) j) rfl;obtain⟨o,e,rfl⟩:=w;exact e
 have h:m2 bX (mIx (am 0) (m1 bP (kI 1))) (ag 3) [.im rW.toD,.im (.lst (ks.map kdD)),.im (.lst [sT [87]]),.im (.lst [])]=aa (.lst []):=av (ow rW (λ_ _ z=>nomatch z) _) rfl rfl;refine gm u (zD (zC (bi (aY rfl) (bi (aY h) rfl)) (ai rfl (ai h rfl)) ?_));exact⟨by decide +kernel,Option.isNone_iff_eq_none.mp (by decide +kernel)⟩
def Mi(pre:List Ro)(h:iH pre)(J:pre.length<=1000):Rz (r_3 [.lst ((pre++[rW]).map Ro.toD)]) (m_3 [.lst ((pre++[rW]).map Ro.toD)]):=by
 refine zR ?_;show Rz (ug [.im (.lst ((pre++[rW]).map Ro.toD)),.no,.no]) (b_3 [.im (.lst ((pre++[rW]).map Ro.toD)),.no,.no]);refine gm (ρ1:=[.im (.lst ((pre++[rW]).map Ro.toD)),.own [],.no]) rfl (zH (zF (ds:=(pre++[rW]).map Ro.toD) (bz rfl rfl) ?_));generalize Sl.im (.lst ((pre++[rW]).map Ro.toD))=z;refine qy (I:=λp ρ=>(∃y,ρ=[z,.own ((cz p).map kdD),y])/\p.length<=pre.length) (pre++[rW]) [] _ ⟨⟨_,rfl⟩,gs _⟩ ?_ λρ q=>?_
 .rintro p x q c ρ ⟨⟨y,rfl⟩,L⟩;refine⟨[z,.own ((cz p).map kdD),.im x.toD],rfl,?_⟩;replace c:pre++[rW]=p++x::q:=c;have H:=uM p
  rcases lM p.length pre.length with hlt |hge
  .obtain⟨u,rfl⟩:∃u,pre=p++x::u:=by
    refine⟨pre.drop (p.length+1),?_⟩;have j:=congrArg (List.take (p.length+1)) c;rw[take_append_of_le_length (by lia),take_length_add_append]at j;have G:List.take 1 (x::q)=[x]:=rfl;rw[G]at j
    conv=>lhs;rw[<- oG (p.length+1) pre,j]
    simp
   obtain⟨B,E⟩:=h p x u rfl;obtain⟨o,e,rfl⟩:=Di z (cz p) x B E (by lia);exact .inr ⟨_,e,⟨_,by rw[Dh]⟩,by rw[bg,fj];lia⟩
  .have s:p.length=pre.length:=by lia
   obtain⟨rfl,A⟩:=append_inj c s.symm;obtain⟨rfl,rfl⟩:=mY A;refine .inl (zJ (yS rW _ _) ?_);refine⟨?_,?_⟩
   .unfold rIf
    rw[tX1 (yS rW _ _)];exact(Dk (o:=(ae:Option Fl)) rfl ⟨rC1 (bi (aY rfl) (bi (aY rfl) rfl)) (D3 (cz pre) (by lia)).1,rfl⟩).1
   .exact(zD (Dj (rd:=r_4) (ρ:=[.im rW.toD,.im (.lst ((cz pre).map kdD))]) (fx:=aI (mX (ag 0)) (aI (mX (ag 1)) bc)) (bi (aY rfl) (bi (aY rfl) rfl)) (ai rfl (ai rfl rfl)) (D3 (cz pre) (by lia)))).2
 .have:=q.2;rw[nil_append,bg,fj]at this;lia
def Mj(d x:D)(h:m_1 [d]=aa x):m_5 [d]=aa (.lst [x]):=by
 apply cx;unfold b_5;show wp _ [.im d,.no,.no] _;apply ax;refine b6 (d:=.lst []) rfl ?_;apply ax;refine nG (o:=.nx [.im d,.im (.lst [x]),.no]) ?_ (mm rfl (cB rfl));obtain⟨o,e,rfl⟩:=b6 (i:=1) (ρ:=[.im d,.im (.lst []),.no]) (f:=aw (ac (aq m_1 (ac (ag 0) nZ)) nZ)) (K:=λo=>o=.nx [.im d,.im (.lst [x]),.no]) (bo (ai (aZ (ai rfl rfl) h) rfl)) rfl;unfold iL
 show(match bD 1 _ [.im d,.im (.lst []),.no]with |some o=>aa o |none=>_)=_
 rw[e]
def D4(d:D)(h:m_1 [d]=ae):bD 1 (aw (ac (aq m_1 (ac (ag 0) nZ)) nZ)) [.im d,.im (.lst []),.no]=ae:=by
 unfold bD aw;rw[uP (show aq m_1 (ac (ag 0) nZ) [.im d,.im (.lst []),.no]=ae by unfold aq;rw[ai rfl rfl];exact h)];rfl
def D5{r:LD->Bool}(bs:List Bool)(h:r [d]=af):jw (c8 rNo r (aI (mX (ag 0)) bc)) 1 bs [.im d,.im (.lst []),.no]=aa (.nx [.no,.im (.lst (bs.map D.bl)),.no]):=by
 unfold jw;exact if_pos (rC1 (bi (aY rfl) rfl) h)
def D6(d:D)(h:Rz (ku [d]) (m_1 [d])):m_5 [d]=aa (.lst [.bl af,.bl aj,.bl af,.bl aj]):=by
 apply cx;unfold b_5;show wp _ [.im d,.no,.no] _;apply ax;refine b6 (d:=.lst []) rfl ?_;apply ax;refine nG (o:=.nx [.no,.im (.lst [.bl af,.bl aj,.bl af,.bl aj]),.no]) ?_ (mm rfl (cB rfl));show iL _ (iL _ _) [.im d,.im (.lst []),.no]=_;unfold iL;rw[D4 d h.2]
 show(match jw _ 1 _ [.im d,.im (.lst []),.no]with |some o=>aa o |none=>_)=_
 rw[D5 _ h.1];rfl
def Mk(rs:List Ro)(h:iH rs)(u:rs.length<=1000):m_5 [.lst ((rs++[rW]).map Ro.toD)]=aa (.lst [.bl aj,.bl af,.bl af,.bl aj]):=by
 have q:=Mi rs h u;generalize D.lst ((rs++[rW]).map Ro.toD)=d at q
 have c:aq m_3 (ac (ag 0) nZ) [.im d,.no,.no]=ae:=by
  unfold aq;rw[ai rfl rfl];exact q.2
 have e:bD 1 (aq m_8 (ac (ag 0) (ac (aq m_3 (ac (ag 0) nZ)) nZ))) [.im d,.no,.no]=ae:=by
  unfold bD;rw[show aq m_8 (ac (ag 0) (ac (aq m_3 (ac (ag 0) nZ)) nZ)) [.im d,.no,.no]=ae from Mf (qA (uP c))];rfl
 have x:m_1 [d]=ae:=(zR (k:=3) (F:=b_1) (ds:=[d]) (b:=af) (zH (F:=bD 1 _) ⟨rfl,e⟩)).2
 have s:ku [d]=aj:=by
  show mG [.im d,.no,.no]=aj;unfold mG dg;rw[e,Bool.or_eq_false_iff];refine⟨?_,rfl⟩;unfold c8
  have:aI (mX (ag 0)) (aI (mX (aq m_3 (ac (ag 0) nZ))) bc) [.im d,.no,.no]=ae:=by
   show Option.map _ ((Option.map _ (aq m_3 (ac (ag 0) nZ) [.im d,.no,.no])).bind _)=ae;rw[c];rfl
  rw[this];rfl
 have p:r_1 [d]=af:=by
  show qe [.im d,.no,.no]=af;unfold qe;exact rE2 (aY rfl) (rC1 (bi (aY rfl) rfl) q.1)
 apply cx;unfold b_5;show wp _ [.im d,.no,.no] _;apply ax;refine b6 (d:=.lst []) rfl ?_;apply ax;refine nG (o:=.nx [.no,.im (.lst [.bl aj,.bl af,.bl af,.bl aj]),.no]) ?_ (mm rfl (cB rfl));show iL _ (iL _ _) [.im d,.im (.lst []),.no]=_;unfold iL;rw[D4 d x]
 have j:jw (c8 rNo ku (aI (mX (ag 0)) bc)) 1 [af,aj,af,aj] [.im d,.im (.lst []),.no]=ae:=by
  unfold jw;refine if_neg λz=>?_;have z:c8 rNo ku (aI (mX (ag 0)) bc) [.im d,.im (.lst []),.no]=af:=z;unfold c8 at z;rw[bi (aY rfl) rfl]at z;replace z:ku [d]=af:=z;rw[s]at z
  nomatch z
 show(match jw _ 1 _ [.im d,.im (.lst []),.no]with |some o=>aa o |none=>_)=_
 rw[j];exact D5 _ p
abbrev lD:List Kd->List Ro->Prop
 | _,[]=>True
 |ks,r::rs=>(qx ks r/\RoS r)/\lD (ks++jC r) rs
def D7:∀(a b:List Ro) (ks:List Kd),lD ks a->lD (ks++cz a) b->lD ks (a++b)
 | [],b,ks,_,h=>by simpa[cz]using h
 |r::a,b,ks,h,h2=>⟨h.1,D7 a b _ h.2 (by rw[fm];exact h2)⟩
def D8:∀(pre:List Ro) (r:Ro) (post:List Ro) (ks:List Kd),lD ks (pre++r::post)->qx (ks++cz pre) r/\RoS r
 | [],r,post,ks,h=>by
  have:=h.1;rw[show cz []=[]from rfl,dh]
  exact this
 |x::pre,r,post,ks,h=>by
  have:=D8 pre r post _ h.2;rw[fm]at this;exact this
def Ml{rs:List Ro}(h:lD [] rs):iH rs:=λpre r post e=>by
 subst e;exact D8 pre r post [] h
abbrev lE(k:Kd):Ro:=.kind k.1 k.2
def Mm(a b:List Ro):cz (a++b)=cz a++cz b:=by
 unfold cz;rw[f9]
def zb:∀ks:List Kd,cz (ks.map lE)=ks
 | []=>rfl
 |k::ks=>by
  have:=zb ks;unfold cz at this;show[(k.1,k.2)]++(ks.map lE).flatMap jC=_;rw[this];rfl
def D9:∀(b a:List Kd),((a++b).map (·.1)).Nodup->(∀k∈b,k.2.Nodup/\k.2.length<=100)->lD a (b.map lE)
 | [],_,_,_=>trivial
 |k::b,a,h,h2=>by
  refine⟨⟨⟨λz=>?_,(h2 k bR).1⟩,(h2 k bR).2⟩,?_⟩
  .rw[bU,kP]at h;exact h.2.2 _ z _ bR rfl
  .refine D9 b _ ?_ λx c=>h2 x (cE _ c);show((a++[(k.1,k.2)]++b).map (·.1)).Nodup;rw[fm];exact h
structure eI(ks:List Kd)(r:Ro):Prop where
 k:dO r=aj
 o:qw (ks.map (·.1)) r
 s:RoS r
def Ea{ks:List Kd}:∀{aB:List Ro},(∀r∈aB,eI ks r)->lD ks aB
 | [],_=>trivial
 |r::aB,h=>by
  have c:=h r bR
  have e:jC r=[]/\qx ks r:=by
   obtain⟨a,b,_⟩:=c
   cases r with
   |kind n ns=>nomatch a
   |rule p t bd ps=>exact⟨rfl,b⟩
   |choose lo hi its ov bd ps=>exact⟨rfl,b⟩
   |never bd ps=>exact⟨rfl,b⟩
  exact⟨⟨e.2,c.s⟩,by rw[e.1,dh];exact Ea λx j=>h x (cE _ j)⟩
def Eb{ks:List Kd}:∀{aB:List Ro},(∀r∈aB,eI ks r)->cz aB=[]
 | [],_=>rfl
 |r::aB,h=>by
  have c:=(h r bR).k
  have e:jC r=[]:=by cases r with
   |kind n ns=>nomatch c
   | _=>rfl
  have:=Eb λx j=>h x (cE _ j);unfold cz at this ⊢;rw[mW,e,this];rfl
abbrev aW(ks:List Kd)(aB:List Ro):List Ro:=ks.map lE++aB
structure iN(ks:List Kd):Prop where
 nd:(ks.map (·.1)).Nodup
 k:∀k∈ks,k.2.Nodup/\k.2.length<=12
 l:ks.length<=2
section
variable{ks:List Kd}{aB:List Ro}(hk:iN ks)(hr:∀r∈aB,eI ks r)
include hk hr
def uT:iH (aW ks aB):=by
 apply Ml;refine D7 _ _ _ (D9 ks [] (by simpa using hk.nd) λk h=>⟨(hk.k k h).1,by have:=(hk.k k h).2;lia⟩) ?_;rw[zb,nil_append];exact Ea hr
def oz:cz (aW ks aB)=ks:=by
 unfold aW;rw[Mm,zb,Eb hr,dh]
def Mn(c:List Kd):rsF ks (c.map lE)=[]:=by
 unfold rsF;rw[flatMap_eq_nil_iff];intro x e;obtain⟨k,_,rfl⟩:=bZ.mp e;rfl
def mM:plR (aW ks aB)=aB.flatMap (rwF ks):=by
 unfold plR;rw[oz hk hr];unfold aW;show rsF ks (ks.map lE++aB)=_;have:rsF ks (ks.map lE++aB)=rsF ks (ks.map lE)++rsF ks aB:=by unfold rsF;rw[f9]
 rw[this,Mn hk hr,nil_append];unfold rsF;rw[flatMap_def,flatMap_def,qW λr h=>show(if dO r=af then [] else rwF ks r)=rwF ks r by rw[(hr r h).k];rfl]
def lF(c:aB.length<=900):(aW ks aB).length<=1000:=by
 unfold aW;rw[bg,aG];have:=hk.l;lia
end
abbrev cR(ks:List Kd)(aB:List Ro):Nat:=(aB.map λr=>(rwF ks r).length).sum
def zc(ks:List Kd)(a b:List Ro):cR ks (a++b)=cR ks a+cR ks b:=by
 unfold cR;rw[bU,sum_append]
def Mo(ks:List Kd)(r:Ro)(b:List Ro):cR ks (r::b)=(rwF ks r).length+cR ks b:=by
 unfold cR;rw[di,sum_cons]
def Ec(ks:List Kd)(r:Ro)(n:Nat)(b:List Ro):cR ks (b.take n++r::b.drop n)=(rwF ks r).length+cR ks b:=by
 have:=zc ks (b.take n) (b.drop n);rw[oG]at this;rw[zc,Mo];lia
def oA(ks:List Kd)(aB:List Ro):(aB.flatMap (rwF ks)).length=cR ks aB:=by
 unfold cR;rw[length_flatMap]
def zd(ks:List Kd)(n:As)(bd:List Pa)(h:bd.length<=100)(j:∀p∈bd,PaK ks n p):(bdF ks n bd).length<=100/\∀p∈bdF ks n bd,(ppT p).length<=60:=by
 unfold bdF;refine⟨by rw[aG];exact c9 (length_filter_le _ _) h,λp q=>?_⟩;obtain⟨x,e,rfl⟩:=bZ.mp q;obtain⟨e,s⟩:=kQ.mp e;have:=j x e
 cases x with
 |is t=>exact(show 1<=60 by decide)
 |no t=>exact(show 1<=60 by decide)
 |un a b=>nomatch s
 |ct w c its ov=>
  show((itF ks ov n its).map _).length<=60;rw[aG];exact this.l
variable{r:Ro}
def Mp(h:RoK ks n r):∀x∈rbF ks n r,x.b.length<=1000/\∀p∈x.b,(ppT p).length<=1000:=by
 cases r with
 |kind a b=>exact λx e=>(cp e).elim
 |rule b t bd ps=>
  intro x e;rw[bj.mp e];obtain⟨a,c⟩:=zd ks n bd h.2.1 h.2.2
  exact⟨by show(bdF ks n bd).length<=1000;lia,λp j=>c9 (c p j) (by decide)⟩
 |never bd ps=>
  intro x e;rw[bj.mp e];obtain⟨a,c⟩:=zd ks n bd h.1 h.2
  exact⟨by show(bdF ks n bd).length<=1000;lia,λp j=>c9 (c p j) (by decide)⟩
 |choose lo hi its ov bd ps=>
  intro x e;obtain⟨a,c⟩:=zd ks n bd h.2.1 h.2.2;have s:=h.1.l
  have q:∀(w:Bool) (k:Int),(bdF ks n bd++[PP.c w k (itF ks ov n its)]).length<=1000/\∀p∈bdF ks n bd++[PP.c w k (itF ks ov n its)],(ppT p).length<=1000:=λw k=>by
   refine⟨by rw[bg,fj];lia,λp j=>?_⟩
   rcases b8.mp j with j |j
   .exact c9 (c p j) (by decide)
   .rw[bj.mp j];show((itF ks ov n its).map _).length<=1000;rw[aG];lia
  rcases b8.mp e with e |e
  .obtain⟨z,_,rfl⟩:=bZ.mp e;exact⟨by show(bdF ks n bd).length<=1000;lia,λp j=>c9 (c p j) (by decide)⟩
  .rcases bM.mp e with rfl |e
   .exact q _ _
   .rw[bj.mp e];exact q _ _
def ze(h:RwK ks r):∀x∈rwF ks r,x.b.length<=1000/\∀p∈x.b,(ppT p).length<=1000:=λx q=>by
 obtain⟨n,c,e⟩:=dY.mp q;obtain⟨c,j⟩:=kQ.mp c;exact Mp (h.k n c (by simpa using j)).1 x e
abbrev txs(ks:List Kd)(aB:List Ro):L2N:=(aB.flatMap (rwF ks)).flatMap prT
def uU{aB:List Ro}(c:iN ks)(e:∀r∈aB,eI ks r):plT (aW ks aB)=tbF (txs ks aB):=by
 unfold plT;rw[mM c e];rfl
def zf(ts:L2N):(tbF ts).Nodup/\∀t,t∈tbF ts↔t∈ts:=by
 obtain⟨a,b,_⟩:=uS ts [] dE;exact⟨a,λt=>by rw[show tbF ts=ts.foldl eC []from rfl,b t];simp⟩
variable{ts L:L2N}
def zg(h:∀t∈ts,t∈L):(tbF ts).length<=L.length:=zu (zf ts).1 λt c=>h t (((zf ts).2 t).mp c)
def Mq(c:L.Nodup)(h:∀t∈L,t∈ts):L.length<=(tbF ts).length:=zu c λt e=>((zf ts).2 t).mpr (h t e)
def Mr{aB:List Ro}(c:iN ks)(j:∀r∈aB,eI ks r)(p:∀r∈aB,RwK ks r)(u:aB.length<=900)(s:cR ks aB<=400)(y:(tbF (txs ks aB)).length<=60):PlK (aW ks aB):=by
 refine⟨uT c j,lF c j u,by rw[oz c j];exact c.nd,λr h e=>?_,by rw[mM c j,oA];exact s,λr h=>?_,by rw[uU c j];exact y⟩
 .rw[oz c j]
  rcases b8.mp h with h |h
  .obtain⟨k,_,rfl⟩:=bZ.mp h
   nomatch e
  .exact p r h
 .rw[mM c j]at h;obtain⟨x,z,q⟩:=dY.mp h;exact ze (p x z) r q
def qB{aB:List Ro}(c:iN ks)(e:∀r∈aB,eI ks r)(q:∀r∈aB,RwK ks r)(j:aB.length<=900)(h:cR ks aB<=400)(p:(tbF (txs ks aB)).length<=60):
  m_5 [.lst ((aW ks aB).map Ro.toD)]=aa (.lst [.tup [.lst ((tbF (txs ks aB)).map sT),.tup [.int ((tbF (txs ks aB)).length:Nat),.lst ((aB.flatMap (rwF ks)).map (PR.nD (tbF (txs ks aB))))]]]):=by
 have:=Mj _ _ (Me _ (Mr c e q j h p));rw[this];show aa (D.lst [.tup [.lst ((plT (aW ks aB)).map sT),.tup [.int ((plT (aW ks aB)).length:Nat),.lst ((plR (aW ks aB)).map (PR.nD (plT (aW ks aB))))]]])=_;rw[uU c e,mM c e]
def Ed{aB:List Ro}(c:iN ks)(j:∀r∈aB,eI ks r)(s:∀r∈aB,RwW ks r)(q:aB.length<=900)(p:400<cR ks aB\/∃r∈aB,¬RwO ks r):
  m_5 [.lst ((aW ks aB).map Ro.toD)]=aa (.lst [.bl af,.bl aj,.bl af,.bl aj]):=by
 have e:=oz c j;refine D6 _ (Mg _ (uT c j) (lF c j q) ?_);rw[e];refine L5 c.nd (by have:=c.l;lia) _ (λr h e=>?_) ?_
 .rcases b8.mp h with h |h
  .obtain⟨k,_,rfl⟩:=bZ.mp h
   nomatch e
  .exact s r h
 .rcases p with p |⟨r,h,h2⟩
  .have:=mM c j;unfold plR at this;rw[e]at this;rw[this,oA];exact .inl p
  .exact .inr ⟨r,b8.mpr (.inr h),(j r h).k,h2⟩
def Ms{aB:List Ro}(c:iN ks)(j:∀r∈aB,eI ks r)(p:∀r∈aB,RwK ks r)(y:aB.length<=900)(u:cR ks aB<=400)(s:(tbF (txs ks aB)).length<=9000)(z:60<(tbF (txs ks aB)).length):
  m_5 [.lst ((aW ks aB).map Ro.toD)]=aa (.lst [.bl af,.bl aj,.bl af,.bl aj]):=by
 refine D6 _ (Mh _ (uT c j) (lF c j y) (by rw[oz c j];exact c.nd) (λr h e=>?_) (by rw[mM c j,oA];exact u) (λr h=>?_) (by rw[uU c j];exact s) (by rw[uU c j];exact z))
 .rw[oz c j]
  rcases b8.mp h with h |h
  .obtain⟨k,_,rfl⟩:=bZ.mp h
   nomatch e
  .exact p r h
 .rw[mM c j]at h;obtain⟨x,A,q⟩:=dY.mp h;exact ze (p x A) r q
def uV{aB:List Ro}(c:iN ks)(e:∀r∈aB,eI ks r)(h:aB.length<=900):
  m_5 [.lst ((aW ks aB++[rW]).map Ro.toD)]=aa (.lst [.bl aj,.bl af,.bl af,.bl aj]):=Mk _ (uT c e) (lF c e h)
@[reducible]noncomputable def nmK(f m:Nat):L2N:=(bx m).map λk=>[f,97+k]
@[reducible]noncomputable def ks1(m:Nat):List Kd:=[([107],nmK 97 m)]
@[reducible]noncomputable def ks2(a b:Nat):List Kd:=[([107],nmK 97 a),([106],nmK 98 b)]
@[reducible]noncomputable def psA(z:Bool):List Pr:=if z then [([88],[107]),([89],[107]),([90],[107])] else [([88],[107]),([89],[107])]
@[reducible]noncomputable def psV(j:Bool):List Pr:=[([88],[107]),([89],[107]),([90],if j then [106] else [107])]
@[reducible]noncomputable def psP:List Pr:=[([88],[107]),([89],[106])]
@[reducible]noncomputable def tP:Th:=([112],[[88],[89]])
@[reducible]noncomputable def t0(x:LN):Th:=(x,[])
@[reducible]noncomputable def iO(z:Bool):Ro:=.rule af (t0 [112]) [.is (t0 [113])] (psA z)
@[reducible]noncomputable def jE:Ro:=.choose 0 1 [(t0 [112],1),(t0 [113],1),(t0 [113],2)] [] [] []
@[reducible]noncomputable def gO(x:LN)(w:Int):Ro:=if w=0 then .never [.no (t0 x)] [] else .rule (decide (w=1)) (t0 x) [] []
@[reducible]noncomputable def mO(b j:Bool)(bd:List Pa):Ro:=.rule b (t0 [112]) bd (psV j)
@[reducible]noncomputable def lG(w:Bool):Ro:=.rule aj tP (if w then [.no tP] else []) psP
def zh:∀m∈bx 13,(nmK 97 m).Nodup/\(nmK 98 m).Nodup:=by decide +kernel
variable{m:Nat}
def Mt(h:m<=12):iN (ks1 m):=⟨by simp,λk c=>by
 rw[bj.mp c];exact⟨(zh m (cF.mpr (by lia))).1,by show(nmK 97 m).length<=12;rw[aG,cK];exact h⟩,by show 1<=2;decide⟩
variable{a:Nat}
def oB{b:Nat}(e:a<=12)(h:b<=12):iN (ks2 a b):=⟨by show[[107],[106]].Nodup;decide,λk c=>by
 rcases bM.mp c with rfl |c
 .exact⟨(zh a (cF.mpr (by lia))).1,by show(nmK 97 a).length<=12;rw[aG,cK];exact e⟩
 .rw[bj.mp c];exact⟨(zh b (cF.mpr (by lia))).2,by show(nmK 98 b).length<=12;rw[aG,cK];exact h⟩,by show 2<=2;decide⟩
def Mu:iN []:=⟨dE,λ_ z=>(cp z).elim,by decide⟩
variable{x:LN}
def tn0(n:As)(h:x.length<=8):lC n (t0 x):=⟨h,by show 0<=3;decide,λ_ z=>(cp z).elim⟩
def th0(vs:L2N)(x:LN):jA vs (t0 x):=λ_ z=>(cp z).elim
def tT0(n:As)(x:LN):tT n (t0 x)=x:=rfl
def iP(e:PsK ks (roP r))(hd:(vrs (roP r)).Nodup)(p:(roB r).length<=100)(h:∀n∈nbw ks (roP r) [],dN n (roB r)=aj->RoK ks n r):RwK ks r:=
 ⟨e,hd,by lia,λn c j=>⟨h n c j,by have:=za n c;have:=e.n;lia⟩⟩
def h7(ks:List Kd):PsK ks []:=⟨λ_ z=>(cp z).elim,λ_ z=>(cp z).elim,by decide⟩
def lH(K vs:L2N)(h:vs.Nodup):PsL K vs []:=uL h
def eW(ks:List Kd)(n:As):nbw ks [] n=[n]:=by
 show[n++List.zip [] []]=[n];simp
def qC(ks:List Kd)(b:Bool)(t:Th)(bd:List Pa)(ps:List Pr)(h:∀n,dN n bd=aj):rwF ks (.rule b t bd ps)=(nbw ks ps []).map λn=>PR.mk (if b then "make" else "may") (aa (tT n t)) (bdF ks n bd):=by
 unfold rwF;have:(nbw ks (roP (.rule b t bd ps)) []).filter (λn=>!dN n (roB (.rule b t bd ps)))=nbw ks ps []:=filter_eq_self.mpr λn _=>by show(!dN n bd)=af;rw[h n];rfl
 rw[this];exact map_eq_flatMap.symm
def rkS(ks:List Kd)(x:LN)(w:Int):eI ks (gO x w):=by
 unfold gO;split
 .exact⟨rfl,⟨lH _ _ dE,λp c=>by rw[bj.mp c];exact th0 _ x⟩,⟨by show 1<=100;decide,λp c=>by rw[bj.mp c];exact(show 0<=100 by decide)⟩⟩
 .exact⟨rfl,⟨lH _ _ dE,th0 _ x,λp c=>(cp c).elim⟩,⟨by show 0<=100;decide,by show 0<=100;decide,λp c=>(cp c).elim⟩⟩
def rwS(ks:List Kd)(e:x.length<=8)(w:Int):RwK ks (gO x w)/\(rwF ks (gO x w)).length=1/\(rwF ks (gO x w)).flatMap prT=[x]:=by
 unfold gO;split
 .refine⟨iP (h7 ks) dE (by show 1<=100;decide) λn _ _=>⟨by show 1<=100;decide,λp c=>by rw[bj.mp c];exact tn0 n e⟩,?_⟩
  have:rwF ks (.never [.no (t0 x)] [])=[PR.mk "never" ae [.o x]]:=by
   unfold rwF;show(oI _ (nbw ks [] [])).flatMap _=_;rw[eW];rfl
  rw[this];exact⟨rfl,rfl⟩
 .refine⟨iP (h7 ks) dE (by show 0<=100;decide) λn _ _=>⟨tn0 n e,by show 0<=100;decide,λp c=>(cp c).elim⟩,?_⟩;rw[qC _ _ _ _ _ λ_=>rfl,eW];exact⟨rfl,rfl⟩
def Ee(h:5<=m/\m<=12)(z:Bool):PsK (ks1 m) (psA z)/\PsL [[107]] [] (psA z):=by
 have j:∀p∈psA z,p.2=[107]:=by cases z <;> decide
 have e:kOf (ks1 m) [107]=nmK 97 m:=rfl;have q:(nmK 97 m).length=m:=by rw[aG,cK]
 exact⟨⟨λp c=>by rw[j p c];exact bR,λp c=>by rw[j p c,e,q];lia,by cases z <;> decide⟩,⟨by cases z <;> decide,λp c=>by rw[j p c];exact bR,by cases z <;> decide +kernel⟩,by cases z <;> decide⟩
def rkA(h:5<=m/\m<=12)(z:Bool):eI (ks1 m) (iO z):=⟨rfl,⟨(Ee h z).2,th0 _ _,λp c=>by rw[bj.mp c];exact th0 _ _⟩,⟨by show 0<=100;decide,by show 1<=100;decide,λp c=>by rw[bj.mp c];exact(show 0<=100 by decide)⟩⟩
def Mv:∀m∈bx 13,5<=m->(nbw (ks1 m) (psA aj) []).length=m*m/\(m<8->(nbw (ks1 m) (psA af) []).length=m*m*m):=by decide +kernel
def rwA(h:5<=m/\m<=12)(z:Bool):RwK (ks1 m) (iO z)/\(rwF (ks1 m) (iO z)).length=(nbw (ks1 m) (psA z) []).length/\∀t∈(rwF (ks1 m) (iO z)).flatMap prT,t∈[[112],[113],[114]]:=by
 refine⟨iP (Ee h z).1 (by show(vrs (psA z)).Nodup;cases z <;> decide) (by show 1<=100;decide) λn _ _=>⟨tn0 n (by decide),by show 1<=100;decide,λp j=>by rw[bj.mp j];exact tn0 n (by decide)⟩,?_⟩
 rw[qC _ _ _ _ _ λ_=>rfl];refine⟨by rw[aG],λt q=>?_⟩;obtain⟨x,s,c⟩:=dY.mp q;obtain⟨n,_,rfl⟩:=bZ.mp s;replace c:t∈[[112],[113]]:=c;simp only[bM,cp,or_false]at c ⊢
 rcases c with e |e <;> simp[e]
def rkB(ks:List Kd):eI ks jE:=⟨rfl,⟨lH _ _ dE,⟨lH _ _ dE,λz hz=>by
 simp only[bM,cp,or_false]at hz
 rcases hz with rfl |rfl |rfl <;> exact th0 _ _⟩,λp c=>(cp c).elim⟩,⟨by show 3<=100;decide,λz hz=>by
 simp only[bM,cp,or_false]at hz
 rcases hz with rfl |rfl |rfl <;> exact(show 0<=100 by decide)⟩,by show 0<=100;decide,λp c=>(cp c).elim⟩
def rwB(ks:List Kd):RwK ks jE/\(rwF ks jE).length=5/\∀t∈(rwF ks jE).flatMap prT,t∈[[112],[113],[114]]:=by
 have e:itF ks [] [] [(t0 [112],1),(t0 [113],1),(t0 [113],2)]=[([112],1),([113],1),([113],2)]:=by
  unfold itF;rw[eW];rfl
 have h:rwF ks jE=chF 0 1 [([112],1),([113],1),([113],2)] []:=by
  unfold rwF;show(oI _ (nbw ks [] [])).flatMap _=_;rw[eW];show chF 0 1 (itF ks [] [] [(t0 [112],1),(t0 [113],1),(t0 [113],2)]) []++[]=_;rw[e,dh]
 refine⟨iP (h7 ks) dE (by show 0<=100;decide) λn c _=>?_,by rw[h];rfl,by rw[h];decide +kernel⟩;replace c:n∈nbw ks [] []:=c;rw[eW]at c;rw[bj.mp c];refine⟨⟨h7 ks,dE,λz hz m _=>?_,by rw[e];show 3<=60;decide,by show 3<=100;decide⟩,by show 0<=100;decide,λp j=>(cp j).elim⟩;simp only[bM,cp,or_false]at hz
 rcases hz with rfl |rfl |rfl <;> exact tn0 m (by decide)
@[reducible]noncomputable def uXY:Pa:=.un [88] [89]
@[reducible]noncomputable def uZY:Pa:=.un [90] [89]
@[reducible]noncomputable def uZX:Pa:=.un [90] [88]
@[reducible]noncomputable def iQ:Pa:=.is (t0 [113])
@[reducible]noncomputable def bd0:List Pa:=[uXY,iQ,uZY]
@[reducible]noncomputable def bd2:List Pa:=[uXY,iQ,iQ]
@[reducible]noncomputable def bd1(i:Nat):List Pa:=bd0.take i++uZX::bd0.drop i
def Mw:∀b:Bool,(rwF (ks2 8 8) (mO b aj bd0)).length=392/\(∀i∈bx 4,(rwF (ks2 8 8) (mO b aj (bd1 i))).length=336)/\(rwF (ks2 12 3) (mO b af bd2)).length=396:=by decide +kernel
abbrev PaV:Pa->Prop
 |.un a b=>a∈[[88],[89],[90]]/\b∈[[88],[89],[90]]
 |.is t=>t=t0 [113]
 | _=>False
def bdV:(∀p∈bd0,PaV p)/\(∀i,∀p∈bd1 i,PaV p)/\∀p∈bd2,PaV p:=by
 have e:∀p∈bd0,PaV p:=λp c=>by
  simp only[bM,cp,or_false]at c
  rcases c with rfl |rfl |rfl
  .exact⟨by decide,by decide⟩
  .exact rfl
  .exact⟨by decide,by decide⟩
 refine⟨e,λi p c=>?_,λp c=>?_⟩
 .rcases b8.mp c with c |c
  .exact e p (mem_of_mem_take c)
  .rcases bM.mp c with rfl |c
   .exact⟨by decide,by decide⟩
   .exact e p (mem_of_mem_drop c)
 .simp only[bM,cp,or_false]at c
  rcases c with rfl |rfl |rfl
  .exact⟨by decide,by decide⟩
  .exact rfl
  .exact rfl
variable{c:Nat}
def Mx(y:0<a/\a<=12)(z:0<c/\c<=12)(j:Bool):PsK (ks2 a c) (psV j)/\PsL [[107],[106]] [] (psV j):=by
 have q:∀p∈psV j,p.2=[107]\/p.2=[106]:=by cases j <;> decide
 have s:kOf (ks2 a c) [107]=nmK 97 a:=rfl;have u:kOf (ks2 a c) [106]=nmK 98 c:=rfl
 refine⟨⟨λp h=>?_,λp h=>?_,by cases j <;> decide⟩,⟨by cases j <;> decide,λp h=>?_,by cases j <;> decide +kernel⟩,by cases j <;> decide⟩
 .show p.2∈[[107],[106]]
  rcases q p h with e |e <;> rw[e] <;> decide
 .rcases q p h with e |e
  .rw[e,s,aG,cK];exact y
  .rw[e,u,aG,cK];exact z
 .rcases q p h with e |e <;> rw[e] <;> decide
def rkV(B:0<a/\a<=12)(E:0<c/\c<=12)(b j:Bool){bd:List Pa}(h:∀p∈bd,PaV p)(Q:bd.length<=4):eI (ks2 a c) (mO b j bd)/\RwK (ks2 a c) (mO b j bd)/\∀t∈(rwF (ks2 a c) (mO b j bd)).flatMap prT,t∈[[112],[113],[114]]:=by
 obtain⟨M,N⟩:=Mx B E j;have z:vrs (psV j)=[[88],[89],[90]]:=rfl;refine⟨⟨rfl,⟨N,th0 _ _,λp q=>?_⟩,⟨by show 0<=100;decide,by lia,λp q=>?_⟩⟩,iP M (by show[[88],[89],[90]].Nodup;decide) (by show bd.length<=100;lia) λn _ _=>⟨tn0 n (by decide),by lia,λp q=>?_⟩,λt G=>?_⟩
 .have:=h p q
  cases p with
  |un x y=>exact⟨.inl (by rw[z];exact this.1),.inl (by rw[z];exact this.2)⟩
  |is t=>rw[show t=t0 [113]from this];exact th0 _ _
  |no t=>exact this.elim
  |ct w k its ov=>exact this.elim
 .have:=h p q
  cases p with
  |un x y=>trivial
  |is t=>rw[show t=t0 [113]from this];exact(show 0<=100 by decide)
  |no t=>exact this.elim
  |ct w k its ov=>exact this.elim
 .have:=h p q
  cases p with
  |un x y=>trivial
  |is t=>rw[show t=t0 [113]from this];exact tn0 n (by decide)
  |no t=>exact this.elim
  |ct w k its ov=>exact this.elim
 .obtain⟨x,I,s⟩:=dY.mp G;obtain⟨n,_,A⟩:=dY.mp I;rw[bj.mp A]at s
  rcases b8.mp s with e |e
  .rw[bj.mp e,tT0];decide
  .obtain⟨y,J,u⟩:=dY.mp e;obtain⟨p,q,rfl⟩:=bZ.mp J;obtain⟨q,H⟩:=kQ.mp q;have:=h p q
   cases p with
   |un x y=>nomatch H
   |is t=>rw[show t=t0 [113]from this]at u;rw[bj.mp u,tT0];decide
   |no t=>exact this.elim
   |ct w k its ov=>exact this.elim
def uW:∀a∈bx 13,∀b∈bx 8,(nbw (ks2 a b) psP []).length=a*b/\∀n∈nbw (ks2 a b) psP [],(nmF n [88]).length=2/\(nmF n [89]).length=2:=by decide +kernel
def uX(q:0<a/\a<=12)(s:0<c/\c<=12):PsK (ks2 a c) psP/\PsL [[107],[106]] [] psP:=by
 have h:kOf (ks2 a c) [107]=nmK 97 a:=rfl;have j:kOf (ks2 a c) [106]=nmK 98 c:=rfl;refine⟨⟨by show ∀p∈psP,p.2∈[[107],[106]];decide,λp e=>?_,by decide⟩,⟨by decide,by decide,by decide +kernel⟩,by decide⟩
 rcases bM.mp e with rfl |e
 .rw[h,aG,cK];exact q
 .rw[bj.mp e,j,aG,cK];exact s
def tnP(q:a<=12)(s:c<=7)(p:n∈nbw (ks2 a c) psP []):lC n tP:=by
 obtain⟨h,j⟩:=(uW a (cF.mpr (by lia)) c (cF.mpr (by lia))).2 n p;refine⟨by show 1<=8;decide,by show 2<=3;decide,λw e=>?_⟩;replace e:w∈[nmF n [88],nmF n [89]]:=e;simp only[bM,cp,or_false]at e
 rcases e with rfl |rfl
 .rw[h];decide
 .rw[j];decide
def thP:jA [[88],[89]] tP:=λw e=>.inl e
@[reducible]noncomputable def Pl(a b:Nat):L2N:=(nbw (ks2 a b) psP []).map λn=>tT n tP
@[reducible]noncomputable def Sl'(k:Nat):LN:=[115,97+k / 8,97+k % 8]
def PlS:(∀a∈bx 8,∀b∈bx 8,(Pl a b).Nodup)/\((bx 60).map Sl').Nodup:=by decide +kernel
def Ef(e:a<=12)(h:c<=7):(Pl a c).length=a*c:=by
 rw[aG];exact(uW a (cF.mpr (by lia)) c (cF.mpr (by lia))).1
def My{t:LN}(h:t∈Pl a c):t.head?=aa 112:=by
 obtain⟨n,_,rfl⟩:=bZ.mp h;rfl
def rkP(B:0<a/\a<=7)(s:0<c/\c<=7)(w:Bool):eI (ks2 a c) (lG w)/\RwK (ks2 a c) (lG w)/\(rwF (ks2 a c) (lG w)).length=a*c/\∀t,t∈(rwF (ks2 a c) (lG w)).flatMap prT↔t∈Pl a c:=by
 obtain⟨G,H⟩:=uX (a:=a) (c:=c) ⟨B.1,by lia⟩ ⟨s.1,by lia⟩
 have e:∀{P:Pa->Prop},P (.no tP)->∀p∈(if w then [Pa.no tP] else []),P p:=λ{P} h p z=>by
  cases w with
  |true=>rw[bj.mp z];exact h
  |false=>exact(cp z).elim
 have E:(if w then [Pa.no tP] else []).length<=1:=by cases w <;> decide
 refine⟨⟨rfl,⟨H,thP,e thP⟩,⟨by show 2<=100;decide,by lia,e (show 2<=100 by decide)⟩⟩,iP G (by show[[88],[89]].Nodup;decide) (by show(if w then [Pa.no tP] else []).length<=100;lia) λn j _=>⟨tnP (by lia) s.2 j,by lia,e (tnP (by lia) s.2 j)⟩,?_⟩
 rw[qC _ _ _ _ _ λn=>by cases w <;> rfl]
 refine⟨by rw[aG];exact(uW a (cF.mpr (by lia)) c (cF.mpr (by lia))).1,λt=>?_⟩
 have A:∀n,prT (PR.mk "may" (aa (tT n tP)) (bdF (ks2 a c) n (if w then [Pa.no tP] else [])))=if w then [tT n tP,tT n tP] else [tT n tP]:=λn=>by cases w <;> rfl
 constructor
 .intro u;obtain⟨x,y,q⟩:=dY.mp u;obtain⟨n,j,rfl⟩:=bZ.mp y;replace q:t∈prT (PR.mk "may" (aa (tT n tP)) (bdF (ks2 a c) n (if w then [Pa.no tP] else []))):=q;rw[A]at q;refine bZ.mpr ⟨n,j,?_⟩
  cases w <;> simp at q <;> exact q.symm
 .intro u;obtain⟨n,j,rfl⟩:=bZ.mp u;refine dY.mpr ⟨_,bZ.mpr ⟨n,j,rfl⟩,?_⟩;show tT n tP∈prT (PR.mk "may" (aa (tT n tP)) (bdF (ks2 a c) n (if w then [Pa.no tP] else [])));rw[A]
  cases w <;> simp
@[reducible]noncomputable def iR(its:List Ti)(bd:List Pa):Ro:=.choose 1 2 its psP bd []
@[reducible]noncomputable def iS(w:Bool)(its:List Ti)(bd:List Pa):Ro:=.rule aj (t0 [113]) (.ct w 2 its psP::bd) []
abbrev ItQ(z:Ti):Prop:=z.1=t0 [113]\/z.1=tP
section
variable{a c:Nat}(ha:0<a/\a<=12)(hc:0<c/\c<=4){its:List Ti}(hi:∀z∈its,ItQ z)(hl:its.length<=100)
include ha hc hi hl
def qE:(itF (ks2 a c) psP [] its).length=its.length*(a*c):=by
 unfold itF;rw[length_flatMap,show(its.map λz=>((nbw (ks2 a c) psP []).map λm=>(tT m z.1,z.2)).length)=its.map λ_=>a*c from qW λz _=>by rw[aG];exact(uW a (cF.mpr (by lia)) c (cF.mpr (by lia))).1];rw[map_const',sum_replicate_nat]
def zi(h:its.length*(a*c)<=100):ItW (ks2 a c) [] its psP:=by
 refine⟨(uX ha ⟨hc.1,by lia⟩).1,by show[[88],[89]].Nodup;decide,λz hz m j=>?_,by rw[qE ha hc hi hl];lia,hl⟩
 rcases hi z hz with e |e
 .rw[e];exact tn0 m (by decide)
 .rw[e];exact tnP (by lia) (by lia) j
def Eg(h:its.length*(a*c)<=60):ItK (ks2 a c) [] its psP:=by
 have w:=zi ha hc hi hl (by lia);exact⟨w.p,w.d,w.t,by rw[qE ha hc hi hl];exact h,w.s⟩
def Eh:∀z∈its,jA [[88],[89]] z.1:=λz hz=>by
 rcases hi z hz with e |e
 .rw[e];exact th0 _ _
 .rw[e];exact thP
def Ei:∀z∈its,z.1.2.length<=100:=λz hz=>by
 rcases hi z hz with e |e
 .rw[e];exact(show 0<=100 by decide)
 .rw[e];exact(show 2<=100 by decide)
abbrev LkB(bd:List Pa):Prop:=bd=[]\/bd=[.un [97,97] [97,97]]
def rkC{bd:List Pa}(h:LkB bd):eI (ks2 a c) (iR its bd):=by
 obtain⟨q,j⟩:=uX ha ⟨hc.1,by lia⟩;refine⟨rfl,⟨lH _ _ dE,⟨j,Eh ha hc hi hl⟩,λp e=>?_⟩,⟨⟨hl,Ei ha hc hi hl⟩,?_,λp e=>?_⟩⟩
 .rcases h with rfl |rfl
  .exact(cp e).elim
  .rw[bj.mp e];exact⟨.inr (by decide +kernel),.inr (by decide +kernel)⟩
 .rcases h with rfl |rfl <;> decide
 .rcases h with rfl |rfl
  .exact(cp e).elim
  .rw[bj.mp e];trivial
def rkM(w:Bool){bd:List Pa}(h:LkB bd):eI (ks2 a c) (iS w its bd):=by
 obtain⟨q,j⟩:=uX ha ⟨hc.1,by lia⟩;refine⟨rfl,⟨lH _ _ dE,th0 _ _,λp e=>?_⟩,⟨by show 0<=100;decide,?_,λp e=>?_⟩⟩
 .rcases bM.mp e with rfl |e
  .exact⟨j,Eh ha hc hi hl⟩
  .rcases h with rfl |rfl
   .exact(cp e).elim
   .rw[bj.mp e];exact⟨.inr (by decide +kernel),.inr (by decide +kernel)⟩
 .rcases h with rfl |rfl
  .show 1<=100;decide
  .show 2<=100;decide
 .rcases bM.mp e with rfl |e
  .exact⟨hl,Ei ha hc hi hl⟩
  .rcases h with rfl |rfl
   .exact(cp e).elim
   .rw[bj.mp e];trivial
def zj:rwF (ks2 a c) (iR its [])=chF 1 2 (itF (ks2 a c) psP [] its) []:=by
 unfold rwF;show(oI _ (nbw (ks2 a c) [] [])).flatMap _=_;rw[eW];show chF 1 2 (itF (ks2 a c) psP [] its) []++[]=_;rw[dh]
def zk(w:Bool):rwF (ks2 a c) (iS w its [])=[PR.mk "may" (aa [113]) [.c w 2 (itF (ks2 a c) psP [] its)]]:=by
 rw[qC _ _ _ _ _ λ_=>rfl,eW];rfl
def Mz(h:its.length*(a*c)<=60):RwK (ks2 a c) (iR its []):=iP (h7 _) dE (by show 0<=100;decide) λn e _=>by
 replace e:n∈nbw (ks2 a c) [] []:=e;rw[eW]at e;rw[bj.mp e];exact⟨Eg ha hc hi hl h,by show 0<=100;decide,λp j=>(cp j).elim⟩
def MA(w:Bool)(h:its.length*(a*c)<=60):RwK (ks2 a c) (iS w its []):=iP (h7 _) dE (by show 1<=100;decide) λn e _=>by
 replace e:n∈nbw (ks2 a c) [] []:=e;rw[eW]at e;rw[bj.mp e];exact⟨tn0 _ (by decide),by show 1<=100;decide,λp j=>by rw[bj.mp j];exact Eg ha hc hi hl h⟩
def zl:∀z∈itF (ks2 a c) psP [] its,z.1∈[113]::Pl a c:=λz hz=>by
 obtain⟨x,p,h⟩:=dY.mp hz;obtain⟨m,j,rfl⟩:=bZ.mp h
 rcases hi x p with e |e
 .show tT m x.1∈_;rw[e,tT0];exact bR
 .show tT m x.1∈_;rw[e];exact cE _ (bZ.mpr ⟨m,j,rfl⟩)
def txC:∀t∈txs (ks2 a c) [iR its []],t∈[113]::Pl a c:=λt p=>by
 unfold txs at p;rw[kO,zj ha hc hi hl]at p;obtain⟨x,j,e⟩:=dY.mp p
 have s:∀t∈(itF (ks2 a c) psP [] its).map (·.1),t∈[113]::Pl a c:=λt h=>by
  obtain⟨z,hz,rfl⟩:=bZ.mp h;exact zl ha hc hi hl z hz
 rcases b8.mp j with j |j
 .obtain⟨z,hz,rfl⟩:=bZ.mp j;replace e:t∈[z.1]:=e;rw[bj.mp e];exact zl ha hc hi hl z hz
 .have q:t∈(itF (ks2 a c) psP [] its).map (·.1):=by
   rcases bM.mp j with rfl |j
   .replace e:t∈(itF (ks2 a c) psP [] its).map (·.1)++[]:=e
    rwa [dh]at e
   .rw[bj.mp j]at e;replace e:t∈(itF (ks2 a c) psP [] its).map (·.1)++[]:=e
    rwa [dh]at e
  exact s t q
def txM(w:Bool):∀t∈txs (ks2 a c) [iS w its []],t∈[113]::Pl a c:=λt h=>by
 unfold txs at h;rw[kO,zk ha hc hi hl,kO]at h;replace h:t∈[[113]]++((itF (ks2 a c) psP [] its).map (·.1)++[]):=h;rw[dh]at h
 rcases b8.mp h with e |e
 .rw[bj.mp e];exact bR
 .obtain⟨z,hz,rfl⟩:=bZ.mp e;exact zl ha hc hi hl z hz
def wdC(p:60<its.length*(a*c))(q:its.length*(a*c)<=100):RwW (ks2 a c) (iR its [])/\¬RwO (ks2 a c) (iR its []):=by
 have j:=oB ha.2 (show c<=12 by lia);have e:=qE ha hc hi hl;refine⟨⟨h7 _,dE,by show 0<=1000;decide,λn h _=>?_⟩,λz=>?_⟩
 .replace h:n∈nbw (ks2 a c) [] []:=h;rw[eW]at h;rw[bj.mp h];refine⟨by decide,?_,.inr (L3 j.nd (by have:=j.l;lia) (show eV (asD []) []from rfl) (by decide) 1 2 [] (zi ha hc hi hl q) (by rw[e];exact p))⟩;show(chF 1 2 (itF (ks2 a c) psP [] its) []).length<=1000;unfold chF;rw[bg,aG,e];show _+2<=1000;lia
 .have:=z [] (by show[]∈nbw (ks2 a c) [] [];rw[eW];exact bR) rfl;have:=this.1.l;rw[e]at this;lia
def wdM(w:Bool)(p:60<its.length*(a*c))(q:its.length*(a*c)<=100):RwW (ks2 a c) (iS w its [])/\¬RwO (ks2 a c) (iS w its []):=by
 have j:=oB ha.2 (show c<=12 by lia);have e:=qE ha hc hi hl;refine⟨⟨h7 _,dE,by show 1<=1000;decide,λn h _=>?_⟩,λz=>?_⟩
 .replace h:n∈nbw (ks2 a c) [] []:=h;rw[eW]at h;rw[bj.mp h];exact⟨by decide,by show 1<=1000;decide,.inr (LZ j.nd (by have:=j.l;lia) (show eV (asD []) []from rfl) (by decide) aj (t0 [113]) [] w 2 (zi ha hc hi hl q) (by rw[e];exact p))⟩
 .have:=z [] (by show[]∈nbw (ks2 a c) [] [];rw[eW];exact bR) rfl;have:=(this.2.2 _ bR).l;rw[e]at this;lia
def noC:RwK (ks2 a c) (iR its [.un [97,97] [97,97]])/\rwF (ks2 a c) (iR its [.un [97,97] [97,97]])=[]:=by
 refine⟨iP (h7 _) dE (by show 1<=100;decide) λn e h=>?_,?_⟩
 .replace e:n∈nbw (ks2 a c) [] []:=e;rw[eW]at e;rw[bj.mp e]at h
  nomatch h
 .unfold rwF;show(oI _ (nbw (ks2 a c) [] [])).flatMap _=_;rw[eW];rfl
def noM(w:Bool):RwK (ks2 a c) (iS w its [.un [97,97] [97,97]])/\rwF (ks2 a c) (iS w its [.un [97,97] [97,97]])=[]:=by
 refine⟨iP (h7 _) dE (by show 2<=100;decide) λn e h=>?_,?_⟩
 .replace e:n∈nbw (ks2 a c) [] []:=e;rw[eW]at e;rw[bj.mp e]at h
  nomatch h
 .unfold rwF;show(oI _ (nbw (ks2 a c) [] [])).flatMap _=_;rw[eW];rfl
end
def zm{f:Xa}{n:Int}(e:ρ[i]?=aa (.own xs0))(h:f ρ=aa ([.int n,d],ρ1))(h':ρ1[i]?=aa (.own xs))(j:0<=n/\n<=xs.length/\xs.length<16777216)(k:K (.nx (ρ1.set i (.own (xs.take n.toNat++d::xs.drop n.toNat))))):wp (mw i f) ρ K:=⟨_,by
 unfold mw;rw[e];dsimp only;rw[h,aR];dsimp only;rw[h'];exact if_pos j,k⟩
def fG(l:Addr)(s k:Int)(r:LS)(e:f (.pin l [.int s]::r)=aa (.int k))(h:okS s)(j:0<k):cC 0 m_0 (aI (mX f) bc) (.pin l [.int s]::r)=aa (.int (dr s k),.pin l [.int (nx s)]::r):=kz (i:=0) (ρ1:=.pin l [.int s]::r) rfl (bi (aY e) rfl) rfl (oi l s k h j)
def h8:("p":Str)=tx [112]/\("q":Str)=tx [113]/\("r":Str)=tx [114]/\("k":Str)=tx [107]/\("j":Str)=tx [106]/\("a":Str)=tx [97]/\("b":Str)=tx [98]/\("X":Str)=tx [88]/\("Y":Str)=tx [89]/\("Z":Str)=tx [90]/\("W":Str)=tx [87]/\("s":Str)=tx [115]:=by decide +kernel
def pT:("p":Str)=tx [112]:=h8.1
def qT:("q":Str)=tx [113]:=h8.2.1
def rT:("r":Str)=tx [114]:=h8.2.2.1
def kT:("k":Str)=tx [107]:=h8.2.2.2.1
def jT:("j":Str)=tx [106]:=h8.2.2.2.2.1
def aT:("a":Str)=tx [97]:=h8.2.2.2.2.2.1
def bT:("b":Str)=tx [98]:=h8.2.2.2.2.2.2.1
def XT:("X":Str)=tx [88]:=h8.2.2.2.2.2.2.2.1
def YT:("Y":Str)=tx [89]:=h8.2.2.2.2.2.2.2.2.1
def ZT:("Z":Str)=tx [90]:=h8.2.2.2.2.2.2.2.2.2.1
def WT:("W":Str)=tx [87]:=h8.2.2.2.2.2.2.2.2.2.2.1
def sgT:("s":Str)=tx [115]:=h8.2.2.2.2.2.2.2.2.2.2.2
def MB:∀k∈bx 12,iC (.str "abcdefghijkl") (.int (k:Nat))=aa (sT [97+k]):=by
 intro k e;have h:("abcdefghijkl":Str)=tx ((bx 12).map (97 + ·)):=by decide +kernel
 have e:=cF.mp e;rw[h,CY _ _ ⟨by lia,by rw[aG,cK];lia⟩ (by decide),jG,fS,kM,qR e];rfl
def Ej:∀k∈bx 8,iC (.str "abcdefgh") (.int (k:Nat))=aa (sT [97+k]):=by
 intro k e;have h:("abcdefgh":Str)=tx ((bx 8).map (97 + ·)):=by decide +kernel
 have e:=cF.mp e;rw[h,CY _ _ ⟨by lia,by rw[aG,cK];lia⟩ (by decide),jG,fS,kM,qR e];rfl
def oD(h:f ρ=aa (.int v))(a:0<=v)(b:v<=500):gf (ac f nZ) ρ=aa ((bx v.toNat).map λ(i:Nat)=>D.int i):=by
 unfold gf;rw[ai h rfl];exact CZ v a b
def mP(n:LN)(f m:Nat)(h:m<=12):kx [sT n,sT [f],.int (m:Nat)]=aa (Ro.toD (.kind n (nmK f m))):=by
 apply cx;unfold uC;show wp _ [.im (sT n),.im (sT [f]),.im (.int (m:Nat))] _;refine dn (aX (ai rfl (ai rfl (ai (bo (ds:=(nmK f m).map sT) ?_) rfl)))) (cB rfl);rw[map_map];refine fZ (bx m) (λ(i:Nat)=>D.int i) _ (by rw[oD (v:=(m:Nat)) rfl (by lia) (by lia),kM]) (by rw[cK];lia) λk e=>fB rfl rfl (av rfl (av rfl rfl (MB k (cF.mpr (by have:=cF.mp e;lia)))) (y7 [f] [97+k] (by show 2<=100000;decide)))
def Ek(l:Addr)(x:LN)(s:Int)(p:okS s):oh l [] [sT x] [.int s]=aa ([.int (nx s)],(gO x (dr s 4)).toD):=by
 have q:=eB s (k:=4) (by decide)
 have w:wp qi [.pin l [.int s],.im (sT x),.no] (λo=>∃h j,o=.rtS (gO x (dr s 4)).toD [.pin l [.int (nx s)],h,j]):=by
  unfold qi;apply ax;refine fD (fG l s 4 _ rfl p (by decide)) ?_;show wp _ [.pin l [.int (nx s)],.im (sT x),.im (.int (dr s 4))] _;apply ax;refine bw (bf (av rfl rfl (fP _ _))) (λe=>?_) λe=>ce ?_
  .have e:dr s 4=0:=by simpa using e
   rw[e];exact jo (aX (ai rfl (ai (bo (ai (aX (ai rfl (ai (aX (ai rfl (ai rfl rfl))) rfl))) rfl)) (ai rfl rfl)))) ⟨_,_,rfl⟩
  .have e:dr s 4≠0:=by simpa using e
   have:dr s 4=1\/dr s 4=2\/dr s 4=3:=by lia
   refine jo (d:=(gO x (dr s 4)).toD) ?_ ⟨_,_,rfl⟩
   rcases this with e |e |e <;> rw[e] <;> exact aX (ai (ar (ai rfl (ai rfl (ai rfl rfl))) (av rfl rfl g8) rfl) (ai (aX (ai rfl (ai rfl rfl))) (ai rfl (ai rfl rfl))))
 obtain⟨o,e,h,j,rfl⟩:=w;exact jq e rfl
abbrev pqr(v:Int):LN:=if v=0 then [112] else if v=1 then [113] else [114]
def El(v:Int):pqr v∈[[112],[113],[114]]:=by unfold pqr;split;decide;split <;> decide
def MC(v:Int)(h:0<=v/\v<3):iD (.lst [.str "p",.str "q",.str "r"]) (.int v)=aa (sT (pqr v)):=by
 have:v=0\/v=1\/v=2:=by lia
 rcases this with e |e |e
 .rw[e,pT];rfl
 .rw[e,qT];rfl
 .rw[e,rT];rfl
abbrev qF(p:Int×List Ro):Int×List Ro:=(nx (nx (nx p.1)),p.2.take (dr p.1 (p.2.length+1)).toNat++gO (pqr (dr (nx p.1) 3)) (dr (nx (nx p.1)) 4)::p.2.drop (dr p.1 (p.2.length+1)).toNat)
abbrev itI:Nat->Int×List Ro->Int×List Ro
 | 0,p=>p
 |n+1,p=>qF (itI n p)
def lI(p:Int×List Ro)(h:okS p.1):∀n,okS (itI n p).1/\(itI n p).2.length=p.2.length+n
 | 0=>⟨h,rfl⟩
 |n+1=>by
  obtain⟨a,b⟩:=lI p h n;refine⟨cQ _,?_⟩;show(_++_::_).length=_;rw[bg,cL,gr,ie];lia
def mQ{P:Ro->Prop}(p:Int×List Ro)(h:∀r∈p.2,P r)(j:∀v w,P (gO (pqr v) w)):∀n,∀r∈(itI n p).2,P r
 | 0=>h
 |n+1=>λr e=>by
  have q:=mQ p h j n
  rcases b8.mp e with e |e
  .exact q r (mem_of_mem_take e)
  .rcases bM.mp e with rfl |e
   .exact j _ _
   .exact q r (mem_of_mem_drop e)
def qG(v:Int):(pqr v).length<=8:=by unfold pqr;split;decide;split <;> decide
def zn(ks:List Kd)(p:Int×List Ro):∀n,cR ks (itI n p).2=cR ks p.2+n
 | 0=>rfl
 |n+1=>by
  show cR ks (_++_::_)=_;rw[Ec,(rwS ks (qG _) _).2.1,zn ks p n];lia
def Em(l:Addr)(s:Int)(j:okS s)(c:Int)(r:LS){h:Xe}(e:h (.pin l [.int s]::r)=aa (.int c,.pin l [.int (nx s)]::r)):
  aI h (aI (cC 0 oh (aI (mX2 iD (mX (aw (ac (kSt "p") (ac (kSt "q") (ac (kSt "r") nZ))))) (cC 0 m_0 (aI (mX (kI 3)) bc))) bc)) bc) (.pin l [.int s]::r)=aa ([.int c,(gO (pqr (dr (nx s) 3)) (dr (nx (nx s)) 4)).toD],.pin l [.int (nx (nx (nx s)))]::r):=
 bi e (bi (kz (ρ1:=.pin l [.int (nx (nx s))]::r) rfl (bi (gN (aY rfl) (fG l (nx s) 3 _ rfl (cQ s) (by decide)) (MC _ (eB _ (by decide)))) rfl) rfl (Ek l _ _ (cQ _))) rfl)
abbrev rlM(s:Int):Nat:=(5+dr s 8).toNat
abbrev rlZ(s:Int):Bool:=decide ((rlM s:Int)<8)
abbrev rlN(s:Int):Int:=if rlZ s then rlM s*rlM s*rlM s else rlM s*rlM s
abbrev rl0(c s:Int):List Ro:=iW (c / rlN s).toNat (iO (rlZ s))++if 5<c % rlN s then [jE] else []
abbrev rlL(c s:Int):Nat:=(if 5<c % rlN s then c % rlN s-5 else c % rlN s).toNat
abbrev ia(c s:Int):Int×List Ro:=itI (rlL c s) (nx s,rl0 c s)
def uY(s:Int):(rlM s:Int)=5+dr s 8/\5<=rlM s/\rlM s<=12:=by
 have d:=eB s (k:=8) (by decide);unfold rlM;lia
def En(s:Int):25<=rlN s/\rlN s<=343:=by
 obtain⟨_,h,j⟩:=uY s;have hz:∀m∈bx 13,5<=m->(25<=m*m/\m*m<=343)/\(m<8->25<=m*m*m/\m*m*m<=343):=by decide
 obtain⟨a,b⟩:=hz (rlM s) (cF.mpr (by lia)) h;unfold rlN;split
 .rename_i e;have e:((rlM s:Nat):Int)<8:=of_decide_eq_true e;have:=b (by lia);exact⟨by exact_mod_cast this.1,by exact_mod_cast this.2⟩
 .exact⟨by exact_mod_cast a.1,by exact_mod_cast a.2⟩
def Eo{i j:Int}(h:-1000000<=i/\i<=1000000):jZ i j:=.inl (.inl ⟨by lia,by lia⟩)
def MD(l:Addr)(c s:Int)(H:okS s)(u:0<=c/\c<=402):yz l [] [.int c] [.int s]=aa ([.int (ia c s).1],.lst ((aW (ks1 (rlM s)) (ia c s).2).map Ro.toD)):=by
 obtain⟨m1,m2,I⟩:=uY s;obtain⟨z1,z2⟩:=En s;have y:=cQ s
 have w:wp qj [.pin l [.int s],.im (.int c),.no,.no,.no,.no,.no,.no] (λo=>∃a,o=.rtS (.lst ((aW (ks1 (rlM s)) (ia c s).2).map Ro.toD)) (.pin l [.int (ia c s).1]::a)):=by
  unfold qj;apply ax;refine fD (gN (aY rfl) (fG l s 8 _ rfl H (by decide)) dR) ?_;rw[<- m1];show wp _ [.pin l [.int (nx s)],.im (.int c),.im (.int (rlM s)),.no,.no,.no,.no,.no] _;have j:[D.tup [.str "X",.str "k"],D.tup [.str "Y",.str "k"]]=(psA aj).map prD:=by rw[XT,YT,kT];rfl
  have z:D.tup [.str "Z",.str "k"]=prD ([90],[107]):=by rw[ZT,kT]
  apply ax;refine fc (d:=[D.tup [.str "X",.str "k"],D.tup [.str "Y",.str "k"]]) (ai (aX (ai rfl (ai rfl rfl))) (ai (aX (ai rfl (ai rfl rfl))) rfl)) ?_;rw[j];apply ax;refine b6 (d:=.int (rlM s*rlM s)) (av rfl rfl (nJ (Eo (by lia)))) ?_;show wp _ [.pin l [.int (nx s)],.im (.int c),.im (.int (rlM s)),.own ((psA aj).map prD),.im (.int (rlM s*rlM s)),.no,.no,.no] _;refine pq (λρ=>ρ=[.pin l [.int (nx s)],.im (.int c),.im (.int (rlM s)),.own ((psA (rlZ s)).map prD),.im (.int (rlN s)),.no,.no,.no]) ?_ ?_
  .refine bw (bf (av rfl rfl wF)) (λe=>?_) λe=>ce ⟨_,rfl,?_⟩
   .apply ax;refine jl (aX (ai rfl (ai rfl rfl))) rfl (by show 2<16777216;decide) ?_;rw[z];refine b6 (d:=.int (rlM s*rlM s*rlM s)) (av rfl rfl (nJ (.inl (.inr ⟨by lia,by lia⟩)))) ⟨_,rfl,?_⟩;have q:rlZ s=af:=e;unfold rlN;rw[q];rfl
   .have q:rlZ s=aj:=e;unfold rlN;rw[q];rfl
  .rintro ρ rfl;apply ax;refine g6 (ρ':=[.pin l [.int (nx s)],.im (.int c),.im (.int (rlM s)),.im (.lst ((psA (rlZ s)).map prD)),.im (.int (rlN s)),.no,.no,.no]) rfl ?_;have E:0<=c / rlN s/\c / rlN s<=402:=⟨Int.ediv_nonneg u.1 (by lia),Int.le_trans (Int.ediv_le_self _ u.1) u.2⟩;refine fc (d:=(bx (c / rlN s).toNat).map λ_=>(iO (rlZ s)).toD) (fZ _ (λ(i:Nat)=>D.int i) _ (oD (av rfl rfl (mj ⟨by lia,by lia⟩)) E.1 (by lia)) (by rw[cK];lia) λk N=>fB rfl rfl (aX (ai rfl (ai (aX (ai (by rw[pT]) (ai rfl rfl))) (ai (bo (ai (aX (ai rfl (ai (aX (ai (by rw[qT]) (ai rfl rfl))) rfl))) rfl)) (ai rfl rfl)))))) ?_;have A:((bx (c / rlN s).toNat).map λ_=>(iO (rlZ s)).toD)=(iW (c / rlN s).toNat (iO (rlZ s))).map Ro.toD:=by rw[map_const',cK,map_replicate]
   rw[A];apply ax;refine b6 (d:=.int (c % rlN s)) (av rfl rfl (li (by lia))) ?_;show wp _ [.pin l [.int (nx s)],.im (.int c),.im (.int (rlM s)),.im (.lst ((psA (rlZ s)).map prD)),.im (.int (rlN s)),.no,.own ((iW (c / rlN s).toNat (iO (rlZ s))).map Ro.toD),.im (.int (c % rlN s))] _;have G:0<=c % rlN s/\c % rlN s<rlN s:=⟨qO _ (by lia),qN _ (by lia)⟩;refine pq (λρ=>ρ=[.pin l [.int (nx s)],.im (.int c),.im (.int (rlM s)),.im (.lst ((psA (rlZ s)).map prD)),.im (.int (rlN s)),.no,.own ((rl0 c s).map Ro.toD),.im (.int (rlL c s:Nat))]) ?_ ?_
   .refine bw (bf (av rfl rfl ml)) (λe=>?_) λe=>ce ⟨_,rfl,?_⟩
    .have e:5<c % rlN s:=of_decide_eq_true e;apply ax;refine jl (d:=jE.toD) (aX (ai rfl (ai rfl (ai rfl (ai (bo (ai (aX (ai (aX (ai (by rw[pT]) (ai rfl rfl))) (ai rfl rfl))) (ai (aX (ai (aX (ai (by rw[qT]) (ai rfl rfl))) (ai rfl rfl))) (ai (aX (ai (aX (ai (by rw[qT]) (ai rfl rfl))) (ai rfl rfl))) rfl)))) (ai rfl (ai rfl (ai rfl rfl)))))))) rfl (by rw[aG,ic];lia) ?_;refine b6 (d:=.int (c % rlN s-5)) (av rfl rfl g8) ⟨_,rfl,?_⟩;unfold rl0 rlL;rw[if_pos e,if_pos e,u7 (by lia),bU];rfl
    .have e:¬5<c % rlN s:=of_decide_eq_false e;unfold rl0 rlL;rw[if_neg e,if_neg e,u7 G.1,dh]
   .rintro ρ rfl
    have M:rlL c s<=342:=by unfold rlL;split <;> lia
    have J:(rl0 c s).length<=403:=by
     unfold rl0;rw[bg,ic];split
     .show _+1<=403;lia
     .show _+0<=403;lia
    apply ax;refine eH (bx (rlL c s)) (λ(i:Nat)=>D.int i) (λpre ρ=>∃h,ρ=[.pin l [.int (itI pre.length (nx s,rl0 c s)).1],.im (.int c),.im (.int (rlM s)),.im (.lst ((psA (rlZ s)).map prD)),.im (.int (rlN s)),h,.own ((itI pre.length (nx s,rl0 c s)).2.map Ro.toD),.im (.int (rlL c s:Nat))]) (by rw[oD (v:=(rlL c s:Nat)) rfl (by lia) (by lia),kM]) ⟨_,rfl⟩ ?_ ?_
    .rintro pre x post ρ B ⟨h,rfl⟩;refine⟨_,rfl,?_⟩;have Q:pre.length<=rlL c s:=by have:=congrArg iX B;rw[cK,bg]at this;lia
     obtain⟨o1,o2⟩:=lI (nx s,rl0 c s) y pre.length;rw[bg,fj];show wp _ _ (sU (λρ=>∃h,ρ=[.pin l [.int (qF (itI pre.length (nx s,rl0 c s))).1],_,_,_,_,h,.own ((qF (itI pre.length (nx s,rl0 c s))).2.map Ro.toD),_]) _);generalize itI pre.length (nx s,rl0 c s)=p at o1 o2;replace o2:p.2.length=(rl0 c s).length+pre.length:=o2;have d:=eB p.1 (k:=p.2.length+1) (by lia);refine zm (xs0:=p.2.map Ro.toD) (xs:=p.2.map Ro.toD) rfl (Em l p.1 o1 (dr p.1 (p.2.length+1)) _ (fG l p.1 _ _ (av (aZ (ai rfl rfl) (f7 p.2 Ro.toD)) rfl dR) o1 (by lia))) rfl ⟨d.1,by rw[aG];lia,by rw[aG];lia⟩ ⟨.im (.int (x:Nat)),?_⟩;rw[<- map_take,<- map_drop,<- di,<- bU];rfl
    .rintro ρ ⟨h,rfl⟩;rw[cK];show wp _ [.pin l [.int (ia c s).1],.im (.int c),.im (.int (rlM s)),.im (.lst ((psA (rlZ s)).map prD)),.im (.int (rlN s)),h,.own ((ia c s).2.map Ro.toD),.im (.int (rlL c s:Nat))] _;have o2:=(lI (nx s,rl0 c s) y (rlL c s)).2;replace o2:(ia c s).2.length=(rl0 c s).length+rlL c s:=o2;refine g6 (ρ':=[.pin l [.int (ia c s).1],.im (.int c),.im (.int (rlM s)),.im (.lst ((psA (rlZ s)).map prD)),.im (.int (rlN s)),h,.im (.lst ((ia c s).2.map Ro.toD)),.im (.int (rlL c s:Nat))]) rfl ?_;exact jo (bo (kG (bo (ai (aZ (ai (by rw[kT]) (ai (by rw[aT]) (ai rfl rfl))) (mP [107] 97 (rlM s) I)) rfl)) rfl (by rw[aG];show 1+_<=_;lia))) ⟨_,rfl⟩
 obtain⟨o,e,a,rfl⟩:=w;exact jq e rfl
def zo{f:Xe}(e:ρ[i]?=aa (.own xs0))(h:f ρ=aa (d,ρ1))(j:ρ1[i]?=aa (.own xs))(p:xs.length<16777216)(k:K (.nx (ρ1.set i (.own (xs++[d]))))):wp (mq i f) ρ K:=⟨_,by
 unfold mq;rw[e,h,aR,j];exact if_pos p,k⟩
def uZ{f:Xa}(h:f ρ=aa (ds,ρ1)):jt f ρ=aa (.tup ds,ρ1):=by
 unfold jt;rw[h];rfl
variable{h:LS->Option (Option Int)}{b:Int}
def ME{j:Type}{g:j->D}{xs:List j}(e:f ρ=aa (.lst (xs.map g)))(q:l ρ=aa ae)(s:h ρ=aa (aa b))(u:0<=b/\b<=xs.length):mSl f l h ρ=aa ((xs.take b.toNat).map g):=by
 rw[sW e q s];obtain⟨m,rfl⟩:=Int.eq_ofNat_of_zero_le u.1;have p:HT.sIx xs.length 0 ae=0:=rfl;rw[p,HT.sIx_nat,kM,Nat.min_eq_left (by lia),Nat.sub_zero,drop_zero]
def MF{j:Type}{g:j->D}{xs:List j}(e:f ρ=aa (.lst (xs.map g)))(q:l ρ=aa (aa b))(s:h ρ=aa ae)(u:0<=b/\b<=xs.length):mSl f l h ρ=aa ((xs.drop b.toNat).map g):=by
 rw[sW e q s];obtain⟨m,rfl⟩:=Int.eq_ofNat_of_zero_le u.1;have p:HT.sIx xs.length xs.length ae=xs.length:=rfl;rw[p,HT.sIx_nat,kM,Nat.min_eq_left (by lia),mV (by rw[ie];lia)]
abbrev nxs:Nat->Int->Int
 | 0,s=>s
 |n+1,s=>nx (nxs n s)
variable{s:Int}
def Ep(h:okS s):∀n,okS (nxs n s)
 | 0=>h
 | _+1=>cQ _
def MG(l:Addr)(s:Int)(j:okS s):yB l [] [] [.int s]=aa ([.int (nx (nx s))],.lst [.int (2+dr s 6),.int (2+dr (nx s) 6)]):=by
 have w:wp ql [.pin l [.int s]] (λo=>o=.rtS (.lst [.int (2+dr s 6),.int (2+dr (nx s) 6)]) [.pin l [.int (nx (nx s))]]):=by
  unfold ql;exact CW (K1 (bi (gN (aY rfl) (fG l s 6 _ rfl j (by decide)) dR) (bi (gN (aY rfl) (fG l (nx s) 6 _ rfl (cQ s) (by decide)) dR) rfl))) rfl
 obtain⟨o,e,rfl⟩:=w;exact jq e rfl
abbrev thA(s:Int):Nat:=(2+dr s 6).toNat
abbrev thN(c s:Int):Nat:=(c-thA s*thA (nx s)).toNat
abbrev thS(s:Int)(j:Nat):Ro:=gO (Sl' j) (dr (nxs j s) 4)
abbrev thL(s:Int)(n:Nat):List Ro:=(bx n).map (thS s)
abbrev thE(c s:Int):Int:=nxs (thN c s) (nx (nx s))
abbrev thI(c s:Int):Nat:=(dr (nx (thE c s)) (thN c s+1)).toNat
abbrev thW(c s:Int):Bool:=decide (dr (thE c s) 2=1)
abbrev thR(c s:Int):List Ro:=(thL (nx (nx s)) (thN c s)).take (thI c s)++lG (thW c s)::(thL (nx (nx s)) (thN c s)).drop (thI c s)
def lJ(s:Int):(thA s:Int)=2+dr s 6/\2<=thA s/\thA s<=7:=by
 have d:=eB s (k:=6) (by decide);unfold thA;lia
def Er(s:Int):4<=thA s*thA (nx s)/\thA s*thA (nx s)<=49:=⟨oK (lJ s).2.1 (lJ (nx s)).2.1,oK (lJ s).2.2 (lJ (nx s)).2.2⟩
def MH(w:Bool):(lG w).toD=.tup [.str "may",.tup [.str "p",.lst [.str "X",.str "Y"]],.lst (if w then [.tup [.str "not",.tup [.str "p",.lst [.str "X",.str "Y"]]]] else []),.lst [.tup [.str "X",.str "k"],.tup [.str "Y",.str "j"]]]:=by
 rw[pT,XT,YT,kT,jT]
 cases w <;> rfl
def MI(l:Addr)(c s:Int)(hs:okS s)(hc:58<=c/\c<=62):yC l [] [.int c] [.int s]=aa ([.int (nx (nx (thE c s)))],.lst ((aW (ks2 (thA s) (thA (nx s))) (thR c s)).map Ro.toD)):=by
 obtain⟨G,a2,a3⟩:=lJ s;obtain⟨J,b2,b3⟩:=lJ (nx s);obtain⟨H,I⟩:=Er s;have u:okS (nx (nx s)):=cQ _
 have Y:(thN c s:Int)=c-thA s*thA (nx s):=by
  unfold thN;have:((thA s*thA (nx s):Nat):Int)=thA s*thA (nx s):=by push_cast;rfl
  lia
 have hN2:thN c s<=58:=by
  have:((thA s*thA (nx s):Nat):Int)=thA s*thA (nx s):=by push_cast;rfl
  lia
 have w:wp qm [.pin l [.int s],.im (.int c),.no,.no,.no,.no,.no,.no,.no] (λo=>∃a,o=.rtS (.lst ((aW (ks2 (thA s) (thA (nx s))) (thR c s)).map Ro.toD)) (.pin l [.int (nx (nx (thE c s)))]::a)):=by
  unfold qm;apply ax;refine Js (ρ':=[.pin l [.int (nx (nx s))],.im (.int c),.im (.int (thA s)),.im (.int (thA (nx s))),.no,.no,.no,.no,.no]) (kz (ρ1:=[.pin l [.int s],.im (.int c),.no,.no,.no,.no,.no,.no,.no]) rfl rfl rfl (MG l s hs)) (by rw[<- G,<- J];rfl) ?_;apply ax;refine fc (d:=[Ro.toD (.kind [107] (nmK 97 (thA s))),Ro.toD (.kind [106] (nmK 98 (thA (nx s))))]) (ai (aZ (ai (by rw[kT]) (ai (by rw[aT]) (ai rfl rfl))) (mP [107] 97 (thA s) (by lia))) (ai (aZ (ai (by rw[jT]) (ai (by rw[bT]) (ai rfl rfl))) (mP [106] 98 (thA (nx s)) (by lia))) rfl)) ?_;show wp _ [.pin l [.int (nx (nx s))],.im (.int c),.im (.int (thA s)),.im (.int (thA (nx s))),.own ((aW (ks2 (thA s) (thA (nx s))) []).map Ro.toD),.no,.no,.no,.no] _;apply ax
  refine eH (bx (thN c s)) (λ(i:Nat)=>D.int i) (λpre ρ=>pre=bx pre.length/\∃ p,ρ=[.pin l [.int (nxs pre.length (nx (nx s)))],.im (.int c),.im (.int (thA s)),.im (.int (thA (nx s))),.own ((aW (ks2 (thA s) (thA (nx s))) (thL (nx (nx s)) pre.length)).map Ro.toD),p,.no,.no,.no]) (by
   have e:m2 fY (ag 1) (m2 lj (ag 2) (ag 3)) [.pin l [.int (nx (nx s))],.im (.int c),.im (.int (thA s)),.im (.int (thA (nx s))),.own ((aW (ks2 (thA s) (thA (nx s))) []).map Ro.toD),.no,.no,.no,.no]=aa (.int (thN c s:Nat)):=by
    rw[Y];exact av rfl (av rfl rfl (nJ (Eo (by lia)))) g8
   rw[oD e (by lia) (by lia),kM]) ⟨rfl,_,rfl⟩ ?_ ?_
  .rintro pre x post ρ E ⟨hp,p,rfl⟩
   have hx:x=pre.length/\pre.length<thN c s/\pre++[x]=bx (pre++[x]).length:=by
    have B:=congrArg (λL=>L[pre.length]?) E;have N:=congrArg iX E;rw[cK,bg,cL]at N;have Q:(bx (thN c s))[pre.length]?=aa pre.length:=qR (by lia);rw[Q,mT (bL _),Nat.sub_self]at B;have:pre.length=x:=cu B;refine⟨this.symm,by lia,?_⟩;rw[bg,fj,range_succ,<- hp,this]
   obtain⟨rfl,hl,A⟩:=hx;refine⟨_,rfl,?_⟩
   have M:m2 bX (m2 bX (kSt "s") (m2 iC (kSt "abcdefgh") (m2 jW (ag 5) (kI 8)))) (m2 iC (kSt "abcdefgh") (m2 gZ (ag 5) (kI 8))) [.pin l [.int (nxs pre.length (nx (nx s)))],.im (.int c),.im (.int (thA s)),.im (.int (thA (nx s))),.own ((aW (ks2 (thA s) (thA (nx s))) (thL (nx (nx s)) pre.length)).map Ro.toD),.im (.int (pre.length:Nat)),.no,.no,.no]=aa (sT (Sl' pre.length)):=by
    refine av (x:=sT [115,97+pre.length / 8]) (y:=sT [97+pre.length % 8]) (av (x:=sT [115]) (y:=sT [97+pre.length / 8]) (by rw[sgT]) (av (y:=.int ((pre.length / 8:Nat):Int)) rfl (av rfl rfl (by rw[mj ⟨by decide,by decide⟩];rfl)) (Ej _ (cF.mpr (by lia)))) (y7 [115] [97+pre.length / 8] (by show 2<=100000;decide))) (av (y:=.int ((pre.length % 8:Nat):Int)) rfl (av rfl rfl (by rw[li (by decide)];rfl)) (Ej _ (cF.mpr (by lia)))) (y7 [115,97+pre.length / 8] [97+pre.length % 8] (by show 3<=100000;decide))
   refine zo (xs:=(aW (ks2 (thA s) (thA (nx s))) (thL (nx (nx s)) pre.length)).map Ro.toD) rfl (kz (xs:=[.int (nxs pre.length (nx (nx s)))]) rfl (bi (aY M) rfl) rfl (Ek l _ _ (Ep u _))) rfl ?_ ⟨A,.im (.int (pre.length:Nat)),?_⟩
   .unfold aW thL;rw[aG,bg,aG,aG,cK];show 2+_<_;lia
   .rw[bg,fj]
    have:aW (ks2 (thA s) (thA (nx s))) (thL (nx (nx s)) (pre.length+1))=aW (ks2 (thA s) (thA (nx s))) (thL (nx (nx s)) pre.length)++[thS (nx (nx s)) pre.length]:=by
     unfold aW thL;rw[range_succ,bU,<- fm];rfl
    rw[this,bU];rfl
  .rintro ρ ⟨_,p,rfl⟩;rw[cK];show wp _ [.pin l [.int (thE c s)],.im (.int c),.im (.int (thA s)),.im (.int (thA (nx s))),.own ((aW (ks2 (thA s) (thA (nx s))) (thL (nx (nx s)) (thN c s))).map Ro.toD),p,.no,.no,.no] _;have T:okS (thE c s):=Ep u _
   have j:(aW (ks2 (thA s) (thA (nx s))) (thL (nx (nx s)) (thN c s))).length=thN c s+2:=by
    unfold aW thL;rw[bg,aG,aG,cK];show 2+_=_;lia
   have q:∀i:Nat,(aW (ks2 (thA s) (thA (nx s))) (thL (nx (nx s)) (thN c s))).take (2+i)=aW (ks2 (thA s) (thA (nx s))) ((thL (nx (nx s)) (thN c s)).take i)/\(aW (ks2 (thA s) (thA (nx s))) (thL (nx (nx s)) (thN c s))).drop (2+i)=(thL (nx (nx s)) (thN c s)).drop i:=λi=>by
    rw[Nat.add_comm];exact⟨rfl,rfl⟩
   generalize hR:aW (ks2 (thA s) (thA (nx s))) (thL (nx (nx s)) (thN c s))=R at j q;apply ax;refine b6 (d:=.tup [.str "p",.lst [.str "X",.str "Y"]]) (aX (ai rfl (ai (bo (ai rfl (ai rfl rfl))) rfl))) ?_;apply ax;have d2:=eB (thE c s) (k:=2) (by decide)
   refine fD (d:=.lst (if thW c s then [.tup [.str "not",.tup [.str "p",.lst [.str "X",.str "Y"]]]] else [])) (gN (aY (bo (ai (bo rfl) (ai (bo (ai (aX (ai rfl (ai rfl rfl))) rfl)) rfl)))) (fG l (thE c s) 2 _ rfl T (by decide)) (by
    have:dr (thE c s) 2=0\/dr (thE c s) 2=1:=by lia
    unfold thW
    rcases this with e |e <;> (rw[e];rfl))) ?_
   show wp _ [.pin l [.int (nx (thE c s))],.im (.int c),.im (.int (thA s)),.im (.int (thA (nx s))),.own (R.map Ro.toD),p,.im (.tup [.str "p",.lst [.str "X",.str "Y"]]),.im (.lst (if thW c s then [.tup [.str "not",.tup [.str "p",.lst [.str "X",.str "Y"]]]] else [])),.no] _;have z:=cQ (thE c s);have dI:=eB (nx (thE c s)) (k:=thN c s+1) (by lia);have U:(thI c s:Int)=dr (nx (thE c s)) (thN c s+1):=by unfold thI;lia
   apply ax;refine g6 (ρ':=[.pin l [.int (nx (thE c s))],.im (.int c),.im (.int (thA s)),.im (.int (thA (nx s))),.im (.lst (R.map Ro.toD)),p,.im (.tup [.str "p",.lst [.str "X",.str "Y"]]),.im (.lst (if thW c s then [.tup [.str "not",.tup [.str "p",.lst [.str "X",.str "Y"]]]] else [])),.no]) rfl ?_
   refine fD (d:=.int (2 + (thI c s:Nat))) (gN (aY rfl) (fG l _ (thN c s + 1) _ (by
    refine(av (aZ (ai rfl rfl) (f7 R Ro.toD)) rfl g8).trans ?_;rw[j]
    congr 2
    lia) z (by lia)) (by rw[U];exact dR)) ?_
   refine g6 (ρ':=[.pin l [.int (nx (nx (thE c s)))],.im (.int c),.im (.int (thA s)),.im (.int (thA (nx s))),.im (.lst (R.map Ro.toD)),p,.im (.tup [.str "p",.lst [.str "X",.str "Y"]]),.im (.lst (if thW c s then [.tup [.str "not",.tup [.str "p",.lst [.str "X",.str "Y"]]]] else [])),.im (.int (2+(thI c s:Nat)))]) rfl ?_;have tn:(2+(thI c s:Nat):Int).toNat=2+thI c s:=by lia
   refine jo (d:=.lst ((aW (ks2 (thA s) (thA (nx s))) (thR c s)).map Ro.toD)) ((bo (kG (bo (kG (bo (ME rfl rfl rfl ⟨by lia,by rw[j];lia⟩)) (bo (ai (aX (ai rfl (ai rfl (ai rfl (ai (bo (ai (aX (ai rfl (ai rfl rfl))) (ai (aX (ai rfl (ai rfl rfl))) rfl))) rfl))))) rfl)) ?_)) (bo (MF rfl rfl rfl ⟨by lia,by rw[j];lia⟩)) ?_)).trans ?_) ⟨_,rfl⟩
   .rw[aG,gr];show _+1<=_;lia
   .rw[bg,aG,aG,gr,ie];show _+1+_<=_;lia
   .rw[tn,(q _).1,(q _).2,<- MH];unfold thR
    congr 2
    unfold aW;rw[bU,bU,bU,di,fm,fm];rfl
 obtain⟨o,e,a,rfl⟩:=w;exact jq e rfl
abbrev itD{e:Type}(F:D->Int->Int×e):LD->Int->Int×List e
 | [],s=>(s,[])
 |d::ds,s=>((itD F ds (F d s).1).1,(F d s).2::(itD F ds (F d s).1).2)
def Es{u:Type}{fe:Xe}{F:D->Int->Int×u}{toD:u->D}{l:Addr}{p:LS}(z:∀d s,d∈ds->okS s->fe [.im d,.pin l [.int s]]=aa (toD (F d s).2,[.im d,.pin l [.int (F d s).1]]))(y:∀d s,okS (F d s).1){fi:Xa}(h:okS s)(hi:fi ρ=aa (ds,.pin l [.int s]::p))(hz:ds.length<=1000):
  iE 1 [0] 0 0 fi (aJ 0) fe ρ=aa (.lst ((itD F ds s).2.map toD),.pin l [.int (itD F ds s).1]::p):=by
 have j:∀(e:Sl) d s,d∈ds->okS s->mv 1 [0] 0 0 (aJ 0) fe (e::p) l d [.int s]=aa (toD (F d s).2,[.int (F d s).1]):=λe d s hd h=>by
  unfold mv;show(aa [Sl.im d,Sl.pin l [.int s]]).bind _=_;rw[aR,z d s hd h,aR];refine if_pos λi hi=>?_
  cases i with
  |zero=>nomatch hi
  |succ i=>rfl
 have loop:∀(e:Sl) (zs:LD) (s:Int),(∀d∈zs,d∈ds)->okS s->f8 1 [0] 0 0 (aJ 0) fe (e::p) l zs [.int s]=aa ((itD F zs s).2.map toD,[.int (itD F zs s).1]):=λe zs=>by
  induction zs with
  |nil=>intro s _ _;rfl
  |cons d zs B=>
   intro s hz h;unfold f8;rw[j e d s (hz d bR) h,aR,B (F d s).1 (λx A=>hz x (cE _ A)) (y d s)];rfl
 unfold iE;rw[hi,aR];show(if ds.length<=16777216/\([0]:LN)[0]?=aa 0/\_=af then (f8 1 [0] 0 0 _ _ _ l ds _).map λq=>_ else ae)=_;rw[if_pos ⟨by lia,rfl,rfl⟩,loop _ ds s (λ_ h=>h) h];rfl
@[reducible]noncomputable def dvs(c m:Nat):LN:=((bx m).map (· + 1)).filter λk=>decide (c % k=0)
def MJ{f:Xe}(h:f ρ=aa (.lst ds,ρ1))(k:K (.nx (ρ1.set i (.own ds)))):wp (pY i f) ρ K:=⟨_,by unfold pY;rw[h];rfl,k⟩
def MK{e:Xe}{j:MF1}{n:Int}(z:j ρ=aa d)(q:ρ[i]?=aa (.own xs0))(y:e ρ=aa (.int n,ρ1))(u:ρ1[i]?=aa (.own xs))(p:0<=n/\n<(xs.length:Nat))(k:K (.nx (ρ1.set i (.own (xs.set n.toNat d))))):wp (nW i e j) ρ K:=⟨_,by
 unfold nW;rw[z,aR,q];dsimp only;rw[y,aR];dsimp only;rw[u];dsimp only;rw[show ixN xs.length n=aa n.toNat by unfold ixN;rw[if_pos p.1,if_pos p.2]];rfl,k⟩
abbrev dvP(c m:Nat)(s:Int):Nat:=(dvs c m).getD (dr s ((dvs c m).length:Nat)).toNat 1
def Et(z:0<c)(y:0<m):0<(dvs c m).length/\∀k∈dvs c m,0<k/\k<=m/\c % k=0:=by
 refine⟨length_pos_of_mem (a:=1) (kQ.mpr ⟨bZ.mpr ⟨0,cF.mpr y,rfl⟩,decide_eq_true (Nat.mod_one c)⟩),λk u=>?_⟩;obtain⟨e,p⟩:=kQ.mp u;obtain⟨j,q,rfl⟩:=bZ.mp e;have:=cF.mp q;exact⟨by lia,by lia,of_decide_eq_true p⟩
def Eu(j:0<c)(p:0<m)(s:Int):0<dvP c m s/\dvP c m s<=m/\c % dvP c m s=0:=by
 obtain⟨a,b⟩:=Et j p;have d:=eB s (k:=((dvs c m).length:Nat)) (by lia);have e:(dr s ((dvs c m).length:Nat)).toNat<(dvs c m).length:=by lia
 unfold dvP;rw[jG,fH e];exact b _ (vc e)
def ML(v:Int)(h:0<=v/\v<=500):ix [D.int 1,D.int v]=aa (rng 1 (v-1).toNat):=if_pos ⟨by decide,by decide,by lia,by lia⟩
def Ev(l:Addr)(c m:Nat)(s:Int)(E:okS s)(u:0<c)(B:0<m/\m<=100):uB l [] [.int (c:Nat),.int (m:Nat)] [.int s]=aa ([.int (nx s)],.int (dvP c m s:Nat)):=by
 obtain⟨H,I⟩:=Et u B.1
 have w:wp qf [.pin l [.int s],.im (.int (c:Nat)),.im (.int (m:Nat)),.no] (λo=>∃a,o=.rtS (.int (dvP c m s:Nat)) (.pin l [.int (nx s)]::a)):=by
  unfold qf;apply ax;refine b6 (d:=.lst ((dvs c m).map λ(k:Nat)=>D.int k)) (bo (wz ((bx m).map (· + 1)) (λ(k:Nat)=>D.int k) (λk=>decide (c % k=0)) (λ(k:Nat)=>D.int k) ?_ (by rw[aG,cK];lia) λk A=>?_)) ?_
  .unfold gf;rw[ai (d:=.int 1) rfl (ai (av rfl rfl dR) rfl),aR];rw[ML _ ⟨by lia,by lia⟩,Bc,map_map]
   congr 1
   rw[show((m:Int)+1-1).toNat=m by lia];refine qW λi _=>?_;show D.int (1+(i:Int))=D.int ((i+1:Nat):Int)
   congr 1
   lia
  .obtain⟨j,G,rfl⟩:=bZ.mp A
   have e:∀b:Bool,(((c:Int) % ((j+1:Nat):Int))==0)=b->g3 (aJ 0) (mB (m2 dEq (m2 gZ (ag 1) (ag 0)) (kI 0))) (ag 0) [.no,.im (.int (c:Nat))] (.int ((j+1:Nat):Int))=aa (if b then aa (.int ((j+1:Nat):Int)) else ae):=λb q=>by
    have p:mB (m2 dEq (m2 gZ (ag 1) (ag 0)) (kI 0)) [.im (.int ((j+1:Nat):Int)),.im (.int (c:Nat))]=aa b:=bf (av (av rfl rfl (li (by lia))) rfl (by rw[fP,q]))
    cases b with
    |true=>exact fB rfl p rfl
    |false=>exact nE (b:=aj) (y:=.non) rfl p λe=>nomatch e
   refine e _ ?_;show(((c % (j+1):Nat):Int)==0)=_
   cases hz:decide (c % (j+1)=0)with
   |true=>rw[of_decide_eq_true hz];rfl
   |false=>
    have:=of_decide_eq_false hz;rw[beq_eq_false_iff_ne];lia
  show wp _ [.pin l [.int s],.im (.int (c:Nat)),.im (.int (m:Nat)),.im (.lst ((dvs c m).map λ(k:Nat)=>D.int k))] _;have d:=eB s (k:=((dvs c m).length:Nat)) (by lia);exact CW (gN (aY rfl) (fG l s _ _ (aZ (ai rfl rfl) (f7 (dvs c m) λ(k:Nat)=>D.int k)) E (by lia)) (K3 (z:=1) (λ(k:Nat)=>D.int k) d)) ⟨_,rfl⟩
 obtain⟨o,e,a,rfl⟩:=w;exact jq e rfl
abbrev qS(_:D)(s:Int):Int×Ti:=(nx s,(t0 [113],dr s 3))
abbrev itA(c:Nat)(s:Int):Nat:=dvP c 12 s
abbrev itB(c:Nat)(s:Int):Nat:=dvP (c / itA c s) 4 (nx s)
abbrev itC(c:Nat)(s:Int):Nat:=c / itA c s / itB c s
abbrev itQ(c:Nat)(s:Int):Int×List Ti:=itD qS ((bx (itC c s)).map λ(i:Nat)=>D.int i) (nx (nx s))
abbrev itL(c:Nat)(s:Int):List Ti:=(itQ c s).2.set (dr (itQ c s).1 (itC c s)).toNat (tP,1)
abbrev itW(c:Nat)(s:Int):Int:=dr (nx (itQ c s).1) 3
abbrev itR(c:Nat)(s:Int)(bd:List Pa):Ro:=if itW c s=0 then iR (itL c s) bd else iS (decide (itW c s=1)) (itL c s) bd
def zp:∀(ds:LD) (s:Int),okS s->okS (itD qS ds s).1/\(itD qS ds s).2.length=ds.length/\∀z∈(itD qS ds s).2,ItQ z
 | [],s,h=>⟨h,rfl,λ_ z=>(cp z).elim⟩
 |d::ds,s,_=>by
  obtain⟨a,b,c⟩:=zp ds (nx s) (cQ s);refine⟨a,congrArg (· + 1) b,λz hz=>?_⟩
  rcases bM.mp hz with e |e
  .rw[e];exact .inl rfl
  .exact c z e
def u0(N:58<=c/\c<=65)(s:Int)(U:okS s):(0<itA c s/\itA c s<=12)/\(0<itB c s/\itB c s<=4)/\itC c s*(itA c s*itB c s)=c/\0<itC c s/\itC c s<=65/\okS (itQ c s).1/\(itQ c s).2.length=itC c s/\(itL c s).length=itC c s/\∀z∈itL c s,ItQ z:=by
 obtain⟨p,q,y⟩:=Eu (c:=c) (m:=12) (by lia) (by decide) s;have I:0<c / itA c s:=Nat.div_pos (c9 q (by lia)) p;obtain⟨A,B,E⟩:=Eu (c:=c / itA c s) (m:=4) I (by decide) (nx s);have G:c / itA c s*itA c s=c:=Nat.div_mul_cancel (Nat.dvd_of_mod_eq_zero y);have H:itC c s*itB c s=c / itA c s:=Nat.div_mul_cancel (Nat.dvd_of_mod_eq_zero E);have u:itC c s*(itA c s*itB c s)=c:=by rw[Nat.mul_comm (itA c s),<- Nat.mul_assoc,H,G]
 have J:0<itC c s:=by
  rcases Nat.eq_zero_or_pos (itC c s)with z |z
  .rw[z,Nat.zero_mul]at u;lia
  .exact z
 have M:itC c s<=65:=c9 (Nat.div_le_self _ _) (c9 (Nat.div_le_self _ _) N.2);obtain⟨Q,j,T⟩:=zp ((bx (itC c s)).map λ(i:Nat)=>D.int i) (nx (nx s)) (cQ _);rw[aG,cK]at j;refine⟨⟨p,q⟩,⟨A,B⟩,u,J,M,Q,j,by unfold itL;rw[length_set];exact j,λz hz=>?_⟩
 rcases mem_or_eq_of_mem_set hz with e |e
 .exact T z e
 .rw[e];exact .inr rfl
def MM(its:List Ti):(iR its []).toD=.tup [.str "choose",.int 1,.int 2,.lst (its.map bS),.lst [.tup [.str "X",.str "k"],.tup [.str "Y",.str "j"]],.lst [],.lst []]:=by
 rw[XT,YT,kT,jT];rfl
def MN(w:Bool)(its:List Ti):(iS w its []).toD=.tup [.str "may",.tup [.str "q",.lst []],.lst [.tup [.str (if w then "least" else "most"),.int 2,.lst (its.map bS),.lst [.tup [.str "X",.str "k"],.tup [.str "Y",.str "j"]]]],.lst []]:=by
 rw[XT,YT,kT,jT,qT];rfl
def Ew(l:Addr)(c:Nat)(s:Int)(u:okS s)(E:58<=c/\c<=65):uD l [] [.int (c:Nat)] [.int s]=aa ([.int (nx (nx (itQ c s).1))],.lst ((aW (ks2 (itA c s) (itB c s)) [itR c s []]).map Ro.toD)):=by
 obtain⟨⟨z,j⟩,⟨M,N⟩,Y,Q,T,J,y,l1,l2⟩:=u0 E s u;have H:=cQ s;have I:=cQ (nx s);have B:0<c / itA c s:=Nat.div_pos (c9 j (by lia)) z
 have w:wp qg [.pin l [.int s],.im (.int (c:Nat)),.no,.no,.no,.no,.no,.no] (λo=>∃a,o=.rtS (.lst ((aW (ks2 (itA c s) (itB c s)) [itR c s []]).map Ro.toD)) (.pin l [.int (nx (nx (itQ c s).1))]::a)):=by
  unfold qg;apply ax;refine fD (kz (ρ1:=[.pin l [.int s],.im (.int (c:Nat)),.no,.no,.no,.no,.no,.no]) rfl (bi (aY rfl) (bi (aY rfl) rfl)) rfl (Ev l c 12 s u (by lia) (by decide))) ?_;show wp _ [.pin l [.int (nx s)],.im (.int (c:Nat)),.im (.int (itA c s:Nat)),.no,.no,.no,.no,.no] _;apply ax;refine fD (kz (ρ1:=[.pin l [.int (nx s)],.im (.int (c:Nat)),.im (.int (itA c s:Nat)),.no,.no,.no,.no,.no]) rfl (bi (aY (d:=.int ((c / itA c s:Nat):Int)) (av rfl rfl (by rw[mj ⟨by lia,by lia⟩];rfl))) (bi (aY rfl) rfl)) rfl (Ev l (c / itA c s) 4 (nx s) H B (by decide))) ?_;show wp _ [.pin l [.int (nx (nx s))],.im (.int (c:Nat)),.im (.int (itA c s:Nat)),.im (.int (itB c s:Nat)),.no,.no,.no,.no] _;apply ax;refine b6 (d:=.lst ((aW (ks2 (itA c s) (itB c s)) []).map Ro.toD)) (bo (ai (aZ (ai (by rw[kT]) (ai (by rw[aT]) (ai rfl rfl))) (mP [107] 97 (itA c s) j)) (ai (aZ (ai (by rw[jT]) (ai (by rw[bT]) (ai rfl rfl))) (mP [106] 98 (itB c s) (by lia))) rfl))) ?_;apply ax;refine MJ (ds:=(itQ c s).2.map bS) (ρ1:=[.pin l [.int (itQ c s).1],.im (.int (c:Nat)),.im (.int (itA c s:Nat)),.im (.int (itB c s:Nat)),.im (.lst ((aW (ks2 (itA c s) (itB c s)) []).map Ro.toD)),.no,.no,.no]) (Es (F:=qS) (toD:=bS) (λd s _ h=>?_) (λd s=>cQ s) I (C0 (v:=(itC c s:Nat)) (aY (av (x:=.int ((c / itA c s:Nat):Int)) (av rfl rfl (by rw[mj ⟨by lia,by lia⟩];rfl)) rfl (by rw[mj ⟨by lia,by lia⟩];rfl))) (by lia) (by lia)) (by rw[aG,cK];lia)) ?_
  .have A:D.tup [.str "q",.lst []]=kdD (t0 [113]):=by rw[qT];rfl
   show jt _ _=aa (.tup [kdD (t0 [113]),.int (dr s 3)],_);rw[<- A];exact uZ (bi (aY (aX (ai rfl (ai rfl rfl)))) (bi (kz (i:=1) (ρ1:=[.im d,.pin l [.int s]]) rfl (bi (aY rfl) rfl) rfl (oi l s 3 h (by decide))) rfl))
  show wp _ [.pin l [.int (itQ c s).1],.im (.int (c:Nat)),.im (.int (itA c s:Nat)),.im (.int (itB c s:Nat)),.im (.lst ((aW (ks2 (itA c s) (itB c s)) []).map Ro.toD)),.own ((itQ c s).2.map bS),.no,.no] _;have p:=eB (itQ c s).1 (k:=(itC c s:Nat)) (by lia);apply ax
  refine MK (d:=bS (tP,1)) (xs0:=(itQ c s).2.map bS) (xs:=(itQ c s).2.map bS) (by
   have:bS (tP,1)=.tup [.tup [.str "p",.lst [.str "X",.str "Y"]],.int 1]:=by rw[pT,XT,YT];rfl
   rw[this];exact aX (ai (aX (ai rfl (ai (bo (ai rfl (ai rfl rfl))) rfl))) (ai rfl rfl))) rfl (fG l (itQ c s).1 (itC c s:Nat) _ ((aZ (ai rfl rfl) (f7 (itQ c s).2 bS)).trans (by rw[y])) J (by lia)) rfl ⟨p.1,by rw[aG,y];exact p.2⟩ ?_
  rw[<- map_set];show wp _ [.pin l [.int (nx (itQ c s).1)],.im (.int (c:Nat)),.im (.int (itA c s:Nat)),.im (.int (itB c s:Nat)),.im (.lst ((aW (ks2 (itA c s) (itB c s)) []).map Ro.toD)),.own ((itL c s).map bS),.no,.no] _;apply ax;refine b6 (d:=.lst [.tup [.str "X",.str "k"],.tup [.str "Y",.str "j"]]) (bo (ai (aX (ai rfl (ai rfl rfl))) (ai (aX (ai rfl (ai rfl rfl))) rfl))) ?_;apply ax;refine fD (fG l _ 3 _ rfl (cQ _) (by decide)) ?_;show wp _ [.pin l [.int (nx (nx (itQ c s).1))],.im (.int (c:Nat)),.im (.int (itA c s:Nat)),.im (.int (itB c s:Nat)),.im (.lst ((aW (ks2 (itA c s) (itB c s)) []).map Ro.toD)),.own ((itL c s).map bS),.im (.lst [.tup [.str "X",.str "k"],.tup [.str "Y",.str "j"]]),.im (.int (itW c s))] _;have U:0<=itW c s/\itW c s<3:=eB _ (by decide);have q:∀r:Ro,(aW (ks2 (itA c s) (itB c s)) []).map Ro.toD++[r.toD]=(aW (ks2 (itA c s) (itB c s)) [r]).map Ro.toD:=λr=>rfl;apply ax;refine bw (bf (av rfl rfl (fP _ _))) (λe=>?_) λe=>ce ?_
  .have e:itW c s=0:=by simpa using e
   refine g6 (ρ':=[.pin l [.int (nx (nx (itQ c s).1))],.im (.int (c:Nat)),.im (.int (itA c s:Nat)),.im (.int (itB c s:Nat)),.im (.lst ((aW (ks2 (itA c s) (itB c s)) []).map Ro.toD)),.im (.lst ((itL c s).map bS)),.im (.lst [.tup [.str "X",.str "k"],.tup [.str "Y",.str "j"]]),.im (.int (itW c s))]) rfl ?_;refine jo (d:=.lst ((aW (ks2 (itA c s) (itB c s)) [itR c s []]).map Ro.toD)) ((bo (kG rfl (bo (ai (aX (ai rfl (ai rfl (ai rfl (ai rfl (ai rfl (ai rfl (ai rfl rfl)))))))) rfl)) (by show 2+1<=_;decide))).trans ?_) ⟨_,rfl⟩;unfold itR;rw[if_pos e,<- q,MM]
  .have e:itW c s≠0:=by simpa using e
   refine g6 (ρ':=[.pin l [.int (nx (nx (itQ c s).1))],.im (.int (c:Nat)),.im (.int (itA c s:Nat)),.im (.int (itB c s:Nat)),.im (.lst ((aW (ks2 (itA c s) (itB c s)) []).map Ro.toD)),.im (.lst ((itL c s).map bS)),.im (.lst [.tup [.str "X",.str "k"],.tup [.str "Y",.str "j"]]),.im (.int (itW c s))]) rfl ?_
   have G:mIx (ac (kSt "least") (ac (kSt "most") nZ)) (m2 fY (ag 7) (kI 1)) [.pin l [.int (nx (nx (itQ c s).1))],.im (.int (c:Nat)),.im (.int (itA c s:Nat)),.im (.int (itB c s:Nat)),.im (.lst ((aW (ks2 (itA c s) (itB c s)) []).map Ro.toD)),.im (.lst ((itL c s).map bS)),.im (.lst [.tup [.str "X",.str "k"],.tup [.str "Y",.str "j"]]),.im (.int (itW c s))]=aa (.str (if decide (itW c s=1) then "least" else "most")):=by
    refine ar (ai rfl (ai rfl rfl)) (av rfl rfl g8) ?_;have:itW c s=1\/itW c s=2:=by lia
    rcases this with e |e <;> (rw[e];rfl)
   refine jo (d:=.lst ((aW (ks2 (itA c s) (itB c s)) [itR c s []]).map Ro.toD)) ((bo (kG rfl (bo (ai (aX (ai rfl (ai (aX (ai rfl (ai rfl rfl))) (ai (bo (ai (aX (ai G (ai rfl (ai rfl (ai rfl rfl))))) rfl)) (ai rfl rfl))))) rfl)) (by show 2+1<=_;decide))).trans ?_) ⟨_,rfl⟩;unfold itR;rw[if_neg e,<- q,MN]
 obtain⟨o,e,a,rfl⟩:=w;exact jq e rfl
def MO(d:D)(r:LD):atI (d::r) 0=aa d:=by
 unfold atI ixN;rw[if_pos (by decide),if_pos (by rw[cL];lia)];rfl
@[reducible]noncomputable def uAA:Pa:=.un [97,97] [97,97]
def MP(c:Nat)(s:Int)(ρ:LS)(y:ρ[3]?=aa (.im (itR c s []).toD))(A:ρ[4]?=aa (.im (sT [97,97]))):
  nV (kh (ag 3) (λ_=>aa ae) (mPt (m1 bP (kI 2)))) (aO (ac (aw (eh (mIx (am 3) (m1 bP (kI 2))) (aw (ac (aO (ac (kSt "unlike") (ac (ag 4) (ac (ag 4) nZ)))) nZ)))) (ac (mIx (am 3) (m1 bP (kI 1))) nZ))) ρ=aa (itR c s [uAA]).toD:=by
 have p:ag 3 ρ=aa (itR c s []).toD:=by unfold ag;rw[y]
 have z:ag 4 ρ=aa (sT [97,97]):=by unfold ag;rw[A]
 have j:am 3 ρ=ip (itR c s []).toD:=by unfold am;rw[y]
 have u:aw (ac (aO (ac (kSt "unlike") (ac (ag 4) (ac (ag 4) nZ)))) nZ) ρ=aa (.lst [uAA.toD]):=bo (ai (aX (ai rfl (ai z (ai z rfl)))) rfl);unfold itR at p j ⊢;split at p
 .rename_i e;rw[if_pos e]at j ⊢
  have q:kh (ag 3) (λ_=>aa ae) (mPt (m1 bP (kI 2))) ρ=aa (.tup [.str "choose",.int 1,.int 2,.lst ((itL c s).map bS),.lst (psP.map prD)]):=by
   unfold kh;rw[p];rfl
  unfold nV;rw[q,aR,aX (ai (bo (kG (ar (ds:=[.str "choose",.int 1,.int 2,.lst ((itL c s).map bS),.lst (psP.map prD),.lst [],.lst []]) j rfl rfl) u (lL rfl))) (ai (ar (ds:=[.str "choose",.int 1,.int 2,.lst ((itL c s).map bS),.lst (psP.map prD),.lst [],.lst []]) j rfl rfl) rfl))];rfl
 .rename_i e;rw[if_neg e]at j ⊢;generalize decide (itW c s=1)=w at p j ⊢
  have q:kh (ag 3) (λ_=>aa ae) (mPt (m1 bP (kI 2))) ρ=aa (.tup [.str "may",kdD (t0 [113])]):=by
   unfold kh;rw[p];rfl
  unfold nV;rw[q,aR,aX (ai (bo (kG (ar (ds:=[.str "may",kdD (t0 [113]),.lst [(Pa.ct w 2 (itL c s) psP).toD],.lst []]) j rfl rfl) u (lL rfl))) (ai (ar (ds:=[.str "may",kdD (t0 [113]),.lst [(Pa.ct w 2 (itL c s) psP).toD],.lst []]) j rfl rfl) rfl))];rfl
def MQ(l:Addr)(c:Nat)(s:Int)(p:okS s)(G:58<=c/\c<=62):yy l [] [.int (c:Nat)] [.int s]=aa ([.int (nx (nx (itQ (c+3) s).1))],.lst ((aW (ks2 (itA (c+3) s) (itB (c+3) s)) [itR (c+3) s [uAA]]).map Ro.toD)):=by
 obtain⟨⟨q,u⟩,_⟩:=u0 (c:=c+3) (by lia) s p
 have w:wp qh [.pin l [.int s],.im (.int (c:Nat)),.no,.no,.no] (λo=>∃a,o=.rtS (.lst ((aW (ks2 (itA (c+3) s) (itB (c+3) s)) [itR (c+3) s [uAA]]).map Ro.toD)) (.pin l [.int (nx (nx (itQ (c+3) s).1))]::a)):=by
  unfold qh;apply ax;refine fD (kz (ρ1:=[.pin l [.int s],.im (.int (c:Nat)),.no,.no,.no]) rfl (bi (aY (d:=.int ((c+3:Nat):Int)) (av rfl rfl (by rw[dR];rfl))) rfl) rfl (Ew l (c+3) s p (by lia))) ?_;generalize nx (nx (itQ (c+3) s).1)=z;generalize E:itA (c+3) s=A at q u;generalize itB (c+3) s=B;obtain⟨j,rfl⟩:∃j,A=j+1:=⟨A-1,by lia⟩
  have y:(nmK 97 (j+1)).map sT=sT [97,97]::((bx j).map λk=>sT [97,97+(k+1)]):=by
   show((bx (j+1)).map _).map _=_;rw[range_succ_eq_map,di,di,map_map,map_map];rfl
  apply ax;refine b6 (d:=(itR (c+3) s []).toD) (ar rfl rfl rfl) ?_;apply ax;refine b6 (d:=sT [97,97]) (ar (bz (ar (bz (ar rfl rfl rfl) rfl) rfl rfl) rfl) rfl (by show atI ((nmK 97 (j+1)).map sT) 0=_;rw[y];exact MO _ _)) ?_;show wp _ [.pin l [.int z],.im (.int (c:Nat)),.im (.lst ((aW (ks2 (j+1) B) [itR (c+3) s []]).map Ro.toD)),.im (itR (c+3) s []).toD,.im (sT [97,97])] _;refine jo (d:=.lst ((aW (ks2 (j+1) B) [itR (c+3) s [uAA]]).map Ro.toD)) ((bo (kG (bo (sW (xs:=aW (ks2 (j+1) B) [itR (c+3) s []]) (g:=Ro.toD) rfl rfl rfl)) (bo (ai (MP (c+3) s _ rfl rfl) rfl)) ?_)).trans ?_) ⟨_,rfl⟩
  .show 2+1<=_;decide
  .rfl
 obtain⟨o,e,a,rfl⟩:=w;exact jq e rfl
abbrev twN(s:Int):Nat:=(30+dr s 31).toNat
abbrev twQ(s:Int):Int×List Ti:=itD qS ((bx (twN s)).map λ(i:Nat)=>D.int i) (nx s)
abbrev twP(s:Int):Pa:=.ct (decide (dr (twQ s).1 2=0)) 2 (twQ s).2 []
abbrev twE(s:Int):Int:=nx (twQ s).1
abbrev twB(s:Int):List Pa:=[twP s,twP (twE s)]
@[reducible]noncomputable def iT(bd:List Pa):Ro:=.rule aj (t0 [112]) bd []
def qH(s:Int):(twN s:Int)=30+dr s 31/\30<=twN s/\twN s<=60:=by
 have:=eB s (k:=31) (by decide);unfold twN;lia
def qI(s:Int):okS (twQ s).1/\(twQ s).2.length=twN s/\∀z∈(twQ s).2,∃w,z=(t0 [113],w):=by
 obtain⟨a,b,_⟩:=zp ((bx (twN s)).map λ(i:Nat)=>D.int i) (nx s) (cQ s);rw[aG,cK]at b;refine⟨a,b,?_⟩
 have:∀(ds:LD) (s:Int),∀z∈(itD qS ds s).2,∃w,z=(t0 [113],w):=λds=>by
  induction ds with
  |nil=>exact λs z hz=>(cp hz).elim
  |cons d ds j=>
   intro s z hz
   rcases bM.mp hz with e |e
   .exact⟨_,e⟩
   .exact j _ z e
 exact this _ _
def MR(l:Addr)(s:Int)(M:okS s):yD l [] [] [.int s]=aa ([.int (twE (twE s))],.lst ([iT (twB s)].map Ro.toD)):=by
 have w:wp qo [.pin l [.int s],.no,.no,.no] (λo=>∃a,o=.rtS (.lst ([iT (twB s)].map Ro.toD)) (.pin l [.int (twE (twE s))]::a)):=by
  unfold qo;apply ax;refine fc (d:=[]) rfl ?_;apply ax
  let F:Nat->Int×List Pa:=λn=>match n with | 0=>(s,[]) | 1=>(twE s,[twP s]) | _=>(twE (twE s),twB s)
  refine eH [0,1] (λ(i:Nat)=>D.int i) (λpre ρ=>pre=bx pre.length/\∃q j,ρ=[.pin l [.int (F pre.length).1],.own ((F pre.length).2.map Pa.toD),q,j]) (by rw[oD (v:=2) rfl (by decide) (by decide)];rfl) ⟨rfl,_,_,rfl⟩ ?_ ?_
  .rintro pre x post ρ H ⟨U,q,j,rfl⟩;refine⟨_,rfl,?_⟩
   have A:(pre=[]/\x=0)\/(pre=[0]/\x=1):=by
    cases pre with
    |nil=>exact .inl ⟨rfl,(mY H).1.symm⟩
    |cons y pre=>
     obtain⟨rfl,E⟩:=mY H
     cases pre with
     |nil=>exact .inr ⟨rfl,(mY E).1.symm⟩
     |cons z pre=>obtain⟨_,u⟩:=mY E;cases pre <;> nomatch u
   have G:okS (F pre.length).1/\F (pre.length+1)=(twE (F pre.length).1,(F pre.length).2++[twP (F pre.length).1])/\(F pre.length).2.length<=1/\pre++[x]=bx (pre.length+1):=by
    rcases A with⟨rfl,rfl⟩ |⟨rfl,rfl⟩
    .exact⟨M,rfl,by show 0<=1;decide,rfl⟩
    .exact⟨cQ _,rfl,by show 1<=1;decide,rfl⟩
   rw[bg,fj,G.2.1];obtain⟨B,_,u,J⟩:=G;generalize F pre.length=p at B u;obtain⟨Q,t2,t3⟩:=qH p.1;obtain⟨N,Y,_⟩:=qI p.1;apply ax;refine fD (d:=.lst ((twQ p.1).2.map bS)) (ρ1:=[.pin l [.int (twQ p.1).1],.own (p.2.map Pa.toD),.im (.int (x:Nat)),j]) (Es (F:=qS) (toD:=bS) (λd s _ h=>?_) (λd s=>cQ s) (cQ p.1) (C0 (v:=(twN p.1:Nat)) (gN (aY rfl) (fG l p.1 31 _ rfl B (by decide)) (by rw[Q];exact dR)) (by lia) (by lia)) (by rw[aG,cK];lia)) ?_
   .have I:D.tup [.str "q",.lst []]=kdD (t0 [113]):=by rw[qT];rfl
    show jt _ _=aa (.tup [kdD (t0 [113]),.int (dr s 3)],_);rw[<- I];exact uZ (bi (aY (aX (ai rfl (ai rfl rfl)))) (bi (kz (i:=1) (ρ1:=[.im d,.pin l [.int s]]) rfl (bi (aY rfl) rfl) rfl (oi l s 3 h (by decide))) rfl))
   show wp _ [.pin l [.int (twQ p.1).1],.own (p.2.map Pa.toD),.im (.int (x:Nat)),.im (.lst ((twQ p.1).2.map bS))] _;have T:=eB (twQ p.1).1 (k:=2) (by decide)
   refine zo (d:=(twP p.1).toD) (xs:=p.2.map Pa.toD) (ρ1:=[.pin l [.int (twE p.1)],.own (p.2.map Pa.toD),.im (.int (x:Nat)),.im (.lst ((twQ p.1).2.map bS))]) rfl (uZ (bi (gN (aY (bo (ai rfl (ai rfl rfl)))) (fG l (twQ p.1).1 2 _ rfl N (by decide)) (by
    have:dr (twQ p.1).1 2=0\/dr (twQ p.1).1 2=1:=by lia
    show _=aa (D.str (if decide (dr (twQ p.1).1 2=0) then "least" else "most"))
    rcases this with e |e <;> (rw[e];rfl))) (bi (aY rfl) (bi (aY rfl) (bi (aY rfl) rfl))))) rfl (by rw[aG];lia) ⟨J,.im (.int (x:Nat)),.im (.lst ((twQ p.1).2.map bS)),?_⟩
   show[Sl.pin l [.int (twE p.1)],.own (p.2.map Pa.toD++[(twP p.1).toD]),_,_]=[Sl.pin l [.int (twE p.1)],.own ((p.2++[twP p.1]).map Pa.toD),_,_];rw[bU];rfl
  .rintro ρ ⟨_,q,j,rfl⟩;show wp _ [.pin l [.int (twE (twE s))],.own ((twB s).map Pa.toD),q,j] _;refine g6 (ρ':=[.pin l [.int (twE (twE s))],.im (.lst ((twB s).map Pa.toD)),q,j]) rfl ?_;refine jo (d:=.lst ([iT (twB s)].map Ro.toD)) ((bo (ai (aX (ai rfl (ai (aX (ai rfl (ai rfl rfl))) (ai rfl (ai rfl rfl))))) rfl)).trans ?_) ⟨_,rfl⟩;rw[pT];rfl
 obtain⟨o,e,a,rfl⟩:=w;exact jq e rfl
abbrev wyW(s:Int):Int:=dr s 3
abbrev wyS(s:Int):Int:=if wyW s=1 then nx (nx s) else nx s
abbrev wyB(s:Int):List Pa:=if wyW s=2 then bd2 else if wyW s=1 then bd1 (dr (nx s) 4).toNat else bd0
abbrev wyA(s:Int):Nat:=if wyW s=2 then 12 else 8
abbrev wyC(s:Int):Nat:=if wyW s=2 then 3 else 8
abbrev wyJ(s:Int):Bool:=decide (wyW s=2)
abbrev wyK(s:Int):Int:=if wyW s=2 then 396 else if wyW s=1 then 336 else 392
abbrev wyR(s:Int):Ro:=mO (decide (dr (wyS s) 2=0)) (wyJ s) (wyB s)
abbrev kK(c s:Int):Int×List Ro:=itI (c-wyK s).toNat (nx (wyS s),[wyR s])
def unD(x y:Str)(a b:LN)(e:x=tx a)(j:y=tx b):D.tup [.str "unlike",.str x,.str y]=(Pa.un a b).toD:=by rw[e,j]
def iqD:D.tup [.str "is",.tup [.str "q",.lst []]]=iQ.toD:=by rw[qT];rfl
def MS(l:Addr)(c s:Int)(M:okS s)(Y:398<=c/\c<=402):yF l [] [.int c] [.int s]=aa ([.int (kK c s).1],.lst ((aW (ks2 (wyA s) (wyC s)) (kK c s).2).map Ro.toD)):=by
 have N:=cQ s;have U:0<=wyW s/\wyW s<3:=eB s (by decide);have u:wyW s=0\/wyW s=1\/wyW s=2:=by lia
 have I:okS (wyS s):=by unfold wyS;split <;> exact cQ _
 have H:(wyB s).length<=4:=by
  unfold wyB;split
  .decide
  .split
   .show(bd0.take _++uZX::bd0.drop _).length<=4;rw[bg,cL,gr,ie];show min _ 3+(3-_+1)<=4;have:=eB (nx s) (k:=4) (by decide);lia
   .decide
 have w:wp qp [.pin l [.int s],.im (.int c),.no,.no,.no,.no,.no] (λo=>∃a,o=.rtS (.lst ((aW (ks2 (wyA s) (wyC s)) (kK c s).2).map Ro.toD)) (.pin l [.int (kK c s).1]::a)):=by
  unfold qp;apply ax;refine fD (fG l s 3 _ rfl M (by decide)) ?_;show wp _ [.pin l [.int (nx s)],.im (.int c),.im (.int (wyW s)),.no,.no,.no,.no] _;apply ax;refine fc (d:=(if wyW s=2 then bd2 else bd0).map Pa.toD) ?_ ?_
  .have E:mIx (ac (aO (ac (kSt "unlike") (ac (kSt "Z") (ac (kSt "Y") nZ)))) (ac (aO (ac (kSt "is") (ac (aO (ac (kSt "q") (ac (aw nZ) nZ))) nZ))) nZ)) (py (m2 dEq (ag 2) (kI 2))) [.pin l [.int (nx s)],.im (.int c),.im (.int (wyW s)),.no,.no,.no,.no]=aa (if wyW s=2 then iQ else uZY).toD:=by
    have G:py (m2 dEq (ag 2) (kI 2)) [.pin l [.int (nx s)],.im (.int c),.im (.int (wyW s)),.no,.no,.no,.no]=aa (.int (if wyW s=2 then 1 else 0)):=by rcases u with e |e |e <;> (rw[e];rfl)
    refine ar (ds:=[uZY.toD,iQ.toD]) (ai ((aX (ai rfl (ai rfl (ai rfl rfl)))).trans (by rw[unD "Z" "Y" _ _ ZT YT])) (ai ((aX (ai rfl (ai (aX (ai rfl (ai rfl rfl))) rfl))).trans (by rw[iqD])) rfl)) G ?_
    rcases u with e |e |e <;> (rw[e];rfl)
   refine(ai ((aX (ai rfl (ai rfl (ai rfl rfl)))).trans (by rw[unD "X" "Y" _ _ XT YT])) (ai ((aX (ai rfl (ai (aX (ai rfl (ai rfl rfl))) rfl))).trans (by rw[iqD])) (ai E rfl))).trans ?_
   rcases u with e |e |e <;> (rw[e];rfl)
  refine pq (λρ=>ρ=[.pin l [.int (wyS s)],.im (.int c),.im (.int (wyW s)),.own ((wyB s).map Pa.toD),.no,.no,.no]) ?_ ?_
  .show wp _ [.pin l [.int (nx s)],.im (.int c),.im (.int (wyW s)),.own ((if wyW s=2 then bd2 else bd0).map Pa.toD),.no,.no,.no] _;refine bw (bf (av rfl rfl (fP _ _))) (λe=>?_) λe=>ce ⟨_,rfl,?_⟩
   .have e:wyW s=1:=by simpa using e
    have z:¬wyW s=2:=by lia
    rw[if_neg z];have B:=eB (nx s) (k:=4) (by decide);refine zm (d:=uZX.toD) (xs:=bd0.map Pa.toD) (ρ1:=[.pin l [.int (nx (nx s))],.im (.int c),.im (.int (wyW s)),.own (bd0.map Pa.toD),.no,.no,.no]) rfl (bi (fG l (nx s) 4 _ rfl N (by decide)) (bi (aY ((aX (ai rfl (ai rfl (ai rfl rfl)))).trans (by rw[unD "Z" "X" _ _ ZT XT]))) rfl)) rfl ⟨B.1,by show _<=((3:Nat):Int);lia,by decide⟩ ⟨_,rfl,?_⟩;unfold wyS wyB;rw[if_pos e,if_neg z,if_pos e,<- map_take,<- map_drop,<- di,<- bU];rfl
   .have e:¬wyW s=1:=by simpa using e
    unfold wyS wyB;rw[if_neg e,if_neg e]
  .rintro ρ rfl;apply ax
   have A:∀(x:Int) (y:Nat),(if wyW s=2 then x else 8)=(y:Int)->mIx (ac (kI 8) (ac (kI 8) (ac (λ_=>aa (.int x)) nZ))) (ag 2) [.pin l [.int (wyS s)],.im (.int c),.im (.int (wyW s)),.own ((wyB s).map Pa.toD),.no,.no,.no]=aa (.int (y:Nat)):=λx y h=>by
    refine ar (ai rfl (ai rfl (ai rfl rfl))) rfl ?_;rw[<- h]
    rcases u with e |e |e <;> (rw[e];rfl)
   refine fc (d:=(aW (ks2 (wyA s) (wyC s)) []).map Ro.toD) (ai (aZ (ai (by rw[kT]) (ai (by rw[aT]) (ai (A 12 (wyA s) (by unfold wyA;split <;> rfl)) rfl))) (mP [107] 97 (wyA s) (by unfold wyA;split <;> decide))) (ai (aZ (ai (by rw[jT]) (ai (by rw[bT]) (ai (A 3 (wyC s) (by unfold wyC;split <;> rfl)) rfl))) (mP [106] 98 (wyC s) (by unfold wyC;split <;> decide))) rfl)) ?_
   show wp _ [.pin l [.int (wyS s)],.im (.int c),.im (.int (wyW s)),.own ((wyB s).map Pa.toD),.own ((aW (ks2 (wyA s) (wyC s)) []).map Ro.toD),.no,.no] _;apply ax;refine b6 (d:=.lst ((psV (wyJ s)).map prD)) ?_ ?_
   .have ex:mIx (ac (kSt "k") (ac (kSt "k") (ac (kSt "j") nZ))) (ag 2) [.pin l [.int (wyS s)],.im (.int c),.im (.int (wyW s)),.own ((wyB s).map Pa.toD),.own ((aW (ks2 (wyA s) (wyC s)) []).map Ro.toD),.no,.no]=aa (.str (if wyJ s then "j" else "k")):=by
     refine ar (ai rfl (ai rfl (ai rfl rfl))) rfl ?_;unfold wyJ
     rcases u with e |e |e <;> (rw[e];rfl)
    refine(bo (ai (aX (ai rfl (ai rfl rfl))) (ai (aX (ai rfl (ai rfl rfl))) (ai (aX (ai rfl (ai ex rfl))) rfl)))).trans ?_;rw[XT,YT,ZT,kT,jT]
    cases wyJ s <;> rfl
   apply ax;refine g6 (ρ':=[.pin l [.int (wyS s)],.im (.int c),.im (.int (wyW s)),.im (.lst ((wyB s).map Pa.toD)),.own ((aW (ks2 (wyA s) (wyC s)) []).map Ro.toD),.im (.lst ((psV (wyJ s)).map prD)),.no]) rfl ?_;have T:=eB (wyS s) (k:=2) (by decide)
   refine zo (d:=(wyR s).toD) (xs:=(aW (ks2 (wyA s) (wyC s)) []).map Ro.toD) (ρ1:=[.pin l [.int (nx (wyS s))],.im (.int c),.im (.int (wyW s)),.im (.lst ((wyB s).map Pa.toD)),.own ((aW (ks2 (wyA s) (wyC s)) []).map Ro.toD),.im (.lst ((psV (wyJ s)).map prD)),.no]) rfl ((uZ (bi (gN (d:=.str (if decide (dr (wyS s) 2=0) then "rule" else "may")) (aY (bo (ai rfl (ai rfl rfl)))) (fG l (wyS s) 2 _ rfl I (by decide)) (by
    have:dr (wyS s) 2=0\/dr (wyS s) 2=1:=by lia
    rcases this with e |e <;> (rw[e];rfl))) (bi (aY (aX (ai rfl (ai rfl rfl)))) (bi (aY rfl) (bi (aY rfl) rfl))))).trans (by rw[pT];rfl)) rfl (by show 2<_;decide) ?_
   show wp _ [.pin l [.int (nx (wyS s))],.im (.int c),.im (.int (wyW s)),.im (.lst ((wyB s).map Pa.toD)),.own ((aW (ks2 (wyA s) (wyC s)) [wyR s]).map Ro.toD),.im (.lst ((psV (wyJ s)).map prD)),.no] _
   have hk:336<=wyK s/\wyK s<=396:=by unfold wyK;split;decide;split <;> decide
   have Q:=cQ (wyS s);apply ax
   refine eH (bx (c-wyK s).toNat) (λ(i:Nat)=>D.int i) (λpre ρ=>∃q,ρ=[.pin l [.int (itI pre.length (nx (wyS s),[wyR s])).1],.im (.int c),.im (.int (wyW s)),.im (.lst ((wyB s).map Pa.toD)),.own ((aW (ks2 (wyA s) (wyC s)) (itI pre.length (nx (wyS s),[wyR s])).2).map Ro.toD),.im (.lst ((psV (wyJ s)).map prD)),q]) (oD (v:=c-wyK s) (av (y:=.int (wyK s)) rfl (ar (ai rfl (ai rfl (ai rfl rfl))) rfl (by unfold wyK;rcases u with e |e |e <;> (rw[e];rfl))) g8) (by lia) (by lia)) ⟨_,rfl⟩ ?_ ?_
   .rintro pre x post ρ J ⟨q,rfl⟩;refine⟨_,rfl,?_⟩;have hp:pre.length<=(c-wyK s).toNat:=by have:=congrArg iX J;rw[cK,bg]at this;lia
    obtain⟨o1,o2⟩:=lI (nx (wyS s),[wyR s]) Q pre.length;rw[bg,fj];show wp _ _ (sU (λρ=>∃q,ρ=[.pin l [.int (qF (itI pre.length (nx (wyS s),[wyR s]))).1],_,_,_,.own ((aW (ks2 (wyA s) (wyC s)) (qF (itI pre.length (nx (wyS s),[wyR s]))).2).map Ro.toD),_,q]) _);generalize itI pre.length (nx (wyS s),[wyR s])=p at o1 o2;replace o2:p.2.length=1+pre.length:=o2;have d:=eB p.1 (k:=p.2.length+1) (by lia)
    have j:(aW (ks2 (wyA s) (wyC s)) p.2).length=p.2.length+2:=by
     unfold aW;rw[bg,aG];show 2+_=_;lia
    refine zm (n:=2+dr p.1 (p.2.length+1)) (xs0:=(aW (ks2 (wyA s) (wyC s)) p.2).map Ro.toD) (xs:=(aW (ks2 (wyA s) (wyC s)) p.2).map Ro.toD) rfl (Em l p.1 o1 _ _ (gN (aY rfl) (fG l p.1 (p.2.length+1) _ ((av (aZ (ai rfl rfl) (f7 (aW (ks2 (wyA s) (wyC s)) p.2) Ro.toD)) rfl g8).trans (by rw[j];congr 2;lia)) o1 (by lia)) dR)) rfl ⟨by lia,by rw[aG,j];lia,by rw[aG,j];lia⟩ ⟨.im (.int (x:Nat)),?_⟩;have z:(2+dr p.1 (p.2.length+1)).toNat=(dr p.1 (p.2.length+1)).toNat+2:=by lia
    rw[<- map_take,<- map_drop,<- di,<- bU,z];rfl
   .rintro ρ ⟨q,rfl⟩;rw[cK];refine g6 (ρ':=[.pin l [.int (kK c s).1],.im (.int c),.im (.int (wyW s)),.im (.lst ((wyB s).map Pa.toD)),.im (.lst ((aW (ks2 (wyA s) (wyC s)) (kK c s).2).map Ro.toD)),.im (.lst ((psV (wyJ s)).map prD)),q]) rfl ?_;exact jo rfl ⟨_,rfl⟩
 obtain⟨o,e,a,rfl⟩:=w;exact jq e rfl
def MT(ns:List Int):∃s,okS s/\yA [.kl (ns.map D.int)]=aa (.int s):=by
 have w:wp qk [.im (.kl (ns.map D.int)),.no,.no] (nF λd=>∃s,d=.int s/\okS s):=by
  unfold qk;apply ax;refine b6 (d:=.int 1000003) rfl ?_;show wp _ [.im (.kl (ns.map D.int)),.im (.int 1000003),.no] _;apply ax;refine eH ns D.int (λ_ ρ=>∃s a,okS s/\ρ=[.im (.kl (ns.map D.int)),.im (.int s),a]) rfl ⟨_,_,⟨by decide,by decide⟩,rfl⟩ ?_ ?_
  .rintro pre c post ρ z ⟨s,a,j,rfl⟩;refine⟨_,rfl,?_⟩;show wp _ [.im (.kl (ns.map D.int)),.im (.int s),.im (.int c)] _;have u:=j.1;have y:=j.2;refine b6 (d:=.int ((s*7368787+c % 10 ^ 30+11) % (2 ^ 61-1))) (av (av (av (av rfl rfl (nJ (.inr ⟨by lia,by decide⟩))) (av rfl (av rfl rfl (sV (by decide))) (li (by decide))) dR) rfl dR) (av (av rfl rfl (sV (by decide))) rfl g8) (li (by decide))) ?_;refine⟨_,_,?_,rfl⟩;have p:=qO (s*7368787+c % 10 ^ 30+11) (show(2 ^ 61-1:Int)≠0 by decide);have q:=qN (s*7368787+c % 10 ^ 30+11) (show(0:Int)<2 ^ 61-1 by decide);exact⟨p,q⟩
  .rintro ρ ⟨s,a,j,rfl⟩;exact mm rfl (cB ⟨s,rfl,j⟩)
 obtain⟨d,e,s,rfl,j⟩:=Bk (n:=3) (ds:=[.kl (ns.map D.int)]) w;exact⟨s,j,e⟩
@[reducible]noncomputable def MU:MF3:=(aA (bv (mOr (mB (m2 dEq (ag 2) (kI 0))) (mB (m2 dEq (ag 2) (kI 4)))) (bY (m2 dEq (aq cI (ac (mIx (am 8) (kI 1)) nZ)) (m2 bX (kI 400) (ag 3)))) bK)
  (aA (bv (mB (m2 dEq (ag 2) (kI 1))) (bY (jf (m2 dEq (aq cI (ac (ag 7) nZ)) (m2 bX (kI 60) (ag 3))) (m2 dEq (mIx (am 8) (kI 0)) (m2 bX (kI 60) (ag 3))))) bK)
  (aA (bv (mB (m2 dEq (ag 2) (kI 2))) (bY (m2 dEq (aq uF (ac (ag 8) nZ)) (m2 bX (kI 60) (ag 3)))) bK)
  (bY (jf (m2 dEq (ag 8) (aO (ac (kI 0) (ac (aw nZ) nZ)))) (m2 dEq (ag 7) (aw nZ)))))))
abbrev MV(v m:Int)(T P:D):Prop:=∀e j p q u:Sl,wp MU [e,j,.im (.int v),.im (.int m),p,q,u,.im T,.im P] (nF λd=>d=.bl af)
@[reducible]noncomputable def MW:D:=.lst [.bl aj,.bl af,.bl af,.bl aj]
@[reducible]noncomputable def wdL:D:=.lst [.bl af,.bl aj,.bl af,.bl aj]
structure mR(v m:Int)(rs:List Ro):Prop where
 b:m_5 [.lst ((rs++[rW]).map Ro.toD)]=aa MW
 l:rs.length<=1000
 w:0<m/\v≠3->m_5 [.lst (rs.map Ro.toD)]=aa wdL
 n:¬(0<m/\v≠3)->∃T P,m_5 [.lst (rs.map Ro.toD)]=aa (.lst [.tup [T,P]])/\MV v m T P
def MX(h:RoK ks n r):(rbF ks n r).length<=1000:=by
 cases r with
 |kind a b=>exact(show 0<=1000 by decide)
 |rule b t bd ps=>exact(show 1<=1000 by decide)
 |never bd ps=>exact(show 1<=1000 by decide)
 |choose lo hi its ov bd ps=>
  have:=h.1.l;show(chF lo hi (itF ks ov n its) (bdF ks n bd)).length<=1000;unfold chF;rw[bg,aG];show _+2<=1000;lia
def MY(h:RwK ks r):RwW ks r:=⟨h.p,h.d,h.b,λn j e=>⟨(h.k n j e).2,MX (h.k n j e).1,.inl (h.k n j e).1⟩⟩
def zq{a:Int}(h:a=b):(a==b)=af:=by rw[h];exact beq_self_eq_true b
variable{m:Int}
def Ey{aB:List Ro}(j:iN ks)(q:∀r∈aB,eI ks r)(u:∀r∈aB,RwK ks r)(p:aB.length<=900)(B:∀t∈txs ks aB,t∈[[112],[113],[114]])(G:v=0\/v=4)(Q:-2<=m/\m<=2)(y:(cR ks aB:Int)=400+m):mR v m (aW ks aB):=by
 refine⟨uV j q p,lF j q p,λh=>Ed j q (λr h=>MY (u r h)) p (.inl (by lia)),λh=>?_⟩
 have A:m<=0:=by
  rcases Int.lt_or_le 0 m with z |z
  .exact(h ⟨z,by lia⟩).elim
  .exact z
 have E:(tbF (txs ks aB)).length<=3:=zg B;refine⟨_,_,qB j q u p (by lia) (by lia),λH I J M N=>?_⟩;apply ax
 refine bw (b:=af) (by rcases G with rfl |rfl <;> rfl) (λ_=>?_) λe=>nomatch e
 refine dn (av (aZ (ai (ar rfl rfl rfl) rfl) (f7 (aB.flatMap (rwF ks)) _)) (av rfl rfl dR) (fP _ _)) (cB ?_);rw[oA,zq y]
def MZ{c:Int}(hs:okS s)(hm:-2<=m/\m<=2)(hc:c=60+m):mR 1 m (aW (ks2 (thA s) (thA (nx s))) (thR c s)):=by
 obtain⟨a1,a2,a3⟩:=lJ s;obtain⟨b1,b2,U⟩:=lJ (nx s);obtain⟨ab1,ab2⟩:=Er s
 have hN:(thN c s:Int)=c-thA s*thA (nx s):=by
  unfold thN;have:((thA s*thA (nx s):Nat):Int)=thA s*thA (nx s):=by push_cast;rfl
  lia
 have hab:((thA s*thA (nx s):Nat):Int)=thA s*thA (nx s):=by push_cast;rfl
 have hcn:((thA s*thA (nx s)+thN c s:Nat):Int)=c:=by lia
 have hN2:thN c s<=58:=by lia
 have I:=oB (a:=thA s) (b:=thA (nx s)) (by lia) (by lia);obtain⟨p1,p2,p3,T⟩:=rkP (a:=thA s) (c:=thA (nx s)) ⟨by lia,a3⟩ ⟨by lia,U⟩ (thW c s);generalize hK:ks2 (thA s) (thA (nx s))=ks at I p1 p2 p3 T ⊢
 have y:∀r∈thR c s,r=lG (thW c s)\/∃j,j<thN c s/\r=thS (nx (nx s)) j:=λr A=>by
  have B:∀x∈thL (nx (nx s)) (thN c s),∃j,j<thN c s/\x=thS (nx (nx s)) j:=λx B=>by
   obtain⟨j,E,rfl⟩:=bZ.mp B;exact⟨j,cF.mp E,rfl⟩
  rcases b8.mp A with h |h
  .exact .inr (B r (mem_of_mem_take h))
  .rcases bM.mp h with h |h
   .exact .inl h
   .exact .inr (B r (mem_of_mem_drop h))
 have H:lG (thW c s)∈thR c s/\∀j,j<thN c s->thS (nx (nx s)) j∈thR c s:=by
  refine⟨b8.mpr (.inr bR),λj E=>?_⟩
  have:thS (nx (nx s)) j∈(thL (nx (nx s)) (thN c s)).take (thI c s)++(thL (nx (nx s)) (thN c s)).drop (thI c s):=by
   rw[oG];exact bZ.mpr ⟨j,cF.mpr E,rfl⟩
  rcases b8.mp this with h |h
  .exact b8.mpr (.inl h)
  .exact b8.mpr (.inr (cE _ h))
 have A:∀r∈thR c s,eI ks r:=λr h=>by
  rcases y r h with rfl |⟨j,_,rfl⟩
  .exact p1
  .exact rkS ks _ _
 have Y:∀r∈thR c s,RwK ks r:=λr h=>by
  rcases y r h with rfl |⟨j,_,rfl⟩
  .exact p2
  .exact(rwS ks (by show 3<=8;decide) _).1
 have u:cR ks (thR c s)=thA s*thA (nx s)+thN c s:=by
  unfold thR;rw[Ec,p3]
  have:∀n,cR ks (thL (nx (nx s)) n)=n:=λn=>by
   unfold cR thL;rw[map_map,show(bx n).map ((λr=>(rwF ks r).length) ∘ thS (nx (nx s)))=(bx n).map λ_=>1 from qW λj _=>(rwS ks (by show 3<=8;decide) _).2.1,map_const',cK,sum_replicate_nat,Nat.mul_one]
  rw[this]
 have p:(thR c s).length<=900:=by
  unfold thR thL;rw[bg,cL,gr,ie,aG,cK];lia
 have J:∀t,t∈txs ks (thR c s)↔t∈Pl (thA s) (thA (nx s))++(bx (thN c s)).map Sl':=λt=>by
  have G:t∈txs ks (thR c s)↔∃r∈thR c s,t∈(rwF ks r).flatMap prT:=by
   unfold txs;simp only[dY];exact⟨λ⟨x,⟨r,A,B⟩,q⟩=>⟨r,A,x,B,q⟩,λ⟨r,A,x,B,q⟩=>⟨x,⟨r,A,B⟩,q⟩⟩
  rw[G];constructor
  .rintro⟨r,Q,q⟩
   rcases y r Q with rfl |⟨j,E,rfl⟩
   .exact b8.mpr (.inl ((T t).mp q))
   .rw[show(rwF ks (thS (nx (nx s)) j)).flatMap prT=[Sl' j]from(rwS ks (by show 3<=8;decide) _).2.2]at q;rw[bj.mp q];exact b8.mpr (.inr (bZ.mpr ⟨j,cF.mpr E,rfl⟩))
  .intro q
   rcases b8.mp q with h |h
   .exact⟨_,H.1,(T t).mpr h⟩
   .obtain⟨j,E,rfl⟩:=bZ.mp h;refine⟨_,H.2 j (cF.mp E),?_⟩;rw[show(rwF ks (thS (nx (nx s)) j)).flatMap prT=[Sl' j]from(rwS ks (by show 3<=8;decide) _).2.2];exact bR
 have N:(Pl (thA s) (thA (nx s))++(bx (thN c s)).map Sl').Nodup:=by
  obtain⟨n1,n2⟩:=PlS;refine kP.mpr ⟨n1 _ (cF.mpr (by lia)) _ (cF.mpr (by lia)),?_,λa ha b hb e=>?_⟩
  .have:(bx (thN c s)).map Sl'=((bx 60).map Sl').take (thN c s):=by
    rw[<- map_take,take_range,Nat.min_eq_left (by lia)]
   rw[this];exact n2.sublist (take_sublist _ _)
  .have G:=My ha;obtain⟨j,_,rfl⟩:=bZ.mp hb;rw[e]at G
   nomatch G
 have M:(tbF (txs ks (thR c s))).length=thA s*thA (nx s)+thN c s:=by
  have hL:(Pl (thA s) (thA (nx s))++(bx (thN c s)).map Sl').length=thA s*thA (nx s)+thN c s:=by rw[bg,Ef (by lia) U,aG,cK]
  have G:=zg (ts:=txs ks (thR c s)) (L:=Pl (thA s) (thA (nx s))++(bx (thN c s)).map Sl') λt q=>(J t).mp q;have h2:=Mq (ts:=txs ks (thR c s)) N λt q=>(J t).mpr q;lia
 refine⟨uV I A p,lF I A p,λh=>Ms I A Y p (by rw[u];lia) (by rw[M];lia) (by rw[M];lia),λh=>?_⟩
 have hm0:m<=0:=by
  rcases Int.lt_or_le 0 m with z |z
  .exact(h ⟨z,by decide⟩).elim
  .exact z
 refine⟨_,_,qB I A Y p (by rw[u];lia) (by rw[M];lia),λa0 a1 a4 a5 a6=>?_⟩;apply ax;refine bw (b:=aj) rfl (λe=>nomatch e) λ_=>ce ?_;apply ax;refine bw (b:=af) rfl (λ_=>?_) λe=>nomatch e;refine dn (sN (av (aZ (ai rfl rfl) (f7 (tbF (txs ks (thR c s))) sT)) (av rfl rfl dR) (fP _ _)) (av (ar rfl rfl rfl) (av rfl rfl dR) (fP _ _))) (cB ?_);rw[zq (show((tbF (txs ks (thR c s))).length:Int)=60+m by rw[M];lia)];rfl
abbrev mxP(m:Nat):PP->Nat
 |.c _ _ its=>max m its.length
 | _=>m
abbrev mxR(m:Nat)(r:PR):Nat:=r.b.foldl mxP m
def M0(j:L2N)(n:Int)(L:List PR)(H:∀r∈L,∀p∈r.b,(ppT p).length<=1000):uF [.tup [.int n,.lst (L.map (PR.nD j))]]=aa (.int (L.foldl mxR 0:Nat)):=by
 apply cx;unfold uE;show wp _ [.im (.tup [.int n,.lst (L.map (PR.nD j))]),.no,.no,.no,.no,.no] _;generalize G:D.tup [.int n,.lst (L.map (PR.nD j))]=P;apply ax;refine b6 (d:=.int ((0:Nat):Int)) rfl ?_;apply ax;refine eH L (PR.nD j) (λpre ρ=>∃u y z q,ρ=[.im P,.im (.int (pre.foldl mxR 0:Nat)),u,y,z,q]) (by subst G;exact bz (ar rfl rfl rfl) rfl) ⟨_,_,_,_,rfl⟩ ?_ ?_
 .rintro pre r post ρ I ⟨u,y,z,q,rfl⟩;refine⟨_,rfl,?_⟩;have J:=H r (by rw[I];simp);rw[lK];generalize pre.foldl mxR 0=B;show wp _ [.im P,.im (.int (B:Nat)),.im (.str r.w),.im (hnD j r.h),.im (.lst (r.b.map (PP.nD j))),q] _;refine eH r.b (PP.nD j) (λpp ρ=>∃q,ρ=[.im P,.im (.int (pp.foldl mxP B:Nat)),.im (.str r.w),.im (hnD j r.h),.im (.lst (r.b.map (PP.nD j))),q]) (bz rfl rfl) ⟨_,rfl⟩ ?_ ?_
  .rintro pp p E ρ A ⟨q,rfl⟩;refine⟨_,rfl,?_⟩;have M:=J p (by rw[A];simp);rw[lK];generalize pp.foldl mxP B=m1;show wp _ [.im P,.im (.int (m1:Nat)),.im (.str r.w),.im (hnD j r.h),.im (.lst (r.b.map (PP.nD j))),.im (p.nD j)] _
   cases p with
   |i t=>exact bw (b:=aj) rfl (λe=>nomatch e) λ_=>ce ⟨_,rfl⟩
   |o t=>exact bw (b:=aj) rfl (λe=>nomatch e) λ_=>ce ⟨_,rfl⟩
   |c w k its=>
    refine bw (b:=af) rfl (λ_=>?_) λe=>nomatch e;refine b6 (d:=.int (max m1 its.length:Nat)) ((aZ (ai rfl (ai (aZ (ai (ar rfl rfl rfl) rfl) (f7 its (niD j))) rfl)) (rfl:sZ [.int (m1:Nat),.int (its.length:Nat)]=_)).trans ?_) ⟨_,rfl⟩
    congr 2
    (try split) <;> lia
  .rintro ρ ⟨q,rfl⟩;exact⟨_,_,_,_,rfl⟩
 .rintro ρ ⟨u,y,z,q,rfl⟩;exact mm rfl (cB rfl)
def M1(U:okS s)(hm:-2<=m/\m<=2)(N:(c:Int)=60+m):mR 2 m (aW (ks2 (itA c s) (itB c s)) [itR c s []]):=by
 obtain⟨j,p,I,c1,c2,q1,q2,l1,u⟩:=u0 (c:=c) (by lia) s U;have A:=oB (a:=itA c s) (b:=itB c s) j.2 (by lia);have q:(itL c s).length<=100:=by lia
 have T:(itL c s).length*(itA c s*itB c s)=c:=by rw[l1];exact I
 have M:itA c s*itB c s<=48:=oK j.2 p.2;have y:=qE j p u q;rw[T]at y
 have B:∀r∈[itR c s []],eI (ks2 (itA c s) (itB c s)) r:=λr h=>by
  rw[bj.mp h];unfold itR;split
  .exact rkC j p u q (.inl rfl)
  .exact rkM j p u q _ (.inl rfl)
 refine⟨uV A B (by show 1<=900;decide),lF A B (by show 1<=900;decide),λh=>?_,λh=>?_⟩
 .have hd:RwW (ks2 (itA c s) (itB c s)) (itR c s [])/\¬RwO (ks2 (itA c s) (itB c s)) (itR c s []):=by
   unfold itR;split
   .exact wdC j p u q (by lia) (by lia)
   .exact wdM j p u q _ (by lia) (by lia)
  exact Ed A B (λr h=>by rw[bj.mp h];exact hd.1) (by show 1<=900;decide) (.inr ⟨_,bR,hd.2⟩)
 .have Q:m<=0:=by
   rcases Int.lt_or_le 0 m with z |z
   .exact(h ⟨z,by decide⟩).elim
   .exact z
  have Y:RwK (ks2 (itA c s) (itB c s)) (itR c s [])/\cR (ks2 (itA c s) (itB c s)) [itR c s []]<=400/\(∀t∈txs (ks2 (itA c s) (itB c s)) [itR c s []],t∈[113]::Pl (itA c s) (itB c s))/\(rwF (ks2 (itA c s) (itB c s)) (itR c s [])).foldl mxR 0=c:=by
   unfold itR cR;split
   .refine⟨Mz j p u q (by lia),?_,txC j p u q,?_⟩
    .show(rwF (ks2 (itA c s) (itB c s)) (iR (itL c s) [])).length+0<=400;rw[zj j p u q];unfold chF;rw[bg,aG,y];show _+2+0<=400;lia
    .rw[zj j p u q];unfold chF;rw[lK]
     have H:((itF (ks2 (itA c s) (itB c s)) psP [] (itL c s)).map λz=>PR.mk "may" (aa z.1) []).foldl mxR 0=0:=by
      generalize itF (ks2 (itA c s) (itB c s)) psP [] (itL c s)=L
      induction L with
      |nil=>rfl
      |cons z L ih=>exact ih
     rw[H];show max (max 0 (itF (ks2 (itA c s) (itB c s)) psP [] (itL c s)).length) (itF (ks2 (itA c s) (itB c s)) psP [] (itL c s)).length=c;rw[y];lia
   .refine⟨MA j p u q _ (by lia),?_,txM j p u q _,?_⟩
    .show(rwF (ks2 (itA c s) (itB c s)) (iS _ (itL c s) [])).length+0<=400;rw[zk j p u q];show 1+0<=400;decide
    .rw[zk j p u q];show max 0 (itF (ks2 (itA c s) (itB c s)) psP [] (itL c s)).length=c;rw[y];lia
  obtain⟨G,w2,w3,w4⟩:=Y
  have J:(tbF (txs (ks2 (itA c s) (itB c s)) [itR c s []])).length<=60:=by
   have:=zg w3;rw[cL,Ef (by lia) (by lia)]at this;lia
  have E:∀r∈[itR c s []],RwK (ks2 (itA c s) (itB c s)) r:=λr h=>by rw[bj.mp h];exact G
  refine⟨_,_,qB A B E (by show 1<=900;decide) w2 J,λa0 a1 a4 a5 a6=>?_⟩;rw[kO];apply ax;refine bw (b:=aj) rfl (λe=>nomatch e) λ_=>ce ?_;apply ax;refine bw (b:=aj) rfl (λe=>nomatch e) λ_=>ce ?_;apply ax;refine bw (b:=af) rfl (λ_=>?_) λe=>nomatch e;refine dn (av (aZ (ai rfl rfl) (M0 _ _ (rwF (ks2 (itA c s) (itB c s)) (itR c s [])) λr h=>(ze G r h).2)) (av rfl rfl dR) (fP _ _)) (cB ?_);rw[w4,zq N]
def M3(G:okS s)(Y:58<=c/\c<=62):mR 3 m (aW (ks2 (itA (c+3) s) (itB (c+3) s)) [itR (c+3) s [uAA]]):=by
 obtain⟨j,p,U,Q,T,q1,q2,l1,u⟩:=u0 (c:=c+3) (by lia) s G;have y:=oB (a:=itA (c+3) s) (b:=itB (c+3) s) j.2 (by lia);have q:(itL (c+3) s).length<=100:=by lia
 have z:∀r∈[itR (c+3) s [uAA]],eI (ks2 (itA (c+3) s) (itB (c+3) s)) r:=λr h=>by
  rw[bj.mp h];unfold itR;split
  .exact rkC j p u q (.inr rfl)
  .exact rkM j p u q _ (.inr rfl)
 have E:RwK (ks2 (itA (c+3) s) (itB (c+3) s)) (itR (c+3) s [uAA])/\rwF (ks2 (itA (c+3) s) (itB (c+3) s)) (itR (c+3) s [uAA])=[]:=by
  unfold itR;split
  .exact noC j p u q
  .exact noM j p u q _
 refine⟨uV y z (by show 1<=900;decide),lF y z (by show 1<=900;decide),λh=>(h.2 rfl).elim,λh=>?_⟩;have ex:[itR (c+3) s [uAA]].flatMap (rwF (ks2 (itA (c+3) s) (itB (c+3) s)))=[]:=by rw[kO,E.2]
 have B:tbF (txs (ks2 (itA (c+3) s) (itB (c+3) s)) [itR (c+3) s [uAA]])=[]:=by
  unfold txs;rw[ex];rfl
 have A:∀r∈[itR (c+3) s [uAA]],RwK (ks2 (itA (c+3) s) (itB (c+3) s)) r:=λr h=>by rw[bj.mp h];exact E.1
 refine⟨_,_,qB y z A (by show 1<=900;decide) (by rw[<- oA,ex];show 0<=400;decide) (by rw[B];show 0<=60;decide),λH I J M N=>?_⟩;rw[B,ex];apply ax;refine bw (b:=aj) rfl (λe=>nomatch e) λ_=>ce ?_;apply ax;refine bw (b:=aj) rfl (λe=>nomatch e) λ_=>ce ?_;apply ax;refine bw (b:=aj) rfl (λe=>nomatch e) λ_=>ce ?_;exact dn (d:=.bl af) rfl (cB rfl)
def M4(s:Int):((nbw (ks1 (rlM s)) (psA (rlZ s)) []).length:Int)=rlN s:=by
 obtain⟨_,e,j⟩:=uY s;obtain⟨a,b⟩:=Mv (rlM s) (cF.mpr (by lia)) e;unfold rlN
 cases hz:rlZ s with
 |true=>
  have hz:((rlM s:Nat):Int)<8:=of_decide_eq_true hz;rw[b (by lia)]
  push_cast
  rfl
 |false=>
  rw[a]
  push_cast
  rfl
def M5(hs:okS s)(N:-2<=m/\m<=2):mR 0 m (aW (ks1 (rlM s)) (ia (400+m) s).2):=by
 obtain⟨_,G,u⟩:=uY s;obtain⟨z1,z2⟩:=En s;have Q:=M4 s;have y:=rwA ⟨G,u⟩ (rlZ s)
 have q:∀{P:Ro->Prop},P (iO (rlZ s))->P jE->∀r∈rl0 (400+m) s,P r:=λ{P} Y p2 r H=>by
  rcases b8.mp H with h |h
  .rw[va h];exact Y
  .split at h
   .rw[bj.mp h];exact p2
   .exact(cp h).elim
 have H:0<=(400+m) % rlN s/\(400+m) % rlN s<rlN s:=⟨qO _ (by lia),qN _ (by lia)⟩;have T:0<=(400+m) / rlN s:=Int.ediv_nonneg (by lia) (by lia);have J:=Int.mul_ediv_add_emod (400+m) (rlN s);have U:(400+m) / rlN s<=402:=Int.le_trans (Int.ediv_le_self _ (by lia)) (by lia)
 have hL:rlL (400+m) s<=342:=by unfold rlL;split <;> lia
 have M:(rl0 (400+m) s).length<=403:=by
  unfold rl0;rw[bg,ic];split
  .show _+1<=403;lia
  .show _+0<=403;lia
 have j:∀n,cR (ks1 (rlM s)) (iW n (iO (rlZ s)))=n*(nbw (ks1 (rlM s)) (psA (rlZ s)) []).length:=λn=>by
  unfold cR;rw[map_replicate,sum_replicate_nat,y.2.1]
 have z:((cR (ks1 (rlM s)) (rl0 (400+m) s):Nat):Int)+(rlL (400+m) s:Nat)=400+m:=by
  unfold rl0 rlL;rw[zc,j]
  have E:(((400+m) / rlN s).toNat*(nbw (ks1 (rlM s)) (psA (rlZ s)) []).length:Nat)=(((400+m) / rlN s)*rlN s:Int):=by
   push_cast
   rw[Q,u7 T]
  have e2:(400+m) / rlN s*rlN s=rlN s*((400+m) / rlN s):=Int.mul_comm _ _;split
  .have:cR (ks1 (rlM s)) [jE]=5:=by
    show(rwF (ks1 (rlM s)) jE).length+0=5;rw[(rwB (ks1 (rlM s))).2.1]
   rw[this]
   push_cast at E ⊢
   lia
  .have:cR (ks1 (rlM s)) []=0:=rfl;rw[this]
   push_cast at E ⊢
   lia
 have e:(ia (400+m) s).2.length<=900:=by
  have:=(lI (nx s,rl0 (400+m) s) (cQ s) (rlL (400+m) s)).2;replace this:(ia (400+m) s).2.length=(rl0 (400+m) s).length+rlL (400+m) s:=this;lia
 refine Ey (Mt u) (mQ _ (q (rkA ⟨G,u⟩ _) (rkB _)) (λv w=>rkS _ _ _) _) (mQ _ (q y.1 (rwB _).1) (λv w=>(rwS _ (qG v) w).1) _) e (λt p=>?_) (.inl rfl) N ?_
 .obtain⟨x,B,I⟩:=dY.mp p;obtain⟨r,A,B⟩:=dY.mp B;refine mQ (P:=λr=>∀t∈(rwF (ks1 (rlM s)) r).flatMap prT,t∈[[112],[113],[114]]) _ (q y.2.2 (rwB _).2.2) (λv w t p=>?_) _ r A t (dY.mpr ⟨x,B,I⟩);rw[(rwS _ (qG v) w).2.2]at p;rw[bj.mp p];exact El v
 .show((cR (ks1 (rlM s)) (itI _ _).2:Nat):Int)=_;rw[zn]
  push_cast
  exact z
def M6(hs:okS s)(I:-2<=m/\m<=2):mR 4 m (aW (ks2 (wyA s) (wyC s)) (kK (400+m) s).2):=by
 have Y:0<=wyW s/\wyW s<3:=eB s (by decide);have d4:=eB (nx s) (k:=4) (by decide)
 have e:(0<wyA s/\wyA s<=12)/\0<wyC s/\wyC s<=12:=by unfold wyA wyC;split <;> decide
 have G:(∀p∈wyB s,PaV p)/\(wyB s).length<=4:=by
  unfold wyB;split
  .exact⟨bdV.2.2,by decide⟩
  .split
   .refine⟨bdV.2.1 _,?_⟩;show(bd0.take _++uZX::bd0.drop _).length<=4;rw[bg,cL,gr,ie];show min _ 3+(3-_+1)<=4;lia
   .exact⟨bdV.1,by decide⟩
 obtain⟨v1,T,U⟩:=rkV e.1 e.2 (decide (dr (wyS s) 2=0)) (wyJ s) G.1 G.2
 have A:(((rwF (ks2 (wyA s) (wyC s)) (wyR s)).length:Nat):Int)=wyK s:=by
  obtain⟨M,N,Q⟩:=Mw (decide (dr (wyS s) 2=0));unfold wyR wyA wyC wyK wyB wyJ
  by_cases j:wyW s=2
  .rw[if_pos j,if_pos j,if_pos j,if_pos j,decide_eq_true j,Q];rfl
  .rw[if_neg j,if_neg j,if_neg j,if_neg j,decide_eq_false j]
   by_cases u:wyW s=1
   .rw[if_pos u,if_pos u,N _ (cF.mpr (by lia))];rfl
   .rw[if_neg u,if_neg u,M];rfl
 have hK:336<=wyK s/\wyK s<=396:=by unfold wyK;split;decide;split <;> decide
 have z:∀{P:Ro->Prop},P (wyR s)->∀r∈[wyR s],P r:=λ{P} p r J=>by rw[bj.mp J];exact p
 have q:(kK (400+m) s).2.length<=900:=by
  have:=(lI (nx (wyS s),[wyR s]) (cQ _) (400+m-wyK s).toNat).2;replace this:(kK (400+m) s).2.length=1+(400+m-wyK s).toNat:=this;lia
 refine Ey (oB e.1.2 e.2.2) (mQ _ (z v1) (λv w=>rkS _ _ _) _) (mQ _ (z T) (λv w=>(rwS _ (qG v) w).1) _) q (λt y=>?_) (.inr rfl) I ?_
 .obtain⟨x,E,H⟩:=dY.mp y;obtain⟨r,B,E⟩:=dY.mp E;refine mQ (P:=λr=>∀t∈(rwF (ks2 (wyA s) (wyC s)) r).flatMap prT,t∈[[112],[113],[114]]) _ (z U) (λv w t y=>?_) _ r B t (dY.mpr ⟨x,E,H⟩);rw[(rwS _ (qG v) w).2.2]at y;rw[bj.mp y];exact El v
 .show((cR (ks2 (wyA s) (wyC s)) (itI _ _).2:Nat):Int)=_;rw[zn];show((((rwF (ks2 (wyA s) (wyC s)) (wyR s)).length+0+(400+m-wyK s).toNat:Nat)):Int)=_
  push_cast
  rw[A];lia
def Ez:∀(xs ys:List Int),xs.length=ys.length->eQ (deq 19) (xs.map D.int) (ys.map D.int)=aa (xs==ys)
 | [],[],_=>rfl
 | [],_::_,h=>by cases h
 | _::_,[],h=>by cases h
 |e::es,b::bs,h=>by
  have j:=Ez es bs (by simpa using h);show((deq 19 (.int e) (.int b)).bind λx=>(eQ (deq 19) (es.map D.int) (bs.map D.int)).map λr=>x && r)=_;rw[show deq 19 (.int e) (.int b)=aa (e==b)from rfl,j];rfl
def M7(xs ys:List Int):dEq (.lst (xs.map D.int)) (.lst (ys.map D.int))=aa (.bl (xs==ys)):=by
 show((if (xs.map D.int).length=(ys.map D.int).length then eQ (deq 19) (xs.map D.int) (ys.map D.int) else aa aj):Option Bool).map D.bl=_;rw[aG,aG]
 by_cases h:xs.length=ys.length
 .rw[if_pos h,Ez xs ys h];rfl
 .rw[if_neg h]
  have:(xs==ys)=aj:=by
   cases q:xs==ys with
   |false=>rfl
   |true=>exact absurd (by rw[beq_iff_eq.mp q]) h
  rw[this];rfl
def EA:∀(L:L2N),(∀t∈L,t=[113])->∀e:L2N,[113]∈e->L.foldl eC e=e
 | [],_,_,_=>rfl
 |t::L,h,e,hq=>by
  rw[foldl_cons,h t bR,show eC e [113]=e from if_pos hq];exact EA L (λx j=>h x (cE _ j)) e hq
def qJ(s:Int):(itF [] [] [] (twQ s).2).length=twN s/\∀z∈itF [] [] [] (twQ s).2,z.1=[113]:=by
 obtain⟨u,p,q⟩:=qI s
 have e:itF [] [] [] (twQ s).2=(twQ s).2.map λz=>(tT [] z.1,z.2):=by
  unfold itF;rw[eW];exact map_eq_flatMap.symm
 rw[e];refine⟨by rw[aG];exact p,λz hz=>?_⟩;obtain⟨x,j,rfl⟩:=bZ.mp hz;obtain⟨w,rfl⟩:=q x j;rfl
def zr(s:Int):qv [] [] (twP s)/\PaS (twP s)/\PaK [] [] (twP s):=by
 obtain⟨u,y,j⟩:=qI s;obtain⟨p,q,e⟩:=qH s;have hz:∀z∈(twQ s).2,z.1=t0 [113]:=λz hz=>by obtain⟨w,rfl⟩:=j z hz;rfl
 exact⟨⟨lH _ _ dE,λz h=>by rw[hz z h];exact th0 _ _⟩,⟨by lia,λz h=>by rw[hz z h];exact(show 0<=100 by decide)⟩,⟨h7 _,dE,λz h m _=>by rw[hz z h];exact tn0 m (by decide),by rw[(qJ s).1];exact e,by lia⟩⟩
def zt(s:Int):m_5 [.lst ([iT (twB s)].map Ro.toD)]=aa (.lst [.tup [.lst [sT [112],sT [113]],.tup [.int 2,.lst ([PR.mk "may" (aa [112]) [.c (decide (dr (twQ s).1 2=0)) 2 (itF [] [] [] (twQ s).2),.c (decide (dr (twQ (twE s)).1 2=0)) 2 (itF [] [] [] (twQ (twE s)).2)]].map (PR.nD [[112],[113]]))]]]):=by
 have q:∀{P:Pa->Prop},(∀s,P (twP s))->∀p∈twB s,P p:=λ{P} h p u=>by
  rcases bM.mp u with rfl |u
  .exact h s
  .rw[bj.mp u];exact h _
 have H:∀r∈[iT (twB s)],eI [] r:=λr h=>by
  rw[bj.mp h];exact⟨rfl,⟨lH _ _ dE,th0 _ _,q λs=>(zr s).1⟩,⟨by show 0<=100;decide,by show 2<=100;decide,q λs=>(zr s).2.1⟩⟩
 have I:∀r∈[iT (twB s)],RwK [] r:=λr h=>by
  rw[bj.mp h];refine iP (h7 _) dE (by show 2<=100;decide) λn e _=>?_;replace e:n∈nbw [] [] []:=e;rw[eW]at e;rw[bj.mp e];exact⟨tn0 _ (by decide),by show 2<=100;decide,q λs=>(zr s).2.2⟩
 have j:[iT (twB s)].flatMap (rwF [])=[PR.mk "may" (aa [112]) [.c (decide (dr (twQ s).1 2=0)) 2 (itF [] [] [] (twQ s).2),.c (decide (dr (twQ (twE s)).1 2=0)) 2 (itF [] [] [] (twQ (twE s)).2)]]:=by
  rw[kO,qC _ _ _ _ _ λ_=>rfl,eW];rfl
 have B:tbF (txs [] [iT (twB s)])=[[112],[113]]:=by
  unfold txs;rw[j,kO];show([[112]]++((itF [] [] [] (twQ s).2).map (λz:LN×Int=>z.1)++((itF [] [] [] (twQ (twE s)).2).map (λz:LN×Int=>z.1)++[]))).foldl eC []=_;rw[dh,lK];obtain⟨J,M⟩:=qJ s;obtain⟨Q,N⟩:=qJ (twE s);have n:=(qH s).2.1
  have y:∀t∈(itF [] [] [] (twQ s).2).map (·.1)++(itF [] [] [] (twQ (twE s)).2).map (·.1),t=[113]:=λt A=>by
   rcases b8.mp A with h |h
   .obtain⟨z,hz,rfl⟩:=bZ.mp h;exact M z hz
   .obtain⟨z,hz,rfl⟩:=bZ.mp h;exact N z hz
  generalize E:(itF [] [] [] (twQ s).2).map (·.1)++(itF [] [] [] (twQ (twE s)).2).map (·.1)=X at y;have G:0<X.length:=by rw[<- E,bg,aG,J];lia
  cases X with
  |nil=>nomatch G
  |cons x X=>
   rw[foldl_cons,y x bR];exact EA X (λt A=>y t (cE _ A)) _ (by decide)
 have:=qB Mu H I (by show 1<=900;decide) (by rw[<- oA,j];show 1<=400;decide) (by rw[B];show 2<=60;decide);rw[B,j]at this;exact this
def M8(s:Int)(F:D)(A:m_5 [.lst ([iT (twB s)].map Ro.toD)]=aa F):yE [F,.lst ([iT (twB s)].map Ro.toD)]=aa (.bl af):=by
 rw[zt s]at A;have A:=cu A;subst A;have T:=(qH s).2;have U:=(qH (twE s)).2;have I:=(qJ s).1;have J:=(qJ (twE s)).1;have M:=(qI s).2.1;have N:=(qI (twE s)).2.1;generalize G:decide (dr (twQ s).1 2=0)=j;generalize H:decide (dr (twQ (twE s)).1 2=0)=q;have Q:twB s=[.ct j 2 (twQ s).2 [],.ct q 2 (twQ (twE s)).2 []]:=by unfold twB twP;rw[G,H]
 rw[Q];generalize itF [] [] [] (twQ s).2=u at I;generalize itF [] [] [] (twQ (twE s)).2=z at J;generalize (twQ s).2=B at M;generalize (twQ (twE s)).2=E at N;apply cx;unfold uG;show wp _ [.im (.lst [.tup [.lst [sT [112],sT [113]],.tup [.int 2,.lst ([PR.mk "may" (aa [112]) [.c j 2 u,.c q 2 z]].map (PR.nD [[112],[113]]))]]]),.im (.lst ([iT [.ct j 2 B [],.ct q 2 E []]].map Ro.toD)),.no] _;apply ax;refine bw (b:=aj) (wC (a:=aj) (b:=aj) rfl (wC (a:=aj) (b:=aj) (bf (av (x:=.lst [sT [112],sT [113]]) (y:=.lst [sT [112],sT [113]]) (ar (bz (ar rfl rfl rfl) rfl) rfl rfl) (bo (ai (by rw[pT]) (ai (by rw[qT]) rfl))) rfl)) rfl)) (λe=>nomatch e) λ_=>ce ?_;apply ax;refine b6 (d:=.lst ([PP.c j 2 u,.c q 2 z].map (PP.nD [[112],[113]]))) (ar (bz (ar (bz (ar (bz (ar (bz (ar rfl rfl rfl) rfl) rfl rfl) rfl) rfl rfl) rfl) rfl rfl) rfl) rfl rfl) ?_;refine dn (d:=.bl af) (av (bo (fZ [(j,u),(q,z)] (λp=>PP.nD [[112],[113]] (.c p.1 2 p.2)) (λp=>D.int (p.2.length:Nat)) (bz rfl rfl) (by show 2<=16777216;decide) λp _=>fB rfl rfl (aZ (ai (ar rfl rfl rfl) rfl) (f7 p.2 _)))) (bo (fZ [(j,B),(q,E)] (λp=>Pa.toD (.ct p.1 2 p.2 [])) (λp=>D.int (p.2.length:Nat)) (bz (ar (bz (ar rfl rfl rfl) rfl) rfl rfl) rfl) (by show 2<=16777216;decide) λp _=>fB rfl rfl (aZ (ai (ar rfl rfl rfl) rfl) (f7 p.2 _)))) ?_) (cB rfl);show dEq (.lst ([(u.length:Int),z.length].map D.int)) (.lst ([(B.length:Int),E.length].map D.int))=_;rw[M7,I,J,M,N,beq_self_eq_true]
def rWD:D.tup [.str "may",.tup [.str "p",.lst [.str "W"]],.lst [],.lst []]=rW.toD:=by rw[pT,WT];rfl
def M9(ns:List Int)(_:ns.length<=63):m_7 [.kl (ns.map D.int)]=aa (.bl af):=by
 obtain⟨j,G,es⟩:=MT ns;apply cx;unfold b_7;show wp _ [.im (.kl (ns.map D.int)),.no,.no,.no,.no,.no,.no,.no,.no] _;generalize D.kl (ns.map D.int)=u at es;apply ax;refine fc (d:=[.int j]) (ai (aZ (ai rfl rfl) es) rfl) ?_;apply ax;refine fD (kA (xs:=[.int j]) rfl (bi (aY rfl) rfl) rfl λl=>oi l j 6 G (by decide)) ?_;apply ax;refine fD (gN (kA (xs:=[.int (nx j)]) rfl (bi (aY rfl) rfl) rfl λl=>oi l (nx j) 5 (cQ _) (by decide)) (aY rfl) g8) ?_;have U:=eB j (k:=6) (by decide);have d5:=eB (nx j) (k:=5) (by decide);have p:=cQ (nx j);show wp _ [.im u,.own [.int (nx (nx j))],.im (.int (dr j 6)),.im (.int (dr (nx j) 5-2)),.no,.no,.no,.no,.no] _;generalize nx (nx j)=s at p;generalize dr j 6=v at U;have q:-2<=dr (nx j) 5-2/\dr (nx j) 5-2<=2:=by lia
 generalize dr (nx j) 5-2=m at q;apply ax;refine bw (bf (av rfl rfl (fP _ _))) (λe=>?_) λe=>ce ?_
 .apply ax;refine fD (kA (xs:=[.int s]) rfl rfl rfl λl=>MR l s p) ?_;exact dn (aZ (ai (aZ (ai rfl rfl) (zt s)) (ai rfl rfl)) (M8 s _ (zt s))) (cB rfl)
 have hv5:v≠5:=by simpa using e
 refine pq (λρ=>∃rs s',okS s'/\mR v m rs/\ρ=[.im u,.own [.int s'],.im (.int v),.im (.int m),.im (.lst (rs.map Ro.toD)),.no,.no,.no,.no]) ?_ ?_
 .have N:∀b:Int,0<=b+m->b+m=(((b+m).toNat:Nat):Int):=λb h=>by lia
  refine bw (bf (av rfl rfl (fP _ _))) (λe=>?_) λH=>?_
  .have e:v=0:=by simpa using e
   subst e;exact fD (kA (xs:=[.int s]) rfl (bi (aY (av rfl rfl dR)) rfl) rfl λl=>MD l (400+m) s p (by lia)) ⟨_,rfl,_,_,(lI _ (cQ s) _).1,M5 p q,rfl⟩
  refine bw (bf (av rfl rfl (fP _ _))) (λe=>?_) λI=>?_
  .have e:v=1:=by simpa using e
   subst e;exact fD (kA (xs:=[.int s]) rfl (bi (aY (av rfl rfl dR)) rfl) rfl λl=>MI l (60+m) s p (by lia)) ⟨_,rfl,_,_,cQ _,MZ p q rfl,rfl⟩
  refine bw (bf (av rfl rfl (fP _ _))) (λe=>?_) λJ=>?_
  .have e:v=2:=by simpa using e
   subst e;exact fD (kA (xs:=[.int s]) rfl (bi (aY (d:=.int (((60+m).toNat:Nat):Int)) (av rfl rfl (by rw[dR,<- N 60 (by lia)]))) rfl) rfl λl=>Ew l (60+m).toNat s p (by lia)) ⟨_,rfl,_,_,cQ _,M1 p q (by lia),rfl⟩
  refine bw (bf (av rfl rfl (fP _ _))) (λe=>?_) λM=>?_
  .have e:v=4:=by simpa using e
   subst e;exact fD (kA (xs:=[.int s]) rfl (bi (aY (av rfl rfl dR)) rfl) rfl λl=>MS l (400+m) s p (by lia)) ⟨_,rfl,_,_,(lI _ (cQ _) _).1,M6 p q,rfl⟩
  .have H:v≠0:=by simpa using H
   have I:v≠1:=by simpa using I
   have J:v≠2:=by simpa using J
   have M:v≠4:=by simpa using M
   have e:v=3:=by lia
   subst e;exact fD (kA (xs:=[.int s]) rfl (bi (aY (d:=.int (((60+m).toNat:Nat):Int)) (av rfl rfl (by rw[dR,<- N 60 (by lia)]))) rfl) rfl λl=>MQ l (60+m).toNat s p (by lia)) ⟨_,rfl,_,_,cQ _,M3 p (by lia),rfl⟩
 .rintro ρ ⟨rs,s',E,y,rfl⟩;refine pq (λρ=>∃A B,ρ=[.im u,A,.im (.int v),.im (.int m),.im (.lst (rs.map Ro.toD)),B,.no,.no,.no]) ?_ ?_
  .refine KZ (bxX (gN (kA (xs:=[.int s']) rfl (bi (aY rfl) rfl) rfl λl=>oi l s' 2 E (by decide)) (aY rfl) (fP _ _))) (λ_=>?_) λ_=>ce ⟨_,rfl,_,_,rfl⟩;apply ax;have hl:=y.l;refine b6 (d:=.lst ((rs++[rW]).map Ro.toD)) ((bo (kG rfl (bo (ai (aX (ai rfl (ai (aX (ai rfl (ai (bo (ai rfl rfl)) rfl))) (ai rfl (ai rfl rfl))))) rfl)) (by rw[aG];show _+1<=_;lia))).trans (by rw[rWD,bU];rfl)) ?_;exact bw (b:=aj) (bf (av (aZ (ai rfl rfl) y.b) rfl rfl)) (λe=>nomatch e) λ_=>ce ⟨_,rfl,_,_,rfl⟩
  .rintro ρ ⟨A,B,rfl⟩
   by_cases h:0<m/\v≠3
   .apply ax;refine b6 (aZ (ai rfl rfl) (y.w h)) ?_;apply ax;refine bw (b:=af) (by rw[sM (bf (av rfl rfl ml)) (bf (av rfl rfl (wA _ _))),decide_eq_true h.1,beq_eq_false_iff_ne.mpr h.2];rfl) (λ_=>?_) λe=>nomatch e;exact dn (d:=.bl af) (av rfl rfl rfl) (cB rfl)
   .obtain⟨T,P,Y,hR⟩:=y.n h;apply ax;refine b6 (aZ (ai rfl rfl) Y) ?_;apply ax
    refine bw (b:=aj) (by
     rw[sM (bf (av rfl rfl ml)) (bf (av rfl rfl (wA _ _)))]
     congr 1
     rw[Bool.and_eq_false_iff]
     by_cases Q:0<m
     .right;have:v=3:=Decidable.not_not.mp λz=>h ⟨Q,z⟩;rw[this];rfl
     .left;exact decide_eq_false Q) (λe=>nomatch e) λ_=>ce ?_
    apply ax;refine bw (b:=aj) rfl (λe=>nomatch e) λ_=>ce ?_;apply ax;refine nG (o:=.nx [.im u,A,.im (.int v),.im (.int m),.im (.lst (rs.map Ro.toD)),B,.im (.lst [.tup [T,P]]),.im T,.im P]) rfl ?_;exact hR _ _ _ _ _
abbrev sp_law(K:bA):Sp:=λvs H Q _=>∃(a:Addr) (ns:List Int),vs=[.ref a]/\SqL K H a (ns.map V.int)/\ns.length<=63/\∀H',Q (.bl af) H'
variable{K:bA}
def sp_law_of{H:Hp}{a:Addr}{ns:List Int}{E:XK}(j:ns.length<=63)(e:SqL K H a (ns.map V.int)):sp_law K [.ref a] H (λv _=>v=.bl af) E:=⟨a,ns,rfl,e,j,λ_=>rfl⟩
variable{w:World}
def law_ok{a:Wa}(W:Wd K mg a):eM P w K mg base CX0 9 a.e_7.1 a.e_7.2 ["_law_script"] (sp_law K):=(KW W).ok.imp λvs H Q E ⟨a,ns,e,j,p,k⟩=>
 ⟨H,[.kl (ns.map D.int)],.bl af,aN.refl _,⟨.ref a,[],e,⟨a,_,rfl,j,aC.ints ns⟩,rfl⟩,rfl,M9 ns p,λv Hf' H' x r=>by rw[show v=V.bl af from r];exact k H'⟩
variable{P:LVa->Prop}
def u3(h:P []):∀us:LVa,us.length=0->P us:=λus e=>by
 rw[u9 e];exact h
def jF{n:Nat}(h:∀a (us:LVa),us.length=n->P (a::us)):∀us:LVa,us.length=n+1->P us:=λus e=>by
 cases us with
 |nil=>cases e
 |cons a us=>exact h a us (Nat.succ.inj e)
def EB(h:∀e:Value,P [e]):∀us:LVa,us.length=1->P us:=jF (P:=λus=>P (us)) λe=>u3 (h e)
def Na(h:∀e j:Value,P [e,j]):∀us:LVa,us.length=2->P us:=jF (P:=λus=>P (us)) λe=>jF (P:=λus=>P (e::us)) λj=>u3 (h e j)
def Nb(h:∀e j p:Value,P [e,j,p]):∀us:LVa,us.length=3->P us:=jF (P:=λus=>P (us)) λe=>jF (P:=λus=>P (e::us)) λj=>jF (P:=λus=>P (e::j::us)) λp=>u3 (h e j p)
def Nd(h:∀e j p q:Value,P [e,j,p,q]):∀us:LVa,us.length=4->P us:=jF (P:=λus=>P (us)) λe=>jF (P:=λus=>P (e::us)) λj=>jF (P:=λus=>P (e::j::us)) λp=>jF (P:=λus=>P (e::j::p::us)) λq=>u3 (h e j p q)
local macro_rules | `(tactic| walk_at "bd")=>`(tactic| exact λ_ _ _ _ _ _=>by first | exact EB λ_=>rfl | exact Na λ_ _=>rfl | exact Nb λ_ _ _=>rfl | exact Nd λ_ _ _ _=>rfl)
set_option autoImplicit true in
def all_mk{h:Heap}{fd_37 fd_33 fd_3 Q fd_9 fd_4 fd_2 N fd_34 fd_42 fd_28 fd_22 fd_35 fd_1 fd_8 U Y fd_23 fd_38 fd_16 fd_6 fd_36 fd_15 T fd_17 fd_27 fd_39 fd_43 fd_0 fd_29 fd_18 fd_24 fd_19 fd_40 fd_21 fd_30 fd_20 fd_31 fd_26 fd_32 fd_41 fd_5 fd_25 fd_7:fI}{t_SMALL t_GREAT A q z:Tok}{fa:Addr}(X:K.In h)(G:h.Ns cG mg)(hfa:mg "law"=aa (.ref fa))
 (B:dQ K cG "BadName"=aa (aa (.ref C_BadName)))
 (H:dQ K cG "NoRow"=aa (aa (.ref C_NoRow)))
 (E:dQ K cG "NoThing"=aa (aa (.ref C_NoThing)))
 (j:dQ K cG "StillError"=aa (aa (.ref C_StillError)))
 (I:dQ K cG "Wide"=aa (aa (.ref C_Wide)))
 (q_37:Dq K "is_made_of" xp f_37 fd_37)
 (q_33:Dq K "is_variable" xq f_33 fd_33)
 (q_3:Dq K "kinds_of" s_3 f_3 fd_3)
 (q_11:Dq K "must_be_new" xr f_11 Q)
 (q_9:Dq K "must_be_unlike" s_9 f_9 fd_9)
 (q_4:Dq K "must_be_known" s_4 f_4 fd_4)
 (q_2:Dq K "must_be_pairs" s_2 f_2 fd_2)
 (q_10:Dq K "must_be_told" xt f_10 N)
 (q_34:Dq K "uses" xu f_34 fd_34)
 (q_42:Dq K "part_uses" xv f_42 fd_42)
 (q_28:Dq K "args_of" xw f_28 fd_28)
 (q_22:Dq K "ways" xx f_22 fd_22)
 (q_35:Dq K "shown_thing" xy f_35 fd_35)
 (q_1:Dq K "plain_of" s_1 f_1 fd_1)
 (q_8:Dq K "rules_of" s_8 f_8 fd_8)
 (q_13:Dq K "must_be_narrow" xz f_13 U)
 (q_14:Dq K "names_by_ways" xA f_14 Y)
 (q_23:Dq K "has_like" xB f_23 fd_23)
 (q_38:Dq K "name_all" xC f_38 fd_38)
 (q_16:Dq K "text_of" xD f_16 fd_16)
 (q_6:Dq K "rules_by" s_6 f_6 fd_6)
 (q_36:Dq K "choice" xE f_36 fd_36)
 (q_15:Dq K "put_part" xF f_15 fd_15)
 (q_12:Dq K "put_items" xG f_12 T)
 (q_17:Dq K "places_in" xH f_17 fd_17)
 (q_27:Dq K "texts_in" xI f_27 fd_27)
 (q_39:Dq K "numbered" xJ f_39 fd_39)
 (q_43:Dq K "numbered_part" xK f_43 fd_43)
 (q_0:Dq K "_law_next" s_0 f_0 fd_0)
 (q_29:Dq K "_law_seed" xL f_29 fd_29)
 (q_18:Dq K "_law_kind" xM f_18 fd_18)
 (q_24:Dq K "_law_single" xN f_24 fd_24)
 (q_19:Dq K "_law_rules" xO f_19 fd_19)
 (q_40:Dq K "_law_pairs_of_two" xP f_40 fd_40)
 (q_21:Dq K "_law_things" xQ f_21 fd_21)
 (q_30:Dq K "_law_divisor" xR f_30 fd_30)
 (q_20:Dq K "_law_items" xS f_20 fd_20)
 (q_31:Dq K "_law_given_none" xT f_31 fd_31)
 (q_26:Dq K "_law_ways" xU f_26 fd_26)
 (q_32:Dq K "_law_two_parts" xV f_32 fd_32)
 (q_41:Dq K "_law_two_right" xW f_41 fd_41)
 (q_5:Dq K "_law_found" s_5 f_5 fd_5)
 (q_25:Dq K "_law_most_items" xX f_25 fd_25)
 (q_7:Dq K "law" s_7 f_7 fd_7)
 (x_BadName:W.excIn K C_BadName [.type "ValueError",.type "Exception",.type "BaseException",.type "object"] "ValueError.__new__"=af)
 (x_StillError:W.excIn K C_StillError [.type "ValueError",.type "Exception",.type "BaseException",.type "object"] "ValueError.__new__"=af)
 (x_Wide:W.excIn K C_Wide [.type "ValueError",.type "Exception",.type "BaseException",.type "object"] "ValueError.__new__"=af)
 (gax:i6 K (.ref C_BadName) "__getattribute__"=aa (aa (.builtin "BaseException.__getattribute__")))
 (hkx:i6 K (.ref C_BadName) "__getattr__"=aa ae)
 (bxx:gc K C_BadName (.type "BaseException")=aa af)
 (clx:W.clsIn K C_BadName=aa cdx)
 (tAx:i6 K (.ref C_BadName) "__class__"=aa (aa (.builtin "object.__class__")))
 (tMx:gc K C_BadName (.type "object")=aa af)
 (mr_StillError:gc K C_BadName (.ref C_StillError)=aa af)
 (ke_BadName:fK K (.ref C_BadName) (.ref C_BadName)=aa af)
 (kv_ValueError:fK K (.ref C_BadName) (.type "ValueError")=aa af)
 (ke_Wide:fK K (.ref C_BadName) (.ref C_Wide)=aa aj)
 (km_NoRow_NoThing:W.kitAny K (.ref C_BadName) [.ref C_NoRow,.ref C_NoThing]=aa aj)
 (gax2:i6 K (.ref C_Wide) "__getattribute__"=aa (aa (.builtin "BaseException.__getattribute__")))
 (hkx2:i6 K (.ref C_Wide) "__getattr__"=aa ae)
 (bxx2:gc K C_Wide (.type "BaseException")=aa af)
 (clx2:W.clsIn K C_Wide=aa cdx2)
 (tAx2:i6 K (.ref C_Wide) "__class__"=aa (aa (.builtin "object.__class__")))
 (tMx2:gc K C_Wide (.type "object")=aa af)
 (mr2_StillError:gc K C_Wide (.ref C_StillError)=aa af)
 (ke2_BadName:fK K (.ref C_Wide) (.ref C_BadName)=aa aj)
 (kv2_ValueError:fK K (.ref C_Wide) (.type "ValueError")=aa af)
 (ke2_Wide:fK K (.ref C_Wide) (.ref C_Wide)=aa af)
 (km2_NoRow_NoThing:W.kitAny K (.ref C_Wide) [.ref C_NoRow,.ref C_NoThing]=aa aj)
 (tG:W.specialIn K (.builtin "object.__class__") "__get__"=aa (aa (.builtin "getset_descriptor.__get__")))
 (tK:W.takesIn K (.builtin "object.__class__")=aa af)
 (M:dQ K cG "SMALL"=aa (aa (.str "abcdefghijklmnopqrstuvwxyz" t_SMALL)))
 (J:dQ K cG "GREAT"=aa (aa (.str "ABCDEFGHIJKLMNOPQRSTUVWXYZ" t_GREAT)))
 (y:dQ K cG "MOST_RULES"=aa (aa (.int 400 A)))
 (p:dQ K cG "MOST_THINGS"=aa (aa (.int 60 q)))
 (u:dQ K cG "MOST_ITEMS"=aa (aa (.int 60 z)))
 (z_ValueError:dQ K cG "ValueError"=aa ae)
 (z_all:dQ K cG "all"=aa ae)
 (z_any:dQ K cG "any"=aa ae)
 (z_dict:dQ K cG "dict"=aa ae)
 (z_int:dQ K cG "int"=aa ae)
 (z_isinstance:dQ K cG "isinstance"=aa ae)
 (z_len:dQ K cG "len"=aa ae)
 (z_list:dQ K cG "list"=aa ae)
 (z_max:dQ K cG "max"=aa ae)
 (z_range:dQ K cG "range"=aa ae)
 (z_set:dQ K cG "set"=aa ae)
 (z_zip:dQ K cG "zip"=aa ae)
  : ∃a:Wa,∃W:Wd K mg a,a.e_7.1=fa/\∀(s:aE) (v:Value),BindsTo s a.e_7.2 ⟨[v],[]⟩ [("_law_script",v)]:=by
 have e:=hfa.symm.trans (gW X G q_7.a);cases e
 exact⟨{
  e_37:=(f_37,fd_37),e_33:=(f_33,fd_33),e_3:=(f_3,fd_3),e_11:=(f_11,Q),e_9:=(f_9,fd_9),e_4:=(f_4,fd_4),e_2:=(f_2,fd_2),e_10:=(f_10,N),e_34:=(f_34,fd_34),e_42:=(f_42,fd_42),e_28:=(f_28,fd_28),e_22:=(f_22,fd_22),e_35:=(f_35,fd_35),e_1:=(f_1,fd_1),e_8:=(f_8,fd_8),e_13:=(f_13,U),e_14:=(f_14,Y),e_23:=(f_23,fd_23),e_38:=(f_38,fd_38),e_16:=(f_16,fd_16),e_6:=(f_6,fd_6),e_36:=(f_36,fd_36),e_15:=(f_15,fd_15),e_12:=(f_12,T),e_17:=(f_17,fd_17),e_27:=(f_27,fd_27),e_39:=(f_39,fd_39),e_43:=(f_43,fd_43),e_0:=(f_0,fd_0),e_29:=(f_29,fd_29),e_18:=(f_18,fd_18),e_24:=(f_24,fd_24),e_19:=(f_19,fd_19),e_40:=(f_40,fd_40),e_21:=(f_21,fd_21),e_30:=(f_30,fd_30),e_20:=(f_20,fd_20),e_31:=(f_31,fd_31),e_26:=(f_26,fd_26),e_32:=(f_32,fd_32),e_41:=(f_41,fd_41),e_5:=(f_5,fd_5),e_25:=(f_25,fd_25),e_7:=(f_7,fd_7),cl:=λ_=>0,C_BadName:=C_BadName,C_NoRow:=C_NoRow,C_NoThing:=C_NoThing,C_StillError:=C_StillError,C_Wide:=C_Wide},{
  g_BadName:=gW X G B,
  g_NoRow:=gW X G H,
  g_NoThing:=gW X G E,
  g_StillError:=gW X G j,
  g_Wide:=gW X G I,
  x_BadName:=x_BadName,
  x_StillError:=x_StillError,
  x_Wide:=x_Wide,
  ec_BadName:=⟨gax,hkx,bxx,(by rw[clx];rfl),tAx,tG,tK,tMx⟩,
  mr_StillError:=mr_StillError,
  ke_BadName:=ke_BadName,
  kv_ValueError:=kv_ValueError,
  ke_Wide:=ke_Wide,
  km_NoRow_NoThing:=km_NoRow_NoThing,
  ec_Wide:=⟨gax2,hkx2,bxx2,(by rw[clx2];rfl),tAx2,tG,tK,tMx2⟩,
  mr2_StillError:=mr2_StillError,
  ke2_BadName:=ke2_BadName,
  kv2_ValueError:=kv2_ValueError,
  ke2_Wide:=ke2_Wide,
  km2_NoRow_NoThing:=km2_NoRow_NoThing,
  g_SMALL:=⟨_,gW X G M⟩,
  g_GREAT:=⟨_,gW X G J⟩,
  g_MOST_RULES:=⟨_,gW X G y⟩,
  g_MOST_THINGS:=⟨_,gW X G p⟩,
  g_MOST_ITEMS:=⟨_,gW X G u⟩,
  z_ValueError:=gV X G z_ValueError,
  z_all:=gV X G z_all,
  z_any:=gV X G z_any,
  z_dict:=gV X G z_dict,
  z_int:=gV X G z_int,
  z_isinstance:=gV X G z_isinstance,
  z_len:=gV X G z_len,
  z_list:=gV X G z_list,
  z_max:=gV X G z_max,
  z_range:=gV X G z_range,
  z_set:=gV X G z_set,
  z_zip:=gV X G z_zip,
  e_37:=q_37.mk2 X G,
  e_33:=q_33.mk2 X G,
  e_3:=q_3.mk2 X G,
  e_11:=q_11.mk2 X G,
  e_9:=q_9.mk2 X G,
  e_4:=q_4.mk2 X G,
  e_2:=q_2.mk2 X G,
  e_10:=q_10.mk2 X G,
  e_34:=q_34.mk2 X G,
  e_42:=q_42.mk2 X G,
  e_28:=q_28.mk2 X G,
  e_22:=q_22.mk2 X G,
  e_35:=q_35.mk2 X G,
  e_1:=q_1.mk2 X G,
  e_8:=q_8.mk2 X G,
  e_13:=q_13.mk2 X G,
  e_14:=q_14.mk2 X G,
  e_23:=q_23.mk2 X G,
  e_38:=q_38.mk2 X G,
  e_16:=q_16.mk2 X G,
  e_6:=q_6.mk2 X G,
  e_36:=q_36.mk2 X G,
  e_15:=q_15.mk2 X G,
  e_12:=q_12.mk2 X G,
  e_17:=q_17.mk2 X G,
  e_27:=q_27.mk2 X G,
  e_39:=q_39.mk2 X G,
  e_43:=q_43.mk2 X G,
  e_0:=q_0.mk2 X G,
  e_29:=q_29.mk2 X G,
  e_18:=q_18.mk2 X G,
  e_24:=q_24.mk2 X G,
  e_19:=q_19.mk2 X G,
  e_40:=q_40.mk2 X G,
  e_21:=q_21.mk2 X G,
  e_30:=q_30.mk2 X G,
  e_20:=q_20.mk2 X G,
  e_31:=q_31.mk2 X G,
  e_26:=q_26.mk2 X G,
  e_32:=q_32.mk2 X G,
  e_41:=q_41.mk2 X G,
  e_5:=q_5.mk2 X G,
  e_25:=q_25.mk2 X G,
  e_7:=q_7.mk2 X G},rfl,q_7.bt (λ_ _ _ _ _ _=>EB λ_=>rfl)⟩
end N_k85
structure PySem.W.Fast:Prop where
 (tw4102120077890396329 tw15714735118795532765 tw12858671309375569443 tw14310796327432148263 tw4341636990310717665 tw5753318208220866471 tw1194536990973571592 tw3534465948288174293 tw6889129750452156565 te6562295813918167417 te14344739394939868365 te6282477543896762631 te17852715271613583405 te5494671076879320998 te4236699989149911032 te7533300097222011954 te7149535874001046418 te373512404998740088 te2654943165764711468 te6360335106608768173 te403052181332837050 te15414548657862540543 te4174069559910372237 te12328921460293929681 te2741809434792417191 te8527452015652713960 te4425199748290728531 te14428512408040221728 te12354927150887391803 te3254540619528291324 te7536033053859631615 te18434833270530094331 te17926181792070272572 te16264208596873375800 te2264552438110750966 te7050420970527545455 te8546337713257923454 te4973861531722308382 te5694689866832907540 te9689148771548761597 te3370030712687619561 te12705608004749786559 te3070153996405147009 te11331489363957372575 te5575916103426489566 te4953991778619241505 te3352503973158511261 te10487067213312511202 te16726487291319556653 te6767235547556893056 te6188856025824287979 te16477360345198878087 te6313818591502761172 te15101613914274385012 te17990196999245194620 te16056132699894231315 te13977077569369681192 te9164984047462702623 te9819671069903182023 te13481549999573358131 te8625795732976259990 te5430886036671497504 te3747721982263665035 te4754402942972162322 te403023705702851635 te13349189653595226267 te17060880127926538342 te12890726929618537511 te17490868150539407304 te16566786528558253777 te16946831130474559727 te15040535301005862313 te12061243808456817246 te10292058473537532389 te16547383124481516785 te14814186044893460980 te4993274463268480592 te15431843355958193140 te4249584491081549400 te6495684613503399295 te14130616398074448143 te5828670958209228935 te3320858148849375974 te7935626983562866522 te744186165544007136 te9072039943693841733 te3305385993491963173 te7968015239323531192 te15952560617276387429 te12968981839828953916 te14594887426899366651 te2613181204109130706 te13279386440039117412 te16023161950839874811 te7702767545696454900 te11800354751481700367 te9556848095338389115 te12123721952696927816 te10162330844090760690 te11629455584888862844 te14393368993138676529 te10782926497187579082 te2853599965892768833 te11300570582289857486 te15729637119875556150 te13612785251475932390 te3456843062149504906 te1984849530349434893 te2974987685015572672 te18205294434172359266 te11100475585928457399 te3896193936006651169 te4099175750785261716 te14943425507288771617 te9241653909437869302 te5150719277488379254 te2996317431590041395 te983010623489182629 te348586706962445054 te10580020690477791644 te13264767181225467852 te8813309873012389904 te2388737269508192702 te7844768410104615816 te16145336491800830125 te3743934936410989371 te17204476611164079460 te16541483346011246587 te11465470348880672292 te9907805030308232787 te17666460255843875990 te190761071686132153 te12133360640663732777 te4731460263766460477 te15517781183118391853 te14402499433248767844 te2706039490179469131 te7690121144909696401 te8880382909709402664 te2388467738718636923 te9698735951492753513 te5045663494082894095 te17384252216674109672 te3920629280820261445 te12031190766332589227 te11979014013881637797 te6849773278658911453 te14983364056080551319 te854888936469524246 te317750055513696649 te13884666844881417317 te9526294185457585650 te10643730434987448935 te785649088252789418 te2212425654588341684 te7114231332082738570 te1689852940690406894 te15591999337763068998 te13349871872978630582 te6312136533107404555 te13394551078694245838 te5083743730842907908 te18089672223485362273 te12768564118492227524 te286659570382826015 te12319198515037780464 te7428423961275172113 te3971027851143851559 te11723186153965298204 te15705992693719735077 te896560487105446561 te836637410155884443 te13245015731220966180 te10317295828064087715 te14528760542013270958 te2694662014874856387 te3388793666264494221 te13101741550161453650 te10565512443690763586 te8486608596002087284 te16948936219967943021 te4967475859474478660 te14417176004847613467 te17518159523647679065 te11238404918051487477 te12151400552869610542 te8318894868188076488 te4812154986269547487 te17673069494960861099 te15301685583748988258 te16582901220762233781 te16202009791154181231 te3852059201766018887 te10377518216675794628 te13025282151603805650 te443962422239116777 te14935740761654824118 te11433956148840716427 te7659582062640019265 te13963064644299326794 te5443562368475253613 te7035307336921395661 te4329401544465875797 te4249507278067548346 te2262816817491331859 te108047924248533904 te8776914105682950031 te16953928541776056504 te15336870431217638090 te5607772502976660333 te578243740174951151 te16770043315044169486 te9157901002476990540 te6981376362497156486 te5874334382965513038 te5539784593382277821 te16430165467637019948 te2404220698090555883 te13770941432998523888 te8775676336992507605 te7278133859411604908 te7100402502208057515 te11118213727323992355 te9479062115237932758 te5273768453563023093 te2755764045743744602 te16896808616500497268 te16842695402142716038 te9821950571791885583 te9619389196793160225 te945701765295178381 te8670640207882968467 te8412930768785144118 te8309444909487815020 te7856181800413515171 te7856147977812620095 te7606811568051400821 te7551216695994898485 te7477878416158343291 te7416503229095232989 te7095381166045416312 te7058395472593107077 te6737407143051094537 te6580593989640792121 te6484245004509114799 te6320260410601774753 te6129154745725673697 te6008867128712013514 te55684482310085881 te5500994793396019144 te5428085710936120359 te4689752263760641620 te4020503290068434029 te3856417705029363320 te3631273808886744170 te3221450448499802387 te303778676975926971 te3016866554196871365 te2930792346698169716 te2923545672950360150 te2819721187622001537 te2618875048337663789 te2566754410626994800 te2529783337407766952 te2356773667137795088 te2340253747803017877 te2143722562930526236 te2027831856237009854 te18221161722792496726 te17687709658104884412 te17119648856982041979 te17115475997344728073 te17032682301196667500 te16936628618275495011 te16618370845471156744 te16383222734720241526 te16317079980746801297 te16188495379847980045 te15759640674241347013 te15723446806982322069 te15697580285649331243 te15571088956196529580 te15223620902156142023 te15096418818966839790 te1450644905849383734 te13779607585236679808 te13685657613943057663 te13451251094243643777 te1303889802407714707 te12446347529422403799 te12337871053818045292 te12298025839554183138 te11889295038542753452 te11750070486521841620 te11599819225644607149 te11455250594675234627 te11362054724426442330 te11329868149966135181 te1092790546029080790 te10827174604287851485 te10786170197196906555 te10350476739108938756 te10205765518433258551 te10034539790686955841:True)
open PySem PySem.W PyProof.Rows
set_option maxRecDepth 100000 in
set_option maxHeartbeats 0 in
theorem PySem.Challenge.cw_standstill_k85_wide_holds : PySem.Challenge.rw_standstill_k85_wide.Holds := by
 w_on; o_law; k_head; (case hw=>w_witness2)
 k_fill
 refine L2.walk_ofK (l:=PySem.Challenge.rw_standstill_k85_wide) (n:=63) (k:=9) (x:="_law_script") (CX:=L2.CX0) (sp:=N_k85.sp_law) rfl (by decide) rfl ⟨rfl,by decide,by decide⟩ (fun w h Y=>PySem.W.kIn_of Y) ?F (fun _ _ a ns hl _ hS=>N_k85.sp_law_of hl hS) (fun _ _ _ _ z=>z)
 case F =>
  intro w mg fa h KX G hmg
  have TT : ∃ a : N_k85.Wa,∃ W : N_k85.Wd (L2.KOf KX) mg a,a.e_7.1=fa /\ ∀ (s:Shared) (v:Value),BindsTo s a.e_7.2 ⟨[v],[]⟩ [("_law_script",v)]:=by
   dsimp only [L2.KOf]
   refine' N_k85.all_mk KX G hmg ..
   all_goals first | k_is | kit_is | k_exc | exact ⟨by k_is,L2.fun_mk (by k_is) (by k_is) (by k_is)⟩ | exact ⟨by k_is,by k_is,L2.fun_mk (by k_is) (by k_is) (by k_is)⟩ | (intro t ht; simp only [List.mem_cons,List.not_mem_nil,or_false] at ht; rcases ht with rfl | rfl | rfl | rfl | rfl | rfl | rfl <;> kit_is) | skip
  obtain ⟨a,W,e1,hb⟩:=TT
  subst e1
  exact ⟨_,hb,fun base kb nb=>N_k85.law_ok W⟩
