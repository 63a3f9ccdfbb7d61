import PyProof.Rows.All
import Wide.All
import OpenK.AllK
import Wide.FinOn
import Lean
import PyProof.EqAt
import PyProof.EqKinds
import PyProof.TupleCall
import PyProof.NeKinds
import PySem.Challenge.RW_standstill_k84_choices_put
set_option Elab.async false
set_option genSizeOf false
set_option linter.all false
set_option compiler.extract_closed false
set_option bootstrap.genMatcherCode false
local macro_rules
|`(def $d:declId $b* :$t $v:declVal)=>`(theorem $d $b* :$t $v:declVal)
|`(abbrev $d:declId $s:optDeclSig $v:declVal)=>`(noncomputable def $d $s:optDeclSig $v:declVal)
set_option maxRecDepth 100000
open Array renaming length_toList->nF,getElem?_eq_none->ux,getElem?_toList->uz
open Bool renaming false->ag,true->ac,false_ne_true->bS,and_eq_true->cS,eq_iff_iff->fU,false_eq_true->jQ,or_eq_true->jr,noConfusion->pQ,and_true->pR,or_false->pS,true_and->pT
open False renaming elim->iS
open ForInStep renaming yield->ma
open Int renaming toNat_natCast->gT,emod_lt_of_pos->uA
open List renaming length_map->av,length_append->aJ,getElem?_eq_getElem->cr,mem_singleton->bN,getElem?_eq_some_iff->eQ,map_append->bh,mem_cons_self->bW,length_cons->bP,mem_cons_of_mem->c8,getD_eq_getElem?_getD->fm,getElem?_map->d7,range->ci,length_singleton->eZ,not_mem_nil->cT,getElem?_append_right->iT,mem_cons->bX,length_range->dP,flatMap_append->fD,mem_append->dB,mem_map->bT,replicate->fV,length->e6,getElem?_set_ne->jt,append_nil->eB,map_cons->cY,getElem?_append_left->kR,mem_append_right->il,getElem?_set_self->kS,reverse_cons->gl,append_assoc->gm,nodup_append->gn,lookup_cons->fW,mem_flatMap->fX,getElem_mem->ju,any_cons->eS,length_reverse->jv,length_pos_iff->jw,take_of_length_le->kU,flatMap_cons->iU,length_replicate->kW,reverse_reverse->kX,length_zip->io,length_filter_le->me,mem_range->iq,length_eq_zero_iff->nG,filter_cons_of_neg->nH,zip_cons_cons->kZ,nodup_nil->iu,getElem?_eq_none->pU,getElem?_toArray->pV,drop_eq_nil_of_le->nI,ext_getElem?->k6,nodup_iff_pairwise_ne->pW,getElem?_range->pX,drop_eq_getElem_cons->pY,length_take->k7,mem_reverse->k8,getElem?_replicate->uB,foldl_append->mf,mem_filter->k9,length_drop->mh,map_fst_zip->mi,filter_append->nJ,idxOf_lt_length_of_mem->uC,all_cons->jR,find?_cons->mj,zipWith->pZ,map_reverse->nK,filter_cons_of_pos->uD,find?_eq_none->p5
open List.Nodup renaming length_le_of_subset->uE
open Nat renaming le_refl->bf,ne_of_lt->cp,lt_of_lt_of_le->fE,le_trans->dC,lt_irrefl->iV,zero_le->iw,le_of_lt->la,ne_of_gt->lb,le_of_ble_eq_true->p6,succ_mul->ml,add_sub_cancel_left->uF,le_of_not_lt->p7,min_self->nL,pow_le_pow_right->uG,mul_le_mul_right->uH,zero_add->p8,le_add_right->uI
open Ne renaming symm->cF
open Option renaming some->aa,bind_some->aC,none->ab,bind_eq_some_iff->ce,map_eq_some_iff->lc
open Option.some renaming inj->cj
open Or renaming inr->bw,inl->cf
open PyProof.Rows renaming callWith_type1->jS,slot_tuple_getitem->uJ,callWith_builtin1->zh,AllBare->jx,envOfC->ix
open PySem renaming wpAny_bind->ar,wpAny_pure->aY,sizeLine->aW,Shared->aE,starEach->bi,boot_len->dD,sizeLine_eq->cG,mainGlobals->cL,wpAny_holding->eC,compareOp->cU,assignEach->eD,foldedSetIterable->iy,builtinLookup_eq_fast->lf,wpAny_mono->fK,Program->di,bootBuiltins->gU,sysModules->fY,wpAny_truthy_bool->jT,swapsWith->fF,wpAny_Call_Name_kw->lg,wpAny_field->gV,binaryOp->fo,codeAny_builtin->jU,wpAny_callSpecial?_slot->nM,FuncData->fL,typeLookup_type->lh,Builtin->cZ,wpAny_pyIter_list->mm,behindInMarks->jV,NameKind->fZ,mem_of_lookup->nN,wpAny_call_entry->mn,wpAny_typeOf->jW,Around->dH,wpAny_getItem_str_slice->p9,Builtin->zi,wpAny_seqItems->mo,codeAny_mono->li,codeAny->gp,plainId_quiet->mq,typeLookup->jX,holding->gD,wpAny_passesOwn->nO,sliceBounds->lj,backTo->fM,getattributeRaised->qb,valueAt->gW,isSubtype_type->nP,wpAny_newObj_type->qc,wpAny_rule->ll,Spec->Ej,swapsWithSole->nQ,swappedStores->nR,wpAny_pyNext_list_item->uK,assign->gE,wpAny_pyNext_list_end->uL,post_val_or_str->qd,wpAny_notOrdered_dict->uM,call_meets->mr,codeAny_call_builtin->uN,rawInt->gX,subscripted->nS,getItem->jy,wpAny_standAt->qe,pyNext->iz,stored->iA,tupleKind_room_in1->uO,wpAny_attempt->qf
open PySem.Around renaming under_plainId->qg,in1_units->qh
open PySem.Builtin.Dict renaming updateFrom->qi,selfAndRest->zj,pairItems->zk
open PySem.Builtin.Int renaming intBits->qj
open PySem.Builtin.List renaming listExtendWith->qk,listTooLong->zl,listItems->zm
open PySem.Builtin.Slice renaming slicePlaces->uP,sliceAdjust->zn
open PySem.Builtin.SmallTypes renaming ownedTupleIsFree->ql,nextOf->uQ
open PySem.Builtin.Str renaming strSliceIndices->uR
open PySem.Calls renaming spliced_cons->lm,spliced_nil->uS
open PySem.F renaming plainAttrs_list->eE,slot_list_append->f6,type_list_append->f7,slot_list_extend->nT,type_list_extend->nU,plainAttrs_dict->qm,called_set->jY,slot_list_getattribute->uT,slot_zip_getattribute->uU,slot_list_reversed->uV,slot_dict_update->uW,slot_dict_get->uX,slot_zip_next->qo,slot_dict_setdefault->zo,kt_typeCall_dict_1->zp
open PySem.Heap renaming get?_push_of_some->bQ,lt_size->bD,get?_push_size->dE,get?_update_other->ln,get?_update_self->mv,SameBut->gY,size_push->qp
open PySem.Heap.DictOf renaming new->uY
open PySem.Heap.IsSliceOf renaming new->zq
open PySem.NameKind renaming free->fG,cell->lp
open PySem.Obj renaming mapSeq->gF
open PySem.Paired renaming length->qr
open PySem.PassesOwn renaming never->cH
open PySem.SeqAt renaming EqAt->c5
open PySem.SeqAt.EqAt renaming same->uZ
open PySem.Txt renaming slice->gG,join->u0,slice_le->qt
open PySem.Value renaming bool->f8,type->iB,ref->gZ,none->mw
open PySem.W renaming Frag->bo,mg_none_of->fN,nsIn->dX
open Sum renaming inr->g3
open Sum.inr renaming inj->nV
open True renaming intro->mx
nonrec abbrev PRS:=PySem.Value->PySem.Shared->Prop
nonrec abbrev MGT:=PySem.Str->Option PySem.Value
nonrec abbrev PNS:=List (PySem.Addr×PySem.Obj)
nonrec abbrev LN:=List Nat
nonrec abbrev L2N:=List LN
nonrec abbrev LSt:=List PySem.Str
nonrec abbrev LVa:=List PySem.Value
nonrec abbrev LAd:=List PySem.Addr
nonrec abbrev LEx:=List PySem.Expr
namespace L2
open List
open PySem PySem.Spec PyProof.Rows
@[reducible]noncomputable def Key:=Sum Int Str
abbrev lq:Key->Value->Bool
 |.inl k,v=>Value.isInt k v
 |.inr x,v=>Value.isStrOf x v
abbrev Ek(w:World):Key->Int
 |.inl k=>hashInt k
 |.inr x=>hashStr w x
def iW:∀{k:Key} {v:Value},lq k v=ac->(∃i t,k=Sum.inl i/\v=Value.int i t)\/(∃x t,k=g3 x/\v=Value.str x t)
 |.inl i,v,h=>by
  obtain⟨t,e⟩:=Value.isInt_shape h
  exact .inl ⟨i,t,rfl,e⟩
 |.inr x,v,h=>by
  obtain⟨t,e⟩:=Value.isStrOf_shape h;exact .inr ⟨x,t,rfl,e⟩
def El(i:Int)(t:Tok):lq (.inl i) (.int i t)=ac:=by simp[lq,Value.isInt]
def Em(x:Str)(t:Tok):lq (.inr x) (.str x t)=ac:=by simp[lq,Value.isStrOf]
def En(a b:Int):decide ((Sum.inl a:Key)=Sum.inl b)=(a==b):=by
 by_cases e:a=b
 .subst e;simp
 .have h:¬(Sum.inl a:Key)=Sum.inl b:=λq=>e (Sum.inl.inj q);rw[decide_eq_false h];exact(beq_eq_false_iff_ne.mpr e).symm
def Eo(a b:Str):decide ((g3 a:Key)=g3 b)=decide (a=b):=by
 by_cases e:a=b
 .subst e;simp
 .have h:¬(g3 a:Key)=g3 b:=λq=>e (nV q);rw[decide_eq_false h,decide_eq_false e]
def Ep(a:Int)(b:Str):decide ((Sum.inl a:Key)=g3 b)=ag:=decide_eq_false (λq=>nomatch q)
def Er(a:Str)(b:Int):decide ((g3 a:Key)=Sum.inl b)=ag:=decide_eq_false (λq=>nomatch q)
abbrev cV(prog:di)(w:World):PySem.KeyKind prog w Key where
 is:=lq
 hash:=Ek w
 inj:=λv a b ha hb=>by
  rcases iW ha with⟨i,t,rfl,rfl⟩ |⟨x,t,rfl,rfl⟩
  .rcases iW hb with⟨j,u,rfl,e⟩ |⟨y,u,rfl,e⟩
   .injection e with e1 _;rw[e1]
   .exact nomatch e
  .rcases iW hb with⟨j,u,rfl,e⟩ |⟨y,u,rfl,e⟩
   .exact nomatch e
   .injection e with e1 _;rw[e1]
 byValue:=λk v h=>by
  rcases iW h with⟨i,t,rfl,rfl⟩ |⟨x,t,rfl,rfl⟩ <;> rfl
 pyHash:=λhv h=>by
  rcases iW hv with⟨i,t,rfl,rfl⟩ |⟨x,t,rfl,rfl⟩
  .exact wpAny_pyHash_int h
  .exact wpAny_pyHash_str h
 eqBool:=λhu hv h=>by
  rcases iW hu with⟨i,t,rfl,rfl⟩ |⟨x,t,rfl,rfl⟩
  .rcases iW hv with⟨j,u,rfl,rfl⟩ |⟨y,u,rfl,rfl⟩
   .rw[En]at h;exact wpAny_eqBool_int h
   .rw[Ep]at h;exact c5.int_str i t y u _ _ _ _ h
  .rcases iW hv with⟨j,u,rfl,rfl⟩ |⟨y,u,rfl,rfl⟩
   .rw[Er]at h;exact c5.str_int x t j u _ _ _ _ h
   .rw[Eo]at h;exact wpAny_eqBool_str h
 «strs»:=λk x t v h=>by
  rcases iW h with⟨i,u,rfl,e⟩ |⟨y,u,rfl,e⟩
  .exact nomatch e
  .injection e with e1 _
   subst e1
   cases v <;> rfl
def zr(prog:di)(w:World)(i:Int)(t:Tok):(cV prog w).is (.inl i) (.int i t)=ac:=El i t
def zt(prog:di)(w:World)(x:Str)(t:Tok):(cV prog w).is (.inr x) (.str x t)=ac:=Em x t
inductive V where
 |non |bl (b:Bool) |int (i:Int) |str (x:Str) |byt (b:Array UInt8) |flt (b:UInt64) |ref (a:Addr) |ty (n:String)
 deriving DecidableEq
abbrev aP:V->Value->Prop
 |.non,u=>u=mw
 |.bl b,u=>u=f8 b
 |.int i,u=>∃t,u=Value.int i t
 |.str x,u=>∃t,u=Value.str x t
 |.byt b,u=>∃t,u=Value.bytes b t
 |.flt b,u=>∃t,u=Value.float b t
 |.ref a,u=>u=gZ a
 |.ty n,u=>u=iB n
nonrec abbrev aS:List V->LVa->Prop:=Paired aP
variable{xs:List V}{us:LVa}
def aS.length(r:aS xs us):xs.length=us.length:=qr r
def aS.get:∀{xs:List V} {us:LVa} {i:Nat} {x:V},aS xs us->xs[i]?=aa x->∃u,us[i]?=aa u/\aP x u
 | _,_,_,_,.nil,e=>by simp at e
 | _,_,0,_,.cons r _,e=>by simp at e;subst e;exact⟨_,rfl,r⟩
 | _,_,i+1,x,.cons _ t,e=>by
  obtain⟨u,a,b⟩:=aS.get t (by simpa using e);exact⟨u,by simpa using a,b⟩
def aS.set{x:V}{u:Value}(r:aP x u):∀{xs:List V} {us:LVa} (i:Nat),aS xs us->aS (xs.set i x) (us.set i u)
 | _,_,_,.nil=>.nil
 | _,_,0,.cons _ t=>.cons r t
 | _,_,i+1,.cons q t=>.cons q (aS.set r i t)
def aS.append:∀{xs a:List V} {us ws:LVa},aS xs us->aS a ws->aS (xs++a) (us++ws)
 | _,_,_,_,.nil,s=>s
 | _,_,_,_,.cons r t,s=>.cons r (aS.append t s)
def aS.take:∀{xs:List V} {us:LVa} (n:Nat),aS xs us->aS (xs.take n) (us.take n)
 | _,_,0,_=>.nil
 | _,_,_+1,.nil=>.nil
 | _,_,n+1,.cons r t=>.cons r (aS.take n t)
def aS.drop:∀{xs:List V} {us:LVa} (n:Nat),aS xs us->aS (xs.drop n) (us.drop n)
 | _,_,0,r=>r
 | _,_,_+1,.nil=>.nil
 | _,_,n+1,.cons _ t=>aS.drop n t
abbrev g4:Option V->Option Value->Prop
 |some v,aa u=>aP v u
 |none,ab=>True
 | _,_=>False
abbrev KV{a:Type}:List (a×V)->List (a×Value)->Prop:=Paired λ(p:a×V) (q:a×Value)=>p.1=q.1/\aP p.2 q.2
abbrev kV:Key->V
 |.inl i=>.int i
 |.inr x=>.str x
inductive HO where
 |lst (xs:List V)
 |tup (xs:List V)
 |dK (kvs:List (Key×V)) |dT (kvs:List (List Key×V))
 |set (S:Int->Bool) (n:Nat)
 |ins (C dx:Addr) (fs:List (Str×V))
 |own (x:Addr)
 |xd (fs:List (Str×V))
 |met (f x:Addr)
 |rng (lo hi:Int)
 |frz (o:Obj) (u:HO)
 |tbl (ps:Array Value)
 |ext (φ:Heap->Prop)
@[reducible]noncomputable def Hp:=Addr->Option HO
abbrev upd(H:Hp)(a:Addr)(o:HO):Hp:=λb=>if b=a then aa o else H b
variable{H:Hp}{a:Addr}{o:HO}
def bI:upd H a o a=aa o:=by unfold upd;rw[if_pos rfl]
variable{b:Addr}
def bF(h:b≠a):upd H a o b=H b:=by unfold upd;rw[if_neg h]
variable{u:HO}
def Es(h:H a=aa o)(h':H b=aa u)(d:o≠u):a≠b:=by
 intro e;subst e;rw[h]at h';exact d (cj h')
def g5(h:H a=aa o)(h':H b=ab):a≠b:=by
 intro e;subst e;rw[h]at h';cases h'
section
variable(P:di)(w:World)
abbrev e7(H:Hp)(h:Heap)(a:Addr):HO->Prop
 |.lst xs=>xs.length<=aW/\∃(its:LVa) (n:Nat),aS xs its/\h.get? a=aa {cls:=.type "list",data:=.seq its.toArray n}
 |.tup xs=>xs.length<=aW/\∃its:LVa,aS xs its/\IsTup h a its.toArray
 |.dK kvs=>kvs.length<=aW/\(a==fY)=ag/\∃vs,KV kvs vs/\h.DictOf (cV P w) a vs
 |.dT kvs=>kvs.length<=aW/\(a==fY)=ag/\∃xs:List (List Key×Addr×Value),
   Paired (λ(p:List Key×V) (q:List Key×Addr×Value)=>p.1=q.1/\H q.2.1=aa (.tup (p.1.map kV))/\aP p.2 q.2.2) kvs xs /\
   ∃o es g,h.get? a=aa o/\o.ExactDict/\o.data=.dict es g/\es.toList=xs.map (entryOfKey (tupleKind (cV P w)))/\(xs.map (·.1)).Nodup
 |.set S n=>h.SetOf (intKind P w) a S n
 |.ins C dx fs=>H dx=aa (.own a)/\fs.length<=1000/\dx≠a/\h.get? a=aa (W.instObj C dx) /\
   ∃c,h.Ns1 dx c/\(∀f,g4 (fs.lookup f) (c f))/\PySem.Within c (fs.map (·.1))
 |.own _=>∃o,h.get? a=aa o
 |.xd fs=>∃c,h.Ns1 a c/\∀f,g4 (fs.lookup f) (c f)
 |.rng lo hi=>∃t u v,h.get? a=aa {cls:=.type "range",data:=.fields #[.int lo t,.int hi u,.int 1 v]}
 |.frz o u=>h.get? a=aa o/\e7 H h a u
 |.tbl ps=>h.get? a=aa {cls:=.none,data:=.fields ps}
 |.met f x=>h.get? a=aa (W.methodObj (.ref f) (.ref x))
 |.ext φ=>φ h/\(∃o,h.get? a=aa o)/\∀d e:Heap,φ d->(∀o,d.get? a=aa o->e.get? a=aa o)->φ e
abbrev HOk(H:Hp)(h:Heap):Prop:=∀a o,H a=aa o->e7 P w H h a o
end
variable{P:di}{w:World}{h:Heap}
def e7.lt(x:e7 P w H h a o):a<h.objs.size:=by
 cases o with
 |lst xs=>obtain⟨_,_,_,_,e⟩:=x;exact bD e
 |tup xs=>obtain⟨_,_,_,p⟩:=x;exact p.lt
 |dK kvs=>obtain⟨_,_,_,_,o,_,_,e,_⟩:=x;exact bD e
 |dT kvs=>obtain⟨_,_,_,_,o,_,_,e,_⟩:=x;exact bD e
 |set S n=>obtain⟨o,_,_,_,e,_⟩:=x;exact bD e
 |ins C dx fs=>obtain⟨_,_,_,e,_⟩:=x;exact bD e
 |own y=>obtain⟨_,e⟩:=x;exact bD e
 |xd fs=>obtain⟨_,⟨_,_,_,e,_⟩,_⟩:=x;exact bD e
 |rng lo hi=>obtain⟨_,_,_,e⟩:=x;exact bD e
 |frz c u=>obtain⟨e,_⟩:=x;exact bD e
 |tbl ps=>exact bD (x)
 |met f y=>exact bD (x)
 |ext φ=>obtain⟨_,⟨_,e⟩,_⟩:=x;exact bD e
def Paired.mapP{e g:Type}{F G:e->g->Prop}:∀{c:List e} {d:List g},Paired F c d->(∀a b,F a b->G a b)->Paired G c d
 | _,_,.nil,_=>.nil
 | _,_,.cons r t,f=>.cons (f _ _ r) (Paired.mapP t f)
variable{H':Hp}{h':Heap}
def e7.stay(x:e7 P w H h a o)(k:∀b u,(b=a\/H b=aa (.own a))->h.get? b=aa u->h'.get? b=aa u)
 (m:∀b,H b=aa (.own a)->H' b=aa (.own a))(s:∀b xs,H b=aa (.tup xs)->H' b=aa (.tup xs)):e7 P w H' h' a o:=by
 induction o with
 |lst xs=>obtain⟨z,its,n,r,e⟩:=x;exact⟨z,its,n,r,k _ _ (.inl rfl) e⟩
 |tup xs=>obtain⟨z,its,r,g,e,c⟩:=x;exact⟨z,its,r,g,k _ _ (.inl rfl) e,c⟩
 |dK kvs=>obtain⟨z,y,vs,r,g,es,i,e,c⟩:=x;exact⟨z,y,vs,r,g,es,i,k _ _ (.inl rfl) e,c⟩
 |dT kvs=>
  obtain⟨z,y,xs,r,g,es,i,e,c⟩:=x
  exact⟨z,y,xs,Paired.mapP r λp q z=>⟨z.1,s _ _ z.2.1,z.2.2⟩,g,es,i,k _ _ (.inl rfl) e,c⟩
 |set S n=>obtain⟨g,es,i,t,e,c⟩:=x;exact⟨g,es,i,t,k _ _ (.inl rfl) e,c⟩
 |ins C dx fs=>
  obtain⟨d,z,B,e,j,⟨od,es,i,l,c⟩,r⟩:=x
  exact⟨m _ d,z,B,k _ _ (.inl rfl) e,j,⟨od,es,i,k _ _ (.inr d) l,c⟩,r⟩
 |own y=>obtain⟨g,e⟩:=x;exact⟨g,k _ _ (.inl rfl) e⟩
 |xd fs=>obtain⟨j,⟨od,es,i,e,c⟩,r⟩:=x;exact⟨j,⟨od,es,i,k _ _ (.inl rfl) e,c⟩,r⟩
 |rng lo hi=>obtain⟨t,u,v,e⟩:=x;exact⟨t,u,v,k _ _ (.inl rfl) e⟩
 |frz g u A=>obtain⟨e,q⟩:=x;exact⟨k _ _ (.inl rfl) e,A q⟩
 |tbl ps=>
  have e:=x
  exact k a _ (.inl rfl) e
 |met f y=>
  have e:=x
  exact k a _ (.inl rfl) e
 |ext φ=>obtain⟨p,⟨o,e⟩,st⟩:=x;exact⟨st _ _ p λo q=>k _ _ (.inl rfl) q,⟨o,k _ _ (.inl rfl) e⟩,st⟩
def HOk.lt(x:HOk P w H h)(e:H a=aa o):a<h.objs.size:=(x a o e).lt
def HOk.fresh(x:HOk P w H h)(e:h.objs.size<=a):H a=ab:=by
 cases q:H a with
 |none=>rfl
 |some u=>exact absurd (fE (x.lt q) e) (iV _)
def HOk.kept(x:HOk P w H h)(k:∀b u,h.get? b=aa u->h'.get? b=aa u):HOk P w H h':=λa o e=>
 (x a o e).stay (λb u _ q=>k b u q) (λ_ q=>q) λ_ _ q=>q
def HOk.laid(x:HOk P w H h)(k:∀b u,h.get? b=aa u->h'.get? b=aa u)(hp:h.objs.size<=a)(new:e7 P w (upd H a o) h' a o):HOk P w (upd H a o) h':=λb u e=>by
 have g:=x.fresh hp
 by_cases d:b=a
 .subst d;rw[bI]at e;cases e;exact new
 .rw[bF d]at e;exact(x b u e).stay (λc v _ q=>k c v q) (λc q=>by rw[bF (g5 q g)];exact q) λc xs q=>by rw[bF (g5 q g)];exact q
abbrev Rd(H:Hp)(a:Addr)(u:HO):Prop:=H a=aa u\/∃o,H a=aa (.frz o u)
def Rd.ok(r:Rd H a u)(x:HOk P w H h):e7 P w H h a u:=by
 rcases r with r |⟨o,r⟩
 .exact x a u r
 .obtain⟨_,q⟩:=x a _ r;exact q
abbrev Mut:Option HO->Prop
 |some (.lst _)=>True
 |some (.dK _)=>True
 |some (.dT _)=>True
 |some (.set _ _)=>True
 |some (.ins _ _ _)=>True
 |some (.ext _)=>True
 | _=>False
variable{x e:Addr}{o':HO}
def HOk.write(ok:HOk P w H h)(m:Mut (H x))(p:e=x\/H e=aa (.own x))(k:∀b u,b≠e->h.get? b=aa u->h'.get? b=aa u)(n:∃u,h'.get? e=aa u)
 (new:e7 P w (upd H x o') h' x o'):HOk P w (upd H x o') h':=λb u q=>by
 have g:∀c y,H c=aa (.own y)->c≠x:=λc y r z=>by subst z;rw[r]at m;exact m
 have i:∀c xs,H c=aa (.tup xs)->c≠x:=λc xs r z=>by subst z;rw[r]at m;exact m
 by_cases j:b=x
 .subst j;rw[bI]at q;cases q;exact new
 .rw[bF j]at q
  by_cases d:b=e
  .have s:H b=aa (.own x):=by
    rcases p with z |z
    .exact absurd (d.trans z) j
    .rw[d];exact z
   rw[q]at s;cases s;obtain⟨v,t⟩:=n;exact⟨v,by rw[d];exact t⟩
  .refine(ok b u q).stay (λc v l r=>k c v ?_ r) (λc r=>by rw[bF (g c b r)];exact r) λc xs r=>by rw[bF (i c xs r)];exact r
   rcases l with rfl |l
   .exact d
   .rintro rfl
    rcases p with z |z
    .exact g c b l z
    .rw[l]at z;cases z;exact j rfl
structure Un(fs ex:LAd)(H H':Hp)(h h':Heap):Prop where
 keep:∀b o,h.get? b=aa o->H b=ab->b∉fs->b∉ex->h'.get? b=aa o
 slot:∀b o,h.get? b=aa o->H b=ab->b∈fs->b∉ex->∃sl,h'.get? b=aa {o with slots:=sl}
 free:∀b o,h.get? b=aa o->H b=ab->b∉ex->H' b=ab
 there:∀b o,h.get? b=aa o->b∉ex->∃o',h'.get? b=aa o'
 tups:∀b xs,H b=aa (.tup xs)->H' b=aa (.tup xs)
 frzs:∀b o u,H b=aa (.frz o u)->H' b=aa (.frz o u)
 tbls:∀b ps,H b=aa (.tbl ps)->∃more,H' b=aa (.tbl (ps++more))
variable{ex:LAd}{H1:Hp}{h1:Heap}
def Un.any{fs:LAd}(u:Un fs ex H H1 h h1){c:Obj}(q:h.get? b=aa c)(n:H b=ab)(g:b∉ex):∃sl,h1.get? b=aa {c with slots:=sl}:=by
 by_cases d:b∈fs
 .exact u.slot b c q n d g
 .exact⟨c.slots,u.keep b c q n d g⟩
variable{H2:Hp}{h2:Heap}
def Un.trans{fs:LAd}(a:Un fs ex H H1 h h1)(b:Un fs ex H1 H2 h1 h2):Un fs ex H H2 h h2 where
 keep:=λc ob q n hc hx=>b.keep c ob (a.keep c ob q n hc hx) (a.free c ob q n hx) hc hx
 slot:=λc ob q n hc hx=>by
  obtain⟨sl,e1⟩:=a.slot c ob q n hc hx;obtain⟨sl',e2⟩:=b.slot c _ e1 (a.free c ob q n hx) hc hx;exact⟨sl',e2⟩
 free:=λc ob q n hx=>by
  obtain⟨o',e1⟩:=a.there c ob q hx;exact b.free c o' e1 (a.free c ob q n hx) hx
 there:=λc ob q hx=>by
  obtain⟨o',e1⟩:=a.there c ob q hx;exact b.there c o' e1 hx
 tups:=λc xs q=>b.tups c xs (a.tups c xs q)
 frzs:=λc ob xs q=>b.frzs c ob xs (a.frzs c ob xs q)
 tbls:=λc ps q=>by
  obtain⟨m1,e1⟩:=a.tbls c ps q;obtain⟨m2,e2⟩:=b.tbls c _ e1;exact⟨m1++m2,by rw[e2,Array.append_assoc]⟩
def Un.kept{fs:LAd}(k:∀b u,h.get? b=aa u->h'.get? b=aa u):Un fs ex H H h h':=
 ⟨λb c q _ _ _=>k b c q,λb c q _ _ _=>⟨c.slots,k b c q⟩,λ_ _ _ n _=>n,λb c q _=>⟨c,k b c q⟩,λ_ _ q=>q,λ_ _ _ q=>q,λ_ ps q=>⟨#[],by rw[q];simp⟩⟩
def Un.refl{fs:LAd}:Un fs ex H H h h:=Un.kept λ_ _ q=>q
def Un.laid{fs:LAd}(k:∀b u,h.get? b=aa u->h'.get? b=aa u)(hp:h.objs.size<=a)(hn:H a=ab):Un fs ex H (upd H a o) h h' where
 keep:=λb u q _ _ _=>k b u q
 slot:=λb u q _ _ _=>⟨u.slots,k b u q⟩
 free:=λb u q n _=>by rw[bF (cp (fE (bD q) hp))];exact n
 there:=λb u q _=>⟨u,k b u q⟩
 tups:=λb xs q=>by rw[bF (g5 q hn)];exact q
 frzs:=λb u xs q=>by rw[bF (g5 q hn)];exact q
 tbls:=λb ps q=>⟨#[],by rw[bF (g5 q hn),q];simp⟩
def Un.write{fs:LAd}(d:Mut (H x))(m:e=x\/H e=aa (.own x))(k:∀b u,b≠e->h.get? b=aa u->h'.get? b=aa u)(g:∃u,h'.get? e=aa u):Un fs ex H (upd H x o) h h':=by
 have l:∀b,H b=ab->b≠x:=λb n z=>by subst z;rw[n]at d;exact d
 have j:∀b,H b=ab->b≠e:=λb n z=>by
  subst z
  rcases m with r |r
  .exact l b n r
  .rw[n]at r;nomatch r
 have i:∀b u,H b=aa u->¬Mut (aa u)->b≠x:=λb u q nm z=>by subst z;rw[q]at d;exact nm d
 refine⟨λb u q n _ _=>k b u (j b n) q,λb u q n _ _=>⟨u.slots,k b u (j b n) q⟩,λb u q n _=>by rw[bF (l b n)];exact n,λb u q _=>?_,
  λb xs q=>by rw[bF (i b _ q λz=>z)];exact q,λb u xs q=>by rw[bF (i b _ q λz=>z)];exact q,λb ps q=>⟨#[],by rw[bF (i b _ q λz=>z),q];simp⟩⟩
 by_cases c:b=e
 .subst c;exact g
 .exact⟨u,k b u c q⟩
abbrev trk(h:Heap)(H:Hp):LAd:=(ci h.objs.size).filter λa=>(H a).isSome
abbrev my(h:Heap)(H:Hp):Heap:=W.hideAll h (trk h H)
def Et(h:Heap)(H:Hp):(my h H).objs.size=h.objs.size:=W.hideAll_size _ _
variable{o:Obj}
def Eu(e:h.get? b=aa o)(n:H b=ab):(my h H).get? b=aa o:=
 W.hideAll_get _ e λc=>by
  have q:=(k9.mp c).2;rw[n]at q;simp at q
def Ev(e:(my h H).get? b=aa o):h.get? b=aa o/\H b=ab:=by
 have c:=W.of_hideAll _ e;refine⟨c,?_⟩
 cases q:H b with
 |none=>rfl
 |some x=>
  have d:b∈trk h H:=k9.mpr ⟨iq.mpr (bD c),by simp[q]⟩;have z:(my h H).get? b=ab:=W.hideAll_none _ d;rw[z]at e;nomatch e
abbrev Ew(g h:Heap)(L:Addr):PNS:=(ci h.objs.size).filterMap λa=>if a=L\/(g.get? a).isSome=ac then ab else (h.get? a).map λo=>(a,o)
abbrev bE(g h:Heap)(L d:Addr):PNS:=(Ew g h L).filter λp=>decide (p.1≠d)
structure Mod(K:bo)(mg:MGT)(base:Heap):Prop where
 kin:K.In base
 glob:base.Ns cL mg
 blt:∃mb,base.Ns builtinsNs mb/\∀x:Str,x ≠ "__name__" -> mb x=gU x
 nolimit:base.NoLimit
set_option genInjectivity false in
structure Cx where
 prog:di
 w:World
 K:bo
 mg:Str->Option Value
 base:Heap
 A:dH
 N:LSt
 s₀:aE
 H₀:Hp
 env:Env
 outer:List Env
 stack:List Env
 ex:LAd
 fn:Str->Bool
 calm:Bool
 pn:PNS
 xe:Value->aE->Prop
nonrec abbrev NDb(x:Str):=(x==("__debug__":Str))=ag
nonrec abbrev NCd(x:Str):=(x==("__classdict__":Str))=ag
nonrec abbrev StE(X:Cx)(e:Expr)(es:LEx):=bi (e::es) X.env=(ag,eval e X.env)::bi es X.env
nonrec abbrev BkE(X:Cx)(pos:Pos)(es:LEx):=(fM pos (bi es X.env)).any (·.1)=ag
nonrec abbrev LcF(X:Cx)(x:Str):=X.fn x=ac\/X.env.scope.names.lookup x=aa .local
abbrev frs(l:List Env):LAd:=l.filterMap (·.frame)
@[reducible]noncomputable def Cx.fs(X:Cx):LAd:=frs X.outer
abbrev Vis(sc:Scope)(x:Str):Prop:=sc.names.lookup x=aa .local\/sc.names.lookup x=aa .cell\/sc.names.lookup x=aa .free
abbrev Loc(sc:Scope)(x:Str):Prop:=sc.names.lookup x=aa .local\/sc.names.lookup x=aa .cell
abbrev Ey(env:Env)(h:Heap)(m:MGT)(x:Str)(u:Value):Prop:=
 (env.kindOf x=aa .local/\m x=aa u)\/((env.kindOf x=aa .cell\/env.kindOf x=aa .free)/\∃c,env.cells.lookup x=aa c/\h.IsCell c (aa u))
structure Cx.Ok(X:Cx):Prop where
 mod:Mod X.K X.mg X.base
 kind:X.env.scope.kind=.function
 glob:X.env.globals=cL
 blt:X.env.builtins=builtinsNs
 above:X.s₀.heap.objs.size<=X.env.locals
 inj:∀x y c,X.env.cells.lookup x=aa c->X.env.cells.lookup y=aa c->x=y
 has:∀x,(X.env.kindOf x=aa .cell\/X.env.kindOf x=aa .free)->∃c,X.env.cells.lookup x=aa c
 cab:∀x c,X.fn x=ac->X.env.cells.lookup x=aa c->X.s₀.heap.objs.size<=c
 hd:X.calm=ac->X.A.handled=ab
 frames:X.A.frames=aa X.stack
 stk:X.stack=X.outer\/(X.stack=X.env::X.outer/\X.env.frame=aa X.env.locals)
 exf:∀b∈X.ex,b≠X.env.locals/\∀x c,X.env.cells.lookup x=aa c->c≠b
 bs:∀b o,X.base.get? b=aa o->X.s₀.heap.get? b=aa o/\X.H₀ b=ab
 bsz:X.base.objs.size<=X.s₀.heap.objs.size
 noex:∀b o,X.base.get? b=aa o->b∉X.ex
 exfs:∀b∈X.ex,b∉X.fs
 funs:X.s₀.heap.FunFrames X.base X.outer
 frf:∀b∈X.fs,X.H₀ b=ab
structure Inv(X:Cx)(pins:PNS)(σ:List (Option V))(H:Hp)(s:aE):Prop where
 ok:X.Ok
 os:s.os=X.s₀.os
 bare:jx s.gens
 base:Un X.fs X.ex X.H₀ H X.s₀.heap s.heap
 loc:∃m,s.heap.Ns X.env.locals m/\∀(i:Nat) (x:Str) (v:V),X.N[i]?=aa x->σ[i]?=aa (aa v)->Vis X.env.scope x->∃u,aP v u/\Ey X.env s.heap m x u
 cell:∀x c,X.env.cells.lookup x=aa c->∃v,s.heap.IsCell c v
 free:H X.env.locals=ab
 freeC:∀x c,X.env.cells.lookup x=aa c->H c=ab
 pin:∀p∈X.pn++pins,s.heap.get? p.1=aa p.2/\H p.1=ab/\p.1≠X.env.locals/\p.1∉X.fs/\∀v,p.2.data≠.cell v
 hok:HOk X.prog X.w H s.heap
 len:σ.length=X.N.length
variable{X:Cx}
def Cx.Ok.nofr(ok:X.Ok)(e:X.base.get? b=aa o):b∉X.fs:=λc=>by
 have:=(ok.funs.mem c).1;rw[e]at this;nomatch this
variable{pins:PNS}{σ:List (Option V)}{s:aE}
def Inv.bs(I:Inv X pins σ H s):∀b o,X.base.get? b=aa o->s.heap.get? b=aa o/\H b=ab:=λb o e=>
 ⟨I.base.keep b o (I.ok.bs b o e).1 (I.ok.bs b o e).2 (I.ok.nofr e) (I.ok.noex b o e),I.base.free b o (I.ok.bs b o e).1 (I.ok.bs b o e).2 (I.ok.noex b o e)⟩
def Inv.bk(I:Inv X pins σ H s):∀b o,X.base.get? b=aa o->s.heap.get? b=aa o:=λb o e=>(I.bs b o e).1
def Inv.mod(I:Inv X pins σ H s):Mod X.K X.mg X.base:=I.ok.mod
def Inv.kIn(I:Inv X pins σ H s):X.K.In s.heap:=I.ok.mod.kin.keeps I.bk
def Inv.lt(I:Inv X pins σ H s):X.env.locals<s.heap.objs.size:=let ⟨_,hn,_⟩:=I.loc;hn.lt
def Inv.sz(I:Inv X pins σ H s):X.s₀.heap.objs.size<=s.heap.objs.size:=dC I.ok.above (la I.lt)
def Inv.nofs(I:Inv X pins σ H s)(h:s.heap.objs.size<=a):a∉X.fs:=λc=>by
 obtain⟨_,o,d,_⟩:=I.ok.funs.mem c;exact absurd (fE (bD d) (dC I.sz h)) (iV _)
def Inv.cne(I:Inv X pins σ H s):∀x c,X.env.cells.lookup x=aa c->c≠X.env.locals:=λx c e z=>by
 obtain⟨v,o,i,hd⟩:=I.cell x c e;obtain⟨m,⟨o',es,j,g,d,_⟩,_⟩:=I.loc;rw[z,g]at i;cases i;rw[d]at hd;nomatch hd
def Inv.funs(I:Inv X pins σ H s):s.heap.FunFrames X.base X.outer:=by
 have all:∀l,(∀b∈frs l,b∈X.fs)->X.s₀.heap.FunFrames X.base l->s.heap.FunFrames X.base l:=by
  intro l
  induction l with
  |nil=>intro _ _;trivial
  |cons env r t=>
   intro i m;obtain⟨j,⟨L,o,g,n,p,hd⟩,q⟩:=m;have c:=i L (by unfold frs;rw[filterMap_cons,g];exact bW);obtain⟨sl,e⟩:=I.base.slot L o p (I.ok.frf L c) c λz=>I.ok.exfs L z c;exact⟨j,⟨L,_,g,n,e,hd⟩,t (λb d=>i b (by unfold frs;rw[filterMap_cons,g];exact c8 _ d)) q⟩
 exact all X.outer (λ_ d=>d) I.ok.funs
def Inv.stack(I:Inv X pins σ H s):s.heap.FunFrames X.base X.stack:=by
 rcases I.ok.stk with e |⟨e,hf⟩
 .rw[e];exact I.funs
 .rw[e];obtain⟨m,c,_⟩:=I.loc;exact .cons (by rw[I.ok.kind];decide) hf c (Heap.get?_none_of_le (dC I.ok.bsz I.ok.above)) I.funs
def Inv.stkSub(I:Inv X pins σ H s):∀b∈frs X.stack,b∈X.env.locals::X.fs:=λb c=>by
 rcases I.ok.stk with e |⟨e,hf⟩
 .rw[e]at c;exact c8 _ c
 .rw[e]at c;unfold frs at c;rw[filterMap_cons,hf]at c;exact c
def Inv.stkFree(I:Inv X pins σ H s):∀b∈frs X.stack,H b=ab:=λb c=>by
 rcases bX.mp (I.stkSub b c)with e |c
 .rw[e];exact I.free
 .obtain⟨_,o,d,_⟩:=I.ok.funs.mem c;exact I.base.free b o d (I.ok.frf b c) λz=>I.ok.exfs b z c
variable{g':Array GenState}{t':Nat}{d':Drawn}{ch:LAd}
def Inv.step(I:Inv X pins σ H s)
 (t:∀b∈ch,(b∈X.ex\/X.s₀.heap.objs.size<=b)/\b≠X.env.locals/\(∀x c,X.env.cells.lookup x=aa c->c≠b)/\∀p∈X.pn++pins,p.1≠b)
 (keep:∀b o,b≠X.env.locals->b∉X.fs->b∉ch->s.heap.get? b=aa o->H b=ab->h'.get? b=aa o)
 (slot:∀b o,b≠X.env.locals->b∈X.fs->b∉ch->s.heap.get? b=aa o->H b=ab->∃sl,h'.get? b=aa {o with slots:=sl})(free:∀b o,b∉ch->s.heap.get? b=aa o->H b=ab->H' b=ab)
 (there:∀b o,b∉ch->s.heap.get? b=aa o->∃o',h'.get? b=aa o')
 (tups:∀b xs,H b=aa (.tup xs)->H' b=aa (.tup xs))(frzs:∀b o u,H b=aa (.frz o u)->H' b=aa (.frz o u))(tbls:∀b ps,H b=aa (.tbl ps)->∃more,H' b=aa (.tbl (ps++more)))
 (ns:∀m,s.heap.Ns X.env.locals m->h'.Ns X.env.locals m)(hok:HOk X.prog X.w H' h')(U:jx g'):
  Inv X pins σ H' {s with heap:=h',gens:=g',drawn:=d',toks:=t'}:=by
 have J:∀b o,X.s₀.heap.get? b=aa o->b≠X.env.locals:=λb o e=>cp (fE (bD e) I.ok.above)
 have B:∀b o,X.s₀.heap.get? b=aa o->b∉X.ex->b∉ch:=λb o e g C=>by
  rcases(t b C).1 with z |z
  .exact g z
  .exact absurd (fE (bD e) z) (iV _)
 have j:∀x c,X.env.cells.lookup x=aa c->∀v,s.heap.IsCell c v->h'.IsCell c v:=λx c e v q_=>by
  obtain⟨o,E,hd⟩:=q_;have y:=λz=>(t c z).2.2.1 x c e rfl
  by_cases M:c∈X.fs
  .obtain⟨sl,q⟩:=slot c o (I.cne x c e) M y E (I.freeC x c e);exact⟨_,q,hd⟩
  .exact⟨o,keep c o (I.cne x c e) M y E (I.freeC x c e),hd⟩
 refine⟨I.ok,I.os,U,⟨λb o e n C g=>(keep b o (J b o e) C (B b o e g) (I.base.keep b o e n C g) (I.base.free b o e n g)),λb o e n C g=>?_,λb o e n g=>?_,λb o e g=>?_,λb xs e=>tups b xs (I.base.tups b xs e),λb o xs e=>frzs b o xs (I.base.frzs b o xs e),λb ps e=>?_⟩,?_,λx c e=>?_,?_,λx c e=>?_,λp hp=>?_,hok,I.len⟩
 .obtain⟨sl,A⟩:=I.base.slot b o e n C g;obtain⟨L,G⟩:=slot b _ (J b o e) C (B b o e g) A (I.base.free b o e n g);exact⟨L,G⟩
 .obtain⟨o',A⟩:=I.base.there b o e g;exact free b o' (B b o e g) A (I.base.free b o e n g)
 .obtain⟨o',A⟩:=I.base.there b o e g;exact there b o' (B b o e g) A
 .obtain⟨m1,A⟩:=I.base.tbls b ps e;obtain⟨m2,G⟩:=tbls b _ A;exact⟨m1++m2,by rw[G,Array.append_assoc]⟩
 .obtain⟨m,hn,Y⟩:=I.loc;refine⟨m,ns m hn,λi x v A G T=>?_⟩;obtain⟨u,r,l⟩:=Y i x v A G T;refine⟨u,r,?_⟩
  rcases l with l |⟨k,c,e,z⟩
  .exact .inl l
  .exact .inr ⟨k,c,e,j x c e _ z⟩
 .obtain⟨v,z⟩:=I.cell x c e;exact⟨v,j x c e v z⟩
 .obtain⟨m,⟨o,_,_,E,_⟩,_⟩:=I.loc;exact free _ o (λz=>(t _ z).2.1 rfl) E I.free
 .obtain⟨v,o,E,hd⟩:=I.cell x c e;exact free c o (λz=>(t c z).2.2.1 x c e rfl) E (I.freeC x c e)
 .obtain⟨e,n,N,Q,d⟩:=I.pin p hp;have y:=λz=>(t p.1 z).2.2.2 p hp rfl;exact⟨keep p.1 p.2 N Q y e n,free p.1 p.2 y e n,N,Q,d⟩
def Inv.un(I:Inv X pins σ H s)(u:Un X.fs [] H H' s.heap h')(hok:HOk X.prog X.w H' h'):Inv X pins σ H' {s with heap:=h',toks:=t'}:=by
 obtain⟨m,⟨o,es,t,j,r⟩,_⟩:=id I.loc;obtain⟨sl,l⟩:=u.any j I.free (by simp)
 exact I.step (ch:=[]) (λ_ z=>nomatch z) (λb o _ i _ e n=>u.keep b o e n i (by simp)) (λb o _ i _ e n=>u.slot b o e n i (by simp)) (λb o _ e n=>u.free b o e n (by simp)) (λb o _ e=>u.there b o e (by simp)) u.tups u.frzs u.tbls (λv p=>by
  obtain⟨o',g,d,c,q⟩:=p;rw[j]at c;cases c;exact⟨_,g,d,l,q⟩) hok I.bare
def Inv.call(I:Inv X pins σ H s)(u:Un (frs X.stack) ch H H' s.heap h')(hok:HOk X.prog X.w H' h')(y:jx g')
 (g:∀b∈ch,(b∈X.ex\/X.s₀.heap.objs.size<=b)/\b≠X.env.locals/\(∀x c,X.env.cells.lookup x=aa c->c≠b)/\∀p∈X.pn++pins,p.1≠b):
  Inv X pins σ H' {s with heap:=h',gens:=g',drawn:=d',toks:=t'}:=by
 obtain⟨m,⟨o,es,C,t,r⟩,_⟩:=id I.loc;obtain⟨sl,q⟩:=u.any t I.free λz=>(g _ z).2.1 rfl
 exact I.step g (λb o q v d e n=>u.keep b o e n (λz=>(bX.mp (I.stkSub b z)).elim q v) d) (λb o _ _ d e n=>u.any e n d) (λb o d e n=>u.free b o e n d) (λb o d e=>u.there b o e d) u.tups u.frzs u.tbls (λE A=>by
  obtain⟨o',l,j,i,B⟩:=A;rw[t]at i;cases i;exact⟨_,l,j,q,B⟩) hok y
variable{it:Addr}
def Inv.turned(I:Inv X pins σ H s)(k:∀b o,b≠it->s.heap.get? b=aa o->h'.get? b=aa o)(A:H it=ab)(i:it≠X.env.locals)
 (h1:it∈X.ex\/X.s₀.heap.objs.size<=it)(h2:∀x c,X.env.cells.lookup x=aa c->c≠it)(l:∀p∈X.pn++pins,p.1≠it):Inv X pins σ H {s with heap:=h',toks:=t'}:=by
 have g:∀b u,H b=aa u->b≠it:=λb u e z=>by rw[z,A]at e;nomatch e
 refine I.step (ch:=[it]) (λb t=>?_) (λb o _ _ d e _=>k b o (λz=>d (by simp[z])) e) (λb o _ _ d e _=>⟨o.slots,k b o (λz=>d (by simp[z])) e⟩) (λ_ _ _ _ n=>n)
  (λb o d e=>⟨o,k b o (λz=>d (by simp[z])) e⟩) (λ_ _ e=>e) (λ_ _ _ e=>e) (λb ps e=>⟨#[],by rw[e];simp⟩) (λm y=>?_) (λb u e=>?_) I.bare
 .have e:b=it:=by simpa using t
  subst e;exact⟨h1,i,h2,l⟩
 .obtain⟨o,es,j,B,r⟩:=y;exact⟨o,es,j,k _ o (cF i) B,r⟩
 .refine(I.hok b u e).stay (λc v d q=>k c v ?_ q) (λ_ q=>q) λ_ _ q=>q
  rcases d with z |z
  .rw[z];exact g b u e
  .exact g c _ z
def Inv.tok(I:Inv X pins σ H s)(t:Nat):Inv X pins σ H {s with toks:=t}:=I.un Un.refl I.hok
def Inv.kept(I:Inv X pins σ H s)(k:∀b u,s.heap.get? b=aa u->h'.get? b=aa u):Inv X pins σ H {s with heap:=h',toks:=t'}:=I.un (Un.kept k) (I.hok.kept k)
def Inv.laid{o:HO}(I:Inv X pins σ H s)(k:∀b u,s.heap.get? b=aa u->h'.get? b=aa u)(hp:s.heap.objs.size<=a)(new:e7 X.prog X.w (upd H a o) h' a o):
  Inv X pins σ (upd H a o) {s with heap:=h',toks:=t'}:=I.un (Un.laid k hp (I.hok.fresh hp)) (I.hok.laid k hp new)
def Inv.write{o:HO}(I:Inv X pins σ H s)(g:Mut (H x))(d:e=x\/H e=aa (.own x))(k:∀b u,b≠e->s.heap.get? b=aa u->h'.get? b=aa u)(c:∃u,h'.get? e=aa u)
 (new:e7 X.prog X.w (upd H x o) h' x o):Inv X pins σ (upd H x o) {s with heap:=h',toks:=t'}:=I.un (Un.write g d k c) (I.hok.write g d k c new)
def Inv.pins_of{c:PNS}(I:Inv X pins σ H s)(h:∀p∈c,s.heap.get? p.1=aa p.2/\H p.1=ab/\p.1≠X.env.locals/\p.1∉X.fs/\∀v,p.2.data≠.cell v):Inv X c σ H s:=
 ⟨I.ok,I.os,I.bare,I.base,I.loc,I.cell,I.free,I.freeC,λp hp=>(dB.mp hp).elim (λz=>I.pin p (mem_append_left _ z)) (h p),I.hok,I.len⟩
variable{N:LSt}{i:Nat}{x:Str}
def zu(g:N.Nodup){j:Nat}(a:N[i]?=aa x)(b:N[j]?=aa x):i=j:=by
 obtain⟨h1,c⟩:=eQ.mp a;obtain⟨h2,d⟩:=eQ.mp b;exact(List.getElem_inj g).mp (c.trans d.symm)
variable{M:Model}{A:dH}{E:PRS}{v:V}{u:Value}{Q:Unit->aE->Prop}
def zw(I:Inv X pins σ H s)(hN:X.N.Nodup)(hi:X.N[i]?=aa x)(C:Loc X.env.scope x)(r:aP v u)
 (h:∀s',Inv X pins (σ.set i (aa v)) H s'->(∃a,gY a s.heap s'.heap/\(a=X.env.locals\/X.env.cells.lookup x=aa a))->Q () s')(hf:LcF X x:=by first |exact .inl rfl |exact .inr rfl |assumption):wpAny M A (storeName X.env x u) Q E s:=by
 obtain⟨m,hn,hl⟩:=id I.loc;have hcls:(X.env.scope.kind==.class || (X.env.scope.kind==.module && X.env.locals != X.env.globals))=ag:=by rw[I.ok.kind];rfl
 have L:i<σ.length:=by rw[I.len];exact(eQ.mp hi).1
 have cne:=I.cne
 have t:∀{a:Addr} {h':Heap},(∃o,s.heap.get? a=aa o/\H a=ab)->gY a s.heap h'->HOk X.prog X.w H h':=λ{a h'} ha g b ob e=>by
  obtain⟨_,_,G⟩:=ha;refine(I.hok b ob e).stay (λc w' B q=>(g.2 c ?_).trans q) (λ_ q=>q) λ_ _ q=>q;rintro rfl
  rcases B with rfl |B
  .rw[G]at e;nomatch e
  .rw[G]at B;nomatch B
 rcases C with hk |hk
 .refine wpAny_storeName_local hk hn (λh' hn' g=>?_) hcls;obtain⟨oL,_,_,hoL,_⟩:=id hn;refine h _ ⟨I.ok,I.os,I.bare,⟨λb o e n T C=>((g.2 b (cp (fE (bD e) I.ok.above))).trans (I.base.keep b o e n T C)),λb o e n T C=>?_,I.base.free,λb o e C=>?_,I.base.tups,I.base.frzs,I.base.tbls⟩,⟨_,hn',λj y v' l J e3=>?_⟩,λy c e=>?_,I.free,I.freeC,λp hp=>?_,t ⟨oL,hoL,I.free⟩ g,by simpa using I.len⟩ ⟨_,g,.inl rfl⟩
  .obtain⟨sl,l⟩:=I.base.slot b o e n T C;exact⟨sl,(g.2 b (cp (fE (bD e) I.ok.above))).trans l⟩
  .obtain⟨o',l⟩:=I.base.there b o e C;exact⟨o',(g.2 b (cp (fE (bD e) I.ok.above))).trans l⟩
  .by_cases Y:j=i
   .subst Y;rw[hi]at l;cases l;rw[kS L]at J;cases J;exact⟨u,r,.inl ⟨hk,by simp⟩⟩
   .rw[jt (cF Y)]at J;obtain⟨u',r',q⟩:=hl j y v' l J e3;refine⟨u',r',?_⟩
    rcases q with⟨k,e⟩ |⟨k,c,e,z⟩
    .refine .inl ⟨k,?_⟩;have:y≠x:=λe=>Y (zu hN l (e▸hi));simp[this,e]
    .exact .inr ⟨k,c,e,z.sameBut g (cne y c e)⟩
  .obtain⟨w',z⟩:=I.cell y c e;exact⟨w',z.sameBut g (cne y c e)⟩
  .obtain⟨e,n,ne,nf,d⟩:=I.pin p hp;exact⟨(g.2 p.1 ne).trans e,n,ne,nf,d⟩
 .have U:X.fn x=ac:=by
   rcases hf with z |z
   .exact z
   .rw[z]at hk;nomatch hk
  obtain⟨c,B⟩:=I.ok.has x (.inl hk);obtain⟨w',z⟩:=I.cell x c B;refine wpAny_storeName_cell I.ok.kind hk B z (λh' hc' g=>?_);obtain⟨oc,hoc,hocd⟩:=id z
  refine h {s with heap:=h'} ⟨I.ok,I.os,I.bare,⟨λb o e n T C=>((g.2 b (cp (fE (bD e) (I.ok.cab x c U B)))).trans (I.base.keep b o e n T C)),λb o e n T C=>?_,I.base.free,λb o e C=>?_,I.base.tups,I.base.frzs,I.base.tbls⟩,⟨m,hn.sameBut g (cF (cne x c B)),λj y v' l J e3=>?_⟩,λy c' e=>?_,I.free,I.freeC,λp hp=>?_,t ⟨oc,hoc,I.freeC x c B⟩ g,by simpa using I.len⟩ ⟨c,g,.inr B⟩
  .obtain⟨sl,l⟩:=I.base.slot b o e n T C;exact⟨sl,(g.2 b (cp (fE (bD e) (I.ok.cab x c U B)))).trans l⟩
  .obtain⟨o',l⟩:=I.base.there b o e C;exact⟨o',(g.2 b (cp (fE (bD e) (I.ok.cab x c U B)))).trans l⟩
  .by_cases Y:j=i
   .subst Y;rw[hi]at l;cases l;rw[kS L]at J;cases J;exact⟨u,r,.inr ⟨.inl hk,c,B,hc'⟩⟩
   .rw[jt (cF Y)]at J;obtain⟨u',r',q⟩:=hl j y v' l J e3;refine⟨u',r',?_⟩
    rcases q with q |⟨k,c',e,z'⟩
    .exact .inl q
    .refine .inr ⟨k,c',e,z'.sameBut g ?_⟩;rintro rfl;exact Y (zu hN l (I.ok.inj _ _ _ e B▸hi))
  .by_cases hcc:c'=c
   .subst hcc;exact⟨_,hc'⟩
   .obtain⟨w2,z2⟩:=I.cell y c' e;exact⟨w2,z2.sameBut g hcc⟩
  .obtain⟨e,n,ne,nf,d⟩:=I.pin p hp;refine⟨(g.2 p.1 ?_).trans e,n,ne,nf,d⟩;intro q;rw[q,hoc]at e;exact d w' (by rw[<- (cj e)];exact hocd)
def u3(I:Inv X pins σ H s)(d:X.N.Nodup)(hi:X.N[i]?=aa x)(j:Loc X.env.scope x)(r:aP v u)
 (h:∀s',Inv X pins (σ.set i (aa v)) H s'->Q () s')(g:LcF X x:=by first |exact .inl rfl |exact .inr rfl |assumption):wpAny M A (storeName X.env x u) Q E s:=
 zw I d hi j r (λs' c _=>h s' c) g
variable{s':aE}
def Inv.call'(I:Inv X pins σ H s)(j:s'.os=s.os)(u:Un (frs X.stack) ch H H' s.heap s'.heap)(hok:HOk X.prog X.w H' s'.heap)(g:jx s'.gens)
 (d:∀b∈ch,(b∈X.ex\/X.s₀.heap.objs.size<=b)/\b≠X.env.locals/\(∀x c,X.env.cells.lookup x=aa c->c≠b)/\∀p∈X.pn++pins,p.1≠b):Inv X pins σ H' s':=by
 obtain⟨h',g',d',t',o'⟩:=s';subst j;exact I.call u hok g d
@[reducible]noncomputable def XK:=Value->Option Addr->Hp->Prop
@[reducible]noncomputable def St:=List (Option V)
@[reducible]noncomputable def VK:=V->Hp->Prop
@[reducible]noncomputable def TE:=St->Hp->VK->Prop
@[reducible]noncomputable def TT:=St->Hp->(Bool->Hp->Prop)->Prop
@[reducible]noncomputable def TA:=St->Hp->(List V->Hp->Prop)->Prop
structure iX where
 nx:St->Hp->Prop
 rt:VK
 bk:St->Hp->Prop:=λ_ _=>False
 ct:St->Hp->Prop:=λ_ _=>False
@[reducible]noncomputable def TS:=iX->St->Hp->Prop
abbrev EP(X:Cx)(pins:PNS)(σ:St)(Q:VK)(u:Value)(s':aE):Prop:=∃v H',Inv X pins σ H' s'/\aP v u/\Q v H'
abbrev TP(X:Cx)(pins:PNS)(σ:St)(Q:Bool->Hp->Prop)(b:Bool)(s':aE):Prop:=∃H',Inv X pins σ H' s'/\Q b H'
abbrev AP(X:Cx)(pins:PNS)(σ:St)(Q:List V->Hp->Prop)(us:LVa)(s':aE):Prop:=∃vs H',Inv X pins σ H' s'/\aS vs us/\Q vs H'
abbrev SP(X:Cx)(pins:PNS)(D:iX)(f:Flow)(s':aE):Prop:=
 match f with
 |.next=>∃σ' H',Inv X pins σ' H' s'/\D.nx σ' H'
 |.brk=>∃σ' H',Inv X pins σ' H' s'/\D.bk σ' H'
 |.cont=>∃σ' H',Inv X pins σ' H' s'/\D.ct σ' H'
 |.ret u=>∃v σ' H',Inv X pins σ' H' s'/\aP v u/\D.rt v H'
abbrev PE(X:Cx)(e:Expr)(t:TE):Prop:=
 ∀(pins:PNS) (s:aE) (σ:St) (H:Hp) (Q:VK),Inv X pins σ H s->t σ H Q->wpAny (model X.prog X.w) X.A (eval e X.env) (EP X pins σ Q) X.xe s
abbrev PT(X:Cx)(e:Expr)(t:TT):Prop:=
 ∀(pins:PNS) (s:aE) (σ:St) (H:Hp) (Q:Bool->Hp->Prop),Inv X pins σ H s->t σ H Q->wpAny (model X.prog X.w) X.A (isTrue e X.env (eval e X.env)) (TP X pins σ Q) X.xe s
abbrev PW(X:Cx)(e:Expr)(t:TT):Prop:=
 ∀(c:Sem Value) (pins:PNS) (s:aE) (σ:St) (H:Hp) (Q:Bool->Hp->Prop),Inv X pins σ H s->t σ H Q->wpAny (model X.prog X.w) X.A (isTrue e X.env c) (TP X pins σ Q) X.xe s
variable{e:Expr}
def PW.pt{t:TT}(h:PW X e t):PT X e t:=h _
abbrev PA(X:Cx)(es:LEx)(t:TA):Prop:=
 ∀(pos:Pos) (pins:PNS) (s:aE) (σ:St) (H:Hp) (Q:List V->Hp->Prop),Inv X pins σ H s->t σ H Q->wpAny (model X.prog X.w) X.A (spliced (fM pos (bi es X.env))) (AP X pins σ Q) X.xe s
abbrev PS(X:Cx)(st:Stmt)(t:TS):Prop:=
 ∀(pins:PNS) (s:aE) (σ:St) (H:Hp) (D:iX),Inv X pins σ H s->t D σ H->wpAny (model X.prog X.w) X.A (exec st X.env) (SP X pins D) X.xe s
abbrev PSs(X:Cx)(st:List Stmt)(t:TS):Prop:=
 ∀(pins:PNS) (s:aE) (σ:St) (H:Hp) (D:iX),Inv X pins σ H s->t D σ H->wpAny (model X.prog X.w) X.A (execs st X.env) (SP X pins D) X.xe s
def thn{d:Type}{t:Sem d}{Q c:d->aE->Prop}(h:wpAny M A t Q E s)(g:∀a s,Q a s->c a s):wpAny M A t c E s:=fK h g λ_ _ x=>x
abbrev eG(i:Nat):TE:=λσ H Q=>∃v,σ[i]?=aa (aa v)/\Q v H
abbrev tC(v:V):TE:=λ_ H Q=>Q v H
def jz{pos:Pos}(q:X.N[i]?=aa x)(B:Vis X.env.scope x)(hd:NDb x:=by decide)(n:NCd x:=by decide):PE X (.Name x pos) (eG i):=by
 intro pins s σ H Q I h;obtain⟨v,e,h⟩:=h;obtain⟨m,z,t⟩:=I.loc;obtain⟨u,r,l⟩:=t i x v q e B;have g:EP X pins σ Q u s:=⟨v,H,I,r,h⟩
 rcases l with⟨j,y⟩ |⟨j,c,p,d⟩
 .exact wpAny_Name (wpAny_loadName_local I.ok.kind j z y g) hd
 .rcases j with j |j
  .exact wpAny_Name (wpAny_loadName_cell I.ok.kind j p d g) hd
  .exact wpAny_Name (wpAny_loadName_free I.ok.kind j p d g n) hd
def Ez{i j pos}:PE X (.Constant (.int i) j pos) (tC (.int i)):=λ_ _ _ H _ I h=>wpAny_Constant_int ⟨.int i,H,I.tok _,⟨_,rfl⟩,h⟩
def EA{b j pos}:PE X (.Constant (.bool b) j pos) (tC (.bl b)):=λ_ _ _ H _ I h=>Constant_bool ⟨.bl b,H,I,rfl,h⟩
def EB{j pos}:PE X (.Constant .none j pos) (tC .non):=λ_ _ _ H _ I h=>Constant_none ⟨.non,H,I,rfl,h⟩
def EC{x j pos}:PE X (.Constant (.str x) j pos) (tC (.str x)):=λ_ _ _ H _ I h=>Calls.Constant_str ⟨.str x,H,I.tok _,⟨_,rfl⟩,h⟩
abbrev Gl(X:Cx)(x:Str):Prop:=X.env.kindOf x=aa .globalImplicit
variable{σ:St}
def zx{pos:Pos}{Q:PRS}(I:Inv X pins σ H s)(c:Gl X x)(d:X.mg x=aa u)(h:Q u s)
 (hd:NDb x:=by decide):wpAny (model X.prog X.w) X.A (eval (.Name x pos) X.env) Q E s:=
 Calls.Name_function_global I.ok.kind c (Calls.loadGlobal_global (by rw[I.ok.glob];exact I.mod.glob.keeps I.bk) d h) hd
def iY{pos:Pos}{Q:PRS}(I:Inv X pins σ H s)(c:Gl X x)(d:X.mg x=ab)(j:gU x=aa u)(h:Q u s)
 (g:x ≠ "__name__":=by decide)(hd:NDb x:=by decide):wpAny (model X.prog X.w) X.A (eval (.Name x pos) X.env) Q E s:=by
 obtain⟨mb,h1,h2⟩:=I.mod.blt;exact Calls.Name_function_global I.ok.kind c (Calls.loadGlobal_builtin (by rw[I.ok.glob];exact I.mod.glob.keeps I.bk) d (by rw[I.ok.blt];exact h1.keeps I.bk) ((h2 x g).trans j) h) hd
def zy{pos:Pos}(c:Gl X x)(d:X.mg x=aa u)(r:aP v u)(hd:NDb x:=by decide):PE X (.Name x pos) (tC v):=
 λ_ _ _ H _ I h=>zx I c d ⟨v,H,I,r,h⟩ hd
abbrev ED(t u:TT):TT:=λσ H Q=>t σ H λc H1=>if c=ac then u σ H1 Q else Q ag H1
abbrev tOr(t u:TT):TT:=λσ H Q=>t σ H λc H1=>if c=ac then Q ac H1 else u σ H1 Q
abbrev EE(t:TT):TT:=λσ H Q=>t σ H λc H1=>Q (!c) H1
variable{a:Expr}{tA:TT}
def zA{pos:Pos}(d:PT X a tA):PW X (.BoolOp .And [a] pos) tA:=by
 intro g pins s σ H Q I h;refine isTrue_and (thn (d pins s σ H Q I h) λc s1 e=>?_)
 cases c with
 |true=>exact isTrue_and_nil e
 |false=>exact e
def EF{pos:Pos}(d:PT X a tA):PW X (.BoolOp .Or [a] pos) tA:=by
 intro g pins s σ H Q I h;refine isTrue_or (thn (d pins s σ H Q I h) λc s1 e=>?_)
 cases c with
 |false=>exact isTrue_or_nil e
 |true=>exact e
variable{b:Expr}{tB':TT}
def zB{pos:Pos}{bE:LEx}(j:PT X a tA)(l:PW X (.BoolOp .And (b::bE) pos) tB'):PW X (.BoolOp .And (a::b::bE) pos) (ED tA tB'):=by
 intro n pins s σ H Q I h;refine isTrue_and (thn (j pins s σ H _ I h) λc s1 m=>?_);obtain⟨H1,d,g⟩:=m
 cases c with
 |true=>exact l n pins s1 σ H1 Q d g
 |false=>exact⟨H1,d,g⟩
def EG{pos:Pos}{bE:LEx}(j:PT X a tA)(l:PW X (.BoolOp .Or (b::bE) pos) tB'):PW X (.BoolOp .Or (a::b::bE) pos) (tOr tA tB'):=by
 intro n pins s σ H Q I h;refine isTrue_or (thn (j pins s σ H _ I h) λc s1 m=>?_);obtain⟨H1,d,g⟩:=m
 cases c with
 |true=>exact⟨H1,d,g⟩
 |false=>exact l n pins s1 σ H1 Q d g
def EH{pos:Pos}(c:PT X a tA):PT X (.UnaryOp .Not a pos) (EE tA):=by
 intro pins s σ H Q I h;exact isTrue_not (c pins s σ H _ I h)
abbrev EI(d tb:TE):TE:=λσ H Q=>d σ H λx H1=>∃c,x=.bl c/\if c=ac then tb σ H1 Q else Q (.bl ag) H1
abbrev EJ(d tb:TE):TE:=λσ H Q=>d σ H λx H1=>∃c,x=.bl c/\if c=ac then Q (.bl ac) H1 else tb σ H1 Q
abbrev EK(d:TE):TE:=λσ H Q=>d σ H λx H1=>∃c,x=.bl c/\Q (.bl (!c)) H1
def EL{pos:Pos}{op}{t:TE}(h:PE X a t):PE X (.BoolOp op [a] pos) t:=λpins s σ H Q I c=>BoolOp_one (h pins s σ H Q I c)
variable{ta tb:TE}
def EM{pos:Pos}{bE:LEx}(j:PE X a ta)(l:PE X (.BoolOp .And (b::bE) pos) tb):PE X (.BoolOp .And (a::b::bE) pos) (EI ta tb):=by
 intro pins s σ H Q I h;refine BoolOp_and (thn (j pins s σ H _ I h) λv s1 m=>?_);obtain⟨x,H1,g,n,d⟩:=m;obtain⟨c,rfl,d⟩:=d;subst n;refine jT ?_
 cases c with
 |true=>exact l pins s1 σ H1 Q g d
 |false=>exact⟨.bl ag,H1,g,rfl,d⟩
def EN{pos:Pos}{bE:LEx}(j:PE X a ta)(l:PE X (.BoolOp .Or (b::bE) pos) tb):PE X (.BoolOp .Or (a::b::bE) pos) (EJ ta tb):=by
 intro pins s σ H Q I h;refine BoolOp_or (thn (j pins s σ H _ I h) λv s1 m=>?_);obtain⟨x,H1,g,n,d⟩:=m;obtain⟨c,rfl,d⟩:=d;subst n;refine jT ?_
 cases c with
 |false=>exact l pins s1 σ H1 Q g d
 |true=>exact⟨.bl ac,H1,g,rfl,d⟩
def EO{pos:Pos}(j:PE X a ta):PE X (.UnaryOp .Not a pos) (EK ta):=by
 intro pins s σ H Q I h;refine UnaryOp_ (thn (j pins s σ H _ I h) λv s1 l=>?_);obtain⟨x,H1,g,m,d⟩:=l;obtain⟨c,rfl,d⟩:=d;subst m;exact not_of (jT ⟨.bl (!c),H1,g,rfl,d⟩)
abbrev tIf(t:TT)(ta tb:TE):TE:=λσ H Q=>t σ H λc H1=>if c=ac then ta σ H1 Q else tb σ H1 Q
variable{c:Expr}
def zC{pos:Pos}(n:PT X c tA)(l:PE X a ta)(m:PE X b tb):PE X (.IfExp c a b pos) (tIf tA ta tb):=by
 intro pins s σ H Q I h;refine wpAny_IfExp (thn (n pins s σ H _ I h) λd s1 p=>?_);obtain⟨H1,g,j⟩:=p
 cases d with
 |true=>exact l pins s1 σ H1 Q g j
 |false=>exact m pins s1 σ H1 Q g j
abbrev SqL(K:bo)(H:Hp)(a:Addr)(xs:List V):Prop:=
 Rd H a (.lst xs) \/
  ∃(o:Obj) (its:Array Value) (n:Nat),K.lookup a=aa o/\o.cls=.type "list" /\ o.dict=ab/\o.data=.seq its n/\its.size<=aW/\aS xs its.toList
abbrev SqT(K:bo)(H:Hp)(a:Addr)(xs:List V):Prop:=
 Rd H a (.tup xs) \/
  ∃(o:Obj) (its:Array Value) (n:Nat),K.lookup a=aa o/\o.cls=.type "tuple" /\ o.data=.seq its n/\its.size<=aW/\aS xs its.toList
abbrev EQ:Value->Option V
 |.none=>aa .non
 |.bool b=>aa (.bl b)
 |.int i _=>aa (.int i)
 |.str x _=>aa (.str x)
 |.bytes b _=>aa (.byt b)
 |.float b _=>aa (.flt b)
 |.ref a=>aa (.ref a)
 |.type n=>aa (.ty n)
 | _=>ab
def aP.abs{x:V}(r:aP x u):EQ u=aa x:=by
 cases x with
 |non=>subst r;rfl
 |bl _=>subst r;rfl
 |int _=>obtain⟨t,rfl⟩:=r;rfl
 |str _=>obtain⟨t,rfl⟩:=r;rfl
 |byt _=>obtain⟨t,rfl⟩:=r;rfl
 |flt _=>obtain⟨t,rfl⟩:=r;rfl
 |ref _=>subst r;rfl
 |ty _=>subst r;rfl
variable{y:V}
def aP.inj{x:V}(r:aP x u)(q:aP y u):x=y:=cj (r.abs.symm.trans q.abs)
def aS.inj:∀{xs d:List V} {us:LVa},aS xs us->aS d us->xs=d
 | _,_,_,.nil,.nil=>rfl
 | _,_,_,.cons r t,.cons r' t'=>by rw[r.inj r',aS.inj t t']
variable{a:Addr}{K:bo}
def SqL.of(h:H a=aa (.lst xs)):SqL K H a xs:=.inl (.inl h)
def SqT.of(h:H a=aa (.tup xs)):SqT K H a xs:=.inl (.inl h)
def Inv.list(I:Inv X pins σ H s)(h:SqL X.K H a xs):∃its:LVa,aS xs its/\PlainL s.heap a its.toArray/\xs.length<=aW:=by
 rcases h with h |⟨o,its,n,hk,hc,hd,hs,hz,r⟩
 .obtain⟨z,its,n,r,e⟩:=h.ok I.hok;exact⟨its,r,⟨_,n,e,rfl,rfl,rfl⟩,z⟩
 .refine⟨its.toList,r,⟨o,n,I.kIn a o hk,hc,hd,by simpa using hs⟩,?_⟩;have e:=r.length;simp only[nF]at e;lia
def Inv.tuple(I:Inv X pins σ H s)(h:SqT X.K H a xs):∃its:LVa,aS xs its/\IsTup s.heap a its.toArray/\xs.length<=aW:=by
 rcases h with h |⟨o,its,n,hk,hc,hs,hz,r⟩
 .obtain⟨z,its,r,p⟩:=h.ok I.hok;exact⟨its,r,p,z⟩
 .refine⟨its.toList,r,⟨o,I.kIn a o hk,hc,n,by simpa using hs⟩,?_⟩;have e:=r.length;simp only[nF]at e;lia
variable{ys:List V}
def Inv.list_inj(I:Inv X pins σ H s)(h:SqL X.K H a xs)(h':SqL X.K H a ys):xs=ys:=by
 obtain⟨its,r,⟨o,n,e,_,_,d⟩,_⟩:=I.list h;obtain⟨g,l,⟨o',m,j,_,_,d'⟩,_⟩:=I.list h';rw[e]at j;cases j;rw[d]at d'
 injection d' with d1 _
 have:its=g:=by simpa using congrArg Array.toList d1
 subst this;exact r.inj l
def Inv.tuple_inj(I:Inv X pins σ H s)(h:SqT X.K H a xs)(h':SqT X.K H a ys):xs=ys:=by
 obtain⟨its,r,⟨o,e,_,n,d⟩,_⟩:=I.tuple h;obtain⟨g,l,⟨o',j,_,m,d'⟩,_⟩:=I.tuple h';rw[e]at j;cases j;rw[d]at d'
 injection d' with d1 _
 have:its=g:=by simpa using congrArg Array.toList d1
 subst this;exact r.inj l
@[reducible]noncomputable def Cx.wish(X:Cx)(E:PRS):Cx:={X with xe:=E}
@[reducible]noncomputable def Cx.nox(X:Cx):Cx:=X.wish λ_ _=>False
def Cx.Ok.wish(ok:X.Ok)(E:PRS):(X.wish E).Ok:=
 ⟨ok.mod,ok.kind,ok.glob,ok.blt,ok.above,ok.inj,ok.has,ok.cab,ok.hd,ok.frames,ok.stk,ok.exf,ok.bs,ok.bsz,ok.noex,ok.exfs,ok.funs,ok.frf⟩
def Cx.Ok.unwish(ok:(X.wish E).Ok):X.Ok:=
 ⟨ok.mod,ok.kind,ok.glob,ok.blt,ok.above,ok.inj,ok.has,ok.cab,ok.hd,ok.frames,ok.stk,ok.exf,ok.bs,ok.bsz,ok.noex,ok.exfs,ok.funs,ok.frf⟩
def Inv.wish(I:Inv X pins σ H s)(E:PRS):Inv (X.wish E) pins σ H s:=⟨I.ok.wish E,I.os,I.bare,I.base,I.loc,I.cell,I.free,I.freeC,I.pin,I.hok,I.len⟩
def Inv.unwish(I:Inv (X.wish E) pins σ H s):Inv X pins σ H s:=⟨I.ok.unwish,I.os,I.bare,I.base,I.loc,I.cell,I.free,I.freeC,I.pin,I.hok,I.len⟩
def SP.unwish{D:iX}{f:Flow}(h:SP (X.wish E) pins D f s'):SP X pins D f s':=by
 cases f with
 |next=>obtain⟨σ',H',I,q⟩:=h;exact⟨σ',H',I.unwish,q⟩
 |brk=>obtain⟨σ',H',I,q⟩:=h;exact⟨σ',H',I.unwish,q⟩
 |cont=>obtain⟨σ',H',I,q⟩:=h;exact⟨σ',H',I.unwish,q⟩
 |ret u=>obtain⟨v,σ',H',I,r,q⟩:=h;exact⟨v,σ',H',I.unwish,r,q⟩
variable{t:TS}
def PSs.nox{st:List Stmt}(h:PSs X.nox st t):PSs X st t:=λpins s σ H D I d=>
 fK (h pins s σ H D (I.wish _) d) (λ_ _ q=>q.unwish) λ_ _ z=>iS z
abbrev ER:TS:=λD σ H=>D.nx σ H
abbrev ES(t u:TS):TS:=λD σ H=>t {D with nx:=u D} σ H
def ET:PSs X [] ER:=λ_ _ σ H _ I h=>wpAny_execs_nil ⟨σ,H,I,h⟩
variable{st:Stmt}{u:TS}
def EU{bE:List Stmt}(h1:PS X st t)(h2:PSs X bE u):PSs X (st::bE) (ES t u):=by
 intro pins s σ H D I h
 refine wpAny_execs_cons (thn (h1 pins s σ H {D with nx:=u D} I h) λf s1 q=>?_)
 cases f with
 |next=>
  obtain⟨σ',H',d,q⟩:=q
  exact h2 pins s1 σ' H' D d q
 |ret v=>exact q
 |brk=>exact q
 |cont=>exact q
def EV(h1:PS X st t):PSs X [st] t:=by
 intro pins s σ H D I h;refine wpAny_execs_cons (thn (h1 pins s σ H D I h) λf s1 q=>?_)
 cases f with
 |next=>exact wpAny_execs_nil q
 |ret v=>exact q
 |brk=>exact q
 |cont=>exact q
def Inv.quiet(I:Inv X pins σ H s):interactive X.env=ag:=by simp[interactive,I.ok.kind]
abbrev mz(te:TE):TS:=λD σ H=>te σ H λ_ H1=>D.nx σ H1
variable{te:TE}
def dJ{pos:Pos}(g:PE X e te)(j:fF e ab pos.line X.env=pure ag:=by rfl):PS X (.Expr e pos) (mz te):=by
 intro pins s σ H D I h;exact wpAny_Expr_any (thn (g pins s σ H _ I h) λv s1 ⟨x,H1,d,m,l⟩=>⟨σ,H1,d,l⟩) I.quiet j
abbrev EW(te:TE):TS:=λD σ H=>te σ H D.rt
def nW{pos:Pos}(g:PE X e te):PS X (.Return (aa e) pos) (EW te):=by
 intro pins s σ H D I h;exact wpAny_Return_some (thn (g pins s σ H _ I h) λv s1 ⟨x,H1,d,l,j⟩=>⟨x,σ,H1,d,l,j⟩)
abbrev EX(c:TT)(t u:TS):TS:=λD σ H=>c σ H λb H1=>if b=ac then t D σ H1 else u D σ H1
def zD{pos:Pos}{a b:List Stmt}{l:TT}(p:PT X c l)(m:PSs X a t)(n:PSs X b u):PS X (.If c a b pos) (EX l t u):=by
 intro pins s σ H D I h;refine wpAny_If (thn (p pins s σ H _ I h) λd s1 q=>?_);obtain⟨H1,g,j⟩:=q
 cases d with
 |true=>exact m pins s1 σ H1 D g j
 |false=>exact n pins s1 σ H1 D g j
@[reducible]noncomputable def TG:=V->St->Hp->(St->Hp->Prop)->Prop
@[reducible]noncomputable def TGs:=List V->St->Hp->(St->Hp->Prop)->Prop
abbrev PG(X:Cx)(d:Expr)(t:TG):Prop:=
 ∀(pins:PNS) (s:aE) (σ:St) (H:Hp) (v:V) (u:Value) (Q:St->Hp->Prop),Inv X pins σ H s->aP v u->t v σ H Q ->
  wpAny (model X.prog X.w) X.A (gE d X.env u) (λ_ s'=>∃σ' H',Inv X pins σ' H' s'/\Q σ' H') X.xe s
abbrev PGs(X:Cx)(d:LEx)(t:TGs):Prop:=
 ∀(pins:PNS) (s:aE) (σ:St) (H:Hp) (vs:List V) (us:LVa) (Q:St->Hp->Prop),Inv X pins σ H s->aS vs us->t vs σ H Q ->
  wpAny (model X.prog X.w) X.A (assignInOrder ((eD d X.env).map (·.2)) us) (λ_ s'=>∃σ' H',Inv X pins σ' H' s'/\Q σ' H') X.xe s
@[reducible]noncomputable def u4:=V->V->V->Hp->(Hp->Prop)->Prop
abbrev zE(X:Cx)(t:u4):Prop:=
 ∀(pins:PNS) (s:aE) (σ:St) (H:Hp) (o i v:V) (ov d u:Value) (Q:Hp->Prop),Inv X pins σ H s->aP o ov->aP i d->aP v u->t o i v H Q ->
  wpAny (model X.prog X.w) X.A (setItem ov d u) (λ_ s'=>∃H',Inv X pins σ H' s'/\Q H') X.xe s
@[reducible]noncomputable def TIp:=V->V->Hp->VK->Prop
abbrev PIp(X:Cx)(d:Operator)(t:TIp):Prop:=
 ∀(pins:PNS) (s:aE) (σ:St) (H:Hp) (x y:V) (v u:Value) (Q:VK),Inv X pins σ H s->aP x v->aP y u->t x y H Q ->
  wpAny (model X.prog X.w) X.A (inplaceOp d v u) (EP X pins σ Q) X.xe s
abbrev jZ(i:Nat):TG:=λv σ H Q=>Q (σ.set i (aa v)) H
def zF{pos:Pos}(g:X.N.Nodup)(hi:X.N[i]?=aa x)(l:Loc X.env.scope x)(j:LcF X x:=by first |exact .inl rfl |exact .inr rfl |assumption):PG X (.Name x pos) (jZ i):=by
 intro pins s σ H v u Q I r h;exact wpAny_assign_Name (u3 I g hi l r (λs' d=>⟨_,H,d,h⟩) j)
abbrev EY:TGs:=λvs σ H Q=>vs=[]/\Q σ H
abbrev EZ(t:TG)(u:TGs):TGs:=λvs σ H Q=>∃v r,vs=v::r/\t v σ H λσ' H'=>u r σ' H' Q
def E1:PGs X [] EY:=by
 intro pins s σ H vs us Q I r h;obtain⟨e,h⟩:=h;exact assignInOrder_nil ⟨σ,H,I,h⟩
variable{es:LEx}
def E2{t:TG}{u:TGs}(h1:PG X e t)(h2:PGs X es u)
 (l:(eD (e::es) X.env).map (·.2)=gE e X.env::(eD es X.env).map (·.2):=by rfl):PGs X (e::es) (EZ t u):=by
 intro pins s σ H vs us Q I r h;obtain⟨v,vr,j,h⟩:=h;subst j
 cases r with
 |cons r n=>
  rw[l];exact assignInOrder_cons (thn (h1 pins s σ H _ _ _ I r h) λ_ s1 ⟨d,H1,g,m⟩=>(h2 pins s1 d H1 _ _ Q g n m))
abbrev E3(K:bo)(n:Nat)(t:TGs):TG:=λv σ H Q=>∃a xs,v=.ref a/\SqT K H a xs/\xs.length=n/\t xs σ H Q
def E4{pos:Pos}{k:Nat}{t:TGs}{n:Nat}(m:X.calm=ac)(h:PGs X es t)
 (q:(eD es X.env).length=n:=by rfl)(d:(eD es X.env).findIdx? (·.1)=ab:=by rfl):PG X (.Tuple es k pos) (E3 X.K n t):=by
 intro pins s σ H v u Q I r g;obtain⟨a,xs,l,z,p,g⟩:=g;subst l;subst r;obtain⟨its,j,B,hz⟩:=I.tuple z;refine assign_Tuple_tuple (I.ok.hd m) B (by simp[q,<- p,j.length]) d λh' C=>?_;exact h pins _ σ H xs _ Q (I.kept λb o e=>C b o (cp (bD e)) e) (by simpa using j) g
abbrev u5(to g:TE)(t:u4):TG:=λv σ H Q=>to σ H λo H1=>g σ H1 λi H2=>t o i v H2 λd=>Q σ d
def zG{pos:Pos}{o i:Expr}{to j:TE}{t:u4}(q:PE X o to)(hi:PE X i j)(z:zE X t)
 (T:∀ v,gE (.Subscript o i pos) X.env v=(do
   let ov <- gD [v] (eval o X.env)
   let d <- gD [v,ov] (eval i X.env)
   standAt pos
   gD [v,ov,d] (setItem ov d v)
   release [v,ov,d] []):=by intro _;rfl):PG X (.Subscript o i pos) (u5 to j t):=by
 intro pins s σ H v u Q I r h;refine ar (eC (thn (q pins s σ H _ I h) λov s1 g=>?_));obtain⟨x,H1,m,J,B⟩:=g;refine ar (eC (thn (hi pins s1 σ H1 _ m B) λd s2 g=>?_));obtain⟨y,H2,n,L,C⟩:=g;exact ar (qe (ar (eC (thn (z pins s2 σ H2 x y v ov d u _ n J L r C) λ_ U ⟨l,p,G⟩=>(wpAny_release ⟨σ,l,p,G⟩)))))
abbrev j0(te:TE)(g:TG):TS:=λD σ H=>te σ H λx H1=>g x σ H1 D.nx
variable{tg:Expr}{g:TG}
def qu{pos:Pos}(j:PE X e te)(l:PG X tg g)(m:nQ [tg] e pos.line X.env=pure ag:=by rfl)(n:nR [tg] e X.env=pure ab:=by rfl)
 (h1:(eD [tg] X.env).map (·.2)=[gE tg X.env]:=by rfl):PS X (.Assign [tg] e pos) (j0 te g):=by
 intro pins s σ H D I h;refine wpAny_Assign_stores (thn (j pins s σ H _ I h) λv s1 r=>?_) m n;obtain⟨x,H1,d,z,p⟩:=r;rw[h1];exact thn (l pins s1 σ H1 x v _ d z p) λ_ s2 q=>q
variable{b0:Pos}
def mC{pos:Pos}(l:X.N.Nodup)(hi:X.N[i]?=aa x)(q:Loc X.env.scope x)(m:PE X e te)(p:fF e (aa (.Name x b0)) pos.line X.env=pure ag:=by rfl)(n:LcF X x:=by first |exact .inl rfl |exact .inr rfl |assumption):
  PS X (.Assign [.Name x b0] e pos) (j0 te (jZ i)):=by
 intro pins s σ H D I h;exact wpAny_Assign_Name (thn (m pins s σ H _ I h) λv s1 ⟨y,H1,d,z,r⟩=>(u3 d l hi q z (λs2 j=>⟨_,H1,j,r⟩) n)) p
abbrev E5(i:Nat)(te:TE)(d:TIp):TS:=λD σ H=>∃x,σ[i]?=aa (aa x)/\te σ H λy H1=>d x y H1 λz H2=>D.nx (σ.set i (aa z)) H2
variable{op:Operator}
def zH{pos:Pos}{C:TIp}(U:X.N.Nodup)(hi:X.N[i]?=aa x)(q:Loc X.env.scope x)(he:PE X e te)(ho:PIp X op C)(hf:LcF X x:=by first |exact .inl rfl |exact .inr rfl |assumption):
  PS X (.AugAssign (.Name x b0) op e pos) (E5 i te C):=by
 intro pins s σ H D I h;obtain⟨v,T,h⟩:=h;obtain⟨m,hn,hl⟩:=I.loc
 have B:Vis X.env.scope x:=by rcases q with k |k;exact .inl k;exact .inr (.inl k)
 obtain⟨u,r,l⟩:=hl i x v hi T B;refine wpAny_AugAssign_Name ?_
 have go:wpAny (model X.prog X.w) X.A (eval e X.env) (λw n=>wpAny (model X.prog X.w) X.A (inplaceOp op u w) (λr p=>wpAny (model X.prog X.w) X.A (storeName X.env x r) (λ_=>SP X pins D .next) X.xe p) X.xe n) X.xe s:=by
  refine thn (he pins s σ H _ I h) λw s1 q_=>?_;obtain⟨y,H1,G,r1,q1⟩:=q_;exact thn (ho pins s1 σ H1 v y u w _ G r r1 q1) λz s2 ⟨zv,H2,J,r2,q2⟩=>(u3 J U hi q r2 (λs3 L=>⟨_,H2,L,q2⟩) hf)
 rcases l with⟨d,hm⟩ |⟨d,c,Y,j⟩
 .exact wpAny_loadName_local I.ok.kind d hn hm go
 .rcases d with d |d
  .exact wpAny_loadName_cell I.ok.kind d Y j go
  .rcases q with k |k
   .have:X.env.scope.names.lookup x=aa .free:=d;rw[k]at this;nomatch this
   .have:X.env.scope.names.lookup x=aa .free:=d;rw[k]at this;nomatch this
abbrev ipI(f:Int->Int->Int):TIp:=λx y H Q=>∃i j,x=.int i/\y=.int j/\Q (.int (f i j)) H
def E6:PIp X .Add (ipI λi j=>i+j):=by
 intro pins s σ H x y v u Q I m n h;obtain⟨i,j,d,l,q⟩:=h;subst d;subst l;obtain⟨t,rfl⟩:=m;obtain⟨t',rfl⟩:=n;exact iadd_int ⟨.int _,H,I.tok _,⟨_,rfl⟩,q⟩
structure It where
 go:Nat->Hp->Prop
 yld:Nat->Hp->V->Hp->Prop
 stop:Nat->Hp->Prop
abbrev gH(X:Cx)(pins:PNS)(H:Hp)(b:Addr):Prop:=
 H b=ab/\b≠X.env.locals/\b∉X.fs/\(b∈X.ex\/X.s₀.heap.objs.size<=b)/\(∀x c,X.env.cells.lookup x=aa c->c≠b)/\∀p∈X.pn++pins,p.1≠b
def Inv.fpOk{b:Addr}(I:Inv X pins σ H s)(d:s.heap.objs.size<=b)(j:H' b=ab):gH X pins H' b:=by
 refine⟨j,lb (fE I.lt d),I.nofs d,.inr (dC I.sz d),λx c e z=>?_,λp hp z=>(absurd (fE (bD (I.pin p hp).1) (by rw[z];exact d)) (iV _))⟩;obtain⟨v,q⟩:=I.cell x c e;exact absurd (fE q.lt (by rw[z];exact d)) (iV _)
structure jA(P:di)(w:World)(K:bo)(tg:Expr)(J:It)(fp:LAd)(it:Addr)(tn:Nat->Heap->Prop):Prop where
 mem:it∈fp
 obj:∀i h,tn i h->∀b∈fp,∃o,h.get? b=aa o/\∀v,o.data≠.cell v
 keep:∀i h h',tn i h->(∀b∈fp,∀o,h.get? b=aa o->h'.get? b=aa o)->tn i h'
 item:∀(X:Cx),X.prog=P->X.w=w->X.K=K->X.calm=ac->∀(i:Nat) (pins:PNS) (s:aE) (σ:St) (H:Hp) (E:PRS),Inv X pins σ H s->(∀b∈fp,gH X pins H b)->tn i s.heap->J.go i H ->
  wpAny (model P w) X.A (iz (.ref it)) (λr s1=>∃ u,r=aa u /\
   wpAny (model P w) X.A (letOwnedTupleGo tg (.ref it) u) (λ_ s2=>∃x H',Inv X pins σ H' s2/\aP x u/\J.yld i H x H'/\tn (i+1) s2.heap/\∀b∈fp,H' b=ab) E s1) E s
 done:∀(X:Cx),X.prog=P->X.w=w->X.K=K->X.calm=ac->∀(i:Nat) (pins:PNS) (s:aE) (σ:St) (H:Hp) (E:PRS),Inv X pins σ H s->(∀b∈fp,gH X pins H b)->tn i s.heap->J.stop i H ->
  wpAny (model P w) X.A (iz (.ref it)) (λr s1=>r=ab/\Inv X pins σ H s1) E s
 self:∀(A:dH) (i:Nat) (s:aE) (Q:PRS) (E:PRS),tn i s.heap->Q (.ref it) s->wpAny (model P w) A (pyIter (.ref it)) Q E s
@[reducible]noncomputable def TI:=St->Hp->(It->Hp->Prop)->Prop
abbrev PIE(X:Cx)(pins:PNS)(σ:St)(tg:Expr)(R:It->Hp->Prop)(d:Value)(s2:aE):Prop:=
 ∃(it:Addr) (fp:LAd) (tn:Nat->Heap->Prop) (J:It) (H':Hp),d=.ref it/\Inv X pins σ H' s2/\jA X.prog X.w X.K tg J fp it tn/\tn 0 s2.heap/\(∀b∈fp,gH X pins H' b)/\R J H'
abbrev PI(X:Cx)(tg iter:Expr)(d:TI):Prop:=
 ∀(pins:PNS) (s:aE) (σ:St) (H:Hp) (R:It->Hp->Prop),Inv X pins σ H s->d σ H R ->
  wpAny (model X.prog X.w) X.A (eval iter X.env) (λv s1=>wpAny (model X.prog X.w) X.A (pyIter v) (PIE X pins σ tg R) X.xe s1) X.xe s
def nX{u:Value}{n:String}{vs:Array Value}(m:s.heap.get? it = aa o)(j:o.cls = .type n)(hd:o.data = .fields vs)
   (l:["enumerate", "zip", "dict_itemiterator", "dict_reverseitemiterator", "odict_iterator", "itertools.zip_longest", "itertools.pairwise"].contains n = ag)(d:Q () s):wpAny M A (letOwnedTupleGo tg (.ref it) u) Q E s:= by
  cases tg <;> first
    |exact aY d
    | (cases u <;> first
        |exact aY d
        | (refine ar (wpAny_load m ?_)
           rw[j, hd];show wpAny M A (if _ = ac then _ else _) Q E s;rw[if_neg (by intro h;rw[l, Bool.false_and]at h;nomatch h)];exact aY d))
abbrev Itl(K:bo)(a:Addr):It:=
 ⟨λi H=>∃xs x,SqL K H a xs/\xs[i]?=aa x,λi H x H'=>H'=H/\∀xs,SqL K H a xs->xs[i]?=aa x,λi H=>∃xs,SqL K H a xs/\xs.length<=i⟩
abbrev Itt(K:bo)(a:Addr):It:=
 ⟨λi H=>∃xs x,SqT K H a xs/\xs[i]?=aa x,λi H x H'=>H'=H/\∀xs,SqT K H a xs->xs[i]?=aa x,λi H=>∃xs,SqT K H a xs/\xs.length<=i⟩
abbrev Itr(lo:Int)(n:Nat):It:=⟨λi _=>i<n,λi H x H'=>H'=H/\x=.int (lo+i),λi _=>n<=i⟩
def E7(a it:Addr):jA P w K tg (Itl K a) [it] it (λi h=>h.IsListIter it a i) where
 mem:=by simp
 obj:=λi h st b hb=>by
  have e:b=it:=by simpa using hb
  subst e;obtain⟨o,e,c,d⟩:=st;exact⟨o,e,λv z=>by rw[d]at z;nomatch z⟩
 keep:=λi h h' st k=>st.at λo e=>k it (by simp) o e
 item:=by
  intro X hP hw hK hc i pins s σ H E I hf st hg;subst hP hw hK;obtain⟨xs,x,hq,hx⟩:=hg;obtain⟨its,rv,p,hz⟩:=I.list hq;obtain⟨u,hu,ru⟩:=rv.get hx;obtain⟨f0,f1,f2,f3,f4,f5⟩:=hf it (by simp);refine uK st p.isList (by simpa using hu) λh' fy sb=>?_;obtain⟨o,e,c,d⟩:=id fy;exact⟨u,rfl,nX e c d (by decide) ⟨x,H,(I.turned (λb o hb e=>(sb.2 b hb).trans e) f0 f1 f3 f4 f5),ru,⟨rfl,λys hy=>by rw[I.list_inj hy hq];exact hx⟩,fy,λb hb=>(hf b hb).1⟩⟩
 done:=by
  intro X hP hw hK hc i pins s σ H E I hf st hg;subst hP hw hK;obtain⟨xs,hq,hx⟩:=hg;obtain⟨its,rv,p,hz⟩:=I.list hq;obtain⟨f0,f1,f2,f3,f4,f5⟩:=hf it (by simp);have hl:=rv.length;exact uL (I.ok.hd hc) st p.isList (by simp;lia) λh' eb=>⟨rfl,I.turned (λb o hb e=>eb b o hb e) f0 f1 f3 f4 f5⟩
 self:=λ_ _ _ _ _ st h=>wpAny_pyIter_listiter st h
def E8(a it:Addr):jA P w K tg (Itt K a) [it] it (λi h=>h.IsTupleIter it a i) where
 mem:=by simp
 obj:=λi h st b hb=>by
  have e:b=it:=by simpa using hb
  subst e;obtain⟨o,e,c,d⟩:=st;exact⟨o,e,λv z=>by rw[d]at z;nomatch z⟩
 keep:=λi h h' st k=>st.at λo e=>k it (by simp) o e
 item:=by
  intro X hP hw hK hc i pins s σ H E I hf st hg;subst hP hw hK;obtain⟨xs,x,hq,hx⟩:=hg;obtain⟨its,rv,p,hz⟩:=I.tuple hq;obtain⟨u,hu,ru⟩:=rv.get hx;obtain⟨f0,f1,f2,f3,f4,f5⟩:=hf it (by simp);refine wpAny_pyNext_tuple_item st (p) (by simpa using hu) λh' fy sb=>?_;obtain⟨o,e,c,d⟩:=id fy;exact⟨u,rfl,nX e c d (by decide) ⟨x,H,(I.turned (λb o hb e=>(sb.2 b hb).trans e) f0 f1 f3 f4 f5),ru,⟨rfl,λys hy=>by rw[I.tuple_inj hy hq];exact hx⟩,fy,λb hb=>(hf b hb).1⟩⟩
 done:=by
  intro X hP hw hK hc i pins s σ H E I hf st hg;subst hP hw hK;obtain⟨xs,hq,hx⟩:=hg;obtain⟨its,rv,p,hz⟩:=I.tuple hq;obtain⟨f0,f1,f2,f3,f4,f5⟩:=hf it (by simp);have hl:=rv.length;exact wpAny_pyNext_tuple_end (I.ok.hd hc) st (p) (by simp;lia) λh' eb=>⟨rfl,I.turned (λb o hb e=>eb b o hb e) f0 f1 f3 f4 f5⟩
 self:=λ_ _ _ _ _ st h=>wpAny_pyIter_tupleiter st h
def E9(it:Addr)(lo:Int)(n:Nat):jA P w K tg (Itr lo n) [it] it (λi h=>IsRangeIter h it (lo+(i:Nat)*1) ((n:Int)-(i:Nat)) 1) where
 mem:=by simp
 obj:=λi h st b hb=>by
  have e:b=it:=by simpa using hb
  subst e
  exact⟨_,st,λv z=>by
   nomatch z⟩
 keep:=λi h h' st k=>k it (by simp) _ st
 item:=by
  intro X hP hw hK hc i pins s σ H E I hf st hg;subst hP hw hK;obtain⟨f0,f1,f2,f3,f4,f5⟩:=hf it (by simp);refine(Walks.range (I.ok.hd hc) it lo 1 n).item i s _ _ hg st λv h' tk hv fy kk=>?_;obtain⟨t,rfl⟩:=hv
  have I1:Inv X pins σ H {s with heap:=h',toks:=tk}:=I.turned (λb o hb e=>kk b o (by simpa using hb) e) f0 f1 f3 f4 f5
  refine⟨_,rfl,nX fy rfl rfl (by decide) ⟨.int _,H,I1,⟨t,?_⟩,⟨rfl,rfl⟩,fy,λb hb=>(hf b hb).1⟩⟩;rw[Int.mul_one]
 done:=by
  intro X hP hw hK hc i pins s σ H E I hf st hg;obtain⟨f0,f1,f2,f3,f4,f5⟩:=hf it (by simp);exact wpAny_pyNext_range_end (I.ok.hd hc) st (by have:n<=i:=hg;lia) λh' eb=>⟨rfl,I.turned (λb o hb e=>eb b o hb e) f0 f1 f3 f4 f5⟩
 self:=λ_ _ _ _ _ st h=>wpAny_pyIter_rangeiter st h
abbrev Fa(K:bo)(d:TE):TI:=λσ H R=>d σ H λx H1=>∃a,x=.ref a/\(∃xs,SqL K H1 a xs)/\R (Itl K a) H1
abbrev Fb(K:bo)(d:TE):TI:=λσ H R=>d σ H λx H1=>∃a,x=.ref a/\(∃xs,SqT K H1 a xs)/\R (Itt K a) H1
variable{l:Expr}{tl:TE}
def u6(m:PE X l tl):PI X tg l (Fa X.K tl):=by
 intro pins s σ H R I h;refine thn (m pins s σ H _ I h) λv s1 z=>?_;obtain⟨x,H1,d,B,r⟩:=z;obtain⟨a,e,⟨xs,n⟩,q⟩:=r;subst e;subst B;obtain⟨its,C,p,hz⟩:=d.list n;refine mm p.isList ?_;refine⟨s1.heap.objs.size,_,_,_,H1,rfl,d.kept λb o e=>bQ _ e,E7 a _,⟨_,dE _ rfl,rfl,rfl⟩,λb j=>?_,q⟩;have e:b=s1.heap.objs.size:=by simpa using j
 subst e;exact d.fpOk (bf _) (d.hok.fresh (bf _))
def Fc(m:PE X l tl):PI X tg l (Fb X.K tl):=by
 intro pins s σ H R I h;refine thn (m pins s σ H _ I h) λv s1 z=>?_;obtain⟨x,H1,d,B,r⟩:=z;obtain⟨a,e,⟨xs,n⟩,q⟩:=r;subst e;subst B;obtain⟨its,C,p,hz⟩:=d.tuple n;refine wpAny_pyIter_tuple (p) ?_;refine⟨s1.heap.objs.size,_,_,_,H1,rfl,d.kept λb o e=>bQ _ e,E8 a _,⟨_,dE _ rfl,rfl,rfl⟩,λb j=>?_,q⟩;have e:b=s1.heap.objs.size:=by simpa using j
 subst e;exact d.fpOk (bf _) (d.hok.fresh (bf _))
def Fd{R:It->Hp->Prop}{lo hi:Int}{t u v:Tok}{j:Nat}(I:Inv X pins σ H s)(h1:-(2 ^ 62)<=lo)(h2:lo<2 ^ 62)(p:-(2 ^ 62)<=hi)(r:hi<2 ^ 62)
 (q:R (Itr lo (hi-lo).toNat) H):wpAny (model X.prog X.w) X.A (pyIter (.ref s.heap.objs.size)) (PIE X pins σ tg R) E {s with heap:=s.heap.push {cls:=.type "range",data:=.fields #[.int lo t,.int hi u,.int 1 v]},toks:=j}:=by
 refine wpAny_pyIter_range (IsRange.new ..) (small_one h1 h2 p r) ?_
 have d:Inv X pins σ H {s with heap:=s.heap.push {cls:=.type "range",data:=.fields #[.int lo t,.int hi u,.int 1 v]},toks:=j}:=I.kept λb o e=>bQ _ e
 refine⟨(s.heap.push {cls:=.type "range",data:=.fields #[.int lo t,.int hi u,.int 1 v]}).objs.size,_,_,_,H,rfl,
  d.kept λb o e=>bQ _ e,E9 _ lo (hi-lo).toNat,?_,λb z=>?_,q⟩
 .have m:lo+((0:Nat):Int)*1=lo:=by simp
  have n:(((hi-lo).toNat:Nat):Int)-((0:Nat):Int)=cZ.Range.rangeSize lo hi 1:=by rw[rangeSize_one];split <;> lia
  rw[m,n];exact dE _ rfl
 .have e:b=(s.heap.push {cls:=.type "range",data:=.fields #[.int lo t,.int hi u,.int 1 v]}).objs.size:=by simpa using z
  subst e;exact d.fpOk (bf _) (d.hok.fresh (bf _))
abbrev Fe(ta:TA):TI:=λσ H R=>ta σ H λvs H1=>∃j:Int,vs=[.int j]/\-(2 ^ 62)<=j/\j<2 ^ 62/\R (Itr 0 j.toNat) H1
variable{a:Expr}
def zI{ta:TA}{p pos:Pos}(z:Gl X "range")(B:X.mg "range"=ab)(n:PA X [a] ta)(C:bi [a] X.env=[(ag,eval a X.env)]:=by rfl):PI X tg (.Call (.Name "range" p) [a] [] pos) (Fe ta):=by
 intro pins s σ H R I h;refine Call_ (iY I z B boot_range (jS (thn (n pos pins s σ H _ I h) λus s1 ⟨vs,H1,m,J,d⟩=>?_) C rfl));obtain⟨j,e,d,G,q⟩:=d;subst e
 cases J with
 |cons r L=>
  cases L;obtain⟨t,rfl⟩:=r;exact call_range_1 (Fd m (by lia) (by lia) d G (by simpa using q))
abbrev Ff(n:TI)(g:TG)(tb:TS):TS:=λD σ H=>n σ H λJ H1=>∃W:Nat->Nat->St->Hp->Prop,(∃m,W 0 m σ H1)/\∀i m σ H,W i m σ H ->
 (J.stop i H/\D.nx σ H)\/(J.go i H/\∃N:St->Hp->Prop,(∀σ' H',N σ' H'->∃j,j<m/\W (i+1) j σ' H')/\∀x H',J.yld i H x H'->g x σ H' λd H2=>tb {D with nx:=N,ct:=N,bk:=D.nx} d H2)
abbrev qv(fp:LAd)(h:Heap):PNS:=fp.filterMap λb=>(h.get? b).map λo=>(b,o)
variable{fp:LAd}
def qw{b:Addr}(d:b∈fp)(e:h.get? b=aa o):(b,o)∈qv fp h:=mem_filterMap.mpr ⟨b,d,by rw[e];rfl⟩
def Fg{p:Addr×Obj}(hp:p∈qv fp h):p.1∈fp/\h.get? p.1=aa p.2:=by
 obtain⟨b,j,e⟩:=mem_filterMap.mp hp
 cases q:h.get? b with
 |none=>rw[q]at e;nomatch e
 |some o=>
  rw[q]at e;have d:=cj e;subst d;exact⟨j,q⟩
def Inv.pinned(I:Inv X pins σ H s)(B:∀b∈fp,gH X pins H b)(C:∀b∈fp,∃o,s.heap.get? b=aa o/\∀v,o.data≠.cell v):Inv X (pins++qv fp s.heap) σ H s:=
 I.pins_of λp hp=>(dB.mp hp).elim (λz=>I.pin p (il _ z)) λz=>by
  obtain⟨m,e⟩:=Fg z;obtain⟨n,q,r,_⟩:=B p.1 m;obtain⟨o,j,d⟩:=C p.1 m;rw[e]at j;cases j;exact⟨e,n,q,r,d⟩
def Inv.unpinned{pl:PNS}(I:Inv X (pins++pl) σ H s):Inv X pins σ H s:=I.pins_of λp hp=>I.pin p (il _ (mem_append_left _ hp))
variable{iter:Expr}{body:List Stmt}{wi:TI}
def zJ{tb:TS}{pos:Pos}(hp:PassesOwn (model X.prog X.w) X.A X.env X.xe)(hc:X.calm=ac)(hi:PI X tg iter wi)(hg:PG X tg g)(z:PSs X body tb)
 (hs:∀x,iy iter X.env x=pure x:=by intro _;rfl):PS X (.For tg iter body [] pos) (Ff wi g tb):=by
 intro pins s σ H D I h;refine wpAny_For (thn (hi pins s σ H _ I h) λv s1 h1=>thn h1 λitv s2 h2=>?_) hs;obtain⟨it,fp,tn,J,H2,e,I2,T,st2,f2,W,⟨m0,w0⟩,turn⟩:=h2;subst e;have B:∀{H':Hp},(∀b∈fp,H' b=ab)->∀b∈fp,gH X pins H' b:=λhn b z=>⟨hn b z,(f2 b z).2⟩;refine codeAny_forLoop_any (λn s'=>∃i σ' H',Inv X pins σ' H' s'/\tn i s'.heap/\(∀b∈fp,H' b=ab)/\W i n σ' H') ?_ m0 ⟨0,σ,H2,I2,st2,λb z=>(f2 b z).1,w0⟩;rintro n s3 ⟨i,C,H3,I3,h8,U,w3⟩
 rcases turn i n C H3 w3 with⟨stop,qn⟩ |⟨go,N,hN,step⟩
 .refine nO hp (thn (T.done X rfl rfl rfl hc i pins s3 C H3 X.xe I3 (B U) h8 stop) λr s4 ⟨hr,I4⟩=>?_);subst hr;exact wpAny_execs_nil ⟨C,H3,I4,qn⟩
 .refine nO hp (thn (T.item X rfl rfl rfl hc i pins s3 C H3 X.xe I3 (B U) h8 go) λr s4 q_=>?_);obtain⟨u,hr,h4⟩:=q_;subst hr;refine nO hp (thn h4 λ_ s5 q_=>?_);obtain⟨x,H5,I5,r5,y5,L,fr5⟩:=q_;refine nO hp (thn (hg _ s5 C H5 x u _ (I5.pinned (B fr5) (T.obj _ _ L)) r5 (step x H5 y5)) λ_ s6 q_=>?_);obtain⟨σ6,H6,I6,q6⟩:=q_;refine nO hp (thn (z _ s6 σ6 H6 _ I6 q6) λf s7 G=>?_)
  have again:∀{j:St} {p:Hp},Inv X _ j p s7->N j p->∃m,m<n/\∃i σ' H',Inv X pins σ' H' s7/\tn i s7.heap/\(∀b∈fp,H' b=ab)/\W i m σ' H':=λ{j p} q Y=>by
   obtain⟨m',hm,w7⟩:=hN j p Y;refine⟨m',hm,i+1,j,p,q.unpinned,T.keep _ _ _ L λb z o e=>(q.pin _ (il _ (il _ (qw z e)))).1,λb z=>?_,w7⟩;obtain⟨o,e,d⟩:=T.obj _ _ L b z;exact(q.pin _ (il _ (il _ (qw z e)))).2.1
  cases f with
  |next=>obtain⟨j,p,q,Y⟩:=G;exact again q Y
  |cont=>obtain⟨j,p,q,Y⟩:=G;exact again q Y
  |brk=>obtain⟨j,p,q,G⟩:=G;exact⟨j,p,q.unpinned,G⟩
  |ret v=>obtain⟨x7,j,p,q,r7,G⟩:=G;exact⟨x7,j,p,q.unpinned,r7,G⟩
@[reducible]noncomputable def R2:=V->V->Hp->VK->Prop
abbrev OpR(X:Cx)(f:Value->Value->Sem Value)(r:R2):Prop:=
 ∀(pins:PNS) (s:aE) (σ:St) (H:Hp) (x y:V) (v u:Value) (Q:VK),Inv X pins σ H s->aP x v->aP y u->r x y H Q ->
  wpAny (model X.prog X.w) X.A (f v u) (EP X pins σ Q) X.xe s
abbrev UnR(X:Cx)(f:Value->Sem Value)(r:V->Hp->VK->Prop):Prop:=
 ∀(pins:PNS) (s:aE) (σ:St) (H:Hp) (x:V) (v:Value) (Q:VK),Inv X pins σ H s->aP x v->r x H Q ->
  wpAny (model X.prog X.w) X.A (f v) (EP X pins σ Q) X.xe s
abbrev fH(X:Cx)(f:Value)(r:List V->Hp->VK->Prop):Prop:=
 ∀(pins:PNS) (s:aE) (σ:St) (H:Hp) (xs:List V) (us:LVa) (Q:VK),Inv X pins σ H s->aS xs us->r xs H Q ->
  wpAny (model X.prog X.w) X.A (call f us) (EP X pins σ Q) X.xe s
abbrev Fh(X:Cx)(r:V->Hp->(Bool->Hp->Prop)->Prop):Prop:=
 ∀(pins:PNS) (s:aE) (σ:St) (H:Hp) (x:V) (v:Value) (Q:Bool->Hp->Prop),Inv X pins σ H s->aP x v->r x H Q ->
  wpAny (model X.prog X.w) X.A (truthy v) (TP X pins σ Q) X.xe s
abbrev tOp(r:R2)(ta tb:TE):TE:=λσ H Q=>ta σ H λx H1=>tb σ H1 λy H2=>r x y H2 Q
abbrev tUn(r:V->Hp->VK->Prop)(ta:TE):TE:=λσ H Q=>ta σ H λx H1=>r x H1 Q
abbrev rI(C:Int->Int->Prop)(g:Int->Int->V):R2:=λx y H Q=>∃i j,x=.int i/\y=.int j/\C i j/\Q (g i j) H
abbrev rI0(g:Int->Int->V):R2:=λx y H Q=>∃i j,x=.int i/\y=.int j/\Q (g i j) H
abbrev rU(g:Int->V):V->Hp->VK->Prop:=λx H Q=>∃i,x=.int i/\Q (g i) H
def qx(p:PE X a ta)(q:PE X b tb){R:V->V->Hp->Prop}(I:Inv X pins σ H s)
 (h:ta σ H λx H1=>tb σ H1 λy H2=>R x y H2){Q:PRS}{f:Value->Value->Sem Value}
 (r:∀v u s2 x y H2,Inv X pins σ H2 s2->aP x v->aP y u->R x y H2->wpAny (model X.prog X.w) X.A (f v u) Q X.xe s2):
  wpAny (model X.prog X.w) X.A (eval a X.env) (λv d=>wpAny (model X.prog X.w) X.A (eval b X.env) (λu j=>wpAny (model X.prog X.w) X.A (f v u) Q X.xe j) X.xe d) X.xe s:=by
 refine thn (p pins s σ H _ I h) λv s1 C=>?_;obtain⟨x,H1,m,G,z⟩:=C;exact thn (q pins s1 σ H1 _ m z) λu s2 ⟨y,H2,n,J,B⟩=>(r v u s2 x y H2 n G J B)
def u7{pos:Pos}{r:R2}(n:OpR X (fo op) r)(j:PE X a ta)(m:PE X b tb):PE X (.BinOp a op b pos) (tOp r ta tb):=by
 intro pins s σ H Q I h;exact wpAny_BinOp (qx j m I h λv u s2 x y H2 d p z q=>n pins s2 σ H2 x y v u Q d p z q)
def Fi{pos:Pos}{op:UnaryOp}{r:V->Hp->VK->Prop}(m:UnR X (unaryOp op) r)(j:PE X a ta):PE X (.UnaryOp op a pos) (tUn r ta):=by
 intro pins s σ H Q I h;exact UnaryOp_ (thn (j pins s σ H _ I h) λv s1 ⟨x,H1,d,p,n⟩=>m pins s1 σ H1 x v Q d p n)
def opI{f:Value->Value->Sem Value}{C:Int->Int->Prop}{g:Int->Int->Int}
 (rule:∀(i j:Int) (t u:Tok) (s:aE) (Q:PRS) (E:PRS),C i j->Q (.int (g i j) s.toks) {s with toks:=s.toks+1}->wpAny (model X.prog X.w) X.A (f (.int i t) (.int j u)) Q E s):
  OpR X f (rI C λi j=>.int (g i j)):=by
 intro pins s σ H x y v u Q I m n h;obtain⟨i,j,rfl,rfl,d,q⟩:=h;obtain⟨t,rfl⟩:=m;obtain⟨t',rfl⟩:=n;exact rule i j t t' s _ _ d ⟨.int _,H,I.tok _,⟨_,rfl⟩,q⟩
def zK{f:Value->Value->Sem Value}{g:Int->Int->Int}
 (rule:∀(i j:Int) (t u:Tok) (s:aE) (Q:PRS) (E:PRS),Q (.int (g i j) s.toks) {s with toks:=s.toks+1}->wpAny (model X.prog X.w) X.A (f (.int i t) (.int j u)) Q E s):
  OpR X f (rI0 λi j=>.int (g i j)):=by
 intro pins s σ H x y v u Q I d m h;obtain⟨i,j,rfl,rfl,q⟩:=h;obtain⟨t,rfl⟩:=d;obtain⟨t',rfl⟩:=m;exact rule i j t t' s _ _ ⟨.int _,H,I.tok _,⟨_,rfl⟩,q⟩
def qy{f:Value->Value->Sem Value}{g:Int->Int->Bool}
 (rule:∀(i j:Int) (t u:Tok) (s:aE) (Q:PRS) (E:PRS),Q (.bool (g i j)) s->wpAny (model X.prog X.w) X.A (f (.int i t) (.int j u)) Q E s):
  OpR X f (rI0 λi j=>.bl (g i j)):=by
 intro pins s σ H x y v u Q I d m h;obtain⟨i,j,rfl,rfl,q⟩:=h;obtain⟨t,rfl⟩:=d;obtain⟨t',rfl⟩:=m;exact rule i j t t' s _ _ ⟨.bl _,H,I,rfl,q⟩
abbrev mD(i j:Int):Prop:=0<j/\j<1073741824
abbrev nY(i j:Int):Prop:=0<=j/\j<=1000000/\i.natAbs<2 ^ 64
abbrev n4(i j:Int):Prop:=(-(2 ^ 64)<i/\i<2 ^ 64)\/(-(2 ^ 64)<j/\j<2 ^ 64)
variable{j:Int}
def n4.ok{i:Int}(h:n4 i j):IntMulOk i j:=by
 rcases h with⟨h1,h2⟩ |⟨h1,h2⟩
 .exact .of_left (intBits_le_64 h1 h2)
 .exact .of_right (intBits_le_64 h1 h2)
def Fj:OpR X (fo .Add) (rI0 λi j=>.int (i+j)):=zK λ_ _ _ _ _ _ _ q=>add_int q
def Fk:OpR X (fo .Sub) (rI0 λi j=>.int (i-j)):=zK λ_ _ _ _ _ _ _ q=>sub_int q
def Fm:OpR X (fo .FloorDiv) (rI mD λi j=>.int (i / j)):=opI λi j _ _ _ _ _ d q=>by
 have h1:=d.1;have h2:=d.2;exact floordiv_int (by lia) (by rw[Int.fdiv_eq_ediv_of_nonneg i (by lia)];exact q) (.inl (PyProof.noPylong_small (by lia)))
def Fo:OpR X (fo .Mod) (rI (λ_ j=>0<j) λi j=>.int (i % j)):=opI λi j _ _ _ _ _ d q=>by
 exact mod_int' (by lia) (by rw[Int.fmod_eq_emod_of_nonneg i (by lia)];exact q)
def Fp:OpR X (fo .Pow) (rI nY λi j=>.int (i ^ j.toNat)):=opI λ_ _ _ _ _ _ _ d q=>pow_int_small d.1 d.2.1 d.2.2 q
def unI{f:Value->Sem Value}{g:Int->Int}
 (rule:∀(i:Int) (t:Tok) (s:aE) (Q:PRS) (E:PRS),Q (.int (g i) s.toks) {s with toks:=s.toks+1}->wpAny (model X.prog X.w) X.A (f (.int i t)) Q E s):
  UnR X f (rU λi=>.int (g i)):=by
 intro pins s σ H x v Q I d h;obtain⟨i,rfl,q⟩:=h;obtain⟨t,rfl⟩:=d;exact rule i t s _ _ ⟨.int _,H,I.tok _,⟨_,rfl⟩,q⟩
def Fq:UnR X (unaryOp .USub) (rU λi=>.int (-i)):=unI λ_ _ _ _ _ q=>neg_int q
abbrev u8:V->V->Bool
 |.non,.non=>ac |.non,.int _=>ac |.int _,.non=>ac |.non,.bl _=>ac |.bl _,.non=>ac |.non,.str _=>ac |.str _,.non=>ac
 |.int _,.int _=>ac |.bl _,.bl _=>ac |.str _,.str _=>ac |.byt _,.byt _=>ac
 |.int _,.str _=>ac |.str _,.int _=>ac |.bl _,.str _=>ac |.str _,.bl _=>ac
 | _,_=>ag
abbrev rEq:R2:=λx y H Q=>u8 x y=ac/\Q (.bl (decide (x=y))) H
abbrev rNe:R2:=λx y H Q=>u8 x y=ac/\Q (.bl (!decide (x=y))) H
def u9{i:Int}:decide (V.int i=V.int j)=(i==j):=by
 rw[fU];simp
def qz{i j:Bool}:decide (V.bl i=V.bl j)=(i==j):=by
 rw[fU];simp
def va{i j:Str}:decide (V.str i=V.str j)=(i==j):=by
 rw[fU];simp
def zL{i j:Array UInt8}:decide (V.byt i=V.byt j)=(i.toList==j.toList):=by
 rw[fU];cases i;cases j;simp
variable{Q:VK}
def cI{k d:Bool}(I:Inv X pins σ H s)(q:Q (.bl k) H)(e:k=d):EP X pins σ Q (.bool d) s:=by
 subst e;exact⟨.bl k,H,I,rfl,q⟩
def Fs:OpR X (cU .Eq) rEq:=by
 intro pins s σ H x y v u Q I n d h;obtain⟨m,q⟩:=h
 cases x with
 |non=>
  cases n
  cases y with
  |non=>subst d;exact PySem.EqNone.eq_none_none (cI I q (by simp))
  |bl j=>subst d;exact PySem.EqNone.eq_none_bool (cI I q (by simp))
  |int j=>obtain⟨t',rfl⟩:=d;exact PySem.EqNone.eq_none_int (cI I q (by simp))
  |str j=>obtain⟨t',rfl⟩:=d;exact PySem.EqNone.eq_none_str (cI I q (by simp))
  | _=>exact absurd (m) bS
 |bl i=>
  subst n
  cases y with
  |non=>subst d;exact PySem.EqNone.eq_bool_none (cI I q (by simp))
  |bl j=>subst d;exact eq_bool (cI I q qz)
  |str j=>obtain⟨t',rfl⟩:=d;exact PySem.EqMixed.eq_bool_str (cI I q (by simp))
  | _=>exact absurd (m) bS
 |int i=>
  obtain⟨t,rfl⟩:=n
  cases y with
  |non=>subst d;exact PySem.EqNone.eq_int_none (cI I q (by simp))
  |int j=>obtain⟨t',rfl⟩:=d;exact eq_int (cI I q u9)
  |str j=>obtain⟨t',rfl⟩:=d;exact PySem.EqMixed.eq_int_str (cI I q (by simp))
  | _=>exact absurd (m) bS
 |str i=>
  obtain⟨t,rfl⟩:=n
  cases y with
  |non=>subst d;exact PySem.EqNone.eq_str_none (cI I q (by simp))
  |bl j=>subst d;exact PySem.EqMixed.eq_str_bool (cI I q (by simp))
  |int j=>obtain⟨t',rfl⟩:=d;exact PySem.EqMixed.eq_str_int (cI I q (by simp))
  |str j=>obtain⟨t',rfl⟩:=d;exact eq_str (cI I q va)
  | _=>exact absurd (m) bS
 |byt i=>
  obtain⟨t,rfl⟩:=n
  cases y with
  |byt j=>obtain⟨t',rfl⟩:=d;exact W.eq_bytes (cI I q zL)
  | _=>exact absurd (m) bS
 | _=>cases y <;> exact absurd (show ag=ac from m) bS
def Ft:OpR X (cU .NotEq) rNe:=by
 intro pins s σ H x y v u Q I n d h;obtain⟨m,q⟩:=h
 cases x with
 |non=>
  cases n
  cases y with
  |non=>subst d;exact PySem.EqNone.ne_none_none (cI I q (by simp))
  |bl j=>subst d;exact PySem.EqNone.ne_none_bool (cI I q (by simp))
  |int j=>obtain⟨t',rfl⟩:=d;exact PySem.EqNone.ne_none_int (cI I q (by simp))
  |str j=>obtain⟨t',rfl⟩:=d;exact PySem.EqNone.ne_none_str (cI I q (by simp))
  | _=>exact absurd (m) bS
 |bl i=>
  subst n
  cases y with
  |non=>subst d;exact PySem.EqNone.ne_bool_none (cI I q (by simp))
  |bl j=>subst d;exact ne_bool (cI I q (congrArg not qz))
  |str j=>obtain⟨t',rfl⟩:=d;exact PySem.EqMixed.ne_bool_str (cI I q (by simp))
  | _=>exact absurd (m) bS
 |int i=>
  obtain⟨t,rfl⟩:=n
  cases y with
  |non=>subst d;exact PySem.EqNone.ne_int_none (cI I q (by simp))
  |int j=>obtain⟨t',rfl⟩:=d;exact ne_int (cI I q (congrArg not u9))
  |str j=>obtain⟨t',rfl⟩:=d;exact PySem.EqMixed.ne_int_str (cI I q (by simp))
  | _=>exact absurd (m) bS
 |str i=>
  obtain⟨t,rfl⟩:=n
  cases y with
  |non=>subst d;exact PySem.EqNone.ne_str_none (cI I q (by simp))
  |bl j=>subst d;exact PySem.EqMixed.ne_str_bool (cI I q (by simp))
  |int j=>obtain⟨t',rfl⟩:=d;exact PySem.EqMixed.ne_str_int (cI I q (by simp))
  |str j=>obtain⟨t',rfl⟩:=d;exact ne_str (cI I q (congrArg not va))
  | _=>exact absurd (m) bS
 |byt i=>
  obtain⟨t,rfl⟩:=n
  cases y with
  |byt j=>obtain⟨t',rfl⟩:=d;exact W.ne_bytes (cI I q (congrArg not zL))
  | _=>exact absurd (show ag=ac from m) bS
 | _=>cases y <;> exact absurd (show ag=ac from m) bS
def Fu:OpR X (cU .Lt) (rI0 λi j=>.bl (decide (i<j))):=qy λ_ _ _ _ _ _ _ q=>lt_int q
def Fv:OpR X (cU .LtE) (rI0 λi j=>.bl (decide (i<=j))):=qy λ_ _ _ _ _ _ _ q=>le_int q
def Fw:OpR X (cU .Gt) (rI0 λi j=>.bl (decide (j<i))):=qy λ_ _ _ _ _ _ _ q=>gt_int q
def Fx:OpR X (cU .GtE) (rI0 λi j=>.bl (decide (j<=i))):=qy λ_ _ _ _ _ _ _ q=>ge_int q
def Fy:OpR X (cU .Is) (λx y H Q=>y=.non/\Q (.bl (decide (x=.non))) H):=by
 intro pins s σ H x y v u Q I d m h;obtain⟨rfl,q⟩:=h;subst m;refine is_none_gen (cI I q ?_)
 cases x <;> first
  |(subst d;rfl)
  |(obtain⟨t,rfl⟩:=d;rfl)
variable{op:CmpOp}
def qA(b:Expr)(h:op≠.In:=by decide)(h2:op≠.NotIn:=by decide):jV op b=ag:=by
 have d:(op==CmpOp.In)=ag:=by cases op <;> first |rfl |exact absurd rfl h
 have m:(op==CmpOp.NotIn)=ag:=by cases op <;> first |rfl |exact absurd rfl h2
 cases b <;> simp[jV,d,m]
variable{r:R2}
def zM{pos:Pos}(z:OpR X (cU op) r)(m:PE X a ta)(n:PE X b tb)(p:jV op b=ag):PE X (.Compare a [op] [b] pos) (tOp r ta tb):=by
 intro pins s σ H Q I h;exact wpAny_Compare1 (qx m n I h λv u s2 x y H2 d B C q=>z pins s2 σ H2 x y v u Q d B C q) p
abbrev Fz(t:TE):TT:=λσ H Q=>t σ H λx H'=>∃k,x=.bl k/\Q k H'
def zN{pos:Pos}(G:OpR X (cU op) r)(q:PE X a ta)(B:PE X b tb)(C:jV op b=ag):PT X (.Compare a [op] [b] pos) (Fz (tOp r ta tb)):=by
 intro pins s σ H Q I h
 refine wpAny_isTrue_Compare1 (thn (q pins s σ H _ I h) λv s1 ⟨x,H1,m,U,J⟩=>thn (B pins s1 σ H1 _ m J) λu s2 ⟨y,H2,n,Y,L⟩ =>
  thn (G pins s2 σ H2 x y v u _ n U Y L) λc s3 ⟨z,d,p,r3,k,e,T⟩=>?_) C
 subst e;subst r3;exact jT ⟨d,p,T⟩
abbrev FA(r n:R2)(ta tb p:TE):TE:=λσ H Q=>ta σ H λx H1=>tb σ H1 λy H2=>r x y H2 λz d=>∃k,z=.bl k /\
 (if k=ac then p σ d λq m=>n y q m Q else Q (.bl ag) d)
variable{tc:TE}{op':CmpOp}{r':R2}
def FB{pos:Pos}(ho:OpR X (cU op) r)(m:OpR X (cU op') r')(T:PE X a ta)(U:PE X b tb)(Y:PE X c tc)
 (hm:lastMarks [op,op'] [b,c]=ag:=by with_unfolding_all rfl):PE X (.Compare a [op,op'] [b,c] pos) (FA r r' ta tb tc):=by
 intro pins s σ H Q I h
 refine Compare_chain (thn (T pins s σ H _ I h) λv s1 ⟨x,H1,G,r1,q1⟩=>chain_link (thn (U pins s1 σ H1 _ G q1) λu s2 ⟨y,H2,J,B,q2⟩ =>
  thn (ho pins s2 σ H2 x y v u _ J r1 B q2) λd s3 ⟨z,n,p,r3,k,e,q⟩=>?_)) hm
 subst e;subst r3;refine jT ?_
 cases k with
 |false=>exact ite_ff ⟨.bl ag,n,p,rfl,q⟩
 |true=>exact ite_tt (chain_last (thn (Y pins s3 σ n _ p q) λw' s4 ⟨z',C,L,r4,q4⟩=>m pins s4 σ C y z' u w' Q L B r4 q4))
abbrev vb(K:bo)(x:V)(H:Hp)(k:Bool):Prop:=
 match x with
 |.non=>k=ag
 |.bl b=>k=b
 |.int i=>k=(i != 0)
 |.str y=>y.length<=aW/\k=((y.length:Int) != 0)
 |.byt y=>y.size<=aW/\k=((y.size:Int) != 0)
 |.ref p=>(∃xs,SqL K H p xs/\k=!xs.isEmpty)\/(∃xs,SqT K H p xs/\k=!xs.isEmpty)\/∃kvs,H p=aa (.dK kvs)/\k=!kvs.isEmpty
 | _=>False
def FC{d:Type}{kvs:List (d×V)}{vs:List (d×Value)}(r:KV kvs vs):(!vs.isEmpty)=!kvs.isEmpty:=by
 cases r <;> rfl
def zO{its:LVa}(r:aS xs its):(!its.toArray.isEmpty)=!xs.isEmpty:=by
 cases r <;> simp
def n5:(aW:Nat)<2 ^ 63:=by rw[cG];decide
def FD:Fh X (λx H Q=>∃k,vb X.K x H k/\Q k H):=by
 intro pins s σ H x v Q I z h;obtain⟨k,e,q⟩:=h;have J:=cG
 cases x with
 |non=>
  subst z;have d:=e;subst d
  exact truthy_none ⟨H,I,q⟩
 |bl b=>
  subst z;have d:=e;subst d
  exact jT ⟨H,I,q⟩
 |int i=>
  obtain⟨t,rfl⟩:=z;have d:=e;subst d
  exact PySem.P.truthy_int ⟨H,I,q⟩
 |str y=>
  obtain⟨t,rfl⟩:=z;obtain⟨G,d⟩:y.length<=aW/\k=_:=e;subst d
  exact PySem.P.truthy_str (by lia) ⟨H,I.tok _,q⟩
 |byt y=>
  obtain⟨t,rfl⟩:=z;obtain⟨G,d⟩:y.size<=aW/\k=_:=e;subst d
  exact W.truthy_bytes (by lia) ⟨H,I.tok _,q⟩
 |ref p=>
  subst z;have d:=e
  rcases d with⟨xs,B,d⟩ |⟨xs,B,d⟩ |⟨kvs,B,d⟩
  .subst d;obtain⟨its,r,pl,hz⟩:=I.list B;have n:=r.length;exact wpAny_truthy_list pl.isList (by simp only[size_toArray];lia) ⟨H,I.tok _,by rw[zO r];exact q⟩
  .subst d;obtain⟨its,r,pl,hz⟩:=I.tuple B;have n:=r.length;exact truthy_tuple pl (by simp only[size_toArray];lia) ⟨H,I.tok _,by rw[zO r];exact q⟩
  .subst d;obtain⟨hz,C,vs,r,m⟩:kvs.length<=aW/\(p==fY)=ag/\∃vs,KV kvs vs/\s.heap.DictOf (cV X.prog X.w) p vs:=I.hok p _ B;have n:=qr r
   exact wpAny_truthy_dict C m (by lia) ⟨H,I.tok _,by rw[FC r];exact q⟩
 | _=>exact(show False from e).elim
def FE(n:PE X a ta)(p:∀d,isTrue a X.env d=(do let v <- d;standAt a.pos;gD [v] (truthy v))):
  PT X a (λσ H Q=>ta σ H λx H'=>∃k,vb X.K x H' k/\Q k H'):=by
 intro pins s σ H Q I h;exact isTrue_plain (thn (n pins s σ H _ I h) λv s1 ⟨x,H1,m,z,q⟩=>FD pins s1 σ H1 x v Q m z q) (p _)
def FF:OpR X (fo .Add) (λx y H Q=>∃i j,x=.str i/\y=.str j/\i.length+j.length<=aW/\Q (.str (i++j)) H):=by
 intro pins s σ H x y v u Q I d m h;obtain⟨i,j,rfl,rfl,hz,q⟩:=h;obtain⟨t,rfl⟩:=d;obtain⟨t',rfl⟩:=m;exact add_str (λt' n=>⟨.str _,H,I.tok _,⟨_,rfl⟩,q⟩) hz
def FG:OpR X (inplaceOp .Add) (λx y H Q=>∃i j,x=.str i/\y=.str j/\i.length+j.length<=aW/\Q (.str (i++j)) H):=by
 intro pins s σ H x y v u Q I d m h;obtain⟨i,j,rfl,rfl,hz,q⟩:=h;obtain⟨t,rfl⟩:=d;obtain⟨t',rfl⟩:=m;exact iadd_str (λt' n=>⟨.str _,H,I.tok _,⟨_,rfl⟩,q⟩) hz
abbrev vc(b:Expr):Prop:=∀o i,nS b ag o i=operate [o,i] (jy o i)
def zP{pos:Pos}(C:PE X a ta)(G:PE X b tb)(L:vc b):
  PE X (.Subscript a b pos) (tOp (λx y H Q=>∃z i c,x=.str z/\y=.int i/\0<=i/\i<2 ^ 63/\i<z.length/\z.cps[i.toNat]?=aa c/\Q (.str ⟨#[c]⟩) H) ta tb):=by
 intro pins s σ H Q I h;refine Subscript_ (qx C G I h λv u s2 x y H2 d T U q=>?_);obtain⟨z,i,c,rfl,rfl,p,B,h1,J,q⟩:=q;obtain⟨t,rfl⟩:=T;obtain⟨t',rfl⟩:=U
 exact tail_any (typeIs_str s2 z t) slot_str_getitem.lookup (getItem_str (by
  have m:decide (i < -(2 ^ 63:Int))=ag:=decide_eq_false (by lia);have n:decide (i≥2 ^ 63)=ag:=decide_eq_false (by lia)
  rw[m,n] <;> rfl) (by rw[(PySem.StrLaws.seqIndex_nonneg p h1)];exact J) ⟨.str ⟨#[c]⟩,H2,d.tok _,⟨_,rfl⟩,q⟩) (L _ _)
def g6{x:V}(r:aS [x] us):∃u,us=[u]/\aP x u:=by
 cases r with
 |cons d m=>cases m;exact⟨_,rfl,d⟩
def vd{x:V}(r:aS [x,y] us):∃u d,us=[u,d]/\aP x u/\aP y d:=by
 cases r with
 |cons m n=>
  cases n with
  |cons p q=>cases q;exact⟨_,_,rfl,m,p⟩
def FH:fH X (.builtin "divmod") (λxs H Q=>∃i j,xs=[.int i,.int j]/\mD i j/\∀p,H p=ab->Q (.ref p) (upd H p (.tup [.int (i / j),.int (i % j)]))):=by
 intro pins s σ H xs us Q I r h;obtain⟨i,j,rfl,⟨h1,h2⟩,q⟩:=h;obtain⟨u,d,rfl,⟨t,rfl⟩,⟨t',rfl⟩⟩:=vd r;refine divmod_int (by lia) ?_ (.inl (PyProof.noPylong_small (by lia)));rw[Int.fdiv_eq_ediv_of_nonneg i (by lia),Int.fmod_eq_emod_of_nonneg i (by lia)];refine⟨.ref s.heap.objs.size,_,?_,rfl,q _ (I.hok.fresh (bf _))⟩;exact I.laid (λb o e=>bQ _ e) (bf _) ⟨by simp only[bP];rw[cG];decide,_,.cons ⟨_,rfl⟩ (.cons ⟨_,rfl⟩ .nil),⟨_,dE s.heap rfl,rfl,0,rfl⟩⟩
def g4.some_of{o:Option Value}(r:g4 (aa v) o):∃u,o=aa u/\aP v u:=by
 cases o with
 |none=>exact(r).elim
 |some u=>exact⟨u,rfl,r⟩
structure dL(k:Nat)(A:dH):Prop where
 hd:A.handled=ab
 dp:A.depth+3*k+5<recursionLimit
 un:A.units+16*k+200<cLine
def dL.mono{j k:Nat}(r:dL k A)(h:j<=k):dL j A:=⟨r.hd,by have:=r.dp;lia,by have:=r.un;lia⟩
def dL.deeper{k:Nat}(r:dL (k+1) A)(env:Env):dL k (A.deeper env):=
 ⟨r.hd,by have:=r.dp;show A.depth+1+3*k+5<_;lia,by have:=r.un;show A.units+3+16*k+200<_;lia⟩
def dL.depth{k:Nat}(r:dL k A):A.depth<recursionLimit:=by have:=r.dp;lia
def dL.units{k:Nat}(r:dL k A):A.units+64<cLine:=by have:=r.un;lia
abbrev j1:TA:=λ_ H Q=>Q [] H
abbrev jB(ta:TE)(d:TA):TA:=λσ H Q=>ta σ H λx H1=>d σ H1 λxs H2=>Q (x::xs) H2
def cJ:PA X [] j1:=λ_ _ _ _ H Q I h=>uS ⟨[],H,I,.nil,h⟩
variable{t:TA}
def cs(n:PE X e te)(p:PA X es t)(q:StE X e es:=by rfl):PA X (e::es) (jB te t):=by
 intro pos pins s σ H Q I h;rw[q];exact lm (thn (n pins s σ H _ I h) λu s1 ⟨x,H1,d,C,z⟩=>(thn (p pos pins s1 σ H1 _ d z) λus s2 ⟨xs,H2,m,G,B⟩=>⟨x::xs,H2,m,.cons C G,B⟩))
abbrev FI(t:TA):TE:=λσ H Q=>t σ H λxs H1=>xs.length<=aW/\∀p,H1 p=ab->Q (.ref p) (upd H1 p (.tup xs))
abbrev FJ(t:TA):TE:=λσ H Q=>t σ H λxs H1=>xs.length<=aW/\∀p,H1 p=ab->Q (.ref p) (upd H1 p (.lst xs))
def zQ{pos:Pos}{x1}(h:PA X es t):PE X (.Tuple es x1 pos) (FI t):=by
 intro pins s σ H Q I m;refine wpAny_Tuple_spliced (thn (h pos pins s σ H _ I m) λus s1 ⟨xs,H1,d,r,z,q⟩=>⟨by rw[<- r.length];exact z,?_⟩);refine⟨.ref s1.heap.objs.size,upd H1 s1.heap.objs.size _,d.laid (λb u e=>bQ _ e) (bf _) ?_,rfl,q _ (d.hok.fresh (bf _))⟩;exact⟨z,us,r,⟨_,dE _ rfl,rfl,_,rfl⟩⟩
def zR{pos:Pos}(h:PA X es t):PE X (.List es pos) (FJ t):=by
 intro pins s σ H Q I m;refine wpAny_List_spliced (thn (h pos pins s σ H _ I m) λus s1 ⟨xs,H1,d,r,z,q⟩=>⟨by rw[<- r.length];exact z,?_⟩);refine⟨.ref s1.heap.objs.size,upd H1 s1.heap.objs.size _,d.laid (λb u e=>bQ _ e) (bf _) ?_,rfl,q _ (d.hok.fresh (bf _))⟩;exact⟨z,us,0,r,dE _ rfl⟩
@[reducible]noncomputable def Sp:=List V->Hp->VK->XK->Prop
@[reducible]noncomputable def CXT:=List Env->Hp->aE->XK->PRS
structure qB(P:di)(w:World)(K:bo)(mg:MGT)(base:Heap)(A:dH)(outer:List Env)(s:aE)(H:Hp):Prop where
 frames:A.frames=aa outer
 mod:Mod K mg base
 bs:∀b o,base.get? b=aa o->s.heap.get? b=aa o/\H b=ab
 bsz:base.objs.size<=s.heap.objs.size
 funs:s.heap.FunFrames base outer
 frf:∀b∈frs outer,H b=ab
 hok:HOk P w H s.heap
 bare:jx s.gens
abbrev CE(outer:List Env)(P:di)(w:World)(H:Hp)(s:aE)(Q:VK)(u:Value)(s':aE):Prop:=
 ∃v H',s'.os=s.os/\jx s'.gens/\Un (frs outer) [] H H' s.heap s'.heap/\HOk P w H' s'.heap/\aP v u/\Q v H'
abbrev CR(CX:CXT)(outer:List Env)(P:di)(w:World)(H:Hp)(s:aE)(Q:VK)(E:XK)(r:Result)(s':aE):Prop:=
 match r with
 |.ok (.ret u)=>CE outer P w H s Q u s'
 |.ok _=>False
 |.error e=>CX outer H s E e s'
structure f9(P:di)(w:World)(K:bo)(mg:MGT)(base:Heap)(CX:CXT)(k:Nat)(f:Addr)(fd:fL)(ps:LSt)(sp:Sp):Prop where
 len:∀vs H Q E,sp vs H Q E->vs.length=ps.length
 run:∀(A:dH) (outer:List Env) (s:aE) (H:Hp) (args:Args) (us:LVa) (vs:List V) (Q:VK) (E:XK),dL k A->qB P w K mg base A outer s H->BindsTo s fd args (ps.zip us)->aS vs us->sp vs H Q E ->
  gp (model P w) A (.call (.ref f) args) (CR CX outer P w H s Q E) s
variable{mg:MGT}{base:Heap}{CX:CXT}{fd:fL}{ps:LSt}{sp:Sp}
def f9.imp{k:Nat}{f:Addr}{d:Sp}(F:f9 P w K mg base CX k f fd ps sp)
 (h:∀vs H Q E,d vs H Q E->sp vs H Q E):f9 P w K mg base CX k f fd ps d:=
 ⟨λvs H Q E q=>F.len vs H Q E (h _ _ _ _ q),λA outer s H args us vs Q E p n m B z=>F.run A outer s H args us vs Q E p n m B (h _ _ _ _ z)⟩
def Inv.env0(I:Inv X pins σ H s):qB X.prog X.w X.K X.mg X.base X.A X.stack s H:=
 ⟨I.ok.frames,I.ok.mod,I.bs,dC I.ok.bsz I.sz,I.stack,I.stkFree,I.hok,I.bare⟩
variable{u:Value}
def Inv.after(I:Inv X pins σ H s)(h:CE X.stack X.prog X.w H s Q u s'):EP X pins σ Q u s':=by
 obtain⟨v,H',os,bare,un,hok,r,q⟩:=h;obtain⟨n,g,d,t,m⟩:=s';obtain rfl:m=s.os:=os;exact⟨v,H',I.call un hok bare (λb z=>absurd z (by simp)),r,q⟩
abbrev FK(sp:Sp)(d:List V)(E:XK)(t:TA):TE:=λσ H Q=>t σ H λvs H1=>sp (vs++d) H1 Q E
abbrev lr(K:bo)(fd:fL)(ps:LSt)(ds:LVa):Prop:=
 ∀(s:aE) (us:LVa),K.In s.heap->(us++ds).length=ps.length->BindsTo s fd ⟨us,[]⟩ (ps.zip (us++ds))
def lr.all(h:∀us:LVa,us.length=ps.length->bindArgs fd ⟨us,[]⟩=pure (ps.zip us)):lr K fd ps []:=λs us _ d=>by
 rw[eB]at d ⊢;exact .of_eq (h us d)
abbrev ve(CX:CXT)(X:Cx)(E:XK):Prop:=∀(pins:PNS) (σ:St) (H:Hp) (s:aE) (e:Value) (s':aE),Inv X pins σ H s->CX X.stack H s E e s'->X.xe e s'
variable{dvs vs:List V}{ds:LVa}{E:XK}
def FL{k:Nat}{f:Addr}(F:f9 X.prog X.w X.K X.mg X.base CX k f fd ps sp)(z:dL k X.A)(p:lr X.K fd ps ds)(hd:aS dvs ds)(B:ve CX X E)
 (I:Inv X pins σ H s)(r:aS vs us)(h:sp (vs++dvs) H Q E):wpAny (model X.prog X.w) X.A (call (.ref f) us) (EP X pins σ Q) X.xe s:=by
 have m:=r.append hd;have q:(us++ds).length=ps.length:=by rw[<- m.length];exact F.len _ _ _ _ h
 refine wpAny_call (li (F.run X.A X.stack s H ⟨us,[]⟩ _ _ Q E z I.env0 (p s us I.kIn q) m h) λr s' d=>?_)
 cases r with
 |error e=>exact B pins σ H s e s' I d
 |ok n=>
  cases n with
  |ret u=>exact I.after d
  |next=>exact iS d
  |brk=>exact iS d
  |cont=>exact iS d
variable{p:Pos}
def qC{k:Nat}{f:Addr}{pos:Pos}(F:f9 X.prog X.w X.K X.mg X.base CX k f fd ps sp)(T:dL k X.A)(G:Gl X x)(L:X.mg x=aa (.ref f))(J:W.keepIn X.K (.ref f)=ac)(B:lr X.K fd ps ds)(hd:aS dvs ds)(U:ve CX X E)
 (z:PA X (e::es) t)(d:NDb x:=by decide)(C:StE X e es:=by rfl)(m:BkE X pos es:=by rfl):
  PE X (.Call (.Name x p) (e::es) [] pos) (FK sp dvs E t):=by
 intro pins s σ H Q I h;refine lg (zx I G L ?_ d);exact W.callWith_K I.ok.mod.kin J (thn (z pos pins s σ H _ I h) λus s1 ⟨vs,H1,n,r,q⟩=>⟨n.kIn,(FL F T B hd U n r q)⟩) C m
structure bn(N P:LSt)(sc:Scope):Prop where
 kind:sc.kind=.function
 co:sc.isCoroutine=ag
 gen:sc.isGenerator=ag
 nd:N.Nodup
 pre:N.take P.length=P
 par:∀x∈P,sc.names.lookup x=aa .local\/sc.names.lookup x=aa .cell
 nofree:∀y∈sc.names,y.2≠.free
def zS{kindOf:Str->Option fZ}{x:Str}:∀{binds:List (Str×Value)} {m:MGT},(∀v,(x,v)∉binds)->bindL kindOf binds m x=m x
 | [],_,_=>rfl
 |(n,v)::r,m,h=>by
  unfold bindL;rw[zS λw d=>h w (c8 _ d)];split
  .have:x≠n:=by rintro rfl;exact h v bW
   simp[this]
  .rfl
def zU{kindOf:Str->Option fZ}{x:Str}:∀{binds:List (Str×Value)} {m:MGT},(∀v,(x,v)∉binds)->bindC kindOf binds m x=m x
 | [],_,_=>rfl
 |(n,v)::r,m,h=>by
  unfold bindC;rw[zU λw d=>h w (c8 _ d)];split
  .rfl
  .have:x≠n:=by rintro rfl;exact h v bW
   simp[this]
def zV{kindOf:Str->Option fZ}{x:Str}{v:Value}:∀{P:LSt} {vs:LVa} {i:Nat} {m:MGT},P.Nodup->P[i]?=aa x->vs[i]?=aa v->kindOf x=aa .local ->
  bindL kindOf (P.zip vs) m x=aa v
 | [],_,_,_,_,h,_,_=>by simp at h
 | _::_,[],_,_,_,_,h,_=>by simp at h
 |p::P,w::vs,0,m,nd,h1,h2,hk=>by
  simp at h1 h2;subst h1;subst h2;show bindL kindOf (_::P.zip vs) m p=_;unfold bindL;rw[zS λv d=>(nodup_cons.mp nd).1 (of_mem_zip d).1,if_pos hk]
  simp
 |p::P,w::vs,i+1,m,nd,h1,h2,hk=>by
  show bindL kindOf (_::P.zip vs) m x=_;exact zV (nodup_cons.mp nd).2 (by simpa using h1) (by simpa using h2) hk
def zW{kindOf:Str->Option fZ}{x:Str}{v:Value}:∀{P:LSt} {vs:LVa} {i:Nat} {m:MGT},P.Nodup->P[i]?=aa x->vs[i]?=aa v->kindOf x≠aa .local ->
  bindC kindOf (P.zip vs) m x=aa v
 | [],_,_,_,_,h,_,_=>by simp at h
 | _::_,[],_,_,_,_,h,_=>by simp at h
 |p::P,w::vs,0,m,nd,h1,h2,hk=>by
  simp at h1 h2;subst h1;subst h2;show bindC kindOf (_::P.zip vs) m p=_;unfold bindC;rw[zU λv d=>(nodup_cons.mp nd).1 (of_mem_zip d).1,if_neg hk]
  simp
 |p::P,w::vs,i+1,m,nd,h1,h2,hk=>by
  show bindC kindOf (_::P.zip vs) m x=_;exact zW (nodup_cons.mp nd).2 (by simpa using h1) (by simpa using h2) hk
abbrev start(N:LSt)(vs:List V):St:=vs.map aa++fV (N.length-vs.length) ab
abbrev j2(CX:CXT)(P:di)(w:World)(K:bo)(mg:MGT)(base:Heap)(N:LSt)(qual:Str)(scope:Scope)(f:Addr)(cd:Value)(A:dH)(outer:List Env)(s:aE)(H:Hp)(E:XK):Cx where
 prog:=P
 w:=w
 K:=K
 mg:=mg
 base:=base
 A:=A.deeper (ix qual scope s.heap.objs.size f cd)
 N:=N
 s₀:=s
 H₀:=H
 env:=ix qual scope s.heap.objs.size f cd
 outer:=outer
 stack:=ix qual scope s.heap.objs.size f cd::outer
 ex:=[]
 calm:=ac
 fn:=λ_=>ac
 pn:=[]
 xe:=λe s'=>wpAny (model P w) (A.deeper (ix qual scope s.heap.objs.size f cd)) (leaving (ix qual scope s.heap.objs.size f cd) e) (λ_ s''=>CX outer H s E e s'') (λe' s''=>CX outer H s E e' s'') s'
variable{n:Nat}
def zX{sc:Scope}(h:sc.names.lookup x=aa .cell):∃c,(cellsFrom n sc.names []).lookup x=aa c:=by
 exact Option.isSome_iff_exists.mp (W.cellsFrom_some sc.names n [] (.inl h))
variable{qual:Str}{scope:Scope}
def FM{f:Addr}{G:Value}{outer:List Env}{s1:aE}
 (S:bn N ps scope)(hd:A.handled=ab)(d:qB P w K mg base A outer s H)(hl:vs.length=ps.length)(r:aS vs us)
 (x:InCallC s s.heap.objs.size (bindL (ix qual scope s.heap.objs.size f G).kindOf (ps.zip us) λ_=>ab) (cellsFrom (s.heap.objs.size+1) scope.names []) (bindC (ix qual scope s.heap.objs.size f G).kindOf (ps.zip us) λ_=>ab) s1):
  Inv (j2 CX P w K mg base N qual scope f G A outer s H E) [] (start N vs) H s1:=by
 have T:ps.length<=N.length:=by have:=congrArg e6 S.pre;rw[k7]at this;lia
 obtain⟨h1,tk,rfl,I⟩:=x.done;have B:∀b:Addr,b∉(j2 CX P w K mg base N qual scope f G A outer s H E).ex:=λb z=>absurd (show b∈([]:LAd)from z) (by simp)
 refine⟨⟨d.mod,S.kind,rfl,rfl,bf _,λy z c h1 h2=>?_,λy m=>?_,λy c _ h=>?_,λ_=>hd,dH.frames_deeper d.frames,.inr ⟨rfl,rfl⟩,λb z=>absurd z (B b),d.bs,d.bsz,λb _ _=>B b,λb z=>absurd z (B b),d.funs,d.frf⟩,
  rfl,d.bare,Un.kept I,⟨_,x.toInCall.ns,λi y v h1 h2 Y=>?_⟩,λy c h=>⟨_,x.cell y c h⟩,d.hok.fresh (bf _),λy c h=>?_,λp hp=>absurd (show p∈([]:List _)from hp) (by simp),d.hok.kept I,?_⟩
 .exact name_of_addr x.apart (nN h1) (nN h2)
 .have m:=m
  rcases m with m |m
  .exact zX m
  .exact absurd rfl (S.nofree _ (nN m))
 .exact la (x.above y c (nN h))
 .have hi:i<vs.length:=by
   unfold start at h2
   by_cases hi:i<vs.length
   .exact hi
   .rw[iT (by simpa using hi)]at h2;rw[uB]at h2
    split at h2 <;> nomatch h2
  have L:vs[i]?=aa v:=by
   unfold start at h2;rw[kR (by simpa using hi),d7]at h2
   cases e:vs[i]? with
   |none=>rw[e]at h2;nomatch h2
   |some a=>rw[e]at h2;cases h2;rfl
  obtain⟨u,J,U⟩:=r.get L
  have hp:ps[i]?=aa y:=by
   rw[<- S.pre,List.getElem?_take_of_lt (by lia)];exact h1
  have C:ps.Nodup:=by rw[<- S.pre];exact S.nd.sublist (take_sublist _ _)
  refine⟨u,U,?_⟩
  rcases S.par y (mem_of_getElem? hp)with k |k
  .exact .inl ⟨k,zV C hp J k⟩
  .obtain⟨c,e⟩:=zX k;refine .inr ⟨.inl k,c,e,?_⟩;have q:=x.cell y c e;rw[zW C hp J (by show scope.names.lookup y≠_;rw[k];decide)]at q;exact q
 .exact d.hok.fresh (la (x.above y c (nN h)))
 .unfold start;show _=N.length;rw[aJ,av,kW];lia
variable{name:Str}{an od:Option Addr}{osl:Array (Option Value)}
def FN{k:Nat}{f:Addr}{params:Arguments}{dV kV doc pm cdv ct oc:Value}
  (lk:K.lookup f=aa ⟨oc,od,.func (W.fnOf name qual params body scope dV kV doc pm an cdv ct),osl⟩)(L:W.codeIn K cdv qual=ac)(S:bn N ps scope)
 (len:∀vs H Q E,sp vs H Q E->vs.length=ps.length)
 (d:∀ (A:dH) (outer:List Env) (s:aE) (H:Hp) (vs:List V) (Q:VK) (E:XK),dL k (A.deeper (ix qual scope s.heap.objs.size f cdv))->sp vs H Q E ->
   ∃t,PSs (j2 CX P w K mg base N qual scope f cdv A outer s H E) body t/\t {nx:=λ_ H'=>Q .non H',rt:=Q} (start N vs) H):
  f9 P w K mg base CX (k+1) f (W.fnOf name qual params body scope dV kV doc pm an cdv ct) ps sp:=by
 refine⟨len,λA outer s H args us vs Q E T B hb r G=>?_⟩;have Y:=B.mod.kin.keeps λb o e=>(B.bs b o e).1
 have m:∀y∈ps.zip us,scope.names.lookup y.1=aa .local\/(scope.names.lookup y.1=aa .cell/\((cellsFrom (s.heap.objs.size+1) scope.names []).lookup y.1).isSome=ac):=λ⟨n,v⟩ hy=>by
  rcases S.par n (of_mem_zip hy).1 with q |q
  .exact .inl q
  .exact .inr ⟨q,W.cellsFrom_some _ _ _ (.inl q)⟩
 refine codeAny_call_function T.depth (Y _ _ lk) rfl S.co S.gen rfl (W.codeRec_of Y L) (hb _ _ _ _ ?_);refine wpAny_newFunctionEnv_cells S.kind m λenv he s1 x=>?_;subst he;refine⟨(B.mod.nolimit.keeps λb o e=>(B.bs b o e).1).keeps x.toInCall.keep,codeAny_func ?_⟩;obtain⟨t,ht,hq⟩:=d A outer s H vs Q E (T.deeper _) G;have I:Inv (j2 CX P w K mg base N qual scope f cdv A outer s H E) [] _ H s1:=FM S T.hd B (len _ _ _ _ G) r x;refine fK (ht [] s1 _ H _ I hq) (λfl s' z=>?_) λe s' z=>z
 have C:∀{σ':St} {H':Hp} {v:V} {u:Value},Inv (j2 CX P w K mg base N qual scope f cdv A outer s H E) [] σ' H' s'->aP v u->Q v H'->CE outer P w H s Q u s':=
  λ{σ' H' v u} J U q=>⟨v,H',J.os,J.bare,J.base,J.hok,U,q⟩
 cases fl with
 |ret u=>
  obtain⟨v,σ',H',J,U,q⟩:=z
  exact C J U q
 |next=>
  obtain⟨σ',H',J,q⟩:=z
  exact C (v:=V.non) J rfl q
 |brk=>
  obtain⟨_,_,_,q⟩:=z
  exact iS q
 |cont=>
  obtain⟨_,_,_,q⟩:=z;exact iS q
abbrev tCB(r:List V->Hp->VK->Prop)(t:TA):TE:=λσ H Q=>t σ H λvs H1=>r vs H1 Q
variable{r:List V->Hp->VK->Prop}
def qE{pos:Pos}{id:String}(B:fH X (.builtin id) r)(G:Gl X x)(J:X.mg x=ab)(T:gU x=aa (.builtin id))(z:PA X (e::es) t)(L:x ≠ "__name__":=by decide)(d:NDb x:=by decide)
 (C:StE X e es:=by rfl)(m:BkE X pos es:=by rfl):PE X (.Call (.Name x p) (e::es) [] pos) (tCB r t):=by
 intro pins s σ H Q I h;exact lg (iY I G J T (zh (thn (z pos pins s σ H _ I h) λus s1 ⟨vs,H1,q,Y,U⟩=>B pins s1 σ H1 vs us Q q Y U) C m) L d)
variable{T:String}
def qF{pos:Pos}(B:fH X (.type T) r)(G:Gl X x)(J:X.mg x=ab)(U:gU x=aa (.type T))(z:PA X (e::es) t)(L:x ≠ "__name__":=by decide)(d:NDb x:=by decide)
 (C:StE X e es:=by rfl)(m:BkE X pos es:=by rfl):PE X (.Call (.Name x p) (e::es) [] pos) (tCB r t):=by
 intro pins s σ H Q I h;exact lg (iY I G J U (jS (thn (z pos pins s σ H _ I h) λus s1 ⟨vs,H1,q,r1,Y⟩=>B pins s1 σ H1 vs us Q q r1 Y) C m) L d)
end L2
namespace HT
open List
open PySem PyProof.Rows
open PySem.SeqAt
open PySem.AutoSeq1 (wpAny_loadPart')
open PySem.MeetsSeq PySem.MeetsSeq2 PySem.MeetsSeq3
abbrev sIx(n d:Nat):Option Int->Nat
 |none=>d
 |some v=>if v<0 then (v+(n:Int)).toNat else min v.toNat n
def sIx_none(n d:Nat):sIx n d ab=d:=rfl
def sIx_nat(n d k:Nat):sIx n d (aa (k:Int))=min k n:=by
 show(if k<0 then (k+(n:Int)).toNat else min (k:Int).toNat n)=min k n;rw[if_neg (by lia),gT]
def zY(v:Int)(n d:Nat):(if v<0 then max (v+(n:Int)) 0 else min v (n:Int))=((sIx n d (aa v):Nat):Int):=by
 show _=(((if v<0 then (v+_).toNat else min v.toNat n):Nat):Int)
 by_cases a:v<0
 .simp only[if_pos a];lia
 .simp only[if_neg a];lia
def FO(lo hi:Option Int)(n:Nat):zn lo hi 1 (n:Int)=(((sIx n 0 lo:Nat):Int),((sIx n n hi:Nat):Int)):=by
 refine Prod.ext ?_ ?_
 .cases lo with
  |none=>rfl
  |some v=>exact zY v n 0
 .cases hi with
  |none=>rfl
  |some v=>exact zY v n n
def FP(i j:Nat):uP (i:Int) (j:Int) 1=j-i:=by
 unfold uP
 split <;> lia
variable{prog:di}{w:World}{A:dH}{E:PRS}{s:aE}{v:Value}
def zZ{o:Option Int}{Q:Option Int->aE->Prop}(p:IsPart v o)(h:Q o s):wpAny (model prog w) A (cZ.Slice.slicePartIndex v) Q E s:=by
 cases p with
 |none=>exact slicePart_none h
 |int i t=>exact slicePart_int h
variable{sl:Addr}{vl vu:Value}{lo hi:Option Int}{n:Nat}
def FQ{Q:Int×Int×Nat->aE->Prop}(d:s.heap.IsSliceOf sl vl vu .none)(pl:IsPart vl lo)(e:IsPart vu hi)
 (h:Q (((sIx n 0 lo:Nat):Int),1,sIx n n hi-sIx n 0 lo) s):wpAny (model prog w) A (cZ.Slice.sliceApplied (.ref sl) (pure (n:Int))) Q E s:=by
 obtain⟨os,b,c,a⟩:=id d;refine ar (ar (gV b a rfl (ar (gV b a rfl (ar (gV b a rfl (aY ?_)))))));refine ar (slicePart_none ?_);refine ar (zZ pl (ar (zZ e (ar (aY ?_)))))
 show wpAny _ _ (match zn lo hi 1 _ with |(lo,hi)=>pure (lo,_,uP lo hi 1)) _ _ s
 rw[FO lo hi n];show wpAny _ _ (pure _) _ _ s;rw[FP];exact aY h
def FR(xs:Array Value)(i k:Nat):((ci k).filterMap λ(m:Nat)=>xs[((i:Int)+(m:Int)*1).toNat]?).toArray=((xs.toList.drop i).take k).toArray:=by
 have e:(λ(m:Nat)=>xs[(i+(m:Int)*1).toNat]?)=λm=>xs[i+m]?:=by
  funext m;have:(i+(m:Int)*1).toNat=i+m:=by lia
  rw[this]
 rw[e];have:=pick_run xs i k;rw[filterMap_map]at this;have a:(_ ∘ λx=>i+x)=λm=>xs[i+m]?:=rfl;rw[a]at this;rw[this]
variable{items:Array Value}{Q:PRS}
def getItem_tuple_cut{t:Addr}(b:IsTup s.heap t items)(i:s.heap.IsSliceOf sl vl vu .none)(pl:IsPart vl lo)(m:IsPart vu hi)
 (l:¬(sIx items.size 0 lo=0/\sIx items.size items.size hi=items.size))
 (h:Q (.ref s.heap.objs.size) {s with heap:=s.heap.push {cls:=.type "tuple",data:=.seq ((items.toList.drop (sIx items.size 0 lo)).take (sIx items.size items.size hi-sIx items.size 0 lo)).toArray}})
 (hsz:items.size<=aW):wpAny (model prog w) A (jy (.ref t) (.ref sl)) Q E s:=by
 have a:sizeOk (.seq ((items.toList.drop (sIx items.size 0 lo)).take (sIx items.size items.size hi-sIx items.size 0 lo)).toArray):=by
  show((items.toList.drop _).take _).toArray.size<=aW;rw[size_toArray,k7,mh,nF];lia
 obtain⟨os,g,d,j⟩:=id i;have c:s.TypeIs (.ref sl) "slice":=⟨os,g,d⟩;unfold jy
 try with_reducible refine eC ?_
 first |refine ar _ |skip
 refine ar (wpAny_sequenceKey b.typeIs (by decide) ?_)
 refine ar (nM b.typeIs uJ
  (mn uJ b.typeIs entry_tuple_getitem ?_ (args_tuple_getitem _ _)))
 show wpAny _ _ (cZ.Tuple.tupleItemsOf _ >>= _) _ _ s;refine ar (tupleItemsOf_ b ?_);refine ar (jW c ?_);refine ar (FQ i pl m ?_)
 have e:¬((((sIx items.size 0 lo:Nat):Int)==0 && (1:Int)==1 && (sIx items.size items.size hi-sIx items.size 0 lo)==items.size)=ac):=by
  intro q;rw[cS,cS]at q;have o:=eq_of_beq q.1.1;have p:=eq_of_beq q.2;exact l ⟨by lia,by lia⟩
 show wpAny _ _ (if _=ac then _ else _) _ _ s;rw[if_neg e,FR]
 first
  |exact ar _
  |exact ar (qc (ar (aY (aY ⟨_,rfl,aY h⟩))) a)
  |exact ar _
  |exact ar _
end HT
namespace L2
open List
open PySem PySem.Spec PyProof.Rows
@[reducible]noncomputable def TO:=St->Hp->(Option Int->Hp->Prop)->Prop
abbrev PO(X:Cx)(e:Option Expr)(t:TO):Prop:=
 ∀(pins:PNS) (s:aE) (σ:St) (H:Hp) (Q:Option Int->Hp->Prop),Inv X pins σ H s->t σ H Q ->
  wpAny (model X.prog X.w) X.A (evalPart e X.env) (λu s'=>∃o H',Inv X pins σ H' s'/\IsPart u o/\Q o H') X.xe s
abbrev FS:TO:=λ_ H Q=>Q ab H
abbrev FT(t:TE):TO:=λσ H Q=>t σ H λx a=>∃i,x=.int i/\Q (aa i) a
variable{ns:List Int}
def FU:∀{us:LVa},aS (ns.map V.int) us->IntsAre us ns:=by
 induction ns with
 |nil=>intro us r;rw[map_nil]at r;cases r;exact .nil
 |cons n ns a=>
  intro us r
  cases r with
  |cons b c=>
   obtain⟨t,e⟩:=b;subst e;exact .cons n t (a c)
variable{X:Cx}
def vf:PO X ab FS:=by
 intro pins s σ H Q I h;exact aY ⟨ab,H,I,.none,h⟩
variable{e:Expr}{te:TE}
def z3(h:PE X e te):PO X (aa e) (FT te):=by
 intro pins s σ H Q I c;refine thn (h pins s σ H _ I c) λu s1 g=>?_;obtain⟨x,a,b,j,d⟩:=g;obtain⟨i,rfl,q⟩:=d;obtain⟨t,rfl⟩:=j;exact⟨aa i,a,b,.int i t,q⟩
variable{lo hi:Option Expr}
abbrev SlR(X:Cx)(r:V->Option Int->Option Int->Hp->VK->Prop):Prop:=
 ∀(pins:PNS) (s:aE) (σ:St) (H:Hp) (x:V) (v a b:Value) (lo hi:Option Int) (sl:Addr) (Q:VK),Inv X pins σ H s->aP x v->s.heap.IsSliceOf sl a b .none->IsPart a lo->IsPart b hi->r x lo hi H Q ->
  ∃T id,jX (.type T) "__getitem__"=pure (aa (.builtin id))/\s.TypeIs v T/\wpAny (model X.prog X.w) X.A (jy v (.ref sl)) (EP X pins σ Q) X.xe s
abbrev tSl(r:V->Option Int->Option Int->Hp->VK->Prop)(te:TE)(g d:TO):TE:=λσ H Q=>te σ H λx a=>g σ a λl b=>d σ b λu c=>r x l u c Q
variable{tl th:TO}{p2:Pos}
def vg{pos:Pos}{r:V->Option Int->Option Int->Hp->VK->Prop}(B:SlR X r)(y:PE X e te)(A:PO X lo tl)(E:PO X hi th):PE X (.Subscript e (.Slice lo hi ab p2) pos) (tSl r te tl th):=by
 intro pins s σ H Q I h;refine Subscript_ (thn (y pins s σ H _ I h) λv s1 c=>?_);obtain⟨x,j,n,N,J⟩:=c;refine wpAny_Slice (thn (A pins s1 σ j _ n J) λd s2 ⟨l,m,o,pl,L⟩=>thn (E pins s2 σ m _ o L) λg a c=>?_);obtain⟨u,i,p,G,M⟩:=c;refine aY ?_
 have t:Inv X pins σ i {a with heap:=a.heap.push {cls:=.type "slice",data:=.fields #[d,g,.none]}}:=p.kept λb U q=>bQ _ q
 obtain⟨T,id,w,C,z⟩:=B pins {a with heap:=a.heap.push {cls:=.type "slice",data:=.fields #[d,g,.none]}} σ i x v d g l u a.heap.objs.size Q t N (zq ..) pl G M
 exact tail_any C w z (by with_unfolding_all rfl)
abbrev lu(xs:List V)(lo hi:Option Int):List V:=(xs.drop (HT.sIx xs.length 0 lo)).take (HT.sIx xs.length xs.length hi-HT.sIx xs.length 0 lo)
def z4(xs:List V)(lo hi:Option Int):(lu xs lo hi).length<=xs.length:=by
 unfold lu;rw[k7,mh];lia
abbrev FV(K:bo):V->Option Int->Option Int->Hp->VK->Prop:=λx lo hi H Q=>∃a xs,x=.ref a/\SqT K H a xs /\
 ¬(HT.sIx xs.length 0 lo=0/\HT.sIx xs.length xs.length hi=xs.length)/\∀p,H p=ab->Q (.ref p) (upd H p (.tup (lu xs lo hi)))
def FW:SlR X (FV X.K):=by
 intro pins s σ H x v o p lo hi sl Q I m g pl l h;obtain⟨a,xs,rfl,j,i,q⟩:=h;subst m;obtain⟨its,r,d,hz⟩:=I.tuple j;have c:its.toArray.size=xs.length:=by rw[size_toArray];exact r.length.symm
 refine⟨"tuple",_,uJ.lookup,d.typeIs,?_⟩;refine HT.getItem_tuple_cut d g pl l (by rw[c];exact i) ?_ (by rw[c];exact hz);rw[c];refine⟨.ref s.heap.objs.size,_,I.laid (λb n q=>bQ _ q) (bf _) ?_,rfl,q _ (I.hok.fresh (bf _))⟩;exact⟨dC (z4 xs lo hi) hz,_,(r.drop _).take _,IsTup.new _ _⟩
abbrev ixN(n:Nat)(i:Int):Option Nat:=if 0<=i then (if i<n then aa i.toNat else ab) else if -(n:Int)<=i then aa (i+n).toNat else ab
abbrev atI{a:Type}(xs:List a)(i:Int):Option a:=(ixN xs.length i).bind λj=>xs[j]?
variable{n j:Nat}{i:Int}
def z5(h:ixN n i=aa j):seqIndex? i n=aa j/\j<n/\-(n:Int)<=i/\i<n:=by
 unfold ixN at h
 by_cases b:0<=i
 .rw[if_pos b]at h
  by_cases a:i<n
  .rw[if_pos a]at h;have e:=cj h;exact⟨by rw[seqIndex_of b a,e],by lia,by lia,a⟩
  .rw[if_neg a]at h;nomatch h
 .rw[if_neg b]at h
  by_cases a:-n<=i
  .rw[if_pos a]at h;have e:=cj h;exact⟨by rw[seqIndex_neg (by lia) a,e],by lia,a,by lia⟩
  .rw[if_neg a]at h;nomatch h
def z6{a:Type}{xs:List a}{v:a}(h:atI xs i=aa v):∃j,seqIndex? i xs.length=aa j/\xs[j]?=aa v/\j<xs.length/\-(xs.length:Int)<=i/\i<xs.length:=by
 unfold atI at h
 cases e:ixN xs.length i with
 |none=>rw[e]at h;nomatch h
 |some j=>
  rw[e]at h;obtain⟨b,c,d,g⟩:=z5 e;exact⟨j,b,h,c,d,g⟩
abbrev vh(b:Expr):Prop:=∀o i,nS b ag o i=operate [o,i] (jy o i)
abbrev IxR(X:Cx)(r:R2):Prop:=
 ∀(value slice:Expr) (pins:PNS) (s:aE) (σ:St) (H:Hp) (x y:V) (v u:Value) (Q:VK),Inv X pins σ H s->aP x v->aP y u->r x y H Q ->
  nS slice ag v u=operate [v,u] (jy v u)->wpAny (model X.prog X.w) X.A (subscriptTail value slice v u) (EP X pins σ Q) X.xe s
abbrev MtR(X:Cx)(id:String)(r:V->List V->Hp->VK->Prop):Prop:=
 ∀(pins:PNS) (s:aE) (σ:St) (H:Hp) (x:V) (xs:List V) (v:Value) (us:LVa) (Q:VK),Inv X pins σ H s->aP x v->aS xs us->r x xs H Q ->
  wpAny (model X.prog X.w) X.A (call (.builtin id) (v::us)) (EP X pins σ Q) X.xe s
variable{r r':R2}
def IxR.or(h:IxR X r)(h':IxR X r'):IxR X (λx y H Q=>r x y H Q\/r' x y H Q):=by
 intro value slice pins s σ H x y v u Q I b c q a
 rcases q with q |q
 .exact h value slice pins s σ H x y v u Q I b c q a
 .exact h' value slice pins s σ H x y v u Q I b c q a
variable{a b:Expr}{ta tb:TE}
def z7{pos:Pos}(m:IxR X r)(g:PE X a ta)(l:PE X b tb)(o:vh b):PE X (.Subscript a b pos) (tOp r ta tb):=by
 intro pins s σ H Q I h;exact Subscript_ (qx g l I h λv u s2 x y c d p t q=>m a b pins s2 σ c x y v u Q d p t q (o _ _))
abbrev FX(K:bo):R2:=λx y H Q=>∃p xs i v,x=.ref p/\y=.int i/\SqL K H p xs/\atI xs i=aa v/\Q v H
abbrev FY(K:bo):R2:=λx y H Q=>∃p xs i v,x=.ref p/\y=.int i/\SqT K H p xs/\atI xs i=aa v/\Q v H
def z8:IxR X (FX X.K):=by
 intro value slice pins s σ H x y v u Q I M N h A;obtain⟨p,xs,i,z,rfl,rfl,L,G,q⟩:=h;subst M;obtain⟨t,rfl⟩:=N;obtain⟨its,r,pl,hz⟩:=I.list L;obtain⟨j,d,B,T,C,E⟩:=z6 G;obtain⟨w,m,l⟩:=r.get B;have J:=r.length;have U:=n5;have c:EP X pins σ Q w s:=⟨z,H,I,l,q⟩
 by_cases o:0<=i
 .have g:i.toNat=j:=by
   rw[seqIndex_of o E]at d;exact cj d
  exact item_listR pl.isList o (by lia) (by rw[g];simpa using m) c A
 .have g:(i+its.toArray.size).toNat=j:=by
   rw[seqIndex_neg (by lia) C]at d;rw[size_toArray,<- J];exact cj d
  exact subscriptTail_builtinR pl.isList.typeIs slot_list_getitem.lookup
   (wpAny_getItem_list_neg pl.isList (by lia) (by rw[size_toArray] <;> lia) (by lia) (by rw[g];simpa using m) ⟨rfl,c⟩) A
def z9:IxR X (FY X.K):=by
 intro value slice pins s σ H x y v u Q I C E h B;obtain⟨p,xs,i,z,rfl,rfl,A,o,q⟩:=h;subst C;obtain⟨t,rfl⟩:=E;obtain⟨its,r,pl,hz⟩:=I.tuple A;obtain⟨j,l,m,G,J,L⟩:=z6 o;obtain⟨w,g,d⟩:=r.get m;have M:=n5;have c:EP X pins σ Q w s:=⟨z,H,I,d,q⟩
 exact subscriptTail_builtinR pl.typeIs slot_tuple_getitem.lookup
  (getItem_tuple pl (by lia) (by lia) (by rw[size_toArray,<- r.length];exact l) (by simpa using g) ⟨rfl,c⟩) B
def FZ(its:LVa)(n j:Nat)(u:Value):gF (·.setIfInBounds j u) {cls:=.type "list",data:=.seq its.toArray n}={cls:=.type "list",data:=.seq (its.set j u).toArray n}:=by
 simp[gF]
variable{pins:PNS}{σ:St}{H:Hp}{s:aE}{p:Addr}{xs:List V}
def Inv.lst(I:Inv X pins σ H s)(h:H p=aa (.lst xs)):
  ∃(its:LVa) (n:Nat),aS xs its/\s.heap.get? p=aa {cls:=.type "list",data:=.seq its.toArray n}/\xs.length<=aW:=by
 obtain⟨z,its,n,r,e⟩:=I.hok p _ h;exact⟨its,n,r,e,z⟩
variable{ys:List V}{n':Nat}
def Inv.lstUpd{its c:LVa}{f:Obj->Obj}(I:Inv X pins σ H s)(h:H p=aa (.lst xs))
 (l:s.heap.get? p=aa {cls:=.type "list",data:=.seq its.toArray n})(d:f {cls:=.type "list",data:=.seq its.toArray n}={cls:=.type "list",data:=.seq c.toArray n'})(r:aS ys c)(hz:ys.length<=aW)(t:Nat):
  Inv X pins σ (upd H p (.lst ys)) {s with heap:=s.heap.update p f,toks:=t}:=by
 have e:(s.heap.update p f).get? p=aa {cls:=.type "list",data:=.seq c.toArray n'}:=by
  rw[mv f l (by rw[d] <;> rfl),d]
 exact I.write (by rw[h];trivial) (.inl rfl) (λb u g q=>(ln _ _ (cF g)).trans q) ⟨_,e⟩ ⟨hz,c,n',r,e⟩
abbrev vi:V->V->V->Hp->(Hp->Prop)->Prop:=λo i v H Q=>∃p xs k j,o=.ref p/\i=.int k/\H p=aa (.lst xs)/\ixN xs.length k=aa j/\Q (upd H p (.lst (xs.set j v)))
def Aa:zE X vi:=by
 intro pins s σ H o i v ov J u Q I B A C h;obtain⟨p,xs,k,j,rfl,rfl,hp,z,q⟩:=h;subst B;obtain⟨t,rfl⟩:=A;obtain⟨its,n,r,l,hz⟩:=I.lst hp;obtain⟨c,E,x,y⟩:=z5 z;have g:=r.length;have G:=n5
 have m:Inv X pins σ _ {s with heap:=s.heap.update p _}:=
  I.lstUpd hp l (FZ its n j u) (r.set C j) (by rw[length_set];exact hz) s.toks
 by_cases w:0<=k
 .have d:k.toNat=j:=by
   rw[seqIndex_of w y]at c;exact cj c
  exact W.ki_setAt l w (by lia) (by rw[size_toArray,<- g];exact y) (by rw[d];exact⟨_,m,q⟩)
 .have d:(k+its.toArray.size).toNat=j:=by
   rw[seqIndex_neg (by lia) x]at c;rw[size_toArray,<- g];exact cj c
  exact W.ki_setBack l (by lia) (by rw[size_toArray,<- g];exact x) (by lia) (by rw[d];exact⟨_,m,q⟩)
def F0(lo hi:Option Int)(n:Nat):(lj lo hi ab n).1=((HT.sIx n 0 lo:Nat):Int)/\(lj lo hi ab n).2.1=((HT.sIx n n hi:Nat):Int)/\(lj lo hi ab n).2.2=1:=by
 refine⟨?_,?_,rfl⟩
 .cases lo with
  |none=>simp[lj,HT.sIx]
  |some i=>
   simp only[lj,HT.sIx,Option.getD_none]
   by_cases h:i<0
   .simp only[h,if_true] <;> lia
   .simp only[h,if_false] <;> lia
 .cases hi with
  |none=>simp[lj,HT.sIx]
  |some i=>
   simp only[lj,HT.sIx,Option.getD_none]
   by_cases h:i<0
   .simp only[h,if_true] <;> lia
   .simp only[h,if_false] <;> lia
def Ab(its:LVa)(lo hi:Option Int):slicePick its.toArray lo hi ab=((its.drop (HT.sIx its.length 0 lo)).take (HT.sIx its.length its.length hi-HT.sIx its.length 0 lo)).toArray:=by
 obtain⟨c,d,g⟩:=F0 lo hi its.toArray.size;unfold slicePick;rw[c,d,g]
 simp only[sliceRange_one,pick_run] <;> rfl
abbrev F1(K:bo):V->Option Int->Option Int->Hp->VK->Prop:=λx lo hi H Q=>∃a xs,x=.ref a/\SqL K H a xs/\∀p,H p=ab->Q (.ref p) (upd H p (.lst (lu xs lo hi)))
def F2:SlR X (F1 X.K):=by
 intro pins s σ H x v u w lo hi sl Q I o g pl m h;obtain⟨a,xs,rfl,l,q⟩:=h;subst o;obtain⟨its,r,d,hz⟩:=I.list l;have c:=r.length;refine⟨"list",_,slot_list_getitem.lookup,d.isList.typeIs,?_⟩
 refine wpAny_getItem_list_slice d.isList g pl m .none (by simp) ?_ (by rw[size_toArray] <;> lia)
 rw[Ab,<- c];refine⟨.ref s.heap.objs.size,_,I.laid (λb t q=>bQ _ q) (bf _) ?_,rfl,q _ (I.hok.fresh (bf _))⟩;exact⟨dC (z4 xs lo hi) hz,_,0,(r.drop _).take _,dE _ rfl⟩
abbrev fO:V->Bool
 |.non=>ac
 |.bl _=>ac
 |.int _=>ac
 |.str _=>ac
 | _=>ag
abbrev eqV:V->V->Bool
 |.non,.non=>ac
 |.bl a,.bl b=>a==b
 |.bl a,.int b=>(if a then 1 else 0)==b
 |.int a,.bl b=>a==(if b then 1 else 0)
 |.int a,.int b=>a==b
 |.str a,.str b=>a==b
 | _,_=>ag
variable{y x:V}{u v:Value}
def Ac{A:dH}(g:aP y u)(c:aP x v)(h:fO y=ac)(d:fO x=ac):c5 A s u v (eqV y x):=by
 cases y with
 |non=>
  cases g
  cases x with
  |non=>subst c;exact uZ _
  |bl b=>subst c;exact c5.none_bool b
  |int b=>obtain⟨t,rfl⟩:=c;exact c5.none_int b t
  |str b=>obtain⟨t,rfl⟩:=c;exact c5.none_str b t
  | _=>exact absurd (d) bS
 |bl a=>
  subst g
  cases x with
  |non=>subst c;exact c5.bool_none a
  |bl b=>subst c;exact c5.bool_bool a b
  |int b=>obtain⟨t,rfl⟩:=c;exact c5.bool_int a b t
  |str b=>obtain⟨t,rfl⟩:=c;exact c5.bool_str a b t
  | _=>exact absurd (d) bS
 |int a=>
  obtain⟨t',rfl⟩:=g
  cases x with
  |non=>subst c;exact c5.int_none a t'
  |bl b=>subst c;exact c5.int_bool a t' b
  |int b=>obtain⟨t,rfl⟩:=c;exact c5.int_int a t' b t
  |str b=>obtain⟨t,rfl⟩:=c;exact c5.int_str a t' b t
  | _=>exact absurd (d) bS
 |str a=>
  obtain⟨t',rfl⟩:=g
  cases x with
  |non=>subst c;exact c5.str_none a t'
  |bl b=>subst c;exact c5.str_bool a t' b
  |int b=>obtain⟨t,rfl⟩:=c;exact c5.str_int a t' b t
  |str b=>obtain⟨t,rfl⟩:=c;exact c5.str_str a t' b t
  | _=>exact absurd (d) bS
 | _=>exact absurd (h) bS
abbrev eqU(x:V)(u:Value):Bool:=match u with
 |.none=>eqV .non x
 |.bool b=>eqV (.bl b) x
 |.int i _=>eqV (.int i) x
 |.str z _=>eqV (.str z) x
 | _=>ag
def Ad(r:aP y u)(f:fO y=ac):eqU x u=eqV y x:=by
 cases y with
 |non=>subst r;rfl
 |bl b=>subst r;rfl
 |int i=>obtain⟨t,rfl⟩:=r;rfl
 |str z=>obtain⟨t,rfl⟩:=r;rfl
 | _=>exact absurd (f) bS
def n6{x:V}:∀{xs:List V} {us:LVa},aS xs us->xs.all fO=ac->us.any (eqU x)=xs.any λy=>eqV y x
 | _,_,.nil,_=>rfl
 |y::xs,u::us,.cons r t,f=>by
  rw[jR,cS]at f;rw[eS,eS,Ad r f.1,n6 t f.2]
def n8{A:dH}{s:aE}{x:V}{v:Value}(g:aP x v)(d:fO x=ac):∀{xs:List V} {us:LVa},aS xs us->xs.all fO=ac->∀u∈us,c5 A s u v (eqU x u)
 | _,_,.nil,_=>λu c=>by nomatch c
 |y::xs,u::us,.cons r t,f=>λh c=>by
  rw[jR,cS]at f
  rcases bX.mp c with rfl |c
  .rw[Ad r f.1];exact Ac r g f.1 d
  .exact n8 g d t f.2 h c
abbrev inV(x:V)(xs:List V):Bool:=xs.any λy=>eqV y x
abbrev rIn(K:bo)(neg:Bool):R2:=λx y H Q=>∃p xs,y=.ref p/\(SqL K H p xs\/SqT K H p xs)/\fO x=ac/\xs.all fO=ac/\Q (.bl (if neg then !inV x xs else inV x xs)) H
def F3:OpR X (cU .In) (rIn X.K ag):=by
 intro pins s σ H x y v u Q I l m h;obtain⟨p,xs,rfl,c,g,fs,q⟩:=h;subst m
 rcases c with c |c
 .obtain⟨its,r,pl,hz⟩:=I.list c;refine SeqAt.in_listAt _ pl.isList (λw d=>n8 l g r fs w (by simpa using d)) ⟨.bl _,H,I,rfl,?_⟩;rw[show its.toArray.any _=its.any (eqU x) by simp,n6 r fs];exact q
 .obtain⟨its,r,pl,hz⟩:=I.tuple c;refine SeqAt.in_tupleAt _ pl (λw d=>n8 l g r fs w (by simpa using d)) ⟨.bl _,H,I,rfl,?_⟩;rw[show its.toArray.any _=its.any (eqU x) by simp,n6 r fs];exact q
def F4:OpR X (cU .NotIn) (rIn X.K ac):=by
 intro pins s σ H x y v u Q I l m h;obtain⟨p,xs,rfl,c,g,fs,q⟩:=h;subst m
 rcases c with c |c
 .obtain⟨its,r,pl,hz⟩:=I.list c;refine SeqAt.notIn_listAt _ pl.isList (λw d=>n8 l g r fs w (by simpa using d)) ⟨.bl _,H,I,rfl,?_⟩;rw[show its.toArray.any _=its.any (eqU x) by simp,n6 r fs];exact q
 .obtain⟨its,r,pl,hz⟩:=I.tuple c;refine SeqAt.notIn_tupleAt _ pl (λw d=>n8 l g r fs w (by simpa using d)) ⟨.bl _,H,I,rfl,?_⟩;rw[show its.toArray.any _=its.any (eqU x) by simp,n6 r fs];exact q
def F5:fH X (.builtin "len") (λxs H Q=>∃p ys,xs=[.ref p]/\(SqL X.K H p ys\/SqT X.K H p ys)/\Q (.int ys.length) H):=by
 intro pins s σ H xs us Q I r h;obtain⟨p,ys,rfl,d,q⟩:=h;obtain⟨u,rfl,g⟩:=g6 r;subst g;have l:=n5
 rcases d with d |d
 .obtain⟨its,r',pl,hz⟩:=I.list d;have c:=r'.length
  exact Calls.call_len_list pl.isList (by simp only[size_toArray] <;> lia) ⟨.int ys.length,H,I.tok _,⟨s.toks+1,by rw[size_toArray,c]⟩,q⟩
 .obtain⟨its,r',pl,hz⟩:=I.tuple d;have c:=r'.length
  exact len_tuple pl (by simp only[size_toArray] <;> lia) ⟨.int ys.length,H,I.tok _,⟨s.toks+1,by rw[size_toArray,c]⟩,q⟩
def F6:fH X (.builtin "len") (λxs H Q=>∃z,xs=[.str z]/\z.length<=aW/\Q (.int z.length) H):=by
 intro pins s σ H xs us Q I r h;obtain⟨z,rfl,hz,q⟩:=h;obtain⟨u,rfl,t,rfl⟩:=g6 r;have c:=n5;exact len_str (by lia) ⟨.int z.length,H,I.tok _,⟨_,rfl⟩,q⟩
def F7:fH X (.type "list") (λxs H Q=>∃p ys,xs=[.ref p]/\(SqL X.K H p ys\/SqT X.K H p ys)/\∀l,H l=ab->Q (.ref l) (upd H l (.lst ys))):=by
 intro pins s σ H xs us Q I r h;obtain⟨p,ys,rfl,m,q⟩:=h;obtain⟨u,rfl,A⟩:=g6 r;subst A
 have d:∀its,aS ys its->ys.length<=aW->∀h' c,_ ->
   h'.get? s.heap.objs.size=aa {cls:=.type "list",dict:=ab,data:=.seq its.toArray c,slots:=#[]}->EP X pins σ Q _ {s with heap:=h'}:=λits r' hz h' c kp e=>
  ⟨.ref s.heap.objs.size,_,I.laid kp (bf _) (show e7 X.prog X.w _ h' _ (.lst ys)from⟨hz,its,c,r',e⟩),rfl,q _ (I.hok.fresh (bf _))⟩
 rcases m with m |m
 .obtain⟨its,r',pl,hz⟩:=I.list m;have g:=r'.length;obtain⟨o,z,t,n,hd⟩:=pl.isList
  exact call_list_seq p (.inl rfl) z t hd (λh' c kp e=>d its r' hz h' c kp e) (by simp only[size_toArray] <;> lia)
 .obtain⟨its,r',pl,hz⟩:=I.tuple m;have g:=r'.length;obtain⟨o,z,t,n,hd⟩:=pl
  exact call_list_seq p (.inr rfl) z t hd (λh' c kp e=>d its r' hz h' c kp e) (by simp only[size_toArray] <;> lia)
abbrev tyV(K:bo)(T:String)(x:V)(H:Hp):Prop:=match x with
 |.str _=>T="str"
 |.int _=>T="int"
 |.ref p=>(T="list" /\ ∃xs,SqL K H p xs)\/(T="tuple" /\ ∃o,K.lookup p=aa o/\o.cls=.type "tuple" /\ o.dict=ab) \/
   (T="dict" /\ ((∃kvs,H p=aa (.dK kvs))\/∃kvs,H p=aa (.dT kvs)))\/(T="set" /\ ∃S n,H p=aa (.set S n))
 | _=>False
variable{T:String}
def F8(I:Inv X pins σ H s)(r:aP x v)(ty:tyV X.K T x H):
  s.TypeIs v T/\∀a,v=.ref a->∃h,s.heap.get? a=aa h/\h.dict=ab:=by
 cases x with
 |str z=>
  obtain⟨t,rfl⟩:=r;cases (ty)
  exact⟨typeIs_str s z t,λ_ e=>nomatch e⟩
 |int i=>
  obtain⟨t,rfl⟩:=r;cases (ty)
  exact⟨typeIs_int s i t,λ_ e=>nomatch e⟩
 |ref p=>
  subst r
  rcases ty with⟨rfl,xs,m⟩ |⟨rfl,o,d,l,hd⟩ |⟨rfl,d⟩ |⟨rfl,S,n,d⟩
  .obtain⟨its,_,pl,_⟩:=I.list m;refine⟨pl.isList.typeIs,λa e=>?_⟩;cases e;obtain⟨o,n,e,c,hd,_⟩:=pl;exact⟨o,e,hd⟩
  .refine⟨⟨o,I.kIn p o d,l⟩,λa e=>?_⟩;cases e;exact⟨o,I.kIn _ o d,hd⟩
  .have z:∃o,s.heap.get? p=aa o/\o.ExactDict:=by
    rcases d with⟨kvs,d⟩ |⟨kvs,d⟩
    .obtain⟨_,_,_,_,o,_,_,e,ex,_⟩:=I.hok p _ d;exact⟨o,e,ex⟩
    .obtain⟨_,_,_,_,o,_,_,e,ex,_⟩:=I.hok p _ d;exact⟨o,e,ex⟩
   obtain⟨o,e,ex⟩:=z;refine⟨⟨o,e,ex.1⟩,λa g=>?_⟩;cases g;exact⟨o,e,ex.2.1⟩
  .obtain⟨o,_,_,_,e,ex,_⟩:=I.hok p _ d;refine⟨⟨o,e,ex.1⟩,λa g=>?_⟩;cases g
   exact⟨o,e,ex.2.1⟩
 | _=>exact iS ty
abbrev tBM(K:bo)(T:String)(r:V->List V->Hp->VK->Prop)(to:TE)(t:TA):TE:=λσ H Q=>to σ H λx c=>tyV K T x c/\t σ c λxs d=>r x xs d Q
variable{o:Expr}{es:LEx}{t:TA}{name:Str}{apos cpos:Pos}{r:V->List V->Hp->VK->Prop}
def dF{to:TE}{id:String}(pa:PlainAttrs T)(slot:Slot T name id)(m:typeOf (.builtin id)=pure (.type "method_descriptor"))(L:MtR X id r)(M:PE X o to)(J:PA X (e::es) t)
 (d:attributeBase o name X.env (eval o X.env)=eval o X.env:=by rfl)
 (l:((fM cpos (bi (e::es) X.env)).all (λx=>!x.1) && (backToKw cpos (keywordEach [] X.env)).all (λx=>x.1.isSome)
   && decide ((e::es).length+([]:List Keyword).length+(if ([]:List Keyword).isEmpty then 0 else 1)<30))=ac:=by rfl)
 (g:(apos.endLine==cpos.line)=ac:=by rfl)(N:StE X e es:=by rfl)(c:(fM cpos (bi es X.env)).any (·.1)=ag:=by rfl):
  PE X (.Call (.Attribute o name apos) (e::es) [] cpos) (tBM X.K T r to t):=by
 intro pins s σ H Q I h;refine wpAny_Call_method_late d l g rfl (thn (M pins s σ H _ I h) λv s1 q_=>?_);obtain⟨x,A,q,z,ty,U⟩:=q_;obtain⟨E,G⟩:=F8 q z ty;refine⟨T,id,pa,slot,m,E,G,?_⟩;have w:=J cpos pins s1 σ A _ q U;rw[N]at w ⊢
 exact Calls.callWith_builtin (by show(ag || (fM cpos _).any (·.1))=ag;rw[c] <;> rfl) (Calls.evalArgs_plain (thn w λus s2 ⟨vs,B,C,r2,Y⟩=>L pins s2 σ B x vs v us Q C z r2 Y))
abbrev MtM(X:Cx)(id:String)(r:V->List V->Hp->VK->Prop):Prop:=
 ∀(pins:PNS) (s:aE) (σ:St) (H:Hp) (x:V) (xs:List V) (v:Value) (us:LVa) (Q:VK),Inv X pins σ H s->aP x v->aS xs us->r x xs H Q ->
  wpAny (model X.prog X.w) X.A (call (.builtin id) (v::us)) (EP X pins σ Q) X.xe s
def aS.one:∀{x:V} {us:LVa},aS [x] us->∃u,us=[u]/\aP x u
 | _,_,.cons r .nil=>⟨_,rfl,r⟩
def aS.two:∀{x y:V} {us:LVa},aS [x,y] us->∃u v,us=[u,v]/\aP x u/\aP y v
 | _,_,_,.cons r (.cons q .nil)=>⟨_,_,rfl,r,q⟩
variable{us:LVa}
def aS.reverse(h:aS xs us):aS xs.reverse us.reverse:=by
 induction h with
 |nil=>exact .nil
 |cons r t c=>rw[gl,gl];exact aS.append c (.cons r .nil)
variable{l:Addr}{t':Nat}
def Inv.lset{its c:LVa}{f:Array Value->Array Value}(I:Inv X pins σ H s)(d:H l=aa (.lst xs))
 (e:s.heap.get? l=aa {cls:=.type "list",data:=.seq its.toArray n})(h:f its.toArray=c.toArray)(w:aS ys c)(hz:ys.length<=aW):
  Inv X pins σ (upd H l (.lst ys)) {s with heap:=s.heap.update l (gF f),toks:=t'}:=by
 have q:=PySem.IsL.update e f;rw[h]at q;exact I.write (by rw[d];exact trivial) (.inl rfl) (λz u g m=>(ln s.heap _ (cF g)).trans m) ⟨_,q⟩ ⟨hz,c,_,w,q⟩
def Inv.lnew{its:LVa}(I:Inv X pins σ H s)(c:aS ys its)(hz:ys.length<=aW):
  Inv X pins σ (upd H s.heap.objs.size (.lst ys)) {s with heap:=s.heap.push {cls:=.type "list",data:=.seq its.toArray},toks:=t'}:=
 I.laid (λ_ _ q=>bQ _ q) (bf _) ⟨hz,its,0,c,dE _ rfl⟩
def Inv.fresh(I:Inv X pins σ H s):H s.heap.objs.size=ab:=I.hok.fresh (bf _)
def Inv.lstM(I:Inv X pins σ H s)(c:H l=aa (.lst xs)):xs.length<=aW/\∃(its:LVa) (n:Nat),aS xs its/\xs.length=its.length/\s.heap.get? l=aa {cls:=.type "list",data:=.seq its.toArray n}:=by
 obtain⟨z,its,n,r,e⟩:=I.hok l _ c;exact⟨z,its,n,r,r.length,e⟩
def Ae(h:n<=aW):zl n=ag:=by
 exact decide_eq_false (by lia)
abbrev vj:V->List V->Hp->VK->Prop:=λx vs H Q=>∃l xs y,x=.ref l/\vs=[y]/\H l=aa (.lst xs)/\xs.length<aW/\Q .non (upd H l (.lst (xs++[y])))
def ga:MtM X "list.append" vj:=by
 intro pins s σ H x vs v us Q I m g h;obtain⟨l,xs,y,rfl,rfl,c,hz,q⟩:=h;subst m;obtain⟨u,rfl,d⟩:=g.one;obtain⟨z,its,n,r,w,e⟩:=I.lstM c;refine mr F.slot_list_append ⟨_,e,rfl⟩ F.entry_list_append (F.args_list_append_2 _ _) (PySem.list_append l its.toArray n u (by rw[size_toArray];lia)) ⟨e,?_⟩;refine⟨.non,_,I.lset c e (by simp) (r.append (.cons d .nil)) ?_,rfl,q⟩;rw[aJ,eZ];lia
abbrev Af:V->List V->Hp->VK->Prop:=λx vs H Q=>∃l b xs c,x=.ref l/\vs=[.ref b]/\H l=aa (.lst xs)/\H b=aa (.lst c)/\xs.length+c.length<=aW/\Q .non (upd H l (.lst (xs++c)))
def oe:MtM X "list.extend" Af:=by
 intro pins s σ H x vs v us Q I J G h;obtain⟨l,b,xs,N,rfl,rfl,g,w,hz,q⟩:=h;subst J;obtain⟨u,rfl,E⟩:=G.one;subst E;obtain⟨z,its,n,r,L,e⟩:=I.lstM g;obtain⟨M,c,B,C,A,m⟩:=I.lstM w;have hsz:its.toArray.size+c.toArray.size<=aW:=by rw[size_toArray,size_toArray];lia
 have d:¬(!its.toArray.isEmpty && zl (its.toArray.size+c.toArray.size))=ac:=by
  rw[Ae hsz,Bool.and_false];exact bS
 refine mr F.slot_list_extend ⟨_,e,rfl⟩ F.entry_list_extend (F.args_list_extend_2 _ _)
  (AutoSeq1.list_extend_list_list_0 l its.toArray n b c.toArray B d (by rw[size_toArray];lia) (by lia)) ⟨e,m,?_⟩
 refine⟨.non,_,I.lset g e (by simp) (r.append C) ?_,rfl,q⟩;rw[aJ];lia
abbrev F9:R2:=λx y H Q=>∃l b xs c,x=.ref l/\y=.ref b/\H l=aa (.lst xs)/\H b=aa (.lst c)/\xs.length+c.length<=aW/\∀p,H p=ab->Q (.ref p) (upd H p (.lst (xs++c)))
def Ag:OpR X (fo .Add) F9:=by
 intro pins s σ H x y v u Q I C E h;obtain⟨l,b,xs,M,rfl,rfl,w,m,hz,q⟩:=h;subst C;subst E;obtain⟨z,its,n,r,G,e⟩:=I.lstM w;obtain⟨L,c,J,B,A,d⟩:=I.lstM m;refine PySem.P.add_list e d ?_ (by rw[size_toArray,size_toArray];lia);have g:its.toArray++c.toArray=(its++c).toArray:=by simp
 rw[g];exact⟨.ref _,_,I.lnew (r.append B) (by rw[aJ];lia),rfl,q _ I.fresh⟩
end L2
namespace Att
open List
open PySem PySem.W PySem.Calls PyProof.Rows
variable{P:Params}{h:Heap}
def Ga:∀(ns:List Int) (vs:LVa),WellAll P h vs (ns.map WData.int)->IntsAre vs ns:=by
 intro ns
 induction ns with
 |nil=>
  intro vs w;cases w
  exact .nil
 |cons n ns c=>
  intro vs w
  cases w with
  |cons a b=>
   cases a;exact .cons _ _ (c _ b)
variable{l:OpenLaw}{n:Nat}
def Gb(s:l.most=aa n){args:List WData}{c:LVa}
 (b:l.row.toRowW.claim.pre args=ac)(m:WellAll P h c args):
  ∃a vs ns,c=[gZ a]/\args=[WData.list (ns.map WData.int)]/\h.get? a=aa {cls:=.type "list",data:=.seq vs.toArray}/\IntsAre vs ns/\ns.length<=n:=by
 obtain⟨d,r,rfl,o,p⟩:=hasAllW_cons ((pre_splitW b).1);obtain rfl:=hasAllW_nil p;obtain⟨xs,rfl,q⟩:=hasW_list o;obtain⟨ns,rfl⟩:=items_int q
 have g:ns.length<=n:=by
  have i:(WTm.not (.lt (.lit (.int n)) (.len (.arg 0)))).holds [] {args:=[.list (ns.map .int)]}=ac:=by
   have i:=(holds_andW ((pre_splitW b).2)).1;rw[s]at i;exact i
  have j:=condW_of i (w_not (w_lt w_lit (w_len_list (w_arg rfl))))
  first
   |(rw[decide_eq_true q']at j;exact absurd j (by decide))
   |(simp at j;lia)
 cases m with
 |cons u v=>
  cases v
  cases u with
  |list t e=>exact⟨_,_,ns,rfl,rfl,t,Ga ns _ e,g⟩
def Gd(l:OpenLaw)(args:List WData):l.row.toRowW.claim.post args (.bool ac) args=ac:=
 postW_of
  (show WShape.has [] _ .bool=ac by first |rfl |decide |simp[WShape.has])
  (w_eq_bool (w_res rfl) w_lit) rfl
variable{q:di}{d9:LSt}{XP:MGT->Heap->Prop}{YP:World->Heap->Prop}{d:DefRec}
def attach_call
 (I:l.most=aa n)(p:d.params.defaults=[])
 (call:∀ (w:World) (s₀ b:aE) (mg mb:MGT) (fa:Addr) (o:Obj) (pm j doc:Value) (a:Addr) (vs:LVa) (ns:List Int),
   Ground q d9 [] XP w s₀ mg mb b.heap->YP w b.heap ->
   b.heap.get? fa=aa o->o.data=.func (docDef d.name d.params d.body d.scope pm j doc)->b.heap.CodeRec j d.name->mg d.name=aa (.ref fa) ->
   b.heap.get? a=aa {cls:=.type "list",data:=.seq vs.toArray}->IntsAre vs ns->ns.length<=n->b.gens=#[] ->
   gp (model l.prog w) callerA (.call (.ref fa) ⟨[.ref a],[]⟩) (λr s'=>r=.ok (.ret (.bool ac))/\OldK b.heap s'.heap/\s'.os=b.os/\jx s'.gens) b):
  WalkO q d9 XP YP l.row.toRowW d [] (λf vs=>PySem.call f vs):=by
 intro w s₀ b mg mb G Y fa o pm j doc y kV J hd m u s C args x N i v M t E;obtain rfl:y=.none:=Dflts.none u p;obtain rfl:kV=.none:=Dflts.noKw u;obtain⟨a,vs,ns,rfl,rfl,g,c,e⟩:=Gb I i t;refine enter_call (li (call w s₀ b mg mb fa o pm j doc a vs ns G Y J (fd_plain hd) m s g c e C) λr s' L=>?_);obtain⟨rfl,z,A,B⟩:=L;exact⟨.inl ⟨.bool ac,.bool ac,[],rfl,λ_=>rfl,.bool ac,Gd l _,λ_=>⟨List.Pairwise.nil,λ_ H=>(nomatch H)⟩⟩,z,A,B⟩
end Att
namespace L2
open List
open PySem PySem.Spec PyProof.Rows
def Ah:∀{vs:LVa} {ns:List Int},IntsAre vs ns->aS (ns.map V.int) vs
 | _,_,.nil=>.nil
 | _,_,.cons n t h=>.cons ⟨t,rfl⟩ (Ah h)
abbrev qG(H:Hp):Prop:=∀b,H b=ab\/∃o xs,H b=aa (.frz o (.lst xs))
variable{P:di}{w:World}{K:bo}{mg:MGT}{a:Addr}{fd:fL}{x:Str}{ns:List Int}
def Ge{mb:MGT}{CX:CXT}{k:Nat}{fa:Addr}{sp:Sp}{c:aE}{vs:LVa}
 (T:K.In c.heap)(A:c.heap.Ns cL mg)(i:c.heap.Ns builtinsNs mb)(L:∀x:Str,x ≠ "__name__" -> mb x=gU x)(y:c.heap.NoLimit)(hg:c.gens=#[])
 (G:c.heap.get? a=aa {cls:=.type "list",data:=.seq vs.toArray})(hi:IntsAre vs ns)(hl:ns.length<=aW)(hr:dL k callerA)
 (F:∀base:Heap,K.In base->base.Ns cL mg->f9 P w K mg base CX k fa fd [x] sp)(p:∀(s:aE) (u:Value),BindsTo s fd ⟨[u],[]⟩ [(x,u)])
 (N:∀H:Hp,qG H->SqL K H a (ns.map V.int)->sp [.ref a] H (λv _=>v=.bl ac) λ_ _ _=>False)
 (J:∀H e s',CX [] H c (λ_ _ _=>False) e s'->False):
  gp (model P w) callerA (.call (.ref fa) ⟨[.ref a],[]⟩) (λr s'=>r=.ok (.ret (.bool ac))/\OldK c.heap s'.heap/\s'.os=c.os/\jx s'.gens) c:=by
 have rv:=Ah hi
 have l:∀H:Hp,qG H->SqL K H a (ns.map V.int)->HOk P w H c.heap->(∀b,H b≠ab->b=a)->(H a≠ab->K.lookup a=ab) ->
   gp (model P w) callerA (.call (.ref fa) ⟨[.ref a],[]⟩) (λr s'=>r=.ok (.ret (.bool ac))/\OldK c.heap s'.heap/\s'.os=c.os/\jx s'.gens) c:=by
  intro H hO hS hok Y hK;have g:∀{b:Addr} {o:Obj},c.heap.get? b=aa o->H b=ab->(my c.heap H).get? b=aa o:=λe n=>Eu e n
  have Q:∀{b:Addr} {o:Obj} {es:Array DictEntry} {E:Nat},c.heap.get? b=aa o->o.data=.dict es E->H b=ab:=λ{b o es E} e d=>by
   cases q:H b with
   |none=>rfl
   |some u=>
    have I:=Y b (by rw[q];simp);subst I;rw[G]at e;cases e
    nomatch d
  have j:∀{b:Addr} {m:MGT},c.heap.Ns b m->(my c.heap H).Ns b m:=λ{b m} ⟨o,es,E,e,d,r⟩=>⟨o,es,E,g e (Q e d),d,r⟩
  have t:=λb o e=>g (T b o e) (by
   cases q:H b with
   |none=>rfl
   |some u=>
    have I:=Y b (by rw[q];simp);subst I;rw[hK (by rw[q];simp)]at e;nomatch e)
  have hM:Mod K mg _:=⟨t,j A,⟨mb,j i,L⟩,let ⟨mc,h1,h2⟩:=y;⟨mc,j h1,h2⟩⟩;have e0:qB P w K mg _ callerA [] c H:=⟨rfl,hM,λb o e=>Ev e,Nat.le_of_eq (Et _ _),trivial,λb i=>absurd (show b∈([]:LAd)from i) (by simp),hok,.of_eq hg⟩;refine li ((F _ t (j A)).run callerA [] c H ⟨[.ref a],[]⟩ _ [.ref a] _ _ hr e0 (p c _) (.cons rfl .nil) (N H hO hS)) λr s' h=>?_
  cases r with
  |error e=>exact(J H e s' h).elim
  |ok fl=>
   cases fl with
   |next=>exact iS h
   |brk=>exact iS h
   |cont=>exact iS h
   |ret u=>
    obtain⟨v,H',os,bare,un,B,r',q⟩:=h;subst q;obtain rfl:u=f8 ac:=r';refine⟨rfl,OldK.of_keep λb o e=>?_,os,bare⟩
    cases q:H b with
    |none=>exact un.keep b o e q (by intro z;exact absurd (show b∈([]:LAd)from z) (by simp)) (by simp)
    |some u=>
     rcases hO b with z |⟨ob,xs,z⟩
     .rw[q]at z;nomatch z
     .have z2:=un.frzs b ob _ z;obtain⟨U,_⟩:=hok b _ z;obtain⟨e2,_⟩:=B b _ z2;rw[e]at U;cases U;exact e2
 cases M:K.lookup a with
 |some o=>
  have e:=T a o M;rw[G]at e;cases e
  refine l _ (λ_=>.inl rfl) (.inr ⟨_,vs.toArray,_,M,rfl,rfl,rfl,by rw[size_toArray,hi.length];exact hl,by simpa using rv⟩) (λb u z=>by have C:_=aa u:=z;nomatch C) (λb z=>absurd rfl z) λz=>absurd rfl z
 |none=>
  refine l (λb=>if b=a then aa _ else ab) (λb=>?_) (.inl (.inr ⟨{cls:=.type "list",data:=.seq vs.toArray},if_pos rfl⟩)) (λb u z=>?_) (λb z=>?_) λ_=>M
  .by_cases i:b=a
   .exact .inr ⟨_,_,if_pos i⟩
   .exact .inl (if_neg i)
  .by_cases i:b=a
   .have C:=(if_pos i).symm.trans z;cases C;subst i;exact⟨G,by rw[av];exact hl,vs,_,rv,G⟩
   .have C:=(if_neg i).symm.trans z
    nomatch C
  .by_cases i:b=a
   .exact i
   .exact absurd (if_neg i) z
variable{h:Heap}
@[reducible]noncomputable def KOf(_:K.In h):bo:=K
variable{l:W.OpenLaw}{q:di}{d9:LSt}{XP:MGT->Heap->Prop}{YP:World->Heap->Prop}{d:DefRec}
def Gf{n k:Nat}{K:Params->bo}{CX:World->CXT}{sp:World->Sp}
 (N:l.most=aa n)(y:n<=aW)(r:d.params.defaults=[])(Q:dL k callerA)
 (I:∀(w:World) (h:Heap),YP w h->(K w.params).In h)
 (F:∀ (w:World) (mg:MGT) (fa:Addr) (h:Heap),(K w.params).In h->h.Ns cL mg->mg d.name=aa (.ref fa) ->
   ∃fd:fL,(∀(s:aE) (u:Value),BindsTo s fd ⟨[u],[]⟩ [(x,u)]) /\
    ∀base:Heap,(K w.params).In base->base.Ns cL mg->f9 l.prog w (K w.params) mg base (CX w) k fa fd [x] (sp w))
 (z:∀(w:World) (H:Hp) (a:Addr) (ns:List Int),ns.length<=n->qG H->SqL (K w.params) H a (ns.map V.int)->sp w [.ref a] H (λv _=>v=.bl ac) λ_ _ _=>False)
 (p:∀(w:World) (H:Hp) (s:aE) (e:Value) (s':aE),CX w [] H s (λ_ _ _=>False) e s'->False):
  W.WalkO q d9 XP YP l.row.toRowW d [] (λf vs=>PySem.call f vs):=by
 refine Att.attach_call N r λw s₀ m mg mb fa o pm U doc a vs ns G Y ho hd L t j i c M=>?_;have A:=I w _ Y;obtain⟨fd,J,B⟩:=F w mg fa _ A G.T.g t;exact Ge A G.T.g G.T.b G.T.builtins G.T.nolimit M j i (dC c y) Q B J (λH C E=>z w H a ns c C E) λH e s'=>p w H m e s'
variable{CX:CXT}
def walk_ofK{n k:Nat}{K:Params->bo}{sp:bo->Sp}
 (r:l.most=aa n)(g:n<=aW)(c:d.params.defaults=[])(t:dL k callerA)
 (p:∀(w:World) (h:Heap),YP w h->(K w.params).In h)
 (F:∀ (w:World) (mg:MGT) (fa:Addr) (h:Heap),(K w.params).In h->h.Ns cL mg->mg d.name=aa (.ref fa) ->
   ∃fd:fL,(∀(s:aE) (u:Value),BindsTo s fd ⟨[u],[]⟩ [(x,u)]) /\
    ∀base:Heap,(K w.params).In base->base.Ns cL mg->f9 l.prog w (K w.params) mg base CX k fa fd [x] (sp (K w.params)))
 (i:∀(K:bo) (H:Hp) (a:Addr) (ns:List Int),ns.length<=n->qG H->SqL K H a (ns.map V.int)->sp K [.ref a] H (λv _=>v=.bl ac) λ_ _ _=>False)
 (b:∀(H:Hp) (s:aE) (e:Value) (s':aE),CX [] H s (λ_ _ _=>False) e s'->False):
  W.WalkO q d9 XP YP l.row.toRowW d [] (λf vs=>PySem.call f vs):=
 Gf r g c t p F (λw H a ns j m o=>i _ H a ns j m o) λ_ H s e s'=>b H s e s'
abbrev og(s:Stmt):Arguments:=match s with
 |.FunctionDef _ a _ _ _ _ _ _ _ _=>a
 | _=>{posonlyargs:=[],args:=[],vararg:=ab,kwonlyargs:=[],kw_defaults:=[],kwarg:=ab,defaults:=[]}
abbrev j3(s:Stmt):List Stmt:=match s with
 |.FunctionDef _ _ b _ _ _ _ _ _ _=>b
 | _=>[]
abbrev bc(s:Stmt):Scope:=match s with
 |.FunctionDef _ _ _ _ _ _ sc _ _ _=>sc
 | _=>{kind:=.function,names:=[],isGenerator:=ag,isCoroutine:=ag}
nonrec abbrev CX0:CXT:=λ_ _ _ _ _ _=>False
nonrec abbrev E0:XK:=λ_ _ _=>False
variable{X:Cx}
def qH:ve CX0 X E0:=λ_ _ _ _ _ _ _ h=>h.elim
structure Fun(K:bo)(x qual:Str)(st:Stmt)(f:Addr)(fd:fL):Prop where
 ex:∃(oc:Value) (od:Option Addr) (kV doc pm:Value) (an:Option Addr) (cdv ct:Value) (osl:Array (Option Value)),
  fd=W.fnOf x qual (og st) (j3 st) (bc st) .none kV doc pm an cdv ct/\K.lookup f=aa ⟨oc,od,.func fd,osl⟩/\W.codeIn K cdv qual=ac
 kp:W.keepIn K (.ref f)=ac
variable{base:Heap}{qual:Str}{st:Stmt}{N ps:LSt}{sp:Sp}
def Fun.ok{f:Addr}{k:Nat}(F:Fun K x qual st f fd)(S:bn N ps (bc st))(len:∀vs H Q E,sp vs H Q E->vs.length=ps.length)
 (b:∀ (cdv:Value) (A:dH) (outer:List Env) (s:aE) (H:Hp) (vs:List V) (Q:VK) (E:XK),dL k (A.deeper (ix qual (bc st) s.heap.objs.size f cdv))->sp vs H Q E ->
   ∃t,PSs (j2 CX0 P w K mg base N qual (bc st) f cdv A outer s H E).nox (j3 st) t/\t {nx:=λ_ H'=>Q .non H',rt:=Q} (start N vs) H):f9 P w K mg base CX0 (k+1) f fd ps sp:=by
 obtain⟨oc,od,kV,doc,pm,an,cdv,ct,osl,rfl,i,c⟩:=F.ex;refine FN i c S len λA outer s H vs Q E g e=>?_;obtain⟨t,h,q⟩:=b cdv A outer s H vs Q E g e;exact⟨t,h.nox,q⟩
def Fun.binds{f:Addr}(F:Fun K x qual st f fd)
 (h:∀(kV doc pm:Value) (an:Option Addr) (cdv ct:Value) (us:LVa),us.length=ps.length->bindArgs (W.fnOf x qual (og st) (j3 st) (bc st) .none kV doc pm an cdv ct) ⟨us,[]⟩=pure (ps.zip us)):lr K fd ps []:=by
 obtain⟨oc,od,kV,doc,pm,an,cdv,ct,osl,rfl,c,b⟩:=F.ex;exact .all (h kV doc pm an cdv ct)
def fun_mk{f:Addr}{oc:Value}{od an:Option Addr}{osl:Array (Option Value)}{kV doc pm cdv ct:Value}(l:K.lookup f=aa ⟨oc,od,.func (W.fnOf x qual (og st) (j3 st) (bc st) .none kV doc pm an cdv ct),osl⟩)
 (c:W.codeIn K cdv qual=ac)(k:W.keepIn K (.ref f)=ac):Fun K x qual st f (W.fnOf x qual (og st) (j3 st) (bc st) .none kV doc pm an cdv ct):=⟨⟨oc,od,kV,doc,pm,an,cdv,ct,osl,rfl,l,c⟩,k⟩
structure Df(K:bo)(mg:MGT)(x:Str)(st:Stmt)(ps:LSt)(e:Addr×fL):Prop where
 F:Fun K x x st e.1 e.2
 b:lr K e.2 ps []
 g:mg x=aa (.ref e.1)
structure Pk(P:di)(w:World)(K:bo)(mg:MGT)(base:Heap)(CX:CXT)(k:Nat)(x:Str)(e:Addr×fL)(ps:LSt)(sp:Sp):Prop where
 ok:f9 P w K mg base CX k e.1 e.2 ps sp
 g:mg x=aa (.ref e.1)
 kp:W.keepIn K (.ref e.1)=ac
 b:lr K e.2 ps []
variable{e:Addr×fL}
def Df.pk{k:Nat}(E:Df K mg x st ps e)(o:f9 P w K mg base CX k e.1 e.2 ps sp):Pk P w K mg base CX k x e ps sp:=⟨o,E.g,E.F.kp,E.b⟩
structure Dq(K:bo)(x:Str)(st:Stmt)(f:Addr)(fd:fL):Prop where
 a:dX K cL x=aa (aa (.ref f))
 F:Fun K x x st f fd
nonrec abbrev Ai(x q:Str)(st:Stmt)(ps:LSt):Prop:=∀(kV doc pm:Value) (an:Option Addr) (cdv ct:Value) (us:LVa),us.length=ps.length->bindArgs (W.fnOf x q (og st) (j3 st) (bc st) .none kV doc pm an cdv ct) ⟨us,[]⟩=pure (ps.zip us)
def Dq.mk2{f:Addr}(d:Dq K x st f fd)(X:K.In h)(G:h.Ns cL mg)(b:Ai x x st ps:=by walk_at "bd"):Df K mg x st ps (f,fd):=⟨d.F,d.F.binds b,W.mg_of X G d.a⟩
def Dq.bt{f:Addr}{p:Str}(d:Dq K x st f fd)(b:Ai x x st [p])(s:aE)(v:Value):BindsTo s fd ⟨[v],[]⟩ [(p,v)]:=by
 obtain⟨oc,od,kV,doc,pm,an,cdv,ct,osl,rfl,g,c⟩:=d.F.ex;exact .of_eq (b kV doc pm an cdv ct [v] rfl)
variable{n:Nat}
def qI(h:n<=1000):n<aW:=Nat.lt_of_le_of_lt h (by decide)
def pv(i:Nat){pos:Pos}(c:X.N[i]?=aa x:=by rfl)(g:Vis X.env.scope x:=by first |exact cf rfl |exact bw (cf rfl) |exact bw (bw rfl))(hd:NDb x:=by decide)
 (b:NCd x:=by decide):PE X (.Name x pos) (eG i):=jz c g hd b
def Aj{A B:Prop}(h:A):if ac=ac then A else B:=by
 rw[if_pos rfl];exact h
abbrev aM(H H':Hp):Prop:=∀b o,H b=aa o->H' b=aa o
def aM.refl(H:Hp):aM H H:=λ_ _ h=>h
variable{H H1 H2:Hp}
def aM.trans(a:aM H H1)(b:aM H1 H2):aM H H2:=λc o h=>b c o (a c o h)
variable{H':Hp}{l:Addr}
def aM.free(e:aM H H')(h:H' l=Option.none):H l=Option.none:=by
 cases q:H l with
 |none=>rfl
 |some o=>
  rw[e l o q]at h
  nomatch h
def aM.seq{xs:List V}(e:aM H H')(h:SqL K H a xs):SqL K H' a xs:=by
 rcases h with(h |⟨o,h⟩) |h
 .exact .inl (.inl (e _ _ h))
 .exact .inl (.inr ⟨o,e _ _ h⟩)
 .exact .inr h
section
variable{κ:Type}[DecidableEq κ]
abbrev eI(kvs:List (κ×V))(k:κ):Option V:=(kvs.find? λb=>decide (b.1=k)).map (·.2)
abbrev dQ(kvs:List (κ×V))(k:κ)(v:V):List (κ×V):=
 if (kvs.any λb=>decide (b.1=k))=ac then kvs.map (λb=>if b.1=k then (b.1,v) else b) else kvs++[(k,v)]
def qJ{p:κ×V}{r:List (κ×V)}{k:κ}(e:p.1=k):eI (p::r) k=aa p.2:=by simp[eI,mj,e]
def qK{p:κ×V}{r:List (κ×V)}{k:κ}(e:¬p.1=k):eI (p::r) k=eI r k:=by simp[eI,mj,e]
def qL(k:κ):∀kvs:List (κ×V),(kvs.any λb=>decide (b.1=k))=(eI kvs k).isSome
 | []=>rfl
 |p::r=>by
  rw[eS]
  by_cases e:p.1=k
  .simp only[qJ e,decide_eq_true e,Bool.true_or,Option.isSome_some]
  .rw[qK e,decide_eq_false e,Bool.false_or];exact qL k r
def qN(kvs:List (κ×V))(k:κ)(v:V):(dQ kvs k v).length<=kvs.length+1:=by
 unfold dQ;split
 .rw[av];lia
 .rw[aJ,bP,length_nil];lia
def Gg{kvs:List (κ×V)}{k:κ}(v:V)(h:eI kvs k=ab):dQ kvs k v=kvs++[(k,v)]:=by
 unfold dQ;rw[qL,h];exact if_neg (by decide)
def g4.isSome_eq{o:Option V}{u:Option Value}(r:g4 o u):o.isSome=u.isSome:=by
 cases o with
 |none=>cases u with
  |none=>rfl
  |some _=>exact(r).elim
 |some _=>cases u with
  |none=>exact(r).elim
  |some _=>rfl
def g4.getD{o:Option V}{u:Option Value}{d:V}{d':Value}(r:g4 o u)(b:aP d d'):aP (o.getD d) (u.getD d'):=by
 cases o with
 |none=>cases u with
  |none=>exact b
  |some _=>exact(r).elim
 |some _=>cases u with
  |none=>exact(r).elim
  |some _=>exact r
def KV.val{kvs:List (κ×V)}{vs:List (κ×Value)}(r:KV kvs vs)(k:κ):g4 (eI kvs k) (gW vs k):=by
 induction r with
 |nil=>exact mx
 | @cons p q ps g h t m=>
  obtain⟨i,j⟩:=h
  by_cases e:p.1=k
  .have c:=i.symm.trans e;have b:gW (q::g) k=aa q.2:=by simp[gW,c]
   rw[qJ e,b];exact j
  .have c:¬q.1=k:=λz=>e (i.trans z);have b:gW (q::g) k=gW g k:=by simp[gW,c]
   rw[qK e,b];exact m
def KV.any{kvs:List (κ×V)}{vs:List (κ×Value)}(r:KV kvs vs)(k:κ):(kvs.any λb=>decide (b.1=k))=vs.any λb=>decide (b.1=k):=by
 induction r with
 |nil=>rfl
 |cons h t c=>rw[eS,eS,c,h.1]
def KV.repl{kvs:List (κ×V)}{vs:List (κ×Value)}(r:KV kvs vs)(k:κ){y:V}{u:Value}(j:aP y u):
  KV (kvs.map λb=>if b.1=k then (b.1,y) else b) (vs.map λb=>if b.1=k then (b.1,u) else b):=by
 induction r with
 |nil=>exact .nil
 | @cons p q ps m h t i=>
  rw[cY,cY];refine .cons ?_ i;obtain⟨c,g⟩:=h
  by_cases e:p.1=k
  .rw[if_pos e,if_pos (c.symm.trans e)];exact⟨c,j⟩
  .rw[if_neg e,if_neg (λz=>e (c.trans z))];exact⟨c,g⟩
def KV.put{kvs:List (κ×V)}{vs:List (κ×Value)}(r:KV kvs vs)(k:κ){y:V}{u:Value}(b:aP y u):KV (dQ kvs k y) (iA vs k u):=by
 unfold dQ iA;rw[r.any k]
 by_cases e:(vs.any λc=>decide (c.1=k))=ac
 .rw[if_pos e,if_pos e];exact r.repl k b
 .rw[if_neg e,if_neg e];exact Paired.snoc r ⟨rfl,b⟩
def KV.length{kvs:List (κ×V)}{vs:List (κ×Value)}(r:KV kvs vs):kvs.length=vs.length:=qr r
end
variable{u:Value}
def mE{k:Key}(r:aP (kV k) u):(cV P w).is k u=ac:=by
 cases k with
 |inl i=>obtain⟨t,e⟩:=(r);subst e;exact zr P w i t
 |inr x=>obtain⟨t,e⟩:=(r);subst e;exact zt P w x t
def Ak{P:di}{w:World}:∀{ks:List Key} {us:LVa},aS (ks.map kV) us->ItemsAre (cV P w) ks us
 | [],_,r=>by rw[map_nil]at r;cases r;exact .nil
 |k::ks,_,r=>by
  cases r with
  |cons h t=>exact .cons (mE h) (Ak t)
nonrec abbrev KT(H:Hp):List (List Key×V)->List (List Key×Addr×Value)->Prop:=Paired λp q=>p.1=q.1/\H q.2.1=aa (.tup (p.1.map kV))/\aP p.2 q.2.2
variable{kvs:List (List Key×V)}{xs:List (List Key×Addr×Value)}
def KT.val(r:KT H kvs xs)(k:List Key):g4 (eI kvs k) ((atKey xs k).map (·.2)):=by
 induction r with
 |nil=>exact mx
 | @cons p q ps g h t m=>
  obtain⟨i,_,j⟩:=h
  by_cases e:p.1=k
  .have c:=i.symm.trans e;have b:atKey (q::g) k=aa q.2:=by simp[atKey,c]
   rw[qJ e,b];exact j
  .have c:¬q.1=k:=λz=>e (i.trans z);have b:atKey (q::g) k=atKey g k:=by simp[atKey,c]
   rw[qK e,b];exact m
variable{y:V}
def KT.repl(r:KT H kvs xs)(k:List Key)(m:aP y u):
  KT H (kvs.map λc=>if c.1=k then (c.1,y) else c) (xs.map (putAt k u)):=by
 induction r with
 |nil=>exact .nil
 | @cons p q ps o h t j=>
  rw[cY,cY];refine .cons ?_ j;obtain⟨b,g,i⟩:=h;unfold putAt
  by_cases e:p.1=k
  .rw[if_pos e,if_pos (b.symm.trans e)];exact⟨b,g,m⟩
  .rw[if_neg e,if_neg (λz=>e (b.trans z))];exact⟨b,g,i⟩
def KT.put(r:KT H kvs xs)(k:List Key){b:Addr}(g:H b=aa (.tup (k.map kV)))(c:aP y u):
  KT H (dQ kvs k y) (storedH xs k b u):=by
 have e:(kvs.any λi=>decide (i.1=k))=(atKey xs k).isSome:=by
  rw[qL,(r.val k).isSome_eq,Option.isSome_map]
 unfold dQ storedH;rw[e]
 by_cases q:(atKey xs k).isSome=ac
 .rw[if_pos q,if_pos q];exact r.repl k c
 .rw[if_neg q,if_neg q];exact Paired.snoc r ⟨rfl,g,c⟩
def KT.keeps(r:KT H kvs xs)(g:∀b c,H b=aa (.tup c)->H' b=aa (.tup c)):KT H' kvs xs:=
 Paired.mapP r λ_ _ z=>⟨z.1,g _ _ z.2.1,z.2.2⟩
def Al{u:HO}(ok:HOk P w H h)(e:Rd H a u):e7 P w H h a u:=e.ok ok
def j4{kvs:List (Key×V)}(ok:HOk P w H h)(e:Rd H a (.dK kvs)):kvs.length<=aW/\(a==fY)=ag/\∃vs,KV kvs vs/\h.DictOf (cV P w) a vs:=
 show e7 P w H h a (.dK kvs)from Al ok e
def qO{kvs:List (Key×V)}(ok:HOk P w H h)(e:H a=aa (.dK kvs)):kvs.length<=aW/\(a==fY)=ag/\∃vs,KV kvs vs/\h.DictOf (cV P w) a vs:=j4 ok (.inl e)
variable{ks:List Key}
def qP(ok:HOk P w H h)(e:H a=aa (.tup (ks.map kV))):(tupleKind (cV P w)).is h ks a:=by
 obtain⟨_,its,r,o,b,c,n,g⟩:=(ok a _ e);exact⟨o,its.toArray,n,b,c,g,by simpa using Ak r⟩
def oh(ok:HOk P w H h)(e:Rd H a (.dT kvs)):kvs.length<=aW/\(a==fY)=ag /\
  ∃xs,KT H kvs xs/\h.DictOfH (tupleKind (cV P w)) a xs:=by
 obtain⟨z,y,xs,r,o,es,g,i,j,s,v,A⟩:=(Al ok e);refine⟨z,y,xs,r,o,es,g,i,j,s,v,λx b=>?_,A⟩
 have all:∀{l:List _} {m:List _},KT H l m->∀x∈m,(tupleKind (cV P w)).is h x.1 x.2.1:=by
  intro l m q
  induction q with
  |nil=>intro x b;exact nomatch b
  | @cons p q ps C c t B=>
   intro x b
   rcases bX.mp b with e |b
   .subst e;exact qP ok (by rw[<- c.1];exact c.2.1)
   .exact B x b
 exact all r x b
def Gh(ok:HOk P w H h)(e:H a=aa (.dT kvs)):kvs.length<=aW/\(a==fY)=ag /\
  ∃xs,KT H kvs xs/\h.DictOfH (tupleKind (cV P w)) a xs:=oh ok (.inl e)
abbrev lv(H:Hp)(a:Addr)(y:V)(r:Option V):Prop:=
 (∃kvs k,Rd H a (.dK kvs)/\y=kV k/\r=eI kvs k)\/∃kvs k b,Rd H a (.dT kvs)/\y=.ref b/\H b=aa (.tup (k.map kV))/\r=eI kvs k
abbrev mF(H:Hp)(a:Addr)(y v:V)(H':Hp):Prop:=
 (∃kvs k,H a=aa (.dK kvs)/\y=kV k/\kvs.length<aW/\H'=upd H a (.dK (dQ kvs k v))) \/
 ∃kvs k b,H a=aa (.dT kvs)/\y=.ref b/\H b=aa (.tup (k.map kV))/\kvs.length<aW/\H'=upd H a (.dT (dQ kvs k v))
variable{kvs:List (Key×V)}
def lv.k{k:Key}(e:H a=aa (.dK kvs)):lv H a (kV k) (eI kvs k):=.inl ⟨kvs,k,.inl e,rfl,rfl⟩
variable{v:V}
def mF.k{k:Key}(e:H a=aa (.dK kvs))(b:kvs.length<aW):mF H a (kV k) v (upd H a (.dK (dQ kvs k v))):=.inl ⟨kvs,k,e,rfl,b,rfl⟩
variable{pins:PNS}{σ:St}{s:aE}
def Inv.big(I:Inv X pins σ H s):fY<s.heap.objs.size:=by
 exact Nat.lt_trans (by decide) ((I.mod.glob.keeps I.bk).lt)
variable{A:dH}{E:PRS}
def Gi{Q:PRS}(G:A.units+1<cLine)(I:Inv X pins σ H s)(g:lv H a y (aa v))(B:aP y u)(h:∀j s',Inv X pins σ H s'->aP v j->Q j s'):
  wpAny (model X.prog X.w) A (jy (.ref a) u) Q E s:=by
 rcases g with⟨kvs,k,e,o,l⟩ |⟨kvs,k,b,e,o,C,l⟩
 .subst o;obtain⟨z,hd,vs,c,m⟩:=j4 I.hok e;obtain⟨j,t,i⟩:=g4.some_of (by rw[l];exact c.val k);exact wpAny_getItem_of (mE B) m.mapOf t (h j _ (I.tok _) i)
 .subst o;cases (B);obtain⟨z,hd,xs,c,m⟩:=oh I.hok e;obtain⟨j,t,i⟩:=g4.some_of (by rw[l];exact c.val k);obtain⟨p,hp,r⟩:=lc.mp t;refine wpAny_getItem_heap (uO G) (qP I.hok C) m hp ?_;rw[r];exact h j _ (I.tok _) i
variable{h':Heap}{t':Nat}
def qQ{c:HO}(I:Inv X pins σ H s)(m:Mut (H a))(j:gY a s.heap h')(i:∃q,h'.get? a=aa q)(new:e7 X.prog X.w (upd H a c) h' a c):
  Inv X pins σ (upd H a c) {s with heap:=h',toks:=t'}:=
 I.write m (.inl rfl) (λb q g z=>(j.2 b g).trans z) i new
def qR{vs:List (Key×Value)}(z:kvs.length<=aW)(hd:(a==fY)=ag)(b:KV kvs vs)(c:h'.DictOf (cV P w) a vs):
  e7 P w H' h' a (.dK kvs):=⟨z,hd,vs,b,c⟩
variable{r:Value}
def Gj{Q:Unit->aE->Prop}(hu:A.units+1<cLine)(I:Inv X pins σ H s)(g:mF H a y v H')(M:aP y u)(L:aP v r)(h:∀s',Inv X pins σ H' s'->Q () s'):
  wpAny (model X.prog X.w) A (setItem (.ref a) u r) Q E s:=by
 rcases g with⟨kvs,k,e,t,l,p⟩ |⟨kvs,k,b,e,t,G,l,p⟩
 .subst t p;obtain⟨z,hd,vs,i,o⟩:=qO I.hok e;have hz:vs.length<=aW:=by rw[<- i.length];exact z
  have B:(dQ kvs k v).length<=aW:=by have:=qN kvs k v;lia
  refine wpAny_setItem_pairs (mE M) o λh' j C=>h _ ?_;have he:∃q,h'.get? a=aa q:=let ⟨q,_,_,m,_⟩:=j;⟨q,m⟩;exact qQ I (by rw[e];exact mx) C he (qR B hd (i.put k L) j)
 .subst t p;cases (M);obtain⟨z,hd,xs,i,o⟩:=Gh I.hok e;have hz:xs.length<=aW:=by rw[<- qr i];exact z
  have B:(dQ kvs k v).length<=aW:=by have:=qN kvs k v;lia
  refine wpAny_setItem_heap (uO hu) (qP I.hok G) o λh' j C=>h _ ?_;obtain⟨q,es,T,m,U,Y,h4,_,h5⟩:=j;refine qQ I (by rw[e];exact mx) C ⟨q,m⟩ ⟨B,hd,_,(i.put k G L).keeps λc ys J=>?_,q,es,T,m,U,Y,h4,h5⟩;rw[bF (Es J e (λz=>nomatch z))];exact J
variable{Q:PRS}
def Gk(I:Inv X pins σ H s)(e:Rd H a (.dK kvs))(h:∀t s',Inv X pins σ H s'->Q (.int kvs.length t) s'):wpAny (model X.prog X.w) A (call (.builtin "len") [.ref a]) Q E s:=by
 obtain⟨z,hd,vs,b,c⟩:=j4 I.hok e;refine call_len_dict hd c (by rw[<- b.length];rw[cG]at z;lia) ?_;rw[<- b.length];exact h _ _ (I.tok _)
abbrev vk(i:Expr):Prop:=∀ov b,nS i ag ov b=operate [ov,b] (jy ov b)
variable{prog:di}{env:Env}{value:Expr}
def Gm{slice:Expr}{pos:Pos}{T id:String}
 (B:jX (.type T) "__getitem__"=pure (aa (.builtin id)))(C:vk slice)
 (h:wpAny (model prog w) A (eval value env) (λo g=>wpAny (model prog w) A (eval slice env) (λi b=>b.TypeIs o T/\wpAny (model prog w) A (jy o i) Q E b) E g) E s):
  wpAny (model prog w) A (eval (.Subscript value slice pos) env) Q E s:=by
 refine Subscript_ (fK h (λo g p=>fK p (λi b c=>?_) λ_ _ x=>x) λ_ _ x=>x);obtain⟨z,c⟩:=c;refine ar ?_;refine ar (wpAny_specialOf z B ?_)
 have m:wpAny (model prog w) A (nS slice ag o i) (λr j=>wpAny (model prog w) A (letTemporaryGo value o r >>= λ_=>pure r) Q E j) E b:=by
  rw[C o i];exact wpAny_operating (fK c (λr j t=>ar (wpAny_letTemporaryGo (aY t))) λ_ _ x=>x)
 first
  |exact aY (ar m)
  |exact ar _
  |exact ar m
def Gn{o:Option V}(I:Inv X pins σ H s)(g:lv H a y o):s.TypeIs (.ref a) "dict":=by
 rcases g with⟨kvs,k,e,_,_⟩ |⟨kvs,k,b,e,_,_,_⟩
 .obtain⟨_,_,vs,_,c⟩:=j4 I.hok e;exact c.typeIs
 .obtain⟨_,_,xs,_,c⟩:=oh I.hok e;exact c.typeIs
abbrev Go(b ty:TE):TE:=λσ H Q=>b σ H λx H1=>ty σ H1 λy H2=>∃a v,x=.ref a/\lv H2 a y (aa v)/\Q v H2
abbrev vm(g ty i:TE):TS:=λD σ H=>i σ H λv H1=>g σ H1 λx H2=>ty σ H2 λy c=>∃a b,x=.ref a/\mF c a y v b/\D.nx σ b
variable{o i:Expr}{td:TE}
def Gp{pos:Pos}{ty:TE}(z:X.A.units+1<cLine)(p:PE X o td)(hi:PE X i ty)(t:vk i):PE X (.Subscript o i pos) (Go td ty):=by
 intro pins s σ H Q I h;refine Gm PySem.F.slot_dict_getitem.lookup t (thn (p pins s σ H _ I h) λu s1 ⟨x,H1,j,J,B⟩=>thn (hi pins s1 σ H1 _ j B) λM s2 G=>?_);obtain⟨y,H2,c,L,a,v,ex,g,C⟩:=G;subst ex;obtain rfl:u=gZ a:=J;exact⟨Gn c g,Gi z c g L λU T m b=>⟨v,H2,m,b,C⟩⟩
variable{b0:Pos}{tv:TE}
def Am{pos:Pos}{ty:TE}(B:X.A.units+1<cLine)(t:PE X o td)(hi:PE X i ty)(C:PE X value tv)(z:fF value (aa (.Subscript o i b0)) pos.line X.env=pure ag):
  PS X (.Assign [.Subscript o i b0] value pos) (vm td ty tv):=by
 intro pins s σ H D I h;refine wpAny_Assign_Subscript (thn (C pins s σ H _ I h) λr s1 ⟨v,H1,c,T,G⟩=>thn (t pins s1 σ H1 _ c G) λu s2 ⟨x,H2,j,U,J⟩=>thn (hi pins s2 σ H2 _ j J) λiv s3 M=>?_) z;obtain⟨y,H3,m,Y,a,b,ex,g,L⟩:=M;subst ex;obtain rfl:u=gZ a:=U;exact Gj B m g Y T λs4 p=>⟨σ,b,p,L⟩
def Gq(h:Heap)(b:fY<h.objs.size):e7 P w H (h.push {cls:=.type "dict",data:=.dict #[]}) h.objs.size (.dK []):=
 ⟨iw _,beq_eq_false_iff_ne.mpr (cF (cp b)),[],.nil,uY h⟩
abbrev An:TE:=λ_ H Q=>∀p,H p=ab->Q (.ref p) (upd H p (.dK []))
def Ao{pos:Pos}:PE X (.Dict [] [] pos) An:=λpins s σ H Q I h=>
 wpAny_Dict_empty ⟨.ref s.heap.objs.size,_,I.laid (λ_ _ q=>bQ _ q) (bf _) (Gq s.heap I.big),rfl,h _ (I.hok.fresh (bf _))⟩
structure M2(X:Cx)(o:Expr)(m:Str)(apos:Pos)(e f:Expr)(cpos:Pos):Prop where
 base:attributeBase o m X.env (eval o X.env)=eval o X.env
 few : ((fM cpos (bi [e,f] X.env)).all (λx=>!x.1) && (backToKw cpos (keywordEach [] X.env)).all (λx=>x.1.isSome)
  && decide (([e,f]:LEx).length+([]:List Keyword).length+(if ([]:List Keyword).isEmpty then 0 else 1)<30))=ac
 line:(apos.endLine==cpos.line)=ac
 trees:fM cpos (bi [e,f] X.env)=[(ag,eval e X.env),(ag,eval f X.env)]
abbrev IsD(H:Hp)(a:Addr):Prop:=(∃kvs,Rd H a (.dK kvs))\/∃kvs,Rd H a (.dT kvs)
def Gr(I:Inv X pins σ H s)(d:IsD H a):
  s.TypeIs (.ref a) "dict" /\ (∀b,gZ a=.ref b->∃c,s.heap.get? b=aa c/\c.dict=ab)/\(a==fY)=ag:=by
 rcases d with⟨kvs,e⟩ |⟨kvs,e⟩
 .obtain⟨_,hd,vs,_,g⟩:=j4 I.hok e;refine⟨g.typeIs,λb q=>?_,hd⟩;cases q;obtain⟨c,_,_,j,m,_⟩:=g;exact⟨c,j,m.2.1⟩
 .obtain⟨_,hd,xs,_,g⟩:=oh I.hok e;refine⟨g.typeIs,λb q=>?_,hd⟩;cases q;obtain⟨c,_,_,j,m,_⟩:=g;exact⟨c,j,m.2.1⟩
variable{d:V}{o:Option V}
def Gs(G:A.units+1<cLine)(I:Inv X pins σ H s)(g:lv H a y o)(t:aP y u)(p:aP d r)(h:∀B s',Inv X pins σ H s'->aP (o.getD d) B->Q B s'):
  wpAny (model X.prog X.w) A (call (.builtin "dict.get") [.ref a,u,r]) Q E s:=by
 rcases g with⟨kvs,k,e,m,l⟩ |⟨kvs,k,b,e,m,C,l⟩
 .subst m;obtain⟨z,hd,vs,c,j⟩:=j4 I.hok e;refine call_meetsIn uX j.typeIs PySem.F.entry_dict_get (PySem.F.args_dict_get_3 _ _ _) (meets_dict_get_default _ a (mE t) hd r) ⟨_,j.mapOf,h _ _ (I.tok _) ?_⟩;rw[l];exact(c.val k).getD p
 .subst m;cases (t);obtain⟨z,hd,xs,c,j⟩:=oh I.hok e;refine call_meetsIn uX j.typeIs PySem.F.entry_dict_get (PySem.F.args_dict_get_3 _ _ _) (meetsH_dict_get_default _ a b hd r) ⟨uO G,k,xs,qP I.hok C,j,h _ _ (I.tok _) ?_⟩;rw[l];exact(c.val k).getD p
abbrev Gu(td ty tx:TE):TE:=λσ H Q=>td σ H λx H1=>∃a,x=.ref a/\IsD H1 a/\ty σ H1 λy H2=>tx σ H2 λz b=>∃o,lv b a y o/\Q (o.getD z) b
variable{o e:Expr}{apos cpos:Pos}
def Gv{f:Expr}{ty:TE}{tx:TE}(L:X.A.units+1<cLine)(J:PE X o td)(C:PE X e ty)(G:PE X f tx)(m:M2 X o "get" apos e f cpos):PE X (.Call (.Attribute o "get" apos) [e,f] [] cpos) (Gu td ty tx):=by
 intro pins s σ H Q I h;refine wpAny_Call_method m.base m.few m.line qm uX PySem.F.type_dict_get (thn (J pins s σ H _ I h) λu s1 Y=>?_);obtain⟨x,H1,c,rx,a,ex,d,M⟩:=Y;subst ex;obtain rfl:u=gZ a:=rx;obtain⟨t1,t2,_⟩:=Gr c d;refine⟨t1,t2,?_⟩;rw[m.trees]
 refine Calls.callWith_builtin rfl (Calls.evalArgs_plain (lm (thn (C pins s1 σ H1 _ c M) λiv s2 ⟨y,H2,p,ry,T⟩ =>
  lm (thn (G pins s2 σ H2 _ p T) λfv s3 ⟨z,j,t,rz,ov,g,U⟩=>uS ?_))))
 exact Gs L t g ry rz λw' s4 B b=>⟨_,j,B,b,U⟩
def Gw(I:Inv X pins σ H s)(e:Rd H a (.dK kvs))(h:∀p s',H p=ab->Inv X pins σ (upd H p (.dK kvs)) s'->Q (.ref p) s'):wpAny (model X.prog X.w) A (call (.type "dict") [.ref a]) Q E s:=by
 obtain⟨z,hd,vs,c,m⟩:=j4 I.hok e;refine kt_call_dict hd m (by rw[<- c.length];exact z) λh' g t=>?_;exact h _ _ (I.hok.fresh (bf _)) (I.laid (λb q j=>((t.2 b (cp (bD j))).trans (bQ _ j))) (bf _) (qR z (beq_eq_false_iff_ne.mpr (cF (cp I.big))) c g))
section
variable{κ:Type}[DecidableEq κ]
end
end L2
set_option maxHeartbeats 4000000
namespace L2
open List
open PySem
def vn{env:Env}(f:(Str×fZ)->List (Str×Addr)->Sem (ForInStep (List (Str×Addr))))
 (p:∀n k r,k≠fG->f (n,k) r=pure (.yield r))
 (q:∀n r c,env.cells.lookup n=aa c->f (n,.free) r=pure (.yield ((n,c)::r))):
  ∀(l:List (Str×fZ)) (a:List (Str×Addr)),(∀x∈l,x.2=.free->∃c,env.cells.lookup x.1=aa c) ->
   (∀x c,a.lookup x=aa c->env.cells.lookup x=aa c) ->
   ∃cl,forIn l a f=(pure cl:Sem _)/\(∀x c,cl.lookup x=aa c->env.cells.lookup x=aa c) /\
    (∀x,((∃c,a.lookup x=aa c)\/(x,fG)∈l)->∃c,cl.lookup x=aa c)
 | [],a,_,ha=>⟨a,rfl,ha,λx b=>b.elim id (λz=>nomatch z)⟩
 |(n,k)::l,a,hl,ha=>by
  have i:=λx b=>hl x (c8 _ b)
  by_cases t:k=.free
  .subst t;obtain⟨c,u⟩:=hl _ bW rfl;have g:=u
   have s:∀x d,((n,c)::a).lookup x=aa d->env.cells.lookup x=aa d:=λx d b=>by
    rw[fW]at b
    cases e:x==n with
    |true=>
     rw[e]at b;cases b
     rw[eq_of_beq e];exact g
    |false=>
     rw[e]at b;exact ha x d b
   obtain⟨cl,e,j,m⟩:=vn f p q l _ i s;refine⟨cl,?_,j,λx b=>m x ?_⟩
   .rw[forIn_cons,q n a c g,pure_bind];exact e
   .have h:∀d,a.lookup x=aa d->∃o,((n,c)::a).lookup x=aa o:=λd z=>by
     rw[fW]
     cases e:x==n with
     |true=>exact⟨c,rfl⟩
     |false=>exact⟨d,z⟩
    rcases b with⟨d,z⟩ |b
    .exact .inl (h d z)
    .rcases bX.mp b with z |z
     .cases z;refine .inl ⟨c,?_⟩;rw[fW,beq_self_eq_true]
     .exact .inr z
  .obtain⟨cl,e,j,m⟩:=vn f p q l a i ha;refine⟨cl,?_,j,λx b=>m x ?_⟩
   .rw[forIn_cons,p n k a t,pure_bind];exact e
   .rcases b with b |b
    .exact .inl b
    .rcases bX.mp b with z |z
     .cases z;exact absurd rfl t
     .exact .inr z
variable{scope:Scope}{env:Env}
def Ap(h:∀x∈scope.names,x.2=.free->∃c,env.cells.lookup x.1=aa c):
  ∃cl,closureFor scope env=pure cl/\(∀x c,cl.lookup x=aa c->env.cells.lookup x=aa c)/\(∀x,(x,fG)∈scope.names->∃c,cl.lookup x=aa c):=by
 obtain ⟨cl,e,b,d⟩:=vn (λx r=>(match x with
   |(name,kind)=>if (kind==fG)=ac then (do let a <- cellOf env name;pure (ma ((name,a)::r))) else (pure (ma r):Sem _)))
  (λn k r i=>by
   have:(k==fG)=ag:=by simpa using i
   simp only[this,jQ,if_false])
  (λn r c g=>by
   simp only[beq_self_eq_true,if_true,cellOf,g,pure_bind])
  scope.names [] h (λx c z=>by nomatch z)
 refine⟨cl,?_,b,λx j=>d x (.inr j)⟩;refine(congrArg _ ?_).trans ((congrArg (λt=>t >>= pure) e).trans (pure_bind _ _));rfl
nonrec abbrev E00:Value->aE->Prop:=λ_ _=>False
variable{prog:di}{w:World}{A:dH}{R:Result->aE->Prop}{s:aE}{c0 iter:Expr}{dd:LEx}
def Gy{a:Expr}{pos:Pos}{it q:Value}(I:Nat->aE->Prop)
 (z:∀ n s,I n s->wpAny (model prog w) A (iz it) (λr b=>match r with
   |none=>R (.ok .next) b
   | some v=>wpAny (model prog w) A (letOwnedTupleGo a it v) (λ_ d=>wpAny (model prog w) A (gE a env v) (λ_ j =>
     wpAny (model prog w) A (forIn dd ac λc r=>if r=ac then do let ok <- isTrue c env (eval c env); pure (ma ok) else pure (ma r)) (λok e =>
      if ok=ac then wpAny (model prog w) A (eval c0 env) (λx l =>
       wpAny (model prog w) A (call (.builtin "list.append") [q,x]) (λ_ o=>∃m,m<n/\I m o) (notedBy (model prog w) A env λx s'=>R (.error x) s') l) (notedBy (model prog w) A env λx s'=>R (.error x) s') e
      else ∃m,m<n/\I m e) (notedBy (model prog w) A env λx s'=>R (.error x) s') j) (notedBy (model prog w) A env λx s'=>R (.error x) s') d) (notedBy (model prog w) A env λx s'=>R (.error x) s') b) (notedBy (model prog w) A env λx s'=>R (.error x) s') s)
 (n:Nat)(h:I n s):
  gp (model prog w) A (.compLoop (.ListComp c0 [⟨a,iter,dd,0⟩] scope pos) 0 it q env) R s:=by
 refine codeAny_loop rfl I (λn s B=>?_) n h;refine wpAny_noted ?_;refine ar (qe (ar (fK (z n s B) (λr b g=>?_) λ_ _ h'=>h')))
 cases r with
 |none=>exact aY g
 |some v=>
  refine ar (fK g (λ_ d p=>?_) λ_ _ h'=>h');refine ar (fK p (λ_ j t=>ar (fK t (λok e i=>?_) λ_ _ h'=>h')) λ_ _ h'=>h')
  cases ok with
  |false=>exact aY ⟨rfl,i⟩
  |true=>
   exact ar (ar (fK i (λx l u=>ar (fK u (λ_ o y=>aY (aY ⟨rfl,y⟩)) λ_ _ h'=>h')) λ_ _ h'=>h'))
open PySem.Spec PyProof.Rows
@[reducible]noncomputable def Cx.comp(X:Cx)(scope:Scope)(Nc:LSt)(cl:List (Str×Addr))(C:Addr)(ex:LAd)(b:aE)(a:Hp):Cx:=
 {X with N:=Nc,s₀:=b,H₀:=a,env:=compEnvC scope cl C X.env,outer:=X.stack,ex:=ex,fn:=λ_=>ag,pn:=[],xe:=E00}
def vo{env:Env}:∀{names:List (Str×fZ)} {x:Str},names.lookup x=aa .free ->
  (names.map λ(n,k)=>if (k==fG && env.scope.kind==.function && env.kindOf n==aa .cell) then (n,lp) else (n,k)).lookup x=aa .cell \/
  (names.map λ(n,k)=>if (k==fG && env.scope.kind==.function && env.kindOf n==aa .cell) then (n,lp) else (n,k)).lookup x=aa .free
 | [],_,h=>by simp at h
 |(n,k)::r,x,h=>by
  have b:=@vo env r x;show List.lookup x ((if _=ac then _ else _)::_)=_\/List.lookup x ((if _=ac then _ else _)::_)=_;rw[fW]at h
  cases a:x==n with
  |true=>
   rw[a]at h;cases h;split
   .left;rw[fW,a]
   .right;rw[fW,a]
  |false=>
   rw[a]at h;split
   .rw[fW,a];exact b h
   .rw[fW,a];exact b h
def vp{env:Env}{a:fZ}(b:a=.cell\/a=.free):∀{names:List (Str×fZ)} {x:Str},
  (names.map λ(n,k)=>if (k==fG && env.scope.kind==.function && env.kindOf n==aa .cell) then (n,lp) else (n,k)).lookup x=aa a ->
  (x,fG)∈names\/(x,lp)∈names
 | [],_,h=>by simp at h
 |(n,k)::r,x,h=>by
  have h':List.lookup x ((if _=ac then _ else _)::_)=aa a:=h
  cases c:x==n with
  |true=>
   have e:=eq_of_beq c;subst e;split at h'
   .rename_i d
    have i:k=.free:=by
     rw[cS,cS]at d;exact eq_of_beq d.1.1
    subst i;exact .inl bW
   .rw[fW,c]at h';have e:=cj h';subst e
    rcases b with z |z
    .subst z;exact .inr bW
    .subst z;exact .inl bW
  |false=>
   have g:(r.map λ(n,k)=>if (k==fG && env.scope.kind==.function && env.kindOf n==aa .cell) then (n,lp) else (n,k)).lookup x=aa a:=by
    split at h' <;> (rw[fW,c]at h';exact h')
   rcases(@vp env a b r x) g with z |z
   .exact .inl (c8 _ z)
   .exact .inr (c8 _ z)
abbrev iZ(scope:Scope)(outer:List (Str×fZ))(N Nc:LSt)(k:Nat)(js:LN):Bool:=
 scope.names.all (λx=>(x.2 != .free || outer.lookup x.1==aa .cell || outer.lookup x.1==aa .free) && x.2 != .cell && (x.2 != .local || scope.names.lookup x.1==aa .local)) &&
 scope.kind==.function && Nc.length==k+js.length &&
 (ci js.length).all (λi=>match Nc[k + i]?,js[i]? with
  |some x,aa j=>N[j]?==aa x && scope.names.lookup x==aa .free
  | _,_=>ag)
structure mG(scope:Scope)(outer:List (Str×fZ))(N Nc:LSt)(k:Nat)(js:LN):Prop where
 free:∀x∈scope.names,x.2=.free->outer.lookup x.1=aa .cell\/outer.lookup x.1=aa .free
 nocell:∀x∈scope.names,x.2≠.cell
 loc:∀x∈scope.names,x.2=.local->scope.names.lookup x.1=aa .local
 kind:scope.kind=.function
 len:Nc.length=k+js.length
 at':∀i j,js[i]?=aa j->∃x,Nc[k+i]?=aa x/\N[j]?=aa x/\scope.names.lookup x=aa .free
variable{N Nc:LSt}{k:Nat}{js:LN}
def mG.of{outer:List (Str×fZ)}(h:iZ scope outer N Nc k js=ac):mG scope outer N Nc k js:=by
 unfold iZ at h;rw[cS,cS,cS]at h;obtain⟨⟨⟨b,d⟩,g⟩,c⟩:=h;rw[all_eq_true]at b c;refine⟨λx a e=>?_,λx a e=>?_,λx a e=>?_,eq_of_beq d,eq_of_beq g,λi j e=>?_⟩
 .have:=b x a;simp only[cS,jr,bne_iff_ne,beq_iff_eq]at this
  rcases this.1.1 with(z |z) |z
  .exact absurd e z
  .exact .inl z
  .exact .inr z
 .have:=b x a;simp only[cS,bne_iff_ne]at this;exact this.1.2 e
 .have:=b x a;simp only[cS,jr,bne_iff_ne,beq_iff_eq]at this
  rcases this.2 with z |z
  .exact absurd e z
  .exact z
 .have hi:=(eQ.mp e).1;have:=c i (iq.mpr hi);rw[e]at this
  cases q:Nc[k+i]? with
  |none=>rw[q]at this;nomatch this
  |some x=>
   rw[q]at this;simp only[cS,beq_iff_eq]at this;exact⟨x,rfl,this.1,this.2⟩
abbrev gr(k:Nat)(js:LN)(σ:St):St:=fV k ab++js.map λj=>(σ[j]?).getD ab
abbrev PTs(X:Cx)(dd:LEx)(t:TT):Prop:=
 ∀(pins:PNS) (s:aE) (σ:St) (H:Hp) (Q:Bool->Hp->Prop),Inv X pins σ H s->t σ H Q ->
  wpAny (model X.prog X.w) X.A (forIn dd ac λc r=>if r=ac then do let ok <- isTrue c X.env (eval c X.env);pure (ma ok) else pure (ma r)) (TP X pins σ Q) X.xe s
abbrev Gz:TT:=λ_ H Q=>Q ac H
variable{X:Cx}
def GA:PTs X [] Gz:=λ_ _ _ H _ I h=>wpAny_tests_nil ⟨H,I,h⟩
def Aq{c:Expr}{t:TT}(h:PT X c t):PTs X [c] t:=λpins s σ H Q I q=>wpAny_tests_one (h pins s σ H Q I q)
abbrev vq(J:It)(g:TG)(tt:TT)(te:TE)(j:St)(l:Hp)(Q:VK):Prop:=
 ∃W:Nat->Nat->List V->St->Hp->Prop,(∃m,W 0 m [] j l)/\∀i m c σ' H',W i m c σ' H' ->
  (J.stop i H'/\c.length<=aW/\∀D,l D=ab->H' D=ab->Q (.ref D) (upd H' D (.lst c))) \/
  (J.go i H'/\c.length<=aW/\∃ N : List V->St->Hp->Prop,(∀ e h d,N e h d->∃ o,o < m/\W (i + 1) o e h d) /\
   ∀x d,J.yld i H' x d->g x σ' d λa p=>tt a p λb n=>if b=ac then te a n λy q=>N (c++[y]) a q else N c a n)
abbrev mH(k:Nat)(js:LN)(b:TI)(g:TG)(tt:TT)(te:TE):TE:=λσ H Q=>b σ H λJ a=>vq J g tt te (gr k js σ) a Q
@[reducible]noncomputable def Cx.to(X:Cx)(pn:PNS)(xe:PRS):Cx:={X with pn:=pn,xe:=xe}
variable{Y:Cx}{xe:PRS}{pins:PNS}{σ:St}{H:Hp}
def At(I:Inv Y pins σ H s):Inv {Y with xe:=xe} pins σ H s:=
 ⟨⟨I.ok.mod,I.ok.kind,I.ok.glob,I.ok.blt,I.ok.above,I.ok.inj,I.ok.has,I.ok.cab,I.ok.hd,I.ok.frames,I.ok.stk,I.ok.exf,I.ok.bs,I.ok.bsz,I.ok.noex,I.ok.exfs,I.ok.funs,I.ok.frf⟩,I.os,I.bare,I.base,I.loc,I.cell,I.free,I.freeC,I.pin,I.hok,I.len⟩
def Au(I:Inv {Y with xe:=xe} pins σ H s):Inv Y pins σ H s:=
 ⟨⟨I.ok.mod,I.ok.kind,I.ok.glob,I.ok.blt,I.ok.above,I.ok.inj,I.ok.has,I.ok.cab,I.ok.hd,I.ok.frames,I.ok.stk,I.ok.exf,I.ok.bs,I.ok.bsz,I.ok.noex,I.ok.exfs,I.ok.funs,I.ok.frf⟩,I.os,I.bare,I.base,I.loc,I.cell,I.free,I.freeC,I.pin,I.hok,I.len⟩
variable{e:Expr}{t:TE}
def PE.to0(h:PE {Y with pn:=[],xe:=E00} e t):PE {Y with pn:=[],xe:=xe} e t:=λpins s σ H Q I q=>
 fK (h pins s σ H Q (Au I) q) (λu s' ⟨v,H',a,r,b⟩=>⟨v,H',At a,r,b⟩) λ_ _ z=>z.elim
@[reducible]noncomputable def i0(us:LVa)(n:Nat):Obj:={cls:=.type "list",data:=.seq us.toArray n}
variable{tg:Expr}{g:TG}{tt:TT}{te:TE}{H2:Hp}{s2:aE}{it:Addr}{fp:LAd}{tn:Nat->Heap->Prop}{J:It}{cl:List (Str×Addr)}{Q:VK}{RR:Value->Addr->Result->aE->Prop}{E:PRS}
def GB{pos:Pos}{PX:Cx->Prop}
 (hc:X.calm=ac)(ck:mG scope X.env.scope.names X.N Nc k js)
 (hg:∀cl C ex M L,PG (X.comp scope Nc cl C ex M L) tg g)(ht:∀cl C ex M L,PTs (X.comp scope Nc cl C ex M L) dd tt)(he:∀cl C ex M L xe,PX ((X.comp scope Nc cl C ex M L).to [] xe)->PE ((X.comp scope Nc cl C ex M L).to [] xe) c0 te)
 (a1:∀x c,cl.lookup x=aa c->X.env.cells.lookup x=aa c)(a2:∀x,(x,fG)∈scope.names->∃c,cl.lookup x=aa c)
 (I:Inv X pins σ H2 s2)(T:jA X.prog X.w X.K tg J fp it tn)(st2:tn 0 s2.heap)(f2:∀b∈fp,gH X pins H2 b)(hW:vq J g tt te (gr k js σ) H2 Q)
 (hRR:∀(D C:Addr) (s':aE) (H':Hp),Inv X pins σ H' s'->(∃m,s'.heap.Ns C m)->gH X pins H' C->Q (.ref D) H'->RR (.ref D) C (.ok .next) s')
 (hPX:∀D C,s2.heap.objs.size=D->D<C->(∀b∈frs X.stack,b<D)->PX ((X.comp scope Nc cl C fp s2 H2).to [] (notedBy (model X.prog X.w) X.A (compEnvC scope cl C X.env) λx s'=>RR (.ref D) C (.error x) s'))):
  wpAny (model X.prog X.w) X.A (newList []) (λacc s₃=>wpAny (model X.prog X.w) X.A (newFunctionEnv scope X.env.globals cl [] X.env.qual ab .none (aa X.env)) (λcenv s₄ =>
   gp (model X.prog X.w) X.A (.compStart (.ListComp c0 [⟨tg,iter,dd,0⟩] scope pos) 0 (.ref it) acc {cenv with scope:=relabel scope X.env}) (RR acc cenv.locals) s₄) E s₃) E s2:=by
 obtain⟨W,⟨m0,w0⟩,turn⟩:=hW;refine qc (wpAny_newFunctionEnv ck.nocell (by intro y hy;simp at hy) (λd8 G B=>?_) ck.kind);dsimp only at G B ⊢;generalize hP:s2.heap.push {cls:=.type "list",dict:=ab,data:=.seq ([]:LVa).toArray}=P at G B ⊢;generalize hD:s2.heap.objs.size=D at hP G B ⊢;have hCs:P.objs.size=D+1:=by rw[<- hP,qp,hD]
 generalize hC:P.objs.size=C at hCs G B ⊢;have hDC':D<C:=by rw[hCs];exact Nat.lt_succ_self _
 have hDC:D≠C:=cp hDC';have below:∀b o,s2.heap.get? b=aa o->b<D:=λb o e=>hD▸bD e
 have old:∀b o,s2.heap.get? b=aa o->d8.get? b=aa o:=λb o e=>by
  have h:=below b o e;exact B.extBut b o (cp (Nat.lt_trans h hDC')) (bQ _ (hP▸bQ _ e))
 have hDo:d8.get? D=aa (i0 [] 0):=B.extBut _ _ hDC (bQ _ (by rw[<- hP,<- hD];exact dE _ rfl));have Hn:∀b,D<=b->H2 b=ab:=λb h=>I.hok.fresh (by lia);have fpo:∀b∈fp,b<D:=λb h=>by obtain⟨o,e,_⟩:=T.obj 0 _ st2 b h;exact below b o e
 have clo:∀x c,cl.lookup x=aa c->c<D:=λx c e=>by
  obtain⟨v,o,ho,_⟩:=I.cell x c (a1 x c e);exact below c o ho
 have stko:∀b∈frs X.stack,b<D:=λb h=>by
  obtain⟨_,o,ho,_⟩:=I.stack.mem h;exact below b o ho
 let Y:Cx:=X.comp scope Nc cl C fp s2 H2
 have yk:Y.Ok:=by
  refine⟨I.ok.mod,ck.kind,I.ok.glob,I.ok.blt,?_,?_,?_,?_,I.ok.hd,I.ok.frames,.inl rfl,?_,I.bs,?_,?_,?_,I.stack,I.stkFree⟩
  .show s2.heap.objs.size<=C;lia
  .exact λx y c h1 h2=>I.ok.inj x y c (a1 x c h1) (a1 y c h2)
  .intro x hx
   have:(x,fG)∈scope.names\/(x,lp)∈scope.names:=by
    rcases hx with hx |hx
    .exact vp (.inl rfl) hx
    .exact vp (.inr rfl) hx
   rcases this with z |z
   .exact a2 x z
   .exact absurd rfl (ck.nocell _ z)
  .exact λx c z=>nomatch z
  .intro b h;refine⟨?_,λx c e=>?_⟩
   .exact cp (Nat.lt_trans (fpo b h) hDC')
   .exact(f2 b h).2.2.2.2.1 x c (a1 x c e)
  .exact dC I.ok.bsz I.sz
  .intro b o e h
   rcases(f2 b h).2.2.2.1 with z |z
   .exact I.ok.noex b o e z
   .exact absurd (fE (bD e) (dC I.ok.bsz z)) (iV _)
  .intro b h z
   rcases bX.mp (I.stkSub b z)with e |e
   .exact(f2 b h).2.1 e
   .exact(f2 b h).2.2.1 e
 have I4:Inv Y [(D,i0 [] 0)] (gr k js σ) H2 {s2 with heap:=d8,toks:=s2.toks+([]:List (Str×Value)).length}:=by
  refine⟨yk,rfl,I.bare,Un.kept old,⟨_,G,λi x v e1 U e3=>?_⟩,λx c e=>?_,Hn C (by lia),λx c e=>I.freeC x c (a1 x c e),λp hp=>?_,I.hok.kept old,?_⟩
  .have e1:Nc[i]?=aa x:=e1;unfold gr at U
   have hik:k<=i:=by
    rcases Nat.lt_or_ge i k with z |z
    .rw[kR (by simpa using z),uB]at U;simp[z]at U
    .exact z
   rw[iT (by simpa using hik),d7]at U;simp only[kW]at U
   cases q:js[i-k]? with
   |none=>rw[q]at U;cases U
   |some j=>
    rw[q]at U;obtain⟨x',q1,q2,q3⟩:=ck.at' _ _ q;rw[show k+(i-k)=i by lia,e1]at q1;cases q1;have U:(σ[j]?).getD ab=aa v:=cj U
    have e2':σ[j]?=aa (aa v):=by
     cases z:σ[j]? with
     |none=>rw[z]at U;nomatch U
     |some y=>rw[z]at U;rw[show y=aa v from U]
    have hmem:(x,fG)∈scope.names:=by
     have:∀l:List (Str×fZ),l.lookup x=aa .free->(x,fG)∈l:=by
      intro l
      induction l with
      |nil=>intro z;nomatch z
      |cons a l ih=>
       intro z;obtain⟨n,kk⟩:=a;rw[fW]at z
       cases h:x==n with
       |true=>
        rw[h]at z;cases z
        rw[eq_of_beq h];exact bW
       |false=>rw[h]at z;exact c8 _ (ih z)
     exact this _ q3
    have hout:X.env.kindOf x=aa .cell\/X.env.kindOf x=aa .free:=ck.free _ hmem rfl;obtain⟨m,hn,hl⟩:=I.loc
    have vis:Vis X.env.scope x:=by
     rcases hout with z |z
     .exact .inr (.inl z)
     .exact .inr (.inr z)
    obtain⟨u,r,l⟩:=hl j x v q2 e2' vis;refine⟨u,r,.inr ⟨vo q3,?_⟩⟩
    rcases l with⟨z,_⟩ |⟨_,c,hcl,hcell⟩
    .rcases hout with y |y <;> (rw[y]at z;nomatch z)
    .obtain⟨c',hc'⟩:=a2 x hmem;have:=a1 x c' hc';rw[hcl]at this;cases this;exact⟨c,hc',hcell.keeps old⟩
  .obtain⟨v,z⟩:=I.cell x c (a1 x c e);exact⟨v,z.keeps old⟩
  .have hp:p∈[(D,i0 [] 0)]:=(dB.mp hp).elim (λz=>nomatch (show p∈([]:PNS)from z)) id;have hp:=bN.mp hp;subst hp;refine⟨hDo,Hn D (bf _),hDC,λz=>?_,λv z=>by nomatch z⟩;exact absurd (stko D z) (iV _)
  .show(gr k js σ).length=Nc.length;rw[ck.len];simp[gr]
 have st1:=T.keep 0 _ _ st2 λb _ o e=>old b o e
 have fpY:∀{H':Hp} {p:PNS},(∀q∈p,q.1=D)->(∀b∈fp,H' b=ab)->∀b∈fp,gH Y p H' b:=λ{H' p} hp hn b h=>by
  refine⟨hn b h,(yk.exf b h).1,yk.exfs b h,.inl h,λx c e=>(yk.exf b h).2 x c e,λq hq=>?_⟩;rw[hp q hq];exact lb (fpo b h)
 let xe:Value->aE->Prop:=notedBy (model X.prog X.w) X.A (compEnvC scope cl C X.env) λx s'=>RR (.ref D) C (.error x) s'
 have hp:=hPX D C hD hDC' stko
 have loop:gp (model X.prog X.w) X.A (.compLoop (.ListComp c0 [⟨tg,iter,dd,0⟩] scope pos) 0 (.ref it) (.ref D) (compEnvC scope cl C X.env)) (RR (.ref D) C) {s2 with heap:=d8,toks:=s2.toks+([]:List (Str×Value)).length}:=by
  refine Gy (λn s'=>∃i ys us nn σ' H',Inv Y [(D,i0 us nn)] σ' H' s'/\tn i s'.heap/\(∀b∈fp,H' b=ab)/\aS ys us/\W i n ys σ' H') ?_ m0
   ⟨0,[],[],0,gr k js σ,H2,I4,st1,λb h=>(f2 b h).1,.nil,w0⟩
  rintro n s3 ⟨i,ys,us,nn,ip,H3,I3,h8,fr3,rv,w3⟩
  have one:∀q∈[(D,i0 us nn)],q.1=D:=λq hq=>by
   have:q=(D,i0 us nn):=by simpa using hq
   rw[this]
  rcases turn i n ys ip H3 w3 with⟨stop,hz,qn⟩ |⟨go,hz,N,hN,step⟩
  .refine thn (T.done Y rfl rfl rfl hc i _ s3 ip H3 _ I3 (fpY one fr3) h8 stop) λr s4 ⟨hr,I5⟩=>?_;subst hr;obtain⟨pD,nD,_,_,_⟩:=I5.pin (D,i0 us nn) (by simp);have bs:=I5.base;have h2D:∀b o,H2 b=aa o->b≠D:=λb o e z=>by rw[z,Hn D (bf _)]at e;nomatch e
   have I6:Inv X pins σ (upd H3 D (.lst ys)) s4:=by
    refine I.call' (ch:=fp) I5.os ⟨bs.keep,bs.slot,λb o e n hx=>?_,bs.there,λb xs e=>?_,λb o u e=>?_,λb ps e=>?_⟩ (λb u e=>?_) I5.bare λb h=>?_
    .rw[bF (cp (below b o e))];exact bs.free b o e n hx
    .rw[bF (h2D b _ e)];exact bs.tups b xs e
    .rw[bF (h2D b _ e)];exact bs.frzs b o u e
    .rw[bF (h2D b _ e)];exact bs.tbls b ps e
    .by_cases h:b=D
     .subst h;rw[bI]at e;cases e;exact⟨hz,us,nn,rv,pD⟩
     .rw[bF h]at e;exact(I5.hok b u e).stay (λc v _ q=>q) (λc q=>by rw[bF (g5 q nD)];exact q) λc xs q=>by rw[bF (g5 q nD)];exact q
    .obtain⟨_,f1,_,f3,f4,f5⟩:=f2 b h;exact⟨f3,f1,f4,f5⟩
   obtain⟨m,hn,_⟩:=I5.loc;refine hRR D C s4 _ I6 ⟨m,hn⟩ (I.fpOk (by lia) ?_) (qn D (Hn D (bf _)) nD);rw[bF hDC.symm];exact I5.free
  .refine thn (T.item Y rfl rfl rfl hc i _ s3 ip H3 _ I3 (fpY one fr3) h8 go) λr s4 q_=>?_;obtain⟨u,hr,h4⟩:=q_;subst hr;refine thn h4 λ_ s5 q_=>?_;obtain⟨x,H5,I5,r5,y5,st5,fr5⟩:=q_;have I5':=I5.pinned (fpY one fr5) (T.obj _ _ st5);refine fK (hg cl C fp s2 H2 _ s5 ip H5 x u _ I5' r5 (step x H5 y5)) (λ_ s6 ⟨σ6,H6,I6,q6⟩=>?_) λ_ _ z=>z.elim;refine fK (ht cl C fp s2 H2 _ s6 σ6 H6 _ I6 q6) (λb s7 ⟨H7,I7,q7⟩=>?_) λ_ _ z=>z.elim
   have kp:∀{H8:Hp} {s8:aE},Inv Y ([(D,i0 us nn)]++qv fp s5.heap) σ6 H8 s8->tn (i+1) s8.heap/\(∀b∈fp,H8 b=ab):=λ{H8 s8} I8=>by
    refine⟨T.keep _ _ _ st5 λb h o e=>(I8.pin (b,o) (il _ (il _ (qw h e)))).1,λb h=>?_⟩;obtain⟨o,e,d⟩:=T.obj _ _ st5 b h;exact(I8.pin (b,o) (il _ (il _ (qw h e)))).2.1
   cases b with
   |false=>
    obtain⟨m',hm,w7⟩:=hN _ _ _ q7;obtain⟨st7,fr7⟩:=kp I7
    exact⟨m',hm,i+1,ys,us,nn,σ6,H7,I7.unpinned,st7,fr7,rv,w7⟩
   |true=>
    refine thn (he cl C fp s2 H2 xe hp _ s7 σ6 H7 _ (At I7) q7) λuy s8 q_=>?_;obtain⟨y,H8,I8',r8,q8⟩:=q_;have I8:=Au I8';obtain⟨m',hm,w8⟩:=hN _ _ _ q8;obtain⟨st8,fr8⟩:=kp I8;obtain⟨pD,nD,pC,pF,_⟩:=I8.pin (D,i0 us nn) (by simp);have hl:=rv.length
    refine wpAny_list_append_plain (items:=us.toArray) ⟨nn,pD⟩ (λh' hl' sb=>?_) (by simp only[size_toArray] <;> lia)
    obtain⟨n',e'⟩:=hl';have I8n:Inv Y [] σ6 H8 s8:=I8.pins_of (λ_ z=>nomatch z);have I9:=I8n.turned (t':=s8.toks) (it:=D) (λb o h e=>(sb.2 b h).trans e) nD pC (.inr (by show s2.heap.objs.size<=D;lia)) (λx c e=>cp (clo x c e)) (λp hp=>nomatch hp);refine⟨m',hm,i+1,ys++[y],us++[uy],n',σ6,H8,I9.pins_of (λp hp=>?_),?_,fr8,rv.append (.cons r8 .nil),w8⟩
    .have hp:p=(D,i0 (us++[uy]) n'):=by simpa using hp
     subst hp;refine⟨?_,nD,pC,pF,λv z=>by nomatch z⟩;have U:=e';rw[U];simp
    .exact T.keep _ _ _ st8 λb h o e=>(sb.2 b (cp (fpo b h))).trans e
 exact codeAny_compStart_list loop (T.self X.A 0 _ _ _ st1 loop)
def Av{pos:Pos}
 (z:X.calm=ac)(u:mG scope X.env.scope.names X.N Nc k js)
 (G:∀cl C ex d a,PG (X.comp scope Nc cl C ex d a) tg g)(I:∀cl C ex d a,PTs (X.comp scope Nc cl C ex d a) dd tt)(B:∀cl C ex d a,PE (X.comp scope Nc cl C ex d a) c0 te)
 (q:∀x c,cl.lookup x=aa c->X.env.cells.lookup x=aa c)(r:∀x,(x,fG)∈scope.names->∃c,cl.lookup x=aa c)
 (p:Inv X pins σ H2 s2)(T:jA X.prog X.w X.K tg J fp it tn)(o:tn 0 s2.heap)(v:∀b∈fp,gH X pins H2 b)(y:vq J g tt te (gr k js σ) H2 Q)
 (n:∀(D C:Addr) (s':aE) (H':Hp),Inv X pins σ H' s'->(∃m,s'.heap.Ns C m)->gH X pins H' C->Q (.ref D) H'->RR (.ref D) C (.ok .next) s'):
  wpAny (model X.prog X.w) X.A (newList []) (λi j=>wpAny (model X.prog X.w) X.A (newFunctionEnv scope X.env.globals cl [] X.env.qual ab .none (aa X.env)) (λh l =>
   gp (model X.prog X.w) X.A (.compStart (.ListComp c0 [⟨tg,iter,dd,0⟩] scope pos) 0 (.ref it) i {h with scope:=relabel scope X.env}) (RR i h.locals) l) E j) E s2:=
 GB (PX:=λ_=>True) z u G I (λcl C ex d a xe _=>PE.to0 (B cl C ex d a)) q r p T o v y n λ_ _ _ _ _=>trivial
variable{wi:TI}
def Aw{pos:Pos}(k:Nat)(js:LN)(Nc:LSt)(hc:X.calm=ac)(hi:PI X tg iter wi)
 (hg:∀cl C ex c a,PG (X.comp scope Nc cl C ex c a) tg g)(ht:∀cl C ex c a,PTs (X.comp scope Nc cl C ex c a) dd tt)(he:∀cl C ex c a,PE (X.comp scope Nc cl C ex c a) c0 te)
 (d:iZ scope X.env.scope.names X.N Nc k js=ac:=by rfl)(hs:∀x,iy iter X.env x=pure x:=by intro _;rfl):
  PE X (.ListComp c0 [⟨tg,iter,dd,0⟩] scope pos) (mH k js wi g tt te):=by
 intro pins s σ H Q I h;have d:=mG.of d;obtain⟨cl,i,r,u⟩:=Ap λx hx e=>I.ok.has x.1 (d.free x hx e);refine wpAny_comprehension_free rfl hs i d.kind d.loc (thn (hi pins s σ H _ I h) λv s1 h1=>thn h1 λitv s2 h2=>?_);obtain⟨it,fp,tn,J,H2,e,p,T,l,B,hW⟩:=h2;subst e;refine Av hc d hg ht he r u p T l B hW λD C s' H' n ⟨m,hn⟩ U q=>?_;obtain⟨y,z,_,G,L,M⟩:=U;exact⟨m,hn,λh' j=>⟨.ref D,H',n.turned (λb o hb e=>(j.2 b hb).trans e) y z G L M,rfl,q⟩⟩
variable{i:Nat}{x:Str}{b0 cc:Pos}
def qS{pos:Pos}(k:Nat)(js:LN)(Nc:LSt)(hN:X.N.Nodup)(r:X.N[i]?=aa x)(B:Loc X.env.scope x)(hc:X.calm=ac)(hi:PI X tg iter wi)
 (hg:∀cl C ex d c,PG (X.comp scope Nc cl C ex d c) tg g)(ht:∀cl C ex d c,PTs (X.comp scope Nc cl C ex d c) dd tt)(he:∀cl C ex d c,PE (X.comp scope Nc cl C ex d c) c0 te)
 (y:fF (.ListComp c0 [⟨tg,iter,dd,0⟩] scope pos) (aa (.Name x b0)) cc.line X.env=pure ac:=by rfl)
 (j:iZ scope X.env.scope.names X.N Nc k js=ac:=by rfl)(hs:∀x,iy iter X.env x=pure x:=by intro _;rfl)
 (hf:LcF X x:=by first |exact .inl rfl |exact .inr rfl |assumption):
  PS X (.Assign [.Name x b0] (.ListComp c0 [⟨tg,iter,dd,0⟩] scope pos) cc) (j0 (mH k js wi g tt te) (jZ i)):=by
 intro pins s σ H D I h;have j:=mG.of j;rw[exec_Assign_Name_used _ _ _ _ y];refine ar (qe (ar ?_));obtain⟨cl,p,a1,a2⟩:=Ap λx B e=>I.ok.has x.1 (j.free x B e)
 refine ar (fK (wpAny_comprehension_free rfl hs p j.kind j.loc
  (thn (hi pins s σ H _ I h) λv s1 h1=>thn h1 λitv s2 h2=>?_)) (λ_ s' hq=>aY (aY hq)) λ_ _ e=>e)
 obtain⟨it,fp,tn,J,H2,e,I2,T,G,f2,hW⟩:=h2;subst e;refine Av hc j hg ht he a1 a2 I2 T G f2 hW λU C s' H' I' ⟨m,hn⟩ fC q=>?_;obtain⟨f0,L,f2',f3,M,f5⟩:=fC;refine wpAny_assign_Name (zw (v:=.ref U) I' hN r B rfl (λs'' l ⟨a,sb,ha⟩=>?_) hf)
 have n:C≠a:=by
  rcases ha with z |z
  .rw[z];exact L
  .exact(M x a z).symm
 exact⟨m,hn.sameBut sb n,λh' u=>⟨_,H',l.turned (λb o hb e=>(u.2 b hb).trans e) f0 L f3 M f5,q⟩⟩
def Ax:OpR X (cU .Is) (λx y H Q=>∃b,y=.bl b/\(x=.non\/∃c,x=.bl c)/\Q (.bl (decide (x=.bl b))) H):=by
 intro pins s σ H x y v u Q I a j h;obtain⟨b,rfl,d,q⟩:=h;subst j
 rcases d with rfl |⟨c,rfl⟩
 .subst a
  exact wpAny_is_plain rfl (cI I q (by cases b <;> rfl))
 .subst a
  exact wpAny_is_plain rfl (cI I q (by cases b <;> cases c <;> rfl))
def GC(a:X.calm=ac):fH X (.builtin "sum") (λxs H Q=>∃(p:Addr) (ns:List Int),xs=[.ref p]/\SqL X.K H p (ns.map V.int)/\Q (.int ns.sum) H):=by
 intro pins s σ H xs us Q I r h;obtain⟨p,ns,rfl,c,q⟩:=h;obtain⟨u,rfl,j⟩:=g6 r;subst j;obtain⟨its,d,pl,hz⟩:=I.list c;have hi:=FU d;obtain⟨xs,e⟩:=hi.allInts.items;refine sum_intListG (I.ok.hd a) (by rw[<- e];exact pl.isList) λh' l t' b=>?_
 have es:preSum (numAt xs) xs.size=ns.sum:=by
  rw[preSum_eq,kU (by simp),<- nums_intItems,<- e,hi.numsOf]
 rw[es];exact⟨.int ns.sum,H,I.kept b,⟨_,rfl⟩,q⟩
variable{xs:List V}
def aS.at'{us:LVa}{u:Value}(r:aS xs us)(e:us[i]?=aa u):∃x,xs[i]?=aa x/\aP x u:=by
 have c:=r.length;have hi:i<xs.length:=by have:=(eQ.mp e).1;lia
 refine⟨xs[i],by simp[hi],?_⟩;obtain⟨d,a,b⟩:=r.get (i:=i) (x:=xs[i]) (by simp[hi]);rw[e]at a;cases a;exact b
def mI{env:Env}{b:fZ}(c:b≠.free):∀{names:List (Str×fZ)} {x:Str},names.lookup x=aa b ->
  (names.map λ(n,k)=>if (k==fG && env.scope.kind==.function && env.kindOf n==aa .cell) then (n,lp) else (n,k)).lookup x=aa b
 | [],_,h=>by simp at h
 |(n,k)::r,x,h=>by
  have d:=@mI env b c r x;show List.lookup x ((if _=ac then _ else _)::_)=_;rw[fW]at h
  cases a:x==n with
  |true=>
   rw[a]at h;have e:=cj h;subst e;have j:(k==fG)=ag:=by simpa using c
   rw[j,Bool.false_and,Bool.false_and,if_neg bS,fW,a]
  |false=>
   rw[a]at h;split
   .rw[fW,a];exact d h
   .rw[fW,a];exact d h
def GD(h:Vis scope x):Vis (relabel scope env) x:=by
 rcases h with h |h |h
 .exact .inl (mI (by decide) h)
 .exact .inr (.inl (mI (by decide) h))
 .rcases vo h with z |z
  .exact .inr (.inl z)
  .exact .inr (.inr z)
variable{C:Addr}{ex:LAd}{a0:aE}{a8:Hp}
def pvc(i:Nat){pos:Pos}(b:Nc[i]?=aa x:=by rfl)(c:Vis scope x:=by first |exact cf rfl |exact bw (cf rfl) |exact bw (bw rfl))(hd:NDb x:=by decide)
 (a:NCd x:=by decide):PE (X.comp scope Nc cl C ex a0 a8) (.Name x pos) (eG i):=jz b (GD c) hd a
def pgc(i:Nat){pos:Pos}(b:Nc.Nodup:=by decide +kernel)(hi:Nc[i]?=aa x:=by rfl)(a:scope.names.lookup x=aa .local:=by rfl):PG (X.comp scope Nc cl C ex a0 a8) (.Name x pos) (jZ i):=
 zF b hi (.inl (mI (by decide) a)) (.inr (mI (by decide) a))
def glc(h:scope.names.lookup x=aa .globalImplicit):Gl (X.comp scope Nc cl C ex a0 a8) x:=mI (by decide) h
variable{p:Addr}{o:HO}
def cB(h:H p=ab):aM H (upd H p o):=λb u e=>by rw[bF (g5 e h)];exact e
variable{K:bo}{H':Hp}{a:Addr}
def aM.tup(e:aM H H')(h:SqT K H a xs):SqT K H' a xs:=by
 rcases h with(h |⟨o,h⟩) |h
 .exact .inl (.inl (e _ _ h))
 .exact .inl (.inr ⟨o,e _ _ h⟩)
 .exact .inr h
abbrev mJ(p:Addr)(H H':Hp):Prop:=∀b o,H b=aa o->b≠p->H' b=aa o
def mJ.refl(p:Addr)(H:Hp):mJ p H H:=λ_ _ h _=>h
variable{H1:Hp}
def mJ.trans(a:mJ p H H1)(b:mJ p H1 H2):mJ p H H2:=λc o h n=>b c o (a c o h n) n
abbrev Ay(p:Option Bool->Bool)(es:List (Option Bool))(its:List (Int×Int)):Int:=((its.filter λz=>p (es.getD z.1.toNat ab)).map (·.2)).sum
inductive Prt where
 |inn (t:Int) |out (t:Int) |least (k:Int) (its:List (Int×Int)) |most (k:Int) (its:List (Int×Int))
abbrev bs(l:List Bool):List (Option Bool):=l.map aa
abbrev Prt.holds(rs ws:List Bool):Prt->Bool
 |.inn t=>(rs.getD t.toNat ag)
 |.out t=>!(ws.getD t.toNat ag)
 |.least k its=>decide (k<=Ay (·==aa ac) (bs rs) its)
 |.most k its=>decide (Ay (·==aa ac) (bs ws) its<=k)
variable{h':Heap}
def Inv.turnedMany{t':Nat}{ch:LAd}(I:Inv X pins σ H s)(k:∀b o,b∉ch->s.heap.get? b=aa o->h'.get? b=aa o)(h:∀b∈ch,gH X pins H b):Inv X pins σ H {s with heap:=h',toks:=t'}:=by
 refine I.step (λb T=>?_) (λb o _ _ d e _=>k b o d e) (λb o _ _ d e _=>⟨o.slots,k b o d e⟩) (λ_ _ _ _ n=>n)
  (λb o d e=>⟨o,k b o d e⟩) (λ_ _ e=>e) (λ_ _ _ e=>e) (λb ps e=>⟨#[],by rw[e];simp⟩) (λm U=>?_) (λb u e=>?_) I.bare
 .obtain⟨_,B,_,G,L,M⟩:=h b T;exact⟨G,B,L,M⟩
 .obtain⟨o,es,l,ho,r⟩:=U;exact⟨o,es,l,k _ o (λz=>(h _ z).2.1 rfl) ho,r⟩
 .refine(I.hok b u e).stay (λc v d q=>k c v (λz=>?_) q) (λ_ q=>q) λ_ _ q=>q;have j:=(h c z).1
  rcases d with y |y
  .rw[y,e]at j;nomatch j
  .rw[j]at y;nomatch y
def Inv.track(I:Inv X pins σ H s)(f:gH X pins H p)(M:e7 X.prog X.w (upd H p o) s.heap p o):Inv X pins σ (upd H p o) s:=by
 obtain⟨l,r,T,y,B,G⟩:=f;have h:∀b u,H b=aa u->b≠p:=λb u e=>g5 e l;have one:∀b:Addr,b∉[p]->b≠p:=λb d z=>d (by rw[z];simp)
 refine I.step (ch:=[p]) (λb d=>?_) (λb o _ _ j e _=>e) (λb o _ _ j e _=>⟨o.slots,e⟩) (λb o j e n=>?_)
  (λb o j e=>⟨o,e⟩) (λb xs e=>?_) (λb o u e=>?_) (λb ps e=>⟨#[],?_⟩) (λm L=>L) (λb u e=>?_) I.bare
 .have e:b=p:=by simpa using d
  subst e;exact⟨y,r,B,G⟩
 .rw[bF (one b j)];exact n
 .rw[bF (h b _ e)];exact e
 .rw[bF (h b _ e)];exact e
 .rw[bF (h b _ e),e];simp
 .by_cases d:b=p
  .subst d;rw[bI]at e;cases e;exact M
  .rw[bF d]at e;exact(I.hok b u e).stay (λc v _ q=>q) (λc q=>by rw[bF (h c _ q)];exact q) λc xs q=>by rw[bF (h c _ q)];exact q
inductive D where
 |non
 |bl (b:Bool)
 |int (i:Int)
 |str (x:Str)
 |lst (xs:List D)
 |tup (xs:List D)
 |kl (xs:List D)
 |kt (xs:List D)
 |dic (ks:List Key) (xs:List D)
 |ins (c:Str) (ns:LSt) (xs:List D)
 |kd (ks:List Key) (xs:List D)
 |dT (ks:List (List Key)) (xs:List D)
 deriving Inhabited
nonrec abbrev OD:=Option D
nonrec abbrev LD:=List D
nonrec abbrev OLD:=Option LD
set_option genInjectivity false in
structure Gc where
 K:bo
 cl:Str->Addr
mutual
def Rep(G:Gc)(H:Hp):D->V->Prop
 |.non,v=>v=.non
 |.bl b,v=>v=.bl b
 |.int i,v=>v=.int i
 |.str x,v=>v=.str x
 |.lst ds,v=>∃a vs,v=.ref a/\H a=aa (.lst vs)/\ay G H ds vs
 |.tup ds,v=>∃a vs,v=.ref a/\H a=aa (.tup vs)/\ay G H ds vs
 |.kl ds,v=>∃a vs,v=.ref a/\SqL G.K H a vs/\ay G H ds vs
 |.kt ds,v=>∃a vs,v=.ref a/\SqT G.K H a vs/\ay G H ds vs
 |.dic ks ds,v=>∃a vs,v=.ref a/\H a=aa (.dK (ks.zip vs))/\ks.length=vs.length/\ay G H ds vs
 |.ins c ns ds,v=>∃a dx vs,v=.ref a/\H a=aa (.ins (G.cl c) dx (ns.zip vs))/\ns.length=vs.length/\ay G H ds vs
 |.kd ks ds,v=>∃a od vs,v=.ref a/\H a=aa (.frz od (.dK (ks.zip vs)))/\ks.length=vs.length/\ay G H ds vs
 |.dT ks ds,v=>∃a vs,v=.ref a/\H a=aa (.dT (ks.zip vs))/\ks.length=vs.length/\ay G H ds vs
def ay(G:Gc)(H:Hp):LD->List V->Prop
 | [],vs=>vs=[]
 |d::ds,vs=>∃v r,vs=v::r/\Rep G H d v/\ay G H ds r
end
mutual
theorem Rep.upM(s:aM H H'):∀(d:D) (v:V),Rep G H d v->Rep G H' d v
 |.non,_,h=>h
 |.bl _,_,h=>h
 |.int _,_,h=>h
 |.str _,_,h=>h
 |.lst ds,_,h_=>by obtain⟨a,vs,e,q,r⟩:=h_;exact⟨a,vs,e,s _ _ q,ay.upM s ds vs r⟩
 |.tup ds,_,h_=>by obtain⟨a,vs,e,q,r⟩:=h_;exact⟨a,vs,e,s _ _ q,ay.upM s ds vs r⟩
 |.kl ds,_,h_=>by obtain⟨a,vs,e,q,r⟩:=h_;exact⟨a,vs,e,s.seq q,ay.upM s ds vs r⟩
 |.kt ds,_,h_=>by obtain⟨a,vs,e,q,r⟩:=h_;exact⟨a,vs,e,s.tup q,ay.upM s ds vs r⟩
 |.dic _ ds,_,h_=>by obtain⟨a,vs,e,q,l,r⟩:=h_;exact⟨a,vs,e,s _ _ q,l,ay.upM s ds vs r⟩
 |.ins _ _ ds,_,h_=>by obtain⟨a,dx,vs,e,q,l,r⟩:=h_;exact⟨a,dx,vs,e,s _ _ q,l,ay.upM s ds vs r⟩
 |.kd _ ds,_,h_=>by obtain⟨a,od,vs,e,q,l,r⟩:=h_;exact⟨a,od,vs,e,s _ _ q,l,ay.upM s ds vs r⟩
 |.dT _ ds,_,h_=>by obtain⟨a,vs,e,q,l,r⟩:=h_;exact⟨a,vs,e,s _ _ q,l,ay.upM s ds vs r⟩
theorem ay.upM(s:aM H H'):∀(ds:LD) (vs:List V),ay G H ds vs->ay G H' ds vs
 | [],_,h=>h
 |d::ds,_,h_=>by obtain⟨v,r,e,b,c⟩:=h_;exact⟨v,r,e,Rep.upM s d v b,ay.upM s ds r c⟩
end
variable{G:Gc}{d:D}{v:V}
def Rep.up(r:Rep G H d v)(s:aM H H'):Rep G H' d v:=Rep.upM s d v r
variable{ds:LD}{vs:List V}
def ay.up(r:ay G H ds vs)(s:aM H H'):ay G H' ds vs:=ay.upM s ds vs r
def ay.nil:ay G H [] []:=rfl
def ay.cons(h:Rep G H d v)(t:ay G H ds vs):ay G H (d::ds) (v::vs):=⟨v,vs,rfl,h,t⟩
def ay.length:∀{ds:LD} {vs:List V},ay G H ds vs->ds.length=vs.length
 | [],_,h=>by cases (h);rfl
 |d::ds,_,⟨v,r,e,_,h⟩=>by subst e;simp[ay.length h]
def ay.append:∀{ds es:LD} {vs us:List V},ay G H ds vs->ay G H es us->ay G H (ds++es) (vs++us)
 | [],_,_,_,h,t=>by cases (h);exact t
 |d::ds,_,_,_,⟨v,r,e,h1,h2⟩,t=>by subst e;exact⟨v,r++_,rfl,h1,ay.append h2 t⟩
def ay.get:∀{ds:LD} {vs:List V} {i:Nat} {d:D},ay G H ds vs->ds[i]?=aa d->∃v,vs[i]?=aa v/\Rep G H d v
 | [],_,_,_,_,e=>by simp at e
 |d::ds,_,0,_,⟨v,r,e,h1,_⟩,e'=>by subst e;simp at e';subst e';exact⟨v,rfl,h1⟩
 |d::ds,_,i+1,d',q4_,e'=>by
  obtain⟨v,r,e,_,c⟩:=q4_;subst e;obtain⟨u,a,b⟩:=ay.get c (by simpa using e');exact⟨u,by simpa using a,b⟩
def ay.get':∀{ds:LD} {vs:List V} {i:Nat} {v:V},ay G H ds vs->vs[i]?=aa v->∃d,ds[i]?=aa d/\Rep G H d v:=λ{ds vs i v} h e=>by
 have c:=h.length;have hi:i<ds.length:=by have:=(eQ.mp e).1;lia
 obtain⟨u,a,b⟩:=h.get (i:=i) (d:=ds[i]) (by simp[hi]);rw[e]at a;cases a;exact⟨ds[i],by simp[hi],b⟩
def ay.ints:∀(ns:List Int),ay G H (ns.map D.int) (ns.map V.int)
 | []=>rfl
 |n::ns=>⟨_,_,rfl,rfl,ay.ints ns⟩
def ay.take:∀{ds:LD} {vs:List V} (n:Nat),ay G H ds vs->ay G H (ds.take n) (vs.take n)
 | _,_,0,_=>rfl
 | [],_,n+1,h=>by cases (h);rfl
 |d::ds,_,n+1,⟨v,r,e,h1,h2⟩=>by subst e;exact⟨v,r.take n,rfl,h1,ay.take n h2⟩
def ay.drop:∀{ds:LD} {vs:List V} (n:Nat),ay G H ds vs->ay G H (ds.drop n) (vs.drop n)
 | _,_,0,h=>h
 | [],_,n+1,h=>by cases (h);rfl
 |d::ds,_,n+1,⟨v,r,e,h1,h2⟩=>by subst e;exact ay.drop n h2
def ay.reverse:∀{ds:LD} {vs:List V},ay G H ds vs->ay G H ds.reverse vs.reverse
 | [],_,h=>by cases (h);rfl
 |d::ds,_,q2_=>by
  obtain⟨v,r,e,b,c⟩:=q2_;subst e;rw[gl,gl];exact(ay.reverse c).append (.cons b .nil)
def ay.set:∀{ds:LD} {vs:List V} (i:Nat) {d:D} {v:V},ay G H ds vs->Rep G H d v->ay G H (ds.set i d) (vs.set i v)
 | [],_,_,_,_,h,_=>by cases (h);exact .nil
 |e::ds,_,0,_,_,⟨v,r,e',_,h2⟩,q=>by subst e';exact⟨_,r,rfl,q,h2⟩
 |e::ds,_,i+1,_,_,⟨v,r,e',h1,h2⟩,q=>by subst e';exact⟨v,r.set i _,rfl,h1,ay.set i h2 q⟩
abbrev j5:HO->Bool
 |.tup _=>ac
 | _=>ag
structure Ext(Hf H Hf' H':Hp):Prop where
 f:aM Hf Hf'
 h:aM H H'
 s:aM Hf' H'
 n:∀l o,H l=aa o->j5 o=ag->Hf' l=Hf l
variable{Hf:Hp}
def Ext.refl(s:aM Hf H):Ext Hf H Hf H:=⟨aM.refl _,aM.refl _,s,λ_ _ _ _=>rfl⟩
variable{al a9:Hp}
def Ext.trans(a:Ext Hf H al H1)(b:Ext al H1 a9 H2):Ext Hf H a9 H2:=⟨a.f.trans b.f,a.h.trans b.h,b.s,λl o e t=>(b.n l o (a.h l o e) t).trans (a.n l o e t)⟩
def Ext.new(s:aM Hf H)(h:H p=ab):Ext Hf H (upd Hf p o) (upd H p o):=
 ⟨cB (s.free h),cB h,λb u e=>by
  by_cases c:b=p
  .subst c;rw[bI]at e ⊢;exact e
  .rw[bF c]at e ⊢;exact s b u e,λl u e _=>by rw[bF (g5 e h)]⟩
def Ext.tmp(s:aM Hf H)(h:H p=ab):Ext Hf H Hf (upd H p o):=⟨aM.refl _,cB h,s.trans (cB h),λ_ _ _ _=>rfl⟩
def Ext.grow(s:aM Hf H)(g:aM H H1):Ext Hf H Hf H1:=⟨aM.refl _,g,s.trans g,λ_ _ _ _=>rfl⟩
def Ext.fix(a:Ext Hf H al H1)(m:H p=ab)(j:al p=ab)(hp:H1 p=aa o):Ext Hf H (upd al p o) H1:=
 ⟨a.f.trans (cB j),a.h,λb u e=>by
  by_cases c:b=p
  .subst c;rw[bI]at e;rw[hp];exact e
  .rw[bF c]at e;exact a.s b u e,λl u e t=>by rw[bF (g5 e m)];exact a.n l u e t⟩
inductive O where
 |fz (d:D)
 |lst (xs:List O)
 |tup (xs:List O)
 |dic (ks:List Key) (xs:List O)
 |ins (c:Str) (ns:LSt) (xs:List O)
 |jnk (n:Nat)
 |dT (ks:List (List Key)) (xs:List O)
 |at (l:Addr) (o:O)
 |any
 deriving Inhabited
mutual
def OT(G:Gc)(Hf H:Hp):O->V->LAd->Prop
 |.fz d,v,fp=>Rep G Hf d v/\fp=[]
 |.lst os,v,fp=>∃a vs fs,v=.ref a/\H a=aa (.lst vs)/\OTs G Hf H os vs fs/\fp=a::fs
 |.tup os,v,fp=>∃a vs,v=.ref a/\H a=aa (.tup vs)/\OTs G Hf H os vs fp
 |.dic ks os,v,fp=>∃a vs fs,v=.ref a/\H a=aa (.dK (ks.zip vs))/\ks.length=vs.length/\OTs G Hf H os vs fs/\fp=a::fs
 |.ins c ns os,v,fp=>∃a dx vs fs,v=.ref a/\H a=aa (.ins (G.cl c) dx (ns.zip vs))/\ns.length=vs.length/\OTs G Hf H os vs fs/\fp=a::fs
 |.jnk n,v,fp=>∃a vs,v=.ref a/\H a=aa (.lst vs)/\vs.length<=n/\fp=[a]
 |.dT ks os,v,fp=>∃a vs fs,v=.ref a/\H a=aa (.dT (ks.zip vs))/\ks.length=vs.length/\OTs G Hf H os vs fs/\fp=a::fs
 |.at l o,v,fp=>v=.ref l/\OT G Hf H o v fp
 |.any,_,fp=>fp=[]
def OTs(G:Gc)(Hf H:Hp):List O->List V->LAd->Prop
 | [],vs,fp=>vs=[]/\fp=[]
 |o::os,vs,fp=>∃v r b c,vs=v::r/\OT G Hf H o v b/\OTs G Hf H os r c/\fp=b++c
end
mutual
noncomputable def O.toD:O->D
 |.fz d=>d
 |.lst os=>.lst (O.toDs os)
 |.tup os=>.tup (O.toDs os)
 |.dic ks os=>.dic ks (O.toDs os)
 |.ins c ns os=>.ins c ns (O.toDs os)
 |.at _ o=>o.toD
 |.jnk _=>.non
 |.dT ks os=>.dT ks (O.toDs os)
 |.any=>.non
noncomputable def O.toDs:List O->LD
 | []=>[]
 |o::os=>o.toD::O.toDs os
end
mutual
noncomputable def O.kn:O->Bool
 |.fz _=>ac
 |.lst os=>O.kns os
 |.tup os=>O.kns os
 |.dic _ os=>O.kns os
 |.ins _ _ os=>O.kns os
 |.at _ o=>o.kn
 |.jnk _=>ag
 |.dT _ os=>O.kns os
 |.any=>ag
noncomputable def O.kns:List O->Bool
 | []=>ac
 |o::os=>o.kn && O.kns os
end
mutual
theorem OT.frameM(f:aM Hf Hf'):∀(o:O) (v:V) (fp:LAd),OT G Hf H o v fp->(∀b u,H b=aa u->(j5 u=ac\/b∈fp)->H' b=aa u)->OT G Hf' H' o v fp
 |.fz d,_,_,h,_=>⟨h.1.up f,h.2⟩
 |.lst os,_,fp,h_,k=>by obtain⟨a,vs,fs,e,q,r,j⟩:=h_;exact⟨a,vs,fs,e,k _ _ q (.inr (by rw[j];exact bW)),OTs.frameM f os vs fs r (λb u l m=>k b u l (m.imp_right λz=>by rw[j];exact c8 _ z)),j⟩
 |.tup os,_,fp,h_,k=>by obtain⟨a,vs,e,q,r⟩:=h_;exact⟨a,vs,e,k _ _ q (.inl rfl),OTs.frameM f os vs fp r k⟩
 |.dic ks os,_,fp,h_,k=>by obtain⟨a,vs,fs,e,q,z,r,j⟩:=h_;exact⟨a,vs,fs,e,k _ _ q (.inr (by rw[j];exact bW)),z,OTs.frameM f os vs fs r (λb u l m=>k b u l (m.imp_right λz=>by rw[j];exact c8 _ z)),j⟩
 |.ins c ns os,_,fp,h_,k=>by obtain⟨a,dx,vs,fs,e,q,z,r,j⟩:=h_;exact⟨a,dx,vs,fs,e,k _ _ q (.inr (by rw[j];exact bW)),z,OTs.frameM f os vs fs r (λb u l m=>k b u l (m.imp_right λz=>by rw[j];exact c8 _ z)),j⟩
 |.jnk n,_,fp,h_,k=>by obtain⟨a,vs,e,q,z,j⟩:=h_;exact⟨a,vs,e,k _ _ q (.inr (by rw[j];exact bW)),z,j⟩
 |.dT ks os,_,fp,h_,k=>by obtain⟨a,vs,fs,e,q,z,r,j⟩:=h_;exact⟨a,vs,fs,e,k _ _ q (.inr (by rw[j];exact bW)),z,OTs.frameM f os vs fs r (λb u l m=>k b u l (m.imp_right λz=>by rw[j];exact c8 _ z)),j⟩
 |.at _ o,v,fp,h_,k=>by obtain⟨e,r⟩:=h_;exact⟨e,OT.frameM f o v fp r k⟩
 |.any,_,_,h,_=>h
theorem OTs.frameM(f:aM Hf Hf'):∀(os:List O) (vs:List V) (fp:LAd),OTs G Hf H os vs fp->(∀b u,H b=aa u->(j5 u=ac\/b∈fp)->H' b=aa u)->OTs G Hf' H' os vs fp
 | [],_,_,h,_=>h
 |o::os,_,fp,h_,k=>by obtain⟨v,r,m,n,e,q,y,c⟩:=h_;exact⟨v,r,m,n,e,OT.frameM f o v m q (λb u j l=>k b u j (l.imp_right λz=>by rw[c];exact mem_append_left _ z)),OTs.frameM f os r n y (λb u j l=>k b u j (l.imp_right λz=>by rw[c];exact il _ z)),c⟩
end
variable{Hf':Hp}{o:O}
def OT.frame(h:OT G Hf H o v fp)(f:aM Hf Hf')(k:∀b u,H b=aa u->(j5 u=ac\/b∈fp)->H' b=aa u):OT G Hf' H' o v fp:=OT.frameM f o v fp h k
def OT.up(h:OT G Hf H o v fp)(f:aM Hf Hf')(s:aM H H'):OT G Hf' H' o v fp:=h.frame f λb u e _=>s b u e
def qT{b c:Type}:∀{ks:List b} {vs us:List c},ks.length=vs.length->ks.length=us.length->ks.zip vs=ks.zip us->vs=us
 | [],[],[],_,_,_=>rfl
 |k::ks,v::vs,u::us,h1,h2,e=>by
  injection e with e1 e2
  injection e1 with _ e3
  rw[e3,qT (by simpa using h1) (by simpa using h2) e2]
 | [],_::_,_,h,_,_=>by cases h
 | [],[],_::_,_,h,_=>by cases h
 | _::_,[],_,h,_,_=>by cases h
 | _::_,_::_,[],_,h,_=>by cases h
mutual
theorem OT.funM:∀(o:O) (v:V) (f I:LAd),OT G Hf H o v f->OT G Hf' H o v I->f=I
 |.fz d,_,_,_,h,h'=>h.2.trans h'.2.symm
 |.lst os,_,_,_,q4_,q5_=>by
  obtain⟨a,vs,fs,e,q,r,y⟩:=q4_;obtain⟨M,u,j,m,l,B,b⟩:=q5_;subst e y b;cases m;rw[q]at l;cases l
  rw[OTs.funM os vs fs j r B]
 |.tup os,_,f,I,q4_,q5_=>by
  obtain⟨a,vs,e,q,r⟩:=q4_;obtain⟨M,u,m,l,B⟩:=q5_;subst e;cases m;rw[q]at l;cases l
  exact OTs.funM os vs f I r B
 |.dic ks os,_,_,_,q4_,q5_=>by
  obtain⟨a,vs,fs,e,q,z,r,y⟩:=q4_;obtain⟨M,u,j,m,l,L,B,b⟩:=q5_;subst e y b;cases m;rw[q]at l;have:=qT z L (HO.dK.inj (cj l));subst this
  rw[OTs.funM os vs fs j r B]
 |.ins c ns os,_,_,_,q4_,q5_=>by
  obtain⟨a,dx,vs,fs,e,q,z,r,y⟩:=q4_;obtain⟨M,T,u,j,m,l,L,B,b⟩:=q5_;subst e y b;cases m;rw[q]at l;have:=qT z L (HO.ins.inj (cj l)).2.2;subst this
  rw[OTs.funM os vs fs j r B]
 |.jnk n,_,_,_,q4_,q5_=>by
  obtain⟨a,vs,e,q,z,y⟩:=q4_;obtain⟨M,u,m,l,L,b⟩:=q5_;subst e y b;cases m
  rfl
 |.dT ks os,_,_,_,q4_,q5_=>by
  obtain⟨a,vs,fs,e,q,z,r,y⟩:=q4_;obtain⟨M,u,j,m,l,L,B,b⟩:=q5_;subst e y b;cases m;rw[q]at l;have:=qT z L (HO.dT.inj (cj l));subst this
  rw[OTs.funM os vs fs j r B]
 |.at _ o,v,f,I,h,h'=>OT.funM o v f I h.2 h'.2
 |.any,_,_,_,h,h'=>(show _=[]from h).trans (show _=[]from h').symm
theorem OTs.funM:∀(os:List O) (vs:List V) (f n:LAd),OTs G Hf H os vs f->OTs G Hf' H os vs n->f=n
 | [],_,_,_,h,h'=>h.2.trans h'.2.symm
 |o::os,_,_,_,q4_,q5_=>by
  obtain⟨v,r,y,z,e,B,I,u⟩:=q4_;obtain⟨M,L,c,j,q,l,m,b⟩:=q5_;subst e u b;cases q;rw[OT.funM o v y c B l,OTs.funM os r z j I m]
end
mutual
theorem OT.memM:∀(o:O) (v:V) (f:LAd),OT G Hf H o v f->∀a∈f,∃u,H a=aa u/\j5 u=ag
 |.fz d,_,_,h,a,ha=>by rw[h.2]at ha;cases ha
 |.lst os,_,_,q3_,b,hb=>by
  obtain⟨a,vs,fs,e,q,r,j⟩:=q3_;subst j
  rcases bX.mp hb with z |z
  .subst z;exact⟨_,q,rfl⟩
  .exact OTs.memM os vs fs r b z
 |.tup os,_,f,⟨a,vs,e,q,r⟩,b,hb=>OTs.memM os vs f r b hb
 |.dic ks os,_,_,q3_,b,hb=>by
  obtain⟨a,vs,fs,e,q,z,r,j⟩:=q3_;subst j
  rcases bX.mp hb with z |z
  .subst z;exact⟨_,q,rfl⟩
  .exact OTs.memM os vs fs r b z
 |.ins c ns os,_,_,q3_,b,hb=>by
  obtain⟨a,dx,vs,fs,e,q,z,r,j⟩:=q3_;subst j
  rcases bX.mp hb with z |z
  .subst z;exact⟨_,q,rfl⟩
  .exact OTs.memM os vs fs r b z
 |.jnk n,_,_,q3_,b,hb=>by
  obtain⟨a,vs,e,q,z,j⟩:=q3_;subst j;rw[bN.mp hb]
  exact⟨_,q,rfl⟩
 |.dT ks os,_,_,q3_,b,hb=>by
  obtain⟨a,vs,fs,e,q,z,r,j⟩:=q3_;subst j
  rcases bX.mp hb with z |z
  .subst z;exact⟨_,q,rfl⟩
  .exact OTs.memM os vs fs r b z
 |.at _ o,v,f,h,a,ha=>OT.memM o v f h.2 a ha
 |.any,_,_,h,a,ha=>by rw[show _=[]from h]at ha;cases ha
theorem OTs.memM:∀(os:List O) (vs:List V) (f:LAd),OTs G Hf H os vs f->∀a∈f,∃u,H a=aa u/\j5 u=ag
 | [],_,_,h,a,ha=>by rw[h.2]at ha;cases ha
 |o::os,_,_,q3_,a,ha=>by
  obtain⟨v,r,c,j,e,l,m,b⟩:=q3_;subst b
  rcases dB.mp ha with z |z
  .exact OT.memM o v c l a z
  .exact OTs.memM os r j m a z
end
mutual
theorem OT.repM(s:aM Hf H):∀(o:O) (v:V) (f:LAd),o.kn=ac->OT G Hf H o v f->Rep G H o.toD v
 |.fz d,_,_,_,h=>by rw[O.toD];exact h.1.up s
 |.lst os,_,_,hk,h_=>by obtain⟨a,vs,fs,e,q,r,b⟩:=h_;rw[O.kn]at hk;rw[O.toD];exact⟨a,vs,e,q,OTs.repM s os vs fs hk r⟩
 |.tup os,_,f,hk,h_=>by obtain⟨a,vs,e,q,r⟩:=h_;rw[O.kn]at hk;rw[O.toD];exact⟨a,vs,e,q,OTs.repM s os vs f hk r⟩
 |.dic ks os,_,_,hk,h_=>by obtain⟨a,vs,fs,e,q,z,r,b⟩:=h_;rw[O.kn]at hk;rw[O.toD];exact⟨a,vs,e,q,z,OTs.repM s os vs fs hk r⟩
 |.ins c ns os,_,_,hk,h_=>by obtain⟨a,dx,vs,fs,e,q,z,r,b⟩:=h_;rw[O.kn]at hk;rw[O.toD];exact⟨a,dx,vs,e,q,z,OTs.repM s os vs fs hk r⟩
 |.at _ o,v,f,hk,h=>by rw[O.kn]at hk;rw[O.toD];exact OT.repM s o v f hk h.2
 |.jnk _,_,_,hk,_=>by rw[O.kn]at hk;cases hk
 |.dT ks os,_,_,hk,h_=>by obtain⟨a,vs,fs,e,q,z,r,b⟩:=h_;rw[O.kn]at hk;rw[O.toD];exact⟨a,vs,e,q,z,OTs.repM s os vs fs hk r⟩
 |.any,_,_,hk,_=>by rw[O.kn]at hk;cases hk
theorem OTs.repM(s:aM Hf H):∀(os:List O) (vs:List V) (f:LAd),O.kns os=ac->OTs G Hf H os vs f->ay G H (O.toDs os) vs
 | [],_,_,_,h=>by rw[O.toDs];exact h.1
 |o::os,_,_,hk,h_=>by
  obtain⟨v,r,b,c,e,j,l,m⟩:=h_;rw[O.kns,cS]at hk;rw[O.toDs];exact⟨v,r,e,OT.repM s o v b hk.1 j,OTs.repM s os r c hk.2 l⟩
end
def OT.rep{f:LAd}(h:OT G Hf H o v f)(s:aM Hf H)(b:o.kn=ac):Rep G H o.toD v:=OT.repM s o v f b h
inductive Sl where
 |no
 |im (d:D)
 |own (xs:LD)
 |ownd (ks:List Key) (xs:LD)
 |obj (c:Str) (ns:LSt) (xs:LD)
 |pin (l:Addr) (xs:LD)
 |pind (l:Addr) (ks:List Key) (xs:LD)
 |pino (l:Addr) (c:Str) (ns:LSt) (xs:LD)
 |deep (o:O)
 |val (u:V)
nonrec abbrev LS:=List Sl
@[reducible]noncomputable def nZ{b:Type}:LS->Option (List b):=λ_=>aa []
@[reducible]noncomputable def kY:LS->Option Bool:=λ_=>aa ac
@[reducible]noncomputable def kN:LS->OD:=λ_=>aa .non
@[reducible]noncomputable def kI(i:Int):LS->OD:=λ_=>aa (.int i)
@[reducible]noncomputable def kSt(x:Str):LS->OD:=λ_=>aa (.str x)
@[reducible]noncomputable def kBl(b:Bool):LS->OD:=λ_=>aa (.bl b)
nonrec abbrev MF1:=LS->OD
nonrec abbrev MF2:=LS->OLD
nonrec abbrev MF4:=LS->Option Bool
abbrev Sl.isOwn:Sl->Bool
 |.own _=>ac
 |.ownd _ _=>ac
 |.obj _ _ _=>ac
 |.pin _ _=>ac
 |.pind _ _ _=>ac
 |.pino _ _ _ _=>ac
 | _=>ag
abbrev Sl.calm:Sl->Bool
 |.no=>ac
 |.im _=>ac
 | _=>ag
abbrev g7(G:Gc)(Hf H:Hp)(l:Addr):Sl->Prop
 |.own ds=>∃vs,H l=aa (.lst vs)/\ay G Hf ds vs
 |.ownd ks ds=>∃vs,H l=aa (.dK (ks.zip vs))/\ks.length=vs.length/\ay G Hf ds vs
 |.obj c ns ds=>∃dx vs,H l=aa (.ins (G.cl c) dx (ns.zip vs))/\ns.length=vs.length/\ay G Hf ds vs
 |.pin b ds=>l=b/\∃vs,H l=aa (.lst vs)/\ay G Hf ds vs
 |.pind b ks ds=>l=b/\∃vs,H l=aa (.dK (ks.zip vs))/\ks.length=vs.length/\ay G Hf ds vs
 |.pino b c ns ds=>l=b/\∃dx vs,H l=aa (.ins (G.cl c) dx (ns.zip vs))/\ns.length=vs.length/\ay G Hf ds vs
 | _=>False
variable{l:Addr}{s:Sl}
def g7.there2(h:g7 G Hf H l s):∃o,H l=aa o/\j5 o=ag:=by
 cases s with
 |own ds=>obtain⟨vs,h,_⟩:=h;exact⟨_,h,rfl⟩
 |ownd ks ds=>obtain⟨vs,h,_⟩:=h;exact⟨_,h,rfl⟩
 |obj c ns ds=>obtain⟨dx,vs,h,_⟩:=h;exact⟨_,h,rfl⟩
 |pin b ds=>obtain⟨_,vs,h,_⟩:=h;exact⟨_,h,rfl⟩
 |pind b ks ds=>obtain⟨_,vs,h,_⟩:=h;exact⟨_,h,rfl⟩
 |pino b c ns ds=>obtain⟨_,dx,vs,h,_⟩:=h;exact⟨_,h,rfl⟩
 | _=>exact h.elim
def g7.up(h:g7 G Hf H l s)(f:aM Hf Hf')(e:∀o,H l=aa o->H' l=aa o):g7 G Hf' H' l s:=by
 cases s with
 |own ds=>obtain⟨vs,h,r⟩:=h;exact⟨vs,e _ h,r.up f⟩
 |ownd ks ds=>obtain⟨vs,h,z,r⟩:=h;exact⟨vs,e _ h,z,r.up f⟩
 |obj c ns ds=>obtain⟨dx,vs,h,z,r⟩:=h;exact⟨dx,vs,e _ h,z,r.up f⟩
 |pin b ds=>obtain⟨q,vs,h,r⟩:=h;exact⟨q,vs,e _ h,r.up f⟩
 |pind b ks ds=>obtain⟨q,vs,h,z,r⟩:=h;exact⟨q,vs,e _ h,z,r.up f⟩
 |pino b c ns ds=>obtain⟨q,dx,vs,h,z,r⟩:=h;exact⟨q,dx,vs,e _ h,z,r.up f⟩
 | _=>exact h.elim
abbrev gI(G:Gc)(H0 Hf H:Hp)(v:Option V):Sl->Prop
 |.no=>True
 |.im d=>∃u,v=aa u/\Rep G Hf d u
 |.deep o=>∃u fp,v=aa u/\OT G Hf H o u fp/\fp.Nodup/\∀a∈fp,H0 a=ab/\Hf a=ab
 |.val u=>v=aa u
 |s=>∃l,v=aa (.ref l)/\H0 l=ab/\Hf l=ab/\g7 G Hf H l s
variable{H0:Hp}
def gI.own{v:Option V}(b:s.isOwn=ac)(h:gI G H0 Hf H v s):∃l,v=aa (.ref l)/\H0 l=ab/\Hf l=ab/\g7 G Hf H l s:=by
 cases s <;> first |exact h |cases b
def gI.ofOwn{v:Option V}(b:s.isOwn=ac)(h:∃l,v=aa (.ref l)/\H0 l=ab/\Hf l=ab/\g7 G Hf H l s):gI G H0 Hf H v s:=by
 cases s <;> first |exact h |cases b
abbrev Holds(G:Gc)(Hf H:Hp)(s:Sl)(v:V)(a:Addr):Prop:=match s with
 |.deep o=>∃fp,OT G Hf H o v fp/\a∈fp
 |s=>s.isOwn=ac/\v=.ref a
def Holds.own(b:s.isOwn=ac):Holds G Hf H s v a↔v=.ref a:=by
 cases s <;> first |exact⟨λh=>h.2,λh=>⟨rfl,h⟩⟩ |nomatch b
def Holds.calm(h:Holds G Hf H s v a)(b:s.calm=ac):False:=by
 cases s <;> first |exact pQ h.1 |nomatch b
def gI.back(q:gI G H0 Hf H (aa v) s)(k:∀o fp,s=.deep o->OT G Hf H o v fp->OT G Hf' H' o v fp)(h:Holds G Hf' H' s v a):Holds G Hf H s v a:=by
 cases s with
 |deep o=>
  obtain⟨u,fp,e,r,_⟩:=q;cases e;obtain⟨b,j,c⟩:=h;have:=OT.funM o v fp b (k o fp rfl r) j;subst this
  exact⟨fp,r,c⟩
 | _=>exact h
def gI.there(q:gI G H0 Hf H (aa v) s)(h:Holds G Hf H s v a):∃o,H a=aa o/\j5 o=ag:=by
 cases b:s.isOwn with
 |true=>
  obtain⟨l,e,_,_,j⟩:=q.own b;cases e;cases ((Holds.own b).mp h)
  exact j.there2
 |false=>
  cases s with
  |deep o=>
   obtain⟨fp,r,c⟩:=h
   exact OT.memM o v fp r a c
  | _=>first |exact pQ h.1 |nomatch b
structure aG(G:Gc)(Hf0 H0 Hf H:Hp)(σ:St)(ρ:LS):Prop where
 ext:Ext Hf0 H0 Hf H
 len:σ.length=ρ.length
 at':∀(i:Nat) (v:Option V) (s:Sl),σ[i]?=aa v->ρ[i]?=aa s->gI G H0 Hf H v s
 dj:∀(i j:Nat) (s t:Sl) (v w:V) (a:Addr),ρ[i]?=aa s->ρ[j]?=aa t->σ[i]?=aa (aa v)->σ[j]?=aa (aa w)->Holds G Hf H s v a->Holds G Hf H t w a->i=j
variable{Hf0:Hp}{ρ:LS}
def aG.sub(h:aG G Hf0 H0 Hf H σ ρ):aM Hf H:=h.ext.s
def aG.inj(h:aG G Hf0 H0 Hf H σ ρ)(i j:Nat)(s t:Sl)(l:Addr)(a:ρ[i]?=aa s)(b:ρ[j]?=aa t)(m:s.isOwn=ac)(n:t.isOwn=ac)(c:σ[i]?=aa (aa (.ref l)))(d:σ[j]?=aa (aa (.ref l))):i=j:=
 h.dj i j s t _ _ l a b c d ((Holds.own m).mpr rfl) ((Holds.own n).mpr rfl)
variable{ρ':LS}
def aG.re{m n:Hp}(h:aG G Hf0 H0 Hf H σ ρ)(x:Ext m n Hf' H')(z:ρ'.length=ρ.length)(y:∀(i:Nat) (v:Option V) (s:Sl),σ[i]?=aa v->ρ'[i]?=aa s->gI G n Hf' H' v s)
 (hd:∀(i:Nat) (s:Sl) (v:V) (a:Addr),ρ'[i]?=aa s->σ[i]?=aa (aa v)->Holds G Hf' H' s v a->∃t,ρ[i]?=aa t/\Holds G Hf H t v a):aG G m n Hf' H' σ ρ':=
 ⟨x,h.len.trans z.symm,y,λi j s t v w a b c e f p q=>by
  obtain⟨L,r,B⟩:=hd i s v a b e p;obtain⟨M,u,I⟩:=hd j t w a c f q;exact h.dj i j L M v w a r u e f B I⟩
def aG.step(h:aG G Hf0 H0 Hf H σ ρ)(e:Ext Hf H Hf' H'):aG G Hf0 H0 Hf' H' σ ρ:=by
 refine h.re (h.ext.trans e) rfl (λi v s a b=>?_) λi s v a b c d=>⟨s,b,(h.at' i _ s c b).back (λo fp _ r=>r.up e.f e.h) d⟩;have q:=h.at' i v s a b
 cases B:s.isOwn with
 |true=>
  obtain⟨l,j,M,T,L⟩:=q.own B;obtain⟨o,m,I⟩:=L.there2
  exact .ofOwn B ⟨l,j,M,by rw[e.n l o m I];exact T,L.up e.f λo m=>e.h _ _ m⟩
 |false=>
  cases s with
  |no=>trivial
  |im d=>obtain⟨u,j,r⟩:=q;exact⟨u,j,r.up e.f⟩
  |val u=>exact q
  |deep o=>
   obtain⟨u,fp,j,r,n,z⟩:=q;refine⟨u,fp,j,r.up e.f e.h,n,λa y=>⟨(z a y).1,?_⟩⟩;obtain⟨U,m,I⟩:=OT.memM o u fp r a y;rw[e.n a U m I]
   exact(z a y).2
  | _=>nomatch B
def aG.slot(h:aG G Hf0 H0 Hf H σ ρ)(e:ρ[i]?=aa s):∃v,σ[i]?=aa v/\gI G H0 Hf H v s:=by
 have hi:i<σ.length:=by rw[h.len];exact(eQ.mp e).1
 exact⟨σ[i],by simp[hi],h.at' i _ s (by simp[hi]) e⟩
def aG.imm(h:aG G Hf0 H0 Hf H σ ρ)(e:ρ[i]?=aa (.im d)):∃v,σ[i]?=aa (aa v)/\Rep G Hf d v:=by
 obtain⟨v,b,u,c,r⟩:=h.slot e;subst c;exact⟨u,b,r⟩
def aG.ownAt(j:s.isOwn=ac)(h:aG G Hf0 H0 Hf H σ ρ)(e:ρ[i]?=aa s):∃l,σ[i]?=aa (aa (.ref l))/\H0 l=ab/\Hf l=ab/\g7 G Hf H l s:=by
 obtain⟨v,b,q⟩:=h.slot e;obtain⟨l,c,m⟩:=q.own j;rw[c]at b;exact⟨l,b,m⟩
variable{j:Nat}
def dM{c:Type}{l:List c}{x y:c}(h:(l.set i x)[j]?=aa y):(j=i/\y=x/\i<l.length)\/(j≠i/\l[j]?=aa y):=by
 by_cases b:j=i
 .subst b;left;have hi:j<l.length:=by have:=(eQ.mp h).1;simpa using this
  rw[kS hi]at h;exact⟨rfl,(cj h).symm,hi⟩
 .right;rw[jt (cF b)]at h;exact⟨b,h⟩
def aG.setIm(h:aG G Hf0 H0 Hf H σ ρ)(r:Rep G Hf d v):aG G Hf0 H0 Hf H (σ.set i (aa v)) (ρ.set i (.im d)):=by
 refine⟨h.ext,by simpa using h.len,λj u s a b=>?_,λj k s t u w l a b c d' p q=>?_⟩
 .rcases dM b with⟨e,m,_⟩ |⟨e,b⟩
  .subst e m
   rcases dM a with⟨_,m,_⟩ |⟨e,_⟩
   .subst m;exact⟨v,rfl,r⟩
   .exact absurd rfl e
  .rcases dM a with⟨m,_⟩ |⟨_,a⟩
   .exact absurd m e
   .exact h.at' j u s a b
 .rcases dM a with⟨e,m,_⟩ |⟨e,a⟩
  .subst m;exact(p.calm rfl).elim
  .rcases dM b with⟨n,m,_⟩ |⟨n,b⟩
   .subst m;exact(q.calm rfl).elim
   .rcases dM c with⟨m,_⟩ |⟨_,c⟩
    .exact absurd m e
    .rcases dM d' with⟨m,_⟩ |⟨_,d'⟩
     .exact absurd m n
     .exact h.dj j k s t u w l a b c d' p q
variable{u:V}
def aG.setNew(h:aG G Hf0 H0 Hf H σ ρ)(e:Ext Hf H Hf' H')(B:gI G H0 Hf' H' (aa u) s)(L:∀a,Holds G Hf' H' s u a->H a=ab):
  aG G Hf0 H0 Hf' H' (σ.set i (aa u)) (ρ.set i s):=by
 have h':=h.step e
 have no:∀j t w a,ρ[j]?=aa t->σ[j]?=aa _->Holds G Hf' H' t w a->Holds G Hf' H' s u a->False:=λj t w a b c p q=>by
  obtain⟨o,B,_⟩:=(h.at' j _ t c b).there ((h.at' j _ t c b).back (λo fp _ r=>r.up e.f e.h) p);rw[L a q]at B;nomatch B
 refine⟨h'.ext,by simpa using h.len,λj w t a b=>?_,λj k t t' v w l a b c d' p q=>?_⟩
 .rcases dM b with⟨e,m,_⟩ |⟨e,b⟩
  .subst e m
   rcases dM a with⟨_,m,_⟩ |⟨e,_⟩
   .subst m;exact B
   .exact absurd rfl e
  .rcases dM a with⟨m,_⟩ |⟨_,a⟩
   .exact absurd m e
   .exact h'.at' j w t a b
 .rcases dM a with⟨z,I,_⟩ |⟨z,a⟩
  .rcases dM b with⟨n,y,_⟩ |⟨n,b⟩
   .rw[z,n]
   .rcases dM c with⟨_,m,_⟩ |⟨m,_⟩
    .cases m;rw[I]at p
     rcases dM d' with⟨m,_⟩ |⟨_,d'⟩
     .exact absurd m n
     .exact(no k t' w l b d' q p).elim
    .exact absurd z m
  .rcases dM c with⟨m,_⟩ |⟨_,c⟩
   .exact absurd m z
   .rcases dM b with⟨n,y,_⟩ |⟨n,b⟩
    .rcases dM d' with⟨_,m,_⟩ |⟨m,_⟩
     .cases m;rw[y]at q;exact(no j t v l a c p q).elim
     .exact absurd n m
    .rcases dM d' with⟨m,_⟩ |⟨_,d'⟩
     .exact absurd m n
     .exact h'.dj j k t t' v w l a b c d' p q
def aG.setOwn(c:s.isOwn=ac)(h:aG G Hf0 H0 Hf H σ ρ)(e:Ext Hf H Hf' H')(b:H l=ab)(m:Hf' l=ab)(n:g7 G Hf' H' l s):
  aG G Hf0 H0 Hf' H' (σ.set i (aa (.ref l))) (ρ.set i s):=
 h.setNew e (.ofOwn c ⟨l,rfl,h.ext.h.free b,m,n⟩) λa p=>by cases (Holds.own c).mp p;exact b
variable{s':Sl}
def aG.chg(h:aG G Hf0 H0 Hf H σ ρ)(e:ρ[i]?=aa s)(el:σ[i]?=aa (aa v))(k:∀b u,H b=aa u->Holds G Hf H s v b\/H' b=aa u)(ho:gI G H0 Hf H' (aa v) s')
 (hh:∀a,Holds G Hf H' s' v a->Holds G Hf H s v a\/∀(j:Nat) (t:Sl) (w:V),ρ[j]?=aa t->σ[j]?=aa (aa w)->Holds G Hf H t w a->False):aG G Hf0 H0 Hf H' σ (ρ.set i s'):=by
 have q:=h.at' i _ s el e
 have B:∀b,Holds G Hf H s v b->H0 b=ab/\Hf b=ab:=λb p=>by
  cases hs:s.isOwn with
  |true=>
   obtain⟨l,U,h0,hf,_⟩:=q.own hs;have I:=(Holds.own hs).mp p;cases U;cases I
   exact⟨h0,hf⟩
  |false=>
   cases s with
   |deep o=>
    obtain⟨u,fp,U,r,n,z⟩:=q;cases U;obtain⟨fp',r',ha⟩:=p;have:=OT.funM o v fp fp' r r';subst this
    exact z b ha
   | _=>first |exact pQ p.1 |nomatch hs
 have fr:∀j t w,j≠i->ρ[j]?=aa t->σ[j]?=aa (aa w)->∀o fp,t=.deep o->OT G Hf H o w fp->OT G Hf H' o w fp:=λj t w hj b c o fp et r=>by
  subst et;refine r.frame (aM.refl _) λx u hx hm=>?_
  rcases k x u hx with z |z
  .rcases hm with hm |hm
   .obtain⟨o',m,ht'⟩:=q.there z;rw[hx]at m;cases m;rw[hm]at ht'
    nomatch ht'
   .exact absurd (h.dj j i _ s w v x b e c el ⟨fp,r,hm⟩ z) hj
  .exact z
 refine⟨⟨h.ext.f,λb u e=>?_,λb u e=>?_,h.ext.n⟩,by simpa using h.len,λj u t a b=>?_,λj j' t t' w w' a b c b' c' p p'=>?_⟩
 .rcases k b u (h.ext.h b u e)with z |z
  .rw[(B b z).1]at e;nomatch e
  .exact z
 .rcases k b u (h.ext.s b u e)with z |z
  .rw[(B b z).2]at e;nomatch e
  .exact z
 .rcases dM b with⟨e',I,_⟩ |⟨en,b⟩
  .subst e' I;rw[el]at a;cases a;exact ho
  .have q':=h.at' j u t a b
   cases ht:t.isOwn with
   |false=>
    cases t with
    |no=>trivial
    |im d=>exact q'
    |val u=>exact q'
    |deep o=>
     obtain⟨w,fp,U,r,n,z⟩:=q';subst U
     exact⟨w,fp,rfl,fr j _ w en b a o fp rfl r,n,z⟩
    | _=>nomatch ht
   |true=>
    obtain⟨l2,I,e3,e4,q2⟩:=q'.own ht;subst I;refine .ofOwn ht ⟨l2,rfl,e3,e4,q2.up (aM.refl _) λo' m=>?_⟩
    rcases k l2 o' m with z |z
    .exact absurd (h.dj j i t s _ v l2 b e a el ((Holds.own ht).mpr rfl) z) en
    .exact z
 .have L:∀j t w,_[j]?=aa t->σ[j]?=aa (aa w)->Holds G Hf H' t w a->(j=i/\∀j t w,ρ[j]?=aa t->σ[j]?=aa (aa w)->Holds G Hf H t w a->False)\/∃t0,ρ[j]?=aa t0/\Holds G Hf H t0 w a:=λj t w b y p=>by
   rcases dM b with⟨e',I,_⟩ |⟨en,b⟩
   .rw[I]at p;rw[e',el]at y;cases y;rw[e']
    rcases hh a p with z |z
    .exact .inr ⟨s,e,z⟩
    .exact .inl ⟨rfl,z⟩
   .exact .inr ⟨t,b,(h.at' j _ t y b).back (fr j t w en b y) p⟩
  rcases L j t w b b' p with⟨z1,z2⟩ |⟨t0,z1,z2⟩
  .rcases L j' t' w' c c' p' with⟨M,T⟩ |⟨t1,M,T⟩
   .rw[z1,M]
   .exact(z2 j' t1 w' M c' T).elim
  .rcases L j' t' w' c c' p' with⟨M,T⟩ |⟨t1,M,T⟩
   .exact(T j t0 w z1 b' z2).elim
   .exact h.dj j j' t0 t1 w w' a z1 M b' c' z2 T
def aG.mutd{o:HO}(m:s.isOwn=ac)(c:s'.isOwn=ac)(h:aG G Hf0 H0 Hf H σ ρ)(e:ρ[i]?=aa s)(r:σ[i]?=aa (aa (.ref l)))(L:g7 G Hf (upd H l o) l s'):
  aG G Hf0 H0 Hf (upd H l o) σ (ρ.set i s'):=by
 obtain⟨M,n,z,I,q⟩:=h.ownAt m e;rw[r]at n;cases n;refine h.chg e r (λb u B=>?_) (.ofOwn c ⟨l,rfl,z,I,L⟩) λa p=>.inl ((Holds.own m).mpr ((Holds.own c).mp p))
 by_cases y:b=l
 .subst y;exact .inl ((Holds.own m).mpr rfl)
 .exact .inr (by rw[bF y];exact B)
def aG.fixd{o:HO}(U:s.isOwn=ac)(h:aG G Hf0 H0 Hf H σ ρ)(e:ρ[i]?=aa s)(I:σ[i]?=aa (aa (.ref l)))(ho:H l=aa o)(hr:Rep G (upd Hf l o) d (.ref l)):
  aG G Hf0 H0 (upd Hf l o) H σ (ρ.set i (.im d)):=by
 obtain⟨l',m,h0,B,q⟩:=h.ownAt U e;rw[I]at m;cases m;refine h.re (h.ext.fix h0 B ho) (by simp) (λj u t a b=>?_) λj t v a b c p=>?_
 .rcases dM b with⟨e,M,_⟩ |⟨en,b⟩
  .subst e M;rw[I]at a;cases a;exact⟨_,rfl,hr⟩
  .have q:=h.at' j u t a b
   cases L:t.isOwn with
   |false=>
    cases t with
    |no=>trivial
    |im d=>obtain⟨u',m,r⟩:=q;exact⟨u',m,r.up (cB B)⟩
    |val u'=>exact q
    |deep o=>
     obtain⟨w,fp,m,r,n,z⟩:=q;subst m;refine⟨w,fp,rfl,r.up (cB B) (aM.refl _),n,λx hx=>⟨(z x hx).1,?_⟩⟩;rw[bF (λy=>?_)]
     .exact(z x hx).2
     .subst y
      exact en (h.dj j i _ s w _ x b e a I ⟨fp,r,hx⟩ ((Holds.own U).mpr rfl))
    | _=>nomatch L
   |true=>
    obtain⟨l2,e2,e3,e4,q2⟩:=q.own L;subst e2;refine .ofOwn L ⟨l2,rfl,e3,?_,q2.up (cB B) λo' T=>T⟩;rw[bF (λz=>?_)]
    .exact e4
    .subst z;exact en (h.inj j i t s l2 b e L U a I)
 .rcases dM b with⟨_,M,_⟩ |⟨_,b⟩
  .subst M;exact(p.calm rfl).elim
  .exact⟨t,b,(h.at' j _ t c b).back (λo fp _ r=>r.up (cB B) (aM.refl _)) p⟩
def PE.imp{t':TE}(h:PE X e t)(i:∀σ H Q,t' σ H Q->t σ H Q):PE X e t':=λpins s σ H Q I q=>h pins s σ H Q I (i σ H Q q)
variable{t':TT}
def PT.imp{t:TT}(h:PT X e t)(i:∀σ H Q,t' σ H Q->t σ H Q):PT X e t':=λpins s σ H Q I q=>h pins s σ H Q I (i σ H Q q)
def PW.imp{t:TT}(h:PW X e t)(i:∀σ H Q,t' σ H Q->t σ H Q):PW X e t':=λb pins s σ H Q I q=>h b pins s σ H Q I (i σ H Q q)
variable{es:LEx}
def PA.imp{t t':TA}(h:PA X es t)(i:∀σ H Q,t' σ H Q->t σ H Q):PA X es t':=λpos pins s σ H Q I q=>h pos pins s σ H Q I (i σ H Q q)
def PS.imp{st:Stmt}{t t':TS}(h:PS X st t)(i:∀E σ H,t' E σ H->t E σ H):PS X st t':=λpins s σ H E I q=>h pins s σ H E I (i E σ H q)
def PSs.imp{st:List Stmt}{t t':TS}(h:PSs X st t)(i:∀E σ H,t' E σ H->t E σ H):PSs X st t':=λpins s σ H E I q=>h pins s σ H E I (i E σ H q)
def PG.imp{t t':TG}(h:PG X e t)(i:∀v σ H Q,t' v σ H Q->t v σ H Q):PG X e t':=λpins s σ H v u Q I r q=>h pins s σ H v u Q I r (i v σ H Q q)
def PGs.imp{t t':TGs}(h:PGs X es t)(i:∀v σ H Q,t' v σ H Q->t v σ H Q):PGs X es t':=λpins s σ H v u Q I r q=>h pins s σ H v u Q I r (i v σ H Q q)
def PI.imp{t t':TI}(h:PI X tg e t)(i:∀σ H R,t' σ H R->t σ H R):PI X tg e t':=λpins s σ H R I q=>h pins s σ H R I (i σ H R q)
def PTs.imp{t:TT}(h:PTs X dd t)(i:∀σ H Q,t' σ H Q->t σ H Q):PTs X dd t':=λpins s σ H Q I q=>h pins s σ H Q I (i σ H Q q)
def OpR.imp{f:Value->Value->Sem Value}{r b:R2}(h:OpR X f r)(i:∀x y H Q,b x y H Q->r x y H Q):OpR X f b:=λpins s σ H x y v u Q I c m q=>h pins s σ H x y v u Q I c m (i x y H Q q)
def fH.imp{f:Value}{r b:List V->Hp->VK->Prop}(h:fH X f r)(i:∀xs H Q,b xs H Q->r xs H Q):fH X f b:=λpins s σ H xs us Q I c q=>h pins s σ H xs us Q I c (i xs H Q q)
@[reducible]noncomputable def Gx(c:Str->Addr)(X:Cx):Gc:=⟨X.K,c⟩
inductive tD(G:Gc)(f:MF1)(σ:St)(H:Hp)(Q:VK):Prop
 |mk:∀Hf0 H0 Hf ρ d,aG G Hf0 H0 Hf H σ ρ->f ρ=aa d->(∀v Hf' H',Ext Hf H Hf' H'->Rep G Hf' d v->Q v H')->tD G f σ H Q
inductive tDB(G:Gc)(f:MF1)(σ:St)(H:Hp)(Q:VK):Prop
 |mk:∀Hf0 H0 Hf ρ d,aG G Hf0 H0 Hf H σ ρ->f ρ=aa d->(∀v Hf' H',Ext Hf H Hf' H'->Rep G H' d v->Q v H')->tDB G f σ H Q
inductive tDC(G:Gc)(f:MF2)(σ:St)(H:Hp)(Q:VK):Prop
 |mk:∀Hf0 H0 Hf ρ ds,aG G Hf0 H0 Hf H σ ρ->f ρ=aa ds->(∀a vs Hf' H',Ext Hf H Hf' H'->(SqL G.K H' a vs\/SqT G.K H' a vs)->ay G Hf' ds vs->Q (.ref a) H')->tDC G f σ H Q
inductive tDO(G:Gc)(f:MF2)(σ:St)(H:Hp)(Q:VK):Prop
 |mk:∀Hf0 H0 Hf ρ ds,aG G Hf0 H0 Hf H σ ρ->f ρ=aa ds->(∀l vs Hf' H',Ext Hf H Hf' H'->H l=ab->Hf' l=ab->H' l=aa (.lst vs)->ay G Hf' ds vs->Q (.ref l) H')->tDO G f σ H Q
inductive tDA(G:Gc)(f:MF2)(σ:St)(H:Hp)(Q:List V->Hp->Prop):Prop
 |mk:∀Hf0 H0 Hf ρ ds,aG G Hf0 H0 Hf H σ ρ->f ρ=aa ds->(∀vs Hf' H',Ext Hf H Hf' H'->ay G Hf' ds vs->Q vs H')->tDA G f σ H Q
inductive Az(G:Gc)(f:MF2)(σ:St)(H:Hp)(Q:List V->Hp->Prop):Prop
 |mk:∀Hf0 H0 Hf ρ ds,aG G Hf0 H0 Hf H σ ρ->f ρ=aa ds->(∀vs Hf' H',Ext Hf H Hf' H'->ay G H' ds vs->Q vs H')->Az G f σ H Q
inductive tDT(G:Gc)(f:MF4)(σ:St)(H:Hp)(Q:Bool->Hp->Prop):Prop
 |mk:∀Hf0 H0 Hf ρ b,aG G Hf0 H0 Hf H σ ρ->f ρ=aa b->(∀Hf' H',Ext Hf H Hf' H'->Q b H')->tDT G f σ H Q
abbrev DE(c:Str->Addr)(X:Cx)(e:Expr)(f:MF1):Prop:=PE X e (tD (Gx c X) f)
abbrev DB(c:Str->Addr)(X:Cx)(e:Expr)(f:MF1):Prop:=PE X e (tDB (Gx c X) f)
abbrev DC(c:Str->Addr)(X:Cx)(e:Expr)(f:MF2):Prop:=PE X e (tDC (Gx c X) f)
abbrev DO(c:Str->Addr)(X:Cx)(e:Expr)(f:MF2):Prop:=PE X e (tDO (Gx c X) f)
structure DA(c:Str->Addr)(X:Cx)(es:LEx)(f:MF2):Prop where
 pa:PA X es (tDA (Gx c X) f)
 len:∀ρ ds,f ρ=aa ds->ds.length=es.length
structure DAB(c:Str->Addr)(X:Cx)(es:LEx)(f:MF2):Prop where
 pa:PA X es (Az (Gx c X) f)
 len:∀ρ ds,f ρ=aa ds->ds.length=es.length
abbrev DT(c:Str->Addr)(X:Cx)(e:Expr)(f:MF4):Prop:=PT X e (tDT (Gx c X) f)
abbrev DW(c:Str->Addr)(X:Cx)(e:Expr)(f:MF4):Prop:=PW X e (tDT (Gx c X) f)
abbrev D.scalar:D->Bool
 |.non=>ac
 |.bl _=>ac
 |.int _=>ac
 |.str _=>ac
 | _=>ag
def Rep.sc(b:d.scalar=ac)(r:Rep G H d v):Rep G H' d v:=by
 cases d <;> first |exact r |cases b
abbrev g8:D->OLD
 |.lst xs=>aa xs
 |.tup xs=>aa xs
 |.kl xs=>aa xs
 |.kt xs=>aa xs
 | _=>ab
def qU(e:g8 d=aa ds)(r:Rep G H d v):∃a vs,v=.ref a/\(SqL G.K H a vs\/SqT G.K H a vs)/\ay G H ds vs:=by
 cases d with
 |lst xs=>cases e;obtain⟨a,vs,b,q,r⟩:=r;exact⟨a,vs,b,.inl (SqL.of q),r⟩
 |tup xs=>cases e;obtain⟨a,vs,b,q,r⟩:=r;exact⟨a,vs,b,.inr (SqT.of q),r⟩
 |kl xs=>cases e;obtain⟨a,vs,b,q,r⟩:=r;exact⟨a,vs,b,.inl q,r⟩
 |kt xs=>cases e;obtain⟨a,vs,b,q,r⟩:=r;exact⟨a,vs,b,.inr q,r⟩
 | _=>nomatch e
def vv(s:aM H H')(h:SqL K H a vs\/SqT K H a vs):SqL K H' a vs\/SqT K H' a vs:=h.imp s.seq s.tup
abbrev aT(f:MF2)(ρ:LS):OD:=(f ρ).map .lst
abbrev bG(f:MF2)(ρ:LS):OD:=(f ρ).map .tup
abbrev be(f:MF1)(ρ:LS):OLD:=(f ρ).bind g8
abbrev mK(f g:MF1)(ρ:LS):OD:=(f ρ).or (g ρ)
variable{c:Str->Addr}
def DE.db{f:MF1}(h:DE c X e f):DB c X e f:=PE.imp h λσ H Q m=>by
 obtain⟨Hf0,H0,Hf,ρ,d,st,b,k⟩:=m;exact(⟨Hf0,H0,Hf,ρ,d,st,b,λv Hf' H' x r=>k v Hf' H' x (r.up x.s)⟩)
def DE.dc{f:MF1}(h:DE c X e f):DC c X e (be f):=PE.imp h λσ H Q y=>by
 obtain⟨Hf0,H0,Hf,ρ,ds,st,b,k⟩:=y;unfold be at b
 cases m:f ρ with
 |none=>rw[m]at b;nomatch b
 |some d=>
  rw[m]at b;refine⟨Hf0,H0,Hf,ρ,d,st,m,λv Hf' H' x r=>?_⟩;obtain⟨a,vs,n,q,rs⟩:=qU b r;subst n;exact k a vs Hf' H' x (vv x.s q) rs
def DO.de{f:MF2}(h:DO c X e f):DE c X e (aT f):=PE.imp h λσ H Q z=>by
 obtain⟨Hf0,H0,Hf,ρ,d,st,b,k⟩:=z;unfold aT at b
 cases m:f ρ with
 |none=>rw[m]at b;nomatch b
 |some ds=>
  rw[m]at b;have b:=cj b;subst b;exact⟨Hf0,H0,Hf,ρ,ds,st,m,λl vs Hf' H' x y n q r=>k _ _ H' (x.fix y n q) ⟨l,vs,rfl,bI,r.up (cB n)⟩⟩
def DO.dc{f:MF2}(h:DO c X e f):DC c X e f:=PE.imp h λσ H Q n=>by
 obtain ⟨Hf0,H0,Hf,ρ,ds,st,b,k⟩:=n;exact (
 ⟨Hf0,H0,Hf,ρ,ds,st,b,λl vs Hf' H' x y q m r=>k l vs Hf' H' x (.inl (SqL.of m)) r⟩)
def DE.orE{f g:MF1}(h:DE c X e f)(h':DE c X e g):DE c X e (mK f g):=λpins s σ H Q I n=>by
 obtain⟨Hf0,H0,Hf,ρ,d,st,b,k⟩:=n;unfold mK at b
 cases m:f ρ with
 |some d'=>
  rw[m]at b;cases b
  exact h pins s σ H Q I ⟨Hf0,H0,Hf,ρ,_,st,m,k⟩
 |none=>
  rw[m]at b;exact h' pins s σ H Q I ⟨Hf0,H0,Hf,ρ,d,st,b,k⟩
abbrev ae(i:Nat)(ρ:LS):OD:=match ρ[i]? with
 |some (.im d)=>aa d
 | _=>ab
abbrev g9(i:Nat)(ρ:LS):OD:=match ρ[i]? with
 |some (.im d)=>aa d
 |some (.own xs)=>aa (.lst xs)
 |some (.ownd ks xs)=>aa (.dic ks xs)
 |some (.deep o)=>if o.kn then aa o.toD else ab
 | _=>ab
abbrev am(i:Nat)(ρ:LS):OLD:=match ρ[i]? with
 |some (.im d)=>g8 d
 |some (.own xs)=>aa xs
 | _=>ab
def GE(h:ae i ρ=aa d):ρ[i]?=aa (.im d):=by
 unfold ae at h
 cases e:ρ[i]? with
 |none=>rw[e]at h;nomatch h
 |some s=>rw[e]at h;cases s <;> cases h;rfl
def vw(h:PE X e (eG i)):DE c X e (ae i):=PE.imp h λσ H Q n=>by
 obtain⟨Hf0,H0,Hf,ρ,d,st,m,k⟩:=n;obtain⟨v,b,r⟩:=st.imm (GE m);exact⟨v,b,k v Hf H (Ext.refl st.sub) r⟩
def AA(h:PE X e (eG i)):DC c X e (am i):=PE.imp h λσ H Q y=>by
 obtain⟨Hf0,H0,Hf,ρ,ds,st,b,k⟩:=y;unfold am at b
 cases es:ρ[i]? with
 |none=>rw[es]at b;nomatch b
 |some s=>
  rw[es]at b
  cases s with
  |im d=>
   obtain⟨v,m,r⟩:=st.imm es;obtain⟨a,vs,n,q,rs⟩:=qU b r;subst n
   exact⟨_,m,k a vs Hf H (Ext.refl st.sub) (vv st.sub q) rs⟩
  |own xs=>
   cases b;obtain⟨l,m,_,_,vs,q,r⟩:=st.ownAt rfl es
   exact⟨_,m,k l vs Hf H (Ext.refl st.sub) (.inl (SqL.of q)) r⟩
  | _=>nomatch b
def GF(h:PE X e (eG i)):DB c X e (g9 i):=PE.imp h λσ H Q B=>by
 obtain⟨Hf0,H0,Hf,ρ,d,st,b,k⟩:=B;unfold g9 at b
 cases es:ρ[i]? with
 |none=>rw[es]at b;nomatch b
 |some s=>
  rw[es]at b
  cases s with
  |im d=>
   cases b;obtain⟨v,m,r⟩:=st.imm es
   exact⟨_,m,k v Hf H (Ext.refl st.sub) (r.up st.sub)⟩
  |own xs=>
   cases b;obtain⟨l,m,_,_,vs,q,r⟩:=st.ownAt rfl es
   exact⟨_,m,k _ Hf H (Ext.refl st.sub) ⟨l,vs,rfl,q,r.up st.sub⟩⟩
  |ownd ks xs=>
   cases b;obtain⟨l,m,_,_,vs,q,z,r⟩:=st.ownAt rfl es
   exact⟨_,m,k _ Hf H (Ext.refl st.sub) ⟨l,vs,rfl,q,z,r.up st.sub⟩⟩
  |deep o=>
   replace b:(if o.kn=ac then aa o.toD else ab)=aa d:=b;split at b
   .rename_i y;cases b;obtain⟨v,m,u,fp,n,r,_⟩:=st.slot es;subst n;exact⟨_,m,k _ Hf H (Ext.refl st.sub) (r.rep st.sub y)⟩
   .nomatch b
  | _=>nomatch b
def qV(h:PE X e (tC v))(r:∀G H,Rep G H d v):DE c X e (λ_=>aa d):=PE.imp h λσ H Q m=>by
 obtain⟨Hf0,H0,Hf,ρ,d',st,b,k⟩:=m;cases b;exact k v Hf H (Ext.refl st.sub) (r _ _)
def aj{pos:Pos}{i:Int}{j}:DE c X (.Constant (.int i) j pos) (λ_=>aa (.int i)):=qV Ez λ_ _=>rfl
def gs{pos:Pos}{i:Bool}{j}:DE c X (.Constant (.bool i) j pos) (λ_=>aa (.bl i)):=qV EA λ_ _=>rfl
def j6{pos:Pos}{j}:DE c X (.Constant .none j pos) kN:=qV EB λ_ _=>rfl
def aQ{pos:Pos}{i:Str}{j}:DE c X (.Constant (.str i) j pos) (λ_=>aa (.str i)):=qV EC λ_ _=>rfl
def dv{pos:Pos}(i:Nat)(h:X.N[i]?=aa x:=by rfl)(m:Vis X.env.scope x:=by first |exact cf rfl |exact bw (cf rfl) |exact bw (bw rfl))(hd:NDb x:=by decide)
 (b:NCd x:=by decide):DE c X (.Name x pos) (ae i):=vw (jz h m hd b)
def dvC{pos:Pos}(i:Nat)(h:X.N[i]?=aa x:=by rfl)(m:Vis X.env.scope x:=by first |exact cf rfl |exact bw (cf rfl) |exact bw (bw rfl))(hd:NDb x:=by decide)
 (b:NCd x:=by decide):DC c X (.Name x pos) (am i):=AA (jz h m hd b)
def dvB{pos:Pos}(i:Nat)(h:X.N[i]?=aa x:=by rfl)(m:Vis X.env.scope x:=by first |exact cf rfl |exact bw (cf rfl) |exact bw (bw rfl))(hd:NDb x:=by decide)
 (b:NCd x:=by decide):DB c X (.Name x pos) (g9 i):=GF (jz h m hd b)
abbrev af(f:MF1)(g:MF2)(ρ:LS):OLD:=(f ρ).bind λd=>(g ρ).map λds=>d::ds
variable{g:MF2}
def qW{f:MF1}(h:af f g ρ=aa ds):∃d r,f ρ=aa d/\g ρ=aa r/\ds=d::r:=by
 unfold af at h
 cases b:f ρ with
 |none=>rw[b]at h;nomatch h
 |some d=>
  cases m:g ρ with
  |none=>rw[b,m]at h;nomatch h
  |some r=>rw[b,m]at h;cases h;exact⟨d,r,rfl,rfl,rfl⟩
def aw:DA c X [] nZ:=⟨PA.imp cJ λσ H Q m=>by obtain⟨Hf0,H0,Hf,ρ,ds,st,b,k⟩:=m;cases b;exact k [] Hf H (Ext.refl st.sub) rfl,λρ ds h=>by cases h;rfl⟩
def ah{f:MF1}(B:DE c X e f)(n:DA c X es g)(I:StE X e es:=by rfl):DA c X (e::es) (af f g):=by
 refine⟨PA.imp (cs B n.pa I) λσ H Q L=>?_,λρ ds h=>?_⟩
 .obtain⟨Hf0,H0,Hf,ρ,ds,st,z,k⟩:=L;obtain⟨d,r,m,b,rfl⟩:=qW z;exact⟨Hf0,H0,Hf,ρ,d,st,m,λv al H1 q M=>⟨Hf0,H0,al,ρ,r,st.step q,b,λvs a9 H2 y T=>k _ a9 H2 (q.trans y) (.cons (M.up y.f) T)⟩⟩
 .obtain⟨d,r,m,b,rfl⟩:=qW h;simp[n.len ρ r b]
def cM:DAB c X [] nZ:=⟨PA.imp cJ λσ H Q m=>by obtain⟨Hf0,H0,Hf,ρ,ds,st,b,k⟩:=m;cases b;exact k [] Hf H (Ext.refl st.sub) rfl,λρ ds h=>by cases h;rfl⟩
def cq{f:MF1}(B:DB c X e f)(n:DAB c X es g)(I:StE X e es:=by rfl):DAB c X (e::es) (af f g):=by
 refine⟨PA.imp (cs B n.pa I) λσ H Q L=>?_,λρ ds h=>?_⟩
 .obtain⟨Hf0,H0,Hf,ρ,ds,st,z,k⟩:=L;obtain⟨d,r,m,b,rfl⟩:=qW z;exact⟨Hf0,H0,Hf,ρ,d,st,m,λv al H1 q M=>⟨Hf0,H0,al,ρ,r,st.step q,b,λvs a9 H2 y T=>k _ a9 H2 (q.trans y) (.cons (M.up y.h) T)⟩⟩
 .obtain⟨d,r,m,b,rfl⟩:=qW h;simp[n.len ρ r b]
def cg{pos:Pos}{f:MF2}(h:DA c X es f)(hz:es.length<=1000:=by exact p6 rfl):DO c X (.List es pos) f:=PE.imp (zR h.pa) λσ H Q m=>by
 obtain ⟨Hf0,H0,Hf,ρ,ds,st,b,k⟩:=m;exact (
 ⟨Hf0,H0,Hf,ρ,ds,st,b,λvs Hf' H' x r=>⟨by
  rw[<- r.length,h.len ρ ds b];exact la (qI hz),λp hp=>k p vs Hf' _ (x.trans (Ext.tmp x.s hp)) (x.h.free hp) (x.s.free hp) bI r⟩⟩)
variable{k':Nat}
def bY{pos:Pos}{f:MF2}(h:DA c X es f)(hz:es.length<=1000:=by exact p6 rfl):DE c X (.Tuple es k' pos) (bG f):=PE.imp (zQ h.pa) λσ H Q n=>by
 obtain⟨Hf0,H0,Hf,ρ,d,st,b,k⟩:=n;unfold bG at b
 cases m:f ρ with
 |none=>rw[m]at b;nomatch b
 |some ds=>
  rw[m]at b;have b:=cj b;subst b
  exact⟨Hf0,H0,Hf,ρ,ds,st,m,λvs Hf' H' x r=>⟨by
   rw[<- r.length,h.len ρ ds m];exact la (qI hz),λp hp=>k _ _ _ (x.trans (Ext.new x.s hp)) ⟨p,vs,rfl,bI,r.up (cB (x.s.free hp))⟩⟩⟩
abbrev rD(G:Gc)(m:D->D->OD):R2:=λb h H Q=>∃Hf x y d,aM Hf H/\Rep G Hf x b/\Rep G Hf y h/\m x y=aa d/\∀v Hf' H',Ext Hf H Hf' H'->Rep G Hf' d v->Q v H'
nonrec abbrev OpD(c:Str->Addr)(X:Cx)(f:Value->Value->Sem Value)(m:D->D->OD):Prop:=OpR X f (rD (Gx c X) m)
abbrev m2(m:D->D->OD)(f g:MF1)(ρ:LS):OD:=(f ρ).bind λx=>(g ρ).bind λy=>m x y
variable{m:D->D->OD}
def oi{f g:MF1}(h:m2 m f g ρ=aa d):∃x y,f ρ=aa x/\g ρ=aa y/\m x y=aa d:=by
 unfold m2 at h
 cases b:f ρ with
 |none=>rw[b]at h;nomatch h
 |some x=>
  cases n:g ρ with
  |none=>rw[b,n]at h;nomatch h
  |some y=>rw[b,n]at h;exact⟨x,y,rfl,rfl,h⟩
variable{r:R2}
def two{f g:MF1}(T:∀x y H Q,rD (Gx c X) m x y H Q->r x y H Q)(h:tD (Gx c X) (m2 m f g) σ H Q):tOp r (tD (Gx c X) f) (tD (Gx c X) g) σ H Q:=by
 obtain⟨Hf0,H0,Hf,ρ,d,st,M,k⟩:=h;obtain⟨x,y,B,I,L⟩:=oi M;exact⟨Hf0,H0,Hf,ρ,x,st,B,λv al H1 q U=>⟨Hf0,H0,al,ρ,y,st.step q,I,λu a9 H2 n r2=>T _ _ _ _ ⟨a9,x,y,d,n.s,U.up n.f,r2,L,λw b z x3 r3=>k w b z ((q.trans n).trans x3) r3⟩⟩⟩
def AB{f g:MF1}(T:∀x y H Q,rD (Gx c X) m x y H Q->r x y H Q)(U:∀x y d,m x y=aa d->d.scalar=ac)(h:tD (Gx c X) (m2 m f g) σ H Q):tOp r (tDB (Gx c X) f) (tDB (Gx c X) g) σ H Q:=by
 obtain⟨Hf0,H0,Hf,ρ,d,st,M,k⟩:=h;obtain⟨x,y,I,L,n⟩:=oi M
 exact⟨Hf0,H0,Hf,ρ,x,st,I,λv al H1 q r1=>⟨Hf0,H0,al,ρ,y,st.step q,L,λu a9 H2 b r2=>T _ _ _ _ ⟨H2,x,y,d,aM.refl _,r1.up b.h,r2,n,λw B z x3 r3=>
  k w a9 z ((q.trans b).trans (Ext.grow b.s x3.h)) (r3.sc (U _ _ _ n))⟩⟩⟩
variable{a b:Expr}
def ca{pos:Pos}{n:Operator}{f g:MF1}(z:OpD c X (fo n) m)(q:DE c X a f)(y:DE c X b g):DE c X (.BinOp a n b pos) (m2 m f g):=
 PE.imp (u7 z q y) λ_ _ _ h=>two (λ_ _ _ _ h=>h) h
variable{op:CmpOp}
def gb{pos:Pos}{f g:MF1}(B:OpD c X (cU op) m)(I:∀x y d,m x y=aa d->d.scalar=ac)(n:DB c X a f)(q:DB c X b g)(z:jV op b=ag:=by first |exact qA _ |rfl):
  DE c X (.Compare a [op] [b] pos) (m2 m f g):=PE.imp (zM B n q z) λ_ _ _ h=>AB (λ_ _ _ _ h=>h) I h
abbrev mB(f:MF1)(ρ:LS):Option Bool:=(f ρ).bind λd=>match d with
 |.bl b=>aa b
 | _=>ab
def qX{f:MF1}{b:Bool}(h:mB f ρ=aa b):f ρ=aa (.bl b):=by
 unfold mB at h
 cases e:f ρ with
 |none=>rw[e]at h;nomatch h
 |some d=>rw[e]at h;cases d <;> cases h;rfl
def bu{pos:Pos}{f g:MF1}(I:OpD c X (cU op) m)(L:∀x y d,m x y=aa d->d.scalar=ac)(q:DB c X a f)(z:DB c X b g)(B:jV op b=ag:=by first |exact qA _ |rfl):
  DT c X (.Compare a [op] [b] pos) (mB (m2 m f g)):=PT.imp (zN I q z B) λσ H Q M=>by
 obtain ⟨Hf0,H0,Hf,ρ,b,st,n,k⟩:=M;exact (
 AB (λ_ _ _ _ h=>h) L ⟨Hf0,H0,Hf,ρ,.bl b,st,qX n,λv Hf' H' x r=>⟨b,r,k Hf' H' x⟩⟩)
abbrev qY:D->Option Bool
 |.non=>aa ag
 |.bl b=>aa b
 |.int i=>aa (i != 0)
 |.str x=>if x.length<=16777216 then aa ((x.length:Int) != 0) else ab
 |.lst xs=>aa (!xs.isEmpty)
 |.tup xs=>aa (!xs.isEmpty)
 |.kl xs=>aa (!xs.isEmpty)
 |.kt xs=>aa (!xs.isEmpty)
 |.dic ks _=>aa (!ks.isEmpty)
 | _=>ab
def ay.empty(r:ay G H ds vs):ds.isEmpty=vs.isEmpty:=by
 cases ds with
 |nil=>cases (r);rfl
 |cons d ds=>obtain⟨v,h,e,_⟩:=r;subst e;rfl
def GG{n q:Type}{ks:List n}{vs:List q}(h:ks.length=vs.length):(ks.zip vs).isEmpty=ks.isEmpty:=by
 cases ks <;> cases vs <;> first |rfl |cases h
def GH{b:Bool}(e:qY d=aa b)(r:Rep G H d v):vb G.K v H b:=by
 cases d with
 |non=>cases e;subst r;rfl
 |bl x=>cases e;subst r;rfl
 |int i=>cases e;subst r;rfl
 |str x=>
  subst r;replace e:(if x.length<=16777216 then aa _ else ab)=aa b:=e;split at e
  .rename_i n;cases e;exact⟨by rw[cG];exact n,rfl⟩
  .nomatch e
 |lst xs=>cases e;obtain⟨a,vs,h,q,r⟩:=r;subst h;exact .inl ⟨vs,SqL.of q,by rw[r.empty]⟩
 |tup xs=>cases e;obtain⟨a,vs,h,q,r⟩:=r;subst h;exact .inr (.inl ⟨vs,SqT.of q,by rw[r.empty]⟩)
 |kl xs=>cases e;obtain⟨a,vs,h,q,r⟩:=r;subst h;exact .inl ⟨vs,q,by rw[r.empty]⟩
 |kt xs=>cases e;obtain⟨a,vs,h,q,r⟩:=r;subst h;exact .inr (.inl ⟨vs,q,by rw[r.empty]⟩)
 |dic ks xs=>cases e;obtain⟨a,vs,h,q,l,r⟩:=r;subst h;exact .inr (.inr ⟨_,q,by rw[GG l]⟩)
 |ins _ _ _=>nomatch e
 |kd _ _=>nomatch e
 |dT _ _=>nomatch e
abbrev gt(f:MF1)(ρ:LS):Option Bool:=(f ρ).bind qY
def j7{f:MF1}(y:DB c X a f)(z:∀h,isTrue a X.env h=(do let v <- h;standAt a.pos;gD [v] (truthy v)):=by intro _;rfl):DT c X a (gt f):=
 PT.imp (FE y z) λσ H Q B=>by
  obtain⟨Hf0,H0,Hf,ρ,b,st,n,k⟩:=B;unfold gt at n
  cases q:f ρ with
  |none=>rw[q]at n;nomatch n
  |some d=>
   rw[q]at n;exact⟨Hf0,H0,Hf,ρ,d,st,q,λv Hf' H' x r=>⟨b,GH n r,k Hf' H' x⟩⟩
abbrev hE(f g:MF4)(ρ:LS):Option Bool:=(f ρ).bind λb=>if b then g ρ else aa ag
abbrev mOr(f g:MF4)(ρ:LS):Option Bool:=(f ρ).bind λb=>if b then aa ac else g ρ
abbrev lw(f:MF4)(ρ:LS):Option Bool:=(f ρ).map not
def DW.dt{f:MF4}(h:DW c X e f):DT c X e f:=PW.pt h
def oj{pos:Pos}{f:MF4}(h:DT c X a f):DW c X (.BoolOp .And [a] pos) f:=zA h
def qZ{pos:Pos}{f:MF4}(h:DT c X a f):DW c X (.BoolOp .Or [a] pos) f:=EF h
def om{pos:Pos}{f g:MF4}{bE:LEx}(h:DT c X a f)(h':DW c X (.BoolOp .And (b::bE) pos) g):DW c X (.BoolOp .And (a::b::bE) pos) (hE f g):=PW.imp (zB h h') λσ H Q z=>by
 obtain⟨Hf0,H0,Hf,ρ,b,st,n,k⟩:=z;unfold hE at n
 cases q:f ρ with
 |none=>rw[q]at n;nomatch n
 |some x=>
  rw[q]at n;refine⟨Hf0,H0,Hf,ρ,x,st,q,λal H1 y=>?_⟩
  cases x with
  |true=>rw[if_pos rfl];exact⟨Hf0,H0,al,ρ,b,st.step y,n,λa9 H2 B=>k a9 H2 (y.trans B)⟩
  |false=>cases n;rw[if_neg bS];exact k al H1 y
def on{pos:Pos}{f g:MF4}{bE:LEx}(h:DT c X a f)(h':DW c X (.BoolOp .Or (b::bE) pos) g):DW c X (.BoolOp .Or (a::b::bE) pos) (mOr f g):=PW.imp (EG h h') λσ H Q z=>by
 obtain⟨Hf0,H0,Hf,ρ,b,st,n,k⟩:=z;unfold mOr at n
 cases q:f ρ with
 |none=>rw[q]at n;nomatch n
 |some x=>
  rw[q]at n;refine⟨Hf0,H0,Hf,ρ,x,st,q,λal H1 y=>?_⟩
  cases x with
  |false=>rw[if_neg bS];exact⟨Hf0,H0,al,ρ,b,st.step y,n,λa9 H2 B=>k a9 H2 (y.trans B)⟩
  |true=>cases n;rw[if_pos rfl];exact k al H1 y
def vz{pos:Pos}{f:MF4}(h:DT c X a f):DT c X (.UnaryOp .Not a pos) (lw f):=PT.imp (EH h) λσ H Q y=>by
 obtain⟨Hf0,H0,Hf,ρ,b,st,n,k⟩:=y;unfold lw at n
 cases q:f ρ with
 |none=>rw[q]at n;nomatch n
 |some x=>
  rw[q]at n;cases n;exact⟨Hf0,H0,Hf,ρ,x,st,q,λal H1 z=>k al H1 z⟩
abbrev j8(f g:MF1)(ρ:LS):OD:=(mB f ρ).bind λb=>if b then g ρ else aa (.bl ag)
abbrev vOr(f g:MF1)(ρ:LS):OD:=(mB f ρ).bind λb=>if b then aa (.bl ac) else g ρ
abbrev ow(f:MF1)(ρ:LS):OD:=(mB f ρ).map λb=>.bl (!b)
def ox{pos:Pos}{f:MF1}{op}(h:DE c X a f):DE c X (.BoolOp op [a] pos) f:=EL h
def q9{pos:Pos}{f g:MF1}{bE:LEx}(h:DE c X a f)(h':DE c X (.BoolOp .And (b::bE) pos) g):DE c X (.BoolOp .And (a::b::bE) pos) (j8 f g):=PE.imp (EM h h') λσ H Q z=>by
 obtain⟨Hf0,H0,Hf,ρ,d,st,n,k⟩:=z;unfold j8 at n
 cases q:mB f ρ with
 |none=>rw[q]at n;nomatch n
 |some x=>
  rw[q]at n;refine⟨Hf0,H0,Hf,ρ,.bl x,st,qX q,λv al H1 y B=>⟨x,B,?_⟩⟩
  cases x with
  |true=>rw[if_pos rfl];exact⟨Hf0,H0,al,ρ,d,st.step y,n,λv a9 H2 L I=>k v a9 H2 (y.trans L) I⟩
  |false=>cases n;rw[if_neg bS];exact k _ al H1 y rfl
def GI{pos:Pos}{f g:MF1}{bE:LEx}(h:DE c X a f)(h':DE c X (.BoolOp .Or (b::bE) pos) g):DE c X (.BoolOp .Or (a::b::bE) pos) (vOr f g):=PE.imp (EN h h') λσ H Q z=>by
 obtain⟨Hf0,H0,Hf,ρ,d,st,n,k⟩:=z;unfold vOr at n
 cases q:mB f ρ with
 |none=>rw[q]at n;nomatch n
 |some x=>
  rw[q]at n;refine⟨Hf0,H0,Hf,ρ,.bl x,st,qX q,λv al H1 y B=>⟨x,B,?_⟩⟩
  cases x with
  |false=>rw[if_neg bS];exact⟨Hf0,H0,al,ρ,d,st.step y,n,λv a9 H2 L I=>k v a9 H2 (y.trans L) I⟩
  |true=>cases n;rw[if_pos rfl];exact k _ al H1 y rfl
def GJ{pos:Pos}{f:MF1}(h:DE c X a f):DE c X (.UnaryOp .Not a pos) (ow f):=PE.imp (EO h) λσ H Q y=>by
 obtain⟨Hf0,H0,Hf,ρ,d,st,n,k⟩:=y;unfold ow at n
 cases q:mB f ρ with
 |none=>rw[q]at n;nomatch n
 |some x=>
  rw[q]at n;cases n;exact⟨Hf0,H0,Hf,ρ,.bl x,st,qX q,λv al H1 B z=>⟨x,z,k _ al H1 B rfl⟩⟩
abbrev vIf(t:MF4)(f g:MF1)(ρ:LS):OD:=(t ρ).bind λb=>if b then f ρ else g ρ
variable{t:MF4}{cd:Expr}
def vA{pos:Pos}{f g:MF1}(I:DT c X cd t)(z:DE c X a f)(B:DE c X b g):DE c X (.IfExp cd a b pos) (vIf t f g):=PE.imp (zC I z B) λσ H Q L=>by
 obtain⟨Hf0,H0,Hf,ρ,d,st,h,k⟩:=L;unfold vIf at h
 cases q:t ρ with
 |none=>rw[q]at h;nomatch h
 |some x=>
  rw[q]at h;refine⟨Hf0,H0,Hf,ρ,x,st,q,λal H1 n=>?_⟩
  cases x with
  |true=>rw[if_pos rfl];exact⟨Hf0,H0,al,ρ,d,st.step n,h,λv a9 H2 y r=>k v a9 H2 (n.trans y) r⟩
  |false=>rw[if_neg bS];exact⟨Hf0,H0,al,ρ,d,st.step n,h,λv a9 H2 y r=>k v a9 H2 (n.trans y) r⟩
noncomputable instance {i j:Int}:Decidable (mD i j):=by unfold mD;infer_instance
noncomputable instance {i j:Int}:Decidable (nY i j):=by unfold nY;infer_instance
noncomputable instance {i j:Int}:Decidable (n4 i j):=by unfold n4;infer_instance
abbrev dI(C:Int->Int->Prop)[∀i j,Decidable (C i j)](g:Int->Int->D):D->D->OD
 |.int i,.int j=>if C i j then aa (g i j) else ab
 | _,_=>ab
abbrev dI0(g:Int->Int->D):D->D->OD
 |.int i,.int j=>aa (g i j)
 | _,_=>ab
abbrev cN:D->D->OD
 |.int i,.int j=>aa (.int (i+j))
 |.str a,.str b=>if a.length+b.length<=16777216 then aa (.str (a++b)) else ab
 |.lst a,.lst b=>if a.length+b.length<=16777216 then aa (.lst (a++b)) else ab
 | _,_=>ab
@[reducible]noncomputable def iC:D->D->OD:=dI0 λi j=>.int (i-j)
@[reducible]noncomputable def mL:D->D->OD:=dI mD λi j=>.int (i / j)
@[reducible]noncomputable def i3:D->D->OD:=dI (λ_ j=>0<j) λi j=>.int (i % j)
@[reducible]noncomputable def lx:D->D->OD:=dI nY λi j=>.int (i ^ j.toNat)
@[reducible]noncomputable def dLt:D->D->OD:=dI0 λi j=>.bl (decide (i<j))
@[reducible]noncomputable def dLe:D->D->OD:=dI0 λi j=>.bl (decide (i<=j))
@[reducible]noncomputable def dGt:D->D->OD:=dI0 λi j=>.bl (decide (j<i))
@[reducible]noncomputable def dGe:D->D->OD:=dI0 λi j=>.bl (decide (j<=i))
variable{gd:Int->Int->D}
def rc{f:Value->Value->Sem Value}{C:Int->Int->Prop}[∀i j,Decidable (C i j)]{g:Int->Int->V}(h:OpR X f (rI C g))(q:∀G H i j,Rep G H (gd i j) (g i j)):OpD c X f (dI C gd):=by
 rintro pins s σ H U vy v u Q I L M ⟨Hf,x,y,d,T,z,B,e,k⟩;unfold dI at e;split at e
 .split at e
  .rename_i n;cases e;exact h pins s σ H U vy v u Q I L M ⟨_,_,z,B,n,k _ Hf H (Ext.refl T) (q _ _ _ _)⟩
  .nomatch e
 .nomatch e
def oy{f:Value->Value->Sem Value}{g:Int->Int->V}(h:OpR X f (rI0 g))(n:∀G H i j,Rep G H (gd i j) (g i j)):OpD c X f (dI0 gd):=by
 rintro pins s σ H T U v u Q I B L ⟨Hf,x,y,d,M,q,z,e,k⟩;unfold dI0 at e;split at e
 .cases e;exact h pins s σ H T U v u Q I B L ⟨_,_,q,z,k _ Hf H (Ext.refl M) (n _ _ _ _)⟩
 .nomatch e
def dY:OpD c X (fo .Add) cN:=by
 rintro pins s σ H M T v u Q I B L ⟨Hf,x,y,d,q,h,n,e,k⟩;unfold cN at e;split at e
 .cases e;exact Fj pins s σ H M T v u Q I B L ⟨_,_,h,n,k _ Hf H (Ext.refl q) rfl⟩
 .split at e
  .rename_i z;cases e;exact FF pins s σ H M T v u Q I B L ⟨_,_,h,n,by rw[cG];exact z,k _ Hf H (Ext.refl q) rfl⟩
  .nomatch e
 .split at e
  .rename_i z;cases e;obtain⟨a,vs,U,q1,h⟩:=h;obtain⟨b,us,e2,q2,n⟩:=n
   exact Ag pins s σ H M T v u Q I B L ⟨a,b,vs,us,U,e2,q _ _ q1,q _ _ q2,by rw[cG,<- h.length,<- n.length];exact z,
    λp hp=>k _ _ _ (Ext.new q hp) ⟨p,_,rfl,bI,(h.append n).up (cB (q.free hp))⟩⟩
  .nomatch e
 .nomatch e
def jC:OpD c X (fo .Sub) iC:=oy Fk λ_ _ _ _=>rfl
def vB:OpD c X (fo .FloorDiv) mL:=rc Fm λ_ _ _ _=>rfl
def ly:OpD c X (fo .Mod) i3:=rc Fo λ_ _ _ _=>rfl
def oz:OpD c X (fo .Pow) lx:=rc Fp λ_ _ _ _=>rfl
def vC:OpD c X (cU .Lt) dLt:=oy Fu λ_ _ _ _=>rfl
def oA:OpD c X (cU .LtE) dLe:=oy Fv λ_ _ _ _=>rfl
def i4:OpD c X (cU .Gt) dGt:=oy Fw λ_ _ _ _=>rfl
def GK:OpD c X (cU .GtE) dGe:=oy Fx λ_ _ _ _=>rfl
def rf{g:Int->Int->D}(h:∀i j,(g i j).scalar=ac):∀x y d,dI0 g x y=aa d->d.scalar=ac:=by
 intro x y d e;unfold dI0 at e;split at e
 .cases e;exact h _ _
 .nomatch e
def vE:∀x y d,dLt x y=aa d->d.scalar=ac:=rf λ_ _=>rfl
def oB:∀x y d,dLe x y=aa d->d.scalar=ac:=rf λ_ _=>rfl
def j9:∀x y d,dGt x y=aa d->d.scalar=ac:=rf λ_ _=>rfl
def GL:∀x y d,dGe x y=aa d->d.scalar=ac:=rf λ_ _=>rfl
abbrev eU:D->OD
 |.int i=>aa (.int (-i))
 | _=>ab
abbrev m1(m:D->OD)(f:MF1)(ρ:LS):OD:=(f ρ).bind m
def gu{f:MF1}{pos:Pos}(q:DE c X a f):DE c X (.UnaryOp .USub a pos) (m1 eU f):=PE.imp (Fi Fq q) λσ H Q z=>by
 obtain⟨Hf0,H0,Hf,ρ,d,st,h,k⟩:=z;unfold m1 at h
 cases n:f ρ with
 |none=>rw[n]at h;nomatch h
 |some y=>
  rw[n]at h
  cases y with
  |int i=>cases h;exact⟨Hf0,H0,Hf,ρ,.int i,st,n,λv Hf' H' x r=>⟨i,r,k _ Hf' H' x rfl⟩⟩
  | _=>nomatch h
abbrev AC:D->Bool
 |.non=>ac
 | _=>ag
def GM{x:D}(r:Rep G H x v):decide (v=.non)=AC x:=by
 cases x with
 |non=>subst r;rfl
 |bl b=>subst r;rfl
 |int i=>subst r;rfl
 |str x=>subst r;rfl
 |lst _=>obtain⟨a,_,e,_⟩:=r;subst e;rfl
 |tup _=>obtain⟨a,_,e,_⟩:=r;subst e;rfl
 |kl _=>obtain⟨a,_,e,_⟩:=r;subst e;rfl
 |kt _=>obtain⟨a,_,e,_⟩:=r;subst e;rfl
 |dic _ _=>obtain⟨a,_,e,_⟩:=r;subst e;rfl
 |ins _ _ _=>obtain⟨a,_,_,e,_⟩:=r;subst e;rfl
 |kd _ _=>obtain⟨a,_,_,e,_⟩:=r;subst e;rfl
 |dT _ _=>obtain⟨a,_,e,_⟩:=r;subst e;rfl
abbrev isD(x y:D):Option Bool:=match y with
 |.non=>aa (AC x)
 |.bl b=>match x with
  |.non=>aa ag
  |.bl a=>aa (a==b)
  | _=>ab
 | _=>ab
abbrev dIs(x y:D):OD:=(isD x y).map .bl
def AD:OpD c X (cU .Is) dIs:=by
 rintro pins s σ H M L v u Q I q z ⟨Hf,x,y,d,B,h,n,e,k⟩
 cases y with
 |non=>
  cases e
  exact Fy pins s σ H M L v u Q I q z ⟨n,by rw[GM h];exact k _ Hf H (Ext.refl B) rfl⟩
 |bl b=>
  cases x with
  |non=>cases e;subst h;exact Ax pins s σ H _ L v u Q I q z ⟨b,n,.inl rfl,k _ Hf H (Ext.refl B) rfl⟩
  |bl a=>cases e;subst h;exact Ax pins s σ H _ L v u Q I q z ⟨b,n,.inr ⟨a,rfl⟩,by rw[qz];exact k _ Hf H (Ext.refl B) rfl⟩
  | _=>nomatch e
 | _=>nomatch e
def oC{x:Option Bool}{g:Bool->Bool}:∀d,x.map (λb=>D.bl (g b))=aa d->d.scalar=ac:=by
 intro d e
 cases x with
 |none=>nomatch e
 |some b=>cases e;rfl
def AE:∀x y d,dIs x y=aa d->d.scalar=ac:=λ_ _ d e=>oC d e
abbrev eqF:D->D->Bool
 |.non,.non=>ac
 |.bl a,.bl b=>a==b
 |.int a,.int b=>a==b
 |.str a,.str b=>a==b
 | _,_=>ag
abbrev dn(f:D->D->Option Bool):LD->LD->Option Bool
 | [],[]=>aa ac
 |x::xs,y::ys=>(f x y).bind λb=>(dn f xs ys).map λr=>b && r
 | _,_=>aa ag
abbrev vF:D->D->Bool
 |.bl _,.int _=>ac
 |.int _,.bl _=>ac
 | _,_=>ag
abbrev lz(f:D->D->Option Bool):D->D->Option Bool
 |.lst xs,.lst ys=>if xs.length=ys.length then dn f xs ys else aa ag
 |.tup xs,.tup ys=>if xs.length=ys.length then dn f xs ys else ab
 |x,y=>if x.scalar && y.scalar && !vF x y then aa (eqF x y) else ab
abbrev deq:Nat->D->D->Option Bool
 | 0,_,_=>ab
 |n+1,x,y=>lz (deq n) x y
abbrev dEq(x y:D):OD:=(deq 20 x y).map .bl
abbrev dNe(x y:D):OD:=(deq 20 x y).map λb=>.bl (!b)
def c9:∀x y d,dEq x y=aa d->d.scalar=ac:=λ_ _ d e=>oC d e
def gJ:∀x y d,dNe x y=aa d->d.scalar=ac:=λ_ _ d e=>oC d e
variable{x y:D}{xs ys:LD}{b:Bool}
def rg{f:D->D->Option Bool}(h:dn f (x::xs) (y::ys)=aa b):∃n q,f x y=aa n/\dn f xs ys=aa q/\b=(n && q):=by
 unfold dn at h
 cases z:f x y with
 |none=>rw[z]at h;nomatch h
 |some n=>
  cases B:dn f xs ys with
  |none=>rw[z,B]at h;nomatch h
  |some q=>rw[z,B]at h;cases h;exact⟨n,q,rfl,rfl,rfl⟩
def lA{f:D->D->Option Bool}:∀{xs ys:LD} {b:Bool},xs.length=ys.length->dn f xs ys=aa b->∃e:Nat->Bool,(∀j x y,xs[j]?=aa x->ys[j]?=aa y->f x y=aa (e j))/\(ci xs.length).all e=b
 | [],[],b,_,h=>by cases h;exact⟨λ_=>ac,λj x y e=>by simp at e,rfl⟩
 |x::xs,y::ys,b,hl,h=>by
  obtain⟨q,U,z,B,rfl⟩:=rg h;obtain⟨e,L,I⟩:=lA (by simpa using hl) B
  refine⟨λj=>match j with | 0=>q |j+1=>e j,λj M T ex n=>?_,?_⟩
  .cases j with
   |zero=>simp at ex n;subst ex n;exact z
   |succ j=>exact L j M T (by simpa using ex) (by simpa using n)
  .rw[bP,range_succ_eq_map,jR,all_map,<- I]
   rfl
 | [],_::_,_,hl,_=>by cases hl
 | _::_,[],_,hl,_=>by cases hl
def rh(s:d.scalar=ac):d=.non\/(∃b,d=.bl b)\/(∃i,d=.int i)\/∃z,d=.str z:=by
 cases d with
 |non=>exact .inl rfl
 |bl b=>exact .inr (.inl ⟨b,rfl⟩)
 |int i=>exact .inr (.inr (.inl ⟨i,rfl⟩))
 |str z=>exact .inr (.inr (.inr ⟨z,rfl⟩))
 | _=>nomatch s
def rj(h:(x.scalar && y.scalar && !vF x y)=ac)(n:Rep G H x v)(q:Rep G H y u):fO v=ac/\fO u=ac/\eqV v u=eqF x y/\u8 v u=ac/\decide (v=u)=eqF x y:=by
 rw[cS,cS]at h
 rcases rh h.1.1 with rfl |⟨a,rfl⟩ |⟨a,rfl⟩ |⟨a,rfl⟩ <;> rcases rh h.1.2 with rfl |⟨b,rfl⟩ |⟨b,rfl⟩ |⟨b,rfl⟩ <;> first
  |(cases h.2;done)
  |(subst n;subst q;refine⟨rfl,rfl,rfl,rfl,?_⟩;first |exact qz |exact u9 |exact va |rfl)
variable{n:Nat}
def rm(q:¬(∃xs ys,x=.lst xs/\y=.lst ys)/\¬(∃xs ys,x=.tup xs/\y=.tup ys))(h:deq (n+1) x y=aa b):(x.scalar && y.scalar && !vF x y)=ac/\b=eqF x y:=by
 replace h:lz _ x y=aa b:=h;unfold lz at h;split at h
 .exact absurd ⟨_,_,rfl,rfl⟩ q.1
 .exact absurd ⟨_,_,rfl,rfl⟩ q.2
 .split at h
  .rename_i z;cases h;exact⟨z,rfl⟩
  .nomatch h
def AF:∀(n:Nat) {x y:D} {b:Bool} {v:V},deq n x y=aa b->Rep G H x v->Rep G H y v->b=ac:=by
 intro n
 induction n with
 |zero=>intro x y b v h;nomatch h
 |succ n ih=>
  have all:∀(xs ys:LD) vs b,ay G H xs vs->ay G H ys vs->dn (deq n) xs ys=aa b->b=ac:=by
   intro xs
   induction xs with
   |nil=>
    intro ys vs b B z h;cases (B);have:ys=[]:=nG.mp z.length;subst this
    cases h;rfl
   |cons x xs ihx=>
    intro ys vs b B z h;obtain⟨v,r,e,h1,h2⟩:=B;subst e
    cases ys with
    |nil=>cases (z)
    |cons y ys=>
     obtain⟨v',r',e,T,U⟩:=z;cases e;obtain⟨b1,b2,e1,e2,rfl⟩:=rg h;rw[ih e1 h1 T,ihx ys _ b2 h2 U e2];rfl
  intro x y b v h B z
  by_cases hl:∃xs ys,x=.lst xs/\y=.lst ys
  .obtain⟨xs,ys,rfl,rfl⟩:=hl;obtain⟨a,vs,e,q,B⟩:=B;obtain⟨a',hY,M,L,z⟩:=z;subst e;cases M;rw[q]at L;cases L;have I:=B.length.trans z.length.symm;replace h:(if xs.length=ys.length then dn _ xs ys else aa ag)=aa b:=h;rw[if_pos I]at h;exact all xs ys vs b B z h
  .by_cases ht:∃xs ys,x=.tup xs/\y=.tup ys
   .obtain⟨xs,ys,rfl,rfl⟩:=ht;obtain⟨a,vs,e,q,B⟩:=B;obtain⟨a',hY,M,L,z⟩:=z;subst e;cases M;rw[q]at L;cases L;replace h:(if xs.length=ys.length then dn _ xs ys else ab)=aa b:=h;rw[if_pos (B.length.trans z.length.symm)]at h;exact all xs ys vs b B z h
   .obtain⟨hs,rfl⟩:=rm ⟨hl,ht⟩ h;obtain⟨_,_,_,_,e⟩:=rj hs B z;rw[<- e];exact decide_eq_true rfl
variable{s:aE}{us:List V}
def mM{its h:LVa}{e:Nat->Bool}(r1:ay G H xs vs)(r2:ay G H ys us)(r:aS vs its)(r':aS us h)
 (he:∀j x y,xs[j]?=aa x->ys[j]?=aa y->deq n x y=aa (e j))
 (ih:∀{x y:D} {b:Bool} {v u:V} {w L:Value},deq n x y=aa b->Rep G H x v->Rep G H y u->aP v w->aP u L->c5 A s w L b):
  ∀j (B:j<its.toArray.size) (I:j<h.toArray.size),c5 A s its.toArray[j] h.toArray[j] (e j):=λj B I=>by
 have q:j<its.length:=by simpa using B
 have z:j<h.length:=by simpa using I
 obtain⟨v,T,rv⟩:=r.at' (i:=j) (u:=its[j]) (by simp[q]);obtain⟨u,M,ru⟩:=r'.at' (i:=j) (u:=h[j]) (by simp[z]);obtain⟨x,ex,rx⟩:=r1.get' T;obtain⟨y,U,ry⟩:=r2.get' M;exact ih (he j x y ex U) rx ry rv ru
def vG(I:Inv X pins σ H s):∀(n:Nat) {A:dH} {x y:D} {b:Bool} {v u:V} {w w':Value},A.units+n<cLine->deq n x y=aa b->Rep (Gx c X) H x v->Rep (Gx c X) H y u->aP v w->aP u w'->c5 A s w w' b:=by
 intro n
 induction n with
 |zero=>intro A x y b v u w w' _ h;nomatch h
 |succ n ih=>
  intro A x y b v u w w' hu h r1 r2 rv ru;have ir:∀{x y:D} {b:Bool} {v u:V} {w w':Value},deq n x y=aa b->Rep _ H x v->Rep _ H y u->aP v w->aP u w'->c5 A.in1 s w w' b:=λh a b c d=>ih (by rw[qh];lia) h a b c d
  by_cases hl:∃xs ys,x=.lst xs/\y=.lst ys
  .obtain⟨xs,ys,rfl,rfl⟩:=hl;obtain⟨a,vs,e,q,z⟩:=id r1;obtain⟨a',hY,e',q',B⟩:=id r2;subst e e';cases rv;subst ru
   by_cases M:a=a'
   .subst M;have:=AF _ h (⟨a,vs,rfl,q,z⟩) ⟨a,hY,rfl,q',B⟩;subst this;exact uZ _
   .refine c5.of_refs M ?_;obtain⟨its,rr,pl,hz⟩:=I.list (SqL.of q);obtain⟨its2,T,U,hz2⟩:=I.list (SqL.of q');have l1:=rr.length;have l2:=T.length;have l3:=z.length;have l4:=B.length;replace h:(if xs.length=ys.length then dn _ xs ys else aa ag)=aa b:=h;split at h
    .rename_i L;obtain⟨ee,he,ha⟩:=lA L h;have:=SeqAt.RcAt.lists pl.isList U.isList (by simp only[size_toArray];lia) (by lia) (mM z B rr T he ir);rw[size_toArray,<- l1,<- l3,ha]at this;exact this
    .rename_i L;cases h;exact SeqAt.RcAt.lists_lengths pl.isList U.isList (by simp only[size_toArray,bne_iff_ne];lia) (by lia)
  .by_cases ht:∃xs ys,x=.tup xs/\y=.tup ys
   .obtain⟨xs,ys,rfl,rfl⟩:=ht;obtain⟨a,vs,e,q,z⟩:=id r1;obtain⟨a',hY,e',q',B⟩:=id r2;subst e e';cases rv;subst ru
    by_cases M:a=a'
    .subst M;have:=AF _ h (⟨a,vs,rfl,q,z⟩) ⟨a,hY,rfl,q',B⟩;subst this;exact uZ _
    .refine c5.of_refs M ?_;obtain⟨its,rr,pl,hz⟩:=I.tuple (SqT.of q);obtain⟨its2,T,U,hz2⟩:=I.tuple (SqT.of q');have l1:=rr.length;have l2:=T.length;have l3:=z.length;have l4:=B.length;replace h:(if xs.length=ys.length then dn _ xs ys else ab)=aa b:=h;split at h
     .rename_i L;obtain⟨ee,he,ha⟩:=lA L h;have:=SeqAt.RcAt.tuples (pl) (U) (by lia) (mM z B rr T he ir);have hsz:its.toArray.size=its2.toArray.size:=by simp only[size_toArray];lia
      rw[<- hsz,nL,beq_self_eq_true,pR,size_toArray,<- l1,<- l3,ha]at this;exact this
     .nomatch h
   .obtain⟨hs,rfl⟩:=rm ⟨hl,ht⟩ h;obtain⟨f1,f2,e,_,_⟩:=rj hs r1 r2;rw[<- e];exact Ac rv ru f1 f2
def cO(hu:X.A.units+64<cLine):OpD c X (cU .Eq) dEq:=by
 rintro pins s σ H v u w w' Q I rv ru ⟨Hf,x,y,d,s0,r1,r2,e,k⟩;unfold dEq at e
 cases h:deq 20 x y with
 |none=>rw[h]at e;nomatch e
 |some b=>
  rw[h]at e;cases e;have q0:=k _ Hf H (Ext.refl s0) rfl;have fin:EP X pins σ Q _ s:=⟨.bl b,H,I,rfl,q0⟩;have r1:=r1.up s0;have r2:=r2.up s0;have ir:∀{x y:D} {b:Bool} {v u:V} {w w':Value},deq 19 x y=aa b->Rep _ H x v->Rep (Gx c X) H y u->aP v w->aP u w'->c5 X.A.in1 s w w' b:=λh a b c d=>vG I 19 (by rw[qh];lia) h a b c d
  by_cases hl:∃xs ys,x=.lst xs/\y=.lst ys
  .obtain⟨xs,ys,rfl,rfl⟩:=hl;obtain⟨a,vs,e,q,L⟩:=id r1;obtain⟨a',hY,e',q',M⟩:=id r2;subst e e';cases rv;subst ru;obtain⟨its,rr,pl,hz⟩:=I.list (SqL.of q);obtain⟨U,B,T,hz2⟩:=I.list (SqL.of q');have l1:=rr.length;have l2:=B.length;have l3:=L.length;have l4:=M.length;replace h:(if xs.length=ys.length then dn _ xs ys else aa ag)=aa b:=h;split at h
   .rename_i z;obtain⟨ee,he,ha⟩:=lA z h;refine SeqAt.eq_listAt pl.isList T.isList (by simp only[size_toArray];lia) (by lia) (mM L M rr B he ir) ?_;rw[size_toArray,<- l1,<- l3,ha];exact fin
   .rename_i z;cases h;exact SeqAt.eq_list_lengthsAt pl.isList T.isList (by simp only[size_toArray,bne_iff_ne];lia) (by lia) fin
  .by_cases ht:∃xs ys,x=.tup xs/\y=.tup ys
   .obtain⟨xs,ys,rfl,rfl⟩:=ht;obtain⟨a,vs,e,q,L⟩:=id r1;obtain⟨a',hY,e',q',M⟩:=id r2;subst e e';cases rv;subst ru;obtain⟨its,rr,pl,hz⟩:=I.tuple (SqT.of q);obtain⟨U,B,T,hz2⟩:=I.tuple (SqT.of q');have l1:=rr.length;have l2:=B.length;have l3:=L.length;have l4:=M.length;replace h:(if xs.length=ys.length then dn _ xs ys else ab)=aa b:=h;split at h
    .rename_i z;obtain⟨ee,he,ha⟩:=lA z h;refine SeqAt.eq_tupleAt (pl) (T) (by lia) (mM L M rr B he ir) ?_;have hsz:its.toArray.size=U.toArray.size:=by simp only[size_toArray];lia
     rw[<- hsz,nL,beq_self_eq_true,pR,size_toArray,<- l1,<- l3,ha];exact fin
    .nomatch h
   .obtain⟨hs,rfl⟩:=rm ⟨hl,ht⟩ h;obtain⟨_,_,_,hsc,e⟩:=rj hs r1 r2;exact Fs pins s σ H v u w w' Q I rv ru ⟨hsc,by rw[e];exact q0⟩
def gK(hu:X.A.units+64<cLine):OpD c X (cU .NotEq) dNe:=by
 rintro pins s σ H v u w w' Q I rv ru ⟨Hf,x,y,d,s0,r1,r2,e,k⟩;unfold dNe at e
 cases h:deq 20 x y with
 |none=>rw[h]at e;nomatch e
 |some b=>
  rw[h]at e;cases e;have q0:=k _ Hf H (Ext.refl s0) rfl;have fin:EP X pins σ Q _ s:=⟨.bl (!b),H,I,rfl,q0⟩;have r1:=r1.up s0;have r2:=r2.up s0;have ir:∀{x y:D} {b:Bool} {v u:V} {w w':Value},deq 19 x y=aa b->Rep _ H x v->Rep (Gx c X) H y u->aP v w->aP u w'->c5 X.A.in1 s w w' b:=λh a b c d=>vG I 19 (by rw[qh];lia) h a b c d
  by_cases hl:∃xs ys,x=.lst xs/\y=.lst ys
  .obtain⟨xs,ys,rfl,rfl⟩:=hl;obtain⟨a,vs,e,q,L⟩:=id r1;obtain⟨a',hY,e',q',M⟩:=id r2;subst e e';cases rv;subst ru;obtain⟨its,rr,pl,hz⟩:=I.list (SqL.of q);obtain⟨U,B,T,hz2⟩:=I.list (SqL.of q');have l1:=rr.length;have l2:=B.length;have l3:=L.length;have l4:=M.length;replace h:(if xs.length=ys.length then dn _ xs ys else aa ag)=aa b:=h;split at h
   .rename_i z;obtain⟨ee,he,ha⟩:=lA z h;refine SeqAt.RcNeAt.lists pl.isList T.isList (by simp only[size_toArray];lia) (by lia) (mM L M rr B he ir) X.prog X.w X.xe _ ?_;rw[size_toArray,<- l1,<- l3,ha];exact fin
   .rename_i z;cases h;exact SeqAt.RcNeAt.lists_lengths pl.isList T.isList (by simp only[size_toArray,bne_iff_ne];lia) (by lia) X.prog X.w X.xe _ fin
  .by_cases ht:∃xs ys,x=.tup xs/\y=.tup ys
   .obtain⟨xs,ys,rfl,rfl⟩:=ht;obtain⟨a,vs,e,q,L⟩:=id r1;obtain⟨a',hY,e',q',M⟩:=id r2;subst e e';cases rv;subst ru;obtain⟨its,rr,pl,hz⟩:=I.tuple (SqT.of q);obtain⟨U,B,T,hz2⟩:=I.tuple (SqT.of q');have l1:=rr.length;have l2:=B.length;have l3:=L.length;have l4:=M.length;replace h:(if xs.length=ys.length then dn _ xs ys else ab)=aa b:=h;split at h
    .rename_i z;obtain⟨ee,he,ha⟩:=lA z h;refine SeqAt.RcNeAt.tuples (pl) (T) (by lia) (mM L M rr B he ir) X.prog X.w X.xe _ ?_;have hsz:its.toArray.size=U.toArray.size:=by simp only[size_toArray];lia
     rw[<- hsz,nL,beq_self_eq_true,pR,size_toArray,<- l1,<- l3,ha];exact fin
    .nomatch h
   .obtain⟨hs,rfl⟩:=rm ⟨hl,ht⟩ h;obtain⟨_,_,_,hsc,e⟩:=rj hs r1 r2;exact Ft pins s σ H v u w w' Q I rv ru ⟨hsc,by rw[e];exact q0⟩
abbrev eqX:D->D->Bool
 |.non,.non=>ac
 |.bl a,.bl b=>a==b
 |.bl a,.int b=>(if a then 1 else 0)==b
 |.int a,.bl b=>a==(if b then 1 else 0)
 |.int a,.int b=>a==b
 |.str a,.str b=>a==b
 | _,_=>ag
abbrev inD(x y:D):Option Bool:=(g8 y).bind λds=>if x.scalar && ds.all D.scalar then aa (ds.any λd=>eqX d x) else ab
abbrev dIn(x y:D):OD:=(inD x y).map .bl
abbrev i5(x y:D):OD:=(inD x y).map λb=>.bl (!b)
def oD:∀x y d,dIn x y=aa d->d.scalar=ac:=λ_ _ d e=>oC d e
def oE:∀x y d,i5 x y=aa d->d.scalar=ac:=λ_ _ d e=>oC d e
def GN(h:x.scalar=ac)(q:y.scalar=ac)(z:Rep G H x v)(B:Rep G H y u):fO v=ac/\fO u=ac/\eqV v u=eqX x y:=by
 rcases rh h with rfl |⟨a,rfl⟩ |⟨a,rfl⟩ |⟨a,rfl⟩ <;> rcases rh q with rfl |⟨b,rfl⟩ |⟨b,rfl⟩ |⟨b,rfl⟩ <;> (subst z;subst B;exact⟨rfl,rfl,rfl⟩)
def AG{G:Gc}{H:Hp}{x:D}{v:V}(z:x.scalar=ac)(r:Rep G H x v):∀{ds:LD} {vs:List V},ds.all D.scalar=ac->ay G H ds vs->vs.all fO=ac/\inV v vs=ds.any λd=>eqX d x
 | [],_,_,h=>by cases (h);exact⟨rfl,rfl⟩
 |d::ds,_,ha,q3_=>by
  obtain⟨u,U,e,L,M⟩:=q3_;subst e;rw[jR,cS]at ha;obtain⟨B,T,e⟩:=GN ha.1 z L r;obtain⟨I,q⟩:=AG z r ha.2 M;refine⟨by rw[jR,B,I];rfl,?_⟩;unfold inV at q ⊢;rw[eS,eS,e,q]
def AH(e:inD x y=aa b)(z:Rep G H x v)(M:Rep G H y u):∃p vs,u=.ref p/\(SqL G.K H p vs\/SqT G.K H p vs)/\fO v=ac/\vs.all fO=ac/\inV v vs=b:=by
 unfold inD at e
 cases es:g8 y with
 |none=>rw[es]at e;nomatch e
 |some ds=>
  rw[es]at e;replace e:(if _=ac then aa _ else ab)=aa b:=e;split at e
  .rename_i h;cases e;rw[cS]at h;obtain⟨a,vs,B,q,r⟩:=qU es M;obtain⟨I,L⟩:=AG h.1 z h.2 r
   have f:fO v=ac:=by cases x <;> first |(subst z;rfl) |(cases h.1)
   exact⟨a,vs,B,q,f,I,L⟩
  .nomatch e
def oF:OpD c X (cU .In) dIn:=by
 rintro pins s σ H v u w w' Q I rv ru ⟨Hf,x,y,d,z,U,r2,e,k⟩;unfold dIn at e
 cases h:inD x y with
 |none=>rw[h]at e;nomatch e
 |some b=>
  rw[h]at e;cases e;obtain⟨p,vs,B,q,M,T,L⟩:=AH h (U.up z) (r2.up z);refine F3 pins s σ H v u w w' Q I rv ru ⟨p,vs,B,q,M,T,?_⟩;rw[if_neg bS,L];exact k _ Hf H (Ext.refl z) rfl
def oG:OpD c X (cU .NotIn) i5:=by
 rintro pins s σ H v u w w' Q I rv ru ⟨Hf,x,y,d,z,U,r2,e,k⟩;unfold i5 at e
 cases h:inD x y with
 |none=>rw[h]at e;nomatch e
 |some b=>
  rw[h]at e;cases e;obtain⟨p,vs,B,q,M,T,L⟩:=AH h (U.up z) (r2.up z);refine F4 pins s σ H v u w w' Q I rv ru ⟨p,vs,B,q,M,T,?_⟩;rw[if_pos rfl,L];exact k _ Hf H (Ext.refl z) rfl
def vH{i:Int}(h:atI ds i=aa d)(r:ay G H ds vs):∃v,atI vs i=aa v/\Rep G H d v:=by
 unfold atI at h ⊢;rw[<- r.length]
 cases e:ixN ds.length i with
 |none=>rw[e]at h;nomatch h
 |some j=>
  rw[e]at h;exact r.get h
abbrev ixD(ds:LD):D->OD
 |.int k=>atI ds k
 | _=>ab
abbrev mIx(f:MF2)(g:MF1)(ρ:LS):OD:=(f ρ).bind λds=>(g ρ).bind λi=>ixD ds i
variable{b:Expr}
def ax{pos:Pos}{f:MF2}{g:MF1}(ha:DC c X a f)(hb:DE c X b g)(hs:vh b:=by exact λ_ _=>rfl):DE c X (.Subscript a b pos) (mIx f g):=
 PE.imp (z7 (z8.or z9) ha hb hs) λσ H Q q_=>by
  obtain⟨Hf0,H0,Hf,ρ,d,st,z,k⟩:=q_;unfold mIx at z
  cases I:f ρ with
  |none=>rw[I]at z;nomatch z
  |some ds=>
   cases M:g ρ with
   |none=>rw[I,M]at z;nomatch z
   |some i=>
    rw[I,M]at z
    cases i with
    |int n=>
     refine⟨Hf0,H0,Hf,ρ,ds,st,I,λl vs al H1 U q r=>⟨Hf0,H0,al,ρ,.int n,st.step U,M,λu a9 H2 L r2=>?_⟩⟩;cases (r2);obtain⟨v,T,rv⟩:=vH z r;have B:=k v a9 H2 (U.trans L) (rv.up L.f)
     rcases q with q |q
     .exact .inl ⟨l,vs,n,v,rfl,rfl,L.h.seq q,T,B⟩
     .exact .inr ⟨l,vs,n,v,rfl,rfl,L.h.tup q,T,B⟩
    | _=>nomatch z
abbrev mN(xs:LD)(lo hi:Option Int):LD:=(xs.drop (HT.sIx xs.length 0 lo)).take (HT.sIx xs.length xs.length hi-HT.sIx xs.length 0 lo)
abbrev lsD:D->OLD
 |.lst xs=>aa xs
 |.kl xs=>aa xs
 | _=>ab
def gv(e:lsD d=aa ds)(r:Rep G H d v):∃a vs,v=.ref a/\SqL G.K H a vs/\ay G H ds vs:=by
 cases d with
 |lst xs=>cases e;obtain⟨a,vs,h,q,r⟩:=r;exact⟨a,vs,h,SqL.of q,r⟩
 |kl xs=>cases e;obtain⟨a,vs,h,q,r⟩:=r;exact⟨a,vs,h,q,r⟩
 | _=>nomatch e
inductive AI(G:Gc)(f:LS->Option (Option Int))(σ:St)(H:Hp)(Q:Option Int->Hp->Prop):Prop
 |mk:∀Hf0 H0 Hf ρ i,aG G Hf0 H0 Hf H σ ρ->f ρ=aa i->(∀Hf' H',Ext Hf H Hf' H'->Q i H')->AI G f σ H Q
abbrev DPt(c:Str->Addr)(X:Cx)(e:Option Expr)(f:LS->Option (Option Int)):Prop:=PO X e (AI (Gx c X) f)
def mO:DPt c X ab (λ_=>aa ab):=λpins s σ H Q I q=>by
 obtain⟨Hf0,H0,Hf,ρ,i,st,h,k⟩:=q;exact(vf pins s σ H Q I (by cases h;exact k Hf H (Ext.refl st.sub)))
abbrev mPt(f:MF1)(ρ:LS):Option (Option Int):=(f ρ).bind λd=>match d with
 |.int i=>aa (aa i)
 | _=>ab
def ka{f:MF1}(h:DE c X e f):DPt c X (aa e) (mPt f):=λpins s σ H Q I B=>by
 obtain⟨Hf0,H0,Hf,ρ,i,st,q,k⟩:=B
 exact (z3 h pins s σ H Q I (by
 unfold mPt at q
 cases z:f ρ with
 |none=>rw[z]at q;nomatch q
 |some d=>
  rw[z]at q
  cases d with
  |int n=>cases q;exact⟨Hf0,H0,Hf,ρ,.int n,st,z,λv Hf' H' x r=>⟨n,r,k Hf' H' x⟩⟩
  | _=>nomatch q))
abbrev mSl(f:MF1)(l h:LS->Option (Option Int))(ρ:LS):OLD:=(f ρ).bind λd=>(lsD d).bind λds=>(l ρ).bind λlo=>(h ρ).map λhi=>mN ds lo hi
def AJ(r:ay G H ds vs)(lo hi:Option Int):ay G H (mN ds lo hi) (lu vs lo hi):=by
 unfold mN lu;rw[r.length];exact(r.drop _).take _
variable{p2:Pos}
def rp{pos:Pos}{f:MF1}{l h:LS->Option (Option Int)}{lo hi:Option Expr}(ha:DE c X e f)(hl:DPt c X lo l)(hh:DPt c X hi h):DO c X (.Subscript e (.Slice lo hi ab p2) pos) (mSl f l h):=
 PE.imp (vg F2 ha hl hh) λσ H Q q_=>by
  obtain⟨Hf0,H0,Hf,ρ,rs,st,z,k⟩:=q_;unfold mSl at z
  cases B:f ρ with
  |none=>rw[B]at z;nomatch z
  |some d=>
   cases I:lsD d with
   |none=>rw[B]at z;replace z:(lsD d).bind _=_:=z;rw[I]at z;nomatch z
   |some ds=>
    cases L:l ρ with
    |none=>rw[B]at z;replace z:(lsD d).bind _=_:=z;rw[I,L]at z;nomatch z
    |some lo'=>
     cases U:h ρ with
     |none=>rw[B]at z;replace z:(lsD d).bind _=_:=z;rw[I,L,U]at z;nomatch z
     |some hi'=>
      rw[B]at z;replace z:(lsD d).bind _=_:=z;rw[I,L,U]at z;cases z;refine⟨Hf0,H0,Hf,ρ,d,st,B,λv al H1 M r1=>⟨Hf0,H0,al,ρ,lo',st.step M,L,λa9 H2 x2=>⟨Hf0,H0,a9,ρ,hi',(st.step M).step x2,U,λT H3 x3=>?_⟩⟩⟩;obtain⟨a,vs,ea,q,r⟩:=gv I r1;subst ea;have x:=(M.trans x2).trans x3;have y:=(x2.trans x3);exact⟨a,vs,rfl,(M.s.trans y.h).seq q,λp hp=>(k p _ T _ (x.trans (Ext.tmp x.s hp)) (x.h.free hp) (x.s.free hp) bI (AJ (r.up y.f) _ _))⟩
abbrev rCD(G:Gc)(m:LD->OD):List V->Hp->VK->Prop:=λvs H Q=>∃Hf ds d,aM Hf H/\ay G Hf ds vs/\m ds=aa d/\∀v Hf' H',Ext Hf H Hf' H'->Rep G Hf' d v->Q v H'
nonrec abbrev kc(c:Str->Addr)(X:Cx)(f:Value)(m:LD->OD):Prop:=fH X f (rCD (Gx c X) m)
abbrev aH(m:LD->OD)(f:MF2)(ρ:LS):OD:=(f ρ).bind m
variable{m:LD->OD}
def vI{f:MF2}(h:aH m f ρ=aa d):∃ds,f ρ=aa ds/\m ds=aa d:=by
 unfold aH at h
 cases e:f ρ with
 |none=>rw[e]at h;nomatch h
 |some ds=>rw[e]at h;exact⟨ds,rfl,h⟩
variable{p:Pos}{x:Str}
def da{pos:Pos}{f:MF2}{id:String}(T:kc c X (.builtin id) m)(hs:∀ds d,m ds=aa d->d.scalar=ac)(hg:Gl X x)(hm:X.mg x=ab)(hv:gU x=aa (.builtin id))(M:DAB c X (e::es) f)(hn:x ≠ "__name__":=by decide)(q:NDb x:=by decide)
 (U:StE X e es:=by rfl)(z:BkE X pos es:=by rfl):
  DE c X (.Call (.Name x p) (e::es) [] pos) (aH m f):=PE.imp (qE T hg hm hv M.pa hn q U z) λσ H Q q_=>by
 obtain⟨Hf0,H0,Hf,ρ,d,st,L,k⟩:=q_;obtain⟨ds,I,B⟩:=vI L;exact⟨Hf0,H0,Hf,ρ,ds,st,I,λvs Hf' H' x r=>⟨H',ds,d,aM.refl _,r,B,λv a9 H2 x2 r2=>k v Hf' H2 (x.trans (Ext.grow x.s x2.h)) (r2.sc (hs _ _ B))⟩⟩
abbrev cu:LD->OD
 | [.lst xs]=>aa (.int xs.length)
 | [.tup xs]=>aa (.int xs.length)
 | [.kl xs]=>aa (.int xs.length)
 | [.kt xs]=>aa (.int xs.length)
 | [.str x]=>if x.length<=16777216 then aa (.int x.length) else ab
 | _=>ab
def ay.one(r:ay G H [d] vs):∃v,vs=[v]/\Rep G H d v:=by
 obtain⟨v,z,e,h,q⟩:=r;cases (q);exact⟨v,e,h⟩
def ay.two{d':D}(r:ay G H [d,d'] vs):∃v z,vs=[v,z]/\Rep G H d v/\Rep G H d' z:=by
 obtain⟨v,I,e,h,q⟩:=r;obtain⟨z,B,h'⟩:=q.one;subst B;exact⟨v,z,e,h,h'⟩
def AK(e:cu ds=aa d):∃q,ds=[q]/\((∃xs,g8 q=aa xs/\d=.int xs.length)\/∃x,q=.str x/\x.length<=16777216/\d=.int x.length):=by
 cases ds with
 |nil=>nomatch e
 |cons q ds=>
  cases ds with
  |cons _ _=>cases q <;> nomatch e
  |nil=>
   refine⟨q,rfl,?_⟩
   cases q with
   |lst xs=>cases e;exact .inl ⟨xs,rfl,rfl⟩
   |tup xs=>cases e;exact .inl ⟨xs,rfl,rfl⟩
   |kl xs=>cases e;exact .inl ⟨xs,rfl,rfl⟩
   |kt xs=>cases e;exact .inl ⟨xs,rfl,rfl⟩
   |str x=>
    replace e:(if x.length<=16777216 then aa _ else ab)=aa d:=e
    by_cases h:x.length<=16777216
    .rw[if_pos h]at e;cases e;exact .inr ⟨x,rfl,h,rfl⟩
    .rw[if_neg h]at e;nomatch e
   | _=>nomatch e
def dR:kc c X (.builtin "len") cu:=by
 rintro pins s σ H vs us Q I U ⟨Hf,ds,d,T,r,e,k⟩
 have sq:∀h xs,ds=[h]->g8 h=aa xs->d=.int xs.length->wpAny _ X.A _ _ X.xe s:=λh xs B es e0=>by
  subst B e0;obtain⟨v,z,M⟩:=r.one;subst z;obtain⟨a,ws,L,q,rs⟩:=qU es M;subst L;refine F5 pins s σ H _ us Q I U ⟨a,ws,rfl,vv T q,?_⟩;rw[<- rs.length];exact k _ Hf H (Ext.refl T) rfl
 obtain⟨h,B,⟨xs,z,L⟩ |⟨x,rfl,hl,rfl⟩⟩:=AK e
 .exact sq h xs B z L
 .subst B;obtain⟨v,z,M⟩:=r.one;subst z;exact F6 pins s σ H _ us Q I U ⟨_,by rw[show v=V.str _ from M],by rw[cG];exact hl,k _ Hf H (Ext.refl T) rfl⟩
def dS:∀ds d,cu ds=aa d->d.scalar=ac:=by
 intro ds d e
 obtain⟨h,z,⟨xs,q,rfl⟩ |⟨x,rfl,B,rfl⟩⟩:=AK e <;> rfl
abbrev gw:LD->Option (List Int)
 | []=>aa []
 |.int i::ds=>(gw ds).map λr=>i::r
 | _=>ab
def AL{G:Gc}{H:Hp}:∀{ds:LD} {ns:List Int} {vs:List V},gw ds=aa ns->ay G H ds vs->vs=ns.map V.int
 | [],_,_,e,r=>by cases e;exact r
 |.int i::ds,_,_,e,q4_=>by
  obtain⟨v,B,h,q,z⟩:=q4_;subst h
  cases es:gw ds with
  |none=>rw[gw,es]at e;cases e
  |some ns=>
   rw[gw,es]at e;cases e;rw[AL es z,show v=V.int i from q]
   rfl
 |.non::_,_,_,e,_=>by cases e
 |.bl _::_,_,_,e,_=>by cases e
 |.str _::_,_,_,e,_=>by cases e
 |.lst _::_,_,_,e,_=>by cases e
 |.tup _::_,_,_,e,_=>by cases e
 |.kl _::_,_,_,e,_=>by cases e
 |.kt _::_,_,_,e,_=>by cases e
 |.dic _ _::_,_,_,e,_=>by cases e
 |.ins _ _ _::_,_,_,e,_=>by cases e
def GO(ns:List Int):gw (ns.map D.int)=aa ns:=by
 induction ns with
 |nil=>rfl
 |cons n ns h=>rw[cY,gw,h];rfl
abbrev lB:LD->OD
 | [d]=>(lsD d).bind λds=>(gw ds).map λns=>.int ns.sum
 | _=>ab
def AM(U:X.calm=ac):kc c X (.builtin "sum") lB:=by
 rintro pins s σ H vs us Q I rv ⟨Hf,ds,d,B,r,e,k⟩;unfold lB at e;split at e
 .rename_i L
  cases h:lsD L with
  |none=>rw[h]at e;nomatch e
  |some xs=>
   cases z:gw xs with
   |none=>rw[h]at e;replace e:(gw xs).map _=_:=e;rw[z]at e;nomatch e
   |some ns=>
    rw[h]at e;replace e:(gw xs).map _=_:=e;rw[z]at e;cases e;obtain⟨v,T,r1⟩:=r.one;subst T;obtain⟨a,ws,M,q,rs⟩:=gv h r1;subst M;refine GC U pins s σ H _ us Q I rv ⟨a,ns,rfl,?_,k _ Hf H (Ext.refl B) rfl⟩;rw[<- AL z rs];exact B.seq q
 .nomatch e
def AN:∀ds d,lB ds=aa d->d.scalar=ac:=by
 intro ds d e;unfold lB at e;split at e
 .rename_i z
  cases h:lsD z with
  |none=>rw[h]at e;nomatch e
  |some xs=>
   rw[h]at e;replace e:(gw xs).map _=_:=e
   cases q:gw xs with
   |none=>rw[q]at e;nomatch e
   |some ns=>rw[q]at e;cases e;rfl
 .nomatch e
def AO{pos:Pos}{f:MF2}(hx:gU x=aa (.type "list"))(U:Gl X x)(hm:X.mg x=ab)(T:DC c X e f)(L:bi [e] X.env=(ag,eval e X.env)::bi [] X.env:=by rfl)(hn:x ≠ "__name__":=by decide)(z:NDb x:=by decide)
 (I:(fM pos (bi [] X.env)).any (·.1)=ag:=by rfl):DO c X (.Call (.Name x p) [e] [] pos) f:=
 PE.imp (qF F7 U hm hx (cs T cJ L) hn z L I) λσ H Q q_=>by
 obtain⟨Hf0,H0,Hf,ρ,ds,st,M,k⟩:=q_
 exact (
  ⟨Hf0,H0,Hf,ρ,ds,st,M,λa vs Hf' H' x q r=>⟨a,vs,rfl,q,λl B=>k l vs Hf' _ (x.trans (Ext.tmp x.s B)) (x.h.free B) (x.s.free B) bI r⟩⟩)
inductive tDG(G:Gc)(g:D->LS->Option LS)(v:V)(σ:St)(H:Hp)(Q:St->Hp->Prop):Prop
 |mk:∀Hf0 H0 Hf ρ d ρ',aG G Hf0 H0 Hf H σ ρ->Rep G Hf d v->g d ρ=aa ρ'->(∀σ',aG G Hf0 H0 Hf H σ' ρ'->Q σ' H)->tDG G g v σ H Q
inductive AQ(G:Gc)(g:LD->LS->Option LS)(vs:List V)(σ:St)(H:Hp)(Q:St->Hp->Prop):Prop
 |mk:∀Hf0 H0 Hf ρ ds ρ',aG G Hf0 H0 Hf H σ ρ->ay G Hf ds vs->g ds ρ=aa ρ'->(∀σ',aG G Hf0 H0 Hf H σ' ρ'->Q σ' H)->AQ G g vs σ H Q
structure DG(c:Str->Addr)(X:Cx)(tg:Expr)(k:Nat)(g:D->LS->Option LS):Prop where
 pg:PG X tg (tDG (Gx c X) g)
 len:∀d ρ ρ',g d ρ=aa ρ'->ρ'.length=ρ.length
 keep:∀d ρ ρ' i,g d ρ=aa ρ'->k<=i->ρ'[i]?=ρ[i]?
structure DGs(c:Str->Addr)(X:Cx)(tg:LEx)(k:Nat)(g:LD->LS->Option LS):Prop where
 pg:PGs X tg (AQ (Gx c X) g)
 len:∀d ρ ρ',g d ρ=aa ρ'->ρ'.length=ρ.length
 keep:∀d ρ ρ' i,g d ρ=aa ρ'->k<=i->ρ'[i]?=ρ[i]?
 many:∀ds ρ ρ',g ds ρ=aa ρ'->ds.length=tg.length
abbrev aB(i:Nat)(d:D)(ρ:LS):Option LS:=aa (ρ.set i (.im d))
def AR(h:PG X e (jZ i))(L:i<k):DG c X e k (aB i):=
 ⟨PG.imp h λv σ H Q B=>by obtain⟨Hf0,H0,Hf,ρ,d,ρ',st,r,z,q⟩:=B;cases z;exact q _ (st.setIm r),λd ρ ρ' h=>by cases h;simp,λd ρ ρ' j h I=>by
  cases h;rw[jt (by lia)]⟩
def bj{pos:Pos}(i k:Nat)(h:X.N.Nodup)(z:i<k:=by decide)(hi:X.N[i]?=aa x:=by rfl)(B:Loc X.env.scope x:=by first |exact cf rfl |exact bw rfl)(q:LcF X x:=by first |exact .inl rfl |exact .inr rfl):DG c X (.Name x pos) k (aB i):=
 AR (zF h hi B q) z
abbrev cz(ds:LD)(ρ:LS):Option LS:=match ds with
 | []=>aa ρ
 | _=>ab
abbrev aU(g:D->LS->Option LS)(h:LD->LS->Option LS)(ds:LD)(ρ:LS):Option LS:=match ds with
 |d::ds=>(g d ρ).bind λρ1=>h ds ρ1
 | []=>ab
def cQ:DGs c X [] k cz:=by
 refine⟨PGs.imp E1 λvs σ H Q B=>?_,λd ρ ρ' h=>?_,λd ρ ρ' i h _=>?_,λd ρ ρ' h=>?_⟩
 .obtain⟨Hf0,H0,Hf,ρ,ds,ρ',st,r,z,q⟩:=B
  cases ds with
  |nil=>cases z;exact⟨r,q _ st⟩
  |cons d ds=>nomatch z
 .cases d with
  |nil=>cases h;rfl
  |cons a b=>nomatch h
 .cases d with
  |nil=>cases h;rfl
  |cons a b=>nomatch h
 .cases d with
  |nil=>cases h;rfl
  |cons a b=>nomatch h
variable{h:LD->LS->Option LS}
def rq{g:D->LS->Option LS}(e:aU g h ds ρ=aa ρ'):∃d r ρ1,ds=d::r/\g d ρ=aa ρ1/\h r ρ1=aa ρ':=by
 cases ds with
 |nil=>nomatch e
 |cons d r=>
  replace e:(g d ρ).bind _=_:=e
  cases q:g d ρ with
  |none=>rw[q]at e;nomatch e
  |some ρ1=>rw[q]at e;exact⟨d,r,ρ1,rfl,q,e⟩
def bg{g:D->LS->Option LS}(L:DG c X e k g)(I:DGs c X es k h)(hs:(eD (e::es) X.env).map (·.2)=gE e X.env::(eD es X.env).map (·.2):=by rfl):DGs c X (e::es) k (aU g h):=by
 refine⟨PGs.imp (E2 L.pg I.pg hs) λvs σ H Q q_=>?_,λd ρ ρ' h=>?_,λd ρ ρ' i h hi=>?_,λd ρ ρ' h=>?_⟩
 .obtain⟨Hf0,H0,Hf,ρ,ds,ρ',st,r,T,q⟩:=q_;obtain⟨d,dr,ρ1,rfl,B,z⟩:=rq T;obtain⟨v,vr,U,rv,rr⟩:=r;exact⟨v,vr,U,Hf0,H0,Hf,ρ,d,ρ1,st,rv,B,λσ1 M=>⟨Hf0,H0,Hf,ρ1,dr,ρ',M,rr,z,q⟩⟩
 .obtain⟨d,dr,ρ1,rfl,B,z⟩:=rq h;rw[I.len _ _ _ z,L.len _ _ _ B]
 .obtain⟨d,dr,ρ1,rfl,B,z⟩:=rq h;rw[I.keep _ _ _ _ z hi,L.keep _ _ _ _ B hi]
 .obtain⟨d,dr,ρ1,rfl,B,z⟩:=rq h;rw[bP,bP,I.many _ _ _ z]
abbrev tpD:D->OLD
 |.tup xs=>aa xs
 |.kt xs=>aa xs
 | _=>ab
def AS(e:tpD d=aa ds)(r:Rep G H d v):∃a vs,v=.ref a/\SqT G.K H a vs/\ay G H ds vs:=by
 cases d with
 |tup xs=>cases e;obtain⟨a,vs,z,q,r⟩:=r;exact⟨a,vs,z,SqT.of q,r⟩
 |kt xs=>cases e;obtain⟨a,vs,z,q,r⟩:=r;exact⟨a,vs,z,q,r⟩
 | _=>nomatch e
abbrev cA(g:LD->LS->Option LS)(d:D)(ρ:LS):Option LS:=(tpD d).bind λds=>g ds ρ
def vJ{g:LD->LS->Option LS}(h:cA g d ρ=aa ρ'):∃ds,tpD d=aa ds/\g ds ρ=aa ρ':=by
 unfold cA at h
 cases e:tpD d with
 |none=>rw[e]at h;nomatch h
 |some ds=>rw[e]at h;exact⟨ds,rfl,h⟩
variable{kk:Nat}
def cW{pos:Pos}{g:LD->LS->Option LS}(U:X.calm=ac)(h:DGs c X es k g)(hn:(eD es X.env).length=es.length:=by rfl)(I:(eD es X.env).findIdx? (·.1)=ab:=by rfl):DG c X (.Tuple es kk pos) k (cA g):=by
 refine⟨PG.imp (E4 U h.pg hn I) λv σ H Q q_=>?_,λd ρ ρ' h'=>?_,λd ρ ρ' i h' hi=>?_⟩
 .obtain⟨Hf0,H0,Hf,ρ,d,ρ',st,r,T,q⟩:=q_;obtain⟨ds,B,z⟩:=vJ T;obtain⟨a,vs,M,qa,L⟩:=AS B r;exact⟨a,vs,M,st.sub.tup qa,by rw[<- L.length];exact h.many _ _ _ z,Hf0,H0,Hf,ρ,ds,ρ',st,L,z,q⟩
 .obtain⟨ds,B,z⟩:=vJ h';exact h.len _ _ _ z
 .obtain⟨ds,B,z⟩:=vJ h';exact h.keep _ _ _ _ z hi
abbrev lC(G:Gc)(Hf:Hp)(J:It)(ds:LD):Prop:=∀Hf' H',aM Hf Hf'->aM Hf' H'->∀i:Nat,
 (∀d,ds[i]?=aa d->J.go i H'/\∀x H2,J.yld i H' x H2->∃a9,Ext Hf' H' a9 H2/\Rep G a9 d x)/\(i=ds.length->J.stop i H')
abbrev rA(G:Gc)(Hf H:Hp)(J:It)(ds:LD):Prop:=∀Hf' H',Ext Hf H Hf' H'->∀i:Nat,
 (∀d,ds[i]?=aa d->J.go i H'/\∀x H2,J.yld i H' x H2->∃a9,Ext Hf' H' a9 H2/\Rep G a9 d x)/\(i=ds.length->J.stop i H')
def lC.toE(h:lC G Hf J ds):rA G Hf H J ds:=λHf' H' x i=>h Hf' H' x.f x.s i
inductive tDI(G:Gc)(f:MF2)(σ:St)(H:Hp)(R:It->Hp->Prop):Prop
 |mk:∀Hf0 H0 Hf ρ ds,aG G Hf0 H0 Hf H σ ρ->f ρ=aa ds->(∀J Hf' H',Ext Hf H Hf' H'->lC G Hf' J ds->R J H')->tDI G f σ H R
inductive vK(G:Gc)(f:MF2)(σ:St)(H:Hp)(R:It->Hp->Prop):Prop
 |mk:∀Hf0 H0 Hf ρ ds,aG G Hf0 H0 Hf H σ ρ->f ρ=aa ds->(∀J Hf' H',Ext Hf H Hf' H'->rA G Hf' H' J ds->R J H')->vK G f σ H R
abbrev DI(c:Str->Addr)(X:Cx)(tg iter:Expr)(f:MF2):Prop:=PI X tg iter (tDI (Gx c X) f)
abbrev DIe(c:Str->Addr)(X:Cx)(tg iter:Expr)(f:MF2):Prop:=PI X tg iter (vK (Gx c X) f)
def DI.de{f:MF2}(h:DI c X tg e f):DIe c X tg e f:=PI.imp h λσ H R z=>by
 obtain⟨Hf0,H0,Hf,ρ,ds,st,q,k⟩:=z;exact(⟨Hf0,H0,Hf,ρ,ds,st,q,λJ Hf' H' x i=>k J Hf' H' x i.toE⟩)
def GP(q:SqL G.K H l vs)(r:ay G Hf ds vs):rA G Hf H (Itl G.K l) ds:=λHf' H' B i=>by
 have z:=B.h.seq q;refine⟨λd M=>?_,λT=>⟨vs,z,by rw[<- r.length,T];exact bf _⟩⟩;obtain⟨v,I,U⟩:=r.get M;refine⟨⟨vs,v,z,I⟩,λx H2 ⟨L,y⟩=>?_⟩;subst L;have:=y vs z;rw[I]at this;cases this;exact⟨Hf',Ext.refl B.s,U.up B.f⟩
def GQ(q:SqT G.K Hf l vs)(r:ay G Hf ds vs):lC G Hf (Itt G.K l) ds:=λHf' H' f s i=>by
 have z:=(f.trans s).tup q;refine⟨λd L=>?_,λM=>⟨vs,z,by rw[<- r.length,M];exact bf _⟩⟩;obtain⟨v,B,T⟩:=r.get L;refine⟨⟨vs,v,z,B⟩,λx H2 ⟨I,y⟩=>?_⟩;subst I;have:=y vs z;rw[B]at this;cases this;exact⟨Hf',Ext.refl s,T.up f⟩
def bH{f:MF1}(h:DE c X e f):DI c X tg e (be f):=λpins s σ H R I q_=>by
 obtain⟨Hf0,H0,Hf,ρ,ds,st,z,k⟩:=q_;unfold be at z
 cases B:f ρ with
 |none=>rw[B]at z;nomatch z
 |some d=>
  rw[B]at z
  cases L:lsD d with
  |some M=>
   have:M=ds:=by cases d <;> first |(cases L;done) |(cases L;cases z;rfl)
   subst this;refine u6 h pins s σ H R I ⟨Hf0,H0,Hf,ρ,d,st,B,λv Hf' H' x r=>?_⟩;obtain⟨a,vs,U,q,rs⟩:=gv L r
   exact⟨a,U,⟨vs,x.s.seq q⟩,k _ Hf' H' x λa9 H2 f2 s2 i=>by
    have q':=(f2.trans s2).seq q;refine⟨λd ed=>?_,λei=>⟨vs,q',by rw[<- rs.length,ei];exact bf _⟩⟩;obtain⟨v,ev,rv⟩:=rs.get ed;refine⟨⟨vs,v,q',ev⟩,λx H3 ⟨T,y⟩=>?_⟩;subst T;have:=y vs q';rw[ev]at this;cases this
    exact⟨a9,Ext.refl s2,rv.up f2⟩⟩
  |none=>
   have T:tpD d=aa ds:=by cases d <;> first |(cases L;done) |(cases z;done) |(cases z;rfl)
   refine Fc h pins s σ H R I ⟨Hf0,H0,Hf,ρ,d,st,B,λv Hf' H' x r=>?_⟩;obtain⟨a,vs,U,q,rs⟩:=AS T r;exact⟨a,U,⟨vs,x.s.tup q⟩,k _ Hf' H' x (GQ q rs)⟩
def GR(h:PE X e (eG i)):DIe c X tg e (am i):=λpins s σ H R I L=>by
 obtain⟨Hf0,H0,Hf,ρ,ds,st,z,k⟩:=L
 cases es:ρ[i]? with
 |none=>unfold am at z;rw[es]at z;nomatch z
 |some sl=>
  cases sl with
  |im d=>
   refine DI.de (bH (vw h)) pins s σ H R I ⟨Hf0,H0,Hf,ρ,ds,st,?_,k⟩;unfold am at z;rw[es]at z;unfold be ae;rw[es]
   exact z
  |own xs=>
   unfold am at z;rw[es]at z;cases z;obtain⟨l,B,_,_,vs,q,r⟩:=st.ownAt rfl es
   exact u6 h pins s σ H R I ⟨_,B,l,rfl,⟨vs,SqL.of q⟩,k _ Hf H (Ext.refl st.sub) (GP (SqL.of q) r)⟩
  | _=>unfold am at z;rw[es]at z;nomatch z
def AT{pos:Pos}(i:Nat)(z:X.N[i]?=aa x:=by rfl)(B:Vis X.env.scope x:=by first |exact cf rfl |exact bw (cf rfl) |exact bw (bw rfl))(hd:NDb x:=by decide)
 (q:NCd x:=by decide):DIe c X tg (.Name x pos) (am i):=GR (jz z B hd q)
abbrev rng(lo:Int)(n:Nat):LD:=(ci n).map λ(i:Nat)=>.int (lo+i)
def AU{lo:Int}:lC G Hf (Itr lo n) (rng lo n):=λHf' H' f s i=>by
 refine⟨λd q=>?_,λz=>?_⟩
 .unfold rng at q;rw[d7]at q
  cases e:(ci n)[i]? with
  |none=>rw[e]at q;nomatch q
  |some j=>
   rw[e]at q;obtain⟨hi,B⟩:=eQ.mp e;rw[dP]at hi;rw[List.getElem_range]at B;subst B;cases q;exact⟨hi,λx H2 ⟨I,y⟩=>by subst I;exact⟨Hf',Ext.refl s,y⟩⟩
 .unfold rng at z;rw[av,dP]at z;exact Nat.le_of_eq z.symm
abbrev kf:LD->OLD
 | [.int j]=>if -(2 ^ 62)<=j/\j<2 ^ 62 then aa (rng 0 j.toNat) else ab
 | [.int i,.int j]=>if -(2 ^ 62)<=i/\i<2 ^ 62/\-(2 ^ 62)<=j/\j<2 ^ 62 then aa (rng i (j-i).toNat) else ab
 | _=>ab
abbrev gL(f:MF2)(ρ:LS):OLD:=(f ρ).bind kf
def oH{pos:Pos}{f:MF2}(T:Gl X "range")(hm:X.mg "range"=ab)(I:DA c X [a] f)(hs:bi [a] X.env=[(ag,eval a X.env)]:=by rfl):DI c X tg (.Call (.Name "range" p) [a] [] pos) (gL f):=
 PI.imp (zI T hm I.pa hs) λσ H R q_=>by
  obtain⟨Hf0,H0,Hf,ρ,ds,st,q,k⟩:=q_;unfold gL at q
  cases z:f ρ with
  |none=>rw[z]at q;nomatch q
  |some B=>
   rw[z]at q;replace q:kf B=aa ds:=q;have U:=I.len ρ B z;refine⟨Hf0,H0,Hf,ρ,B,st,z,λvs Hf' H' x r=>?_⟩;unfold kf at q;split at q
   .split at q
    .rename_i j L;cases q;obtain⟨v,M,rv⟩:=r.one;cases (rv);exact⟨j,M,L.1,L.2,k _ Hf' H' x AU⟩
    .nomatch q
   .nomatch U
   .nomatch q
abbrev cX(k:Nat)(js:LN)(ρ:LS):LS:=fV k .no++js.map λj=>(ρ[j]?).getD .no
def aG.weak(h:aG G Hf0 H0 Hf H σ ρ)(z:ρ'.length=ρ.length)(q:∀(i:Nat) (s:Sl),ρ'[i]?=aa s->s=.no\/ρ[i]?=aa s):aG G Hf0 H0 Hf H σ ρ':=by
 refine h.re h.ext z (λi v s a b=>?_) λi s v a b c p=>?_
 .rcases q i s b with e |e
  .subst e;trivial
  .exact h.at' i v s a e
 .rcases q i s b with e |e
  .subst e;exact(p.calm rfl).elim
  .exact⟨s,e,p⟩
def kg{q:Type}{x:q}{l:List q}{y:q}(h:(fV k x++l)[i]?=aa y):(i<k/\y=x)\/(k<=i/\l[i-k]?=aa y):=by
 by_cases hi:i<k
 .left;rw[kR (by simpa using hi),uB,if_pos hi]at h;exact⟨hi,(cj h).symm⟩
 .right;rw[iT (by simpa using p7 hi),kW]at h;exact⟨p7 hi,h⟩
def lD{q z:Type}{f:q->z}{l:List q}{y:z}(h:(l.map f)[i]?=aa y):∃x,l[i]?=aa x/\y=f x:=by
 rw[d7]at h
 cases e:l[i]? with
 |none=>rw[e]at h;nomatch h
 |some x=>rw[e]at h;exact⟨x,rfl,(cj h).symm⟩
def GS(h:js.Nodup){x:Nat}(a:js[i]?=aa x)(b:js[j]?=aa x):i=j:=by
 obtain⟨B,q⟩:=eQ.mp a;obtain⟨I,z⟩:=eQ.mp b;exact(List.getElem_inj h).mp (q.trans z.symm)
def aG.comp(k:Nat)(h:aG G Hf0 H0 Hf H σ ρ)(hj:js.Nodup):aG G Hf0 H0 Hf H (gr k js σ) (cX k js ρ):=by
 have own:∀i s,(cX k js ρ)[i]?=aa s->s.calm=ag->∃j,k<=i/\js[i-k]?=aa j/\ρ[j]?=aa s:=λi s a T=>by
  rcases kg a with⟨_,e⟩ |⟨hi,a⟩
  .subst e;nomatch T
  .obtain⟨j,B,es⟩:=lD a
   cases e:ρ[j]? with
   |none=>rw[e]at es;subst es;nomatch T
   |some t=>rw[e]at es;replace es:s=t:=es;subst es;exact⟨j,hi,B,e⟩
 have val:∀i v j,(gr k js σ)[i]?=aa v->k<=i->js[i-k]?=aa j->v=(σ[j]?).getD ab:=λi v j a hi B=>by
  rcases kg a with⟨hi',_⟩ |⟨_,a⟩
  .omega
  .obtain⟨j',I,es⟩:=lD a;rw[B]at I;cases I;exact es
 refine⟨h.ext,by simp[gr,cX],λi v s a b=>?_,λi j s t y z l a b c d p q=>?_⟩
 .rcases kg b with⟨_,e⟩ |⟨hi,b⟩
  .subst e;trivial
  .obtain⟨j,B,es⟩:=lD b;have ev:=val i v j a hi B
   cases e:ρ[j]? with
   |none=>rw[e]at es;subst es;trivial
   |some t=>
    rw[e]at es;subst es;obtain⟨u,eu,q⟩:=h.slot e;rw[eu]at ev;subst ev;exact q
 .have T:s.calm=ag:=by
   cases U:s.calm with
   |true=>exact(p.calm U).elim
   |false=>rfl
  have ht:t.calm=ag:=by
   cases U:t.calm with
   |true=>exact(q.calm U).elim
   |false=>rfl
  obtain⟨i',hi,ei,e1⟩:=own i s a T;obtain⟨j',hj',B,e2⟩:=own j t b ht;have v1:=val i _ i' c hi ei;have v2:=val j _ j' d hj' B;obtain⟨u1,L,_⟩:=h.slot e1;obtain⟨u2,M,_⟩:=h.slot e2;rw[L]at v1;rw[M]at v2;subst v1 v2;have:=h.dj i' j' s t y z l e1 e2 L M p q;subst this;have:=GS hj ei B;lia
abbrev gM(h:D->Option OD):LD->OLD
 | []=>aa []
 |d::ds=>(h d).bind λo=>(gM h ds).map λr=>match o with
  |some y=>y::r
  |none=>r
def GT{h:D->Option OD}{r:LD}(e:gM h (d::ds)=aa r):∃o q,h d=aa o/\gM h ds=aa q/\r=(match o with |some y=>y::q |none=>q):=by
 unfold gM at e
 cases z:h d with
 |none=>rw[z]at e;nomatch e
 |some o=>
  cases B:gM h ds with
  |none=>rw[z,B]at e;nomatch e
  |some q=>
   rw[z,B]at e;cases e;refine⟨o,q,rfl,rfl,?_⟩
   cases o <;> rfl
abbrev kh(g:D->LS->Option LS)(z:MF4)(q:MF1)(ρ:LS)(d:D):Option OD:=(g d ρ).bind λρ1=>(z ρ1).bind λb=>if b then (q ρ1).map aa else aa ab
abbrev bv(k:Nat)(js:LN)(z:MF2)(g:D->LS->Option LS)(B:MF4)(q:MF1)(ρ:LS):OLD:=
 (z ρ).bind λds=>if ds.length<=16777216 then gM (kh g B q (cX k js ρ)) ds else ab
def oI{q:Type}{l:List q}(h:i<l.length):∃x,l[i]?=aa x/\l.drop i=x::l.drop (i+1):=⟨l[i],by simp[h],(pY h)⟩
abbrev DTs(c:Str->Addr)(X:Cx)(dd:LEx)(f:MF4):Prop:=PTs X dd (tDT (Gx c X) f)
def df:DTs c X [] kY:=PTs.imp GA λσ H Q z=>by
 obtain⟨Hf0,H0,Hf,ρ,b,st,q,k⟩:=z;exact(by cases q;exact k Hf H (Ext.refl st.sub))
def rB{f:MF4}(h:DT c X e f):DTs c X [e] f:=Aq h
variable{g:D->LS->Option LS}{ft:MF4}{fe:MF1}{rs:LD}
def GU(hj:js.Nodup)(hk:∀d ρ ρ' i,g d ρ=aa ρ'->k<=i->ρ'[i]?=ρ[i]?)(kT:∀d ρ ρ',g d ρ=aa ρ'->ρ'.length=ρ.length){ti:TI}(st:aG G Hf0 H0 Hf H σ ρ)
 (hti:∀R:It->Hp->Prop,(∀J al H1,Ext Hf H al H1->rA G al H1 J ds->R J H1)->ti σ H R)(hz:ds.length<=16777216)(ef:gM (kh g ft fe (cX k js ρ)) ds=aa rs)
 (kq:∀l vs Hf' H',Ext Hf H Hf' H'->H l=ab->Hf' l=ab->H' l=aa (.lst vs)->ay G Hf' rs vs->Q (.ref l) H'):mH k js ti (tDG G g) (tDT G ft) (tD G fe) σ H Q:=by
 refine hti _ λJ al H1 x1 it=>?_
 refine⟨λi m ys σ' H'=>m=ds.length-i/\i<=ds.length/\∃Hf' I bE,Ext al H1 Hf' H'/\aG G Hf0 H0 Hf' H' σ' _/\ay G Hf' I ys/\gM _ (ds.drop i)=aa bE/\rs=I++bE/\I.length<=i,
  ⟨ds.length,rfl,iw _,al,[],rs,Ext.refl x1.s,(st.step x1).comp k hj,rfl,ef,rfl,bf _⟩,?_⟩
 rintro i m ys σ' H' ⟨rfl,hi,Hf',I,bE,x2,st2,ra,ec,er,hal⟩;have hys:ys.length<=aW:=by rw[cG,<- ra.length];lia
 obtain⟨l9,it2⟩:=it Hf' H' x2 i
 by_cases M:i<ds.length
 .obtain⟨d,ed,edr⟩:=oI M;obtain⟨go,yl⟩:=l9 d ed
  refine .inr ⟨go,hys,λys' hF H2=>ds.length-_=ds.length-_/\i+1<=ds.length/\∃Hf' I bE,Ext al H1 Hf' H2/\aG G Hf0 H0 Hf' H2 hF _/\ay G Hf' I ys'/\gM _ _=aa bE/\rs=I++bE/\I.length<=i+1,
   λys' hF H2 w=>⟨ds.length-(i+1),by lia,w⟩,λx H2 y=>?_⟩
  obtain⟨a9,x3,rx⟩:=yl x H2 y;rw[edr]at ec;obtain⟨o,r',q,U,B⟩:=GT ec;unfold kh at q
  cases eg:g d _ with
  |none=>rw[eg]at q;nomatch q
  |some ρ1=>
   rw[eg]at q;replace q:(ft ρ1).bind _=_:=q
   cases et:ft ρ1 with
   |none=>rw[et]at q;nomatch q
   |some b=>
    rw[et]at q;refine⟨Hf0,H0,a9,cX k js ρ,d,ρ1,st2.step x3,rx,eg,λip L=>⟨Hf0,H0,a9,ρ1,b,L,et,λT H4 x4=>?_⟩⟩
    have back:∀{z H5:Hp},aG G Hf0 H0 z H5 ip ρ1->aG G Hf0 H0 z H5 ip _:=λ{z H5} s5=>s5.weak (kT _ _ _ eg).symm λj s hs=>by
     rcases kg hs with⟨_,e⟩ |⟨hj',_⟩
     .exact .inl e
     .exact .inr (by rw[hk _ _ _ _ eg hj'];exact hs)
    cases b with
    |true=>
     cases ee:fe ρ1 with
     |none=>rw[ee]at q;nomatch q
     |some y'=>
      rw[ee]at q;cases q;refine⟨Hf0,H0,T,ρ1,y',L.step x4,ee,λv z H5 x5 r5=>?_⟩;have x:=(x3.trans x4).trans x5;refine⟨rfl,M,z,I++[y'],r',x2.trans x,back ((L.step x4).step x5),(ra.up x.f).append (.cons r5 .nil),U,?_,by rw[aJ,eZ];lia⟩;rw[er,B,gm]
      rfl
    |false=>
     cases q;have x:=x3.trans x4;exact⟨rfl,M,T,I,r',x2.trans x,back (L.step x4),ra.up x.f,U,by rw[er,B],by lia⟩
 .have ei:i=ds.length:=by lia
  subst ei;refine .inl ⟨it2 rfl,hys,λl h1 h2=>?_⟩;rw[nI (bf _)]at ec;cases ec;rw[eB]at er;subst er;have x:=x1.trans x2;exact kq l ys Hf' _ (x.trans (Ext.tmp x.s h2)) (x.h.free h2) (x.s.free h2) bI ra
variable{fi:MF2}
def vL(L:js.Nodup)(M:∀d ρ ρ' i,g d ρ=aa ρ'->k<=i->ρ'[i]?=ρ[i]?)(B:∀d ρ ρ',g d ρ=aa ρ'->ρ'.length=ρ.length)(h:tDO G (bv k js fi g ft fe) σ H Q):
  mH k js (vK G fi) (tDG G g) (tDT G ft) (tD G fe) σ H Q:=by
 obtain⟨Hf0,H0,Hf,ρ,rs,st,z,T⟩:=h;unfold bv at z
 cases I:fi ρ with
 |none=>rw[I]at z;nomatch z
 |some ds=>
  rw[I]at z;replace z:(if ds.length<=16777216 then gM _ ds else ab)=aa rs:=z
  by_cases hz:ds.length<=16777216
  .rw[if_pos hz]at z;exact GU L M B st (λR q=>⟨Hf0,H0,Hf,ρ,ds,st,I,λJ al H1 U it=>q J al H1 U it⟩) hz z T
  .rw[if_neg hz]at z
   nomatch z
def e8{pos:Pos}(k:Nat)(js:LN)(Nc:LSt)(B:X.calm=ac)(hi:DIe c X tg iter fi)(q:∀cl C ex a0 a8,DG c (X.comp scope Nc cl C ex a0 a8) tg k g)(T:∀cl C ex a0 a8,DTs c (X.comp scope Nc cl C ex a0 a8) dd ft)
 (I:∀cl C ex a0 a8,DE c (X.comp scope Nc cl C ex a0 a8) c0 fe)(z:iZ scope X.env.scope.names X.N Nc k js=ac:=by rfl)(M:∀x,iy iter X.env x=pure x:=by intro _;rfl)(L:js.Nodup:=by decide):
  DO c X (.ListComp c0 [⟨tg,iter,dd,0⟩] scope pos) (bv k js fi g ft fe):=
 PE.imp (Aw (tt:=tDT (Gx c X) ft) (te:=tD (Gx c X) fe) k js Nc B hi (λcl C ex a0 a8=>(q cl C ex a0 a8).pg) T I z M) λσ H Q h=>
  vL L (q [] 0 [] X.s₀ X.H₀).keep (q [] 0 [] X.s₀ X.H₀).len h
def dvc(i:Nat){pos:Pos}(z:Nc[i]?=aa x:=by rfl)(B:Vis scope x:=by first |exact cf rfl |exact bw (cf rfl) |exact bw (bw rfl))(hd:NDb x:=by decide)
 (q:NCd x:=by decide):DE c (X.comp scope Nc cl C ex a0 a8) (.Name x pos) (ae i):=vw (pvc i z B hd q)
def i6(i:Nat){pos:Pos}(z:Nc[i]?=aa x:=by rfl)(B:Vis scope x:=by first |exact cf rfl |exact bw (cf rfl) |exact bw (bw rfl))(hd:NDb x:=by decide)
 (q:NCd x:=by decide):DC c (X.comp scope Nc cl C ex a0 a8) (.Name x pos) (am i):=AA (pvc i z B hd q)
def dgc(i k:Nat){pos:Pos}(z:i<k:=by decide)(q:Nc.Nodup:=by decide +kernel)(hi:Nc[i]?=aa x:=by rfl)(B:scope.names.lookup x=aa .local:=by rfl):DG c (X.comp scope Nc cl C ex a0 a8) (.Name x pos) k (aB i):=
 AR (pgc i q hi B) z
inductive Fl where
 |nx (ρ:LS)
 |bk (ρ:LS)
 |ct (ρ:LS)
 |rt (d:D)
 |rtO (ds:LD)
 |rtS (d:D) (ρ:LS)
 |rtT (o:O)
nonrec abbrev MF3:=LS->Option Fl
abbrev rC(G:Gc)(Hf0 H0 Hf:Hp)(E:iX):Fl->Prop
 |.nx ρ'=>∀σ' Hf' H',aM Hf Hf'->aG G Hf0 H0 Hf' H' σ' ρ'->E.nx σ' H'
 |.bk ρ'=>∀σ' Hf' H',aM Hf Hf'->aG G Hf0 H0 Hf' H' σ' ρ'->E.bk σ' H'
 |.ct ρ'=>∀σ' Hf' H',aM Hf Hf'->aG G Hf0 H0 Hf' H' σ' ρ'->E.ct σ' H'
 |.rt d=>∀v Hf' H',Ext Hf0 H0 Hf' H'->Rep G Hf' d v->E.rt v H'
 |.rtO ds=>∀l vs Hf' H',Ext Hf0 H0 Hf' H'->H0 l=ab->Hf' l=ab->H' l=aa (.lst vs)->ay G Hf' ds vs->E.rt (.ref l) H'
 |.rtS d ρ=>∀v σ' Hf' H',aG G Hf0 H0 Hf' H' σ' ρ->Rep G Hf' d v->E.rt v H'
 |.rtT o=>∀u fp Hf' H',Ext Hf0 H0 Hf' H'->OT G Hf' H' o u fp->fp.Nodup->(∀a∈fp,H0 a=ab/\Hf' a=ab)->E.rt u H'
inductive tDS(G:Gc)(F:MF3)(E:iX)(σ:St)(H:Hp):Prop
 |mk:∀Hf0 H0 Hf ρ o,aG G Hf0 H0 Hf H σ ρ->F ρ=aa o->rC G Hf0 H0 Hf E o->tDS G F E σ H
abbrev DS(c:Str->Addr)(X:Cx)(st:Stmt)(F:MF3):Prop:=PS X st (tDS (Gx c X) F)
abbrev DSs(c:Str->Addr)(X:Cx)(st:List Stmt)(F:MF3):Prop:=PSs X st (tDS (Gx c X) F)
abbrev bU(ρ:LS):Option Fl:=aa (.nx ρ)
abbrev aq(F q:MF3)(ρ:LS):Option Fl:=(F ρ).bind λo=>match o with
 |.nx ρ'=>q ρ'
 |o=>aa o
abbrev bK(t:MF4)(F q:MF3)(ρ:LS):Option Fl:=(t ρ).bind λb=>if b then F ρ else q ρ
abbrev bO(i:Nat)(f:MF1)(ρ:LS):Option Fl:=(f ρ).map λd=>.nx (ρ.set i (.im d))
abbrev du(i:Nat)(f:MF2)(ρ:LS):Option Fl:=(f ρ).map λd=>.nx (ρ.set i (.own d))
abbrev bR(f:MF1)(ρ:LS):Option Fl:=(f ρ).map .rt
abbrev lE(f:MF2)(ρ:LS):Option Fl:=(f ρ).map .rtO
abbrev eV(i:Nat)(ρ:LS):Option Fl:=match ρ[i]? with
 |some (.im d)=>aa (.rt d)
 |some (.own xs)=>aa (.rtO xs)
 | _=>ab
abbrev fI(f:MF1)(ρ:LS):Option Fl:=(f ρ).map λ_=>.nx ρ
abbrev hJ(g:D->LS->Option LS)(F:MF3):LD->MF3
 | [],ρ=>aa (.nx ρ)
 |d::ds,ρ=>(g d ρ).bind λρ1=>(F ρ1).bind λo=>match o with
  |.nx q=>hJ g F ds q
  |.ct q=>hJ g F ds q
  |.bk q=>aa (.nx q)
  |.rt d=>aa (.rt d)
  |.rtO d=>aa (.rtO d)
  |.rtS d q=>aa (.rtS d q)
  |.rtT o=>aa (.rtT o)
abbrev cC(fi:MF2)(g:D->LS->Option LS)(F:MF3)(ρ:LS):Option Fl:=(fi ρ).bind λds=>hJ g F ds ρ
abbrev vM(i:Nat)(ρ:LS):LS:=match ρ[i]? with
 |some (.own xs)=>ρ.set i (.im (.lst xs))
 |some (.ownd ks xs)=>ρ.set i (.im (.dic ks xs))
 |some (.obj c ns xs)=>ρ.set i (.im (.ins c ns xs))
 | _=>ρ
abbrev fb(i:Nat)(F:MF3)(ρ:LS):Option Fl:=F (vM i ρ)
abbrev gc(i:Nat)(f:MF1)(ρ:LS):Option Fl:=(f ρ).bind λd=>match ρ[i]? with
 |some (.own xs)=>if xs.length<16777216 then aa (.nx (ρ.set i (.own (xs++[d])))) else ab
 | _=>ab
abbrev i7(f:MF1)(ρ:LS):OLD:=(f ρ).bind λd=>match d with
 |.lst xs=>aa xs
 | _=>ab
abbrev i8(i:Nat)(f:MF2)(ρ:LS):Option Fl:=(f ρ).bind λds=>match ρ[i]? with
 |some (.own xs)=>if xs.length+ds.length<=16777216 then aa (.nx (ρ.set i (.own (xs++ds)))) else ab
 | _=>ab
def cb:DSs c X [] bU:=PSs.imp ET λE σ H z=>by
 obtain⟨Hf0,H0,Hf,ρ,o,B,q,k⟩:=z;exact(by cases q;exact k σ Hf H (aM.refl _) B)
def rC.up{E:iX}{o:Fl}(h:rC G Hf0 H0 Hf E o)(s:aM Hf Hf'):rC G Hf0 H0 Hf' E o:=by
 cases o with
 |nx ρ=>exact λσ' a9 H2 s2 q=>h σ' a9 H2 (s.trans s2) q
 |bk ρ=>exact λσ' a9 H2 s2 q=>h σ' a9 H2 (s.trans s2) q
 |ct ρ=>exact λσ' a9 H2 s2 q=>h σ' a9 H2 (s.trans s2) q
 |rt d=>exact h
 |rtO d=>exact h
 |rtS d ρ=>exact h
 |rtT o=>exact h
variable{st:Stmt}{sts:List Stmt}{F F':MF3}
def au(L:DS c X st F)(M:DSs c X sts F'):DSs c X (st::sts) (aq F F'):=PSs.imp (EU L M) λE σ H T=>by
 obtain⟨Hf0,H0,Hf,ρ,o,U,q,k⟩:=T;unfold aq at q
 cases z:F ρ with
 |none=>rw[z]at q;nomatch q
 |some I=>
  rw[z]at q;refine⟨Hf0,H0,Hf,ρ,I,U,z,?_⟩
  cases I with
  |nx ρ1=>exact λσ1 al H1 s1 B=>⟨Hf0,H0,al,ρ1,o,B,q,k.up s1⟩
  |bk ρ1=>cases q;exact k
  |ct ρ1=>cases q;exact k
  |rt d=>cases q;exact k
  |rtO d=>cases q;exact k
  |rtS d ρ1=>cases q;exact k
  |rtT o'=>cases q;exact k
def aA(q:DS c X st F):DSs c X [st] F:=EV q
variable{a b:List Stmt}
def bZ{pos:Pos}(T:DT c X cd t)(L:DSs c X a F)(M:DSs c X b F'):DS c X (.If cd a b pos) (bK t F F'):=PS.imp (zD T L M) λE σ H U=>by
 obtain⟨Hf0,H0,Hf,ρ,o,I,q,k⟩:=U;unfold bK at q
 cases B:t ρ with
 |none=>rw[B]at q;nomatch q
 |some x=>
  rw[B]at q;refine⟨Hf0,H0,Hf,ρ,x,I,B,λal H1 z=>?_⟩
  cases x with
  |true=>rw[if_pos rfl];exact⟨Hf0,H0,al,ρ,o,I.step z,q,k.up z.f⟩
  |false=>rw[if_neg bS];exact⟨Hf0,H0,al,ρ,o,I.step z,q,k.up z.f⟩
def AV{f:MF1}(hp:PS X st (j0 te (jZ i)))(hi:∀σ H Q,tD (Gx c X) f σ H Q->te σ H Q):DS c X st (bO i f):=PS.imp hp λE σ H I=>by
 obtain⟨Hf0,H0,Hf,ρ,o,B,q,k⟩:=I;unfold bO at q
 cases z:f ρ with
 |none=>rw[z]at q;nomatch q
 |some d=>
  rw[z]at q;cases q;exact hi _ _ _ ⟨Hf0,H0,Hf,ρ,d,B,z,λv Hf' H' x r=>k _ Hf' H' x.f ((B.step x).setIm r)⟩
def AW{f:MF2}(hp:PS X st (j0 te (jZ i)))(hi:∀σ H Q,tDO (Gx c X) f σ H Q->te σ H Q):DS c X st (du i f):=PS.imp hp λE σ H T=>by
 obtain⟨Hf0,H0,Hf,ρ,o,B,q,k⟩:=T;unfold du at q
 cases z:f ρ with
 |none=>rw[z]at q;nomatch q
 |some d=>
  rw[z]at q;cases q;exact hi _ _ _ ⟨Hf0,H0,Hf,ρ,d,B,z,λl vs Hf' H' x M I L r=>k _ Hf' H' x.f (B.setOwn rfl x M I ⟨vs,L,r⟩)⟩
def cR{pos:Pos}(i:Nat){f:MF1}(q:X.N.Nodup)(z:DE c X e f)(hi:X.N[i]?=aa x:=by rfl)(L:Loc X.env.scope x:=by first |exact cf rfl |exact bw rfl)(I:fF e (aa (.Name x b0)) pos.line X.env=pure ag:=by rfl)(B:LcF X x:=by first |exact .inl rfl |exact .inr rfl):
  DS c X (.Assign [.Name x b0] e pos) (bO i f):=AV (mC q hi L z I B) λ_ _ _ h=>h
def fP{pos:Pos}(i:Nat){f:MF2}(q:X.N.Nodup)(z:DO c X e f)(hi:X.N[i]?=aa x:=by rfl)(L:Loc X.env.scope x:=by first |exact cf rfl |exact bw rfl)(I:fF e (aa (.Name x b0)) pos.line X.env=pure ag:=by rfl)(B:LcF X x:=by first |exact .inl rfl |exact .inr rfl):
  DS c X (.Assign [.Name x b0] e pos) (du i f):=AW (mC q hi L z I B) λ_ _ _ h=>h
def GV{f:MF2}(h:tD G (aT f) σ H Q):tDO G f σ H Q:=by
 obtain⟨Hf0,H0,Hf,ρ,d,st,q,k⟩:=h;unfold aT at q
 cases z:f ρ with
 |none=>rw[z]at q;nomatch q
 |some ds=>
  rw[z]at q;have q:=cj q;subst q;exact⟨Hf0,H0,Hf,ρ,ds,st,z,λl vs Hf' H' x L B I r=>k _ _ H' (x.fix L B I) ⟨l,vs,rfl,bI,r.up (cB B)⟩⟩
def rE{pos:Pos}(i:Nat)(k:Nat)(js:LN)(Nc:LSt)(L:X.N.Nodup)(M:X.calm=ac)(hi:DIe c X tg iter fi)
 (q:∀cl C ex a0 a8,DG c (X.comp scope Nc cl C ex a0 a8) tg k g)(ht:∀cl C ex a0 a8,DTs c (X.comp scope Nc cl C ex a0 a8) dd ft)(T:∀cl C ex a0 a8,DE c (X.comp scope Nc cl C ex a0 a8) c0 fe)
 (z:X.N[i]?=aa x:=by rfl)(hx:Loc X.env.scope x:=by first |exact cf rfl |exact bw rfl)
 (B:fF (.ListComp c0 [⟨tg,iter,dd,0⟩] scope pos) (aa (.Name x b0)) cc.line X.env=pure ac:=by rfl)
 (I:iZ scope X.env.scope.names X.N Nc k js=ac:=by rfl)(hs:∀x,iy iter X.env x=pure x:=by intro _;rfl)(hj:js.Nodup:=by decide)
 (U:LcF X x:=by first |exact .inl rfl |exact .inr rfl):
  DS c X (.Assign [.Name x b0] (.ListComp c0 [⟨tg,iter,dd,0⟩] scope pos) cc) (du i (bv k js fi g ft fe)):=
 AW (qS (tt:=tDT (Gx c X) ft) (te:=tD (Gx c X) fe) k js Nc L z hx M hi (λcl C ex a0 a8=>(q cl C ex a0 a8).pg) ht T B I hs U) λσ H Q h=>vL hj (q [] 0 [] X.s₀ X.H₀).keep (q [] 0 [] X.s₀ X.H₀).len h
def lF{pos:Pos}(i:Nat)(k:Nat)(js:LN)(Nc:LSt)(L:X.N.Nodup)(M:X.calm=ac)(hi:DIe c X tg iter fi)
 (q:∀cl C ex a0 a8,DG c (X.comp scope Nc cl C ex a0 a8) tg k g)(ht:∀cl C ex a0 a8,DTs c (X.comp scope Nc cl C ex a0 a8) dd ft)(T:∀cl C ex a0 a8,DE c (X.comp scope Nc cl C ex a0 a8) c0 fe)
 (z:X.N[i]?=aa x:=by rfl)(hx:Loc X.env.scope x:=by first |exact cf rfl |exact bw rfl)
 (B:fF (.ListComp c0 [⟨tg,iter,dd,0⟩] scope pos) (aa (.Name x b0)) cc.line X.env=pure ac:=by rfl)
 (I:iZ scope X.env.scope.names X.N Nc k js=ac:=by rfl)(hs:∀x,iy iter X.env x=pure x:=by intro _;rfl)(hj:js.Nodup:=by decide)
 (U:LcF X x:=by first |exact .inl rfl |exact .inr rfl):
  DS c X (.Assign [.Name x b0] (.ListComp c0 [⟨tg,iter,dd,0⟩] scope pos) cc) (bO i (aT (bv k js fi g ft fe))):=
 AV (qS (tt:=tDT (Gx c X) ft) (te:=tD (Gx c X) fe) k js Nc L z hx M hi (λcl C ex a0 a8=>(q cl C ex a0 a8).pg) ht T B I hs U) λσ H Q h=>vL hj (q [] 0 [] X.s₀ X.H₀).keep (q [] 0 [] X.s₀ X.H₀).len (GV h)
def cn{pos:Pos}{f:MF1}(I:DE c X e f):DS c X (.Return (aa e) pos) (bR f):=PS.imp (nW I) λE σ H L=>by
 obtain⟨Hf0,H0,Hf,ρ,o,B,q,k⟩:=L;unfold bR at q
 cases z:f ρ with
 |none=>rw[z]at q;nomatch q
 |some d=>
  rw[z]at q;cases q;exact⟨Hf0,H0,Hf,ρ,d,B,z,λv Hf' H' x r=>k v Hf' H' (B.ext.trans x) r⟩
abbrev fJ(f:MF1)(ρ:LS):Option Fl:=(f ρ).map λd=>.rtS d ρ
def hU{pos:Pos}{f:MF1}(I:DE c X e f):DS c X (.Return (aa e) pos) (fJ f):=PS.imp (nW I) λE σ H L=>by
 obtain⟨Hf0,H0,Hf,ρ,o,B,q,k⟩:=L;unfold fJ at q
 cases z:f ρ with
 |none=>rw[z]at q;nomatch q
 |some d=>
  rw[z]at q;cases q;exact⟨Hf0,H0,Hf,ρ,d,B,z,λv Hf' H' x r=>k v σ Hf' H' (B.step x) r⟩
def vN{pos:Pos}{f:MF2}(I:DO c X e f):DS c X (.Return (aa e) pos) (lE f):=PS.imp (nW I) λE σ H U=>by
 obtain⟨Hf0,H0,Hf,ρ,o,B,q,k⟩:=U;unfold lE at q
 cases z:f ρ with
 |none=>rw[z]at q;nomatch q
 |some d=>
  rw[z]at q;cases q;exact⟨Hf0,H0,Hf,ρ,d,B,z,λl vs Hf' H' x T L M r=>k l vs Hf' H' (B.ext.trans x) (B.ext.h.free T) L M r⟩
def GW{pos:Pos}(M:PE X e (eG i)):DS c X (.Return (aa e) pos) (eV i):=PS.imp (nW M) λE σ H U=>by
 obtain⟨Hf0,H0,Hf,ρ,o,B,z,k⟩:=U;unfold eV at z
 cases es:ρ[i]? with
 |none=>rw[es]at z;nomatch z
 |some s=>
  rw[es]at z
  cases s with
  |im d=>
   cases z;obtain⟨v,I,r⟩:=B.imm es
   exact⟨_,I,k v Hf H B.ext r⟩
  |own xs=>
   cases z;obtain⟨l,I,L,T,vs,q,r⟩:=B.ownAt rfl es
   exact⟨_,I,k l vs Hf H B.ext L T q r⟩
  | _=>nomatch z
def gN{pos:Pos}(i:Nat)(z:X.N[i]?=aa x:=by rfl)(B:Vis X.env.scope x:=by first |exact cf rfl |exact bw (cf rfl) |exact bw (bw rfl))(hd:NDb x:=by decide)
 (q:NCd x:=by decide):DS c X (.Return (aa (.Name x p)) pos) (eV i):=GW (jz z B hd q)
def i9{pos:Pos}{f:MF1}(I:DE c X e f)(L:fF e ab pos.line X.env=pure ag:=by rfl):DS c X (.Expr e pos) (fI f):=PS.imp (dJ I L) λE σ H M=>by
 obtain⟨Hf0,H0,Hf,ρ,o,B,q,k⟩:=M;unfold fI at q
 cases z:f ρ with
 |none=>rw[z]at q;nomatch q
 |some d=>
  rw[z]at q;cases q;exact⟨Hf0,H0,Hf,ρ,d,B,z,λv Hf' H' x r=>k σ Hf' H' x.f (B.step x)⟩
def c6{pos:Pos}(hp:PassesOwn (model X.prog X.w) X.A X.env X.xe)(hc:X.calm=ac)(hi:DI c X tg iter fi)(hg:DG c X tg kk g)(hb:DSs c X a F)(hs:∀x,iy iter X.env x=pure x:=by intro _;rfl):
  DS c X (.For tg iter a [] pos) (cC fi g F):=PS.imp (zJ hp hc hi hg.pg hb hs) λE σ H q_=>by
 obtain⟨Hf0,H0,Hf,ρ,o,so,T,k⟩:=q_;unfold cC at T
 cases e1:fi ρ with
 |none=>rw[e1]at T;nomatch T
 |some ds=>
  rw[e1]at T;refine⟨Hf0,H0,Hf,ρ,ds,so,e1,λJ al H1 x1 it=>?_⟩;refine⟨λi m σ' H'=>m=ds.length-i/\i<=ds.length/\∃Hf' ρ',aG _ Hf0 H0 Hf' H' σ' ρ'/\aM al Hf'/\hJ g F (ds.drop i) ρ'=aa o,⟨ds.length,rfl,iw _,al,ρ,so.step x1,aM.refl _,T⟩,?_⟩;rintro i m σ' H' ⟨rfl,hi',Hf',ρ',L,s1,em⟩;obtain⟨l9,it2⟩:=it Hf' H' s1 L.sub i
  by_cases I:i<ds.length
  .obtain⟨d,ed,edr⟩:=oI I;obtain⟨go,yl⟩:=l9 d ed;rw[edr]at em;unfold hJ at em;refine .inr ⟨go,λhF H2=>ds.length-_=ds.length-_/\i+1<=ds.length/\∃Hf' ρ',aG _ Hf0 H0 Hf' H2 hF ρ'/\aM al Hf'/\hJ g F _ ρ'=aa o,λhF H2 w=>⟨ds.length-(i+1),by lia,w⟩,λx H2 y=>?_⟩;obtain⟨a9,x2,rx⟩:=yl x H2 y
   cases eg:g d ρ' with
   |none=>rw[eg]at em;nomatch em
   |some ρ1=>
    rw[eg]at em;replace em:(F ρ1).bind _=_:=em
    cases eF:F ρ1 with
    |none=>rw[eF]at em;nomatch em
    |some o1=>
     rw[eF]at em;refine⟨Hf0,H0,a9,ρ',d,ρ1,L.step x2,rx,eg,λip so3=>⟨Hf0,H0,a9,ρ1,o1,so3,eF,?_⟩⟩;have sf:=s1.trans x2.f
     cases o1 with
     |nx B=>exact λM q H4 U z=>⟨rfl,I,q,B,z,sf.trans U,em⟩
     |ct B=>exact λM q H4 U z=>⟨rfl,I,q,B,z,sf.trans U,em⟩
     |bk B=>cases em;exact λM q H4 U z=>k M q H4 ((x1.f.trans sf).trans U) z
     |rt d=>cases em;exact k
     |rtO d=>cases em;exact k
     |rtS d B=>cases em;exact k
     |rtT o'=>cases em;exact k
  .have ei:i=ds.length:=by lia
   subst ei;rw[nI (bf _)]at em;cases em;exact .inl ⟨it2 rfl,k σ' Hf' H' (x1.f.trans s1) L⟩
def GX{E:iX}(h:tDS G (fb i F) E σ H):tDS G F E σ H:=by
 obtain⟨Hf0,H0,Hf,ρ,o,I,L,k⟩:=h;unfold fb vM at L;split at L
 .rename_i xs es;obtain⟨l,M,T,B,vs,q,r⟩:=I.ownAt rfl es;exact⟨Hf0,H0,_,_,o,I.fixd (d:=.lst xs) rfl es M q ⟨l,vs,rfl,bI,r.up (cB B)⟩,L,k.up (cB B)⟩
 .rename_i ks xs es;obtain⟨l,M,T,B,vs,q,z,r⟩:=I.ownAt rfl es;exact⟨Hf0,H0,_,_,o,I.fixd (d:=.dic ks xs) rfl es M q ⟨l,vs,rfl,bI,z,r.up (cB B)⟩,L,k.up (cB B)⟩
 .rename_i U ns xs es;obtain⟨l,M,T,B,dx,vs,q,z,r⟩:=I.ownAt rfl es;exact⟨Hf0,H0,_,_,o,I.fixd (d:=.ins U ns xs) rfl es M q ⟨l,dx,vs,rfl,bI,z,r.up (cB B)⟩,L,k.up (cB B)⟩
 .exact⟨Hf0,H0,Hf,ρ,o,I,L,k⟩
def ge(i:Nat)(h:DS c X st F):DS c X st (fb i F):=PS.imp h λ_ _ _=>GX
def jD{f:MF1}(h:PS X st (mz (tBM X.K "list" vj (eG i) (jB (tD (Gx c X) f) j1)))):DS c X st (gc i f):=PS.imp h λE σ H T=>by
 obtain⟨Hf0,H0,Hf,ρ,o,I,z,k⟩:=T;unfold gc at z
 cases B:f ρ with
 |none=>rw[B]at z;nomatch z
 |some d=>
  rw[B]at z;split at z
  .rename_i xs es;split at z
   .rename_i M;cases z;obtain⟨l,L,h0,hf,vs,q,r⟩:=I.ownAt rfl es;refine⟨_,L,.inl ⟨rfl,_,SqL.of q⟩,Hf0,H0,Hf,ρ,d,I,B,λv Hf' H' x U=>?_⟩;refine⟨l,vs,v,rfl,rfl,(x.h _ _ q),by rw[cG,<- r.length];exact M,k σ Hf' _ x.f ((I.step x).mutd rfl rfl es L ⟨vs++[v],bI,(r.up x.f).append (.cons U .nil)⟩)⟩
   .nomatch z
  .nomatch z
def oJ{f:MF1}(h:PS X st (mz (tBM X.K "list" Af (eG i) (jB (tD (Gx c X) f) j1)))):DS c X st (i8 i (i7 f)):=PS.imp h λE σ H q_=>by
 obtain⟨Hf0,H0,Hf,ρ,o,I,z,k⟩:=q_;unfold i8 i7 at z
 cases B:f ρ with
 |none=>rw[B]at z;nomatch z
 |some d=>
  rw[B]at z
  cases d with
  |lst ds=>
   replace z:(match ρ[i]? with |some (.own xs)=>if xs.length+ds.length<=16777216 then aa _ else ab | _=>ab)=aa o:=z
   split at z
   .rename_i xs es;split at z
    .rename_i U;cases z;obtain⟨l,L,h0,hf,vs,q,r⟩:=I.ownAt rfl es;refine⟨_,L,.inl ⟨rfl,_,SqL.of q⟩,Hf0,H0,Hf,ρ,.lst ds,I,B,λv Hf' H' x r'=>?_⟩;obtain⟨a,us,T,qa,M⟩:=r';subst T;refine⟨l,a,vs,us,rfl,rfl,(x.h _ _ q),x.s _ _ qa,by rw[cG,<- r.length,<- M.length];exact U,k σ Hf' _ x.f ((I.step x).mutd rfl rfl es L ⟨vs++us,bI,(r.up x.f).append M⟩)⟩
    .nomatch z
   .nomatch z
  | _=>nomatch z
abbrev AX:Fl->OD
 |.rt d=>aa d
 |.rtO ds=>aa (.lst ds)
 |.rtS d _=>aa d
 |.nx _=>aa .non
 | _=>ab
abbrev ki(n:Nat)(ds:LD):LS:=ds.map .im++fV (n-ds.length) .no
abbrev bL(n:Nat)(F:MF3)(ds:LD):OD:=(F (ki n ds)).bind AX
abbrev spD(G:Gc)(n:Nat)(m:LD->OD):Sp:=λvs H Q _=>∃Hf ds d,aM Hf H/\ay G Hf ds vs/\ds.length=n/\m ds=aa d/\∀v Hf' H',Ext Hf H Hf' H'->Rep G Hf' d v->Q v H'
def aG.start(L:aM Hf H)(r:ay G Hf ds vs):aG G Hf H Hf H (start N vs) (ki N.length ds):=by
 have im:∀i (s:Sl),(ki N.length ds)[i]?=aa s->s=.no\/∃d,ds[i]?=aa d/\s=.im d:=λi s b=>by
  unfold ki at b
  by_cases hi:i<ds.length
  .rw[kR (by simpa using hi)]at b;obtain⟨d,z,es⟩:=lD b;exact .inr ⟨d,z,es⟩
  .rw[iT (by simpa using p7 hi)]at b;obtain⟨_,e⟩:=eQ.mp b;rw[List.getElem_replicate]at e;exact .inl e.symm
 refine⟨Ext.refl L,by simp[L2.start,ki,r.length],λi v s a b=>?_,λi j s t v w l a b c d p q=>?_⟩
 .rcases im i s b with e |⟨d,z,es⟩
  .subst e;trivial
  .subst es;obtain⟨u,B,I⟩:=r.get z;refine⟨u,?_,I⟩;unfold L2.start at a;rw[kR (by simpa using ((eQ.mp B).1)),d7,B]at a;exact(cj a).symm
 .rcases im i s a with e |⟨d,z,es⟩
  .subst e;exact(p.calm rfl).elim
  .subst es;exact(p.calm rfl).elim
variable{P:di}{mg:MGT}{base:Heap}{n_:Nat}{qual:Str}{fd:fL}{ps:LSt}
def b6{f:Addr}(Fn:Fun K x qual st f fd)(S:bn N ps (bc st))
 (h:∀(cdv:Value) (A:dH) (outer:List Env) (s:aE) (H:Hp) (E:XK),dL k (A.deeper (ix qual (bc st) s.heap.objs.size f cdv))->DSs c (j2 CX0 P w K mg base N qual (bc st) f cdv A outer s H E).nox (j3 st) F)(I:N.length=n_:=by rfl):
  f9 P w K mg base CX0 (k+1) f fd ps (spD ⟨K,c⟩ ps.length (bL n_ F)):=by
 subst I;refine Fn.ok S (λvs H Q E L=>by obtain⟨Hf,ds,d,U,r,q,_⟩:=L;rw[<- r.length];exact q) λcdv A outer s H vs Q E hr L=>?_;obtain⟨Hf,ds,d,U,r,q,e,z⟩:=L;refine⟨_,h cdv A outer s H E hr,?_⟩;unfold bL at e
 cases B:F _ with
 |none=>rw[B]at e;nomatch e
 |some o=>
  rw[B]at e;refine⟨Hf,H,Hf,_,o,aG.start U r,B,?_⟩
  cases o with
  |nx ρ=>cases e;exact λσ' Hf' H' _ M=>z _ Hf' H' M.ext rfl
  |bk ρ=>nomatch e
  |ct ρ=>nomatch e
  |rt d=>cases e;exact z
  |rtO rs=>cases e;exact λl vs Hf' H' x hn T q r=>z _ _ H' (x.fix hn T q) ⟨l,vs,rfl,bI,r.up (cB T)⟩
  |rtS d ρ=>cases e;exact λv σ' Hf' H' M r=>z v Hf' H' M.ext r
  |rtT o=>nomatch e
variable{fa:MF2}{k0:Nat}
def bq{f:Addr}{pos:Pos}(pk:Pk X.prog X.w X.K X.mg X.base CX0 k x (f,fd) ps (spD (Gx c X) ps.length m))(I:dL k0 X.A)(M:DA c X (e::es) fa)(hl:(e::es).length=ps.length:=by rfl)(q:NDb x:=by decide)(he:StE X e es:=by rfl)(B:BkE X pos es:=by rfl)(z:k<=k0:=by decide)(hg:Gl X x:=by first |rfl |exact glc rfl):
  DE c X (.Call (.Name x p) (e::es) [] pos) (aH m fa):=PE.imp (qC pk.ok (I.mono z) hg pk.g pk.kp pk.b .nil qH M.pa q he B) λσ H Q q_=>by
 obtain⟨Hf0,H0,Hf,ρ,d,st,U,kq⟩:=q_;obtain⟨ds,L,T⟩:=vI U;refine⟨Hf0,H0,Hf,ρ,ds,st,L,λvs Hf' H' x r=>?_⟩;rw[eB];exact⟨Hf',ds,d,x.s,r,(M.len ρ ds L).trans hl,T,λv a9 H2 x2 r2=>kq v a9 H2 (x.trans x2) r2⟩
def GY{f:MF1}(h:f ρ=aa d):bO i f ρ=aa (.nx (ρ.set i (.im d))):=by
 unfold bO;rw[h];rfl
def GZ{f:MF2}{d:LD}(h:f ρ=aa d):du i f ρ=aa (.nx (ρ.set i (.own d))):=by
 unfold du;rw[h];rfl
def G0{f:MF1}(h:f ρ=aa d):bR f ρ=aa (.rt d):=by
 unfold bR;rw[h];rfl
def aN{f:MF2}(h:f ρ=aa ds)(h':m ds=aa d):aH m f ρ=aa d:=by
 unfold aH;rw[h];exact h'
def vO{z:Type}{h:D->Option OD}(f:z->D)(p:z->Bool)(q:z->D):∀(xs:List z),(∀x∈xs,h (f x)=aa (if p x then aa (q x) else ab))->gM h (xs.map f)=aa ((xs.filter p).map q)
 | [],_=>rfl
 |x::xs,hh=>by
  rw[cY];unfold gM;rw[hh x bW,vO f p q xs λy B=>hh y (c8 _ B)]
  cases hp:p x with
  |true=>rw[uD hp];rfl
  |false=>rw[nH (by rw[hp];exact bS)];rfl
def G1{z:Type}{h:D->Option OD}(f:z->D)(q:z->D)(xs:List z)(B:∀x∈xs,h (f x)=aa (aa (q x))):gM h (xs.map f)=aa (xs.map q):=by
 have:=vO f (λ_=>ac) q xs λx I=>(B x I).trans rfl;rw[this,filter_eq_self.mpr λ_ _=>rfl]
def rF{z:Type}(xs:List z)(f:z->D)(p:z->Bool)(q:z->D)
 (hi:fi ρ=aa (xs.map f))(hz:xs.length<=16777216)(B:∀x∈xs,kh g ft fe (cX k js ρ) (f x)=aa (if p x then aa (q x) else ab)):bv k js fi g ft fe ρ=aa ((xs.filter p).map q):=by
 unfold bv;rw[hi];show(if (xs.map f).length<=16777216 then _ else ab)=_;rw[av,if_pos hz];exact vO f p q xs B
def fq{z:Type}(xs:List z)(f:z->D)(q:z->D)
 (hi:fi ρ=aa (xs.map f))(hz:xs.length<=16777216)(B:∀x∈xs,kh g ft fe (cX k js ρ) (f x)=aa (aa (q x))):bv k js fi g ft fe ρ=aa (xs.map q):=by
 unfold bv;rw[hi];show(if (xs.map f).length<=16777216 then _ else ab)=_;rw[av,if_pos hz];exact G1 f q xs B
def AY(lo:Int)(n:Nat):rng lo n=(ci n).map λ(i:Nat)=>D.int (lo+i):=rfl
variable{ns:List Int}
def AZ:lB [.lst (ns.map D.int)]=aa (.int ns.sum):=by
 show(gw _).map _=_;rw[GO];rfl
abbrev dU:Nat->D->Prop
 | 0,_=>False
 |n+1,d=>match d with
  |.lst xs=>∀x∈xs,dU n x
  |.tup xs=>∀x∈xs,dU n x
  |d=>d.scalar=ac
def vP{f:D->D->Option Bool}:∀(xs:LD),(∀x∈xs,f x x=aa ac)->dn f xs xs=aa ac
 | [],_=>rfl
 |x::xs,h=>by
  unfold dn;rw[h x bW,vP xs λy q=>h y (c8 _ q)];rfl
def rG:∀(n:Nat) (d:D),dU n d->deq n d d=aa ac
 | 0,_,h=>h.elim
 |n+1,d,h=>by
  cases d with
  |lst xs=>
   show(if xs.length=xs.length then dn _ xs xs else aa ag)=_;rw[if_pos rfl]
   exact vP xs λx q=>rG n x (h x q)
  |tup xs=>
   show(if xs.length=xs.length then dn _ xs xs else ab)=_;rw[if_pos rfl]
   exact vP xs λx q=>rG n x (h x q)
  |non=>rfl
  |bl b=>show aa (b==b)=_;rw[beq_self_eq_true]
  |int b=>show aa (b==b)=_;rw[beq_self_eq_true]
  |str b=>show aa (b==b)=_;rw[beq_self_eq_true]
  | _=>cases h
def G2(h:dU 20 d):dEq d d=aa (.bl ac):=by
 unfold dEq;rw[rG 20 d h];rfl
def rH(h:dU 20 d):dNe d d=aa (.bl ag):=by
 unfold dNe;rw[rG 20 d h];rfl
def jE(i j:Int):dEq (.int i) (.int j)=aa (.bl (i==j)):=rfl
def rJ(i j:Bool):dEq (.bl i) (.bl j)=aa (.bl (i==j)):=rfl
def vQ(i j:Int):dNe (.int i) (.int j)=aa (.bl (!(i==j))):=rfl
def A0(i j:Bool):dNe (.bl i) (.bl j)=aa (.bl (!(i==j))):=rfl
def ao{m:D->D->OD}{f g:MF1}{x:D}(q:f ρ=aa x)(z:g ρ=aa y)(B:m x y=aa d):m2 m f g ρ=aa d:=by
 unfold m2;rw[q,z];exact B
variable{b:Bool}
def aI{f:MF1}(h:f ρ=aa (.bl b)):mB f ρ=aa b:=by
 unfold mB;rw[h];rfl
def jF{f:MF1}(h:f ρ=aa d)(h':qY d=aa b):gt f ρ=aa b:=by
 unfold gt;rw[h];exact h'
def rK{f:MF4}(h:f ρ=aa b):lw f ρ=aa (!b):=by
 unfold lw;rw[h];rfl
def G3{f g:MF4}{r:Option Bool}(h:f ρ=aa ac)(h':g ρ=r):hE f g ρ=r:=by
 unfold hE;rw[h];exact h'
def G4{f g:MF4}(h:f ρ=aa ag):hE f g ρ=aa ag:=by
 unfold hE;rw[h];rfl
def G5{f g:MF4}(h:f ρ=aa ac):mOr f g ρ=aa ac:=by
 unfold mOr;rw[h];rfl
def G6{f g:MF4}{r:Option Bool}(h:f ρ=aa ag)(h':g ρ=r):mOr f g ρ=r:=by
 unfold mOr;rw[h];exact h'
variable{a:Bool}
def kj{f g:MF4}(h:f ρ=aa a)(h':g ρ=aa b):hE f g ρ=aa (a && b):=by
 cases a with
 |true=>exact G3 h h'
 |false=>exact G4 h
def hV{f g:MF4}(h:f ρ=aa a)(h':g ρ=aa b):mOr f g ρ=aa (a || b):=by
 cases a with
 |true=>exact G5 h
 |false=>exact G6 h h'
def oK{f g:MF1}(h:f ρ=aa (.bl a))(h':g ρ=aa (.bl b)):j8 f g ρ=aa (.bl (a && b)):=by
 unfold j8;rw[aI h]
 cases a with
 |true=>exact h'
 |false=>rfl
def A1{f g:MF1}(h:f ρ=aa (.bl a))(h':g ρ=aa (.bl b)):vOr f g ρ=aa (.bl (a || b)):=by
 unfold vOr;rw[aI h]
 cases a with
 |true=>rfl
 |false=>exact h'
def A2{f:MF1}(h:f ρ=aa (.bl a)):ow f ρ=aa (.bl (!a)):=by
 unfold ow;rw[aI h];rfl
def ai{f:MF1}{g:MF2}(h:f ρ=aa d)(h':g ρ=aa ds):af f g ρ=aa (d::ds):=by
 unfold af;rw[h,h'];rfl
def cv{f:MF2}(h:f ρ=aa ds):bG f ρ=aa (.tup ds):=by
 unfold bG;rw[h];rfl
def bV{f:MF2}(h:f ρ=aa ds):aT f ρ=aa (.lst ds):=by
 unfold aT;rw[h];rfl
def ak{f:MF2}{g:MF1}{i:Int}{r:OD}(h:f ρ=aa ds)(h':g ρ=aa (.int i))(q:atI ds i=r):mIx f g ρ=r:=by
 unfold mIx;rw[h,h'];exact q
variable{j:Int}
def rL{C:Int->Int->Prop}[∀i j,Decidable (C i j)]{g:Int->Int->D}{i:Int}(h:C i j):dI C g (.int i) (.int j)=aa (g i j):=by
 show(if C i j then aa _ else ab)=_;rw[if_pos h]
def G7{f:MF1}(h:f ρ=aa d)(h':ρ[i]?=aa (.own xs))(q:xs.length<16777216):gc i f ρ=aa (.nx (ρ.set i (.own (xs++[d])))):=by
 unfold gc;rw[h,h'];show(if xs.length<16777216 then _ else ab)=_;rw[if_pos q]
def G8{f:MF1}(h:f ρ=aa d):fI f ρ=aa (.nx ρ):=by
 unfold fI;rw[h];rfl
variable{ρ1:LS}
def lG(q:g d ρ=aa ρ1)(z:ft ρ1=aa b)(B:b=ac->fe ρ1=aa y):kh g ft fe ρ d=aa (if b then aa y else ab):=by
 unfold kh;rw[q];show(ft ρ1).bind _=_;rw[z]
 cases b with
 |true=>rw[B rfl];rfl
 |false=>rfl
def eW(q:g d ρ=aa ρ1)(z:ft ρ1=aa ac)(B:fe ρ1=aa y):kh g ft fe ρ d=aa (aa y):=lG q z λ_=>B
def bp{f:MF1}(h:f ρ=aa d)(h':g8 d=aa ds):be f ρ=aa ds:=by
 unfold be;rw[h];exact h'
def A3{f:MF2}{n:Int}(h:f ρ=aa [.int n])(z:0<=n)(q:n<2 ^ 62):gL f ρ=aa ((ci n.toNat).map λ(i:Nat)=>D.int i):=by
 unfold gL;rw[h];show(if -_<=n/\n<2 ^ 62 then aa _ else ab)=_;rw[if_pos ⟨by lia,q⟩,AY]
 congr 1
 refine map_congr_left λi _=>?_;rw[Int.zero_add]
def vR:∀{bs:List Bool} {us:LVa},aS (bs.map V.bl) us->us=bs.map f8
 | [],_,.nil=>rfl
 |b::bs,_,.cons r t=>by
  rw[vR t];cases (r);rfl
def G9(bs:List Bool):((ci bs.length).all λi=>(bs[i]?).getD ac)=bs.all id:=by
 rw[fU,all_eq_true,all_eq_true];constructor
 .intro h b z;obtain⟨i,hi,e⟩:=List.getElem_of_mem z;have:=h i (iq.mpr hi);simp only[cr hi,e]at this;exact this
 .intro h i hi;have q:=iq.mp hi;simp only[cr q];exact h _ (ju q)
def Ha(bs:List Bool):((ci bs.length).any λi=>(bs[i]?).getD ag)=bs.any id:=by
 rw[fU,any_eq_true,any_eq_true];constructor
 .rintro⟨i,hi,e⟩;have q:=iq.mp hi;simp only[cr q]at e;exact⟨_,ju q,e⟩
 .rintro⟨b,z,e⟩;obtain⟨i,hi,rfl⟩:=List.getElem_of_mem z;exact⟨i,iq.mpr hi,by simp only[cr hi];exact e⟩
def A4{h:Heap}{o:Obj}(q:∀b x,b∉[h.objs.size]->(h.push o).get? b=aa x->h'.get? b=aa x):∀b x,h.get? b=aa x->h'.get? b=aa x:=
 λb x e=>q b x (λz=>by rw[bN.mp z]at e;exact iV _ (bD e)) (bQ _ e)
def Hb(U:X.calm=ac):fH X (.builtin "all") (λxs H Q=>∃(p:Addr) (bs:List Bool),xs=[.ref p]/\SqL X.K H p (bs.map V.bl)/\Q (.bl (bs.all id)) H):=by
 intro pins s σ H xs us Q I r h;obtain⟨l,bs,rfl,hq,q⟩:=h;obtain⟨u,rfl,rx⟩:=g6 r;subst rx;obtain⟨its,r',pl,hz⟩:=I.list hq;have e:=vR r';subst e;have B:=pl.isList;have L:l<s.heap.objs.size:=by obtain⟨_,e,_⟩:=B;exact bD e
 refine call_all_walk (mm B ?_)
 refine⟨s.heap.objs.size,_,_,(bs.map f8).toArray.size,_,_,λi=>(bs[i]?).getD ac,rfl,Walks.list (A:=X.A.in1) (I.ok.hd U) _ l (cp L) (bs.map f8).toArray,
  ⟨⟨_,dE _ rfl,rfl,rfl⟩,B.push _⟩,λi v s' Q' E' T M=>?_,λh' tk hk=>?_⟩
 .have z:(bs.map f8)[i]?=aa v:=by simpa using T
  obtain⟨b,e,rfl⟩:=lD z;simp only[e]at M;exact jT M
 .have e:((ci (bs.map f8).toArray.size).all λi=>(bs[i]?).getD ac)=bs.all id:=by
   rw[size_toArray,av];exact G9 bs
  rw[e];exact⟨.bl _,H,I.kept (A4 hk),rfl,q⟩
def Hc(U:X.calm=ac):fH X (.builtin "any") (λxs H Q=>∃(p:Addr) (bs:List Bool),xs=[.ref p]/\SqL X.K H p (bs.map V.bl)/\Q (.bl (bs.any id)) H):=by
 intro pins s σ H xs us Q I r h;obtain⟨l,bs,rfl,hq,q⟩:=h;obtain⟨u,rfl,rx⟩:=g6 r;subst rx;obtain⟨its,r',pl,hz⟩:=I.list hq;have e:=vR r';subst e;have B:=pl.isList;have L:l<s.heap.objs.size:=by obtain⟨_,e,_⟩:=B;exact bD e
 refine call_any_walk (mm B ?_)
 refine⟨s.heap.objs.size,_,_,(bs.map f8).toArray.size,_,_,λi=>(bs[i]?).getD ag,rfl,Walks.list (A:=X.A.in1) (I.ok.hd U) _ l (cp L) (bs.map f8).toArray,
  ⟨⟨_,dE _ rfl,rfl,rfl⟩,B.push _⟩,λi v s' Q' E' T M=>?_,λh' tk hk=>?_⟩
 .have z:(bs.map f8)[i]?=aa v:=by simpa using T
  obtain⟨b,e,rfl⟩:=lD z;simp only[e]at M;exact jT M
 .have e:((ci (bs.map f8).toArray.size).any λi=>(bs[i]?).getD ag)=bs.any id:=by
   rw[size_toArray,av];exact Ha bs
  rw[e];exact⟨.bl _,H,I.kept (A4 hk),rfl,q⟩
abbrev gf:LD->Option (List Bool)
 | []=>aa []
 |.bl b::ds=>(gf ds).map λr=>b::r
 | _=>ab
def A5:∀{ds:LD} {bs:List Bool},gf ds=aa bs->ds=bs.map D.bl
 | [],_,e=>by cases e;rfl
 |.bl b::ds,_,e=>by
  unfold gf at e
  cases es:gf ds with
  |none=>rw[es]at e;cases e
  |some r=>rw[es]at e;cases e;rw[A5 es];rfl
 |.int _::_,_,e=>by cases e
 |.non::_,_,e=>by cases e
 |.str _::_,_,e=>by cases e
 |.lst _::_,_,e=>by cases e
 |.tup _::_,_,e=>by cases e
 |.kl _::_,_,e=>by cases e
 |.kt _::_,_,e=>by cases e
 |.dic _ _::_,_,e=>by cases e
 |.ins _ _ _::_,_,e=>by cases e
def ay.bls{G:Gc}{H:Hp}:∀{bs:List Bool} {vs:List V},ay G H (bs.map D.bl) vs->vs=bs.map V.bl
 | [],_,h=>h
 |b::bs,_,q2_=>by
  obtain⟨v,r,e,q,z⟩:=q2_;subst e;rw[ay.bls z,show v=V.bl b from q];rfl
abbrev mP:LD->OD
 | [d]=>(lsD d).bind λds=>(gf ds).map λbs=>.bl (bs.all id)
 | _=>ab
abbrev rM:LD->OD
 | [d]=>(lsD d).bind λds=>(gf ds).map λbs=>.bl (bs.any id)
 | _=>ab
def rN{f:List Bool->D}(e:(match ds with | [d]=>(lsD d).bind λds=>(gf ds).map f | _=>ab)=aa d):∃q xs bs,ds=[q]/\lsD q=aa xs/\xs=bs.map D.bl/\d=f bs:=by
 split at e
 .rename_i q
  cases z:lsD q with
  |none=>rw[z]at e;nomatch e
  |some xs=>
   rw[z]at e;replace e:(gf xs).map f=aa d:=e
   cases B:gf xs with
   |none=>rw[B]at e;nomatch e
   |some bs=>rw[B]at e;cases e;exact⟨q,xs,bs,rfl,z,A5 B,rfl⟩
 .nomatch e
def A6(T:X.calm=ac):kc c X (.builtin "all") mP:=by
 rintro pins s σ H vs us Q I rv ⟨Hf,ds,d,z,r,e,k⟩;obtain⟨d0,xs,bs,rfl,B,rfl,rfl⟩:=rN e;obtain⟨v,M,U⟩:=r.one;subst M;obtain⟨a,ws,L,q,rs⟩:=gv B U;subst L;refine Hb T pins s σ H _ us Q I rv ⟨a,bs,rfl,?_,k _ Hf H (Ext.refl z) rfl⟩;rw[<- rs.bls];exact z.seq q
def Hd(T:X.calm=ac):kc c X (.builtin "any") rM:=by
 rintro pins s σ H vs us Q I rv ⟨Hf,ds,d,z,r,e,k⟩;obtain⟨d0,xs,bs,rfl,B,rfl,rfl⟩:=rN e;obtain⟨v,M,U⟩:=r.one;subst M;obtain⟨a,ws,L,q,rs⟩:=gv B U;subst L;refine Hc T pins s σ H _ us Q I rv ⟨a,bs,rfl,?_,k _ Hf H (Ext.refl z) rfl⟩;rw[<- rs.bls];exact z.seq q
def A7:∀ds d,mP ds=aa d->d.scalar=ac:=λds d e=>by
 obtain⟨q,xs,bs,rfl,z,rfl,rfl⟩:=rN e;rfl
def He:∀ds d,rM ds=aa d->d.scalar=ac:=λds d e=>by
 obtain⟨q,xs,bs,rfl,z,rfl,rfl⟩:=rN e;rfl
abbrev Ite(K:bo)(l:Addr):It:=
  ⟨λi H=> ∃xs x, SqL K H l xs/\xs[i]? = aa x,
   λi H v H'=> ∃p x, v = .ref p/\H p = ab/\H' = upd H p (.tup [.int i, x])/\(∀xs, SqL K H l xs->xs[i]? = aa x),
   λi H=> ∃xs, SqL K H l xs/\xs.length<=i⟩
variable{eH:LEx}{kx:Nat}
def Hg{pos:Pos}(e it l:Addr)(ne:e≠it):
  jA P w K (.Tuple eH kx pos) (Ite K l) [e,it] e (λi h=>(∃old,IsEnum h e it (i:Int) old)/\h.IsListIter it l i) where
 mem:=by simp
 obj:=λi h st b hb=>by
  obtain⟨⟨old,he⟩,⟨o1,e1,_,d1⟩⟩:=st;simp only[bX,cT,or_false]at hb
  rcases hb with rfl |rfl
  .exact⟨_,he,λv q=>by nomatch q⟩
  .exact⟨o1,e1,λv q=>by rw[d1]at q;nomatch q⟩
 keep:=λi h h' st k=>by
  obtain⟨⟨old,he⟩,h1⟩:=st;exact⟨⟨old,k e (by simp) _ he⟩,h1.at λo q=>k it (by simp) o q⟩
 item:=by
  intro X hP hw hK hc i pins s σ H E I hf st hg;subst hP hw hK;obtain⟨⟨old,he⟩,h1⟩:=st;obtain⟨xs,x,q1,hx⟩:=hg;obtain⟨its1,r1,p1,z1⟩:=I.list q1;obtain⟨u1,e1,ru1⟩:=r1.get hx;refine wpAny_pyNext_enum_item he h1 p1.isList (by simpa using e1) ne λh' a1 a3 a5 a6 a7=>⟨_,rfl,?_⟩;refine wpAny_letOwnedTupleGo_enum a1 λh'' b1 b2=>?_
  have lt:∀b∈[e,it],b<s.heap.objs.size:=λb hb=>by
   simp only[bX,cT,or_false]at hb
   rcases hb with rfl |rfl
   .exact bD he
   .obtain⟨o,e,_⟩:=h1;exact bD e
  have kk:∀b o,b∉[e,it]->s.heap.get? b=aa o->h''.get? b=aa o:=λb o hb e=>by
   simp only[bX,cT,or_false,not_or]at hb;obtain⟨n1,n2⟩:=hb;exact(b2.2 b n1).trans (a7 b o n1 n2 e)
  have fr:=I.hok.fresh (bf _)
  have I2:Inv X pins σ (upd H s.heap.objs.size (.tup [.int i,x])) {s with heap:=h'',toks:=s.toks+1}:=
   (I.turnedMany kk hf).track (I.fpOk (bf _) fr) ⟨(by show 2<=aW;decide),_,.cons ⟨s.toks,rfl⟩ (.cons ru1 .nil),⟨_,((b2.2 _ (lb (lt e (by simp)))).trans a5),rfl,_,rfl⟩⟩
  refine⟨.ref s.heap.objs.size,_,I2,rfl,⟨_,x,rfl,fr,rfl,λb5 h=>by rw[I.list_inj h q1];exact hx⟩,⟨⟨u1,?_⟩,(a3.at λo q=>(b2.2 it (cF ne)).trans q)⟩,λb hb=>?_⟩
  .have:((i+1:Nat):Int)=i+1:=by push_cast;rfl
   rw[this];exact b1
  .rw[bF (cp (lt b hb))];exact(hf b hb).1
 done:=by
  intro X hP hw hK hc i pins s σ H E I hf st hg;subst hP hw hK;obtain⟨⟨old,he⟩,h1⟩:=st;obtain⟨xs,q1,hend⟩:=hg;obtain⟨its1,r1,p1,z1⟩:=I.list q1;have l1':=r1.length;refine wpAny_pyNext_enum_end (I.ok.hd hc) he h1 p1.isList (by simp;lia) λh' kk=>⟨rfl,I.turnedMany (λb o hb q=>?_) hf⟩;simp only[bX,cT,or_false,not_or]at hb;exact kk b o hb.2 q
 self:=λ_ _ _ _ _ st h=>by obtain⟨⟨old,he⟩,_⟩:=st;exact wpAny_pyIter_enum he h
abbrev Hh(K:bo)(q:TA):TI:=λσ H R=>q σ H λvs H1=>∃l,vs=[.ref l]/\(∃xs,SqL K H1 l xs)/\R (Ite K l) H1
variable{tpos:Pos}{ta:TA}
def Hi{a:Expr}{p pos:Pos}(hg:Gl X "enumerate")(hm:X.mg "enumerate"=ab)(ha:PA X [a] ta)(hs:bi [a] X.env=[(ag,eval a X.env)]:=by rfl):
  PI X (.Tuple eH kx tpos) (.Call (.Name "enumerate" p) [a] [] pos) (Hh X.K ta):=by
 intro pins s σ H R I h;refine Call_ (iY I hg hm boot_enumerate (jS (thn (ha pos pins s σ H _ I h) λus s1 ⟨vs,H1,B,U,q1⟩=>?_) (by rw[hs];rfl) (by rfl)));obtain⟨l,e,⟨xs,h1⟩,q⟩:=q1;subst e;obtain⟨u,rfl,ru⟩:=g6 U;subst ru;obtain⟨T,U,p1,z1⟩:=B.list h1;refine call_enumerate_list p1.isList λh' L a4 a6 a7=>?_;refine wpAny_pyIter_enum L ?_;refine⟨_,_,_,_,H1,rfl,(B.kept a7),Hg _ _ _ (Nat.succ_ne_self _),⟨⟨_,L⟩,a4⟩,λb M=>?_,q⟩;simp only[bX,cT,or_false]at M
 have z:s1.heap.objs.size<=b:=by
  rcases M with rfl |rfl
  .exact uI _ _
  .exact bf _
 exact B.fpOk z (B.hok.fresh z)
abbrev lH:Nat->LD->LD
 | _,[]=>[]
 |i,x::xs=>.tup [.int i,x]::lH (i+1) xs
def A8:∀(i:Nat) (xs:LD),(lH i xs).length=xs.length
 | _,[]=>rfl
 |i,x::xs=>by rw[lH,bP,bP,A8]
def vS:∀(k:Nat) (xs:LD) (i:Nat),(lH k xs)[i]?=(xs[i]?).map λx=>.tup [.int (k+i:Nat),x]
 | _,[],_=>rfl
 |k,x::xs,0=>rfl
 |k,x::xs,i+1=>by rw[lH,List.getElem?_cons_succ,List.getElem?_cons_succ,vS _ xs i,show k+1+i=k+(i+1) by lia]
abbrev vT:LD->OLD
 | [x]=>(lsD x).map (lH 0)
 | _=>ab
abbrev jG(f:MF2)(ρ:LS):OLD:=(f ρ).bind vT
variable{a:Expr}
def vU{pos:Pos}{f:MF2}(hg:Gl X "enumerate")(hm:X.mg "enumerate"=ab)(ha:DA c X [a] f)(hs:bi [a] X.env=[(ag,eval a X.env)]:=by rfl):
  DI c X (.Tuple eH kx tpos) (.Call (.Name "enumerate" p) [a] [] pos) (jG f):=
 PI.imp (Hi hg hm ha.pa hs) λσ H R q_=>by
  obtain⟨Hf0,H0,Hf,ρ,ds,st,q,k⟩:=q_;unfold jG at q
  cases M:f ρ with
  |none=>rw[M]at q;nomatch q
  |some as=>
   rw[M]at q;replace q:vT as=aa ds:=q;refine⟨Hf0,H0,Hf,ρ,as,st,M,λvs Hf' H' x r=>?_⟩;unfold vT at q;split at q
   .rename_i dx
    cases ex:lsD dx with
    |none=>rw[ex]at q;nomatch q
    |some xs=>
     rw[ex]at q;cases q;obtain⟨v,ev,rv⟩:=r.one;obtain⟨l1,L,T,q1,r1⟩:=gv ex rv;subst T;refine⟨l1,ev,⟨L,x.s.seq q1⟩,k _ Hf' H' x λa9 H2 f2 s2 i=>?_⟩;have U:=(f2.trans s2).seq q1;have h1:=r1.length;refine⟨λd B=>?_,λei=>⟨L,U,by rw[A8]at ei;lia⟩⟩;rw[vS]at B
     cases hx:xs[i]? with
     |none=>rw[hx]at B;nomatch B
     |some x'=>
      rw[hx]at B;cases B;obtain⟨u1,I,ru1⟩:=r1.get hx;refine⟨⟨L,u1,U,I⟩,λz H3 ⟨pp,z1,ez,hp,eh,y1⟩=>?_⟩;subst ez eh;have a1:=y1 L U;rw[I]at a1;cases a1;exact⟨upd a9 pp _,Ext.new s2 hp,pp,_,rfl,bI,.cons (by rw[p8];rfl) (.cons (ru1.up (f2.trans (cB (s2.free hp)))) .nil)⟩
   .nomatch q
abbrev gx:D->Option Key
 |.int i=>aa (.inl i)
 |.str x=>aa (.inr x)
 | _=>ab
variable{k:Key}
def lI(e:gx d=aa k)(r:Rep G H d v):v=kV k:=by
 cases d <;> first |(cases e;done) |(cases e;exact r)
abbrev fc(ks:List Key)(k:Key):Bool:=ks.any λj=>decide (j=k)
abbrev fQ{q:Type}(ks:List Key)(xs:List q)(k:Key)(x:q):List q:=if fc ks k=ac then pZ (λj y=>if j=k then x else y) ks xs else xs++[x]
abbrev iD(ks:List Key)(k:Key):List Key:=if fc ks k=ac then ks else ks++[k]
def A9{ks:List Key}{k:Key}{v:V}:∀{ks:List Key} {vs:List V},(ks.zip vs).map (λq=>if q.1=k then (q.1,v) else q)=ks.zip (pZ (λj y=>if j=k then v else y) ks vs)
 | [],_=>rfl
 | _::_,[]=>rfl
 |j::ks,y::vs=>by
  rw[kZ,cY,zipWith_cons_cons,kZ,A9 (ks:=ks)]
  by_cases h:j=k
  .subst h;simp
  .simp[h]
def vV{k:Key}:∀{ks:List Key} {vs:List V},ks.length=vs.length->((ks.zip vs).any λq=>decide (q.1=k))=fc ks k
 | [],[],_=>rfl
 | [],_::_,h=>by cases h
 | _::_,[],h=>by cases h
 |j::ks,y::vs,h=>by
  unfold fc;rw[kZ,eS,eS,vV (by simpa using h)];rfl
variable{ks:List Key}
def Ba(h:ks.length=vs.length):dQ (ks.zip vs) k v=(iD ks k).zip (fQ ks vs k v):=by
 unfold dQ iD fQ;rw[vV h]
 by_cases e:fc ks k=ac
 .rw[if_pos e,if_pos e,if_pos e,A9 (ks:=ks)]
 .rw[if_neg e,if_neg e,if_neg e,zip_append h];rfl
def Bb{q:Type}{vs:List q}{v:q}(h:ks.length=vs.length):(iD ks k).length=(fQ ks vs k v).length:=by
 unfold iD fQ
 by_cases e:fc ks k=ac
 .rw[if_pos e,if_pos e,length_zipWith];lia
 .rw[if_neg e,if_neg e,aJ,aJ,h];rfl
def ay.zipW{G:Gc}{H:Hp}{k:Key}{d:D}{v:V}(q:Rep G H d v):∀{ks:List Key} {ds:LD} {vs:List V},ay G H ds vs->ay G H (pZ (λj y=>if j=k then d else y) ks ds) (pZ (λj y=>if j=k then v else y) ks vs)
 | [],_,_,_=>.nil
 | _::_,[],_,h=>by cases (h);exact .nil
 |j::ks,x::ds,_,q3_=>by
  obtain⟨u,r,e,z,B⟩:=q3_;subst e;rw[zipWith_cons_cons,zipWith_cons_cons];refine .cons ?_ (ay.zipW q B)
  by_cases e:j=k
  .rw[if_pos e,if_pos e];exact q
  .rw[if_neg e,if_neg e];exact z
def ay.put(r:ay G H ds vs)(q:Rep G H d v):ay G H (fQ ks ds k d) (fQ ks vs k v):=by
 unfold fQ
 by_cases e:fc ks k=ac
 .rw[if_pos e,if_pos e];exact r.zipW q
 .rw[if_neg e,if_neg e];exact r.append (.cons q .nil)
abbrev mQ(i:Nat)(ρ:LS):Option Fl:=aa (.nx (ρ.set i (.ownd [] [])))
abbrev lJ(i:Nat)(q z:MF1)(ρ:LS):Option Fl:=(z ρ).bind λd=>(q ρ).bind λx=>(gx x).bind λk=>match ρ[i]? with
 |some (.ownd ks xs)=>if ks.length<16777216 then aa (.nx (ρ.set i (.ownd (iD ks k) (fQ ks xs k d)))) else ab
 | _=>ab
def Hj(hp:PS X st (j0 An (jZ i))):DS c X st (mQ i):=PS.imp hp λE σ H L=>by
 obtain⟨Hf0,H0,Hf,ρ,o,B,I,k⟩:=L;cases I;intro q z;have x:Ext Hf H Hf (upd H q (.dK [])):=Ext.tmp B.sub z;exact k _ Hf _ x.f (B.setOwn rfl x z (B.sub.free z) ⟨[],bI,rfl,.nil⟩)
variable{p':Pos}
def rO{pos:Pos}(i:Nat)(q:X.N.Nodup)(hi:X.N[i]?=aa x:=by rfl)(I:Loc X.env.scope x:=by first |exact cf rfl |exact bw rfl)(B:fF (.Dict [] [] pos) (aa (.Name x b0)) p'.line X.env=pure ag:=by rfl)(z:LcF X x:=by first |exact .inl rfl |exact .inr rfl):
  DS c X (.Assign [.Name x b0] (.Dict [] [] pos) p') (mQ i):=Hj (mC q hi I Ao B z)
variable{fk fv:MF1}
def Hk(hp:PS X st (vm (eG i) (tD (Gx c X) fk) (tD (Gx c X) fv))):DS c X st (lJ i fk fv):=PS.imp hp λE σ H q_=>by
 obtain⟨Hf0,H0,Hf,ρ,o,so,B,k⟩:=q_;unfold lJ at B
 cases M:fv ρ with
 |none=>rw[M]at B;nomatch B
 |some d=>
  rw[M]at B
  cases T:fk ρ with
  |none=>rw[T]at B;nomatch B
  |some x=>
   rw[T]at B
   cases U:gx x with
   |none=>rw[aC,aC,U]at B;nomatch B
   |some ky=>
    rw[aC,aC,U]at B;split at B
    .rename_i ks xs es;split at B
     .rename_i hl;cases B;refine⟨Hf0,H0,Hf,ρ,d,so,M,λv al H1 x1 r1=>?_⟩;have I:=so.step x1;obtain⟨l,el,h0,hf,vs,q,z,r⟩:=I.ownAt rfl es;refine⟨_,el,Hf0,H0,al,ρ,x,I,T,λy a9 H2 L r2=>?_⟩;have ey:=lI U r2;subst ey;refine⟨l,_,rfl,mF.k (L.h _ _ q) (by rw[cG,io];lia),?_⟩;refine k σ a9 _ (x1.f.trans L.f) ((I.step L).mutd rfl rfl es el ⟨fQ ks vs ky v,?_,Bb z,(r.up L.f).put (r1.up L.f)⟩);rw[bI,Ba z]
     .nomatch B
    .nomatch B
variable{i' value:Expr}
def Bc{pos:Pos}(L:X.A.units+64<cLine)(z:PE X e (eG i))(q:DE c X i' fk)(I:DE c X value fv)(B:fF value (aa (.Subscript e i' b0)) pos.line X.env=pure ag:=by rfl):
  DS c X (.Assign [.Subscript e i' b0] value pos) (lJ i fk fv):=Hk (Am (by lia) z q I B)
def Hl:∀{ks:List Key} {vs:List V},ks.length=vs.length->(eI (ks.zip vs) k).isSome=fc ks k:=λ{ks vs} h=>by
 rw[<- qL,vV h]
abbrev lK(i:Nat)(fk fv:MF1)(ρ:LS):Option Fl:=(fv ρ).bind λd=>(fk ρ).bind λx=>match x with
 | .int k=>(match ρ[i]? with
  |some (.own xs)=>(ixN xs.length k).map λj=>.nx (ρ.set i (.own (xs.set j d)))
  | _=>ab)
 | _=>ab
def Hm(hp:PS X st (j0 (tD (Gx c X) fv) (u5 (eG i) (tD (Gx c X) fk) vi))):DS c X st (lK i fk fv):=PS.imp hp λE σ H q_=>by
 obtain⟨Hf0,H0,Hf,ρ,o,so,z,k⟩:=q_;unfold lK at z
 cases M:fv ρ with
 |none=>rw[M]at z;nomatch z
 |some d=>
  rw[M]at z
  cases T:fk ρ with
  |none=>rw[T]at z;nomatch z
  |some x=>
   rw[T]at z
   obtain⟨I,rfl⟩:∃I,x=.int I:=by cases x <;> first |exact⟨_,rfl⟩ |nomatch z
   replace z:(match ρ[i]? with |some (.own xs)=>(ixN xs.length I).map λj=>Fl.nx _ | _=>ab)=aa o:=z
   split at z
   .rename_i xs es
    cases U:ixN xs.length I with
    |none=>rw[U]at z;nomatch z
    |some j=>
     rw[U]at z;cases z;refine⟨Hf0,H0,Hf,ρ,d,so,M,λv al H1 x1 r1=>?_⟩;have B:=so.step x1;obtain⟨l,el,h0,hf,vs,q,r⟩:=B.ownAt rfl es;refine⟨_,el,Hf0,H0,al,ρ,.int I,B,T,λy a9 H2 L r2=>?_⟩;exact⟨l,vs,I,j,rfl,r2,(L.h _ _ q),by rw[<- r.length];exact U,(k σ a9 _ (x1.f.trans L.f) ((B.step L).mutd rfl rfl es el ⟨vs.set j v,bI,(r.up L.f).set j (r1.up L.f)⟩))⟩
   .nomatch z
def Ho{pos:Pos}(I:PE X e (eG i))(B:DE c X i' fk)(M:DE c X value fv)(L:nQ [.Subscript e i' b0] value pos.line X.env=pure ag:=by rfl)(T:nR [.Subscript e i' b0] value X.env=pure ab:=by rfl)
 (q:(eD [.Subscript e i' b0] X.env).map (·.2)=[gE (.Subscript e i' b0) X.env]:=by rfl)
 (z:∀ v,gE (.Subscript e i' b0) X.env v=(do
   let ov <- gD [v] (eval e X.env)
   let iv <- gD [v,ov] (eval i' X.env)
   standAt b0
   gD [v,ov,iv] (setItem ov iv v)
   release [v,ov,iv] []):=by intro _;rfl):
  DS c X (.Assign [.Subscript e i' b0] value pos) (lK i fk fv):=Hm (qu M (zG I B Aa z) L T q)
def vW{G:Gc}{H:Hp}{f:D->D->Option Bool}(T:∀(L M x:D) (B I:Bool) (v:V),Rep G H L v->Rep G H M v->f L x=aa B->f M x=aa I->B=I):
  ∀{q z ys:LD} {B I:Bool} {vs:List V},ay G H q vs->ay G H z vs->dn f q ys=aa B->dn f z ys=aa I->B=I
 | [],[],[],_,_,_,_,_,h1,h2=>by cases h1;cases h2;rfl
 | [],[],_::_,_,_,_,_,_,h1,h2=>by cases h1;cases h2;rfl
 | [],_::_,_,_,_,_,r1,r2,_,_=>by have:=r1.length;have:=r2.length;simp at *;lia
 | _::_,[],_,_,_,_,r1,r2,_,_=>by have:=r1.length;have:=r2.length;simp at *;lia
 | _::_,_::_,[],_,_,_,_,_,h1,h2=>by cases h1;cases h2;rfl
 |L::q,M::z,y::ys,B,I,vs,r1,r2,h1,h2=>by
  obtain⟨v,r,e,p1,q1⟩:=r1;obtain⟨v',r',U,p2,q2⟩:=r2;subst e;cases U;obtain⟨a1,a2,e1,e2,rfl⟩:=rg h1;obtain⟨c1,c2,g1,g2,rfl⟩:=rg h2;rw[(T _ _ _ _ _ _ p1 p2 e1 g1),(vW T q1 q2 e2 g2)]
abbrev vD:V->D
 |.bl b=>.bl b
 |.int i=>.int i
 |.str x=>.str x
 | _=>.non
def Bd(s:d.scalar=ac)(r:Rep G H d v):d=vD v:=by
 cases d <;> first |(cases s;done) |(rw[show v=_ from r];rfl)
def rP{a:Addr}(s:d.scalar=ac)(r:Rep G H d (.ref a)):False:=by
 cases d <;> first |(cases s;done) |(cases (r))
def rQ{G:Gc}{H:Hp}:∀(n:Nat) {d1 d2 x:D} {b1 b2:Bool} {v:V},Rep G H d1 v->Rep G H d2 v->deq n d1 x=aa b1->deq n d2 x=aa b2->b1=b2
 | 0,_,_,_,_,_,_,_,_,h,_=>by cases h
 |n+1,d1,d2,x,b1,b2,v,r1,r2,h1,h2=>by
  replace h1:lz _ d1 x=aa b1:=h1;replace h2:lz _ d2 x=aa b2:=h2
  have L:∀{xs ys:LD},d1=.lst xs->d2=.lst ys->b1=b2:=λ{xs ys} M z=>by
   subst M z;obtain⟨a,vs,e,q,rs⟩:=r1;obtain⟨a',hY,I,U,B⟩:=r2;rw[e]at I;cases I;rw[q]at U;cases U;have l1:=rs.length;have l2:=B.length
   cases x with
   |lst zs=>
    replace h1:(if xs.length=zs.length then dn _ xs zs else aa ag)=aa b1:=h1;replace h2:(if ys.length=zs.length then dn _ ys zs else aa ag)=aa b2:=h2
    by_cases hl:xs.length=zs.length
    .rw[if_pos hl]at h1;rw[if_pos (by lia)]at h2;exact vW (f:=deq n) (λ_ _ _ _ _ _=>rQ n) rs B h1 h2
    .rw[if_neg hl]at h1;rw[if_neg (by lia)]at h2
     cases h1;cases h2;rfl
   | _=>cases h1
  have T:∀{xs ys:LD},d1=.tup xs->d2=.tup ys->b1=b2:=λ{xs ys} M z=>by
   subst M z;obtain⟨a,vs,e,q,rs⟩:=r1;obtain⟨a',hY,I,U,B⟩:=r2;rw[e]at I;cases I;rw[q]at U;cases U;have l1:=rs.length;have l2:=B.length
   cases x with
   |tup zs=>
    replace h1:(if xs.length=zs.length then dn _ xs zs else ab)=aa b1:=h1;replace h2:(if ys.length=zs.length then dn _ ys zs else ab)=aa b2:=h2
    by_cases hl:xs.length=zs.length
    .rw[if_pos hl]at h1;rw[if_pos (by lia)]at h2;exact vW (f:=deq n) (λ_ _ _ _ _ _=>rQ n) rs B h1 h2
    .rw[if_neg hl]at h1
     cases h1
   | _=>cases h1
  have no:∀{d:D} {b:Bool},lz (deq n) d x=aa b->d.scalar=ac\/(∃xs,d=.lst xs)\/∃xs,d=.tup xs:=λ{d b} h=>by
   unfold lz at h;split at h
   .exact .inr (.inl ⟨_,rfl⟩)
   .exact .inr (.inr ⟨_,rfl⟩)
   .split at h
    .rename_i hc;rw[cS,cS]at hc;exact .inl hc.1.1
    .cases h
  rcases no h1 with s1 |⟨xs,M⟩ |⟨xs,M⟩
  .have:d1=d2:=by
    rcases no h2 with s2 |⟨ys,z⟩ |⟨ys,z⟩
    .rw[Bd s1 r1,<- Bd s2 r2]
    .subst z;obtain⟨a,_,e,_⟩:=r2;subst e;exact(rP s1 r1).elim
    .subst z;obtain⟨a,_,e,_⟩:=r2;subst e;exact(rP s1 r1).elim
   subst this;rw[h1]at h2;cases h2;rfl
  .rcases no h2 with s2 |⟨ys,z⟩ |⟨ys,z⟩
   .subst M;obtain⟨a,_,e,_⟩:=r1;subst e;exact(rP s2 r2).elim
   .exact L M z
   .subst M z;obtain⟨a,vs,e,q,rs⟩:=r1;obtain⟨a',hY,I,U,B⟩:=r2;rw[e]at I;cases I;rw[q]at U;cases U
  .rcases no h2 with s2 |⟨ys,z⟩ |⟨ys,z⟩
   .subst M;obtain⟨a,_,e,_⟩:=r1;subst e;exact(rP s2 r2).elim
   .subst M z;obtain⟨a,vs,e,q,rs⟩:=r1;obtain⟨a',hY,I,U,B⟩:=r2;rw[e]at I;cases I;rw[q]at U;cases U
   .exact T M z
abbrev iE(x:D):LD->Option Bool
 | []=>aa ag
 |d::ds=>(deq 19 d x).bind λb=>(iE x ds).map λr=>b || r
def Be{x:D}(h:iE x (d::ds)=aa b):∃q z,deq 19 d x=aa q/\iE x ds=aa z/\b=(q || z):=by
 unfold iE at h
 cases B:deq 19 d x with
 |none=>rw[B]at h;nomatch h
 |some q=>
  cases I:iE x ds with
  |none=>rw[B,I]at h;nomatch h
  |some z=>rw[B,I]at h;cases h;exact⟨q,z,rfl,rfl,rfl⟩
def vX{q:Type}{f g:q->Bool}:∀{l:List q},(∀x∈l,f x=g x)->l.any f=l.any g
 | [],_=>rfl
 |x::l,h=>by rw[eS,eS,h x bW,vX λy z=>h y (c8 _ z)]
open Classical in
def Bg{pins:PNS}{σ:St}{H:Hp}{s:aE}{A:dH}{x:D}{vx:V}{u:Value}(I:Inv X pins σ H s)(hu:A.units+19<cLine)(rx:Rep (Gx c X) H x vx)(ru:aP vx u):
  ∀{ds:LD} {vs:List V} {us:LVa} {b:Bool},ay (Gx c X) H ds vs->aS vs us->iE x ds=aa b ->
   ∃f:Value->Bool,(∀y∈us,c5 A s y u (f y)/\∃d v,Rep (Gx c X) H d v/\aP v y/\deq 19 d x=aa (f y))/\us.any f=b
 | [],_,_,b,r,rv,h=>by
  cases (show _=[]from r);cases rv;cases h
  exact⟨λ_=>ag,(λy L=>by cases L),rfl⟩
 |d::ds,_,_,b,q4_,rv,h=>by
  obtain⟨v,r',U,r1,r2⟩:=q4_;subst U;obtain⟨M,b2,h1,h2,rfl⟩:=Be h
  cases rv with
  | @cons _ y _ us B rvs=>
   obtain⟨f,hf,ha⟩:=Bg I hu rx ru r2 rvs h2;have T:c5 A s y u M:=vG I 19 hu h1 r1 rx B ru;refine⟨λz=>if z=y then M else f z,λz hz=>?_,?_⟩
   .by_cases e:z=y
    .subst e;simp only[if_true];exact⟨T,d,v,r1,B,h1⟩
    .simp only[e,if_false];exact hf z ((bX.mp hz).resolve_left e)
   .rw[eS,if_pos rfl,<- ha]
    congr 1
    by_cases L:y∈us
    .obtain⟨_,d',v',r',rv',h'⟩:=hf y L;have U:v'=v:=aP.inj rv' B;subst U;have eb:f y=M:=rQ 19 r' r1 h' h1;refine vX λz hz=>?_
     by_cases e:z=y
     .subst e;simp[eb]
     .simp[e]
    .refine vX λz hz=>?_;have e:z≠y:=λq=>L (q▸hz);simp[e]
abbrev eX(f g:MF1)(ρ:LS):OLD:=(f ρ).bind λx=>(g ρ).bind λy=>match x,y with
 |.lst a,.lst b=>if a.length+b.length<=16777216 then aa (a++b) else ab
 | _,_=>ab
def Hq{f g:MF1}(h:eX f g ρ=aa ds):∃a b,f ρ=aa (.lst a)/\g ρ=aa (.lst b)/\a.length+b.length<=16777216/\ds=a++b:=by
 unfold eX at h
 cases q:f ρ with
 |none=>rw[q]at h;nomatch h
 |some x=>
  cases z:g ρ with
  |none=>rw[q,z]at h;nomatch h
  |some y=>
   rw[q,z,aC,aC]at h;split at h
   .split at h
    .rename_i a b B;cases h;exact⟨a,b,rfl,rfl,B,rfl⟩
    .nomatch h
   .nomatch h
def lL{pos:Pos}{b:Expr}{f g:MF1}(T:DE c X a f)(U:DE c X b g):DO c X (.BinOp a .Add b pos) (eX f g):=PE.imp (u7 Ag T U) λσ H Q q_=>by
 obtain⟨Hf0,H0,Hf,ρ,ds,st,L,k⟩:=q_;obtain⟨xs,ys,B,I,hl,rfl⟩:=Hq L;refine⟨Hf0,H0,Hf,ρ,_,st,B,λv al H1 z r1=>⟨Hf0,H0,al,ρ,_,st.step z,I,λu a9 H2 q r2=>?_⟩⟩;obtain⟨l,vs,M,q1,s1⟩:=r1.up q.f;obtain⟨m,us,em,q2,s2⟩:=r2;subst M em;have x:=z.trans q;exact⟨l,m,vs,us,rfl,rfl,q.s _ _ q1,q.s _ _ q2,by rw[cG,<- s1.length,<- s2.length];exact hl,λp hp=>k p _ a9 _ (x.trans (Ext.tmp x.s hp)) (x.h.free hp) (x.s.free hp) bI (s1.append s2)⟩
abbrev wp(F:MF3)(ρ:LS)(K:Fl->Prop):Prop:=∃o,F ρ=aa o/\K o
abbrev Bh(F:MF3)(K:Fl->Prop):Fl->Prop
 |.nx ρ=>wp F ρ K
 |o=>K o
abbrev Bi(J:LS->Prop)(K:Fl->Prop):Fl->Prop
 |.nx ρ=>J ρ
 |.ct ρ=>J ρ
 |.bk ρ=>K (.nx ρ)
 |o=>K o
abbrev mR(Q:D->Prop)(o:Fl):Prop:=∃d,AX o=aa d/\Q d
variable{K:Fl->Prop}
def ap(h:wp F ρ (Bh F' K)):wp (aq F F') ρ K:=by
 obtain⟨o,e,k⟩:=h;unfold wp aq;rw[e]
 cases o with
 |nx ρ'=>exact k
 | _=>exact⟨_,rfl,k⟩
def bA(h:K (.nx ρ)):wp bU ρ K:=⟨_,rfl,h⟩
def b8{f:MF1}(h:f ρ=aa d)(k:K (.nx (ρ.set i (.im d)))):wp (bO i f) ρ K:=⟨_,GY h,k⟩
def dW{f:MF2}{d:LD}(h:f ρ=aa d)(k:K (.nx (ρ.set i (.own d)))):wp (du i f) ρ K:=⟨_,GZ h,k⟩
def cw{f:MF1}(h:f ρ=aa d)(k:K (.rt d)):wp (bR f) ρ K:=⟨_,G0 h,k⟩
def vY{f:MF2}{d:LD}(h:f ρ=aa d)(k:K (.rtO d)):wp (lE f) ρ K:=⟨_,by unfold lE;rw[h];rfl,k⟩
def oM{o:Fl}(h:F ρ=aa o)(k:K o):wp F ρ K:=⟨_,h,k⟩
def ba(h:t ρ=aa b)(z:b=ac->wp F ρ K)(q:b=ag->wp F' ρ K):wp (bK t F F') ρ K:=by
 unfold wp bK;rw[h]
 cases b with
 |true=>exact z rfl
 |false=>exact q rfl
def gg(e:vM i ρ=ρ')(h:wp F ρ' K):wp (fb i F) ρ K:=by
 subst e;exact h
def ja{f:MF1}(h:f ρ=aa d)(h':ρ[i]?=aa (.own xs))(q:xs.length<16777216)(k:K (.nx (ρ.set i (.own (xs++[d]))))):wp (gc i f) ρ K:=⟨_,G7 h h' q,k⟩
def jb{f:MF1}(h:f ρ=aa d)(k:K (.nx ρ)):wp (fI f) ρ K:=⟨_,G8 h,k⟩
def Hr{k:Int}(I:fv ρ=aa d)(B:fk ρ=aa (.int k))(h':ρ[i]?=aa (.own xs))(q:0<=k)(z:k<xs.length):lK i fk fv ρ=aa (.nx (ρ.set i (.own (xs.set k.toNat d)))):=by
 have e:ixN xs.length k=aa k.toNat:=by
  unfold ixN;rw[if_pos q,if_pos z]
 unfold lK;rw[I,aC,B,aC,h'];show(ixN xs.length k).map _=_;rw[e];rfl
def Hs{k:Int}(L:fv ρ=aa d)(I:fk ρ=aa (.int k))(h':ρ[i]?=aa (.own xs))(z:0<=k)(B:k<xs.length)(q:K (.nx (ρ.set i (.own (xs.set k.toNat d))))):wp (lK i fk fv) ρ K:=⟨_,Hr L I h' z B,q⟩
def Bj{M:Type}{g:D->LS->Option LS}{F:MF3}{K:Fl->Prop}(f:M->D)(I:List M->LS->Prop):∀(post pre:List M) (ρ:LS),I pre ρ ->
  (∀z x L ρ,pre++post=z++x::L->I z ρ->∃ρ1,g (f x) ρ=aa ρ1/\wp F ρ1 (Bi (I (z++[x])) K))->(∀ρ',I (pre++post) ρ'->K (.nx ρ'))->wp (hJ g F (post.map f)) ρ K
 | [],pre,ρ,h,_,hk=>⟨_,rfl,hk ρ (by rw[eB];exact h)⟩
 |x::post,pre,ρ,h,hs,hk=>by
  obtain⟨ρ1,T,o,U,B⟩:=hs pre x post ρ rfl h;unfold wp;rw[cY];unfold hJ;rw[T,aC,U,aC]
  have go:=λq h2=>
   Bj f I post (pre++[x]) q h2 (by rw[gm];exact hs) (by rw[gm];exact hk)
  cases o with
  |nx q=>exact go q B
  |ct q=>exact go q B
  |bk q=>exact⟨_,rfl,B⟩
  |rt d=>exact⟨_,rfl,B⟩
  |rtO d=>exact⟨_,rfl,B⟩
  |rtS d q=>exact⟨_,rfl,B⟩
  |rtT o=>exact⟨_,rfl,B⟩
def cK{q:Type}(xs:List q)(f:q->D)(I:List q->LS->Prop)(hi:fi ρ=aa (xs.map f))(z:I [] ρ)
 (L:∀pre x post ρ,xs=pre++x::post->I pre ρ->∃ρ1,g (f x) ρ=aa ρ1/\wp F ρ1 (Bi (I (pre++[x])) K))(B:∀ρ',I xs ρ'->K (.nx ρ')):wp (cC fi g F) ρ K:=by
 obtain⟨o,e,k⟩:=Bj f I xs [] ρ z L B;refine⟨o,?_,k⟩;unfold cC;rw[hi];exact e
variable{Q:D->Prop}
def Bk(h:wp F (ki n ds) (mR Q)):∃d,bL n F ds=aa d/\Q d:=by
 obtain⟨o,e,d,z,q⟩:=h;refine⟨d,?_,q⟩;unfold bL;rw[e];exact z
def b9{r:D}(h:wp F (ki n ds) (mR λd=>d=r)):bL n F ds=aa r:=by
 obtain⟨d,e,q⟩:=Bk h;rw[e,q]
def cx(h:Q d):mR Q (.rt d):=⟨d,rfl,h⟩
def iF{d:LD}(h:Q (.lst d)):mR Q (.rtO d):=⟨.lst d,rfl,h⟩
variable{i:Int}
def lM(h:0<j):i3 (.int i) (.int j)=aa (.int (i % j)):=rL h
def rR(h:mD i j):mL (.int i) (.int j)=aa (.int (i / j)):=rL h
def rS(h:nY i j):lx (.int i) (.int j)=aa (.int (i ^ j.toNat)):=rL h
def gh:cN (.int i) (.int j)=aa (.int (i+j)):=rfl
def iG:iC (.int i) (.int j)=aa (.int (i-j)):=rfl
def oN:dLt (.int i) (.int j)=aa (.bl (decide (i<j))):=rfl
def mS:dLe (.int i) (.int j)=aa (.bl (decide (i<=j))):=rfl
def iH:dGt (.int i) (.int j)=aa (.bl (decide (j<i))):=rfl
def Bl:dGe (.int i) (.int j)=aa (.bl (decide (j<=i))):=rfl
def dZ{q:Type}(xs:List q)(f:q->D):cu [.lst (xs.map f)]=aa (.int xs.length):=by
 show aa _=_;rw[av]
def Ht{q:Type}(f:q->D)(xs:List q)(lo hi:Option Int):mN (xs.map f) lo hi=((xs.drop (HT.sIx xs.length 0 lo)).take (HT.sIx xs.length xs.length hi-HT.sIx xs.length 0 lo)).map f:=by
 unfold mN;rw[av,map_take,map_drop]
variable{lo hi:Option Int}
def rT{q:Type}{f:MF1}{l h:LS->Option (Option Int)}{g:q->D}{xs:List q}(e:f ρ=aa (.lst (xs.map g)))(z:l ρ=aa lo)(B:h ρ=aa hi):mSl f l h ρ=aa (((xs.drop (HT.sIx xs.length 0 lo)).take (HT.sIx xs.length xs.length hi-HT.sIx xs.length 0 lo)).map g):=by
 unfold mSl;rw[e,aC];show(l ρ).bind _=_;rw[z,aC,B,<- Ht];rfl
def Bm{q:Type}(g:q->D)(d:q):∀(xs:List q),lH 0 (xs.map g)=(ci xs.length).map λi=>D.tup [.int (i:Nat),g (xs.getD i d)]:=λxs=>by
 refine k6 λi=>?_;rw[vS,d7,d7]
 by_cases h:i<xs.length
 .rw[cr h,pX h,p8];simp[h]
 .rw[pU (by lia),pU (by rw[dP];lia)];rfl
def Bo{q:Type}{f:MF2}{g:q->D}{xs:List q}(d:q)(e:f ρ=aa [.lst (xs.map g)]):jG f ρ=aa ((ci xs.length).map λi=>D.tup [.int (i:Nat),g (xs.getD i d)]):=by
 unfold jG;rw[e,<- Bm];rfl
abbrev kJ(J:LS->Prop)(o:Fl):Prop:=∃ρ',o=.nx ρ'/\J ρ'
def k_J{J:LS->Prop}(h:J ρ):kJ J (.nx ρ):=⟨ρ,rfl,h⟩
def km{S:MF3}(J:LS->Prop)(h:wp S ρ (kJ J))(k:∀ρ',J ρ'->wp F ρ' K):wp (aq S F) ρ K:=by
 apply ap;obtain⟨o,e,ρ',rfl,j⟩:=h;exact⟨_,e,k ρ' j⟩
def vZ{i:Nat}(h:ρ[i]?=aa (.im d))(k:K (.rt d)):wp (eV i) ρ K:=⟨_,by unfold eV;rw[h],k⟩
def ko{i:Nat}{d:LD}(h:ρ[i]?=aa (.own d))(k:K (.rtO d)):wp (eV i) ρ K:=⟨_,by unfold eV;rw[h],k⟩
abbrev D.flat:D->Bool
 |.tup xs=>xs.all D.scalar
 |d=>d.scalar
abbrev mT(Hf H:Hp):Hp:=λa=>match H a with
 |some (.tup vs)=>aa (.tup vs)
 | _=>Hf a
def v0{a:Addr}(h:H a=aa (.tup vs)):mT Hf H a=aa (.tup vs):=by
 unfold mT;rw[h]
def v3{a:Addr}(h:∀vs,H a≠aa (.tup vs)):mT Hf H a=Hf a:=by
 unfold mT;split
 .rename_i vs e;exact absurd e (h vs)
 .rfl
def Hu(s:aM Hf H)(g:aM H H'):Ext Hf H (mT Hf H') H':=by
 refine⟨λb u e=>?_,g,λb u e=>?_,λl o e t=>v3 λvs q=>?_⟩
 .have z:=g b u (s b u e)
  cases u with
  |tup vs=>exact v0 z
  | _=>
   rw[v3 (λvs q=>by rw[z]at q;nomatch q)];exact e
 .by_cases h:∃vs,H' b=aa (.tup vs)
  .obtain⟨vs,h⟩:=h;rw[v0 h]at e;rw[h];exact e
  .rw[v3 (λvs q=>h ⟨vs,q⟩)]at e;exact g b u (s b u e)
 .rw[g l o e]at q;cases q
  nomatch t
def ay.sc{G:Gc}{H H':Hp}:∀{ds:LD} {vs:List V},ds.all D.scalar=ac->ay G H ds vs->ay G H' ds vs
 | [],_,_,h=>h
 |d::ds,_,hs,q3_=>by
  obtain⟨v,r,e,q,z⟩:=q3_;rw[jR,cS]at hs;exact⟨v,r,e,q.sc hs.1,ay.sc hs.2 z⟩
def Rep.flat(z:d.flat=ac)(r:Rep G H d v):Rep G (mT Hf H) d v:=by
 cases d with
 |tup xs=>
  obtain⟨a,vs,e,h,q⟩:=r
  exact⟨a,vs,e,v0 h,q.sc z⟩
 |non=>exact r.sc z
 |bl _=>exact r.sc z
 |int _=>exact r.sc z
 |str _=>exact r.sc z
 |lst _=>nomatch z
 |kl _=>nomatch z
 |kt _=>nomatch z
 |dic _ _=>nomatch z
 |ins _ _ _=>nomatch z
 |kd _ _=>nomatch z
 |dT _ _=>nomatch z
abbrev hX(m:LD->OD)(f:MF2)(ρ:LS):OD:=(f ρ).bind λds=>(m ds).bind λd=>if d.flat then aa d else ab
variable{k:Nat}
def rV{pos:Pos}{f:Addr}(pk:Pk X.prog X.w X.K X.mg X.base CX0 k x (f,fd) ps (spD (Gx c X) ps.length m))(T:dL k0 X.A)(U:DAB c X (e::es) fa)(hl:(e::es).length=ps.length:=by rfl)(I:NDb x:=by decide)(he:StE X e es:=by rfl)(M:BkE X pos es:=by rfl)(L:k<=k0:=by decide)(hg:Gl X x:=by first |rfl |exact glc rfl):
  DE c X (.Call (.Name x p) (e::es) [] pos) (hX m fa):=PE.imp (qC pk.ok (T.mono L) hg pk.g pk.kp pk.b .nil qH U.pa I he M) λσ H Q q_=>by
 obtain⟨Hf0,H0,Hf,ρ,d,st,q,kq⟩:=q_;unfold hX at q
 cases z:fa ρ with
 |none=>rw[z]at q;nomatch q
 |some ds=>
  rw[z]at q;replace q:(m ds).bind _=_:=q
  cases B:m ds with
  |none=>rw[B]at q;nomatch q
  |some d'=>
   rw[B]at q;replace q:(if d'.flat=ac then aa d' else ab)=aa d:=q;split at q
   .rename_i hs;cases q;refine⟨Hf0,H0,Hf,ρ,ds,st,z,λvs Hf' H' x r=>?_⟩;rw[eB];exact⟨H',ds,_,aM.refl _,r,(U.len ρ ds z).trans hl,B,λv a9 H2 x2 r2=>kq v _ H2 (x.trans (Hu x.s x2.h)) ((r2.up x2.s).flat hs)⟩
   .nomatch q
abbrev lN(m q:D->D->OD)(f g h:MF1)(ρ:LS):OD:=(f ρ).bind λx=>(g ρ).bind λy=>(m x y).bind λz=>match z with
 |.bl ac=>(h ρ).bind λw=>q y w
 |.bl ag=>aa (.bl ag)
 | _=>ab
variable{m':D->D->OD}
def Hv{m:D->D->OD}{f g h:MF1}(e:lN m m' f g h ρ=aa d):∃x y b,f ρ=aa x/\g ρ=aa y/\m x y=aa (.bl b)/\(b=ag->d=.bl ag)/\(b=ac->∃w,h ρ=aa w/\m' y w=aa d):=by
 unfold lN at e
 cases I:f ρ with
 |none=>rw[I]at e;nomatch e
 |some x=>
  cases L:g ρ with
  |none=>rw[I,L]at e;nomatch e
  |some y=>
   rw[I,L,aC,aC]at e
   cases B:m x y with
   |none=>rw[B]at e;nomatch e
   |some z=>
    rw[B,aC]at e
    cases z with
    |bl b=>
     cases b with
     |false=>
      exact⟨x,y,ag,rfl,rfl,B,λ_=>(cj e).symm,λq=>by nomatch q⟩
     |true=>
      cases M:h ρ with
      |none=>rw[M]at e;nomatch e
      |some w=>rw[M]at e;exact⟨x,y,ac,rfl,rfl,B,λq=>(by nomatch q),λ_=>⟨w,rfl,e⟩⟩
    | _=>nomatch e
def Bp{pos:Pos}{b c':Expr}{B:CmpOp}{m:D->D->OD}{f g h:MF1}(ho:OpD c X (cU op) m)(hs:∀x y d,m x y=aa d->d.scalar=ac)(ho':OpD c X (cU B) m')(hs':∀x y d,m' x y=aa d->d.scalar=ac)(ha:DB c X a f)(hb:DB c X b g)(hc:DB c X c' h)
 (hm:lastMarks [op,B] [b,c']=ag:=by with_unfolding_all rfl):DE c X (.Compare a [op,B] [b,c'] pos) (lN m m' f g h):=PE.imp (FB ho ho' ha hb hc hm) λσ H Q q_=>by
 obtain⟨Hf0,H0,Hf,ρ,d,st,ef,k⟩:=q_;obtain⟨x,y,U,e1,e2,e3,eF,eT⟩:=Hv ef;refine⟨Hf0,H0,Hf,ρ,x,st,e1,λv al H1 M r1=>⟨Hf0,H0,al,ρ,y,st.step M,e2,λu a9 H2 L r2=>⟨H2,x,y,.bl U,aM.refl _,r1.up L.h,r2,e3,λz Hf3 H3 x3 r3=>⟨U,r3,?_⟩⟩⟩⟩;have I:=Ext.grow L.s x3.h
 cases U with
 |false=>
  exact k _ a9 H3 ((M.trans L).trans I) (by rw[eF rfl];rfl)
 |true=>
  obtain⟨w,e4,e5⟩:=eT rfl;exact⟨Hf0,H0,a9,ρ,w,((st.step (M.trans L)).step I),e4,λw' T H4 x4 r4=>⟨H4,y,w,d,aM.refl _,r2.up (x3.h.trans x4.h),r4,e5,λq Hf5 H5 x5 r5=>k _ T H5 (((M.trans L).trans I).trans (x4.trans (Ext.grow x4.s x5.h))) (r5.sc (hs' _ _ _ e5))⟩⟩
def Hw{f:MF2}(h:f ρ=aa ds)(h':m ds=aa d)(q:d.flat=ac):hX m f ρ=aa d:=by
 unfold hX;rw[h,aC,h',aC,if_pos q]
variable{m:D->D->OD}
def Bq{f g h:MF1}{x w:D}{q:Bool}(z:f ρ=aa x)(B:g ρ=aa y)(I:m x y=aa (.bl b))(L:h ρ=aa w)(M:m' y w=aa (.bl q)):lN m m' f g h ρ=aa (.bl (b && q)):=by
 unfold lN;rw[z,aC,B,aC,I,aC]
 cases b with
 |false=>rfl
 |true=>
  rw[L];exact M
def Br{k:Int}(h:k.natAbs<2 ^ n):qj k<=n:=by
 unfold qj;split
 .exact iw _
 .rename_i q;have:k.natAbs≠0:=λz=>q (by rw[Int.natAbs_eq_zero.mp z];rfl);exact(Nat.log2_lt this).mpr h
abbrev kr(i j:Int):Prop:=n4 i j\/(i.natAbs<2 ^ 200/\j.natAbs<2 ^ 200)
def kr.ok(h:kr i j):IntMulOk i j:=by
 rcases h with h |⟨h1,h2⟩
 .exact h.ok
 .have a:=Br h1;have b:=Br h2;unfold IntMulOk
  have:cZ.Int.intTooBig (qj i+qj j)=ag:=by
   have c:400<=bitsLine:=by decide
   exact decide_eq_false (by lia)
  rw[this,Bool.and_false];exact bS
noncomputable instance {i j:Int}:Decidable (kr i j):=by unfold kr;infer_instance
@[reducible]noncomputable def gO:D->D->OD:=dI kr λi j=>.int (i*j)
def Hx:OpR X (fo .Mult) (rI kr λi j=>.int (i*j)):=opI λ_ _ _ _ _ _ _ z q=>mul_int q z.ok
def jH:OpD c X (fo .Mult) gO:=rc Hx λ_ _ _ _=>rfl
def jc(h:kr i j):gO (.int i) (.int j)=aa (.int (i*j)):=rL h
abbrev lO(g:D->LS->Option LS)(f:MF1)(ρ:LS):Option Fl:=(f ρ).bind λd=>(g d ρ).map .nx
def v4{pos:Pos}{f:MF1}(T:DE c X e f)(U:DG c X tg k g)(hs:nQ [tg] e pos.line X.env=pure ag:=by rfl)(hw:nR [tg] e X.env=pure ab:=by rfl)
 (M:(eD [tg] X.env).map (·.2)=[gE tg X.env]:=by rfl):DS c X (.Assign [tg] e pos) (lO g f):=PS.imp (qu T U.pg hs hw M) λE σ H q_=>by
 obtain⟨Hf0,H0,Hf,ρ,o,L,q,kq⟩:=q_;unfold lO at q
 cases z:f ρ with
 |none=>rw[z]at q;cases q
 |some d=>
  rw[z,aC]at q
  cases B:g d ρ with
  |none=>rw[B]at q;cases q
  |some ρ'=>
   rw[B]at q;cases q;exact⟨Hf0,H0,Hf,ρ,d,L,z,λv Hf' H' x r=>⟨Hf0,H0,Hf',ρ,d,ρ',L.step x,r,B,λσ' I=>kq σ' Hf' H' x.f I⟩⟩
def v5{f:MF1}(h:f ρ=aa d)(h':g d ρ=aa ρ')(k:K (.nx ρ')):wp (lO g f) ρ K:=⟨_,by unfold lO;rw[h,aC,h'];rfl,k⟩
set_option maxRecDepth 100000
def oO:Slot "list_reverseiterator" "__next__" "list_reverseiterator.__next__":=Slot.of (n:="__next__") (owner:="list_reverseiterator")
 (by rw[lh,lf];kernel_rfl) (by decide +kernel) (by decide +kernel) (by decide +kernel) (by first |exact cf (by decide +kernel) |exact bw (by decide +kernel)) (by rw[nP];kernel_rfl)
def Bs:Slot "list_reverseiterator" "__iter__" "list_reverseiterator.__iter__":=Slot.of (n:="__iter__") (owner:="list_reverseiterator")
 (by rw[lh,lf];kernel_rfl) (by decide +kernel) (by decide +kernel) (by decide +kernel) (by first |exact cf (by decide +kernel) |exact bw (by decide +kernel)) (by rw[nP];kernel_rfl)
def Bt:entryFor table "list_reverseiterator.__next__"=aa cZ.«list_reverseiterator.__next__»:=by exact entryFor_of_fast (by kernel_rfl)
def Hy:entryFor table "list_reverseiterator.__iter__"=aa cZ.«dict_keyiterator.__iter__»:=by exact entryFor_alias (id':="dict_keyiterator.__iter__") (by kernel_rfl) rfl (by decide +kernel) (by kernel_rfl)
def Bu(v:Value):argsOk "list_reverseiterator.__next__" ⟨[v],[]⟩:=by(unfold argsOk;kernel_rfl)
def Hz(v:Value):argsOk "list_reverseiterator.__iter__" ⟨[v],[]⟩:=by(unfold argsOk;kernel_rfl)
abbrev hZ(h:Heap)(it l:Addr)(j:Int):Prop:=∃o,h.get? it=aa o/\o.cls=.type "list_reverseiterator" /\ o.data=.fields #[.ref l,gX j]
def hZ.ty(h:hZ s.heap it l j):s.TypeIs (.ref it) "list_reverseiterator":=by
 obtain⟨o,e,c,_⟩:=h;exact⟨o,e,c⟩
def Bv{Q:PRS}(q:hZ s.heap it l j)(h:Q (.ref it) s):wpAny (model P w) A (pyIter (.ref it)) Q E s:=by
 exact wpAny_pyIter_slot q.ty Bs (mn Bs q.ty Hy (aY ⟨gZ it,rfl,"list_reverseiterator",_,q.ty,oO.lookup,h⟩) (Hz _))
def HA{j:Nat}{its:Array Value}{x:Value}{Q:Option Value->aE->Prop}(z:hZ s.heap it l j)(T:s.heap.IsList l its)(U:its[j]?=aa x)
 (L:∀h',hZ h' it l ((j:Int)-1)->gY it s.heap h'->Q (aa x) {s with heap:=h'}):wpAny (model P w) A (iz (.ref it)) Q E s:=by
 obtain⟨o,q,M,hd⟩:=id z;obtain⟨o2,I,_,n2,B⟩:=T;refine ar (qf (nM z.ty oO (mn oO z.ty Bt ?_ (Bu _))));show wpAny _ _ (field _ 1 >>= _) _ _ s;refine ar (gV q hd rfl ?_);refine ar (gV q hd rfl ?_);refine ar (mo I B ?_);simp only[gT,U];refine ar (wpAny_setField q hd (by simp) (aY ⟨x,rfl,aY (L _ ?_ (gY.update ..))⟩));refine⟨_,mv _ q (Obj.isFreed_of_fields (Obj.data_mapFields hd _)),(Obj.cls_mapFields ..).trans M,?_⟩;rw[Obj.data_mapFields hd];simp[gX]
def HB(I:j<0){Q:Option Value->aE->Prop}(B:A.handled=ab)(q:hZ s.heap it l j)
 (z:∀h',Heap.ExtBut it s.heap h'->Q ab {s with heap:=h'}):wpAny (model P w) A (iz (.ref it)) Q E s:=by
 obtain⟨o,L,T,hd⟩:=id q;refine ar (qf (nM q.ty oO (mn oO q.ty Bt ?_ (Bu _))));show wpAny _ _ (field _ 1 >>= _) _ _ s;refine ar (gV L hd rfl ?_);show wpAny _ _ (if j<0 then _ else _) _ _ s;rw[if_pos I];refine ar (ll ?_);refine ar ?_;show wpAny _ _ _ _ _ _;refine ar ?_;simp only[newTuple]
 refine ar (qc ?_ (by size_fits));refine ar (wpAny_of_eq (by first |rfl |(simp only[firstArgMember];rfl)) ?_)
 refine qc ?_ (by size_fits);simp only[raiseNew];refine ar (wpAny_handled ?_);rw[show A.in1.handled=ab from B];refine ar (aY (wpAny_throw ?_));refine ar (wpAny_isInstance ⟨_,dE _ rfl,rfl⟩ isSubtype_stop ?_);exact aY (z _ λb u M e=>(bQ _ (bQ _ e)))
def HC{T U q:String}{Bn:cZ}{args:LVa}{S:Ej}{Q:PRS}{c:Value}{tl:LVa}
 (n1:(iB T==iB "type")=ag)(n2:((Manifest.find? T).bind (·.mro.findSome? λt=>(Manifest.find? t).bind λb=>if b.noNew then aa ac else if b.attrs.any (·.1 == "__new__") then aa ag else ab)).getD ag=ag)
 (hmro:mroOf (.type T)=pure (c::tl))(M:Bind.madeBy (.type T)=pure (aa q))(B:plainId q=ac)(hsub:isSubtype (.type U) (.type T)=pure ag)
 (hct:checkTypeCall T ⟨args,[]⟩=pure ())(L:checkBuiltinCall q ⟨.type T::args,[]⟩=pure ())(z:entryFor table q=aa Bn)(g:Meets (Bn ⟨.type T::args,[]⟩) S)
 (h:S A.in1 (wants (λobj I=>I.TypeIs obj U/\Q obj I) E) s):wpAny (model P w) A (call (.type T) args) Q E s:=by
 refine wpAny_call (codeAny_of_tree ?_);show wpAny _ _ _ _ _ _;refine aY ⟨Code.quiet_builtin _ (by decide +kernel),jU F.entry_type_call ?_⟩;rw[dH.under_plain (weight_type_call_type T args []) (units_type_call_type T args [])]
 repeat (any_goals (first |assumption |wp_step))
 refine li (uN B z (wpAny_of_eq L (g P w A.in1 _ s h))) λr s1 hr=>?_
 cases r with
 |error e=>exact hr
 |ok fl=>
  cases fl with
  |ret obj=>
   obtain⟨hT,hq⟩:=hr
   repeat (any_goals (first |assumption |wp_step))
  | _=>exact hr.elim
def Bw:mroOf (.type "reversed")=pure [.type "reversed",.type "object"]:=by(rw[mroOf_type];kernel_rfl)
def HD:jX (.type "reversed") "__new__"=pure (aa (.builtin "reversed.__new__")):=by(rw[lh,lf];kernel_rfl)
def HE:Bind.madeBy (.type "reversed")=pure (aa "reversed.__new__"):=madeBy_type Bw HD (by decide +kernel)
def HF:isSubtype (.type "list_reverseiterator") (.type "reversed")=pure ag:=by(rw[nP];kernel_rfl)
def HG:entryFor table "reversed.__new__"=aa cZ.«reversed.__new__»:=by exact entryFor_of_tree (by kernel_rfl)
def HH:gU "reversed"=aa (.type "reversed"):=by kernel_rfl
def HI:jX (.type "list") "__reversed__"=pure (aa (.builtin "list.__reversed__")):=by(rw[lh,lf];kernel_rfl)
def HJ(l:Addr)(its:Array Value)(n:Nat)(dc:Option Addr)(sl:Array (Option Value)):Meets (cZ.«list.__reversed__» ⟨[.ref l],[]⟩) (λ_ R s=>s.heap.get? l=aa {cls:=.type "list",dict:=dc,data:=.seq its n,slots:=sl}/\R (.ok (.ret (.ref s.heap.objs.size))) {s with heap:=s.heap.push {cls:=.type "list_reverseiterator",data:=.fields #[.ref l,gX (((its.size:Nat):Int)-1)]}}):=
 .of_wp λprog w A R s h=>by
  obtain⟨q,h⟩:=h
  wp_walk
  exact⟨_,rfl,h⟩
def HK(l:Addr)(its:Array Value)(n:Nat)(dc:Option Addr)(sl:Array (Option Value)):Meets (cZ.«reversed.__new__» ⟨[.type "reversed",.ref l],[]⟩) (λ_ R s=>s.heap.get? l=aa {cls:=.type "list",dict:=dc,data:=.seq its n,slots:=sl}/\R (.ok (.ret (.ref s.heap.objs.size))) {s with heap:=s.heap.push {cls:=.type "list_reverseiterator",data:=.fields #[.ref l,gX (((its.size:Nat):Int)-1)]}}):=
 .of_wp λprog w A R s h=>by
  obtain⟨hp,g,d,q,os⟩:=s;obtain⟨z,h⟩:=h;have M:=HI;have B:isSubtype (.type "reversed") (.type "reversed")=pure ac:=by(rw[nP];kernel_rfl)
  have I:aE.TypeIs ⟨hp,g,d,q,os⟩ (.ref l) "list":=⟨_,z,rfl⟩;have T:=uV.bind (gZ l)
  repeat (any_goals (first |assumption |wp_step))
  have step:gp _ A.in1 _ (λr s'=>r=.ok _/\s'=⟨hp.push {cls:=.type "list_reverseiterator",data:=.fields #[.ref l,gX _]},g,d,q,os⟩) ⟨hp,g,d,q,os⟩:=
   uN uV.plain PySem.F.entry_list_reversed (uV.check _ _ _ _ _ _ _ _ I (PySem.F.args_list_reversed_1 _) (HJ l its n dc sl prog w A.in1 (λr s'=>r=.ok (.ret (.ref hp.objs.size))/\s'=⟨hp.push {cls:=.type "list_reverseiterator",data:=.fields #[.ref l,gX (((its.size:Nat):Int)-1)]},g,d,q,os⟩) ⟨hp,g,d,q,os⟩ ⟨z,rfl,rfl⟩))
  refine li step λr s1 L=>?_;obtain⟨rfl,rfl⟩:=L;exact aY ⟨_,rfl,h⟩
def HL{its:Array Value}{Q:PRS}(z:s.heap.IsList l its)
 (h:∀h',hZ h' s.heap.objs.size l (((its.size:Nat):Int)-1)->(∀b o,s.heap.get? b=aa o->h'.get? b=aa o)->Q (.ref s.heap.objs.size) {s with heap:=h'}):wpAny (model P w) A (call (.type "reversed") [.ref l]) Q E s:=by
 obtain⟨⟨c,q,dt,sl⟩,I,B,n,hd⟩:=z;subst B hd;have L:hZ (s.heap.push {cls:=.type "list_reverseiterator",data:=.fields #[.ref l,gX _]}) s.heap.objs.size l ((its.size:Int)-1):=⟨_,dE _ rfl,rfl,rfl⟩;exact HC (by decide) (by decide +kernel) Bw HE (by decide +kernel) HF (by kernel_rfl) (by kernel_rfl) HG (HK l its n q sl) ⟨I,⟨⟨_,dE _ rfl,rfl⟩,h _ L λb o e=>bQ _ e⟩⟩
abbrev Itv(K:bo)(l:Addr)(n:Nat):It:=
  ⟨λi H=> ∃xs x, SqL K H l xs/\xs.length = n/\xs.reverse[i]? = aa x,
   λi H v H'=> H' = H/\∀xs, SqL K H l xs->xs.reverse[i]? = aa v,
   λi H=> n<=i⟩
def hZ.stay{h:Heap}(q:hZ h it l j)(k:∀o,h.get? it=aa o->h'.get? it=aa o):hZ h' it l j:=by
 obtain⟨o,e,c,d⟩:=q;exact⟨o,k o e,c,d⟩
def HM{K:bo}(l it:Addr)(n:Nat):jA P w K tg (Itv K l n) [it] it (λi h=>hZ h it l ((n:Int)-1-(i:Int))) where
 mem:=by simp
 obj:=λi h st b hb=>by
  have e:b=it:=by simpa using hb
  rw[e];obtain⟨o,e1,c,d⟩:=st;exact⟨o,e1,λv z=>by rw[d]at z;nomatch z⟩
 keep:=λi h h' st k=>st.stay λo e=>k it (by simp) o e
 item:=by
  intro X hP hw hK hc i pins s σ H E I hf st hg;subst hP hw hK;obtain⟨xs,x,hq,hn,hx⟩:=hg;obtain⟨its,rv,p,hz⟩:=I.list hq
  have hi:i<xs.length:=by
   have:=(eQ.mp hx).1
   simpa using this
  have hx':xs[n-1-i]?=aa x:=by
   rw[List.getElem?_reverse hi]at hx;rw[<- hn];exact hx
  obtain⟨u,hu,ru⟩:=rv.get hx';obtain⟨f0,f1,f2,f3,f4,f5⟩:=hf it (by simp);have ej:(n-1-i)=((n-1-i:Nat):Int):=by lia
  rw[ej]at st;refine HA st p.isList (by simpa using hu) λh' fy sb=>?_;have e2:((n-1-i:Nat):Int)-1=n-1-((i+1:Nat):Int):=by lia
  rw[e2]at fy;obtain⟨o,e,c,d⟩:=id fy;exact⟨u,rfl,nX e c d (by decide) ⟨x,H,(I.turned (λb o hb e=>(sb.2 b hb).trans e) f0 f1 f3 f4 f5),ru,⟨rfl,λys hy=>by rw[I.list_inj hy hq];exact hx⟩,fy,λb hb=>(hf b hb).1⟩⟩
 done:=by
  intro X hP hw hK hc i pins s σ H E I hf st hg;have hg:n<=i:=hg;obtain⟨f0,f1,f2,f3,f4,f5⟩:=hf it (by simp);exact HB (by lia) (I.ok.hd hc) st λh' eb=>⟨rfl,I.turned (λb o hb e=>eb b o hb e) f0 f1 f3 f4 f5⟩
 self:=λ_ _ _ _ _ st h=>Bv st h
abbrev HN(K:bo)(ta:TA):TI:=λσ H R=>ta σ H λvs H1=>∃l xs,vs=[.ref l]/\SqL K H1 l xs/\R (Itv K l xs.length) H1
def HP{p pos:Pos}(hg:Gl X "reversed")(hm:X.mg "reversed"=ab)(ha:PA X [a] ta)(hs:bi [a] X.env=[(ag,eval a X.env)]:=by rfl):PI X tg (.Call (.Name "reversed" p) [a] [] pos) (HN X.K ta):=by
 intro pins s σ H R I h;refine Call_ (iY I hg hm HH (jS (thn (ha pos pins s σ H _ I h) λus s1 q_=>?_) (by rw[hs];rfl) (by rfl)));obtain⟨vs,H1,B,M,l,xs,e,U,q⟩:=q_;subst e;obtain⟨u,rfl,ru⟩:=g6 M;subst ru;obtain⟨z,M,p1,z1⟩:=B.list U;have hl:=M.length;refine HL p1.isList λh' L T=>?_;refine Bv L ?_;refine⟨_,_,_,_,H1,rfl,B.kept T,HM l _ xs.length,?_,λb hb=>?_,q⟩
 .have e:((z.toArray.size:Int)-1)=xs.length-1-(0:Int):=by rw[size_toArray];lia
  rw[e]at L;exact L
 .have e:b=s1.heap.objs.size:=by simpa using hb
  rw[e];exact B.fpOk (bf _) (B.hok.fresh (bf _))
abbrev v6:LD->OLD
 | [x]=>(lsD x).map List.reverse
 | _=>ab
abbrev oP(f:MF2)(ρ:LS):OLD:=(f ρ).bind v6
def HQ{pos:Pos}{f:MF2}(hg:Gl X "reversed")(hm:X.mg "reversed"=ab)(ha:DA c X [a] f)(hs:bi [a] X.env=[(ag,eval a X.env)]:=by rfl):DI c X tg (.Call (.Name "reversed" p) [a] [] pos) (oP f):=
 PI.imp (HP hg hm ha.pa hs) λσ H R q_=>by
  obtain⟨Hf0,H0,Hf,ρ,ds,st,B,k⟩:=q_;unfold oP at B
  cases L:f ρ with
  |none=>rw[L]at B;nomatch B
  |some U=>
   rw[L]at B;replace B:v6 U=aa ds:=B;refine⟨Hf0,H0,Hf,ρ,U,st,L,λvs Hf' H' x r=>?_⟩;unfold v6 at B;split at B
   .rename_i dx
    cases ex:lsD dx with
    |none=>rw[ex]at B;nomatch B
    |some xs=>
     rw[ex]at B;cases B;obtain⟨v,ev,rv⟩:=r.one;obtain⟨l1,I,M,q1,r1⟩:=gv ex rv;subst M;refine⟨l1,I,ev,x.s.seq q1,k _ Hf' H' x λa9 H2 f2 s2 i=>?_⟩;have g1:=(f2.trans s2).seq q1;have h1:=r1.length;refine⟨λd ed=>?_,λei=>?_⟩
     .obtain⟨u,eu,ru⟩:=r1.reverse.get ed;refine⟨⟨I,u,g1,rfl,eu⟩,λz H3 q=>?_⟩;obtain⟨rfl,y1⟩:=q;have T:=y1 I g1;rw[eu]at T;cases T;exact⟨a9,Ext.refl s2,ru.up f2⟩
     .rw[jv]at ei;show I.length<=i;lia
   .nomatch B
def HR{f:MF2}{q:Type}{g:q->D}{xs:List q}(h:f ρ=aa [.lst (xs.map g)]):oP f ρ=aa (xs.reverse.map g):=by
 unfold oP;rw[h];show aa (xs.map g).reverse=_;rw[nK]
abbrev eJ(H:Hp)(l:Addr):Hp:=λa=>if a=l then ab else H a
def rW:eJ H l l=ab:=by unfold eJ;rw[if_pos rfl]
def v7{a:Addr}(h:a≠l):eJ H l a=H a:=by unfold eJ;rw[if_neg h]
def Bx:aM (eJ H l) H:=λa o e=>by
 by_cases h:a=l
 .subst h;rw[rW]at e;nomatch e
 .rw[v7 h]at e;exact e
def v8{F:Hp}(s:aM F H)(h:F l=ab):aM F (eJ H l):=λa o e=>by
 rw[v7 (g5 e h)];exact s a o e
inductive tDX(G:Gc)(f:LS->Option (D×LS))(σ:St)(H:Hp)(Q:VK):Prop
 |mk:∀Hf0 H0 Hf ρ d ρ',aG G Hf0 H0 Hf H σ ρ->f ρ=aa (d,ρ')->(∀v Hf' H',aM Hf Hf'->aG G Hf0 H0 Hf' H' σ ρ'->Rep G Hf' d v->Q v H')->tDX G f σ H Q
abbrev DX(c:Str->Addr)(X:Cx)(e:Expr)(f:LS->Option (D×LS)):Prop:=PE X e (tDX (Gx c X) f)
inductive rX(G:Gc)(f:LS->Option (LD×LS))(σ:St)(H:Hp)(R:It->Hp->Prop):Prop
 |mk:∀Hf0 H0 Hf ρ ds ρ',aG G Hf0 H0 Hf H σ ρ->f ρ=aa (ds,ρ')->(∀J Hf' H',aM Hf Hf'->aG G Hf0 H0 Hf' H' σ ρ'->lC G Hf' J ds->R J H')->rX G f σ H R
abbrev DXi(c:Str->Addr)(X:Cx)(tg iter:Expr)(f:LS->Option (LD×LS)):Prop:=PI X tg iter (rX (Gx c X) f)
abbrev mU(f:LS->Option (D×LS))(ρ:LS):Option (LD×LS):=(f ρ).bind λp=>match p.1 with
 |.lst xs=>aa (xs,p.2)
 | _=>ab
abbrev ku(fi:LS->Option (LD×LS))(g:D->LS->Option LS)(F:MF3)(ρ:LS):Option Fl:=(fi ρ).bind λp=>hJ g F p.1 p.2
def By{f:LS->Option (D×LS)}(h:DX c X e f):DXi c X tg e (mU f):=λpins s σ H R I q_=>by
 obtain⟨Hf0,H0,Hf,ρ,ds,ρ',st,z,k⟩:=q_;unfold mU at z
 cases L:f ρ with
 |none=>rw[L]at z;nomatch z
 |some p=>
  obtain⟨d,ρ1⟩:=p;rw[L,aC]at z;split at z
  .rename_i xs hd;cases z;subst hd;refine u6 h pins s σ H R I ⟨Hf0,H0,Hf,ρ,_,_,st,L,λv Hf' H' f1 B r=>?_⟩;obtain⟨a,vs,ea,q,rs⟩:=r;refine⟨a,ea,⟨vs,SqL.of (B.sub _ _ q)⟩,k _ Hf' H' f1 B λa9 H2 U s2 i=>?_⟩;have M:SqL X.K H2 a vs:=SqL.of (s2 _ _ (U _ _ q));refine⟨λd ed=>?_,λei=>⟨vs,M,by rw[<- rs.length,ei];exact bf _⟩⟩;obtain⟨v,T,rv⟩:=rs.get ed;refine⟨⟨vs,v,M,T⟩,λx H3 ⟨e3,y⟩=>?_⟩;subst e3;have:=y vs M;rw[T]at this;cases this;exact⟨a9,Ext.refl s2,rv.up U⟩
  .nomatch z
def rY{pos:Pos}{fi:LS->Option (LD×LS)}{a:List Stmt}(hp:PassesOwn (model X.prog X.w) X.A X.env X.xe)(hc:X.calm=ac)(hi:DXi c X tg iter fi)(hg:DG c X tg kk g)(hb:DSs c X a F)(hs:∀x,iy iter X.env x=pure x:=by intro _;rfl):
  DS c X (.For tg iter a [] pos) (ku fi g F):=PS.imp (zJ hp hc hi hg.pg hb hs) λE σ H q_=>by
 obtain⟨Hf0,H0,Hf,ρ,o,so,T,k⟩:=q_;unfold ku at T
 cases e1:fi ρ with
 |none=>rw[e1]at T;nomatch T
 |some pp=>
  obtain⟨ds,ρn⟩:=pp;rw[e1]at T;refine⟨Hf0,H0,Hf,ρ,ds,ρn,so,e1,λJ al H1 f1 so1 it=>?_⟩;refine⟨λi m σ' H'=>m=ds.length-i/\i<=ds.length/\∃Hf' ρ',aG _ Hf0 H0 Hf' H' σ' ρ'/\aM al Hf'/\hJ g F (ds.drop i) ρ'=aa o,⟨ds.length,rfl,iw _,al,ρn,so1,aM.refl _,T⟩,?_⟩;rintro i m σ' H' ⟨rfl,hi',Hf',ρ',L,s1,em⟩;obtain⟨l9,it2⟩:=it Hf' H' s1 L.sub i
  by_cases I:i<ds.length
  .obtain⟨d,ed,edr⟩:=oI I;obtain⟨go,yl⟩:=l9 d ed;rw[edr]at em;unfold hJ at em;refine .inr ⟨go,λhF H2=>ds.length-_=ds.length-_/\i+1<=ds.length/\∃Hf' ρ',aG _ Hf0 H0 Hf' H2 hF ρ'/\aM al Hf'/\hJ g F _ ρ'=aa o,λhF H2 w=>⟨ds.length-(i+1),by lia,w⟩,λx H2 y=>?_⟩;obtain⟨a9,x2,rx⟩:=yl x H2 y
   cases eg:g d ρ' with
   |none=>rw[eg]at em;nomatch em
   |some ρ1=>
    rw[eg]at em;replace em:(F ρ1).bind _=_:=em
    cases eF:F ρ1 with
    |none=>rw[eF]at em;nomatch em
    |some o1=>
     rw[eF]at em;refine⟨Hf0,H0,a9,ρ',d,ρ1,L.step x2,rx,eg,λip so3=>⟨Hf0,H0,a9,ρ1,o1,so3,eF,?_⟩⟩;have sf:=s1.trans x2.f
     cases o1 with
     |nx B=>exact λM q H4 U z=>⟨rfl,I,q,B,z,sf.trans U,em⟩
     |ct B=>exact λM q H4 U z=>⟨rfl,I,q,B,z,sf.trans U,em⟩
     |bk B=>cases em;exact λM q H4 U z=>k M q H4 ((f1.trans sf).trans U) z
     |rt d=>cases em;exact k
     |rtO d=>cases em;exact k
     |rtS d B=>cases em;exact k
     |rtT o'=>cases em;exact k
  .have ei:i=ds.length:=by lia
   subst ei;rw[nI (bf _)]at em;cases em;exact .inl ⟨it2 rfl,k σ' Hf' H' (f1.trans s1) L⟩
def rZ{fi:LS->Option (LD×LS)}(h:fi ρ=aa (ds,ρ'))(k:wp (cC (λ_=>aa ds) g F) ρ' K):wp (ku fi g F) ρ K:=by
 obtain⟨o,e,q⟩:=k;exact⟨o,by unfold ku;rw[h];exact e,q⟩
abbrev oQ:LD->OD
 | [.int a,.int b]=>aa (.int (if b<a then b else a))
 | _=>ab
def Bz(U:X.calm=ac):kc c X (.builtin "min") oQ:=by
 rintro pins s σ H vs us Q I rv ⟨Hf,ds,d,s0,r,e,k⟩;unfold oQ at e;split at e
 .rename_i a b;cases e;obtain⟨v1,h6,rfl,L,v2,vs2,rfl,M,T⟩:=r;cases (T);cases (L);cases (M)
  cases rv with
  |cons r1 B=>
   cases B with
   |cons r2 B=>
    cases B;obtain⟨t,rfl⟩:=r1;obtain⟨u,rfl⟩:=r2;refine PySem.min_two_ints (I.ok.hd U) λh' tk z=>?_;refine⟨.int _,H,I.kept z,?_,k _ Hf H (Ext.refl s0) rfl⟩
    by_cases q:b<a
    .rw[if_pos q,if_pos q];exact⟨u,rfl⟩
    .rw[if_neg q,if_neg q];exact⟨t,rfl⟩
 .nomatch e
abbrev spM(G:Gc)(M n:Nat)(m:Addr->LD->LD->LD->Option (LD×D)):Sp:=λvs H Q _=>∃Hf q z xs ys d l us I L,vs=I++.ref l::L/\aM Hf H/\Hf l=ab/\H l=aa (.lst us)/\ay G Hf q I/\ay G Hf z L/\ay G Hf xs us/\q.length=M/\q.length+1+z.length=n/\m l q z xs=aa (ys,d) /\
 ∀v Hf' H' B,Ext Hf (eJ H l) Hf' H'->Hf' l=ab->H' l=aa (.lst B)->ay G Hf' ys B->Rep G Hf' d v->Q v H'
abbrev v9(N:Nat)(l:Addr)(q z xs:LD):LS:=(ki N (q++.non::z)).set q.length (.pin l xs)
open Classical in
abbrev iI(l:Addr)(i:Nat)(ρ:LS):OLD:=match ρ[i]? with
 |some (.pin l' ys)=>if l'=l then aa ys else ab
 | _=>ab
variable{i:Nat}
def BA(h:iI l i ρ=aa ys):ρ[i]?=aa (.pin l ys):=by
 unfold iI at h;split at h
 .rename_i z B e;split at h
  .rename_i q;cases h;rw[e,q]
  .nomatch h
 .nomatch h
abbrev fR(N:Nat)(F:MF3)(l:Addr)(q z xs:LD):Option (LD×D):=(F (v9 N l q z xs)).bind λo=>match o with
 |.nx ρ=>(iI l q.length ρ).map λys=>(ys,.non)
 |.rtS d ρ=>(iI l q.length ρ).map λys=>(ys,d)
 | _=>ab
variable{vs0 h6:List V}
def HS:(L2.start N (vs0++.non::h6)).set vs0.length (aa (.ref l))=L2.start N (vs0++.ref l::h6):=by
 unfold L2.start;simp[set_append]
variable{hG ds1:LD}
def aG.startM(B:aM Hf H)(q:Hf l=ab)(I:H l=aa (.lst us))(z:ay G Hf hG vs0)(L:ay G Hf ds1 h6)(M:ay G Hf xs us):
  aG G Hf (eJ H l) Hf H (L2.start N (vs0++.ref l::h6)) (v9 N.length l hG ds1 xs):=by
 have:=(aG.start (N:=N) (v8 B q) (z.append (.cons (d:=.non) rfl L))).setOwn (i:=hG.length) (s:=.pin l xs) rfl (Ext.grow (v8 B q) Bx) rW q ⟨rfl,us,I,M⟩;rw[z.length,HS,<- z.length]at this;exact this
variable{K:bo}
def ia{f:Addr}{n0:Nat}(Fn:Fun K x qual st f fd)(S:bn N ps (bc st))
 (h:∀(cdv:Value) (A:dH) (outer:List Env) (s:aE) (H:Hp) (E:XK),dL k (A.deeper (ix qual (bc st) s.heap.objs.size f cdv))->DSs c (j2 CX0 P w K mg base N qual (bc st) f cdv A outer s H E).nox (j3 st) F)(hn_:N.length=n_:=by rfl):
  f9 P w K mg base CX0 (k+1) f fd ps (spM ⟨K,c⟩ n0 ps.length (fR n_ F)):=by
 subst hn_;refine Fn.ok S (λvs H Q E q_=>by obtain⟨Hf,hG,ds1,xs,ys,d,l,us,vs0,h6,ev,s0,hf,hu,r0,r1,rx,hn,hl,_⟩:=q_;rw[ev,aJ,bP,<- r0.length,<- r1.length];lia) λcdv A outer s H vs Q E hr q_=>?_;obtain⟨Hf,hG,ds1,xs,ys,d,l,us,vs0,h6,ev,s0,hf,hu,r0,r1,rx,hn,hl,e,kq⟩:=q_;refine⟨_,h cdv A outer s H E hr,?_⟩;subst ev;unfold fR at e
 cases U:F _ with
 |none=>rw[U]at e;nomatch e
 |some o=>
  rw[U,aC]at e;refine⟨Hf,eJ H l,Hf,_,o,aG.startM s0 hf hu r0 r1 rx,U,?_⟩
  cases o with
  |nx ρ=>
   replace e:(iI l hG.length ρ).map _=aa _:=e
   cases q:iI l hG.length ρ with
   |none=>rw[q]at e;nomatch e
   |some zs=>
    rw[q]at e;cases e;intro σ' Hf' H' _ M;obtain⟨l',e1,h0,z,T,L,B,I⟩:=M.ownAt rfl (BA q);subst T
    exact kq .non Hf' H' L M.ext z B I rfl
  |rtS d' ρ=>
   replace e:(iI l hG.length ρ).map _=aa _:=e
   cases q:iI l hG.length ρ with
   |none=>rw[q]at e;nomatch e
   |some zs=>
    rw[q]at e;cases e;intro v σ' Hf' H' M r;obtain⟨l',e1,h0,z,T,L,B,I⟩:=M.ownAt rfl (BA q);subst T
    exact kq v Hf' H' L M.ext z B I r
  | _=>nomatch e
def aG.giveS{s:Sl}(I:s.isOwn=ac)(h:aG G Hf0 H0 Hf H σ ρ)(e:ρ[i]?=aa s)(z:σ[i]?=aa (aa (.ref l))):aG G Hf0 H0 Hf (eJ H l) σ (ρ.set i .no):=by
 refine h.chg e z (λb u B=>?_) trivial λa p=>(p.calm rfl).elim
 by_cases q:b=l
 .subst q;exact .inl ((Holds.own I).mpr rfl)
 .exact .inr (by rw[v7 q];exact B)
def aG.back{s:Sl}(T:s.isOwn=ac)(z:s'.isOwn=ac)(h:aG G Hf0 H0 Hf H σ ρ)(e:ρ[i]?=aa s)(q:σ[i]?=aa (aa (.ref l)))(x:Ext Hf (eJ H l) Hf' H')(L:Hf' l=ab)(M:g7 G Hf' H' l s'):aG G Hf0 H0 Hf' H' σ (ρ.set i s'):=by
 have:=(h.giveS T e q).setOwn (i:=i) z x rW L M;rw[set_set]at this
 have I:σ.set i (aa (.ref l))=σ:=by
  apply k6;intro j
  by_cases B:i=j
  .subst B;rw[kS (eQ.mp q).1,q]
  .rw[jt B]
 rw[I]at this;exact this
open Classical in
abbrev r6(i:Nat)(ρ:LS):OLD:=match ρ[i]? with
 |some (.pin _ xs)=>aa xs
 | _=>ab
def BB{pos:Pos}(i:Nat)(L:X.N[i]?=aa x:=by rfl)(M:Vis X.env.scope x:=by first |exact cf rfl |exact bw (cf rfl) |exact bw (bw rfl))(hd:NDb x:=by decide)
 (B:NCd x:=by decide):DC c X (.Name x pos) (r6 i):=PE.imp (jz L M hd B) λσ H Q U=>by
 obtain⟨Hf0,H0,Hf,ρ,d,st,z,k⟩:=U;unfold r6 at z;split at z
 .rename_i l xs es;cases z;obtain⟨T,I,_,_,_,vs,q,r⟩:=st.ownAt rfl es;exact⟨_,I,k T vs Hf H (Ext.refl st.sub) (.inl (SqL.of q)) r⟩
 .nomatch z
variable{K:Fl->Prop}
def ib{f:MF1}(h:f ρ=aa d)(k:K (.rtS d ρ)):wp (fJ f) ρ K:=⟨_,by unfold fJ;rw[h];rfl,k⟩
def HU(h:ρ[i]?=aa (.pin l ys)):iI l i ρ=aa ys:=by
 unfold iI;rw[h];exact if_pos rfl
def ic{N:Nat}(h:F (v9 N l hG ds1 xs)=aa (.rtS d ρ))(h':ρ[hG.length]?=aa (.pin l ys)):fR N F l hG ds1 xs=aa (ys,d):=by
 unfold fR;rw[h,aC];show(iI l hG.length ρ).map _=_;rw[HU h'];rfl
abbrev BC(G:Gc)(Hf H:Hp)(σ:St)(ρ:LS)(a:Addr):Prop:=∀(k:Nat) (t:Sl) (w:V),ρ[k]?=aa t->σ[k]?=aa (aa w)->Holds G Hf H t w a->False
abbrev BD(ks:LN)(a b:LS):Prop:=a.length=b.length/\∀m,m∉ks->a[m]?=b[m]?
def BD.refl(ks:LN)(a:LS):BD ks a a:=⟨rfl,λ_ _=>rfl⟩
variable{kvs:List (Key×V)}
def Inv.freeze(I:Inv X pins σ H s)(e:H l=aa (.dK kvs)):∃od,Inv X pins σ (upd H l (.frz od (.dK kvs))) s:=by
 obtain⟨z,ns,vs,M,od,es,U,T,r⟩:=qO I.hok e;refine⟨od,?_⟩
 have L:∀b u,H b=aa u->(∀w,u≠.dK w)->upd H l (.frz od (.dK kvs)) b=aa u:=λb u B hu=>by
  rw[bF (λq=>by subst q;rw[e]at B;cases B;exact hu _ rfl)];exact B
 have:=I.step (t':=s.toks) (d':=s.drawn) (ch:=[]) (λb B=>nomatch B) (λb o _ _ _ e _=>e) (λb o _ _ _ e _=>⟨o.slots,e⟩) (λb o _ _ n=>by rw[bF (λq=>by subst q;rw[e]at n;nomatch n)];exact n)
  (λb o _ e=>⟨o,e⟩) (λb xs B=>L b _ B (λw q=>by nomatch q)) (λb o u B=>L b _ B (λw q=>by nomatch q)) (λb ps B=>⟨#[],by rw[L b _ B (λw q=>by nomatch q)];simp⟩) (λm hm=>hm) (λb u B=>?_) I.bare
 .exact this
 .by_cases q:b=l
  .subst q;rw[bI]at B;cases B;exact⟨T,z,ns,vs,M,od,es,U,T,r⟩
  .rw[bF q]at B;exact(I.hok b u B).stay (λc v _ h=>h) (λc h=>L c _ h (λw q=>by nomatch q)) (λc xs h=>L c _ h (λw q=>by nomatch q))
def KV.get:∀{xs:List (Key×V)} {us:List (Key×Value)} {i:Nat} {x:Key×V},KV xs us->xs[i]?=aa x->∃u,us[i]?=aa u/\x.1=u.1/\aP x.2 u.2
 | _,_,_,_,.nil,e=>by simp at e
 | _,_,0,_,.cons r _,e=>by simp at e;subst e;exact⟨_,rfl,r⟩
 | _,_,i+1,x,.cons _ t,e=>by
  obtain⟨u,q,z⟩:=KV.get t (by simpa using e);exact⟨u,by simpa using q,z⟩
def HV{k:Key}{v:Value}(h:lq k v=ac):aP (kV k) v:=by
 rcases iW h with⟨i,t,rfl,rfl⟩ |⟨x,t,rfl,rfl⟩
 .exact⟨t,rfl⟩
 .exact⟨t,rfl⟩
abbrev kD:Key->D
 |.inl i=>.int i
 |.inr x=>.str x
def HW(k:Key):Rep G H (kD k) (kV k):=by cases k <;> rfl
abbrev HX:D->OLD
 |.kd ks _=>aa (ks.map kD)
 | _=>ab
abbrev gy(ks:List Key)(xs:LD)(k:Key):OD:=((ks.zip xs).find? λq=>decide (q.1=k)).map (·.2)
def wa{G:Gc}{H:Hp}{k:Key}:∀{ks:List Key} {xs:LD} {vs:List V},ks.length=vs.length->ay G H xs vs->(∀d,gy ks xs k=aa d->∃v,eI (ks.zip vs) k=aa v/\Rep G H d v)/\(gy ks xs k=ab->eI (ks.zip vs) k=ab)
 | [],_,_,_,_=>⟨λd h=>(by cases h),λ_=>rfl⟩
 | _::_,_,[],h,_=>by cases h
 |j::ks,[],v::vs,_,r=>by cases (r)
 |j::ks,x::xs,v::vs,h,q4_=>by
  obtain⟨u,I,e,z,B⟩:=q4_
  injection e with e1 e2
  subst e1 e2;obtain⟨a,b⟩:=wa (by simpa using h) B;unfold gy;rw[kZ,kZ]
  by_cases q:j=k
  .subst q;refine⟨λd hd=>⟨v,qJ rfl,?_⟩,λhd=>?_⟩
   .rw[find?_cons_of_pos (by simp)]at hd;cases hd;exact z
   .rw[find?_cons_of_pos (by simp)]at hd;cases hd
  .rw[find?_cons_of_neg (by simpa using q),qK q];exact⟨a,b⟩
abbrev iJ:D->Option (List Key×LD)
 |.dic ks xs=>aa (ks,xs)
 |.kd ks xs=>aa (ks,xs)
 | _=>ab
def r9{p:List Key×LD}(e:iJ d=aa p)(r:Rep G H d v):∃a vs,v=.ref a/\Rd H a (.dK (p.1.zip vs))/\p.1.length=vs.length/\ay G H p.2 vs:=by
 cases d with
 |dic ks xs=>cases e;obtain⟨a,vs,B,q,z,r⟩:=r;exact⟨a,vs,B,.inl q,z,r⟩
 |kd ks xs=>cases e;obtain⟨a,od,vs,B,q,z,r⟩:=r;exact⟨a,vs,B,.inr ⟨od,q⟩,z,r⟩
 | _=>nomatch e
def Rd.up{a:Addr}{u:HO}(h:Rd H a u)(s:aM H H'):Rd H' a u:=h.imp (s _ _) λq=>by
 obtain⟨o,e⟩:=q;exact(⟨o,s _ _ e⟩)
abbrev eY(x y:D):OD:=(iJ x).bind λp=>(gx y).bind λk=>gy p.1 p.2 k
variable{b:Expr}
def jd{pos:Pos}(hu:X.A.units+64<cLine){f g:MF1}(ha:DE c X a f)(hb:DE c X b g)(hs:vk b:=by exact λ_ _=>rfl):DE c X (.Subscript a b pos) (m2 eY f g):=
 PE.imp (Gp (by lia) ha hb hs) λσ H Q q_=>by
  obtain⟨Hf0,H0,Hf,ρ,d,st,ef,k⟩:=q_;obtain⟨x,y,e1,e2,B⟩:=oi ef;refine⟨Hf0,H0,Hf,ρ,x,st,e1,λv al H1 U r1=>⟨Hf0,H0,al,ρ,y,st.step U,e2,λu a9 H2 T r2=>?_⟩⟩;unfold eY at B
  cases I:iJ x with
  |none=>rw[I]at B;nomatch B
  |some p=>
   rw[I,aC]at B
   cases L:gx y with
   |none=>rw[L]at B;nomatch B
   |some ky=>
    rw[L,aC]at B;obtain⟨l,vs,el,q,z,r⟩:=r9 I (r1.up T.f);have ev:=lI L r2;subst ev el;obtain⟨w,hw,M⟩:=(wa z r).1 d B;exact⟨l,w,rfl,.inl ⟨_,ky,q.up T.s,rfl,hw.symm⟩,k _ a9 H2 (U.trans T) M⟩
abbrev jI(i:Nat)(F:MF3)(ρ:LS):Option Fl:=match ρ[i]? with
 |some (.ownd ks xs)=>F (ρ.set i (.im (.kd ks xs)))
 | _=>F ρ
def HY{E:iX}(I:Inv X pins σ H s)(h:tDS (Gx c X) (jI i F) E σ H):∃H',Inv X pins σ H' s/\tDS (Gx c X) F E σ H':=by
 obtain⟨Hf0,H0,Hf,ρ,o,so,ef,k⟩:=h;unfold jI at ef;split at ef
 .rename_i ks xs es;obtain⟨l,T,h0,hf,vs,q,z,r⟩:=so.ownAt rfl es;obtain⟨od,I'⟩:=I.freeze q;refine⟨_,I',Hf0,H0,upd Hf l (.frz od (.dK (ks.zip vs))),ρ.set i _,o,?_,ef,k.up (cB hf)⟩
  have s1 : aG _ Hf0 H0 Hf (upd H l (.frz od (.dK (ks.zip vs)))) σ (ρ.set i .no):=so.chg es T (λb u hb=>by
   by_cases B:b=l
   .subst B;exact .inl ((Holds.own rfl).mpr rfl)
   .exact .inr (by rw[bF B];exact hb)) trivial λa p=>(p.calm rfl).elim
  have s2:aG (Gx c X) Hf0 H0 (upd Hf l (.frz od (.dK (ks.zip vs)))) (upd H l (.frz od (.dK (ks.zip vs)))) σ (ρ.set i .no):=by
   have fr:BC (Gx c X) Hf H σ (ρ.set i .no) l:=λm t w b M p=>by
    rcases dM b with⟨_,e',_⟩ |⟨ne,b⟩
    .subst e';exact p.calm rfl
    .exact ne (so.dj m i t _ w _ l b es M T p ((Holds.own rfl).mpr rfl))
   have fr':BC (Gx c X) Hf (upd H l (.frz od (.dK (ks.zip vs)))) σ _ l:=λm t w b M p=>by
    cases U:t.isOwn with
    |true=>
     exact fr m t w b M ((Holds.own U).mpr ((Holds.own U).mp p))
    |false=>
     cases t with
     |deep o'=>
      obtain⟨fp,rr,ha⟩:=p
      obtain ⟨u,fp',eu,r2,_⟩:=so.at' m _ _ M (by
       rcases dM b with⟨_,e',_⟩ |⟨ne,b⟩
       .nomatch e'
       .exact b)
      cases eu
      have r3:OT _ Hf (upd H l (.frz od (.dK (ks.zip vs)))) o' w fp':=r2.frame (aM.refl _) λb' u' B L=>by
       rw[bF (λqq=>?_)]
       .exact B
       .subst qq
        rcases L with L |L
        .rw[q]at B;cases B;nomatch L
        .exact fr m _ w b M ⟨fp',r2,L⟩
      have:=OT.funM o' w _ _ r3 rr;subst this
      exact fr m _ w b M ⟨fp',r2,ha⟩
     | _=>first |exact pQ p.1 |nomatch U
   refine s1.re ⟨s1.ext.f.trans (cB hf),s1.ext.h,λb u e=>?_,λb u e t=>?_⟩ rfl (λm v t a b=>?_) λm t v a b M p=>⟨t,b,(s1.at' m _ t M b).back (λo' fp _ r=>r.up (cB hf) (aM.refl _)) p⟩
   .by_cases hb:b=l
    .subst hb;rw[bI]at e ⊢;exact e
    .rw[bF hb]at e;exact s1.ext.s b u e
   .rw[bF (λz=>by subst z;rw[h0]at e;nomatch e)];exact s1.ext.n b u e t
   .have qq:=s1.at' m v t a b
    cases U:t.isOwn with
    |true=>
     obtain⟨l2,e2,e3,e4,q2⟩:=qq.own U;subst e2;refine .ofOwn U ⟨l2,rfl,e3,?_,q2.up (cB hf) λo' ho'=>ho'⟩;rw[bF (λz=>by subst z;exact fr' m t _ b a ((Holds.own U).mpr rfl))]
     exact e4
    |false=>
     cases t with
     |no=>trivial
     |im d=>obtain⟨u',T,r⟩:=qq;exact⟨u',T,r.up (cB hf)⟩
     |val u'=>exact qq
     |deep o'=>
      obtain⟨w,fp,T,r,n,zz⟩:=qq;subst T;refine⟨w,fp,rfl,r.up (cB hf) (aM.refl _),n,λy hy=>⟨(zz y hy).1,?_⟩⟩;rw[bF (λz=>by subst z;exact fr' m _ w b a ⟨fp,r,hy⟩)]
      exact(zz y hy).2
     | _=>nomatch U
  have res:=s2.setIm (i:=i) (d:=.kd ks xs) ⟨l,od,vs,rfl,bI,z,r.up (cB hf)⟩
  have e3:σ.set i (aa (.ref l))=σ:=by
   apply k6;intro jj
   by_cases hj:i=jj
   .subst hj;rw[kS (eQ.mp T).1,T]
   .rw[jt hj]
  rw[e3,set_set]at res;exact res
 .exact⟨H,I,Hf0,H0,Hf,ρ,o,so,ef,k⟩
def se(i:Nat)(h:DS c X st F):DS c X st (jI i F):=λpins s σ H E I q=>by
 obtain⟨H',z,B⟩:=HY I q;exact h pins s σ H' E z B
def wb(h:ρ[i]?=aa (.ownd ks xs))(k:wp F (ρ.set i (.im (.kd ks xs))) K):wp (jI i F) ρ K:=by
 obtain⟨o,e,q⟩:=k;exact⟨o,by unfold jI;rw[h];exact e,q⟩
abbrev BE:D->OD
 |.bl b=>aa (.int (if b then 1 else 0))
 | _=>ab
abbrev iK(f:MF1)(ρ:LS):OD:=(f ρ).bind BE
abbrev HZ(te:TE):TE:=λσ H Q=>te σ H λx H1=>∃b,x=.bl b/\Q (.int (if b then 1 else 0)) H1
def Ia:gU "int"=aa (.type "int"):=by decide +kernel
def Ib{pos:Pos}(U:Gl X "int")(hm:X.mg "int"=ab)(T:PE X e te)(B:bi [e] X.env=(ag,eval e X.env)::bi [] X.env:=by rfl)(z:(fM pos (bi [] X.env)).any (·.1)=ag:=by rfl):
  PE X (.Call (.Name "int" p) [e] [] pos) (HZ te):=by
 intro pins s σ H Q I h;refine lg (iY I U hm Ia ?_);refine jS ?_ B z;rw[B];refine lm (thn (T pins s σ H _ I h) λu s1 q_=>?_);obtain⟨x,H1,L,r1,b,M,q⟩:=q_;subst M;subst r1;exact aY (call_int_bool ⟨.int _,H1,L.tok _,⟨_,rfl⟩,q⟩)
def wc{pos:Pos}{f:MF1}(M:Gl X "int")(T:X.mg "int"=ab)(L:DE c X e f)(I:bi [e] X.env=(ag,eval e X.env)::bi [] X.env:=by rfl)(B:(fM pos (bi [] X.env)).any (·.1)=ag:=by rfl):DE c X (.Call (.Name "int" p) [e] [] pos) (iK f):=
 PE.imp (Ib M T L I B) λσ H Q U=>by
  obtain⟨Hf0,H0,Hf,ρ,d0,st,q,k⟩:=U;unfold iK at q
  cases z:f ρ with
  |none=>rw[z]at q;nomatch q
  |some d=>
   rw[z,aC]at q;unfold BE at q;split at q
   .rename_i b;cases q;refine⟨Hf0,H0,Hf,ρ,_,st,z,λv Hf' H' x r=>⟨b,r,k _ Hf' H' x rfl⟩⟩
   .nomatch q
abbrev mV(i:Nat)(fk fv:MF1)(ρ:LS):Option Fl:=(fv ρ).bind λd=>(fk ρ).bind λx=>match x with
 | .int k=>(match ρ[i]? with
  |some (.pin l xs)=>(ixN xs.length k).map λj=>.nx (ρ.set i (.pin l (xs.set j d)))
  | _=>ab)
 | _=>ab
def Ic(hp:PS X st (j0 (tD (Gx c X) fv) (u5 (eG i) (tD (Gx c X) fk) vi))):DS c X st (mV i fk fv):=PS.imp hp λE σ H q_=>by
 obtain⟨Hf0,H0,Hf,ρ,o,so,z,k⟩:=q_;unfold mV at z
 cases M:fv ρ with
 |none=>rw[M]at z;nomatch z
 |some d=>
  rw[M]at z
  cases T:fk ρ with
  |none=>rw[T]at z;nomatch z
  |some x=>
   rw[T]at z
   obtain⟨I,rfl⟩:∃I,x=.int I:=by cases x <;> first |exact⟨_,rfl⟩ |nomatch z
   replace z:(match ρ[i]? with |some (.pin l xs)=>(ixN xs.length I).map λj=>Fl.nx _ | _=>ab)=aa o:=z
   split at z
   .rename_i l0 xs es
    cases U:ixN xs.length I with
    |none=>rw[U]at z;nomatch z
    |some j=>
     rw[U]at z;cases z;refine⟨Hf0,H0,Hf,ρ,d,so,M,λv al H1 x1 r1=>?_⟩;have B:=so.step x1;obtain⟨l,el,h0,hf,eq,vs,q,r⟩:=B.ownAt rfl es;subst eq;refine⟨_,el,Hf0,H0,al,ρ,.int I,B,T,λy a9 H2 L r2=>?_⟩;exact⟨l,vs,I,j,rfl,r2,(L.h _ _ q),by rw[<- r.length];exact U,(k σ a9 _ (x1.f.trans L.f) ((B.step L).mutd rfl rfl es el ⟨rfl,vs.set j v,bI,(r.up L.f).set j (r1.up L.f)⟩))⟩
   .nomatch z
def Ie{pos:Pos}(I:PE X e (eG i))(B:DE c X i' fk)(M:DE c X value fv)(L:nQ [.Subscript e i' b0] value pos.line X.env=pure ag:=by rfl)(T:nR [.Subscript e i' b0] value X.env=pure ab:=by rfl)
 (q:(eD [.Subscript e i' b0] X.env).map (·.2)=[gE (.Subscript e i' b0) X.env]:=by rfl)
 (z:∀ v,gE (.Subscript e i' b0) X.env v=(do
   let ov <- gD [v] (eval e X.env)
   let iv <- gD [v,ov] (eval i' X.env)
   standAt b0
   gD [v,ov,iv] (setItem ov iv v)
   release [v,ov,iv] []):=by intro _;rfl):
  DS c X (.Assign [.Subscript e i' b0] value pos) (mV i fk fv):=Ic (qu M (zG I B Aa z) L T q)
def Ig{k:Int}(L:fv ρ=aa d)(I:fk ρ=aa (.int k))(h':ρ[i]?=aa (.pin l xs))(z:0<=k)(B:k<xs.length)(q:K (.nx (ρ.set i (.pin l (xs.set k.toNat d))))):wp (mV i fk fv) ρ K:=⟨_,by
 unfold mV;rw[L,aC,I,aC,h'];show(ixN xs.length k).map _=_;unfold ixN;rw[if_pos z,if_pos B];rfl,q⟩
@[reducible]noncomputable def Xe:=LS->Option (D×LS)
@[reducible]noncomputable def Xa:=LS->Option (LD×LS)
@[reducible]noncomputable def Xt:=LS->Option (Bool×LS)
abbrev mX(f:MF1):Xe:=λρ=>(f ρ).map λd=>(d,ρ)
abbrev mX2(m:D->D->OD)(f g:Xe):Xe:=λρ=>(f ρ).bind λp=>(g p.2).bind λq=>(m p.1 q.1).map λd=>(d,q.2)
abbrev aO:Xa:=λρ=>aa ([],ρ)
abbrev aF(f:Xe)(g:Xa):Xa:=λρ=>(f ρ).bind λp=>(g p.2).map λq=>(p.1::q.1,q.2)
abbrev je(f:Xa):Xe:=λρ=>(f ρ).map λp=>(.tup p.1,p.2)
abbrev oR(f:Xa):Xe:=λρ=>(f ρ).map λp=>(.lst p.1,p.2)
abbrev kw(m:LD->OD)(f:Xa):Xe:=λρ=>(f ρ).bind λp=>(m p.1).map λd=>(d,p.2)
def Ih{f:MF1}(h:mX f ρ=aa (d,ρ')):f ρ=aa d/\ρ'=ρ:=by
 unfold mX at h
 cases e:f ρ with
 |none=>rw[e]at h;nomatch h
 |some d'=>rw[e]at h;cases h;exact⟨rfl,rfl⟩
def oS{f g:Xe}(h:mX2 m f g ρ=aa (d,ρ')):∃x y ρ1,f ρ=aa (x,ρ1)/\g ρ1=aa (y,ρ')/\m x y=aa d:=by
 unfold mX2 at h
 cases L:f ρ with
 |none=>rw[L]at h;nomatch h
 |some p=>
  rw[L,aC]at h
  cases B:g p.2 with
  |none=>rw[B]at h;nomatch h
  |some q=>
   rw[B,aC]at h
   cases I:m p.1 q.1 with
   |none=>rw[I]at h;nomatch h
   |some z=>rw[I]at h;cases h;exact⟨p.1,q.1,p.2,rfl,B,I⟩
variable{g:Xa}
def BF{f:Xe}(h:aF f g ρ=aa (ds,ρ')):∃d r ρ1,f ρ=aa (d,ρ1)/\g ρ1=aa (r,ρ')/\ds=d::r:=by
 unfold aF at h
 cases B:f ρ with
 |none=>rw[B]at h;nomatch h
 |some p=>
  rw[B,aC]at h
  cases z:g p.2 with
  |none=>rw[z]at h;nomatch h
  |some q=>rw[z]at h;cases h;exact⟨p.1,q.1,p.2,rfl,z,rfl⟩
inductive BG(G:Gc)(f:Xa)(σ:St)(H:Hp)(Q:List V->Hp->Prop):Prop
 |mk:∀Hf0 H0 Hf ρ ds ρ',aG G Hf0 H0 Hf H σ ρ->f ρ=aa (ds,ρ')->(∀vs Hf' H',aM Hf Hf'->aG G Hf0 H0 Hf' H' σ ρ'->ay G Hf' ds vs->Q vs H')->BG G f σ H Q
structure DAX(c:Str->Addr)(X:Cx)(es:LEx)(f:Xa):Prop where
 pa:PA X es (BG (Gx c X) f)
 len:∀ρ ds ρ',f ρ=aa (ds,ρ')->ds.length=es.length
inductive oT(G:Gc)(f:Xt)(σ:St)(H:Hp)(Q:Bool->Hp->Prop):Prop
 |mk:∀Hf0 H0 Hf ρ b ρ',aG G Hf0 H0 Hf H σ ρ->f ρ=aa (b,ρ')->(∀Hf' H',aM Hf Hf'->aG G Hf0 H0 Hf' H' σ ρ'->Q b H')->oT G f σ H Q
abbrev DTX(c:Str->Addr)(X:Cx)(e:Expr)(f:Xt):Prop:=PT X e (oT (Gx c X) f)
def DE.dx{f:MF1}(h:DE c X e f):DX c X e (mX f):=PE.imp h λσ H Q B=>by
 obtain⟨Hf0,H0,Hf,ρ,d,ρ',st,z,k⟩:=B;obtain⟨q,rfl⟩:=Ih z;exact⟨Hf0,H0,Hf,_,d,st,q,λv Hf' H' x r=>k v Hf' H' x.f (st.step x) r⟩
def fS{pos:Pos}{op:Operator}{f g:Xe}(ho:OpD c X (fo op) m)(ha:DX c X a f)(hb:DX c X b g):DX c X (.BinOp a op b pos) (mX2 m f g):=PE.imp (u7 ho ha hb) λσ H Q q_=>by
 obtain⟨Hf0,H0,Hf,ρ,d,ρ',st,ef,k⟩:=q_;obtain⟨x,y,ρ1,T,U,e3⟩:=oS ef;exact⟨Hf0,H0,Hf,ρ,x,ρ1,st,T,λv al H1 f1 B r1=>⟨Hf0,H0,al,ρ1,y,ρ',B,U,λu a9 H2 I q r2=>⟨a9,x,y,d,q.sub,r1.up I,r2,e3,λw z M L r3=>k w z M ((f1.trans I).trans L.f) (q.step L) r3⟩⟩⟩
def aZ:DAX c X [] aO:=⟨PA.imp cJ λσ H Q z=>by obtain⟨Hf0,H0,Hf,ρ,ds,ρ',st,q,k⟩:=z;cases q;exact k [] Hf H (aM.refl _) st rfl,λρ ds ρ' h=>by cases h;rfl⟩
def aL{f:Xe}(ha:DX c X e f)(M:DAX c X es g)(hs:StE X e es:=by rfl):DAX c X (e::es) (aF f g):=by
 refine⟨PA.imp (cs ha M.pa hs) λσ H Q q_=>?_,λρ ds ρ' h=>?_⟩
 .obtain⟨Hf0,H0,Hf,ρ,ds,ρ',st,T,k⟩:=q_;obtain⟨d,r,ρ1,I,q,rfl⟩:=BF T;exact⟨Hf0,H0,Hf,ρ,d,ρ1,st,I,λv al H1 U z r1=>⟨Hf0,H0,al,ρ1,r,ρ',z,q,λvs a9 H2 L B r2=>k _ a9 H2 (U.trans L) B (.cons (r1.up L) r2)⟩⟩
 .obtain⟨d,r,ρ1,I,q,rfl⟩:=BF h;simp[M.len ρ1 r ρ' q]
def mW{pos:Pos}{f:Xa}(h:DAX c X es f)(hz:es.length<=1000:=by exact p6 rfl):DX c X (.Tuple es k' pos) (je f):=PE.imp (zQ h.pa) λσ H Q T=>by
 obtain⟨Hf0,H0,Hf,ρ,d,ρ',st,B,k⟩:=T;unfold je at B
 cases I:f ρ with
 |none=>rw[I]at B;nomatch B
 |some q=>
  obtain⟨ds,ρ1⟩:=q;rw[I]at B;cases B;refine⟨Hf0,H0,Hf,ρ,ds,_,st,I,λvs Hf' H' M z r=>⟨?_,λq L=>(k _ _ _ (M.trans (cB (z.sub.free L))) (z.step (Ext.new z.sub L)) ⟨q,vs,rfl,bI,r.up (cB (z.sub.free L))⟩)⟩⟩;rw[<- r.length,h.len ρ ds _ I];exact la (qI hz)
def Ii{pos:Pos}{f:Xa}(h:DAX c X es f)(hz:es.length<=1000:=by exact p6 rfl):DX c X (.List es pos) (oR f):=PE.imp (zR h.pa) λσ H Q T=>by
 obtain⟨Hf0,H0,Hf,ρ,d,ρ',st,B,k⟩:=T;unfold oR at B
 cases I:f ρ with
 |none=>rw[I]at B;nomatch B
 |some q=>
  obtain⟨ds,ρ1⟩:=q;rw[I]at B;cases B;refine⟨Hf0,H0,Hf,ρ,ds,_,st,I,λvs Hf' H' M z r=>⟨?_,λq L=>(k _ _ _ (M.trans (cB (z.sub.free L))) (z.step (Ext.new z.sub L)) ⟨q,vs,rfl,bI,r.up (cB (z.sub.free L))⟩)⟩⟩;rw[<- r.length,h.len ρ ds _ I];exact la (qI hz)
inductive tMX(G:Gc)(i:Nat)(f:Xa)(σ:St)(H:Hp)(Q:List V->Hp->Prop):Prop
 |mk:∀Hf0 H0 Hf ρ ds ρ' l,aG G Hf0 H0 Hf H σ ρ->σ[i]?=aa (aa (.ref l))->f ρ=aa (ds,ρ')->(∀vs Hf' H',aM Hf Hf'->aG G Hf0 H0 Hf' H' σ ρ'->ay G Hf' ds vs->Q (.ref l::vs) H')->tMX G i f σ H Q
structure DMX(c:Str->Addr)(X:Cx)(es:LEx)(i:Nat)(f:Xa):Prop where
 pa:PA X es (tMX (Gx c X) i f)
 len:∀ρ ds ρ',f ρ=aa (ds,ρ')->ds.length+1=es.length
abbrev aX(i:Nat)(m:Addr->LD->LD->LD->Option (LD×D))(f:Xa):Xe:=λρ=>match ρ[i]? with
 |some (.pin _ _)=>(f ρ).bind λp=>match p.2[i]? with
  |some (.pin l xs)=>(m l [] p.1 xs).map λq=>(q.2,p.2.set i (.pin l q.1))
  | _=>ab
 | _=>ab
open Classical in
abbrev lP(i:Nat)(m:Addr->LD->LD->LD->Option (LD×D))(f:Xa):Xe:=λρ=>match ρ[i]? with
 |some (.own _)=>(f ρ).bind λp=>match p.2[i]? with
  |some (.own xs)=>if h:∃q,∀l,m l [] p.1 xs=aa q then aa (h.choose.2,p.2.set i (.own h.choose.1)) else ab
  | _=>ab
 | _=>ab
def bB{pos:Pos}(i:Nat)(B:DAX c X es g)(T:X.N[i]?=aa x:=by rfl)(hv:Vis X.env.scope x:=by first |exact cf rfl |exact bw (cf rfl) |exact bw (bw rfl))(hd:NDb x:=by decide)
 (q:NCd x:=by decide)(U:bi (.Name x pos::es) X.env=(ag,eval (.Name x pos) X.env)::bi es X.env:=by rfl):DMX c X (.Name x pos::es) i g:=
 ⟨PA.imp (cs (jz T hv hd q) B.pa U) λσ H Q ⟨Hf0,H0,Hf,ρ,ds,ρ',l,st,L,I,k⟩=>⟨_,L,Hf0,H0,Hf,ρ,ds,ρ',st,I,λvs Hf' H' M z r=>k vs Hf' H' M z r⟩,λρ ds ρ' h=>by
  rw[bP,B.len ρ ds ρ' h]⟩
variable{fa:Xa}
def bx{f:Addr}{pos:Pos}{m:Addr->LD->LD->LD->Option (LD×D)}(pk:Pk X.prog X.w X.K X.mg X.base CX0 k x (f,fd) ps (spM (Gx c X) 0 ps.length m))(hr0:dL k0 X.A)(ha:DMX c X (e::es) i fa)(hl:(e::es).length=ps.length:=by rfl)(hdb:NDb x:=by decide)(he:StE X e es:=by rfl)(k4:BkE X pos es:=by rfl)(hk0:k<=k0:=by decide)(hg:Gl X x:=by first |rfl |exact glc rfl):
  DX c X (.Call (.Name x p) (e::es) [] pos) (aX i m fa):=PE.imp (qC pk.ok (hr0.mono hk0) hg pk.g pk.kp pk.b .nil qH ha.pa hdb he k4) λσ H Q q_=>by
 obtain⟨Hf0,H0,Hf,ρ,d,ρ',st,z,kq⟩:=q_;unfold aX at z;split at z
 .rename_i l0 xs0 eo0
  cases L:fa ρ with
  |none=>rw[L]at z;nomatch z
  |some pp=>
   obtain⟨ds,ρ1⟩:=pp;rw[L,aC]at z;split at z
   .rename_i l xs eo
    cases T:m l [] ds xs with
    |none=>rw[T]at z;nomatch z
    |some q=>
     rw[T]at z;cases z;obtain⟨l1,U,_,_,_,_,_,_⟩:=st.ownAt rfl eo0;refine⟨Hf0,H0,Hf,ρ,ds,ρ1,l1,st,U,L,λvs Hf' H' f1 B r=>?_⟩;rw[eB];obtain⟨l2,I,h02,hf2,eq2,us2,hu2,rx2⟩:=B.ownAt rfl eo;subst eq2;rw[U]at I;cases I
     have hn:0+1+ds.length=ps.length:=by
      have:=(ha.len ρ ds _ L).trans hl;lia
     exact⟨Hf',[],ds,xs,q.1,q.2,l1,us2,[],vs,rfl,B.sub,hf2,hu2,rfl,r,rx2,rfl,hn,T,λv M H3 us3 x3 hf3 hu3 rx3 r3=>kq v M H3 (f1.trans x3.f) (B.back rfl rfl eo U x3 hf3 ⟨rfl,us3,hu3,rx3⟩) r3⟩
   .nomatch z
 .nomatch z
def wd{f:Addr}{pos:Pos}{m:Addr->LD->LD->LD->Option (LD×D)}(pk:Pk X.prog X.w X.K X.mg X.base CX0 k x (f,fd) ps (spM (Gx c X) 0 ps.length m))(hr0:dL k0 X.A)(ha:DMX c X (e::es) i fa)(hl:(e::es).length=ps.length:=by rfl)(hdb:NDb x:=by decide)(he:StE X e es:=by rfl)(k4:BkE X pos es:=by rfl)(hk0:k<=k0:=by decide)(hg:Gl X x:=by first |rfl |exact glc rfl):
  DX c X (.Call (.Name x p) (e::es) [] pos) (lP i m fa):=PE.imp (qC pk.ok (hr0.mono hk0) hg pk.g pk.kp pk.b .nil qH ha.pa hdb he k4) λσ H Q q_=>by
 obtain⟨Hf0,H0,Hf,ρ,d,ρ',st,z,kq⟩:=q_;unfold lP at z;split at z
 .rename_i xs0 U
  cases L:fa ρ with
  |none=>rw[L]at z;nomatch z
  |some pp=>
   obtain⟨ds,ρ1⟩:=pp;rw[L,aC]at z;split at z
   .rename_i xs eo;split at z
    .rename_i hq;have e2:=hq.choose_spec;generalize hq.choose=q at z e2;cases z;obtain⟨l1,T,_,_,_,_,_⟩:=st.ownAt rfl U;refine⟨Hf0,H0,Hf,ρ,ds,ρ1,l1,st,T,L,λvs Hf' H' f1 B r=>?_⟩;rw[eB];obtain⟨l2,I,h02,hf2,us2,hu2,rx2⟩:=B.ownAt rfl eo;rw[T]at I;cases I
     have hn:0+1+ds.length=ps.length:=by
      have:=(ha.len ρ ds _ L).trans hl;lia
     exact⟨Hf',[],ds,xs,q.1,q.2,l1,us2,[],vs,rfl,B.sub,hf2,hu2,rfl,r,rx2,rfl,hn,e2 l1,λv M H3 us3 x3 hf3 hu3 rx3 r3=>kq v M H3 (f1.trans x3.f) (B.back rfl rfl eo T x3 hf3 ⟨us3,hu3,rx3⟩) r3⟩
    .nomatch z
   .nomatch z
 .nomatch z
abbrev c7(i:Nat)(f:Xe)(ρ:LS):Option Fl:=(f ρ).map λp=>.nx (p.2.set i (.im p.1))
abbrev jJ(f:Xe)(ρ:LS):Option Fl:=(f ρ).map λp=>.rtS p.1 p.2
abbrev iL(i:Nat)(f:Xe)(ρ:LS):Option Fl:=match ρ[i]? with
 |some (.own _)=>(f ρ).bind λp=>match p.2[i]? with
  |some (.own xs)=>if xs.length<16777216 then aa (.nx (p.2.set i (.own (xs++[p.1])))) else ab
  | _=>ab
 | _=>ab
abbrev oU:D->D->OD
 |.int i,.int j=>aa (.int (i+j))
 |.str a,.str b=>if a.length+b.length<=16777216 then aa (.str (a++b)) else ab
 | _,_=>ab
abbrev lQ(i:Nat)(f:Xe)(ρ:LS):Option Fl:=match ρ[i]? with
 |some (.im x)=>(f ρ).bind λp=>(oU x p.1).map λz=>.nx (p.2.set i (.im z))
 | _=>ab
abbrev kz(t:Xt)(F F':MF3)(ρ:LS):Option Fl:=(t ρ).bind λp=>if p.1 then F p.2 else F' p.2
def ff{pos:Pos}(i:Nat){f:Xe}(I:X.N.Nodup)(L:DX c X e f)(hi:X.N[i]?=aa x:=by rfl)(U:Loc X.env.scope x:=by first |exact cf rfl |exact bw rfl)(T:fF e (aa (.Name x b0)) pos.line X.env=pure ag:=by rfl)(M:LcF X x:=by first |exact .inl rfl |exact .inr rfl):
  DS c X (.Assign [.Name x b0] e pos) (c7 i f):=PS.imp (mC I hi U L T M) λE σ H q_=>by
 obtain⟨Hf0,H0,Hf,ρ,o,so,q,k⟩:=q_;unfold c7 at q
 cases z:f ρ with
 |none=>rw[z]at q;nomatch q
 |some p=>
  rw[z]at q;cases q;exact⟨Hf0,H0,Hf,ρ,p.1,p.2,so,z,λv Hf' H' s B r=>k _ Hf' H' s (B.setIm r)⟩
def oV{pos:Pos}{f:Xe}(I:DX c X e f):DS c X (.Return (aa e) pos) (jJ f):=PS.imp (nW I) λE σ H L=>by
 obtain⟨Hf0,H0,Hf,ρ,o,M,q,k⟩:=L;unfold jJ at q
 cases z:f ρ with
 |none=>rw[z]at q;nomatch q
 |some p=>
  rw[z]at q;cases q;exact⟨Hf0,H0,Hf,ρ,p.1,p.2,M,z,λv Hf' H' s B r=>k v σ Hf' H' B r⟩
def mY{f:Xe}(h:PS X st (mz (tBM X.K "list" vj (eG i) (jB (tDX (Gx c X) f) j1)))):DS c X st (iL i f):=PS.imp h λE σ H q_=>by
 obtain⟨Hf0,H0,Hf,ρ,o,U,z,k⟩:=q_;unfold iL at z;split at z
 .rename_i xs0 M
  cases I:f ρ with
  |none=>rw[I]at z;nomatch z
  |some p=>
   rw[I,aC]at z;split at z
   .rename_i xs es;split at z
    .rename_i hl;cases z;obtain⟨l,L,h0,hf,vs0,q0,r0⟩:=U.ownAt rfl M;refine⟨_,L,.inl ⟨rfl,_,SqL.of q0⟩,Hf0,H0,Hf,ρ,p.1,p.2,U,I,λv Hf' H' s B r'=>?_⟩;obtain⟨l2,T,h02,hf2,vs,q,r⟩:=B.ownAt rfl es;rw[L]at T;cases T;exact⟨l,vs,v,rfl,rfl,q,by rw[cG,<- r.length];exact hl,k σ Hf' _ s (B.mutd rfl rfl es L ⟨vs++[v],bI,r.append (.cons r' .nil)⟩)⟩
    .nomatch z
   .nomatch z
 .nomatch z
def Ij:PIp X .Add (rD (Gx c X) oU):=λpins s σ H x y v u Q I L M q_=>by
 obtain⟨Hf,dx,q,d,T,z,B,e,k⟩:=q_
 exact (by
 cases dx with
 |int i=>
  cases q with
  |int j=>
   subst z;subst B;cases e
   exact E6 pins s σ H _ _ v u Q I L M ⟨_,_,rfl,rfl,k _ Hf H (Ext.refl T) rfl⟩
  | _=>nomatch e
 |str a=>
  cases q with
  |str b=>
   subst z;subst B;replace e:(if _ then aa _ else ab)=aa d:=e;split at e
   .rename_i U;cases e;exact FG pins s σ H _ _ v u Q I L M ⟨_,_,rfl,rfl,by rw[cG];exact U,k _ Hf H (Ext.refl T) rfl⟩
   .nomatch e
  | _=>nomatch e
 | _=>nomatch e)
def we{pos:Pos}(i:Nat){f:Xe}(hN:X.N.Nodup)(he:DX c X e f)(hi:X.N[i]?=aa x:=by rfl)(hx:Loc X.env.scope x:=by first |exact cf rfl |exact bw rfl)(hf:LcF X x:=by first |exact .inl rfl |exact .inr rfl):
  DS c X (.AugAssign (.Name x b0) .Add e pos) (lQ i f):=PS.imp (zH hN hi hx he (Ij) hf) λE σ H q_=>by
 obtain⟨Hf0,H0,Hf,ρ,o,T,q,k⟩:=q_;unfold lQ at q;split at q
 .rename_i d es
  cases I:f ρ with
  |none=>rw[I]at q;nomatch q
  |some p=>
   rw[I,aC]at q
   cases L:oU d p.1 with
   |none=>rw[L]at q;nomatch q
   |some z=>
    rw[L]at q;cases q;obtain⟨v,ev,w,ew,M⟩:=T.slot es;subst ew;exact⟨_,ev,Hf0,H0,Hf,ρ,p.1,p.2,T,I,λu Hf' H' s B r=>⟨Hf',d,p.1,z,B.sub,M.up s,r,L,λy a9 H2 U r2=>k _ a9 H2 (s.trans U.f) ((B.step U).setIm r2)⟩⟩
 .nomatch q
variable{as:List Stmt}
def sh{pos:Pos}{bs:List Stmt}{t:Xt}(M:DTX c X e t)(I:DSs c X as F)(L:DSs c X bs F'):DS c X (.If e as bs pos) (kz t F F'):=PS.imp (zD M I L) λE σ H T=>by
 obtain⟨Hf0,H0,Hf,ρ,o,U,q,k⟩:=T;unfold kz at q
 cases B:t ρ with
 |none=>rw[B]at q;nomatch q
 |some x=>
  obtain⟨b,ρ1⟩:=x;rw[B,aC]at q;refine⟨Hf0,H0,Hf,ρ,b,ρ1,U,B,λal H1 s1 z=>?_⟩
  cases b with
  |true=>rw[if_pos rfl];exact⟨Hf0,H0,al,ρ1,o,z,q,k.up s1⟩
  |false=>rw[if_neg bS];exact⟨Hf0,H0,al,ρ1,o,z,q,k.up s1⟩
abbrev mBX(f:Xe):Xt:=λρ=>(f ρ).bind λp=>match p.1 with
 |.bl b=>aa (b,p.2)
 | _=>ab
abbrev mTX(f:MF4):Xt:=λρ=>(f ρ).map λb=>(b,ρ)
abbrev lR(f g:Xt):Xt:=λρ=>(f ρ).bind λp=>if p.1 then g p.2 else aa (ag,p.2)
abbrev DWX(c:Str->Addr)(X:Cx)(e:Expr)(f:Xt):Prop:=PW X e (oT (Gx c X) f)
abbrev jK:D->D->OD
 |.str z,.int i=>if 0<=i/\i<2 ^ 63/\i<(z.length:Int) then (z.cps[i.toNat]?).map λch=>.str ⟨#[ch]⟩ else ab
 | _,_=>ab
abbrev fu(x y:D):OD:=match x with
 |.lst ds=>ixD ds y
 |.tup ds=>ixD ds y
 | _=>ab
abbrev jf(f:Xa):Xa:=λρ=>(f ρ).bind λp=>(kf p.1).map λds=>(ds,p.2)
def DT.dtx{f:MF4}(h:DT c X e f):DTX c X e (mTX f):=PT.imp h λσ H Q B=>by
 obtain⟨Hf0,H0,Hf,ρ,I,ρ',st,q,k⟩:=B;unfold mTX at q
 cases z:f ρ with
 |none=>rw[z]at q;nomatch q
 |some x=>
  rw[z]at q;cases q;exact⟨Hf0,H0,Hf,ρ,_,st,z,λHf' H' x=>k Hf' H' x.f (st.step x)⟩
def oW{pos:Pos}{f g:Xe}(ho:OpD c X (cU op) m)(ha:DX c X a f)(hb:DX c X b g)(hm:jV op b=ag:=by first |exact qA _ |rfl):
  DTX c X (.Compare a [op] [b] pos) (mBX (mX2 m f g)):=PT.imp (zN ho ha hb hm) λσ H Q q_=>by
 obtain⟨Hf0,H0,Hf,ρ,bb,ρ',st,z,k⟩:=q_;unfold mBX at z
 cases L:mX2 m f g ρ with
 |none=>rw[L]at z;nomatch z
 |some q=>
  obtain⟨d,dy⟩:=q;rw[L,aC]at z;obtain⟨x,y,ρ1,e1,e2,e3⟩:=oS L
  cases d <;> first |(cases z;done) |skip
  cases z;exact⟨Hf0,H0,Hf,ρ,x,ρ1,st,e1,λv al H1 f1 M r1=>⟨Hf0,H0,al,ρ1,y,_,M,e2,λu a9 H2 T B r2=>⟨a9,x,y,_,B.sub,r1.up T,r2,e3,λw I H3 U r3=>⟨_,r3,k I H3 ((f1.trans T).trans U.f) (B.step U)⟩⟩⟩⟩
def DWX.dtx{f:Xt}(h:DWX c X e f):DTX c X e f:=PW.pt h
def Ik{pos:Pos}{f:Xt}(h:DTX c X a f):DWX c X (.BoolOp .And [a] pos) f:=zA h
def Il{pos:Pos}{f g:Xt}{bE:LEx}(h:DTX c X a f)(h':DWX c X (.BoolOp .And (b::bE) pos) g):DWX c X (.BoolOp .And (a::b::bE) pos) (lR f g):=PW.imp (zB h h') λσ H Q M=>by
 obtain⟨Hf0,H0,Hf,ρ,L,ρ',st,q,k⟩:=M;unfold lR at q
 cases B:f ρ with
 |none=>rw[B]at q;nomatch q
 |some x=>
  obtain⟨x,ρ1⟩:=x;rw[B,aC]at q;refine⟨Hf0,H0,Hf,ρ,x,ρ1,st,B,λal H1 s1 z=>?_⟩
  cases x with
  |true=>rw[if_pos rfl];exact⟨Hf0,H0,al,ρ1,L,ρ',z,q,λa9 H2 s2 I=>k a9 H2 (s1.trans s2) I⟩
  |false=>cases q;rw[if_neg bS];exact k al H1 s1 z
def BH{x:D}(h:jK x y=aa d):∃z i ch,x=.str z/\y=.int i/\0<=i/\i<2 ^ 63/\i<(z.length:Int)/\z.cps[i.toNat]?=aa ch/\d=.str ⟨#[ch]⟩:=by
 unfold jK at h;split at h
 .rename_i z i;split at h
  .rename_i q
   cases e:z.cps[i.toNat]? with
   |none=>rw[e]at h;nomatch h
   |some ch=>rw[e]at h;cases h;exact⟨z,i,ch,rfl,rfl,q.1,q.2.1,q.2.2,e,rfl⟩
  .nomatch h
 .nomatch h
def Im{pos:Pos}{f g:MF1}(T:DE c X a f)(U:DE c X b g)(hs:vc b:=by exact λ_ _=>rfl):DE c X (.Subscript a b pos) (m2 jK f g):=PE.imp (zP T U hs) λσ H Q q_=>two (λvx vy H Q q=>by
 obtain⟨Hf,x,y,d,s0,r1,r2,e,k⟩:=q;obtain⟨z,i,ch,rfl,rfl,B,I,L,M,rfl⟩:=BH e;exact⟨z,i,ch,r1,r2,B,I,L,M,k _ Hf H (Ext.refl s0) rfl⟩) q_
def BI{pos:Pos}{f g:Xe}(ha:DX c X a f)(hb:DX c X b g)(hs:vc b:=by exact λ_ _=>rfl):DX c X (.Subscript a b pos) (mX2 jK f g):=PE.imp (zP ha hb hs) λσ H Q q_=>by
 obtain⟨Hf0,H0,Hf,ρ,d,ρ',st,T,k⟩:=q_;obtain⟨x,y,ρ1,I,L,M⟩:=oS T;obtain⟨z,i,ch,rfl,rfl,h0,h1,h2,h3,rfl⟩:=BH M;exact⟨Hf0,H0,Hf,ρ,_,ρ1,st,I,λv al H1 U q r1=>⟨Hf0,H0,al,ρ1,_,ρ',q,L,λu a9 H2 f2 B r2=>⟨z,i,ch,r1,r2,h0,h1,h2,h3,k _ a9 H2 (U.trans f2) B rfl⟩⟩⟩
def iM{pos:Pos}{f g:Xe}(ha:DX c X a f)(hb:DX c X b g)(hs:vh b:=by exact λ_ _=>rfl):DX c X (.Subscript a b pos) (mX2 fu f g):=PE.imp (z7 (z8.or z9) ha hb hs) λσ H Q q_=>by
 obtain⟨Hf0,H0,Hf,ρ,d,ρ',st,ef,k⟩:=q_;obtain⟨x,y,ρ1,e1,e2,B⟩:=oS ef;refine⟨Hf0,H0,Hf,ρ,x,ρ1,st,e1,λv al H1 f1 st1 I=>⟨Hf0,H0,al,ρ1,y,ρ',st1,e2,λu a9 H2 T z r2=>?_⟩⟩;have I:=I.up T;unfold fu at B;split at B
 .rename_i ds
  cases y <;> first |(cases B;done) |skip
  rename_i n;cases (r2);obtain⟨l,vs,L,q,r⟩:=I;subst L;obtain⟨v,M,U⟩:=vH B r;exact .inl ⟨l,vs,n,v,rfl,rfl,SqL.of (z.sub _ _ q),M,k v a9 H2 (f1.trans T) z U⟩
 .rename_i ds
  cases y <;> first |(cases B;done) |skip
  rename_i n;cases (r2);obtain⟨l,vs,L,q,r⟩:=I;subst L;obtain⟨v,M,U⟩:=vH B r;exact .inr ⟨l,vs,n,v,rfl,rfl,SqT.of (z.sub _ _ q),M,k v a9 H2 (f1.trans T) z U⟩
 .nomatch B
def oX{pos:Pos}{f:Xa}(hg:Gl X "range")(hm:X.mg "range"=ab)(M:DAX c X [a] f)(hs:bi [a] X.env=[(ag,eval a X.env)]:=by rfl):DXi c X tg (.Call (.Name "range" p) [a] [] pos) (jf f):=
 PI.imp (zI hg hm M.pa hs) λσ H R q_=>by
  obtain⟨Hf0,H0,Hf,ρ,ds,ρ',st,B,k⟩:=q_;unfold jf at B
  cases I:f ρ with
  |none=>rw[I]at B;nomatch B
  |some q=>
   obtain⟨as,ρ1⟩:=q;rw[I,aC]at B
   cases z:kf as with
   |none=>rw[z]at B;nomatch B
   |some U=>
    rw[z]at B;cases B;have hl:=M.len ρ as _ I;refine⟨Hf0,H0,Hf,ρ,as,_,st,I,λvs Hf' H' s1 L r=>?_⟩;unfold kf at z;split at z
    .split at z
     .rename_i j T;cases z;obtain⟨v,ev,rv⟩:=r.one;cases (rv);exact⟨j,ev,T.1,T.2,k _ Hf' H' s1 L AU⟩
     .nomatch z
    .nomatch hl
    .nomatch z
abbrev isE(x d:D):Bool:=deq 19 d x==aa ac
abbrev mZ(y x:D):OD:=match y with
 |.lst ds=>if iE x ds=aa ac then aa (.int ((ds.findIdx (isE x):Nat):Int)) else ab
 | _=>ab
def BJ{x:D}:∀{ds:LD} {b:Bool},iE x ds=aa b->(∀d∈ds,∃B,deq 19 d x=aa B)/\ds.any (isE x)=b
 | [],_,h=>by cases h;exact⟨λd hd=>(cT hd).elim,rfl⟩
 |d::ds,b,h=>by
  obtain⟨q,T,z,I,rfl⟩:=Be h;obtain⟨L,M⟩:=BJ I;refine⟨λd' hd=>?_,?_⟩
  .rcases bX.mp hd with e |e
   .rw[e];exact⟨q,z⟩
   .exact L d' e
  .rw[eS,M];unfold isE;rw[z]
   cases q <;> rfl
abbrev BK(G:Gc):V->List V->Hp->VK->Prop:=λq vs H Q=>∃Hf y x d w,vs=[w]/\aM Hf H/\Rep G Hf y q/\Rep G Hf x w/\mZ y x=aa d/\∀v Hf' H',Ext Hf H Hf' H'->Rep G Hf' d v->Q v H'
def Io(hu:X.A.units+64<cLine):MtM X "list.index" (BK (Gx c X)):=by
 rintro pins s σ H x xs v us Q I rx rv ⟨Hf,y,z,d,w,rfl,s0,r1,r2,e,k⟩;unfold mZ at e;split at e
 .rename_i ds;split at e
  .rename_i B;cases e;obtain⟨l,vs,el,q,rs⟩:=r1;subst el;subst rx;obtain⟨u,rfl,ru⟩:=rv.one;obtain⟨z1,its,n,rr,hl,e0⟩:=I.lstM (s0 _ _ q);obtain⟨f,hf,ha⟩:=Bg (A:=X.A.in1) I (by rw[qh];lia) (r2.up s0) ru (rs.up s0) rr B;obtain⟨k1,k2⟩:=BJ B
   have same:∀m _,f its[m]=isE z (ds.getD m .non):=λm L=>by
    have md:m<ds.length:=by rw[rs.length,hl];exact L
    obtain⟨v1,ev1,rv1⟩:=rs.get (cr md);obtain⟨u1,M,ru1⟩:=rr.get ev1;rw[cr L]at M;cases M;obtain⟨_,d',v',r',rv',h'⟩:=hf its[m] (ju L);have ev:=aP.inj rv' ru1;subst ev;obtain⟨b1,T⟩:=k1 ds[m] (ju md);rw[fm,cr md];show _=isE z ds[m];unfold isE;rw[T,(rQ 19 r' (rv1.up s0) h' T)]
    cases b1 <;> rfl
   have hj:=findIdx_lt_length_of_exists (any_eq_true.mp k2);have U:ds.findIdx (isE z)<its.length:=by rw[<- hl,<- rs.length];exact hj
   refine mr F.slot_list_index ⟨_,e0,rfl⟩ F.entry_list_index (F.args_list_index_2 _ _) (SeqAt.list_indexAt l its.toArray n ab #[] u f _ (by rw[size_toArray];exact U) (by rw[cG]at z1;lia) ?_ ?_) ⟨e0,λy hy=>(hf y (by simpa using hy)).1,⟨.int _,H,I.tok _,⟨_,rfl⟩,k _ Hf H (Ext.refl s0) rfl⟩⟩
   .rw[List.getElem_toArray,same _ U,fm,cr hj];exact findIdx_getElem
   .intro m L hlt;rw[List.getElem_toArray,same m (by rw[size_toArray]at L;exact L),fm,cr _];have:=not_of_lt_findIdx hlt
    simpa using this
  .nomatch e
 .nomatch e
def Ip{f g:MF1}(h:PE X e (tBM X.K "list" (BK (Gx c X)) (tD (Gx c X) f) (jB (tD (Gx c X) g) j1))):DE c X e (m2 mZ f g):=PE.imp h λσ H Q q_=>by
 obtain⟨Hf0,H0,Hf,ρ,d,st,ef,k⟩:=q_;obtain⟨x,y,U,e2,z⟩:=oi ef
 obtain⟨ds,rfl⟩:∃ds,x=.lst ds:=by
  unfold mZ at z;split at z
  .exact⟨_,rfl⟩
  .nomatch z
 refine⟨Hf0,H0,Hf,ρ,_,st,U,λv al H1 I M=>?_⟩;obtain⟨l,vs,el,q,rs⟩:=id M;subst el;exact⟨.inl ⟨rfl,_,SqL.of (I.s _ _ q)⟩,Hf0,H0,al,ρ,y,st.step I,e2,λu a9 H2 L r2=>⟨a9,.lst ds,y,d,u,rfl,L.s,M.up L.f,r2,z,λw B T x3 r3=>k w B T ((I.trans L).trans x3) r3⟩⟩
open PySem.Builtin PySem.Builtin.Str in
abbrev wf(x y:D):OD:=match x,y with
 |.str a,.int n=>if a.length=1/\0<=n/\n<=1000 then aa (.str ⟨(fV n.toNat (a.cps.getD 0 0)).toArray⟩) else ab
 | _,_=>ab
def BL(z:Str)(n:Nat)(h:z.length=1):(fV n z.cps).foldl (·++·) #[]=(fV n (z.cps.getD 0 0)).toArray:=by
 have hz:z.cps=#[z.cps.getD 0 0]:=by
  obtain⟨⟨l⟩⟩:=z
  match l,h with
  | [c],_=>rfl
 induction n with
 |zero=>rfl
 |succ n q=>
  rw[replicate_succ',mf,q,replicate_succ',hz];apply Array.toList_inj.mp;simp
def Iq:OpD c X (fo .Mult) wf:=by
 rintro pins s σ H vx vy v u Q I rx ry ⟨Hf,x,y,d,s0,r1,r2,e,k⟩;unfold wf at e;split at e
 .rename_i a n;split at e
  .rename_i z;cases e;cases (r1);cases (r2);obtain⟨t,rfl⟩:=rx;obtain⟨t',rfl⟩:=ry
   have q:∀M T,EP X pins σ Q _ {s with toks:=M}:=λM T=>⟨.str _,H,I.tok M,⟨T,rfl⟩,k _ Hf H (Ext.refl s0) rfl⟩
   refine P.mul_str ?_ ?_ ?_ ?_
   .rw[decide_eq_false (by lia),decide_eq_false (by lia)];rfl
   .intro B _;have:(2 ^ 63-1:Int) / n≥1:=Int.le_ediv_of_mul_le (by lia) (by lia);lia
   .intro _ _;rw[z.1];unfold zi.Str.tooLong aW;exact decide_eq_false (show ¬_ by lia)
   .by_cases B:n<1
    .rw[if_pos B];have U:n.toNat=0:=by lia
     refine⟨by decide,?_⟩;rw[U]at q;exact q _ _
    .rw[if_neg B]
     by_cases L:n=1
     .rw[if_pos (by simp[L])]
      have e1:(⟨(fV n.toNat (a.cps.getD 0 0)).toArray⟩:Str)=a:=by
       have:=BL a n.toNat z.1;rw[<- this,L];show(⟨#[]++a.cps⟩:Str)=a;rw[Array.empty_append]
      rw[e1]at q;exact q s.toks t
     .rw[if_neg (by simp[L,z.1]),BL a _ z.1];refine⟨?_,q _ _⟩;show(fV n.toNat _).toArray.size<=_;rw[size_toArray,kW,cG];lia
  .nomatch e
 .nomatch e
def BM{g:Str}{pos:Pos}(B:Gl X x)(q:∃t,X.mg x=aa (.str g t))(hd:NDb x:=by decide):DE c X (.Name x pos) (λ_=>aa (.str g)):=by
 obtain⟨t,q⟩:=q
 exact PE.imp (zy B q (v:=.str g) ⟨t,rfl⟩ hd) λσ H Q I=>by
  obtain⟨Hf0,H0,Hf,ρ,d,st,z,k⟩:=I;cases z;exact k _ Hf H (Ext.refl st.sub) rfl
abbrev Its(x:Str):It:=⟨λi _=>i<x.length,λi H v H'=>H'=H/\∃ch,x.cps[i]?=aa ch/\v=.str ⟨#[ch]⟩,λi _=>x.length<=i⟩
def Ir{K:bo}(it:Addr)(x:Str)(t:Tok):jA P w K tg (Its x) [it] it (λi h=>h.IsStrIter it "str_ascii_iterator" x t i) where
 mem:=bN.mpr rfl
 obj:=λi h ⟨o,e,oc,od⟩ b hb=>by
  cases bN.mp hb;exact⟨o,e,λv z=>by rw[od]at z;nomatch z⟩
 keep:=λi h h' ⟨o,e,r⟩ k=>⟨o,k it (bN.mpr rfl) o e,r⟩
 item:=by
  intro X eP ew eK cm i pins s σ H E I hf st hg;obtain⟨f0,f1,f2,f3,f4,f5⟩:=hf it (bN.mpr rfl);have hx:=Array.getElem?_eq_getElem hg;refine wpAny_pyNext_ascii_item st hx λh' fy sb=>?_
  have I1:Inv X pins σ H {s with heap:=h',toks:=s.toks+1}:=I.turned (λb o hb e=>(sb.2 b hb).trans e) f0 f1 f3 f4 f5
  obtain⟨o,e,oc,od⟩:=id fy;exact⟨_,rfl,nX e oc od (by decide) ⟨.str ⟨#[x.cps[i]]⟩,H,I1,⟨_,rfl⟩,⟨rfl,_,hx,rfl⟩,fy,λb hb=>(hf b hb).1⟩⟩
 done:=by
  intro X eP ew eK cm i pins s σ H E I hf st hg;obtain⟨f0,f1,f2,f3,f4,f5⟩:=hf it (bN.mpr rfl);exact wpAny_pyNext_ascii_end (I.ok.hd cm) st (ux hg) λh' eb=>⟨rfl,I.turned (λb o hb e=>eb b o hb e) f0 f1 f3 f4 f5⟩
 self:=λ_ _ _ _ _ st h=>wpAny_pyIter_striter_ascii st h
abbrev m3(f:MF1)(ρ:LS):OLD:=(f ρ).bind λd=>match d with
 |.str x=>if x.cps.all (· < 128)=ac then aa (x.cps.toList.map λch=>.str ⟨#[ch]⟩) else ab
 | _=>ab
def Iu:lC G Hf (Its x) (x.cps.toList.map λch=>D.str ⟨#[ch]⟩):=λHf' H' f s i=>by
 refine⟨λd q=>?_,λz=>?_⟩
 .rw[d7]at q
  cases e:x.cps.toList[i]? with
  |none=>rw[e]at q;nomatch q
  |some ch=>
   rw[e]at q;cases q;have hi:i<x.cps.size:=by simpa using (eQ.mp e).1
   refine⟨hi,λv H2 ⟨I,M,B,L⟩=>?_⟩;subst I L;rw[<- uz,e]at B;cases B;exact⟨Hf',Ext.refl s,rfl⟩
 .rw[av,nF]at z;exact Nat.le_of_eq z.symm
def Iv{l:Expr}{L:TE}(U:PE X l L):PI X tg l (λσ H R=>L σ H λx H1=>∃z,x=.str z/\z.cps.all (· < 128)=ac/\R (Its z) H1):=by
 intro pins s σ H R I h;refine thn (U pins s σ H _ I h) λv s1 q_=>?_;obtain⟨x,H1,B,r1,z,M,as,q⟩:=q_;subst M;obtain⟨t,rfl⟩:=r1;refine wpAny_pyIter_ascii as ?_;refine⟨s1.heap.objs.size,_,_,_,H1,rfl,B.kept λb o e=>bQ _ e,Ir _ z t,⟨_,dE _ rfl,rfl,rfl⟩,λb T=>?_,q⟩;cases bN.mp T;exact B.fpOk Nat.le.refl (B.hok.fresh Nat.le.refl)
def Iw{f:MF1}(h:DE c X e f):DI c X tg e (m3 f):=PI.imp (Iv h) λσ H R B=>by
 obtain⟨Hf0,H0,Hf,ρ,ds,st,q,k⟩:=B;unfold m3 at q
 cases z:f ρ with
 |none=>rw[z]at q;nomatch q
 |some d=>
  rw[z,aC]at q
  cases d <;> first |(cases q;done) |skip
  rename_i x;replace q:(if x.cps.all (· < 128)=ac then aa _ else ab)=aa ds:=q;split at q
  .rename_i as;cases q;exact⟨Hf0,H0,Hf,ρ,_,st,z,λv al H1 L I=>⟨x,I,as,k _ al H1 L Iu⟩⟩
  .nomatch q
abbrev inS(y x:Str):Bool:=!(zi.Str.occurrences x y 0 x.length 1).isEmpty
abbrev m4(y x:D):OD:=match y,x with
 |.str y,.str x=>aa (.bl (inS y x))
 | _,_=>ab
def Ix:∀x y d,m4 x y=aa d->d.scalar=ac:=λx y d e=>by
 unfold m4 at e;split at e
 .cases e;rfl
 .nomatch e
def Iy:OpD c X (cU .In) m4:=by
 rintro pins s σ H T U v u Q I B L ⟨Hf,x,y,d,M,q,z,e,k⟩;unfold m4 at e;split at e
 .rename_i y x;cases e;cases (q);cases (z);obtain⟨t,rfl⟩:=B;obtain⟨t',rfl⟩:=L;exact PyProof.Rows.in_str ⟨.bl _,H,I,rfl,k _ Hf H (Ext.refl M) rfl⟩
 .nomatch e
abbrev Iz:V->Option Int->Option Int->Hp->VK->Prop:=λx lo hi H Q=>∃z,x=.str z/\z.length<=aW/\Q (.str (gG z lo hi)) H
def IA:SlR X Iz:=by
 rintro pins s σ H x v vl vu lo hi sl Q I rx hs pl U ⟨z,rfl,hz,q⟩;obtain⟨t,rfl⟩:=rx;refine⟨"str",_,F.slot_str_getitem.lookup,typeIs_str _ _ _,?_⟩
 have B:∀t' k,EP X pins σ Q _ {s with toks:=k}:=λt' k=>⟨.str _,H,I.tok k,⟨t',rfl⟩,q⟩
 obtain⟨o,M,L,hd⟩:=hs
 cases pl with
 |none=>
  cases U with
  |none=>exact p9 (l:=ab) (u:=ab) (st:=ab) ⟨o,M,L,hd⟩ rfl (qd ⟨dC (qt z _ _) hz,B⟩)
  |int i T=>exact p9 (l:=ab) (u:=aa (i,T)) (st:=ab) ⟨o,M,L,hd⟩ rfl (qd ⟨dC (qt z _ _) hz,B⟩)
 |int j tj=>
  cases U with
  |none=>exact p9 (l:=aa (j,tj)) (u:=ab) (st:=ab) ⟨o,M,L,hd⟩ rfl (qd ⟨dC (qt z _ _) hz,B⟩)
  |int i T=>exact p9 (l:=aa (j,tj)) (u:=aa (i,T)) (st:=ab) ⟨o,M,L,hd⟩ rfl (qd ⟨dC (qt z _ _) hz,B⟩)
abbrev si(d:D)(lo hi:Option Int):OD:=match d with
 |.str z=>if z.length<=16777216 then aa (.str (gG z lo hi)) else ab
 | _=>ab
def IB{r:D}(h:si d lo hi=aa r):∃z,d=.str z/\z.length<=aW/\r=.str (gG z lo hi):=by
 unfold si at h;split at h
 .split at h
  .rename_i hz;cases h;exact⟨_,rfl,by rw[cG];exact hz,rfl⟩
  .nomatch h
 .nomatch h
abbrev m5(f:MF1)(l h:LS->Option (Option Int))(ρ:LS):OD:=(f ρ).bind λd=>(l ρ).bind λlo=>(h ρ).bind λhi=>si d lo hi
def BN{pos:Pos}{f:MF1}{l h:LS->Option (Option Int)}{lo hi:Option Expr}(ha:DE c X e f)(hl:DPt c X lo l)(hh:DPt c X hi h):DE c X (.Subscript e (.Slice lo hi ab p2) pos) (m5 f l h):=
 PE.imp (vg IA ha hl hh) λσ H Q q_=>by
  obtain⟨Hf0,H0,Hf,ρ,r,st,q,k⟩:=q_;unfold m5 at q
  cases I:f ρ with
  |none=>rw[I]at q;nomatch q
  |some d=>
   rw[I,aC]at q
   cases L:l ρ with
   |none=>rw[L]at q;nomatch q
   |some U=>
    rw[L,aC]at q
    cases M:h ρ with
    |none=>rw[M]at q;nomatch q
    |some T=>
     rw[M,aC]at q;obtain⟨z,rfl,hz,rfl⟩:=IB q;exact⟨Hf0,H0,Hf,ρ,_,st,I,λv al H1 x1 r1=>⟨Hf0,H0,al,ρ,U,st.step x1,L,λa9 H2 x2=>⟨Hf0,H0,a9,ρ,T,(st.step x1).step x2,M,λB H3 x3=>⟨z,r1,hz,k _ B H3 ((x1.trans x2).trans x3) rfl⟩⟩⟩⟩
def oY:DS c X st (λ_=>ab):=λpins s σ H E I z=>by
 obtain⟨Hf0,H0,Hf,ρ,o,B,q,k⟩:=z
 nomatch q
def sj:entryFor table "dict.update.loop"=aa cZ.«dict.update.loop»:=entryFor_of_tree (by kernel_rfl)
def kA:plainId "dict.update.loop"=ac:=by decide +kernel
def IC:jX (.type "list") "keys"=pure ab:=by rw[lh,lf];kernel_rfl
abbrev ID(P:di)(w:World)(h:Heap)(D it:Addr)(items:Array Value)(ps:List (Key×Value)):Prop:=items.size=ps.length/\∀(i:Nat) (p:Key×Value),ps[i]?=aa p->∃t key,items[i]?=aa (.ref t)/\t≠D/\t≠it/\h.IsTuple t #[key,p.2]/\(cV P w).is p.1 key=ac
def IE(hh:A.handled=ab)(D it l:Addr)(items:Array Value)(ps:List (Key×Value))(M:D≠it)(hDl:D≠l)(hil:it≠l)(nd:(ps.map (·.1)).Nodup)(hz:ps.length<=1000):
  ∀(n i:Nat) (s:aE),i+n=ps.length->ID prog w s.heap D it items ps->s.heap.IsList l items->s.heap.IsListIter it l i->s.heap.DictOf (cV prog w) D (ps.take i) ->
   (∀h' tk,h'.DictOf (cV prog w) D ps->(∀b o,b≠D->b≠it->s.heap.get? b=aa o->h'.get? b=aa o)->R (.ok (.ret .none)) {s with heap:=h',toks:=tk}) ->
   gp (model prog w) A (.builtin "dict.update.loop" ⟨[.ref D,.ref it,.int i 0,.none],[]⟩) R s:=by
 intro n
 induction n with
 |zero=>
  intro i s hi pa hl T hd k;refine jU sj ?_;rw[qg kA];unfold cZ.«dict.update.loop»;dsimp only;have hx:items[i]?=ab:=ux (by rw[pa.1];lia);refine ar (uL (A:=A.in1) hh T hl hx λh' eb=>?_);dsimp only;refine ar (aY (aY ?_));have e:ps.take i=ps:=kU (by lia);rw[e]at hd;obtain⟨od,es,ep,ho,r⟩:=hd
  exact k h' s.toks ⟨od,es,ep,eb D od M ho,r⟩ λb o _ hb B=>eb b o hb B
 |succ n ih=>
  intro i s hi pa hl T hd k;refine jU sj ?_;rw[qg kA];unfold cZ.«dict.update.loop»;dsimp only;obtain⟨p,hp⟩:∃p,ps[i]?=aa p:=⟨_,cr (by lia)⟩;obtain⟨t,key,e1,tD,tit,ht,hk⟩:=pa.2 i p hp;refine ar (uK T hl e1 λh1 l9 U=>?_);dsimp only
  have ht1:h1.IsTuple t #[key,p.2]:=by
   obtain⟨o,B,r⟩:=ht;exact⟨o,(U.2 t tit).trans B,r⟩
  have hd1:h1.DictOf (cV prog w) D (ps.take i):=by
   obtain⟨od,es,ep,ho,r⟩:=hd;exact⟨od,es,ep,(U.2 D M).trans ho,r⟩
  refine ar (eC (ar (wpAny_tryCatch ?_)));unfold zk
  refine ar (jW (s:={s with heap:=h1}) ht1.typeIs ?_)
  rw[if_pos (by decide)];obtain⟨o,B,oc,nn,od⟩:=id ht1;refine ar (mo B od ?_);refine aY ?_;show wpAny _ _ (gD [key,p.2] (dictSet D key p.2)) _ _ _;refine eC (wpAny_dictSet_pairs (kvs:=ps.take i) hk hd1 (λh2 d2 sb2=>?_) (by rw[k7,cG];lia))
  have L:ps=ps.take i++p::ps.drop (i+1):=by
   have h0:i<ps.length:=by lia
   have:ps[i]=p:=by rw[cr h0]at hp;exact cj hp
   rw[<- this,<- pY h0,take_append_drop]
  have hst:iA (ps.take i) p.1 p.2=ps.take (i+1):=by
   unfold iA
   have hno:((ps.take i).any λkv=>decide (kv.1=p.1))=ag:=by
    rw[any_eq_false];intro kv hkv hc;rw[L,bh,cY]at nd;have:=(gn.mp nd).2.2 kv.1 (bT.mpr ⟨kv,hkv,rfl⟩) p.1 bW;exact this (of_decide_eq_true hc)
   rw[if_neg (by rw[hno];exact bS),take_add_one,hp];rfl
  rw[hst]at d2;have ke:∀b o,b≠D->b≠it->s.heap.get? b=aa o->h2.get? b=aa o:=λb o hb I B=>(sb2.2 b hb).trans ((U.2 b I).trans B);refine aY ⟨mq kA _,?_⟩
  refine ih (i+1) {s with heap:=h2,toks:=s.toks+1} (by lia) ⟨pa.1,λj q hq=>?_⟩ ?_ ?_ d2 λh' tk hd' kp=>k h' tk hd' λb o hb I B=>kp b o hb I (ke b o hb I B)
  .obtain⟨t',key',f1,f2,f3,⟨o',z,r'⟩,f5⟩:=pa.2 j q hq;exact⟨t',key',f1,f2,f3,⟨o',ke t' o' f2 f3 z,r'⟩,f5⟩
  .obtain⟨o',z,r'⟩:=hl;exact⟨o',ke l o' (cF hDl) (cF hil) z,r'⟩
  .obtain⟨o',z,r'⟩:=l9;exact⟨o',(sb2.2 it (cF M)).trans z,r'⟩
variable{items:Array Value}
def IF{Q:Option Value->aE->Prop}(hh:A.handled=ab)(hl:PlainL s.heap l items)
 (h:∀h' tk,(∀b o,s.heap.get? b=aa o->h'.get? b=aa o)->Q ab {s with heap:=h',toks:=tk}):wpAny (model prog w) A (getAttr? (.ref l) "keys") Q E s:=by
 obtain⟨⟨c,dct,U,sl⟩,k,T,M,hd,q⟩:=hl;simp only at M q hd;subst M q hd;obtain⟨hq,gq,dq,tq,oq⟩:=s;have L:∀B,(⟨hq,gq,dq,B,oq⟩:aE).TypeIs (.ref l) "list":=λ_=>⟨_,T,rfl⟩;have f1:=sub_AttributeError;have f3:=uT.lookup;have f4:=uT.bind (.ref l);have I:=am_list_getattr_none;unfold getAttr?;unfold getAttrBy?;unfold getAttrBy
 repeat (any_goals (first |assumption |exact L _ |((with_reducible show wpAny _ _ (call (Value.builtin "list.__getattribute__") _ _) _ _ _);refine mr uT (L _) am_entry_list_getattribute (PySem.F.args_list_getattribute_2 _ _) (meets_getattribute_miss_list l items k sl "keys" _ IC (by decide)) ⟨T,hh,λh' B e z=>?_⟩) |wp_step))
 obtain⟨ta,ua,hea⟩:=z.there
 show wpAny _ _ (qb _ _ _ _ _ _ _) _ _ _;unfold qb;repeat any_goals (first |assumption |wp_step)
 exact h _ _ z.keeps
def IG{ps:List (Key×Value)}{Q:PRS}(hh:A.handled=ab)(hl:PlainL s.heap l items)
 (nd:(ps.map (·.1)).Nodup)(hz:ps.length<=1000)(pa:items.size=ps.length/\∀(i:Nat) (p:Key×Value),ps[i]?=aa p->∃t key,items[i]?=aa (.ref t)/\s.heap.IsTuple t #[key,p.2]/\(cV prog w).is p.1 key=ac)
 (h:∀h' tk,h'.DictOf (cV prog w) s.heap.objs.size ps->(∀b o,s.heap.get? b=aa o->h'.get? b=aa o)->Q (.ref s.heap.objs.size) {s with heap:=h',toks:=tk}):
  wpAny (model prog w) A (call (.type "dict") [.ref l]) Q E s:=by
 refine callType_codes (Q₁:=λobj B=>obj=.ref s.heap.objs.size/\B={s with heap:=s.heap.push {cls:=.type "dict",data:=.dict #[]}}) PySem.F.kt_called_dict (zp _) PySem.F.entry_dict_init (kt_code_dict_new _ ⟨rfl,rfl⟩) ?_
 rintro obj B ⟨rfl,rfl⟩;have q:(s.heap.push {cls:=.type "dict",data:=.dict #[]}).DictOf (cV prog w) s.heap.objs.size []:=uY s.heap;have I:PlainL (s.heap.push {cls:=.type "dict",data:=.dict #[]}) l items:=hl.keeps λb o e=>bQ _ e;refine⟨q.typeIs,PySem.F.args_dict_init_2 _ _,?_⟩;unfold cZ.«dict.__init__»;refine ar ?_;unfold zj;refine ar (uM q.typeIs ?_);show wpAny _ _ (pure (s.heap.objs.size,[gZ l])) _ _ _;refine aY ?_;show wpAny _ _ (qi "dict.__init__" s.heap.objs.size (.ref l) [] .none) _ _ _;unfold qi;refine ar (jW I.isList.typeIs ?_);rw[if_pos (by decide)];refine ar (IF hh I λL tk2 T=>?_);simp only[Option.isNone_none,if_true];refine ar (ll ?_);have M:PlainL L l items:=I.keeps T
 refine ar (mm (s:={s with heap:=L,toks:=tk2}) M.isList ?_)
 have up:∀b o,s.heap.get? b=aa o->L.get? b=aa o:=λb o e=>T b o (bQ _ e);have z:∀{b:Addr} {o:Obj},s.heap.get? b=aa o->b≠s.heap.objs.size/\b≠L.objs.size:=λ{b o} e=>⟨cp (bD e),cp (bD (up b o e))⟩
 have hD:s.heap.objs.size≠L.objs.size:=by
  obtain⟨od,es,ep,ho,r⟩:=q;exact cp (bD (T _ _ ho))
 obtain⟨ol,nl,el,rl⟩:=id hl;refine aY ⟨mq kA _,?_⟩;refine IE (A:=A.in1) hh s.heap.objs.size L.objs.size l items ps hD (cF (z el).1) (cF (z el).2) nd hz ps.length 0 _ (p8 _) ⟨pa.1,λi p hp=>?_⟩ ?_ ?_ ?_ λh' tk hd kp=>?_
 .obtain⟨t,key,e1,⟨ot,U,rt⟩,hk⟩:=pa.2 i p hp;exact⟨t,key,e1,(z U).1,(z U).2,⟨ot,bQ _ (up _ _ U),rt⟩,hk⟩
 .exact(M.keeps λb o e=>bQ _ e).isList
 .exact⟨_,dE _ rfl,rfl,rfl⟩
 .obtain⟨od,es,ep,ho,r⟩:=q;exact⟨od,es,ep,bQ _ (T _ _ ho),r⟩
 .exact⟨rfl,h h' tk hd λb o e=>kp b o (z e).1 (z e).2 (bQ _ (up b o e))⟩
abbrev gP(K:bo)(H:Hp):List V->List Key->List V->Prop
 | [],[],[]=>True
 |v::vs,k::ks,u::us=>(∃t,v=.ref t/\SqT K H t [kV k,u])/\gP K H vs ks us
 | _,_,_=>False
def gP.len{K:bo}{H:Hp}:∀{vs:List V} {ks:List Key} {us:List V},gP K H vs ks us->vs.length=ks.length/\us.length=ks.length
 | [],[],[],_=>⟨rfl,rfl⟩
 | _::_,_::_,_::_,h=>by
  obtain⟨a,b⟩:=gP.len h.2
  exact⟨by rw[bP,bP,a],by rw[bP,bP,b]⟩
 | [],[],_::_,h=>h.elim
 | [],_::_,_,h=>h.elim
 | _::_,[],_,h=>h.elim
 | _::_,_::_,[],h=>h.elim
def IH{K:bo}{a:Addr}{xs:List V}(s:aM H H')(h:SqT K H a xs):SqT K H' a xs:=by
 rcases h with h |h
 .refine .inl ?_
  rcases h with h |⟨od,h⟩
  .exact .inl (s _ _ h)
  .exact .inr ⟨od,s _ _ h⟩
 .exact .inr h
def gP.up{K:bo}{H H':Hp}(s:aM H H'):∀{vs:List V} {ks:List Key} {us:List V},gP K H vs ks us->gP K H' vs ks us
 | [],[],[],_=>trivial
 | _::_,_::_,_::_,⟨⟨t,e,q⟩,h⟩=>⟨⟨t,e,IH s q⟩,gP.up s h⟩
 | [],[],_::_,h=>h.elim
 | [],_::_,_,h=>h.elim
 | _::_,[],_,h=>h.elim
 | _::_,_::_,[],h=>h.elim
def gP.at{X:Cx}{pins:PNS}{σ:St}{H:Hp}{s:aE}(I:Inv X pins σ H s):∀{vs:List V} {ks:List Key} {us:List V} {ws:LVa},gP X.K H vs ks us->aS vs ws ->
  ∃ps:List (Key×Value),ps.map (·.1)=ks/\KV (ks.zip us) ps/\ws.length=ps.length/\∀(i:Nat) (p:Key×Value),ps[i]?=aa p->∃t key,ws[i]?=aa (.ref t)/\s.heap.IsTuple t #[key,p.2]/\(cV X.prog X.w).is p.1 key=ac
 | [],[],[],ws,_,r=>by
  cases r
  exact⟨[],rfl,.nil,rfl,λi p h=>by simp at h⟩
 |v::vs,k::ks,u::us,ws,h,r=>by
  cases r with
  |cons r1 rr=>
   rename_i w1 wr;obtain⟨⟨t,rfl,sq⟩,L⟩:=h;obtain⟨ps,M,p2,T,U⟩:=gP.at I L rr;obtain⟨its,rv,tp,_⟩:=I.tuple sq;obtain⟨key,val,rfl,B,q⟩:=rv.two;cases (show w1=gZ t from r1);refine⟨(k,val)::ps,by rw[cY,M],.cons ⟨rfl,q⟩ p2,by rw[bP,bP,T],λi p hp=>?_⟩
   cases i with
   |zero=>
    cases hp;refine⟨t,key,rfl,tp,?_⟩
    cases k with
    |inl i=>obtain⟨z,rfl⟩:=B;exact zr _ _ i z
    |inr x=>obtain⟨z,rfl⟩:=B;exact zt _ _ x z
   |succ i=>exact U i p hp
 | [],[],_::_,_,h,_=>h.elim
 | [],_::_,_,_,h,_=>h.elim
 | _::_,[],_,_,h,_=>h.elim
 | _::_,_::_,[],_,h,_=>h.elim
def II(B:X.calm=ac):fH X (.type "dict") (λxs H Q=>∃a vs ks us,xs=[.ref a]/\SqL X.K H a vs/\gP X.K H vs ks us/\ks.Nodup/\ks.length<=1000/\∀p,H p=ab->Q (.ref p) (upd H p (.dK (ks.zip us)))):=by
 rintro pins s σ H xs ws Q I r ⟨a,vs,ks,us,rfl,sq,pv,nd,hl,q⟩;obtain⟨_,rfl,U⟩:=g6 r;cases U;obtain⟨its,rv,pl,hz⟩:=I.list sq;obtain⟨ps,z,p2,M,T⟩:=pv.at I rv;have L:ps.length=ks.length:=by rw[<- z,av]
 refine IG (I.ok.hd B) pl (by rw[z];exact nd) (by lia) ⟨by rw[size_toArray];exact M,λi p hp=>by obtain⟨t,key,e,r⟩:=T i p hp;exact⟨t,key,by rw[pV];exact e,r⟩⟩ λh' tk hd kp=>?_;refine⟨.ref _,_,I.laid (t':=tk) kp (bf _) (o:=.dK (ks.zip us)) ⟨?_,?_,ps,p2,hd⟩,rfl,q _ I.fresh⟩
 .rw[io,cG];lia
 .exact beq_eq_false_iff_ne.mpr (cF (cp I.big))
def wg:gU "dict"=aa (.type "dict"):=by decide +kernel
abbrev jL:LD->Option (List Key×LD)
 | []=>aa ([],[])
 |.tup [x,y]::ds=>(gx x).bind λk=>(jL ds).map λr=>(k::r.1,y::r.2)
 | _=>ab
def BO{G:Gc}{H:Hp}:∀{ds:LD} {vs:List V} {r:List Key×LD},jL ds=aa r->ay G H ds vs->∃us,gP G.K H vs r.1 us/\ay G H r.2 us
 | [],vs,r,e,rs=>by
  cases e;cases (show vs=[]from rs)
  exact⟨[],trivial,rfl⟩
 |d::ds,vs,r,e,rs=>by
  obtain⟨v,vr,rfl,rv,rr⟩:=rs;unfold jL at e;split at e
  .rename_i h;cases h
  .rename_i x y M h;cases h
   cases z:gx x with
   |none=>rw[z]at e;cases e
   |some k=>
    rw[z,aC]at e
    cases B:jL ds with
    |none=>rw[B]at e;cases e
    |some q=>
     rw[B]at e;cases e;obtain⟨us,T,U⟩:=BO B rr;obtain⟨t,ws,rfl,L,I⟩:=rv;obtain⟨a,_,rfl,ra,b,_,rfl,rb,rn⟩:=I;cases (show _=[]from rn);rw[lI z ra]at L;exact⟨b::us,⟨⟨t,rfl,SqT.of L⟩,T⟩,.cons rb U⟩
  .cases e
abbrev sk(i:Nat)(f:MF1)(ρ:LS):Option Fl:=(f ρ).bind λd=>(lsD d).bind λds=>(jL ds).bind λr=>if r.1.Nodup/\r.1.length<=1000 then aa (.nx (ρ.set i (.ownd r.1 r.2))) else ab
def IJ{pos:Pos}(i:Nat){f:MF1}(hc:X.calm=ac)(hN:X.N.Nodup)(hg:Gl X "dict")(hm:X.mg "dict"=ab)(he:DE c X e f)(hi:X.N[i]?=aa x:=by rfl)(hx:Loc X.env.scope x:=by first |exact cf rfl |exact bw rfl)(L:bi [e] X.env=(ag,eval e X.env)::bi [] X.env:=by rfl)
 (hs:fF (.Call (.Name "dict" p) [e] [] pos) (aa (.Name x b0)) cc.line X.env=pure ag:=by rfl)(hf:LcF X x:=by first |exact .inl rfl |exact .inr rfl):
  DS c X (.Assign [.Name x b0] (.Call (.Name "dict" p) [e] [] pos) cc) (sk i f):=PS.imp (mC hN hi hx (qF (II hc) hg hm wg (cs he cJ L) (by decide) (by decide) L rfl) hs hf) λE σ H q_=>by
 obtain⟨Hf0,H0,Hf,ρ,o,so,z,k⟩:=q_;unfold sk at z
 cases T:f ρ with
 |none=>rw[T]at z;cases z
 |some d=>
  rw[T,aC]at z
  cases U:lsD d with
  |none=>rw[U]at z;cases z
  |some ds=>
   rw[U,aC]at z
   cases e3:jL ds with
   |none=>rw[e3]at z;cases z
   |some r=>
    rw[e3,aC]at z;split at z
    .rename_i B;cases z;refine⟨Hf0,H0,Hf,ρ,d,so,T,λv Hf' H' M rv=>?_⟩;obtain⟨a,vs,rfl,sq,rs⟩:=gv U rv;obtain⟨us,pv,ru⟩:=BO e3 rs;refine⟨a,vs,r.1,us,rfl,M.s.seq sq,pv.up M.s,B.1,B.2,λq hq=>?_⟩;have I:=so.step M;exact k _ Hf' _ M.f (I.setOwn (i:=i) (l:=q) (s:=.ownd r.1 r.2) rfl (Ext.grow I.sub (cB hq)) hq (I.sub.free hq) ⟨us,bI,pv.len.2.symm,ru⟩)
    .cases z
abbrev wj:LD->OD
 | [.int i,.int j]=>if 0<j/\j<1073741824 then aa (.tup [.int (i / j),.int (i % j)]) else ab
 | _=>ab
def IK:gU "divmod"=aa (.builtin "divmod"):=by decide +kernel
def IL{fa:MF2}{p pos:Pos}(hg:Gl X "divmod")(hm:X.mg "divmod"=ab)(M:DA c X [a,b] fa)(U:bi [a,b] X.env=(ag,eval a X.env)::bi [b] X.env:=by rfl)(B:(fM pos (bi [b] X.env)).any (·.1)=ag:=by rfl):
  DE c X (.Call (.Name "divmod" p) [a,b] [] pos) (aH wj fa):=PE.imp (qE FH hg hm IK M.pa (by decide) (by decide) U B) λσ H Q q_=>by
 obtain⟨Hf0,H0,Hf,ρ,d,st,L,k⟩:=q_;obtain⟨ds,I,z⟩:=vI L;refine⟨Hf0,H0,Hf,ρ,ds,st,I,λvs Hf' H' x r=>?_⟩;unfold wj at z;split at z
 .rename_i i j;split at z
  .rename_i T;cases z;obtain⟨v1,_,rfl,r1,v2,_,rfl,r2,rn⟩:=r;cases (show _=[]from rn);cases (show v1=V.int i from r1);cases (show v2=V.int j from r2);exact⟨i,j,rfl,T,λq hq=>k _ (upd Hf' q (.tup _)) _ (x.trans (Ext.new x.s hq)) ⟨q,_,rfl,bI,.cons rfl (.cons rfl .nil)⟩⟩
  .cases z
 .cases z
variable{t:Nat}
def BP{j:Nat}{s:Sl}(z:js[t]?=aa j)(q:ρ[j]?=aa s):(cX k js ρ)[k+t]?=aa s:=by
 unfold cX;rw[iT (by rw[kW];exact uI _ _),kW,uF,d7,z];show aa ((ρ[j]?).getD .no)=_;rw[q];rfl
variable{jp:Nat}
def aG.compP(k:Nat)(h:aG G Hf0 H0 Hf H σ ρ)(hj:js.Nodup)(hp:ρ[jp]?=aa (.pin l xs))(T:∀j∈js,j=jp\/((ρ[j]?).getD .no).calm=ac):
  aG G Hf (eJ H l) Hf H (gr k js σ) (cX k js ρ):=by
 obtain⟨l',el,h0,U,I,us,hu,rx⟩:=h.ownAt rfl hp;subst I;have st:=h.comp k hj;refine st.re (Ext.grow (v8 h.sub U) Bx) rfl (λi v s a b=>?_) λi s v a b c d=>⟨s,b,d⟩;have q:=st.at' i v s a b
 rcases kg b with⟨_,e⟩ |⟨_,b⟩
 .subst e;trivial
 .obtain⟨j,M,es⟩:=lD b
  rcases T j (mem_of_getElem? M)with e |e
  .subst e;rw[hp]at es;subst es;obtain⟨l2,B,_,z,L,w⟩:=q;subst L;exact⟨_,B,rW,z,rfl,w⟩
  .rw[<- es]at e
   cases s with
   |no=>trivial
   |im d=>exact q
   | _=>nomatch e
section
variable(k:Nat)(js:LN)(jp t:Nat)(g:D->LS->Option LS)(fe:Xe)(ρ:LS)(l:Addr)
open Classical in
abbrev jM(d:D)(xs:LD):Option (D×LD):=(g d (cX k js (ρ.set jp (.pin l xs)))).bind λρ1=>(fe ρ1).bind λq=>match q.2[k+t]? with
 |some (.pin _ b5)=>if ∀i,k<=i->q.2[i]?=(cX k js (ρ.set jp (.pin l b5)))[i]? then aa (q.1,b5) else ab
 | _=>ab
abbrev gi:LD->LD->Option (LD×LD)
 | [],xs=>aa ([],xs)
 |d::ds,xs=>(jM k js jp t g fe ρ l d xs).bind λy=>(gi ds y.2).map λr=>(y.1::r.1,r.2)
end
abbrev jg(k:Nat)(js:LN)(jp t:Nat)(fi:Xa)(g:D->LS->Option LS)(fe:Xe):Xe:=λρ=>(fi ρ).bind λp=>match p.2[jp]? with
 |some (.pin l xs)=>if p.1.length<=16777216/\js[t]?=aa jp/\(js.all λj=>j==jp || ((p.2[j]?).getD .no).calm)=ac then (gi k js jp t g fe p.2 l p.1 xs).map λq=>(.lst q.1,p.2.set jp (.pin l q.2)) else ab
 | _=>ab
variable{g:D->LS->Option LS}{fe:Xe}{b5:LD}
def IM(h:jM k js jp t g fe ρ l d xs=aa (y,b5)):∃ρ1 z,g d (cX k js (ρ.set jp (.pin l xs)))=aa ρ1/\fe ρ1=aa (y,z)/\(∃I,z[k+t]?=aa (.pin I b5))/\∀i,k<=i->z[i]?=(cX k js (ρ.set jp (.pin l b5)))[i]?:=by
 unfold jM at h
 cases L:g d _ with
 |none=>rw[L]at h;nomatch h
 |some ρ1=>
  rw[L,aC]at h
  cases B:fe ρ1 with
  |none=>rw[B]at h;nomatch h
  |some q=>
   rw[B,aC]at h;split at h
   .rename_i I T M;split at h
    .rename_i hi;cases h;exact⟨ρ1,q.2,rfl,B,⟨I,M⟩,hi⟩
    .nomatch h
   .nomatch h
def IN(h:gi k js jp t g fe ρ l (d::ds) xs=aa (rs,ys)):∃y b5 r,jM k js jp t g fe ρ l d xs=aa (y,b5)/\gi k js jp t g fe ρ l ds b5=aa (r,ys)/\rs=y::r:=by
 unfold gi at h
 cases z:jM k js jp t g fe ρ l d xs with
 |none=>rw[z]at h;nomatch h
 |some y=>
  rw[z,aC]at h
  cases q:gi k js jp t g fe ρ l ds y.2 with
  |none=>rw[q]at h;nomatch h
  |some r=>rw[q]at h;cases h;exact⟨y.1,y.2,r.1,rfl,q,rfl⟩
def sm{s:Sl}(h:ρ[jp]?=aa s):(ρ.set jp s')[jp]?=aa s':=kS (eQ.mp h).1
variable{fi:Xa}
def BQ(hj:js.Nodup)(hk:∀d ρ ρ' i,g d ρ=aa ρ'->k<=i->ρ'[i]?=ρ[i]?)(kT:∀d ρ ρ',g d ρ=aa ρ'->ρ'.length=ρ.length){Q:VK}(h:tDX G (jg k js jp t fi g fe) σ H Q):
  mH k js (rX G fi) (tDG G g) (tDT G λ_=>aa ac) (tDX G fe) σ H Q:=by
 obtain⟨Hf0,H0,Hf,ρ0,d0,ρ',st,B,kq⟩:=h;unfold jg at B
 cases e1:fi ρ0 with
 |none=>rw[e1]at B;nomatch B
 |some p=>
  obtain⟨ds,ρ⟩:=p;rw[e1,aC]at B;dsimp only at B;split at B
  .rename_i l xs ep;split at B
   .rename_i hz;obtain⟨hz,ht,hcm⟩:=hz
    cases e2:gi k js jp t g fe ρ l ds xs with
    |none=>rw[e2]at B;nomatch B
    |some q=>
     obtain⟨rs,zs⟩:=q;rw[e2]at B;cases B;refine⟨Hf0,H0,Hf,ρ0,ds,ρ,st,e1,λJ al H1 f1 U it=>?_⟩
     have hcm':=λj M=>by
      have:=all_eq_true.mp hcm j M;rw[jr]at this;exact this.imp beq_iff_eq.mp id
     have L:ρ.set jp (.pin l xs)=ρ:=by
      apply k6;intro i
      by_cases hi:jp=i
      .subst hi;rw[sm ep,ep]
      .rw[jt hi]
     have st0:aG G al (eJ H1 l) al H1 (gr k js σ) (cX k js (ρ.set jp (.pin l xs))):=by rw[L];exact U.compP k hj ep hcm'
     obtain⟨T,el9,_,hf9,e9,_⟩:=U.ownAt rfl ep;subst e9
     refine⟨λi m ys σ' H'=>m=ds.length-i/\i<=ds.length/\∃Hf' as b5 bE,aG G al _ Hf' H' σ' (cX k js (ρ.set jp (.pin T b5)))/\ay G Hf' as ys/\gi k js jp t g fe ρ T (ds.drop i) b5=aa (bE,zs)/\rs=as++bE/\as.length<=i,
      ⟨ds.length,rfl,iw _,al,[],xs,rs,st0,rfl,e2,rfl,bf _⟩,?_⟩
     rintro i m ys σ' H' ⟨rfl,hi,Hf',as,b5,bE,z,ra,ec,er,hal⟩;have hys:ys.length<=aW:=by rw[cG,<- ra.length];lia
     obtain⟨l9,it2⟩:=it Hf' H' z.ext.f z.sub i
     by_cases hlt:i<ds.length
     .obtain⟨d,ed,edr⟩:=oI hlt;obtain⟨go,yl⟩:=l9 d ed
      refine .inr ⟨go,hys,λys' hF H2=>ds.length-_=ds.length-_/\i+1<=ds.length/\∃Hf' as b5 bE,aG G al _ Hf' H2 hF _/\ay G Hf' as ys'/\gi k js jp t g fe ρ T _ b5=aa _/\rs=as++bE/\as.length<=i+1,
       λys' hF H2 w=>⟨ds.length-(i+1),by lia,w⟩,λx H2 y=>?_⟩
      obtain⟨a9,x3,rx⟩:=yl x H2 y;rw[edr]at ec;obtain⟨y',xs2,r',et,ec',I⟩:=IN ec;obtain⟨ρ1,dy,eg,ee,⟨l',ex⟩,hag⟩:=IM et;refine⟨al,eJ H1 T,a9,_,d,ρ1,z.step x3,rx,eg,λip h8=>⟨al,eJ H1 T,a9,ρ1,ac,h8,rfl,λHf4 H4 x4=>Aj ⟨al,eJ H1 T,Hf4,ρ1,y',dy,h8.step x4,ee,λv Hf5 H5 f5 st5 r5=>?_⟩⟩⟩
      have kF:(cX k js (ρ.set jp (.pin T xs2))).length=dy.length:=by
       rw[<- st5.len,h8.len,kT _ _ _ eg];unfold cX;rw[aJ,aJ,av,av]
      refine⟨rfl,hlt,Hf5,as++[y'],xs2,r',st5.weak kF λj s hs=>?_,(ra.up ((x3.f.trans x4.f).trans f5)).append (.cons r5 .nil),ec',by rw[er,I,gm];rfl,by rw[aJ,eZ];lia⟩
      rcases kg hs with⟨_,e⟩ |⟨M,_⟩
      .exact .inl e
      .exact .inr (by rw[hag j M];exact hs)
     .have ei:i=ds.length:=by lia
      subst ei;refine .inl ⟨it2 rfl,hys,λD h1 h2=>?_⟩;rw[nI (bf _)]at ec;cases ec;rw[eB]at er;subst er;obtain⟨l3,el3,h03,hf3,e3,us3,hu3,rx3⟩:=z.ownAt rfl (BP ht (sm ep));subst e3;have xn:=Ext.new (o:=.lst ys) z.sub h2;exact kq _ _ _ (f1.trans (z.ext.f.trans xn.f)) ((U.back (s':=.pin l3 zs) rfl rfl ep el9 z.ext hf3 ⟨rfl,us3,hu3,rx3⟩).step xn) ⟨D,ys,rfl,bI,ra.up xn.f⟩
   .nomatch B
  .nomatch B
def IP{pos:Pos}(k:Nat)(js:LN)(jp t:Nat)(Nc:LSt)(B:X.calm=ac)(hi:DXi c X tg iter fi)(q:∀cl C ex a0 a8,DG c (X.comp scope Nc cl C ex a0 a8) tg k g)
 (I:∀cl C ex a0 a8,DX c (X.comp scope Nc cl C ex a0 a8) c0 fe)(z:iZ scope X.env.scope.names X.N Nc k js=ac:=by rfl)(M:∀x,iy iter X.env x=pure x:=by intro _;rfl)(L:js.Nodup:=by decide):
  DX c X (.ListComp c0 [⟨tg,iter,[],0⟩] scope pos) (jg k js jp t fi g fe):=
 PE.imp (Aw (tt:=tDT (Gx c X) λ_=>aa ac) (te:=tDX (Gx c X) fe) k js Nc B hi (λcl C ex a0 a8=>(q cl C ex a0 a8).pg) (λcl C ex a0 a8=>df) I z M) λσ H Q h=>
  BQ L (q [] 0 [] X.s₀ X.H₀).keep (q [] 0 [] X.s₀ X.H₀).len h
abbrev sn:LD->OD
 | [.int a]=>aa (.int (if a<0 then -a else a))
 | _=>ab
abbrev gQ:LD->Option LSt
 | []=>aa []
 |.str x::ds=>(gQ ds).map (x::·)
 | _=>ab
def wk:∀{ds:LD} {q:LSt},gQ ds=aa q->ds=q.map D.str
 | [],q,h=>by cases h;rfl
 |d::ds,q,h=>by
  cases d with
  |str x=>
   have h:(gQ ds).map _=aa q:=h
   cases e:gQ ds with
   |none=>rw[e]at h;cases h
   |some ys=>rw[e]at h;cases h;rw[wk e];rfl
  | _=>cases h
def BR:∀q:LSt,gQ (q.map D.str)=aa q
 | []=>rfl
 |z::q=>by
  show(gQ _).map _=_;rw[BR q];rfl
abbrev sr(x y:D):OD:=match x with
 |.str a=>(lsD y).bind λds=>(gQ ds).bind λq=>if PySem.JoinOk a q=ac then aa (.str (u0 a q)) else ab
 | _=>ab
def BS{G:Gc}{H:Hp}:∀(q:LSt) (vs:List V),ay G H (q.map D.str) vs->vs=q.map V.str
 | [],_,h=>h
 |z::q,_,⟨v,r,e,h1,h2⟩=>by rw[e,BS q r h2,show v=V.str z from h1];rfl
def wl{pos:Pos}{m:LD->OD}{f:Xa}{id:String}(hc:kc c X (.builtin id) m)(hg:Gl X x)(hm:X.mg x=ab)(hv:gU x=aa (.builtin id))(ha:DAX c X (e::es) f)(hn:x ≠ "__name__":=by decide)(T:NDb x:=by decide)
 (he:StE X e es:=by rfl)(U:BkE X pos es:=by rfl):
  DX c X (.Call (.Name x p) (e::es) [] pos) (kw m f):=PE.imp (qE hc hg hm hv ha.pa hn T he U) λσ H Q q_=>by
 obtain⟨Hf0,H0,Hf,ρ,d,ρ',st,B,kq⟩:=q_;unfold kw at B
 cases L:f ρ with
 |none=>rw[L]at B;nomatch B
 |some q=>
  obtain⟨ds,ρ1⟩:=q;rw[L,aC]at B
  cases M:m ds with
  |none=>rw[M]at B;nomatch B
  |some z=>
   rw[M]at B;cases B;exact⟨Hf0,H0,Hf,ρ,ds,_,st,L,λvs Hf' H' f1 I r=>⟨Hf',ds,_,I.sub,r,M,λv a9 H2 x2 r2=>kq v a9 H2 (f1.trans x2.f) (I.step x2) r2⟩⟩
def IQ:kc c X (.builtin "abs") sn:=by
 rintro pins s σ H vs us Q I M ⟨Hf,ds,d,T,r,e,k⟩;unfold sn at e;split at e
 .rename_i a;cases e;obtain⟨v1,h6,rfl,q,z⟩:=r;cases (z);cases (q)
  cases M with
  |cons B L=>
   cases L;obtain⟨t,rfl⟩:=B;exact call_abs_int λu U=>⟨.int _,H,I.tok U,⟨u,rfl⟩,k _ Hf H (Ext.refl T) rfl⟩
 .nomatch e
def IR{pos:Pos}{f g:Xe}(ho:OpD c X (cU op) m)(ha:DX c X a f)(hb:DX c X b g)(hm:jV op b=ag:=by first |exact qA _ |rfl):DX c X (.Compare a [op] [b] pos) (mX2 m f g):=PE.imp (zM ho ha hb hm) λσ H Q q_=>by
 obtain⟨Hf0,H0,Hf,ρ,d,ρ',st,ef,k⟩:=q_;obtain⟨x,y,ρ1,T,U,e3⟩:=oS ef;exact⟨Hf0,H0,Hf,ρ,x,ρ1,st,T,λv al H1 f1 B r1=>⟨Hf0,H0,al,ρ1,y,ρ',B,U,λu a9 H2 I q r2=>⟨a9,x,y,d,q.sub,r1.up I,r2,e3,λw z M L r3=>k w z M ((f1.trans I).trans L.f) (q.step L) r3⟩⟩⟩
abbrev BU(K:bo):V->List V->Hp->VK->Prop:=λx vs H Q=>∃a l q,x=.str a/\vs=[.ref l]/\SqL K H l (q.map V.str)/\PySem.JoinOk a q=ac/\Q (.str (u0 a q)) H
def BV:∀(q:LSt) (its:LVa),aS (q.map V.str) its->∃l:List (Str×Tok),its=strValues l/\l.map (·.1)=q
 | [],_,r=>by cases r;exact⟨[],rfl,rfl⟩
 |z::q,_,r=>by
  cases r with
  |cons a b=>
   obtain⟨t,rfl⟩:=a;obtain⟨l,B,I⟩:=BV q _ b;exact⟨(z,t)::l,by rw[B];rfl,by rw[cY,I]⟩
def IS:MtR X "str.join" (BU X.K):=by
 rintro pins s σ H x xs v us Q I rx U ⟨a,l,zs,rfl,rfl,L,B,q⟩;obtain⟨t,rfl⟩:=rx;obtain⟨u,rfl,T⟩:=U.one;subst T;obtain⟨its,M,pl,_⟩:=I.list L;obtain⟨ls,rfl,z⟩:=BV zs its M;exact SC.join pl.isList z B λt' k=>⟨.str _,H,I.tok k,⟨t',rfl⟩,q⟩
def IT{f g:MF1}(h:PE X e (tBM X.K "str" (BU X.K) (tD (Gx c X) f) (jB (tD (Gx c X) g) j1))):DE c X e (m2 sr f g):=PE.imp h λσ H Q q_=>by
 obtain⟨Hf0,H0,Hf,ρ,d,st,ef,k⟩:=q_;obtain⟨x,y,U,e2,z⟩:=oi ef;unfold sr at z;split at z
 .rename_i a
  cases B:lsD y with
  |none=>rw[B]at z;nomatch z
  |some ds=>
   rw[B,aC]at z
   cases I:gQ ds with
   |none=>rw[I]at z;nomatch z
   |some T=>
    rw[I,aC]at z;split at z
    .rename_i hj;cases z;refine⟨Hf0,H0,Hf,ρ,_,st,U,λv al H1 L r1=>?_⟩;cases (r1);refine⟨rfl,Hf0,H0,al,ρ,_,st.step L,e2,λu a9 H2 M r2=>?_⟩;obtain⟨l,vs,el,q,rs⟩:=gv B r2;rw[wk I]at rs;rw[BS T vs rs]at q;exact⟨a,l,T,rfl,by rw[el],M.s.seq q,hj,k _ a9 H2 (L.trans M) rfl⟩
    .nomatch z
 .nomatch z
abbrev wm:D->Option Str
 |.str z=>if z.length<=16777216 then aa z else ab
 |.int i=>if i.natAbs.log2<1920 then aa (ToString.toString i) else ab
 | _=>ab
abbrev iN(out:Str)(q:LSt):Str:=q.foldl (·++·) out
def wn:∀(q:LSt) (out:Str),out.length<=(iN out q).length
 | [],_=>bf _
 |z::q,out=>by
  have:=wn q (out++z);rw[Str.length_append]at this;show out.length<=(iN (out++z) q).length;lia
abbrev DFs(c:Str->Addr)(X:Cx)(es:LEx)(f:LS->Option LSt):Prop:=∀(pins:PNS) (s:aE) (σ:St) (H:Hp) (Q:VK) (out:Str),Inv X pins σ H s ->
 (∃Hf0 H0 Hf ρ q,aG (Gx c X) Hf0 H0 Hf H σ ρ/\f ρ=aa q/\(iN out q).length<=16777216/\∀Hf' H',Ext Hf H Hf' H'->Q (.str (iN out q)) H')->wpAny (model X.prog X.w) X.A (joinParts out (evalEach es X.env)) (EP X pins σ Q) X.xe s
abbrev mFc(x:Str)(g:LS->Option LSt)(ρ:LS):Option LSt:=(g ρ).map (x::·)
abbrev mFv(f:MF1)(g:LS->Option LSt)(ρ:LS):Option LSt:=(f ρ).bind λd=>(wm d).bind λz=>(g ρ).map (z::·)
abbrev mFs(f:LS->Option LSt)(ρ:LS):OD:=(f ρ).bind λq=>if (iN Str.empty q).length<=16777216 then aa (.str (iN Str.empty q)) else ab
def IU:DFs c X [] nZ:=λpins s σ H Q out I z=>by
 obtain⟨Hf0,H0,Hf,ρ,B,st,q,hz,k⟩:=z
 exact (by
 cases q;exact joinParts_nil ⟨.str out,H,I.tok _,⟨_,rfl⟩,k Hf H (Ext.refl st.sub)⟩ (by rw[cG];exact hz))
variable{g:LS->Option LSt}
def BW{pos:Pos}{j:Nat}(L:DFs c X es g):DFs c X (.Constant (.str x) j pos::es) (mFc x g):=λpins s σ H Q out I M=>by
 obtain⟨Hf0,H0,Hf,ρ,U,st,q,hz,k⟩:=M
 exact (by
 unfold mFc at q
 cases z:g ρ with
 |none=>rw[z]at q;nomatch q
 |some ys=>
  rw[z]at q;cases q;have T:=wn ys (out++x);have B:(iN (out++x) ys).length<=16777216:=hz;exact joinParts_cons (Calls.Constant_str ⟨by rw[cG];lia,(L pins _ σ H Q _ (I.tok _) ⟨Hf0,H0,Hf,ρ,ys,st,z,B,k⟩)⟩))
variable{Q:PRS}
def IV{z:Str}{u:Value}(e:wm d=aa z)(r:Rep G Hf d v)(I:aP v u)(k:∀t T,Q (.str z t) {s with toks:=T}):wpAny (model prog w) A (formatField u Str.empty) Q E s:=by
 cases d with
 |str y=>
  replace e:(if y.length<=16777216 then aa y else ab)=aa z:=e;split at e
  .rename_i M;have B:=cj e;subst B;subst r;obtain⟨t,q⟩:=I;subst q;exact formatField_str k (by rw[cG];exact M)
  .nomatch e
 |int n=>
  replace e:(if n.natAbs.log2<1920 then aa _ else ab)=aa z:=e;split at e
  .rename_i L;have B:=cj e;subst B;subst r;obtain⟨t,q⟩:=I;subst q;exact formatField_int_small L (k _ _)
  .nomatch e
 | _=>nomatch e
def BX{pos:Pos}{f:MF1}(he:DE c X e f)(hr:DFs c X es g):DFs c X (.FormattedValue e (-1) ab pos::es) (mFv f g):=λpins s σ H Q out I q_=>by
 obtain⟨Hf0,H0,Hf,ρ,zs,st,q,hz,k⟩:=q_
 exact (by
 unfold mFv at q
 cases B:f ρ with
 |none=>rw[B]at q;nomatch q
 |some d=>
  rw[B,aC]at q
  cases L:wm d with
  |none=>rw[L]at q;nomatch q
  |some z=>
   rw[L,aC]at q
   cases M:g ρ with
   |none=>rw[M]at q;nomatch q
   |some ys=>
    rw[M]at q;cases q;have h1:=wn ys (out++z);have h2:(iN (out++z) ys).length<=16777216:=hz;have h3:(out++z).length<=aW:=by rw[cG];lia
    refine joinParts_cons (FormattedValue_plain ?_);exact thn (he pins s σ H (λv H'=>∃Hf',Ext Hf H Hf' H'/\Rep _ Hf' d v) I ⟨Hf0,H0,Hf,ρ,d,st,B,λv Hf' H' x r=>⟨Hf',x,r⟩⟩) λu s1 ⟨v,H1,U,r1,al,T,rd⟩=>(IV L rd r1 λt tk=>⟨h3,hr pins _ σ H1 Q _ (U.tok tk) ⟨Hf0,H0,al,ρ,ys,st.step T,M,h2,λHf' H' x=>k Hf' H' (T.trans x)⟩⟩))
def IW{pos:Pos}{f:LS->Option LSt}(h:DFs c X (a::b::es) f):DE c X (.JoinedStr (a::b::es) pos) (mFs f):=λpins s σ H Q I B=>by
 obtain⟨Hf0,H0,Hf,ρ,d,st,q,k⟩:=B
 exact (by
 unfold mFs at q
 cases z:f ρ with
 |none=>rw[z]at q;nomatch q
 |some L=>
  rw[z,aC]at q;split at q
  .rename_i hz;cases q;exact JoinedStr_many (h pins s σ H Q Str.empty I ⟨Hf0,H0,Hf,ρ,L,st,z,hz,λHf' H' x=>k _ Hf' H' x rfl⟩)
  .nomatch q)
def su{pos:Pos}(i:Nat){g:Xa}(B:DAX c (X.comp scope Nc cl C ex a0 a8) es g)(T:Nc[i]?=aa x:=by rfl)(hv:Vis scope x:=by first |exact cf rfl |exact bw (cf rfl) |exact bw (bw rfl))(hd:NDb x:=by decide)
 (q:NCd x:=by decide)(U:bi (.Name x pos::es) (X.comp scope Nc cl C ex a0 a8).env=(ag,eval (.Name x pos) (X.comp scope Nc cl C ex a0 a8).env)::bi es (X.comp scope Nc cl C ex a0 a8).env:=by rfl):DMX c (X.comp scope Nc cl C ex a0 a8) (.Name x pos::es) i g:=
 ⟨PA.imp (cs (pvc i T hv hd q) B.pa U) λσ H Q ⟨Hf0,H0,Hf,ρ,ds,ρ',l,st,L,I,k⟩=>⟨_,L,Hf0,H0,Hf,ρ,ds,ρ',st,I,λvs Hf' H' M z r=>k vs Hf' H' M z r⟩,λρ ds ρ' h=>by
  rw[bP,B.len ρ ds ρ' h]⟩
def IX{B:Model}{q:dH}{z:PRS}{st:aE}{x y:Value}{T id:String}(I:st.TypeIs x T)(M:st.TypeIs y T)(sl:Slot T (dunderI "add") id)(L:isSeqSlot (aa (.builtin id))=ac)
 (U:fillsNumberSlot (.type T) "add"=pure ag)(go:wpAny B q (call (.builtin id) [x,y]) Q z st):wpAny B q (inplaceOp .Add x y) Q z st:=by
 have no:fillsInplaceSlot (.type T) "add" ac=pure ag:=by
  simp only[fillsInplaceSlot,sl.lookup,pure_bind,L];rfl
 apply eC;exact ar (jW I (ar (wpAny_of_eq no ((ar (wpAny_binaryOp1_none I M U (ar (wpAny_of_eq (PySem.seqSlot_of sl.lookup L) (ar (ll go)))))):wpAny B q _ Q z st))))
abbrev IY:TIp:=λx y H Q=>∃l b xs q,x=.ref l/\y=.ref b/\H l=aa (.lst xs)/\H b=aa (.lst q)/\xs.length+q.length<=aW/\Q (.ref l) (upd H l (.lst (xs++q)))
def IZ:PIp X .Add IY:=by
 rintro pins s σ H _ _ v u Q I rx ry ⟨l,b,xs,zs,rfl,rfl,L,M,hz,q⟩;subst rx;subst ry;obtain⟨_,its,n,r,hl,e⟩:=I.lstM L;obtain⟨_,z,U,r2,T,B⟩:=I.lstM M;have hsz:its.toArray.size+z.toArray.size<=aW:=by simp only[size_toArray];lia
 refine IX ⟨_,e,rfl⟩ ⟨_,B,rfl⟩ F.slot_list_iadd (by decide +kernel) noFill_list_add (mr F.slot_list_iadd ⟨_,e,rfl⟩ F.entry_list_iadd (F.args_list_iadd_2 _ _)
  (AutoSeq1.list___iadd___list_list_0 l its.toArray n b z.toArray U (by rw[Ae hsz];simp) (by simp only[size_toArray];lia) (by lia)) ⟨e,B,.ref l,_,I.lset L e (by simp) (r.append r2) (by rw[aJ];lia),rfl,q⟩)
abbrev oZ(i:Nat)(f:Xe)(ρ:LS):Option Fl:=match ρ[i]? with
 |some (.own _)=>(f ρ).bind λp=>match p.2[i]?,p.1 with
  |some (.own xs),.lst ys=>if xs.length+ys.length<=16777216 then aa (.nx (p.2.set i (.own (xs++ys)))) else ab
  | _,_=>ab
 | _=>ab
def I0{pos:Pos}(i:Nat){f:Xe}(hN:X.N.Nodup)(he:DX c X e f)(hi:X.N[i]?=aa x:=by rfl)(hx:Loc X.env.scope x:=by first |exact cf rfl |exact bw rfl)(hf:LcF X x:=by first |exact .inl rfl |exact .inr rfl):
  DS c X (.AugAssign (.Name x b0) .Add e pos) (oZ i f):=PS.imp (zH hN hi hx he IZ hf) λE σ H q_=>by
 obtain⟨Hf0,H0,Hf,ρ,o,so,z,k⟩:=q_;unfold oZ at z;split at z
 .rename_i xs0 T
  cases L:f ρ with
  |none=>rw[L]at z;nomatch z
  |some p=>
   rw[L,aC]at z;split at z
   .rename_i xs ys es ed;split at z
    .rename_i hl;cases z;obtain⟨l,I,h0,hf,vs0,q0,r0⟩:=so.ownAt rfl T;obtain⟨d,ρ1⟩:=p;subst ed;refine⟨_,I,Hf0,H0,Hf,ρ,_,ρ1,so,L,λv Hf' H' s B r'=>?_⟩;obtain⟨l2,U,h02,hf2,vs,q,r⟩:=B.ownAt rfl es;rw[I]at U;cases U;obtain⟨b,zs,rfl,hb,rz⟩:=r';refine⟨l,b,vs,zs,rfl,rfl,q,B.sub _ _ hb,by rw[cG,<- r.length,<- rz.length];exact hl,?_⟩
     have M:σ.set i (aa (.ref l))=σ:=by
      apply k6;intro j
      by_cases hj:j=i
      .subst hj;rw[kS ((eQ.mp I).1),I]
      .rw[jt (cF hj)]
     show E.nx _ _;rw[M];exact k σ Hf' _ s (B.mutd rfl rfl es I ⟨vs++zs,bI,r.append rz⟩)
    .nomatch z
   .nomatch z
 .nomatch z
variable{g:D->LS->Option LS}
def Ja{pos:Pos}(i:Nat)(k:Nat)(js:LN)(jp t:Nat)(Nc:LSt)(U:X.N.Nodup)(hc:X.calm=ac)(hi:DXi c X tg iter fi)(B:∀cl C ex a0 a8,DG c (X.comp scope Nc cl C ex a0 a8) tg k g)
 (he:∀cl C ex a0 a8,DX c (X.comp scope Nc cl C ex a0 a8) c0 fe)(I:X.N[i]?=aa x:=by rfl)(hx:Loc X.env.scope x:=by first |exact cf rfl |exact bw rfl)
 (L:fF (.ListComp c0 [⟨tg,iter,[],0⟩] scope pos) (aa (.Name x b0)) cc.line X.env=pure ac:=by rfl)(T:iZ scope X.env.scope.names X.N Nc k js=ac:=by rfl)(hs:∀x,iy iter X.env x=pure x:=by intro _;rfl)
 (hf:LcF X x:=by first |exact .inl rfl |exact .inr rfl)(hj:js.Nodup:=by decide):
  DS c X (.Assign [.Name x b0] (.ListComp c0 [⟨tg,iter,[],0⟩] scope pos) cc) (c7 i (jg k js jp t fi g fe)):=
 PS.imp (qS (tt:=tDT (Gx c X) λ_=>aa ac) (te:=tDX (Gx c X) fe) k js Nc U I hx hc hi (λcl C ex a0 a8=>(B cl C ex a0 a8).pg) (λcl C ex a0 a8=>df) he L T hs hf) λE σ H q_=>by
  obtain⟨Hf0,H0,Hf,ρ,o,so,q,kk⟩:=q_;unfold c7 at q
  cases z:jg k js jp t fi g fe ρ with
  |none=>rw[z]at q;nomatch q
  |some p=>
   rw[z]at q;cases q;exact BQ hj (B [] 0 [] X.s₀ X.H₀).keep (B [] 0 [] X.s₀ X.H₀).len ⟨Hf0,H0,Hf,ρ,p.1,p.2,so,z,λv Hf' H' s M r=>kk _ Hf' H' s (M.setIm r)⟩
set_option maxRecDepth 100000
abbrev jN(σ:LSt)(x:Str):LSt:=if σ.any (·==x) then σ else σ++[x]
abbrev d5(val:Nat->Str):Nat->LSt
 | 0=>[]
 |i+1=>jN (d5 val i) (val i)
def sv(val:Nat->Str):∀i,(d5 val i).length<=i
 | 0=>bf _
 |i+1=>by
  have q:=sv val i;show(jN (d5 val i) (val i)).length<=_;unfold jN;split
  .omega
  .rw[aJ,eZ];lia
def BY(σ:LSt)(v k:Str):(jN σ v).any (·==k)=(σ.any (·==k) || decide (k=v)):=by
 unfold jN;rw[fU];split
 .rename_i h;rw[jr,decide_eq_true_eq];exact⟨.inl,λz=>z.elim id λe=>e▸h⟩
 .rw[any_append,jr,jr,decide_eq_true_eq,eS,any_nil,pS,beq_iff_eq];exact or_congr_right eq_comm
def BZ(σ:LSt)(v:Str):(jN σ v).length=if σ.any (·==v) then σ.length else σ.length+1:=by
 unfold jN
 split <;> simp
def Jb{h:Heap}{a:Addr}{S z:Str->Bool}{B:Nat}(q:h.SetOf (strKind P w) a S n)(e:∀k,S k=z k)(I:n=B):h.SetOf (strKind P w) a z B:=by
 obtain rfl:=funext e;subst I;exact q
variable{I:Addr}{wr:LAd}{G:Array GenState->Array GenState->Prop}{Pv:Nat->Value->Prop}
def Jc{St:Nat->aE->Prop}(W:WalksS P w A.in1 I fp wr G n Pv St)(S:Addr)(T:S∉fp)(val:Nat->Str)(hv:∀i v,Pv i v->∃t,v=.str (val i) t)(hb:n+1<scanBound):
  ∀(k i:Nat) (s:aE),n-i=k->i<=n->St i s->s.heap.SetOf (strKind P w) S (λj=>(d5 val i).any (·==j)) (d5 val i).length ->
   (∀s',Moved (S::wr) G s s'->s'.heap.SetOf (strKind P w) S (λj=>(d5 val n).any (·==j)) (d5 val n).length->R (.ok (.ret .none)) s') ->
   gp (model P w) A (.builtin "set.update.loop" ⟨[.ref S,.ref I],[]⟩) R s:=by
 have hw:=λh=>T (W.sub _ h);have sub:∀b∈wr,b∈S::wr:=λb h=>c8 _ h;have stay:∀{s s':aE} {Z:Str->Bool} {m:Nat},Moved wr G s s'->s.heap.SetOf (strKind P w) S Z m->s'.heap.SetOf (strKind P w) S Z m:=λm ⟨o,es,ep,t,ho,r⟩=>⟨o,es,ep,t,m.heap S o hw ho,r⟩;intro k
 induction k with
 |zero=>
  intro i s hk hi st q z;obtain rfl:i=n:=by lia
  refine jU F.entry_set_update_loop ?_
  exact ar (W.done s _ _ st λs' m=>(aY (z s' (m.mono sub) (stay m q))))
 |succ k ih=>
  intro i s hk hi st q z;have lt:i<n:=by lia
  refine jU F.entry_set_update_loop ?_;refine ar (W.item i s _ _ lt st λv s' hP M m=>?_);obtain⟨t,rfl⟩:=hv i v hP;have is:(strKind P w).is (val i) (.str (val i) t)=ac:=PySem.W.isStrOf_self (val i) t;refine ar (eC ?_);refine eC (ar ((strKind P w).pyHash is ?_));have L:(d5 val i).length+1<scanBound:=by have:=sv val i;lia
  have q1:=stay m q
  refine wpAny_setAddHashed_of (knd:=strKind P w) (s:={s' with toks:=s'.toks+1}) is rfl q1 L λh' U q2=>?_
  have q3:h'.SetOf (strKind P w) S (λj=>(d5 val (i+1)).any (·==j)) (d5 val (i+1)).length:=Jb q2 (λj=>(BY _ _ _).symm) (BZ _ _).symm;refine aY ⟨mq F.plain_set_update_loop _,ih _ _ (by lia) lt (W.frame _ s' _ _ M (Nat.le_succ _) λb B o e=>?_) q3 λs2 m2 q4=>?_⟩
  .rw[U.2 b λh=>T (by rw[<- h];exact B)];exact e
  .refine z s2 (Moved.trans W.gtrans ((m.mono sub).then_heap (Nat.le_succ _) λb o B e=>?_) m2) q4;rw[U.2 b λh=>B (by rw[h];exact bW)];exact e
abbrev wq(vs:LVa)(xs:LSt):Prop:=vs.length=xs.length/\∀(i:Nat) (v:Value),vs[i]?=aa v->∃t,v=.str (xs.getD i "") t
@[reducible]noncomputable def jh(q:Bool):Obj:={cls:=.type "set",dict:=ab,data:=.set #[] 0 (.fresh 0 0 q)}
def Jd(h:Heap)(q:Bool):(h.push (jh q)).SetOf (strKind P w) h.objs.size (λ_=>ag) 0:=
 ⟨_,#[],0,_,dE _ rfl,⟨rfl,rfl,rfl⟩,rfl,λe z=>by simp at z,λk=>by simp,by decide,rfl,rfl⟩
set_option maxHeartbeats 8000000 in
def Je{xs:LSt}(hh:A.handled=ab)(hl:s.heap.IsList l items)(hi:wq items.toList xs)(hb:items.size+1<scanBound)
 (h:∀ (h':Heap) (tk:Nat),h'.SetOf (strKind P w) s.heap.objs.size (λj=>(d5 (λi=>xs.getD i "") items.size).any (·==j)) (d5 (λi=>xs.getD i "") items.size).length ->
   (∀b o,b<s.heap.objs.size->s.heap.get? b=aa o->h'.get? b=aa o)->Q (.ref s.heap.objs.size) {s with heap:=h',toks:=tk}):
  wpAny (model P w) A (call (.type "set") [.ref l]) Q E s:=by
 obtain⟨c,tl,hmro⟩:=jY.mro;have hmade:=jY.made;have hsub:=jY.sub;refine wpAny_call (codeAny_of_tree (aY ⟨Code.quiet_builtin _ (by decide +kernel),jU F.entry_type_call ?_⟩));rw[dH.under_plain (weight_type_call_type "set" [.ref l] []) rfl];have h1:=jY.notType;have h2:=jY.canCreate;have hct:=F.typeCall_set_1 (.ref l)
 repeat (any_goals (first |assumption |wp_step))
 refine li (code_set_new_1 (.ref l) (E:=E) (Q₁:=λob B=>∃q,ob=.ref s.heap.objs.size/\B={s with heap:=s.heap.push (jh q)}) λq=>⟨q,rfl,rfl⟩) λr B hr=>?_
 cases r with
 |error e=>exact hr
 |ok fl=>
  cases fl with
  |ret ob=>
   obtain⟨q,rfl,rfl⟩:=hr;have g0:(s.heap.push (jh q)).get? s.heap.objs.size=aa (jh q):=dE _ rfl
   have hT:aE.TypeIs {s with heap:=s.heap.push (jh q)} (.ref s.heap.objs.size) "set":=⟨_,g0,rfl⟩
   have hli:=jY.init.lookup;have hbi:=jY.init.bind (.ref s.heap.objs.size)
   repeat (any_goals (first |assumption |wp_step))
   refine li (uN (R:=wants (λr a0=>r=.none/\∃ h' tk,a0={ s with heap:=h',toks:=tk } /\
     h'.SetOf (strKind P w) s.heap.objs.size (λj=>(d5 (λi=>xs.getD i "") items.size).any (·==j)) (d5 (λi=>xs.getD i "") items.size).length /\
     (∀b o,b<s.heap.objs.size->s.heap.get? b=aa o->h'.get? b=aa o)) E) jY.init.plain F.entry_set_init (check_set_init_1 hT ?_)) λr₂ a0 z=>?_
   .obtain⟨⟨oc,od,odt,os⟩,hol,T,nl,U⟩:=hl;simp only at T U;subst T U;have hol':(s.heap.push (jh q)).get? l=aa {cls:=.type "list",dict:=od,data:=.seq items nl,slots:=os}:=bQ _ hol;have k1:=F.sub_list_set;have k2:=F.sub_list_frozenset;have k3:(iB "list" == iB "dict")=ag:=by decide
    have hl1:(s.heap.push (jh q)).IsList l items:=⟨_,hol',rfl,nl,rfl⟩;unfold cZ.«set.__init__» noKeywords cZ.Frozenset.updateFrom;generalize hPI:pyIter=PI
    wp_walk
    subst hPI;refine mm hl1 (ar (wpAny_runValue ?_));have lt:l<s.heap.objs.size:=bD hol;have hh3:A.in1.in1.in1.handled=ab:=by simp[hh]
    have ne1:l≠(s.heap.push (jh q)).objs.size:=by rw[qp];exact cp (Nat.lt_succ_of_lt lt)
    have nin:s.heap.objs.size∉[(s.heap.push (jh q)).objs.size,l]:=by
     rw[qp];simp only[bX,cT,or_false,not_or];exact⟨cp (Nat.lt_succ_self _),lb lt⟩
    have hv:∀(i:Nat) (v:Value),items[i]?=aa v->∃t,v=.str ((λi=>xs.getD i "") i) t:=λi v hv=>hi.2 i v (by rw[uz];exact hv);refine Jc ((Walks.list hh3 _ l ne1 items).toS) s.heap.objs.size nin (λi=>xs.getD i "") hv hb (items.size-0) 0 _ (by lia) (iw _) ⟨⟨_,dE _ rfl,rfl,rfl⟩,(hl1.push _)⟩ ?hS0 ?hR
    case hS0=>
     obtain⟨o,es,ep,t,ho,r⟩:=Jd (P:=P) (w:=w) s.heap q;exact⟨o,es,ep,t,bQ _ ho,r⟩
    case hR=>
     intro s' hm hS';obtain⟨h',g',d',tk',os'⟩:=s';have eg:g'=s.gens:=hm.gens;have ed:d'=s.drawn:=hm.drawn;have eo:os'=s.os:=hm.os;subst eg ed eo;show wpAny _ _ _ _ _ _;refine aY ?_;show wpAny _ _ (ret mw) _ _ _;refine aY ⟨rfl,h',tk',rfl,hS',λb o M e=>?_⟩;have n2:b≠(s.heap.push (jh q)).objs.size:=by rw[qp];exact cp (Nat.lt_succ_of_lt M)
     refine hm.heap b o ?_ (bQ _ (bQ _ e));simp only[bX,cT,or_false,not_or];exact⟨cp M,n2⟩
   .cases r₂ with
    |error e=>exact z
    |ok L=>
     cases L with
     |ret r=>
      obtain⟨rfl,h',tk,rfl,q',kk⟩:=z
      repeat (any_goals (first |assumption |wp_step))
      exact h _ _ q' kk
     | _=>exact z.elim
  | _=>exact hr.elim
abbrev iO(xs:LSt):Nat:=(d5 (λi=>xs.getD i "") xs.length).length
def B0:∀{xs:LSt} {vs:LVa},aS (xs.map V.str) vs->wq vs xs
 | [],_,.nil=>⟨rfl,λi v h=>by simp at h⟩
 |x::xs,_,.cons r h=>by
  obtain⟨q,z⟩:=B0 h;refine⟨by simp[q],λi v e=>?_⟩
  cases i with
  |zero=>
   obtain⟨t,rfl⟩:=r;cases e
   exact⟨t,rfl⟩
  |succ i=>exact z i v e
abbrev Jf(K:bo)(te:TE):TE:=λσ H Q=>te σ H λx H1=>∃l xs,x=.ref l/\SqL K H1 l (xs.map V.str)/\xs.length<4000/\Q (.int (iO xs:Nat)) H1
variable{eA:Pos}
def Jg{pos:Pos}(hc:X.calm=ac)(L:Gl X "len")(T:X.mg "len"=ab)(M:Gl X "set")(U:X.mg "set"=ab)(he:PE X e te)
 (h1:bi [.Call (.Name "set" p2) [e] [] eA] X.env=(ag,eval (.Call (.Name "set" p2) [e] [] eA) X.env)::bi [] X.env:=by rfl)(h2:bi [e] X.env=(ag,eval e X.env)::bi [] X.env:=by rfl)
 (k4:(fM pos (bi [] X.env)).any (·.1)=ag:=by rfl)(z:(fM eA (bi [] X.env)).any (·.1)=ag:=by rfl):
  PE X (.Call (.Name "len" p) [.Call (.Name "set" p2) [e] [] eA] [] pos) (Jf X.K te):=by
 intro pins s σ H Q I h;refine lg (iY I L T dD ?_);refine zh ?_ h1 k4;rw[h1];refine lm (lg (iY I M U boot_set ?_));refine jS ?_ h2 z;rw[h2];refine lm (thn (he pins s σ H _ I h) λu s1 q_=>?_);obtain⟨x,H1,B,r1,l,xs,rfl,hq,hb,q⟩:=q_;cases r1;refine aY ?_;obtain⟨its,rr,pl,hz⟩:=B.list hq;have ii:wq its xs:=B0 rr;have zz:its.toArray.size=xs.length:=by rw[size_toArray,ii.1]
 refine Je (items:=its.toArray) (xs:=xs) (B.ok.hd hc) pl.isList (by simpa using ii) (by rw[zz];unfold scanBound;lia) λh' tk qs keep=>?_;rw[zz]at qs;refine aY ?_;obtain⟨o,ents,ep,tb,ho,hex,hd,_,_,hsb,hf,hn⟩:=qs
 refine call_len_set (s:={s1 with heap:=h',toks:=tk}) ho hex hd hf (by unfold scanBound at hsb;lia) ?_
 refine⟨.int (iO xs:Nat),H1,B.kept λb u g=>keep b u (bD g) g,?_,q⟩;rw[hn];exact⟨_,rfl⟩
def B1:∀(xs:LSt),gQ (xs.map D.str)=aa xs
 | []=>rfl
 |x::xs=>by show(gQ _).map _=_;rw[B1 xs];rfl
def B2{G:Gc}{H:Hp}:∀{xs:LSt} {vs:List V},ay G H (xs.map D.str) vs->vs=xs.map V.str
 | [],_,r=>r
 |x::xs,_,r=>by
  obtain⟨v,vs,rfl,q,z⟩:=r;rw[B2 z,show v=V.str x from q];rfl
abbrev lS(f:MF1)(ρ:LS):OD:=(f ρ).bind λd=>(lsD d).bind λds=>(gQ ds).bind λxs=>if xs.length<4000 then aa (.int (iO xs:Nat)) else ab
def Jh{f:MF1}{xs:LSt}(h:f ρ=aa (.lst (xs.map D.str)))(q:xs.length<4000):lS f ρ=aa (.int (iO xs:Nat)):=by
 unfold lS;rw[h];show((gQ (xs.map D.str)).bind λxs=>if xs.length<4000 then aa (D.int (iO xs:Nat)) else ab)=_;rw[B1];exact if_pos q
def Ji{pos:Pos}{f:MF1}(hc:X.calm=ac)(L:Gl X "len")(T:X.mg "len"=ab)(M:Gl X "set")(U:X.mg "set"=ab)(ha:DE c X e f)
 (h1:bi [.Call (.Name "set" p2) [e] [] eA] X.env=(ag,eval (.Call (.Name "set" p2) [e] [] eA) X.env)::bi [] X.env:=by rfl)(h2:bi [e] X.env=(ag,eval e X.env)::bi [] X.env:=by rfl)
 (k4:(fM pos (bi [] X.env)).any (·.1)=ag:=by rfl)(B:(fM eA (bi [] X.env)).any (·.1)=ag:=by rfl):DE c X (.Call (.Name "len" p) [.Call (.Name "set" p2) [e] [] eA] [] pos) (lS f):=
 PE.imp (Jg hc L T M U ha h1 h2 k4 B) λσ H Q q_=>by
  obtain⟨Hf0,H0,Hf,ρ,ds,st,z,k⟩:=q_;unfold lS at z;obtain⟨d,e1,z⟩:=ce.mp z;obtain⟨xs,e2,z⟩:=ce.mp z;obtain⟨ts,e3,z⟩:=ce.mp z;split at z
  .rename_i hl;cases z;refine⟨Hf0,H0,Hf,ρ,d,st,e1,λv Hf' H' x r=>?_⟩;obtain⟨l,vs,rfl,q,rs⟩:=gv e2 r;rw[wk e3]at rs;obtain rfl:=B2 rs;exact⟨l,ts,rfl,x.s.seq q,hl,k _ Hf' _ x rfl⟩
  .nomatch z
def B3(val:Nat->Str):∀i k,k∈d5 val i↔∃j,j<i/\val j=k
 | 0,k=>⟨(λh=>nomatch h),λ⟨j,h,_⟩=>absurd h (Nat.not_lt_zero _)⟩
 |i+1,k=>by
  have B:=B3 val i k;have e:=BY (d5 val i) (val i) k;have any:∀(σ:LSt),σ.any (·==k)=ac↔k∈σ:=λσ=>by simp[any_eq_true]
  rw[<- any];show(jN (d5 val i) (val i)).any (·==k)=ac↔_;rw[e,jr,any,B,decide_eq_true_eq];constructor
  .rintro(⟨j,z,q⟩ |rfl)
   .exact⟨j,by lia,q⟩
   .exact⟨i,by lia,rfl⟩
  .rintro⟨j,z,q⟩
   rcases Nat.lt_or_ge j i with h |h
   .exact .inl ⟨j,h,q⟩
   .obtain rfl:j=i:=by lia
    exact .inr q.symm
def B4(val:Nat->Str):∀i,(d5 val i).length=i↔∀j k,j<k->k<i->val j≠val k
 | 0=>⟨λ_ j k _ h=>by lia,λ_=>rfl⟩
 |i+1=>by
  have L:=B4 val i;have M:=sv val i;show(jN (d5 val i) (val i)).length=i+1↔_;rw[BZ];have any:(d5 val i).any (·==val i)=ac↔∃j,j<i/\val j=val i:=by rw[<- B3];simp[any_eq_true]
  by_cases h:(d5 val i).any (·==val i)=ac
  .rw[if_pos h];obtain⟨j,q,z⟩:=any.mp h;exact⟨λe=>by lia,λg=>absurd z (g j i q (by lia))⟩
  .rw[if_neg h];constructor
   .intro e j k q z B
    rcases Nat.lt_or_ge k i with h4 |h4
    .exact L.mp (by lia) j k q h4 B
    .obtain rfl:k=i:=by lia
     exact h (any.mpr ⟨j,q,B⟩)
   .intro g;rw[L.mpr λj k q z=>g j k q (by lia)]
def Jj(xs:LSt):iO xs<=xs.length:=sv _ _
def Jk(xs:LSt):iO xs=xs.length↔xs.Nodup:=by
 unfold iO;rw[B4,pW,pairwise_iff_getElem];constructor
 .intro h i j hi B q e;refine h i j q B ?_;show xs.getD i ""=xs.getD j "";rw[fm,fm,cr hi,cr B];exact congrArg (λz=>(aa z).getD ("":Str)) e
 .intro h i j q B e;have hi:i<xs.length:=by lia
  refine h i j hi B q ?_;have e:xs.getD i ""=xs.getD j "":=e;rw[fm,fm,cr hi,cr B]at e;exact e
abbrev wt(K:bo):V->Option Int->Hp->VK->Prop:=λx st H Q=>∃a xs,x=.ref a/\SqL K H a xs/\(st=aa 1\/st=aa (-1))/\∀p,H p=ab->Q (.ref p) (upd H p (.lst (if st=aa 1 then xs else xs.reverse)))
def Jl(items:Array Value):slicePick items ab ab (aa 1)=slicePick items ab ab ab:=rfl
variable{tb:TO}
def Jm{pos:Pos}(he:PE X a te)(hb:PO X (aa b) tb):PE X (.Subscript a (.Slice ab ab (aa b) p2) pos) (λσ H Q=>te σ H λx H1=>tb σ H1 λst H2=>wt X.K x st H2 Q):=by
 intro pins s σ H Q I h;refine Subscript_ (thn (he pins s σ H _ I h) λv s1 B=>?_);obtain⟨x,H1,I1,r1,q1⟩:=B;refine wpAny_Slice (thn (vf pins s1 σ H1 (λo H'=>o=ab/\tb σ H' λst H2=>wt X.K x st H2 Q) I1 ⟨rfl,q1⟩) λvl s2 ⟨l,H2,I2,pl,el,q2⟩=>thn (vf pins s2 σ H2 (λo H'=>o=ab/\tb σ H' λst H2=>wt X.K x st H2 Q) I2 ⟨rfl,q2⟩) λvu s3 ⟨u,H3,I3,pu,eu,q3⟩=>thn (hb pins s3 σ H3 _ I3 q3) λvt U B=>?_);obtain⟨t,H4,I4,pt,q4⟩:=B;subst el eu
 have z:Inv X pins σ H4 {U with heap:=U.heap.push {cls:=.type "slice",data:=.fields #[vl,vu,vt]}}:=I4.kept λb ob q=>bQ _ q
 obtain⟨a,xs,rfl,hx,T,q⟩:=q4;cases r1;obtain⟨its,r,L,hz⟩:=z.list hx;have M:=r.length;refine tail_any L.isList.typeIs slot_list_getitem.lookup ?_ (by with_unfolding_all rfl)
 refine wpAny_getItem_list_slice L.isList (zq ..) pl pu pt (by rcases T with rfl |rfl <;> decide) ?_ (by rw[size_toArray];lia)
 refine⟨.ref _,_,z.laid (λb ob q=>bQ _ q) (bf _) ?_,rfl,q _ (z.hok.fresh (bf _))⟩
 rcases T with rfl |rfl
 .rw[if_pos rfl,Jl,Ab,HT.sIx_none,HT.sIx_none,drop_zero,Nat.sub_zero,take_length];exact⟨hz,its,0,r,dE _ rfl⟩
 .rw[if_neg (by decide),W.krv_pick];exact⟨by rw[jv];exact hz,its.reverse,0,r.reverse,dE _ rfl⟩
abbrev sw(f g:Xe):Xe:=λρ=>(f ρ).bind λp=>(g p.2).bind λq=>(lsD p.1).bind λds=>match q.1 with
 |.int i=>if i=1\/i=-1 then aa (.lst (if i=1 then ds else ds.reverse),q.2) else ab
 | _=>ab
variable{g:Xe}
def Jn{f:Xe}{pos:Pos}(ha:DX c X a f)(hb:DX c X b g):DX c X (.Subscript a (.Slice ab ab (aa b) p2) pos) (sw f g):=
 PE.imp (Jm ha (z3 hb)) λσ H Q q_=>by
  obtain⟨Hf0,H0,Hf,ρ,r,ρ',st,U,k⟩:=q_;unfold sw at U;obtain⟨⟨d,ρ1⟩,e1,M⟩:=ce.mp U;obtain⟨⟨y,dy⟩,e2,T⟩:=ce.mp M;obtain⟨ds,e3,B⟩:=ce.mp T;clear U M T;dsimp only at e2 e3 B;split at B
  .rename_i i;split at B
   .rename_i hi;cases B;refine⟨Hf0,H0,Hf,ρ,_,ρ1,st,e1,λv al H1 f1 st1 r1=>⟨Hf0,H0,al,ρ1,_,_,st1,e2,λu a9 H2 f2 L r2=>⟨i,r2,?_⟩⟩⟩;obtain⟨a,vs,rfl,q,r⟩:=gv e3 r1;refine⟨a,vs,rfl,(f2.trans L.sub).seq q,hi.imp (congrArg aa) (congrArg aa),λp hp=>?_⟩;have x:=(Ext.tmp (o:=.lst (if aa i=aa 1 then vs else vs.reverse)) L.sub hp).fix hp (L.sub.free hp) bI;refine k _ _ _ ((f1.trans f2).trans x.f) (L.step x) ⟨p,_,rfl,bI,?_⟩;have r3:=(r.up f2).up x.f
    by_cases h1:i=1
    .subst h1;rw[if_pos rfl,if_pos rfl];exact r3
    .have h2:¬aa i=aa 1:=λz=>h1 (cj z);rw[if_neg h2]at r3;rw[if_neg h1,if_neg h2];exact r3.reverse
   .nomatch B
  .nomatch B
section
variable(k:Nat)(js:LN)(jp t:Nat)(g:D->LS->Option LS)(tt:Xt)(fe:Xe)(ρ:LS)(l:Addr)
open Classical in
abbrev m6(q:LS)(y:OD):Option (OD×LD):=match q[k+t]? with
 |some (.pin _ b5)=>if ∀i,k<=i->q[i]?=(cX k js (ρ.set jp (.pin l b5)))[i]? then aa (y,b5) else ab
 | _=>ab
abbrev m7(d:D)(xs:LD):Option (OD×LD):=(g d (cX k js (ρ.set jp (.pin l xs)))).bind λρ1=>(tt ρ1).bind λb=>match b.1 with
 |true=>(fe b.2).bind λq=>m6 k js jp t ρ l q.2 (aa q.1)
 |false=>m6 k js jp t ρ l b.2 ab
abbrev ie:LD->LD->Option (LD×LD)
 | [],xs=>aa ([],xs)
 |d::ds,xs=>(m7 k js jp t g tt fe ρ l d xs).bind λy=>(ie ds y.2).map λr=>(y.1.toList++r.1,r.2)
end
abbrev lT(k:Nat)(js:LN)(jp t:Nat)(fi:Xa)(g:D->LS->Option LS)(tt:Xt)(fe:Xe):Xe:=λρ=>(fi ρ).bind λp=>match p.2[jp]? with
 |some (.pin l xs)=>if p.1.length<=16777216/\js[t]?=aa jp/\(js.all λj=>j==jp || ((p.2[j]?).getD .no).calm)=ac then (ie k js jp t g tt fe p.2 l p.1 xs).map λq=>(.lst q.1,p.2.set jp (.pin l q.2)) else ab
 | _=>ab
variable{dy:LS}
def B5{y z:OD}(h:m6 k js jp t ρ l dy y=aa (z,b5)):z=y/\(∃q,dy[k+t]?=aa (.pin q b5))/\∀i,k<=i->dy[i]?=(cX k js (ρ.set jp (.pin l b5)))[i]?:=by
 unfold m6 at h;split at h
 .rename_i q L B;split at h
  .rename_i hi;cases h;exact⟨rfl,⟨q,B⟩,hi⟩
  .nomatch h
 .nomatch h
variable{g:D->LS->Option LS}{tt:Xt}
def Jo{y:OD}(h:m7 k js jp t g tt fe ρ l d xs = aa (y, b5)):∃ρ1 b dy, g d (cX k js (ρ.set jp (.pin l xs))) = aa ρ1/\tt ρ1 = aa (b, dy) /\
    ((b = ac/\∃ z q, fe dy = aa (z, q)/\y = aa z/\(∃ T, q[k + t]? = aa (.pin T b5))/\∀ i, k<=i->q[i]? = (cX k js (ρ.set jp (.pin l b5)))[i]?) \/
     (b = ag/\y = ab/\(∃T, dy[k+t]? = aa (.pin T b5))/\∀i, k<=i->dy[i]? = (cX k js (ρ.set jp (.pin l b5)))[i]?)):= by
  unfold m7 at h;obtain⟨ρ1, U, h⟩:= ce.mp h;obtain⟨⟨b, dy⟩, e2, h⟩:= ce.mp h;refine⟨ρ1, b, dy, U, e2, ?_⟩
  cases b with
  |true=>
    obtain⟨⟨z, q⟩, e3, h⟩:= ce.mp h;obtain⟨B, L, M⟩:= B5 h
    exact .inl ⟨rfl, z, q, e3, B, L, M⟩
  |false=>
    obtain⟨B, L, M⟩:= B5 h;exact .inr ⟨rfl, B, L, M⟩
def Jp(h:ie k js jp t g tt fe ρ l (d::ds) xs=aa (rs,ys)):∃y b5 r,m7 k js jp t g tt fe ρ l d xs=aa (y,b5)/\ie k js jp t g tt fe ρ l ds b5=aa (r,ys)/\rs=y.toList++r:=by
 unfold ie at h;obtain⟨⟨y,b5⟩,q,h⟩:=ce.mp h;obtain⟨⟨r,B⟩,z,h⟩:=lc.mp h;cases h;exact⟨y,b5,r,q,z,rfl⟩
def Jq{G:Gc}(hj:js.Nodup)(hk:∀d ρ ρ' i,g d ρ=aa ρ'->k<=i->ρ'[i]?=ρ[i]?)(kT:∀d ρ ρ',g d ρ=aa ρ'->ρ'.length=ρ.length){Q:VK}(h:tDX G (lT k js jp t fi g tt fe) σ H Q):
  mH k js (rX G fi) (tDG G g) (oT G tt) (tDX G fe) σ H Q:=by
 obtain⟨Hf0,H0,Hf,ρ0,d0,ρ',st,z,kq⟩:=h;unfold lT at z
 cases e1:fi ρ0 with
 |none=>rw[e1]at z;nomatch z
 |some p=>
  obtain⟨ds,ρ⟩:=p;rw[e1,aC]at z;dsimp only at z;split at z
  .rename_i l xs ep;split at z
   .rename_i hz;obtain⟨hz,ht,hcm⟩:=hz
    cases e2:ie k js jp t g tt fe ρ l ds xs with
    |none=>rw[e2]at z;nomatch z
    |some q=>
     obtain⟨rs,zs⟩:=q;rw[e2]at z;cases z;refine⟨Hf0,H0,Hf,ρ0,ds,ρ,st,e1,λJ al H1 f1 st1 it=>?_⟩
     have hcm':=λj M=>by
      have:=all_eq_true.mp hcm j M;rw[jr]at this;exact this.imp beq_iff_eq.mp id
     have eself:ρ.set jp (.pin l xs)=ρ:=by
      apply k6;intro i
      by_cases hi:jp=i
      .subst hi;rw[sm ep,ep]
      .rw[jt hi]
     have st0:aG G al (eJ H1 l) al H1 (gr k js σ) (cX k js (ρ.set jp (.pin l xs))):=by rw[eself];exact st1.compP k hj ep hcm'
     obtain⟨U,el9,_,hf9,e9,_⟩:=st1.ownAt rfl ep;subst e9
     refine⟨λi m ys σ' H'=>m=ds.length-i/\i<=ds.length/\∃Hf' as b5 bE,aG G al _ Hf' H' σ' (cX k js (ρ.set jp (.pin U b5)))/\ay G Hf' as ys/\ie k js jp t g tt fe ρ U (ds.drop i) b5=aa (bE,zs)/\rs=as++bE/\as.length<=i,
      ⟨ds.length,rfl,iw _,al,[],xs,rs,st0,rfl,e2,rfl,bf _⟩,?_⟩
     rintro i m ys σ' H' ⟨rfl,hi,Hf',as,b5,bE,B,ra,ec,er,hal⟩;have hys:ys.length<=aW:=by rw[cG,<- ra.length];lia
     obtain⟨l9,it2⟩:=it Hf' H' B.ext.f B.sub i
     by_cases hlt:i<ds.length
     .obtain⟨d,ed,edr⟩:=oI hlt;obtain⟨go,yl⟩:=l9 d ed
      refine .inr ⟨go,hys,λys' hF H2=>ds.length-_=ds.length-_/\i+1<=ds.length/\∃Hf' as b5 bE,aG G al _ Hf' H2 hF _/\ay G Hf' as ys'/\ie k js jp t g tt fe ρ U _ b5=aa _/\rs=as++bE/\as.length<=i+1,
       λys' hF H2 w=>⟨ds.length-(i+1),by lia,w⟩,λx H2 y=>?_⟩
      obtain⟨a9,x3,rx⟩:=yl x H2 y;rw[edr]at ec;obtain⟨y',xs2,r',et,ec',L⟩:=Jp ec;obtain⟨ρ1,b,dy,eg,et,z⟩:=Jo et;refine⟨al,eJ H1 U,a9,_,d,ρ1,B.step x3,rx,eg,λip h8=>⟨al,eJ H1 U,a9,ρ1,b,dy,h8,et,λHf4 H4 f4 st4=>?_⟩⟩
      have kF:∀{ρ9:LS} {Hf9 H9:Hp},aG G al (eJ H1 U) Hf9 H9 ip ρ9->(cX k js (ρ.set jp (.pin U xs2))).length=ρ9.length:=λT=>by
       rw[<- T.len,h8.len,kT _ _ _ eg];unfold cX;rw[aJ,aJ,av,av]
      rcases z with⟨rfl,y2,ρ3,ee,rfl,⟨l',ex⟩,hag⟩ |⟨rfl,rfl,⟨l',ex⟩,hag⟩
      .refine Aj ⟨al,eJ H1 U,Hf4,dy,y2,ρ3,st4,ee,λv Hf5 H5 f5 T r5=>?_⟩;refine⟨rfl,hlt,Hf5,as++[y2],xs2,r',T.weak (kF T) λj s hs=>?_,(ra.up ((x3.f.trans f4).trans f5)).append (.cons r5 .nil),ec',by rw[er,L,gm];rfl,by rw[aJ,eZ];lia⟩
       rcases kg hs with⟨_,e⟩ |⟨M,_⟩
       .exact .inl e
       .exact .inr (by rw[hag j M];exact hs)
      .rw[if_neg (by decide)];refine⟨rfl,hlt,Hf4,as,xs2,r',st4.weak (kF st4) λj s hs=>?_,ra.up (x3.f.trans f4),ec',by rw[er,L];rfl,by lia⟩
       rcases kg hs with⟨_,e⟩ |⟨M,_⟩
       .exact .inl e
       .exact .inr (by rw[hag j M];exact hs)
     .have ei:i=ds.length:=by lia
      subst ei;refine .inl ⟨it2 rfl,hys,λD h1 h2=>?_⟩;rw[nI (bf _)]at ec;cases ec;rw[eB]at er;subst er;obtain⟨l3,el3,h03,hf3,e3,us3,hu3,rx3⟩:=B.ownAt rfl (BP ht (sm ep));subst e3;have xn:=Ext.new (o:=.lst ys) B.sub h2;exact kq _ _ _ (f1.trans (B.ext.f.trans xn.f)) ((st1.back (s':=.pin l3 zs) rfl rfl ep el9 B.ext hf3 ⟨rfl,us3,hu3,rx3⟩).step xn) ⟨D,ys,rfl,bI,ra.up xn.f⟩
   .nomatch z
  .nomatch z
abbrev lU(g:D->LS->Option LS)(f:Xe)(ρ:LS):Option Fl:=(f ρ).bind λp=>(g p.1 p.2).map .nx
def wu{pos:Pos}{f:Xe}(U:DX c X e f)(hg:DG c X tg k g)(hs:nQ [tg] e pos.line X.env=pure ag:=by rfl)(hw:nR [tg] e X.env=pure ab:=by rfl)
 (T:(eD [tg] X.env).map (·.2)=[gE tg X.env]:=by rfl):DS c X (.Assign [tg] e pos) (lU g f):=PS.imp (qu U hg.pg hs hw T) λE σ H q_=>by
 obtain⟨Hf0,H0,Hf,ρ,o,so,q,kq⟩:=q_;unfold lU at q;obtain⟨p,B,q⟩:=ce.mp q;obtain⟨ρ',L,q⟩:=lc.mp q;subst q;exact⟨Hf0,H0,Hf,ρ,p.1,p.2,so,B,λv Hf' H' M st r=>⟨Hf0,H0,Hf',p.2,p.1,ρ',st,r,L,λσ' z=>kq σ' Hf' H' M z⟩⟩
def wv{f:Xe}(h:f ρ=aa (d,ρ1))(h':g d ρ1=aa ρ')(k:K (.nx ρ')):wp (lU g f) ρ K:=⟨_,by unfold lU;rw[h,aC,h'];rfl,k⟩
def Jr{pos:Pos}(i:Nat)(k:Nat)(js:LN)(jp t:Nat)(Nc:LSt)(hN:X.N.Nodup)(hc:X.calm=ac)(hi:DXi c X tg iter fi)(B:∀cl C ex a0 a8,DG c (X.comp scope Nc cl C ex a0 a8) tg k g)
 (ht:∀cl C ex a0 a8,DTX c (X.comp scope Nc cl C ex a0 a8) cd tt)(he:∀cl C ex a0 a8,DX c (X.comp scope Nc cl C ex a0 a8) c0 fe)(L:X.N[i]?=aa x:=by rfl)(hx:Loc X.env.scope x:=by first |exact cf rfl |exact bw rfl)
 (M:fF (.ListComp c0 [⟨tg,iter,[cd],0⟩] scope pos) (aa (.Name x b0)) cc.line X.env=pure ac:=by rfl)(U:iZ scope X.env.scope.names X.N Nc k js=ac:=by rfl)(hs:∀x,iy iter X.env x=pure x:=by intro _;rfl)
 (hf:LcF X x:=by first |exact .inl rfl |exact .inr rfl)(hj:js.Nodup:=by decide):
  DS c X (.Assign [.Name x b0] (.ListComp c0 [⟨tg,iter,[cd],0⟩] scope pos) cc) (c7 i (lT k js jp t fi g tt fe)):=
 PS.imp (qS (tt:=oT (Gx c X) tt) (te:=tDX (Gx c X) fe) k js Nc hN L hx hc hi (λcl C ex a0 a8=>(B cl C ex a0 a8).pg) (λcl C ex a0 a8=>Aq (ht cl C ex a0 a8)) he M U hs hf) λE σ H q_=>by
  obtain⟨Hf0,H0,Hf,ρ,o,so,q,kk⟩:=q_;unfold c7 at q
  cases z:lT k js jp t fi g tt fe ρ with
  |none=>rw[z]at q;nomatch q
  |some p=>
   rw[z]at q;cases q;exact Jq hj (B [] 0 [] X.s₀ X.H₀).keep (B [] 0 [] X.s₀ X.H₀).len ⟨Hf0,H0,Hf,ρ,p.1,p.2,so,z,λv Hf' H' s T r=>kk _ Hf' H' s (T.setIm r)⟩
def DE.pe{f:MF1}(h:DE c X e f):PE X e (tD (Gx c X) f):=h
def DX.pe{f:Xe}(h:DX c X e f):PE X e (tDX (Gx c X) f):=h
section
variable{prog:di}{w:World}{K:Type}[DecidableEq K]{knd:KeyKind prog w K}{A:dH}{E:PRS}{s:aE}
def Js{d:Addr}{kvs:List (K×Value)}{k:K}{key dv:Value}{Q:PRS}(q:knd.is k key=ac)(hm:s.heap.DictOf knd d kvs)(hz:kvs.length<=aW)
 (h1:∀v,gW kvs k=aa v->Q v {s with toks:=s.toks+1})
 (h2:gW kvs k=ab->∀h',h'.DictOf knd d (iA kvs k dv)->gY d s.heap h'->Q dv {s with heap:=h',toks:=s.toks+1}):
  wpAny (model prog w) A (dictSetDefault d key dv) Q E s:=by
 have hmm:=hm.mapOf;obtain⟨o,es,ep,ho,hc,hd,hk,hp,hn⟩:=hm
 have hes:es.size<=aW:=by
  have e1:=hp.length;have e2:es.toList.length=es.size:=by simp
  lia
 obtain⟨o',es',ep',ho',hc',M,hk',hf⟩:=hmm;rw[ho]at ho';cases ho';rw[hd]at M;cases M
 have U:(es.findIdx? λe=>knd.is k e.key)=kvs.findIdx? λkv=>decide (kv.1=k):=by
  rw[<- hp.findIdx k];obtain⟨l⟩:=es;simp
 unfold dictSetDefault
 try with_reducible refine eC ?_
 refine ar (knd.pyHash q ?_)
 refine ar (wpAny_dictFind_of (s:={s with toks:=s.toks+1}) q ho hd hk ?_)
 cases hi:es.findIdx? λe=>knd.is k e.key with
 |some i=>
  have z:gW kvs k=(es[i]?).map (·.val):=by rw[<- hf k,findBy_of_findIdx?,hi]
  refine ar (wpAny_dictEntries (s:={s with toks:=s.toks+1}) ho hd ?_)
  cases T:es[i]? with
  |none=>
   exfalso;have:=Array.findIdx?_eq_some_iff_findIdx_eq.mp hi;have hlt:i<es.size:=this.1;rw[Array.getElem?_eq_getElem hlt]at T
   exact nomatch T
  |some e=>
   rw[T]at z
   exact ar (ll (aY (h1 e.val z)))
 |none=>
  have z:gW kvs k=ab:=by rw[<- hf k,findBy_of_findIdx?,hi]
  have L:k∉kvs.map (·.1):=not_mem_of_findIdx_none (U▸hi)
  have B:¬(kvs.any λkv=>decide (kv.1=k))=ac:=by
   rw[any_eq_true];rintro⟨kv,hkv,T⟩;exact L (bT.mpr ⟨kv,hkv,of_decide_eq_true T⟩)
  refine ar (ll (ar (wpAny_updateDictKeys (hz:=hes) (s:={ s with toks:=s.toks + 1 }) ho hd (aY (h2 z _ ⟨_,_,ep + 1,mv _ ho (Obj.isFreed_of_dict (Obj.data_mapDictKeys hd _)),
   hc.mapDictKeys _,Obj.data_mapDictKeys hd _,hk.push q _,?_,?_⟩ (gY.update ..))))))
  .rw[iA,if_neg B];have:=hp.append q (knd.hash k) dv;obtain⟨l⟩:=es
   simpa using this
  .rw[iA,if_neg B,bh,gn];refine⟨hn,by simp,?_⟩;intro a ha b hb;simp only[cY,map_nil,bN]at hb;subst hb;exact λe=>L (e▸ha)
def Jt(knd:KeyKind prog w K)(d:Addr)(key:Value)(hd:(d==fY)=ag)(dv:Value):
  MeetsIn prog w (cZ.«dict.setdefault» ⟨[.ref d,key,dv],[]⟩) (λ_ R s=>∃ k kvs,knd.is k key=ac/\s.heap.DictOf knd d kvs/\kvs.length<=aW /\
   (∀v,gW kvs k=aa v->R (.ok (.ret v)) {s with toks:=s.toks+1}) /\
   (gW kvs k=ab->∀h',h'.DictOf knd d (iA kvs k dv)->gY d s.heap h'->R (.ok (.ret dv)) {s with heap:=h',toks:=s.toks+1})):=
 .of_wp λA R s q_=>by
  obtain⟨k,kvs,U,L,hz,M,T⟩:=q_;refine ar ?_;refine ar (uM L.typeIs ?_);refine aY ?_;show wpAny _ _ (if _=ac then _ else _) _ _ s;rw[hd,if_neg (λz=>nomatch z)];exact ar (Js U L hz (λv hv=>aY ⟨v,rfl,M v hv⟩) λhn h' q B=>aY ⟨dv,rfl,T hn h' q B⟩)
end
abbrev lV(kvs more:List (Key×V)):List (Key×V):=more.foldl (λq z=>dQ q z.1 z.2) kvs
def KV.mergeL{more:List (Key×V)}{B:List (Key×Value)}(z:KV more B):∀{kvs:List (Key×V)} {vs:List (Key×Value)},KV kvs vs->KV (lV kvs more) (merged vs B):=by
 unfold KV at z
 induction z with
 |nil=>exact λh=>h
 | @cons p q ps T r _ M=>
  intro kvs vs h;obtain⟨L,U⟩:=r;have:=M (h.put q.1 U);rw[<- L]at this;show KV (lV (dQ kvs p.1 p.2) ps) (merged (iA vs q.1 q.2) T);rw[<- L];exact this
def Ju(more:List (Key×V)):∀kvs:List (Key×V),(lV kvs more).length<=kvs.length+more.length:=by
 induction more with
 |nil=>exact λ_=>bf _
 |cons p more q=>
  intro kvs;have z:=q (dQ kvs p.1 p.2);have B:=qN kvs p.1 p.2;show(lV (dQ kvs p.1 p.2) more).length<=_;rw[bP];lia
def Jv(more:List (Key×V)):∀kvs:List (Key×V),((kvs++more).map (·.1)).Nodup->lV kvs more=kvs++more:=by
 induction more with
 |nil=>exact λkvs _=>(eB kvs).symm
 |cons p more z=>
  intro kvs nd
  have hp:dQ kvs p.1 p.2=kvs++[p]:=by
   unfold dQ;rw[if_neg];rw[any_eq_true];rintro⟨x,q,e⟩;rw[bh,cY,gn]at nd;exact nd.2.2 x.1 (bT.mpr ⟨x,q,rfl⟩) p.1 bW (of_decide_eq_true e)
  show lV (dQ kvs p.1 p.2) more=_;rw[hp,z (kvs++[p]) (by simpa using nd)];simp
abbrev B6:V->List V->Hp->VK->Prop:=λx vs H Q=>∃d b kvs more,x=.ref d/\vs=[.ref b]/\d≠b/\H d=aa (.dK kvs)/\Rd H b (.dK more)/\kvs.length+more.length<=aW/\Q .non (upd H d (.dK (lV kvs more)))
def B7:MtR X "dict.update" B6:=by
 rintro pins s σ H x vs v us Q I rx rv ⟨d,b,kvs,more,rfl,rfl,U,hd,hb,hz,q⟩;cases rx;obtain⟨u,rfl,ru⟩:=rv.one;cases ru;obtain⟨z1,n1,h6,z,M⟩:=qO I.hok hd;obtain⟨z2,n2,vs2,B,T⟩:=j4 I.hok hb;refine call_meetsIn uW M.typeIs PySem.F.entry_dict_update (PySem.F.args_dict_update_2 _ _) (meets_dict_update _ d b U n2) ⟨h6,vs2,M,T,by rw[<- z.length,<- B.length];exact hz,λh' L _ hs=>?_⟩;have he:∃q,h'.get? d=aa q:=let ⟨q,_,_,hq,_⟩:=L;⟨q,hq⟩;exact⟨.non,_,qQ (t':=s.toks) I (by rw[hd];exact mx) hs he (qR (dC (Ju more kvs) hz) n1 (B.mergeL z) L),rfl,q⟩
abbrev B8:V->List V->Hp->VK->Prop:=λx vs H Q=>∃d kvs k v,x=.ref d/\vs=[kV k,v]/\H d=aa (.dK kvs)/\(∀u,eI kvs k=aa u->Q u H)/\(eI kvs k=ab->kvs.length<aW/\Q v (upd H d (.dK (dQ kvs k v))))
def Jw:MtR X "dict.setdefault" B8:=by
 rintro pins s σ H x vs v us Q I rx B ⟨d,kvs,k,v',rfl,rfl,hd,q1,q2⟩;cases rx;obtain⟨u1,u2,rfl,r1,r2⟩:=vd B;obtain⟨z,hS,h6,L,U⟩:=qO I.hok hd;refine call_meetsIn zo U.typeIs PySem.F.entry_dict_setdefault (PySem.F.args_dict_setdefault_3 _ _ _) (Jt _ d u1 hS u2) ⟨k,h6,mE r1,U,by rw[<- L.length];exact z,λw hw=>?_,λhn h' T hs=>?_⟩
 .have B:=L.val k;rw[hw]at B
  cases M:eI kvs k with
  |none=>rw[M]at B;exact B.elim
  |some v=>rw[M]at B;exact⟨v,H,I.tok _,B,q1 v M⟩
 .have M:eI kvs k=ab:=by
   have B:=L.val k;rw[hn]at B
   cases M:eI kvs k with
   |none=>rfl
   |some v=>rw[M]at B;exact B.elim
  obtain⟨hl,q⟩:=q2 M;have he:∃q,h'.get? d=aa q:=let ⟨q,_,_,hq,_⟩:=T;⟨q,hq⟩;have:=qN kvs k v';exact⟨v',_,qQ I (by rw[hd];exact mx) hs he (qR (by lia) hS (L.put k r2) T),r2,q⟩
def Jx:fH X (.type "dict") (λxs H Q=>∃a kvs,xs=[.ref a]/\Rd H a (.dK kvs)/\∀p,H p=ab->Q (.ref p) (upd H p (.dK kvs))):=by
 rintro pins s σ H xs ws Q I r ⟨a,kvs,rfl,L,q⟩;obtain⟨_,rfl,B⟩:=g6 r;cases B;exact Gw I L λp s' hp z=>⟨.ref p,_,z,rfl,q p hp⟩
def Jy:fH X (.builtin "len") (λxs H Q=>∃a kvs,xs=[V.ref a]/\Rd H a (.dK kvs)/\Q (.int kvs.length) H):=by
 rintro pins s σ H xs ws Q I r ⟨a,kvs,rfl,L,q⟩;obtain⟨_,rfl,B⟩:=g6 r;cases B;exact Gk I L λt s' z=>⟨.int kvs.length,H,z,⟨t,rfl⟩,q⟩
def ww{pos:Pos}{i:Int}(B:Gl X x)(q:∃t,X.mg x=aa (.int i t))(hd:NDb x:=by decide):DE c X (.Name x pos) (λ_=>aa (.int i)):=by
 obtain⟨t,q⟩:=q
 exact PE.imp (zy B q (v:=.int i) ⟨t,rfl⟩ hd) λσ H Q L=>by
  obtain⟨Hf0,H0,Hf,ρ,d,st,z,k⟩:=L;cases z;exact k _ Hf H (Ext.refl st.sub) rfl
def Jz{pos:Pos}:DE c X (.Dict [] [] pos) (λ_=>aa (.dic [] [])):=PE.imp Ao λσ H Q L=>by
 obtain⟨Hf0,H0,Hf,ρ,d,st,z,k⟩:=L;cases z;intro q B;exact k _ _ _ (Ext.new st.sub B) ⟨q,[],rfl,bI,rfl,.nil⟩
abbrev m8(i:Nat)(f:MF1)(ρ:LS):Option Fl:=(f ρ).bind λd=>(iJ d).map λr=>.nx (ρ.set i (.ownd r.1 r.2))
def B9{pos:Pos}(i:Nat){f:MF1}(hN:X.N.Nodup)(hg:Gl X "dict")(hm:X.mg "dict"=ab)(he:DE c X e f)(hi:X.N[i]?=aa x:=by rfl)(hx:Loc X.env.scope x:=by first |exact cf rfl |exact bw rfl)(M:bi [e] X.env=(ag,eval e X.env)::bi [] X.env:=by rfl)
 (hs:fF (.Call (.Name "dict" p) [e] [] pos) (aa (.Name x b0)) cc.line X.env=pure ag:=by rfl)(hf:LcF X x:=by first |exact .inl rfl |exact .inr rfl):
  DS c X (.Assign [.Name x b0] (.Call (.Name "dict" p) [e] [] pos) cc) (m8 i f):=PS.imp (mC hN hi hx (qF Jx hg hm wg (cs he cJ M) (by decide) (by decide) M rfl) hs hf) λE σ H q_=>by
 obtain⟨Hf0,H0,Hf,ρ,o,so,L,k⟩:=q_;unfold m8 at L;obtain⟨d,e1,L⟩:=ce.mp L;obtain⟨r,e2,L⟩:=lc.mp L;subst L;refine⟨Hf0,H0,Hf,ρ,d,so,e1,λv Hf' H' U rv=>?_⟩;obtain⟨a,vs,rfl,rd,z,rs⟩:=r9 e2 rv;refine⟨a,r.1.zip vs,rfl,rd.up U.s,λq T=>?_⟩;have B:=so.step U;exact k _ Hf' _ U.f (B.setOwn (i:=i) (l:=q) (s:=.ownd r.1 r.2) rfl (Ext.grow B.sub (cB T)) T (B.sub.free T) ⟨vs,bI,z,rs⟩)
def Ca{f:MF1}{r:List Key×LD}(h:f ρ=aa d)(h':iJ d=aa r)(q:K (.nx (ρ.set i (.ownd r.1 r.2)))):wp (m8 i f) ρ K:=⟨_,by unfold m8;rw[h,aC,h'];rfl,q⟩
abbrev m9(i:Nat)(f:MF1)(ρ:LS):Option Fl:=match ρ[i]? with
 |some (.ownd ks xs)=>(f ρ).bind λd=>(iJ d).bind λr=>if (ks++r.1).Nodup/\ks.length+r.1.length<=16777216 then aa (.nx (ρ.set i (.ownd (ks++r.1) (xs++r.2)))) else ab
 | _=>ab
def Cb(h:ks.length=vs.length):(ks.zip vs).map (·.1)=ks:=by
 rw[mi (by lia)]
def Cc{f:MF1}(h:PS X st (mz (tBM X.K "dict" B6 (eG i) (jB (tD (Gx c X) f) j1)))):DS c X st (m9 i f):=PS.imp h λE σ H q_=>by
 obtain⟨Hf0,H0,Hf,ρ,o,T,B,k⟩:=q_;unfold m9 at B;split at B
 .rename_i ks xs es;obtain⟨d,e1,B⟩:=ce.mp B;obtain⟨r,e2,B⟩:=ce.mp B;split at B
  .rename_i hc;have B:=cj B;subst B;obtain⟨l,U,h0,hf,vs,q,z,rr⟩:=T.ownAt rfl es;refine⟨_,U,.inr (.inr (.inl ⟨rfl,.inl ⟨_,q⟩⟩)),Hf0,H0,Hf,ρ,d,T,e1,λw Hf' H' x r'=>?_⟩;obtain⟨b,us,eb,L,z2,r2⟩:=r9 e2 r';subst eb;have M:Hf' l=ab:=(x.n l _ q rfl).trans hf;have hz:(ks.zip vs).length+(r.1.zip us).length<=aW:=by rw[io,io,cG];lia
   refine⟨l,b,_,_,rfl,rfl,λe=>?_,x.h _ _ q,L.up x.s,hz,?_⟩
   .subst e
    rcases L with L |⟨_,L⟩ <;> (rw[M]at L;nomatch L)
   refine k σ Hf' _ x.f ((T.step x).mutd rfl rfl es U ⟨vs++us,?_,by rw[aJ,aJ,z,z2],(rr.up x.f).append r2⟩);rw[bI,Jv _ _ (by rw[bh,Cb z,Cb z2];exact hc.1),zip_append z]
  .nomatch B
 .nomatch B
def Ce{f:MF1}{r:List Key×LD}(z:ρ[i]?=aa (.ownd ks xs))(h:f ρ=aa d)(h':iJ d=aa r)(L:(ks++r.1).Nodup)(B:ks.length+r.1.length<=16777216)(q:K (.nx (ρ.set i (.ownd (ks++r.1) (xs++r.2))))):wp (m9 i f) ρ K:=⟨_,by
 unfold m9;rw[z];dsimp only;rw[h,aC,h',aC,if_pos ⟨L,B⟩],q⟩
abbrev o0(i:Nat)(fk fv:MF1)(ρ:LS):Option Fl:=match ρ[i]? with
 |some (.ownd ks xs)=>(fk ρ).bind λy=>(gx y).bind λk=>(fv ρ).bind λd=>if fc ks k=ac then aa (.nx ρ) else if ks.length<16777216 then aa (.nx (ρ.set i (.ownd (ks++[k]) (xs++[d])))) else ab
 | _=>ab
def JA(h:PS X st (mz (tBM X.K "dict" B8 (eG i) (jB (tD (Gx c X) fk) (jB (tD (Gx c X) fv) j1))))):DS c X st (o0 i fk fv):=PS.imp h λE σ H q_=>by
 obtain⟨Hf0,H0,Hf,ρ,o,L,B,k⟩:=q_;unfold o0 at B;split at B
 .rename_i ks xs es;obtain⟨y,e1,B⟩:=ce.mp B;obtain⟨T,e2,B⟩:=ce.mp B;obtain⟨d,e3,B⟩:=ce.mp B;obtain⟨l,U,h0,hf,vs,q,z,rr⟩:=L.ownAt rfl es;refine⟨_,U,.inr (.inr (.inl ⟨rfl,.inl ⟨_,q⟩⟩)),Hf0,H0,Hf,ρ,y,L,e1,λw al H1 x1 r1=>⟨Hf0,H0,al,ρ,d,L.step x1,e3,λv a9 H2 x2 r2=>?_⟩⟩;have ev:=lI e2 r1;subst ev;have x:=x1.trans x2;have M:=Hl (k:=T) z;refine⟨l,_,T,v,rfl,rfl,x.h _ _ q,λu hu=>?_,λhn=>?_⟩
  .rw[hu]at M;rw[if_pos (show fc ks T=ac from M.symm)]at B;have B:=cj B;subst B;exact k σ a9 _ x.f (L.step x)
  .rw[hn]at M;rw[if_neg (λe=>by rw[<- M]at e;nomatch e)]at B;split at B
   .rename_i hl;have B:=cj B;subst B;refine⟨by rw[io,cG];lia,k σ a9 _ x.f ((L.step x).mutd rfl rfl es U ⟨vs++[v],?_,by rw[aJ,aJ,z];rfl,(rr.up x.f).append (.cons r2 .nil)⟩)⟩;rw[bI,Gg v hn,zip_append z];rfl
   .nomatch B
 .nomatch B
abbrev Cf:D->OD
 |.dic ks _=>aa (.int (ks.length:Nat))
 |.kd ks _=>aa (.int (ks.length:Nat))
 | _=>ab
def JB{G:Gc}(e:Cf d=aa y)(r:Rep G H d v):∃a kvs,v=.ref a/\Rd H a (.dK kvs)/\y=.int (kvs.length:Nat):=by
 cases d with
 |dic ks xs=>
  cases e;obtain⟨a,vs,rfl,q,z,_⟩:=r
  exact⟨a,_,rfl,.inl q,by rw[io,<- z,nL]⟩
 |kd ks xs=>
  cases e;obtain⟨a,od,vs,rfl,q,z,_⟩:=r
  exact⟨a,_,rfl,.inr ⟨od,q⟩,by rw[io,<- z,nL]⟩
 | _=>nomatch e
abbrev kB(f:MF1)(ρ:LS):OD:=(f ρ).bind Cf
def wx{pos:Pos}{f:MF1}(T:Gl X "len")(U:X.mg "len"=ab)(M:DB c X e f)(q:bi [e] X.env=(ag,eval e X.env)::bi [] X.env:=by rfl):DE c X (.Call (.Name "len" p) [e] [] pos) (kB f):=
 PE.imp (qE Jy T U dD (cs M cJ q) (by decide) (by decide) q rfl) λσ H Q q_=>by
  obtain⟨Hf0,H0,Hf,ρ,d,so,z,k⟩:=q_;unfold kB at z;obtain⟨y,B,L⟩:=ce.mp z;refine⟨Hf0,H0,Hf,ρ,y,so,B,λv Hf' H' x r=>?_⟩;obtain⟨a,kvs,rfl,rd,rfl⟩:=JB L r;exact⟨a,kvs,rfl,rd,k _ Hf' H' x rfl⟩
nonrec abbrev ZpO(h:Heap)(z TI TO a:Addr)(f:Bool):Prop:=
 h.get? z=aa {cls:=.type "zip",dict:=ab,data:=.fields #[gX a,.bool f,.bool ag,.ref TI,.ref TO],slots:=#[]}
variable{oa:Obj}
def Cg{z TI TO a:Addr}{f:Bool}{Q:Bool->aE->Prop}(hz:ZpO s.heap z TI TO a f)(M:s.heap.get? a=aa oa)(h:∀h',ZpO h' z TI TO a ac->gY z s.heap h'->Q ag {s with heap:=h'}):wpAny (model P w) A (ql (.ref z)) Q E s:=by
 unfold ql;refine ar (gV hz rfl (x:=gX a) rfl ?_)
 change wpAny (model P w) _ (loadIfAlive ((a:Int).toNat) >>= _) _ _ _
 rw[gT];refine ar (W.kdx_alive M ?_);simp only[Option.isNone_some,jQ,if_false];refine ar (gV hz rfl (x:=.bool f) rfl ?_)
 cases f with
 |true=>
  rw[if_neg (show ¬((f8 ac != f8 ac)=ac)from bS)]
  exact aY (h _ hz (gY.refl _ _))
 |false=>
  rw[if_pos (show(f8 ag != f8 ac)=ac from rfl)];exact ar (wpAny_setField_rec hz (by simp) λL q B=>aY (h L q B))
variable{k1:Nat}{xs ys:Array Value}{Q:Option Value->aE->Prop}
def JC{z TI TO a i1 i2 l1 l2:Addr}{f:Bool}{k2:Nat}{x y:Value}(D:ZipApart z TI TO i1 i2 l1 l2)
 (hz:ZpO s.heap z TI TO a f)(ha:s.heap.get? a=aa oa)(hTI:IsPair s.heap TI (.ref i1) (.ref i2))
 (h1:s.heap.IsListIter i1 l1 k1)(h2:s.heap.IsListIter i2 l2 k2)(hl1:s.heap.IsList l1 xs)(kF:s.heap.IsList l2 ys)(hx:xs[k1]?=aa x)(hy:ys[k2]?=aa y)
 (hQ:∀ h',ZpO h' z TI TO a ac->h'.IsListIter i1 l1 (k1 + 1)->h'.IsListIter i2 l2 (k2 + 1)->IsPair h' s.heap.objs.size x y ->
   (∀c o,c≠z->c≠i1->c≠i2->s.heap.get? c=aa o->h'.get? c=aa o)->Q (aa (.ref s.heap.objs.size)) {s with heap:=h'}):
  wpAny (model P w) A (iz (.ref z)) Q E s:=by
 have hT:s.TypeIs (.ref z) "zip":=⟨_,hz,rfl⟩;unfold iz;refine ar (qf (nM (name:=Str.ofString "__next__") hT qo (mn qo hT F.entry_zip_next ?_ (F.args_zip_next_1 _))));show wpAny _ _ (field (.ref z) 2 >>= _) _ _ _;refine ar (gV hz rfl (x:=.bool ag) rfl ?_);show wpAny _ _ (field (.ref z) 3 >>= _) _ _ _;refine ar (gV hz rfl (x:=.ref TI) rfl ?_);refine ar (mo hTI rfl ?_);show wpAny _ _ (ql (.ref z) >>= _) _ _ _;refine ar (Cg hz ha λd8 hz₁ q=>?_);simp only[jQ,if_false];rw[<- Array.forIn_toList];simp only[forIn_cons,forIn_nil];refine ar (ar (ar (eC ?_)));show wpAny _ _ (uQ (.ref i1) >>= _) _ _ _;refine ar (wpAny_nextOf_list_item (h1.extBut q.extBut D.i1z) (hl1.extBut q.extBut D.l1z) hx λh₂ T B=>aY (aY ?_));refine ar (ar (eC ?_));show wpAny _ _ (uQ (.ref i2) >>= _) _ _ _;refine ar (wpAny_nextOf_list_item ((h2.extBut q.extBut D.i2z).extBut B.extBut D.i12.symm) ((kF.extBut q.extBut D.l2z).extBut B.extBut D.l2i1) hy λM h2₄ L=>aY (aY (aY ?_)));refine ar (wpAny_newTuple (hsz:=by show 2<=aW;rw[cG];decide) ?_);have hsz:M.objs.size=s.heap.objs.size:=by rw[L.1,B.1,q.1]
 have hz₄:ZpO M z TI TO a ac:=L.extBut _ _ D.i2z.symm (B.extBut _ _ D.i1z.symm hz₁);refine aY ⟨_,rfl,aY ?_⟩;show Q (aa (.ref M.objs.size)) _;rw[hsz];have U:=T.extBut L.extBut D.i12;refine hQ (M.push {cls:=.type "tuple",data:=.seq #[x,y]}) (bQ _ hz₄) (U.at λo e=>bQ _ e) (h2₄.at λo e=>bQ _ e) ?_ λc o c1 c3 c4 e=>bQ _ (L.extBut _ _ c4 (B.extBut _ _ c3 (q.extBut _ _ c1 e)));rw[<- hsz];exact dE _ rfl
def JD{z TI TO a L i2 l1 l2:Addr}{f:Bool}(hh:A.handled=ab)(D:ZipApart z TI TO L i2 l1 l2)
 (hz:ZpO s.heap z TI TO a f)(ha:s.heap.get? a=aa oa)(M:IsPair s.heap TI (.ref L) (.ref i2))(h1:s.heap.IsListIter L l1 k1)(U:s.heap.IsList l1 xs)(hx:xs[k1]?=ab)
 (hQ:∀h',(∀c o,c≠z->c≠L->c≠i2->s.heap.get? c=aa o->h'.get? c=aa o)->Q ab {s with heap:=h'}):wpAny (model P w) A (iz (.ref z)) Q E s:=by
 have hT:s.TypeIs (.ref z) "zip":=⟨_,hz,rfl⟩;unfold iz;refine ar (qf (nM (name:=Str.ofString "__next__") hT qo (mn qo hT F.entry_zip_next ?_ (F.args_zip_next_1 _))));show wpAny _ _ (field (.ref z) 2 >>= _) _ _ _;refine ar (gV hz rfl (x:=.bool ag) rfl ?_);show wpAny _ _ (field (.ref z) 3 >>= _) _ _ _;refine ar (gV hz rfl (x:=.ref TI) rfl ?_);refine ar (mo M rfl ?_);show wpAny _ _ (ql (.ref z) >>= _) _ _ _;refine ar (Cg hz ha λd8 hz₁ q=>?_);simp only[jQ,if_false];rw[<- Array.forIn_toList];simp only[forIn_cons,forIn_nil];refine ar (ar (ar (eC ?_)));show wpAny _ _ (uQ (.ref L) >>= _) _ _ _;refine ar (wpAny_nextOf_list_end hh (h1.extBut q.extBut D.i1z) (U.extBut q.extBut D.l1z) hx λh₂ e B he=>?_);obtain⟨o,ho,hc⟩:=he;refine ar (wpAny_isInstance (T:="StopIteration") (b:=ac) ⟨o,ho,hc⟩ isSubtype_stop ?_);exact aY (hQ _ λc o c1 c3 _ x=>B _ _ c3 (q.extBut _ _ c1 x))
abbrev ZSt(h:Heap)(D z TI TO q B:Addr):Prop:=(IsZip h z TI TO .none/\∃a b,IsPair h TO a b)\/∃a oa f,ZpO h z TI TO a f/\h.get? a=aa oa/\a≠D/\a≠z/\a≠q/\a≠B
def JE{D z TI TO q B l1 l2:Addr}{x y:Value}(Z:ZipApart z TI TO q B l1 l2)(hD:D<s.heap.objs.size)
 (hz:ZSt s.heap D z TI TO q B)(L:IsPair s.heap TI (.ref q) (.ref B))(h1:s.heap.IsListIter q l1 k)(h2:s.heap.IsListIter B l2 k)(M:s.heap.IsList l1 xs)(T:s.heap.IsList l2 ys)(hx:xs[k]?=aa x)(hy:ys[k]?=aa y)
 (hQ:∀h' t,ZSt h' D z TI TO q B->h'.IsListIter q l1 (k+1)->h'.IsListIter B l2 (k+1)->IsPair h' t x y->(∀c o,c≠z->c≠TO->c≠q->c≠B->s.heap.get? c=aa o->h'.get? c=aa o)->Q (aa (.ref t)) {s with heap:=h'}):
  wpAny (model P w) A (iz (.ref z)) Q E s:=by
 have lt:∀{c:Addr} {o:Obj},s.heap.get? c=aa o->s.heap.objs.size≠c:=λe=>lb (bD e);have e1:s.heap.objs.size≠q:=by obtain⟨o,e,_⟩:=h1;exact lt e
 have e2:s.heap.objs.size≠B:=by obtain⟨o,e,_⟩:=h2;exact lt e
 rcases hz with⟨hz,a,b,hTO⟩ |⟨a,oa,f,hz,ha,aD,az,a1,a2⟩
 .exact wpAny_pyNext_zip_item Z hz L hTO h1 h2 M T hx hy λh' b1 b2 b3 b4 U _ b7=>hQ h' _ (.inr ⟨_,_,ag,b1,U,lb hD,lt hz,e1,e2⟩) b3 b4 U b7
 .exact JC Z hz ha L h1 h2 M T hx hy λh' b1 b3 b4 U b7=>hQ h' _ (.inr ⟨a,oa,ac,b1,b7 a oa az a1 a2 ha,aD,az,a1,a2⟩) b3 b4 U λc o c1 _ c3 c4 e=>b7 c o c1 c3 c4 e
def JF(hh:A.handled=ab)(D z TI TO U i2 l1 l2:Addr)(Z:ZipApart z TI TO U i2 l1 l2)(Dz:D≠z)(DTI:D≠TI)(DTO:D≠TO)(D1:D≠U)(D2:D≠i2)(Dl1:D≠l1)(Dl2:D≠l2)(xs ys:Array Value)(ps:List (Key×Value))(nd:(ps.map (·.1)).Nodup)(hz:ps.length<=1000)
 (hsz:xs.size=ps.length)(pa:∀(i:Nat) (p:Key×Value),ps[i]?=aa p->∃key,xs[i]?=aa key/\ys[i]?=aa p.2/\(cV P w).is p.1 key=ac):
  ∀(n i:Nat) (s:aE),i+n=ps.length->ZSt s.heap D z TI TO U i2->IsPair s.heap TI (.ref U) (.ref i2)->s.heap.IsList l1 xs->s.heap.IsList l2 ys->s.heap.IsListIter U l1 i->s.heap.IsListIter i2 l2 i->s.heap.DictOf (cV P w) D (ps.take i) ->
   (∀h' tk,h'.DictOf (cV P w) D ps->(∀b o,b≠D->b≠z->b≠TO->b≠U->b≠i2->s.heap.get? b=aa o->h'.get? b=aa o)->R (.ok (.ret .none)) {s with heap:=h',toks:=tk}) ->
   gp (model P w) A (.builtin "dict.update.loop" ⟨[.ref D,.ref z,.int i 0,.none],[]⟩) R s:=by
 intro n
 induction n with
 |zero=>
  intro i s hi zs B L M h1 h2 hd k;refine jU sj ?_;rw[qg kA];unfold cZ.«dict.update.loop»;dsimp only;have hx:xs[i]?=ab:=ux (by lia)
  have fin:∀h',(∀c o,c≠z->c≠TO->c≠U->c≠i2->s.heap.get? c=aa o->h'.get? c=aa o)->R (.ok (.ret .none)) {s with heap:=h'}:=λh' kk=>by
   have e:ps.take i=ps:=kU (by lia);rw[e]at hd;obtain⟨od,es,ep,ho,r⟩:=hd;exact k h' s.toks ⟨od,es,ep,kk D od Dz DTO D1 D2 ho,r⟩ λb o _ b1 b2 b3 b4 eo=>kk b o b1 b2 b3 b4 eo
  rcases zs with⟨hz,a,b,hTO⟩ |⟨a,oa,f,hz,ha,aD,az,a1,a2⟩
  .refine ar (wpAny_pyNext_zip_end (A:=A.in1) hh Z hz B hTO h1 h2 L M (.inl hx) λh' kk=>?_);dsimp only;exact ar (aY (aY (fin h' kk)))
  .refine ar (JD (A:=A.in1) hh Z hz ha B h1 L hx λh' kk=>?_);dsimp only
   exact ar (aY (aY (fin h' λc o c1 _ c3 c4 e=>kk c o c1 c3 c4 e)))
 |succ n ih=>
  intro i s hi zs B L M h1 h2 hd k;refine jU sj ?_;rw[qg kA];unfold cZ.«dict.update.loop»;dsimp only;obtain⟨p,hp⟩:∃p,ps[i]?=aa p:=⟨_,cr (by lia)⟩;obtain⟨key,e1,e2,hk⟩:=pa i p hp;have hDlt:D<s.heap.objs.size:=by obtain⟨od,es,ep,ho,r⟩:=hd;exact bD ho
  refine ar (JE Z hDlt zs B h1 h2 L M e1 e2 λha t zs1 i11 i21 ht kk=>?_);dsimp only
  have hd1:ha.DictOf (cV P w) D (ps.take i):=by
   obtain⟨od,es,ep,ho,r⟩:=hd;exact⟨od,es,ep,kk D od Dz DTO D1 D2 ho,r⟩
  have ht1:ha.IsTuple t #[key,p.2]:=⟨_,ht,rfl,_,rfl⟩;refine ar (eC (ar (wpAny_tryCatch ?_)));unfold zk
  refine ar (jW (s:={s with heap:=ha}) ht1.typeIs ?_)
  rw[if_pos (by decide)];obtain⟨o,eo,oc,nn,od⟩:=id ht1;refine ar (mo eo od ?_);refine aY ?_;show wpAny _ _ (gD [key,p.2] (dictSet D key p.2)) _ _ _;refine eC (wpAny_dictSet_pairs (kvs:=ps.take i) hk hd1 (λh2 d2 q=>?_) (by rw[k7,cG];lia))
  have T:ps=ps.take i++p::ps.drop (i+1):=by
   have h0:i<ps.length:=by lia
   have:ps[i]=p:=by rw[cr h0]at hp;exact cj hp
   rw[<- this,<- pY h0,take_append_drop]
  have hst:iA (ps.take i) p.1 p.2=ps.take (i+1):=by
   unfold iA
   have hno:((ps.take i).any λkv=>decide (kv.1=p.1))=ag:=by
    rw[any_eq_false];intro kv hkv hc;rw[T,bh,cY]at nd;have:=(gn.mp nd).2.2 kv.1 (bT.mpr ⟨kv,hkv,rfl⟩) p.1 bW;exact this (of_decide_eq_true hc)
   rw[if_neg (by rw[hno];exact bS),take_add_one,hp];rfl
  rw[hst]at d2;have ke:∀b o,b≠D->b≠z->b≠TO->b≠U->b≠i2->s.heap.get? b=aa o->h2.get? b=aa o:=λb o hb b1 b2 b3 b4 eo=>(q.2 b hb).trans (kk b o b1 b2 b3 b4 eo);refine aY ⟨mq kA _,?_⟩
  refine ih (i+1) {s with heap:=h2,toks:=s.toks+1} (by lia) ?_ ?_ ?_ ?_ ?_ ?_ d2 λh' tk hd' kp=>k h' tk hd' λb o hb b1 b2 b3 b4 eo=>kp b o hb b1 b2 b3 b4 (ke b o hb b1 b2 b3 b4 eo)
  .rcases zs1 with⟨hz,a,b,hTO⟩ |⟨a,oa,f,hz,ha,aD,az,a1,a2⟩
   .exact .inl ⟨(q.2 z (cF Dz)).trans hz,a,b,(q.2 TO (cF DTO)).trans hTO⟩
   .exact .inr ⟨a,oa,f,(q.2 z (cF Dz)).trans hz,(q.2 a aD).trans ha,aD,az,a1,a2⟩
  .exact ke TI _ (cF DTI) Z.TIz Z.TITO Z.TIi1 Z.TIi2 B
  .obtain⟨o',eo',r'⟩:=L;exact⟨o',ke l1 o' (cF Dl1) Z.l1z Z.l1TO Z.l1i1 Z.l1i2 eo',r'⟩
  .obtain⟨o',eo',r'⟩:=M;exact⟨o',ke l2 o' (cF Dl2) Z.l2z Z.l2TO Z.l2i1 Z.l2i2 eo',r'⟩
  .exact i11.at λo e=>(q.2 U (cF D1)).trans e
  .exact i21.at λo e=>(q.2 i2 (cF D2)).trans e
def JG:jX (.type "zip") "keys"=pure ab:=by rw[lh,lf];kernel_rfl
def JH:jX (.type "zip") "__getattr__"=pure ab:=by rw[lh,lf];kernel_rfl
def JI:entryFor table "zip.__getattribute__"=aa cZ.«object.__getattribute__»:=
 entryFor_alias (id':="object.__getattribute__") (by kernel_rfl) (by decide +kernel) (by decide +kernel) (by kernel_rfl)
def JJ(a TI TO:Addr)(name:Str)(u:Tok)(B:jX (.type "zip") name=pure ab)(q:(["__module__","__name__","__qualname__","__doc__","__annotations__"]:LSt).contains name=ag)(hsz:name.length+100<=aW:=by size_fits):
  Meets (cZ.«object.__getattribute__» ⟨[.ref a,.str name u],[]⟩) (λA R s=>IsZip s.heap a TI TO .none/\raisesAttr (.ref a) name A R s):=
 Meets.of_wp λprog w A R s z=>by
  obtain⟨hp,g,d,M,os⟩:=s;obtain⟨L,z⟩:=z;have T:(⟨hp,g,d,M,os⟩:aE).TypeIs (.ref a) "zip":=⟨_,L,rfl⟩;unfold cZ.«object.__getattribute__»
  repeat (any_goals (first |assumption |wp_step))
  simp only[q,jQ,if_false]
  repeat (any_goals (first |assumption |wp_step))
  exact wpAny_raiseAttrError z.1 z.2 (attrMsg_fits (by decide +kernel) hsz)
def JK{z TI TO:Addr}(hh:A.handled=ab)(T:IsZip s.heap z TI TO .none)
 (h:∀h' tk,(∀b o,s.heap.get? b=aa o->h'.get? b=aa o)->Q ab {s with heap:=h',toks:=tk}):wpAny (model P w) A (getAttr? (.ref z) "keys") Q E s:=by
 obtain⟨hq,gq,U,tq,oq⟩:=s;have M:∀B,(⟨hq,gq,U,B,oq⟩:aE).TypeIs (.ref z) "zip":=λ_=>⟨_,T,rfl⟩;have f1:=sub_AttributeError;have f3:=uU.lookup;have f4:=uU.bind (.ref z);have L:=JH;unfold getAttr?;unfold getAttrBy?;unfold getAttrBy
 repeat (any_goals (first |assumption |exact M _ |((with_reducible show wpAny _ _ (call (Value.builtin "zip.__getattribute__") _ _) _ _ _);refine mr uU (M _) JI (PySem.F.args_zip_getattribute_2 _ _) (JJ z TI TO "keys" _ JG (by decide)) ⟨T,hh,λh' B e q=>?_⟩) |wp_step))
 obtain⟨ta,ua,hea⟩:=q.there
 show wpAny _ _ (qb _ _ _ _ _ _ _) _ _ _;unfold qb;repeat any_goals (first |assumption |wp_step)
 exact h _ _ q.keeps
def JL{z TI TO i1 i2 l1 l2:Addr}{ps:List (Key×Value)}{a b:Value}{Q:PRS}(hh:A.handled=ab)(Z:ZipApart z TI TO i1 i2 l1 l2)
 (hz:IsZip s.heap z TI TO .none)(U:IsPair s.heap TI (.ref i1) (.ref i2))(hTO:IsPair s.heap TO a b)(h1:s.heap.IsListIter i1 l1 0)(h2:s.heap.IsListIter i2 l2 0)(hl1:s.heap.IsList l1 xs)(kF:s.heap.IsList l2 ys)
 (nd:(ps.map (·.1)).Nodup)(hsz:ps.length<=1000)(hxs:xs.size=ps.length)(pa:∀(i:Nat) (p:Key×Value),ps[i]?=aa p->∃key,xs[i]?=aa key/\ys[i]?=aa p.2/\(cV P w).is p.1 key=ac)
 (h:∀h' tk,h'.DictOf (cV P w) s.heap.objs.size ps->(∀b o,b≠z->b≠TO->b≠i1->b≠i2->s.heap.get? b=aa o->h'.get? b=aa o)->Q (.ref s.heap.objs.size) {s with heap:=h',toks:=tk}):
  wpAny (model P w) A (call (.type "dict") [.ref z]) Q E s:=by
 refine callType_codes (Q₁:=λobj L=>obj=.ref s.heap.objs.size/\L={s with heap:=s.heap.push {cls:=.type "dict",data:=.dict #[]}}) PySem.F.kt_called_dict (zp _) PySem.F.entry_dict_init (kt_code_dict_new _ ⟨rfl,rfl⟩) ?_
 rintro obj L ⟨rfl,rfl⟩;have q:(s.heap.push {cls:=.type "dict",data:=.dict #[]}).DictOf (cV P w) s.heap.objs.size []:=uY s.heap;have M:∀b o,s.heap.get? b=aa o->(s.heap.push {cls:=.type "dict",data:=.dict #[]}).get? b=aa o:=λb o e=>bQ _ e;refine⟨q.typeIs,PySem.F.args_dict_init_2 _ _,?_⟩;unfold cZ.«dict.__init__»;refine ar ?_;unfold zj;refine ar (uM q.typeIs ?_);show wpAny _ _ (pure (s.heap.objs.size,[gZ z])) _ _ _;refine aY ?_;show wpAny _ _ (qi "dict.__init__" s.heap.objs.size (.ref z) [] .none) _ _ _
 have hzT:({s with heap:=s.heap.push {cls:=.type "dict",data:=.dict #[]}}:aE).TypeIs (.ref z) "zip":=⟨_,M _ _ hz,rfl⟩
 unfold qi;refine ar (jW hzT ?_);rw[if_pos (by decide)];refine ar (JK hh (M _ _ hz) λT tk2 k2=>?_);simp only[Option.isNone_none,if_true];refine ar (ll ?_);have up:∀b o,s.heap.get? b=aa o->T.get? b=aa o:=λb o e=>k2 b o (M b o e)
 refine ar (wpAny_pyIter_zip (s:={s with heap:=T,toks:=tk2}) (up _ _ hz) ?_)
 have B:∀{b:Addr} {o:Obj},s.heap.get? b=aa o->s.heap.objs.size≠b:=λe=>lb (bD e);refine aY ⟨mq kA _,?_⟩;refine JF (A:=A.in1) hh s.heap.objs.size z TI TO i1 i2 l1 l2 Z (B hz) (B U) (B hTO) ?_ ?_ ?_ ?_ xs ys ps nd hsz hxs pa ps.length 0 _ (p8 _) (.inl ⟨up _ _ hz,a,b,up _ _ hTO⟩) (up _ _ U) ?_ ?_ (h1.at λo e=>up _ _ e) (h2.at λo e=>up _ _ e) ?_ λh' tk hd kp=>?_
 .obtain⟨o,e,_⟩:=h1;exact B e
 .obtain⟨o,e,_⟩:=h2;exact B e
 .obtain⟨o,e,_⟩:=hl1;exact B e
 .obtain⟨o,e,_⟩:=kF;exact B e
 .obtain⟨o,e,r⟩:=hl1;exact⟨o,up _ _ e,r⟩
 .obtain⟨o,e,r⟩:=kF;exact⟨o,up _ _ e,r⟩
 .obtain⟨od,es,ep,ho,r⟩:=q;exact⟨od,es,ep,k2 _ _ ho,r⟩
 .exact⟨rfl,h h' tk hd λb o c1 c2 c3 c4 e=>kp b o (cF (B e)) c1 c2 c3 c4 (up b o e)⟩
def KV.zip:∀{ks:List Key} {us:List V} {ws:LVa},aS us ws->KV (ks.zip us) (ks.zip ws)
 | [],_,_,_=>.nil
 | _::_,_,_,.nil=>.nil
 | _::_,_,_,.cons r t=>.cons ⟨rfl,r⟩ (KV.zip t)
abbrev JM(K:bo)(ta:TA):TE:=λσ H Q=>ta σ H λvs H1=>∃(q z:Addr) (ks:List Key) (us:List V),vs=[.ref q,.ref z]/\SqL K H1 q (ks.map kV)/\SqL K H1 z us/\ks.length=us.length/\ks.Nodup/\ks.length<=1000/\∀p,H1 p=ab->Q (.ref p) (upd H1 p (.dK (ks.zip us)))
variable{p0 pos0:Pos}
def JN{pos:Pos}(hc:X.calm=ac)(hgd:Gl X "dict")(hmd:X.mg "dict"=ab)(hg:Gl X "zip")(hm:X.mg "zip"=ab)(ha:PA X [a,b] ta)(hs:bi [a,b] X.env=[(ag,eval a X.env),(ag,eval b X.env)]:=by rfl)(M:bi [b] X.env=[(ag,eval b X.env)]:=by rfl)
 (T:bi [.Call (.Name "zip" p) [a,b] [] pos] X.env=(ag,eval (.Call (.Name "zip" p) [a,b] [] pos) X.env)::bi [] X.env:=by rfl):
  PE X (.Call (.Name "dict" p0) [.Call (.Name "zip" p) [a,b] [] pos] [] pos0) (JM X.K ta):=by
 intro pins s σ H Q I h;refine lg (iY I hgd hmd wg (jS ?_ T rfl) (by decide) (by decide));rw[T];show wpAny _ _ (spliced ((ag,eval (.Call (.Name "zip" p) [a,b] [] pos) X.env)::fM pos0 (bi [] X.env))) _ _ s;refine lm ?_;refine Call_ (iY I hg hm boot_zip (jS (thn (ha pos pins s σ H _ I h) λus s1 ⟨vs,H1,L,r1,q1⟩=>?_) (by rw[hs,M]) (by rw[M];rfl)));obtain⟨l1,l2,ks,ws,e,q1,q2,hl,nd,hz,q⟩:=q1;subst e;obtain⟨u,v,rfl,ru,rv⟩:=vd r1;subst ru;subst rv;obtain⟨U,r1,p1,z1⟩:=L.list q1;obtain⟨z,r2,p2,z2⟩:=L.list q2;have e1:=r1.length;have e2:=r2.length;rw[av]at e1;refine call_zip_2 p1.isList p2.isList λh' a1 a2 a3 a4 a5 a6 a7=>uS ?_;have hps:(ks.zip z).length=ks.length:=by rw[io];lia
 have lt:∀{c:Addr} {o:Obj},s1.heap.get? c=aa o->c<s1.heap.objs.size:=λe=>bD e;have hl1:h'.IsList l1 U.toArray:=by obtain⟨o,e,r⟩:=p1.isList;exact⟨o,a7 _ _ e,r⟩
 have kF:h'.IsList l2 z.toArray:=by obtain⟨o,e,r⟩:=p2.isList;exact⟨o,a7 _ _ e,r⟩
 refine JL (s:={s1 with heap:=h'}) (ps:=ks.zip z) (L.ok.hd hc) (zipApart_new p1.lt p2.lt) a1 a2 a3 a4 a5 hl1 kF (by rw[mi (by lia)];exact nd) (by lia) (by rw[size_toArray];lia) (λi pr hp=>?_) λh'' tk hd kp=>?_
 .obtain⟨i1,i2⟩:=List.getElem?_zip_eq_some.mp hp;obtain⟨u,eu,rk⟩:=r1.get (x:=kV pr.1) (i:=i) (by rw[d7,i1];rfl);exact⟨u,by rw[pV];exact eu,by rw[pV];exact i2,mE rk⟩
 .have hd':h''.DictOf (cV X.prog X.w) h'.objs.size (ks.zip z):=hd;have B:s1.heap.objs.size<=h'.objs.size:=by lia
  refine⟨.ref _,_,L.laid (t':=tk) (a:=h'.objs.size) (λb o e=>?_) B (o:=.dK (ks.zip ws)) ⟨?_,?_,ks.zip z,KV.zip r2,hd'⟩,rfl,q _ (L.hok.fresh B)⟩
  .have l4:∀n,b≠s1.heap.objs.size+n:=λn=>cp (fE (lt e) (uI _ _));exact kp b o (l4 4) (l4 3) (l4 0) (l4 1) (a7 b o e)
  .rw[io,cG];lia
  .exact beq_eq_false_iff_ne.mpr (cF (cp (fE L.big B)))
abbrev na:LD->Option (List Key)
 | []=>aa []
 |d::ds=>(gx d).bind λk=>(na ds).map λr=>k::r
def Ch{G:Gc}{H:Hp}:∀{ds:LD} {vs:List V} {ks:List Key},na ds=aa ks->ay G H ds vs->vs=ks.map kV
 | [],vs,ks,e,r=>by
  cases e
  exact r
 |d::ds,vs,ks,e,r=>by
  obtain⟨v,vr,rfl,M,L⟩:=r;obtain⟨k,z,e⟩:=ce.mp e;obtain⟨q,B,e⟩:=lc.mp e;subst e;rw[lI z M,Ch B L];rfl
abbrev wy:LD->OD
 | [x,y]=>(lsD x).bind λxs=>(lsD y).bind λys=>(na xs).bind λks=>if ks.Nodup/\ks.length=ys.length/\ks.length<=1000 then aa (.dic ks ys) else ab
 | _=>ab
abbrev sx(f:MF2)(ρ:LS):OD:=(f ρ).bind wy
def JO{pos:Pos}{f:MF2}(hc:X.calm=ac)(M:Gl X "dict")(T:X.mg "dict"=ab)(hg:Gl X "zip")(hm:X.mg "zip"=ab)(ha:DA c X [a,b] f)(hs:bi [a,b] X.env=[(ag,eval a X.env),(ag,eval b X.env)]:=by rfl)(hs2:bi [b] X.env=[(ag,eval b X.env)]:=by rfl)
 (hst:bi [.Call (.Name "zip" p) [a,b] [] pos] X.env=(ag,eval (.Call (.Name "zip" p) [a,b] [] pos) X.env)::bi [] X.env:=by rfl):DE c X (.Call (.Name "dict" p0) [.Call (.Name "zip" p) [a,b] [] pos] [] pos0) (sx f):=
 PE.imp (JN hc M T hg hm ha.pa hs hs2 hst) λσ H Q q_=>by
  obtain⟨Hf0,H0,Hf,ρ,d,st,z,k⟩:=q_;unfold sx at z;obtain⟨ds,e1,z⟩:=ce.mp z;refine⟨Hf0,H0,Hf,ρ,ds,st,e1,λvs Hf' H' x r=>?_⟩;unfold wy at z;split at z
  .rename_i x1 y1;obtain⟨xs,e2,z⟩:=ce.mp z;obtain⟨ys,e3,z⟩:=ce.mp z;obtain⟨ks,e4,z⟩:=ce.mp z;split at z
   .rename_i hq;have z:=cj z;subst z;obtain⟨v1,v2,rfl,r1,r2⟩:=r.two;obtain⟨l1,h6,rfl,q1,rs1⟩:=gv e2 r1;obtain⟨l2,B,rfl,q2,L⟩:=gv e3 r2;have:=Ch e4 rs1;subst this;have hl:=L.length;refine⟨l1,l2,ks,B,rfl,x.s.seq q1,x.s.seq q2,by lia,hq.1,hq.2.2,λq U=>?_⟩;have x2:=Ext.new (o:=.dK (ks.zip B)) x.s U;exact k _ _ _ (x.trans x2) ⟨q,B,rfl,bI,by lia,L.up x2.f⟩
   .nomatch z
  .nomatch z
section
variable{prog:di}{w:World}{K:Type}[DecidableEq K]{knd:KeyKind prog w K}{A:dH}{E:PRS}{s:aE}
nonrec abbrev wz(knd:KeyKind prog w K)(kvs:List (K×Value))(i:Nat)(v:Value):Prop:=∃k x,kvs[i]?=aa (k,x)/\knd.is k v=ac
def JP{R:Result->aE->Prop}(hh:A.handled=ab){d:Addr}{kvs:List (K×Value)}{T:Nat}(hd:(d==fY)=ag)(hm:s.heap.DictAt knd d kvs T)(S:Addr)(res:Value)(c₀:Nat)(hS:s.heap.get? S=aa {cls:=.type "list",data:=.seq #[] c₀})
 (hR:∀ h' tk q c',(∀ b o,b≠S->s.heap.get? b=aa o->h'.get? b=aa o)->h'.get? S=aa { cls:=.type "list",dict:=ab,data:=.seq q c',slots:=#[] } ->
   ItemsOf (wz knd kvs) q kvs.length->R (.ok (.ret res)) {s with heap:=h',toks:=tk})(hn:kvs.length<=aW):
  wpAny (model prog w) A.in1 (qk (.ref S) (.ref d) res)
   (λfin s'=>match fin with |.done f=>R (.ok f) s' |.again c'=>c'.quiet=ac/\gp (model prog w) A c' R s') (λe s'=>R (.error e) s') s:=by
 obtain⟨od,es,ho,hr⟩:=id hm;have hof:s.heap.DictOf knd d kvs:=⟨od,es,T,ho,hr⟩;have hT:s.TypeIs (.ref d) "dict":=hof.typeIs
 have hSd:S≠d:=λz=>by
  subst z;obtain⟨o,e,c⟩:=hT;rw[hS]at e;cases e;exact absurd (show iB "list"=iB "dict" from c) (by decide)
 have U:S≠s.heap.objs.size:=cp (bD hS);have hdI:d≠s.heap.objs.size:=cp (bD ho)
 have hSf:S∉[s.heap.objs.size,d]:=λh=>by
  rcases bX.mp h with e |e
  .exact U e
  .exact hSd (bN.mp e)
 unfold qk;refine ar (jW hT ?_)
 have h1:cZ.List.listSameRef (.ref S) (.ref d)=ag:=by
  show(S==d)=ag;exact beq_eq_false_iff_ne.mpr hSd
 have h2:(iB "dict" == iB "list")=ag:=by decide
 have h3:(iB "dict" == iB "tuple")=ag:=by decide
 simp only[h1,h2,h3,pS,jQ,if_false];refine ar (wpAny_pyIter_dict hd hm ?_)
 have hT':({s with heap:=s.heap.push {cls:=.type "dict_keyiterator",data:=.fields #[.ref d,gX 0,gX kvs.length,gX T]}}:aE).TypeIs (.ref d) "dict":=by
  obtain⟨o,e,c⟩:=hT;exact⟨o,bQ _ e,c⟩
 refine ar (eC ?_);unfold cZ.List.listLengthHint;refine ar (wpAny_specialOf hT' PySem.F.slot_dict_len.lookup ?_)
 wp_delta
 refine ar (wpAny_isInstance hT' (b:=ac) (by rw[nP];kernel_rfl) ?_);show wpAny _ _ (typeOf (gZ d) >>= _) _ _ _;refine ar (jW hT' ?_);refine aY ?_;rw[if_pos (by decide)];refine ar (ll ?_);refine ar ?_;show wpAny _ _ (updateSeq S (·.push .none) >>= λ_=>updateSeq S (·.pop)) _ _ _;have B:=bQ {cls:=.type "dict_keyiterator",data:=.fields #[.ref d,.int 0 0,.int kvs.length 0,.int T 0]} hS;refine ar (wpAny_updateSeq B rfl ?_);have L:=mv (gF (·.push mw)) B rfl;refine wpAny_updateSeq (hz:=by seq_fits) L rfl ?_;have hS₃:=mv (gF (·.pop)) L rfl
 have oth:∀b o,b≠S->s.heap.get? b=aa o->(((s.heap.push {cls:=.type "dict_keyiterator",data:=.fields #[.ref d,.int 0 0,.int kvs.length 0,.int T 0]}).update S (gF (·.push mw))).update S (gF (·.pop))).get? b=aa o:=λb o hb e=>
  (ln _ _ (cF hb)).trans ((ln _ _ (cF hb)).trans (bQ _ e))
 have hit:(((s.heap.push {cls:=.type "dict_keyiterator",data:=.fields #[.ref d,.int 0 0,.int kvs.length 0,.int T 0]}).update S (gF (·.push mw))).update S (gF (·.pop))).IsKeyIter s.heap.objs.size d 0 kvs.length T:=
  ⟨_,(ln _ _ U).trans ((ln _ _ U).trans (dE _ rfl)),rfl,rfl⟩
 have hm3:(((s.heap.push {cls:=.type "dict_keyiterator",data:=.fields #[.ref d,.int 0 0,.int kvs.length 0,.int T 0]}).update S (gF (·.push mw))).update S (gF (·.pop))).DictAt knd d kvs T:=hm.at' λo e=>oth d o (cF hSd) e;refine aY ⟨mq F.plain_extend_loop _,codeAny_extend_loopS (Walks.dictKeys (A:=A.in1) hh s.heap.objs.size d hdI kvs T).toS hn _ hSf _ kvs.length 0 _ _ _ rfl (iw _) ⟨hit,hm3⟩ hS₃ (ItemsOf.nil _) λs' q c' hmv hS' hacc=>?_⟩;rw[Moved.eq_with hmv];refine hR s'.heap s'.toks q c' (λb ob hb e=>hmv.heap b ob (λM=>?_) (oth b ob hb e)) hS' hacc
 rcases bX.mp M with e' |M
 .exact hb e'
 .exact absurd (bD e) (by rw[bN.mp M];exact iV _)
def JQ{R:Result->aE->Prop}(hh:A.handled=ab){d:Addr}{kvs:List (K×Value)}{ep:Nat}(hd:(d==fY)=ag)(hm:s.heap.DictAt knd d kvs ep)(S:Addr)(hSd:d≠S)(hS:s.heap.get? S=aa {cls:=.type "list",data:=.seq #[]})
 (hR:∀ h' tk q B,(∀ b o,b≠S->s.heap.get? b=aa o->h'.get? b=aa o)->h'.get? S=aa { cls:=.type "list",dict:=ab,data:=.seq q B,slots:=#[] } ->
   ItemsOf (wz knd kvs) q kvs.length->R (.ok (.ret .none)) {s with heap:=h',toks:=tk})(hn:kvs.length<=aW):
  wpAny (model prog w) A.in1 (cZ.«list.__init__» ⟨[.ref S,.ref d],[]⟩)
   (λU s'=>match U with |.done f=>R (.ok f) s' |.again B=>B.quiet=ac/\gp (model prog w) A B R s') (λe s'=>R (.error e) s') s:=by
 show wpAny _ _ (do let old <- zm (.ref S);cZ.List.listUpdate (.ref S) (λ_=>#[]);letGo old.toList.reverse;qk (.ref S) (.ref d) .none) _ _ s
 refine ar ?_;unfold zm;refine ar (mo hS rfl (aY ?_));show wpAny _ _ (updateSeq S (λ_=>#[]) >>= λ_=>letGo (#[]:Array Value).toList.reverse >>= λ_=>qk (.ref S) (.ref d) .none) _ _ s;refine ar (wpAny_updateSeq hS rfl ?_);have z:=mv (gF (λ_=>(#[]:Array Value))) hS rfl
 have M:∀b o,b≠S->s.heap.get? b=aa o->(s.heap.update S (gF (λ_=>(#[]:Array Value)))).get? b=aa o:=
  λb o T e=>(ln _ _ (cF T)).trans e
 refine ar (wpAny_letGo ?_);refine JP hh hd (hm.at' λo e=>M d o hSd e) S .none _ z (λh' tk q B hk hS' L=>?_) hn;exact hR h' tk q B (λb o T e=>hk b o T (M b o T e)) hS' L
def JR{Q:PRS}(hh:A.handled=ab){d:Addr}{kvs:List (K×Value)}{ep:Nat}(hd:(d==fY)=ag)(hm:s.heap.DictAt knd d kvs ep)
 (hQ:∀ h' tk q M,(∀ b o,s.heap.get? b=aa o->h'.get? b=aa o) ->
   h'.get? s.heap.objs.size=aa {cls:=.type "list",dict:=ab,data:=.seq q M,slots:=#[]}->ItemsOf (wz knd kvs) q kvs.length->Q (.ref s.heap.objs.size) {s with heap:=h',toks:=tk})(hn:kvs.length<=aW):
  wpAny (model prog w) A (call (.type "list") [.ref d]) Q E s:=by
 have U:d≠s.heap.objs.size:=by obtain⟨o,es,ho,_⟩:=hm;exact cp (bD ho)
 refine callType_codes (Q₁:=λobj z=>obj=.ref s.heap.objs.size/\z={s with heap:=s.heap.push {cls:=.type "list",data:=.seq #[]}}) F.called_list (F.typeCall_list_1 _) F.entry_list_init
  (code_list_new _ ⟨rfl,rfl⟩) λobj z L=>?_
 obtain⟨rfl,rfl⟩:=L;have hS:(s.heap.push {cls:=.type "list",data:=.seq #[]}).get? s.heap.objs.size=aa {cls:=.type "list",data:=.seq #[]}:=dE _ rfl;refine⟨⟨_,hS,rfl⟩,F.args_list_init_2 _ _,JQ (A:=A.in1) hh hd (hm.at' λo e=>bQ _ e) _ U hS (λh' tk q M hk T B=>?_) hn⟩;exact⟨rfl,hQ h' tk q M (λb o e=>hk b o (cp (bD e)) (bQ _ e)) T B⟩
end
def Ci:∀{xs:List V} {its:LVa},xs.length=its.length->(∀(i:Nat) x u,xs[i]?=aa x->its[i]?=aa u->aP x u)->aS xs its
 | [],[],_,_=>.nil
 |x::xs,u::its,hl,h=>.cons (h 0 x u rfl rfl) (Ci (Nat.succ.inj hl) λi y w q z=>h (i+1) y w q z)
 | [],_::_,hl,_=>nomatch hl
 | _::_,[],hl,_=>nomatch hl
def JS(hc:X.calm=ac):fH X (.type "list") (λxs H Q=>∃a od kvs,xs=[.ref a]/\H a=aa (.frz od (.dK kvs))/\∀p,H p=ab->Q (.ref p) (upd H p (.lst (kvs.map λT=>kV T.1)))):=by
 rintro pins s σ H xs ws Q I r ⟨a,od,kvs,rfl,hH,q⟩;obtain⟨_,rfl,r1⟩:=g6 r;cases r1;obtain⟨ho,z,ns,vs,M,od',es,ep,ho',U,hd',kk,pp,nd⟩:=I.hok a _ hH;have hm:s.heap.DictAt _ a vs ep:=⟨od',es,ho',U,hd',kk,pp,nd⟩;have hl:=M.length;refine JR (I.ok.hd hc) ns hm (λh' tk B c' kp hS L=>?_) (by lia);obtain⟨hsz,hit⟩:=L;have hal:B.toList.length=kvs.length:=by rw[nF,hsz,hl]
 refine⟨.ref _,_,I.laid (t':=tk) kp (bf _) (o:=.lst (kvs.map λT=>kV T.1)) ⟨by rw[av];exact z,B.toList,c',Ci (by rw[av,hal]) λi x u e1 e2=>?_,by rw[Array.toArray_toList];exact hS⟩,rfl,q _ I.fresh⟩;rw[d7]at e1;obtain⟨T,ek,rfl⟩:=lc.mp e1;obtain⟨k,y,ev,hk⟩:=hit i u (by rw[<- uz];exact e2);obtain⟨w',ew,e3,_⟩:=KV.get M ek;rw[ev]at ew;cases ew;rw[e3];exact HV hk
abbrev wA(f:MF1)(ρ:LS):OLD:=(f ρ).bind HX
def JT{pos:Pos}{f:MF1}(hc:X.calm=ac)(hg:Gl X "list")(hm:X.mg "list"=ab)(he:DE c X e f)(B:bi [e] X.env=(ag,eval e X.env)::bi [] X.env:=by rfl):DO c X (.Call (.Name "list" p) [e] [] pos) (wA f):=
 PE.imp (qF (JS hc) hg hm boot_list (cs he cJ B) (by decide) (by decide) B rfl) λσ H Q q_=>by
  obtain⟨Hf0,H0,Hf,ρ,ds,so,T,k⟩:=q_;unfold wA at T;obtain⟨d,U,M⟩:=ce.mp T;refine⟨Hf0,H0,Hf,ρ,d,so,U,λv Hf' H' x r=>?_⟩
  cases d with
  |kd ks xs=>
   cases M;obtain⟨a,od,vs,rfl,q,z,_⟩:=r;refine⟨a,od,_,rfl,x.s _ _ q,λl L=>?_⟩;have hf:Hf' l=ab:=x.s.free L;refine k l _ Hf' _ (x.trans (Ext.tmp x.s L)) (aM.free x.h L) hf bI ?_
   have ez:(ks.zip vs).map (λkv=>kV kv.1)=ks.map kV:=by
    have:=map_map (g:=kV) (f:=Prod.fst) (l:=ks.zip vs);rw[mi (by lia)]at this;exact this.symm
   rw[ez]
   have go:∀ks:List Key,ay (Gx c X) Hf' (ks.map kD) (ks.map kV):=λks=>by
    induction ks with
    |nil=>exact rfl
    |cons k ks ih=>exact .cons (HW k) ih
   exact go ks
  | _=>nomatch M
abbrev sy(x y z:D):OD:=(iJ x).bind λp=>(gx y).map λk=>(gy p.1 p.2 k).getD z
abbrev kC(f g h:MF1)(ρ:LS):OD:=(f ρ).bind λx=>(g ρ).bind λy=>(h ρ).bind λz=>sy x y z
variable{o:Expr}{apos cpos:Pos}
def sA(hu:X.A.units+64<cLine){f g h:MF1}(ho:DE c X o f)(hk:DE c X a g)(hx:DE c X b h)(m:M2 X o "get" apos a b cpos):DE c X (.Call (.Attribute o "get" apos) [a,b] [] cpos) (kC f g h):=
 PE.imp (Gv (by lia) ho hk hx m) λσ H Q q_=>by
  obtain⟨Hf0,H0,Hf,ρ,d,st,q,k⟩:=q_;unfold kC at q;obtain⟨x,e1,q⟩:=ce.mp q;obtain⟨y,e2,q⟩:=ce.mp q;obtain⟨z,e3,q⟩:=ce.mp q;unfold sy at q;obtain⟨p,e4,q⟩:=ce.mp q;obtain⟨M,e5,q⟩:=lc.mp q;refine⟨Hf0,H0,Hf,ρ,x,st,e1,λv al H1 L r1=>?_⟩;obtain⟨l,vs,ev,rd,z0,r⟩:=r9 e4 r1;subst ev;refine⟨l,rfl,.inl ⟨_,rd.up L.s⟩,Hf0,H0,al,ρ,y,st.step L,e2,λu a9 H2 x2 r2=>⟨Hf0,H0,a9,ρ,z,(st.step L).step x2,e3,λw T H3 x3 r3=>?_⟩⟩;have eu:=lI e5 r2;subst eu;have B:=x2.trans x3;refine⟨eI (p.1.zip vs) M,.inl ⟨_,M,(rd.up L.s).up B.h,rfl,rfl⟩,k _ T H3 (L.trans B) ?_⟩;obtain⟨h1,h2⟩:=wa (k:=M) z0 (r.up B.f);subst q
  cases hv:gy p.1 p.2 M with
  |none=>rw[h2 hv];exact r3
  |some d=>
   obtain⟨w',hw,U⟩:=h1 d hv;rw[hw];exact U
abbrev JU:D->OLD
 |.tup xs=>aa xs
 | _=>ab
abbrev wB(f:MF1)(l h:LS->Option (Option Int))(ρ:LS):OD:=(f ρ).bind λd=>(JU d).bind λds=>(l ρ).bind λlo=>(h ρ).bind λhi=>if HT.sIx ds.length 0 lo=0/\HT.sIx ds.length ds.length hi=ds.length then ab else aa (.tup (mN ds lo hi))
variable{h:LS->Option (Option Int)}
def JV{pos:Pos}{f:MF1}{l:LS->Option (Option Int)}{lo hi:Option Expr}(ha:DE c X e f)(hl:DPt c X lo l)(hh:DPt c X hi h):DE c X (.Subscript e (.Slice lo hi ab p2) pos) (wB f l h):=
 PE.imp (vg FW ha hl hh) λσ H Q q_=>by
  obtain⟨Hf0,H0,Hf,ρ,rs,st,z,k⟩:=q_;unfold wB at z;obtain⟨d,e1,z⟩:=ce.mp z;obtain⟨ds,e2,z⟩:=ce.mp z;obtain⟨M,e3,z⟩:=ce.mp z;obtain⟨B,e4,z⟩:=ce.mp z;split at z
  .nomatch z
  .rename_i hn;have z:=cj z;subst z;refine⟨Hf0,H0,Hf,ρ,d,st,e1,λv al H1 T r1=>⟨Hf0,H0,al,ρ,M,st.step T,e3,λa9 H2 U=>⟨Hf0,H0,a9,ρ,B,(st.step T).step U,e4,λHf3 H3 x3=>?_⟩⟩⟩
   cases d with
   |tup xs=>
    cases e2;obtain⟨a,vs,ea,q,r⟩:=r1;subst ea;have x:=(T.trans U).trans x3;have y:=U.trans x3;have L:=r.length;refine⟨a,vs,rfl,SqT.of (y.h _ _ (T.s _ _ q)),by rw[<- L];exact hn,λp hp=>?_⟩;have x4:=Ext.new (o:=.tup (lu vs M B)) x3.s hp
    exact k _ _ _ (x.trans x4) ⟨p,_,rfl,bI,(AJ (r.up y.f) _ _).up x4.f⟩
   | _=>nomatch e2
abbrev o3(t:MF4)(f g:MF2)(ρ:LS):OLD:=(t ρ).bind λb=>if b then f ρ else g ρ
def JW{pos:Pos}{t:MF4}{f g:MF2}(hc:DT c X cd t)(T:DO c X a f)(U:DO c X b g):DO c X (.IfExp cd a b pos) (o3 t f g):=PE.imp (zC hc T U) λσ H Q q_=>by
 obtain⟨Hf0,H0,Hf,ρ,d,st,q,k⟩:=q_;unfold o3 at q;obtain⟨x,M,q⟩:=ce.mp q;refine⟨Hf0,H0,Hf,ρ,x,st,M,λal H1 z=>?_⟩
 cases x with
 |true=>rw[if_pos rfl]at q ⊢;exact⟨Hf0,H0,al,ρ,d,st.step z,q,λl vs a9 H2 L B=>k l vs a9 H2 (z.trans L) (z.h.free B)⟩
 |false=>rw[if_neg bS]at q ⊢;exact⟨Hf0,H0,al,ρ,d,st.step z,q,λl vs a9 H2 L B=>k l vs a9 H2 (z.trans L) (z.h.free B)⟩
abbrev nc(i:Nat)(fk:MF1)(q:Xe)(ρ:LS):Option Fl:=(q ρ).bind λp=>(fk p.2).bind λy=>(gx y).bind λk=>match p.2[i]? with
 |some (.ownd ks xs)=>if ks.length<16777216 then aa (.nx (p.2.set i (.ownd (iD ks k) (fQ ks xs k p.1)))) else ab
 | _=>ab
variable{fx:Xe}
def JX(hp:PS X st (vm (eG i) (tD (Gx c X) fk) (tDX (Gx c X) fx))):DS c X st (nc i fk fx):=PS.imp hp λE σ H q_=>by
 obtain⟨Hf0,H0,Hf,ρ,o,so,B,k⟩:=q_;unfold nc at B;obtain⟨p,U,B⟩:=ce.mp B;obtain⟨y,e2,B⟩:=ce.mp B;obtain⟨ky,e3,B⟩:=ce.mp B;split at B
 .rename_i ks xs es;split at B
  .rename_i hl;have B:=cj B;subst B;refine⟨Hf0,H0,Hf,ρ,p.1,p.2,so,U,λv al H1 s1 L r1=>?_⟩;obtain⟨l,T,h0,hf,vs,q,z,r⟩:=L.ownAt rfl es;refine⟨_,T,Hf0,H0,al,p.2,y,L,e2,λu a9 H2 M r2=>?_⟩;have ey:=lI e3 r2;subst ey;refine⟨l,_,rfl,mF.k (M.h _ _ q) (by rw[cG,io];lia),?_⟩;refine k σ a9 _ (s1.trans M.f) ((L.step M).mutd rfl rfl es T ⟨fQ ks vs ky v,?_,Bb z,(r.up M.f).put (r1.up M.f)⟩);rw[bI,Ba z]
  .nomatch B
 .nomatch B
def JY{pos:Pos}(M:X.A.units+64<cLine)(z:PE X e (eG i))(q:DE c X i' fk)(L:DX c X value fx)(B:fF value (aa (.Subscript e i' b0)) pos.line X.env=pure ag:=by rfl):
  DS c X (.Assign [.Subscript e i' b0] value pos) (nc i fk fx):=JX (Am (by lia) z q L B)
variable{xs:LD}
def JZ{z:Key}(h:fx ρ=aa (d,ρ1))(B:fk ρ1=aa y)(L:gx y=aa z)(M:ρ1[i]?=aa (.ownd ks xs))(T:ks.length<16777216)(q:K (.nx (ρ1.set i (.ownd (iD ks z) (fQ ks xs z d))))):wp (nc i fk fx) ρ K:=⟨_,by
 unfold nc;rw[h,aC];dsimp only;rw[B,aC,L,aC,M];exact if_pos T,q⟩
def Cj{it t:Addr}{items:Array Value}(T:t≠it):∀(n i:Nat) (s:aE) (Q:LVa->aE->Prop),s.heap.IsListIter it t i->s.heap.IsList t items->i+n<=items.size ->
  (∀h',h'.IsListIter it t (i+n)->gY it s.heap h'->Q ((items.toList.drop i).take n) {s with heap:=h'})->wpAny (model prog w) A (draw (.ref it) n) Q E s
 | 0,i,s,Q,hit,_,_,hQ=>by
  show wpAny _ _ (pure []) Q E s
  exact aY (by simpa using hQ s.heap hit (gY.refl ..))
 |n+1,i,s,Q,hit,ht,hle,hQ=>by
  have M:i<items.size:=by lia
  show wpAny _ _ (iz (.ref it) >>= _) Q E s;refine ar (uK hit ht (x:=items[i]) (by simp[M]) λd8 z q=>?_);refine ar (eC (Cj T n (i+1) _ _ z (ht.extBut q.extBut T) (by lia) λU B L=>aY ?_));have hd:items.toList.drop i=items[i]::items.toList.drop (i+1):=by simp[pY,M]
  have:=hQ U (by rw[show i+(n+1)=i+1+n by lia];exact B) (q.trans L);rw[hd,take_succ_cons]at this;exact this
def J0{t:Addr}{Q:LVa->aE->Prop}(hh:A.handled=ab)(U:s.heap.IsList t items)
 (hQ:∀h',Heap.ExtBut s.heap.objs.size s.heap h'->Q items.toList {s with heap:=h'}):wpAny (model prog w) A (unpackItems (.ref t) items.size ab) Q E s:=by
 have T:t≠s.heap.objs.size:=by obtain⟨o,ho,_⟩:=U;exact cp (bD ho)
 unfold unpackItems;refine ar ?_;unfold notIterableAtAll;refine ar (wpAny_specialOf U.typeIs PySem.F.slot_list_iter.lookup ?_);refine aY ?_;simp only[jQ,if_false];refine ar (eC (mm U ?_));refine ar (eC (Cj T items.size 0 _ _ ⟨_,dE _ rfl,rfl,rfl⟩ (U.push _) (by lia) λd8 z q=>?_))
 have M:List.take items.size (List.drop 0 items.toList)=items.toList:=by
  rw[drop_zero];exact kU (by simp)
 rw[M];rw[if_neg (by simp)];have L:d8.IsList t items:=(U.push _).extBut q.extBut T;refine ar (eC (uL hh z L (by simp) λh₂ B=>?_));simp only[Option.isSome_none,jQ,if_false];exact aY (hQ h₂ λb o hb e=>B b o hb (q.extBut b o hb (bQ _ e)))
def J1{x1}{pos:Pos}{t:Addr}{Q:Unit->aE->Prop}(z:A.handled=ab)(L:s.heap.IsList t items)
 (B:(eD eH env).length=items.size)(q:(eD eH env).findIdx? (·.1)=ab)
 (h:∀h',Heap.ExtBut s.heap.objs.size s.heap h'->wpAny (model prog w) A (assignInOrder ((eD eH env).map (·.2)) items.toList) Q E {s with heap:=h'}):
  wpAny (model prog w) A (gE (.Tuple eH x1 pos) env (.ref t)) Q E s:=by
 rw[arm_assign_Tuple];refine ar (qe ?_);unfold unpack;rw[B,q];exact ar (eC (J0 z L h))
abbrev J2(K:bo)(n:Nat)(t:TGs):TG:=λv σ H Q=>∃a xs,v=.ref a/\SqL K H a xs/\xs.length=n/\t xs σ H Q
def J3{pos:Pos}{t:TGs}(T:X.calm=ac)(h:PGs X es t)
 (hn:(eD es X.env).length=n:=by rfl)(q:(eD es X.env).findIdx? (·.1)=ab:=by rfl):PG X (.Tuple es k pos) (J2 X.K n t):=by
 intro pins s σ H v u Q I r z;obtain⟨a,xs,M,hq,U,z⟩:=z;subst M;cases r;obtain⟨its,B,ht,hz⟩:=I.list hq;refine J1 (I.ok.hd T) ht.isList (by simp[hn,<- U,B.length]) q λh' hx=>?_
 have L:Inv X pins σ H {s with heap:=h'}:=I.kept (t':=s.toks) λb o e=>hx b o (cp (bD e)) e
 exact h pins _ σ H xs _ Q L (by simpa using B) z
abbrev wC(g:LD->LS->Option LS)(d:D)(ρ:LS):Option LS:=(lsD d).bind λds=>g ds ρ
def J4{pos:Pos}{g:LD->LS->Option LS}(hc:X.calm=ac)(h:DGs c X es k g)(hn:(eD es X.env).length=es.length:=by rfl)(L:(eD es X.env).findIdx? (·.1)=ab:=by rfl):DG c X (.Tuple es kk pos) k (wC g):=by
 refine⟨PG.imp (J3 hc h.pg hn L) λv σ H Q q_=>?_,λd ρ ρ' h'=>?_,λd ρ ρ' i h' hi=>?_⟩
 .obtain⟨Hf0,H0,Hf,ρ,d,ρ',st,r,U,q⟩:=q_;obtain⟨ds,B,z⟩:=ce.mp U;obtain⟨a,vs,T,qa,M⟩:=gv B r;exact⟨a,vs,T,st.sub.seq qa,by rw[<- M.length];exact h.many _ _ _ z,Hf0,H0,Hf,ρ,ds,ρ',st,M,z,q⟩
 .obtain⟨ds,B,z⟩:=ce.mp h';exact h.len _ _ _ z
 .obtain⟨ds,B,z⟩:=ce.mp h';exact h.keep _ _ _ _ z hi
end L2
namespace N_k84
open List
open PySem PySem.Spec PyProof.Rows L2
local macro_rules | `(tactic| walk_at "sc")=>`(tactic| exact ⟨rfl,rfl,rfl,by decide +kernel,rfl,by decide +kernel,by decide +kernel⟩)
abbrev top(i:Nat):Stmt:=PySem.Challenge.pw_standstill_k84_choices_put.main.body.getD i (.Pass ⟨0,0,0,0⟩)
@[reducible]noncomputable def wD:=top 7
@[reducible]noncomputable def wE:=top 8
@[reducible]noncomputable def wF:=top 10
@[reducible]noncomputable def wG:=top 11
@[reducible]noncomputable def wH:=top 12
@[reducible]noncomputable def wI:=top 13
@[reducible]noncomputable def wJ:=top 14
@[reducible]noncomputable def wK:=top 15
@[reducible]noncomputable def wL:=top 16
@[reducible]noncomputable def wM:=top 17
@[reducible]noncomputable def wN:=top 18
@[reducible]noncomputable def wO:=top 19
@[reducible]noncomputable def wP:=top 21
@[reducible]noncomputable def wQ:=top 26
@[reducible]noncomputable def wR:=top 27
@[reducible]noncomputable def wS:=top 28
@[reducible]noncomputable def wT:=top 29
@[reducible]noncomputable def wU:=top 30
@[reducible]noncomputable def wV:=top 31
@[reducible]noncomputable def wW:=top 32
@[reducible]noncomputable def wX:=top 33
@[reducible]noncomputable def wY:=top 34
@[reducible]noncomputable def wZ:=top 35
@[reducible]noncomputable def w4:=top 36
@[reducible]noncomputable def w5:=top 37
@[reducible]noncomputable def w6:=top 38
@[reducible]noncomputable def w9:=top 39
@[reducible]noncomputable def xa:=top 40
@[reducible]noncomputable def s_0:=top 42
@[reducible]noncomputable def xb:=top 43
@[reducible]noncomputable def xc:=top 44
@[reducible]noncomputable def s_3:=top 45
@[reducible]noncomputable def xf:=top 46
@[reducible]noncomputable def s_4:=top 47
@[reducible]noncomputable def s_5:=top 48
@[reducible]noncomputable def s_8:=top 49
@[reducible]noncomputable def xg:=top 50
@[reducible]noncomputable def s_6:=top 51
@[reducible]noncomputable def s_7:=top 52
@[reducible]noncomputable def xh:=top 53
@[reducible]noncomputable def s_2:=top 54
@[reducible]noncomputable def s_9:=top 55
@[reducible]noncomputable def xi:=top 56
@[reducible]noncomputable def xj:=top 57
@[reducible]noncomputable def xk:=top 58
@[reducible]noncomputable def xl:=top 59
@[reducible]noncomputable def xm:=top 60
@[reducible]noncomputable def xo:=top 61
@[reducible]noncomputable def xp:=top 62
@[reducible]noncomputable def xq:=top 63
@[reducible]noncomputable def xr:=top 64
@[reducible]noncomputable def xt:=top 65
@[reducible]noncomputable def s_1:=top 66
def J5:bn ["word","signs","most"] ["word","signs","most"] (bc wD):=by walk_at "sc"
def J6:bn ["word"] ["word"] (bc wE):=by walk_at "sc"
def xu:bn ["rows","kinds","row"] ["rows"] (bc wF):=by walk_at "sc"
def Ck:bn ["row","kinds","name"] ["row","kinds"] (bc wG):=by walk_at "sc"
def J7:bn ["words"] ["words"] (bc wH):=by walk_at "sc"
def xv:bn ["row","kinds","args","over"] ["row","kinds"] (bc wI):=by walk_at "sc"
def sB:bn ["pairs","outer","kinds","variable","kind","told"] ["pairs","outer","kinds"] (bc wJ):=by walk_at "sc"
def xw:bn ["args","pairs","told","arg"] ["args","pairs"] (bc wK):=by walk_at "sc"
def Cm:bn ["row","found"] ["row"] (bc wL):=by walk_at "sc"
def J8:bn ["part"] ["part"] (bc wM):=by walk_at "sc"
def sC:bn ["items","args","thing","worth"] ["items"] (bc wN):=by walk_at "sc"
def kE:bn ["pairs","kinds","names_of","found","variable","kind","longer","way"] ["pairs","kinds"] (bc wO):=by walk_at "sc"
def xy:bn ["thing","name","args"] ["thing"] (bc wP):=by walk_at "sc"
def xz:bn ["rows","rules","places"] ["rows"] (bc wQ):=by walk_at "sc"
def sD:bn ["rows","kinds","rules","row","names"] ["rows","kinds"] (bc wR):=by walk_at "sc"
def J9:bn ["listed","most","what"] ["listed","most","what"] (bc wS):=by walk_at "sc"
def o4:bn ["pairs","kinds","outer","variables","found","way","names"] ["pairs","kinds","outer"] (bc wT):=by walk_at "sc"
def Cn:bn ["body","names","sides"] ["body","names"] (bc wU):=by walk_at "sc"
def Ka:bn ["args","names"] ["args","names"] (bc wV):=by walk_at "sc"
def Kb:bn ["thing","names"] ["thing","names"] (bc wW):=by walk_at "sc"
def xA:bn ["row","names","kinds","body","word"] ["row","names","kinds"] (bc wX):=by walk_at "sc"
def Co:bn ["low","high","items","body","rules"] ["low","high","items","body"] (bc wY):=by walk_at "sc"
def Kc:bn ["part","names","kinds"] ["part","names","kinds"] (bc wZ):=by walk_at "sc"
def sE:bn ["items","over","names","kinds","found","thing","worth"] ["items","over","names","kinds"] (bc w4):=by walk_at "sc"
def sF:bn ["rules","places","rule","text"] ["rules"] (bc w5):=by walk_at "sc"
def xB:bn ["rule","texts","part"] ["rule"] (bc w6):=by walk_at "sc"
def Cp:bn ["rule","places","head"] ["rule","places"] (bc w9):=by walk_at "sc"
def Ke:bn ["part","places"] ["part","places"] (bc xa):=by walk_at "sc"
def Kf:bn ["_law_state","_law_many"] ["_law_state","_law_many"] (bc s_0):=by walk_at "sc"
def o5:bn ["_law_script","_law_many","_law_seeds_here","_law_at","_law_cell","_law_seed"] ["_law_script","_law_many"] (bc xb):=by walk_at "sc"
def sG:bn ["_law_state","_law_many","_law_span","_law_word","_law_k"] ["_law_state","_law_many","_law_span"] (bc xc):=by walk_at "sc"
def o6:bn ["_law_state","_law_kept","_law_span","_law_word"] ["_law_state"] (bc s_3):=by walk_at "sc"
def Cq:bn ["_law_state","_law_great"] ["_law_state"] (bc xf):=by walk_at "sc"
def Cr:bn ["_law_state","_law_number_here"] ["_law_state"] (bc s_4):=by walk_at "sc"
def jO:bn ["_law_state","_law_places","_law_k","_law_name_here","_law_heads","_law_kinds","_law_some"] ["_law_state"] (bc s_5):=by walk_at "sc"
def o7:bn ["_law_state","_law_lay_here","_law_known","_law_name_here","_law_many","_law_args","_law_k"] ["_law_state","_law_lay_here","_law_known"] (bc s_8):=by walk_at "sc"
def sH:bn ["_law_state","_law_kinds","_law_taken","_law_most","_law_pairs_here","_law_k","_law_variable_here"] ["_law_state","_law_kinds","_law_taken","_law_most"] (bc xg):=by walk_at "sc"
def ng:bn ["_law_state","_law_lay_here","_law_known","_law_kinds","_law_many","_law_over","_law_inner","_law_some","_law_k","_law_worth_here"] ["_law_state","_law_lay_here","_law_known","_law_kinds","_law_many"] (bc s_6):=by walk_at "sc"
def lW:bn ["_law_state","_law_lay_here","_law_known","_law_kinds","_law_way","_law_one","_law_sides","_law_other","_law_some","_law_over"] ["_law_state","_law_lay_here","_law_known","_law_kinds"] (bc s_7):=by walk_at "sc"
def Kg:bn ["_law_state","_law_lay_here","_law_known","_law_kinds"] ["_law_state","_law_lay_here","_law_known","_law_kinds"] (bc xh):=by walk_at "sc"
def iP:bn ["_law_state","_law_lay_here","_law_pairs_here","_law_known","_law_body_here","_law_some","_law_over","_law_low","_law_high","_law_total_here"] ["_law_state","_law_lay_here"] (bc s_2):=by walk_at "sc"
def o8:bn ["_law_pairs_here","_law_kinds","_law_total_here","_law_variable_here","_law_kind"] ["_law_pairs_here","_law_kinds"] (bc s_9):=by walk_at "sc"
def nh:bn ["_law_number_here","_law_pairs_here","_law_kinds","_law_chosen","_law_variable_here","_law_kind","_law_at"] ["_law_number_here","_law_pairs_here","_law_kinds"] (bc xi):=by walk_at "sc"
def o9:bn ["_law_thing_here","_law_chosen","_law_name_here","_law_k","_law_arg"] ["_law_thing_here","_law_chosen"] (bc xj):=by walk_at "sc"
def xC:bn ["_law_body_here","_law_chosen","_law_part_here","_law_one"] ["_law_body_here","_law_chosen"] (bc xk):=by walk_at "sc"
def ni:bn ["_law_some","_law_over","_law_kinds","_law_chosen","_law_texts_here","_law_thing_here","_law_worth_here","_law_number_here","_law_inner"] ["_law_some","_law_over","_law_kinds","_law_chosen"] (bc xl):=by walk_at "sc"
def Kh:bn ["_law_texts_here","_law_truths"] ["_law_texts_here","_law_truths"] (bc xm):=by walk_at "sc"
def xD:bn ["_law_body_here","_law_kinds","_law_chosen","_law_truths","_law_part_here","_law_worth_here"] ["_law_body_here","_law_kinds","_law_chosen","_law_truths"] (bc xo):=by walk_at "sc"
def Cs:bn ["_law_part_here","_law_table","_law_truths","_law_worth_here"] ["_law_part_here","_law_table","_law_truths"] (bc xp):=by walk_at "sc"
def kG:bn ["_law_rules","_law_row_here","_law_texts_here","_law_table","_law_parts","_law_k","_law_item","_law_word","_law_head","_law_body_here","_law_some"] ["_law_rules","_law_row_here","_law_texts_here","_law_table"] (bc xq):=by walk_at "sc"
def kH:bn ["_law_rules","_law_row_here","_law_kinds","_law_chosen","_law_table","_law_truths","_law_texts_here","_law_broken","_law_word","_law_head","_law_parts","_law_held"] ["_law_rules","_law_row_here","_law_kinds","_law_chosen","_law_table","_law_truths"] (bc xr):=by walk_at "sc"
def sI:bn ["_law_seed","_law_state","_law_lay_here","_law_rows_here"] ["_law_seed"] (bc xt):=by walk_at "sc"
def fT:bn ["_law_script","_law_seeds_here","_law_rows_here","_law_row_here","_law_table","_law_plain","_law_state","_law_truths","_law_text_here","_law_kinds","_law_kind","_law_at","_law_number_here","_law_chosen","_law_many"] ["_law_script"] (bc s_1):=by walk_at "sc"
set_option genInjectivity false
set_option genSizeOf false
structure Wa where
(e_39 e_52 e_30 e_40 e_41 e_31 e_22 e_42 e_48 e_49 e_23 e_10 e_32 e_33 e_26 e_24 e_15 e_50 e_43 e_20 e_34 e_44 e_45 e_21 e_27 e_35 e_46 e_51 e_0 e_25 e_16 e_3 e_28 e_4 e_5 e_8 e_17 e_6 e_7 e_47 e_2 e_9 e_11 e_18 e_36 e_12 e_29 e_37 e_38 e_13 e_14 e_19 e_1:Addr×fL)
 cl:Str->Addr
structure Wd(K:bo)(mg:MGT)(a:Wa):Prop where
 e_39:Df K mg "is_made_of" wD ["word","signs","most"] a.e_39
 e_52:Df K mg "is_variable" wE ["word"] a.e_52
 e_30:Df K mg "kinds_of" wF ["rows"] a.e_30
 e_40:Df K mg "must_be_new" wG ["row","kinds"] a.e_40
 e_41:Df K mg "must_be_unlike" wH ["words"] a.e_41
 e_31:Df K mg "must_be_known" wI ["row","kinds"] a.e_31
 e_22:Df K mg "must_be_pairs" wJ ["pairs","outer","kinds"] a.e_22
 e_42:Df K mg "must_be_told" wK ["args","pairs"] a.e_42
 e_48:Df K mg "uses" wL ["row"] a.e_48
 e_49:Df K mg "part_uses" wM ["part"] a.e_49
 e_23:Df K mg "args_of" wN ["items"] a.e_23
 e_10:Df K mg "ways" wO ["pairs","kinds"] a.e_10
 e_32:Df K mg "shown_thing" wP ["thing"] a.e_32
 e_33:Df K mg "plain_of" wQ ["rows"] a.e_33
 e_26:Df K mg "rules_of" wR ["rows","kinds"] a.e_26
 e_24:Df K mg "must_be_narrow" wS ["listed","most","what"] a.e_24
 e_15:Df K mg "names_by_ways" wT ["pairs","kinds","outer"] a.e_15
 e_50:Df K mg "has_like" wU ["body","names"] a.e_50
 e_43:Df K mg "name_all" wV ["args","names"] a.e_43
 e_20:Df K mg "text_of" wW ["thing","names"] a.e_20
 e_34:Df K mg "rules_by" wX ["row","names","kinds"] a.e_34
 e_44:Df K mg "choice" wY ["low","high","items","body"] a.e_44
 e_45:Df K mg "put_part" wZ ["part","names","kinds"] a.e_45
 e_21:Df K mg "put_items" w4 ["items","over","names","kinds"] a.e_21
 e_27:Df K mg "places_in" w5 ["rules"] a.e_27
 e_35:Df K mg "texts_in" w6 ["rule"] a.e_35
 e_46:Df K mg "numbered" w9 ["rule","places"] a.e_46
 e_51:Df K mg "numbered_part" xa ["part","places"] a.e_51
 e_0:Df K mg "_law_next" s_0 ["_law_state","_law_many"] a.e_0
 e_25:Df K mg "_law_seeds" xb ["_law_script","_law_many"] a.e_25
 e_16:Df K mg "_law_small" xc ["_law_state","_law_many","_law_span"] a.e_16
 e_3:Df K mg "_law_name" s_3 ["_law_state"] a.e_3
 e_28:Df K mg "_law_variable" xf ["_law_state"] a.e_28
 e_4:Df K mg "_law_number" s_4 ["_law_state"] a.e_4
 e_5:Df K mg "_law_lay" s_5 ["_law_state"] a.e_5
 e_8:Df K mg "_law_thing" s_8 ["_law_state","_law_lay_here","_law_known"] a.e_8
 e_17:Df K mg "_law_pairs" xg ["_law_state","_law_kinds","_law_taken","_law_most"] a.e_17
 e_6:Df K mg "_law_items" s_6 ["_law_state","_law_lay_here","_law_known","_law_kinds","_law_many"] a.e_6
 e_7:Df K mg "_law_part" s_7 ["_law_state","_law_lay_here","_law_known","_law_kinds"] a.e_7
 e_47:Df K mg "_law_body" xh ["_law_state","_law_lay_here","_law_known","_law_kinds"] a.e_47
 e_2:Df K mg "_law_row" s_2 ["_law_state","_law_lay_here"] a.e_2
 e_9:Df K mg "_law_total" s_9 ["_law_pairs_here","_law_kinds"] a.e_9
 e_11:Df K mg "_law_choice" xi ["_law_number_here","_law_pairs_here","_law_kinds"] a.e_11
 e_18:Df K mg "_law_text" xj ["_law_thing_here","_law_chosen"] a.e_18
 e_36:Df K mg "_law_apart" xk ["_law_body_here","_law_chosen"] a.e_36
 e_12:Df K mg "_law_texts" xl ["_law_some","_law_over","_law_kinds","_law_chosen"] a.e_12
 e_29:Df K mg "_law_worth" xm ["_law_texts_here","_law_truths"] a.e_29
 e_37:Df K mg "_law_holds" xo ["_law_body_here","_law_kinds","_law_chosen","_law_truths"] a.e_37
 e_38:Df K mg "_law_part_holds" xp ["_law_part_here","_law_table","_law_truths"] a.e_38
 e_13:Df K mg "_law_block" xq ["_law_rules","_law_row_here","_law_texts_here","_law_table"] a.e_13
 e_14:Df K mg "_law_agrees" xr ["_law_rules","_law_row_here","_law_kinds","_law_chosen","_law_table","_law_truths"] a.e_14
 e_19:Df K mg "_law_rows" xt ["_law_seed"] a.e_19
 e_1:Df K mg "law" s_1 ["_law_script"] a.e_1
 g_SMALL:∃t,mg "SMALL"=aa (.str "abcdefghijklmnopqrstuvwxyz" t)
 g_GREAT:∃t,mg "GREAT"=aa (.str "ABCDEFGHIJKLMNOPQRSTUVWXYZ" t)
 g_MOST_RULES:∃t,mg "MOST_RULES"=aa (.int 400 t)
 g_MOST_THINGS:∃t,mg "MOST_THINGS"=aa (.int 60 t)
 g_MOST_ITEMS:∃t,mg "MOST_ITEMS"=aa (.int 60 t)
 z_ValueError:mg "ValueError"=ab
 z_abs:mg "abs"=ab
 z_all:mg "all"=ab
 z_any:mg "any"=ab
 z_dict:mg "dict"=ab
 z_divmod:mg "divmod"=ab
 z_enumerate:mg "enumerate"=ab
 z_int:mg "int"=ab
 z_len:mg "len"=ab
 z_list:mg "list"=ab
 z_min:mg "min"=ab
 z_range:mg "range"=ab
 z_reversed:mg "reversed"=ab
 z_set:mg "set"=ab
 z_sum:mg "sum"=ab
 z_zip:mg "zip"=ab
set_option genInjectivity true
set_option genSizeOf true
nonrec abbrev qD(P:di)(w:World)(K:bo)(mg:MGT)(base:Heap)(a:Wa)(k:Nat)(x:Str)(e:Addr×fL)(ps:LSt)(m:LD->OD):Prop:=Pk P w K mg base CX0 k x e ps (spD ⟨K,a.cl⟩ ps.length m)
nonrec abbrev qM(P:di)(w:World)(K:bo)(mg:MGT)(base:Heap)(a:Wa)(k:Nat)(x:Str)(e:Addr×fL)(ps:LSt)(b:Nat)(m:Addr->LD->LD->LD->Option (LD×D)):Prop:=Pk P w K mg base CX0 k x e ps (spM ⟨K,a.cl⟩ b ps.length m)
abbrev sJ:MF3:=
 (aq (bK (mB (m2 dNe (aH cu (af (ae 0) nZ)) (m2 cN (aH cu (af (ae 2) nZ)) (kI 2)))) (bR (kBl ag)) bU)
  (aq (bO 4 (aT (mSl (mIx (be (mIx (am 0) (m1 eU (kI 1)))) (kI 2)) (λ_=>aa ab) (mPt (m1 eU (kI 1))))))
  (aq (bK (mB (m2 dNe (aH cu (af (ae 4) nZ)) (aH cu (af (aT (bv 1 [] (be (mIx (am 1) (kI 5))) (aB 0) (mB (m2 dNe (mIx (am 0) (kI 0)) (kSt "unlike"))) (ae 0))) nZ)))) (bR (kBl ag)) bU)
  (aq (cC (jG (af (ae 2) nZ)) (cA (aU (aB 5) (aU (aB 6) cz))) (aq (lO (cA (aU (aB 7) (aU (aB 8) (aU (aB 9) cz)))) (mIx (am 0) (ae 5)))
  (bK (mOr (mB (m2 dNe (ae 7) (kSt "may"))) (mOr (mB (m2 dNe (mIx (am 3) (ae 8)) (mIx (am 6) (kI 0)))) (mB (m2 dNe (ae 9) (ae 4))))) (bR (kBl ag)) bU)))
  (aq (bO 10 (aT (bv 2 [3] (be (ae 2)) (cA (aU (aB 0) (aU (aB 1) cz))) kY (bG (af (m2 mZ (ae 2) (ae 0)) (af (ae 1) nZ))))))
  (aq (bK (mB (m2 dNe (mIx (am 0) (m1 eU (kI 2))) (bG (af (kSt "never") (af kN (af (aT (eX (ae 4) (aT (af (bG (af (kSt "most") (af (m2 iC (mIx (am 1) (kI 1)) (kI 1)) (af (ae 10) nZ)))) nZ)))) nZ)))))) (bR (kBl ag)) bU)
  (bR (m2 dEq (mIx (am 0) (m1 eU (kI 1))) (bG (af (kSt "never") (af kN (af (aT (eX (ae 4) (aT (af (bG (af (kSt "least") (af (m2 cN (mIx (am 1) (kI 2)) (kI 1)) (af (ae 10) nZ)))) nZ)))) nZ))))))))))))
abbrev xE:=bL 11 sJ
abbrev sK:MF3:=
 (aq (bO 2 (mIx (am 0) (kI 0)))
  (aq (cC (jG (af (mIx (am 0) (kI 1)) nZ)) (cA (aU (aB 3) (aU (aB 4) cz))) (lQ 2 (mX (m2 cN (m2 jK (kSt "(,") (iK (m2 dGt (ae 3) (kI 0)))) (kC (ae 1) (ae 4) (ae 4))))))
  (bR (m2 cN (ae 2) (m2 wf (kSt ")") (iK (m2 dGt (aH cu (af (mIx (am 0) (kI 1)) nZ)) (kI 0))))))))
abbrev sL:=bL 5 sK
abbrev sM:MF3:=
 (aq (mQ 3)
  (aq (cC (oP (af (ae 1) nZ)) (cA (aU (aB 4) (aU (aB 5) cz))) (aq (lO (cA (aU (aB 0) (aU (aB 6) cz))) (aH wj (af (ae 0) (af (aH cu (af (m2 eY (ae 2) (ae 5)) nZ)) nZ))))
  (lJ 3 (ae 4) (mIx (be (m2 eY (ae 2) (ae 5))) (ae 6)))))
  (jI 3 (bR (ae 3)))))
abbrev sN:=bL 7 sM
abbrev b_9:MF3:=
 (aq (bO 2 (kI 1))
  (aq (cC (be (ae 0)) (cA (aU (aB 3) (aU (aB 4) cz))) (bO 2 (m2 gO (ae 2) (aH cu (af (m2 eY (ae 1) (ae 4)) nZ)))))
  (eV 2)))
abbrev m_9:=bL 5 b_9
abbrev sO:MF3:=
 (aq (du 4 nZ)
  (aq (cC (be (ae 0)) (cA (aU (aB 5) (aU (aB 6) cz))) (cC (gL (af (aH m_9 (af (ae 1) (af (ae 2) nZ))) nZ)) (aB 7) (aq (m8 8 (ae 3))
  (aq (m9 8 (aH sN (af (ae 7) (af (ae 1) (af (ae 2) nZ)))))
  (gc 4 (bG (af (hX sL (af (ae 5) (af (g9 8) nZ))) (af (ae 6) nZ))))))))
  (eV 4)))
abbrev sP:=bL 9 sO
abbrev xF:MF3:=
 (bR (aH lB (af (aT (bv 2 [1] (be (ae 0)) (cA (aU (aB 0) (aU (aB 1) cz))) (gt (m2 eY (ae 2) (ae 0))) (ae 1))) nZ)))
abbrev pb:=bL 2 xF
abbrev sQ:MF3:=
 (aq (cC (be (ae 0)) (aB 4) (bK (mOr (mB (m2 dEq (mIx (am 4) (kI 0)) (kSt "is"))) (mB (m2 dEq (mIx (am 4) (kI 0)) (kSt "not")))) (bK (mB (m2 dNe (m2 eY (ae 3) (aH sL (af (mIx (am 4) (kI 1)) (af (ae 2) nZ)))) (m2 dEq (mIx (am 4) (kI 0)) (kSt "is")))) (bR (kBl ag)) bU) (bK (mB (m2 dNe (mIx (am 4) (kI 0)) (kSt "unlike"))) (aq (bO 5 (aH pb (af (aH sP (af (mIx (am 4) (kI 2)) (af (mIx (am 4) (kI 3)) (af (ae 1) (af (ae 2) nZ))))) (af (ae 3) nZ))))
  (bK (mOr (hE (mB (m2 dEq (mIx (am 4) (kI 0)) (kSt "least"))) (mB (m2 dLt (ae 5) (mIx (am 4) (kI 1))))) (hE (mB (m2 dEq (mIx (am 4) (kI 0)) (kSt "most"))) (mB (m2 dGt (ae 5) (mIx (am 4) (kI 1)))))) (bR (kBl ag)) bU)) bU)))
  (bR (kBl ac)))
abbrev xG:=bL 6 sQ
abbrev sR:MF3:=
 (aq (bK (mOr (mB (m2 dEq (mIx (am 0) (kI 0)) (kSt "in"))) (mB (m2 dEq (mIx (am 0) (kI 0)) (kSt "out")))) (bR (m2 dEq (m2 eY (ae 2) (mIx (am 1) (mIx (am 0) (kI 1)))) (m2 dEq (mIx (am 0) (kI 0)) (kSt "in")))) bU)
  (aq (bO 3 (aH pb (af (aT (bv 2 [1] (be (mIx (am 0) (kI 2))) (cA (aU (aB 0) (aU (aB 1) cz))) kY (bG (af (mIx (am 2) (ae 0)) (af (ae 1) nZ))))) (af (ae 2) nZ))))
  (aq (bK (mB (m2 dEq (mIx (am 0) (kI 0)) (kSt "least"))) (bR (m2 dGe (ae 3) (mIx (am 0) (kI 1)))) bU)
  (bR (m2 dLe (ae 3) (mIx (am 0) (kI 1)))))))
abbrev sS:=bL 4 sR
abbrev sU:MF3:=
 (aq (bO 6 (aH sP (af (mIx (am 1) (kI 3)) (af (mIx (am 1) (kI 4)) (af (ae 2) (af (ae 3) nZ))))))
  (aq (bK (lw (gt (aH xE (af (ae 0) (af (ae 1) (af (ae 6) (af (ae 4) nZ))))))) (bR (kBl ag)) bU)
  (aq (bO 7 (kBl ag))
  (aq (cC (be (aT (mSl (ae 0) (mPt (m1 eU (kI 2))) (λ_=>aa ab)))) (cA (aU (aB 8) (aU (aB 9) (aU (aB 10) cz)))) (bK (gt (aH mP (af (aT (bv 1 [4,5] (be (ae 10)) (aB 0) kY (aH sS (af (ae 0) (af (ae 1) (af (ae 2) nZ)))))) nZ))) (bO 7 (kBl ac)) bU))
  (aq (bO 11 (aH xG (af (mIx (am 1) (kI 5)) (af (ae 2) (af (ae 3) (af (ae 5) nZ))))))
  (bR (m2 dEq (ae 7) (j8 (ae 11) (ow (lN dLe dLe (mIx (am 1) (kI 1)) (aH pb (af (ae 6) (af (ae 5) nZ))) (mIx (am 1) (kI 2))))))))))))
abbrev xH:=bL 12 sU
abbrev sV:MF3:=
 (aq (cC (be (ae 0)) (aB 2) (bK (mB (m2 dEq (mIx (am 2) (kI 0)) (kSt "unlike"))) (aq (bO 3 (kC (ae 1) (mIx (am 2) (kI 1)) (mIx (am 2) (kI 1))))
  (bK (mB (m2 dEq (ae 3) (kC (ae 1) (mIx (am 2) (kI 2)) (mIx (am 2) (kI 2))))) (bR (kBl ag)) bU)) bU))
  (bR (kBl ac)))
abbrev xI:=bL 4 sV
abbrev b_0:MF3:=
 (aq (mV 0 (kI 0) (m2 i3 (m2 cN (m2 gO (mIx (r6 0) (kI 0)) (kI 1181783497276652981)) (kI 12345678910987)) (m2 iC (m2 lx (kI 2) (kI 61)) (kI 1))))
  (fJ (m2 i3 (m2 mL (mIx (r6 0) (kI 0)) (kI 65537)) (ae 1))))
abbrev m_0:=fR 2 b_0
abbrev sW:MF3:=
 (aq (bO 3 (kSt ""))
  (aq (cC (gL (af (ae 1) nZ)) (aB 4) (lQ 3 (mX2 jK (mX (kSt "abcdefghijklmnopqrstuvwxyz")) (aX 0 m_0 (aF (mX (ae 2)) aO)))))
  (fJ (ae 3))))
abbrev pc:=fR 5 sW
abbrev b_3:MF3:=
 (aq (du 1 (af (kSt "kind") (af (kSt "rule") (af (kSt "may") (af (kSt "choose") (af (kSt "never") (af (kSt "if") (af (kSt "and") (af (kSt "not") nZ)))))))))
  (aq (oZ 1 (mX (aT (af (kSt "unlike") (af (kSt "least") (af (kSt "most") (af (kSt "of") (af (kSt "to") (af (kSt "over") (af (kSt "in") (af (kSt "for") nZ)))))))))))
  (aq (c7 2 (mX2 fu (mX (aT (af (kI 26) (af (kI 2) nZ)))) (aX 0 m_0 (aF (mX (kI 2)) aO))))
  (aq (c7 3 (aX 0 pc (aF (mX2 cN (mX (kI 1)) (aX 0 m_0 (aF (mX (kI 8)) aO))) (aF (mX (ae 2)) aO))))
  (aq (fb 1 (bK (mB (m2 dIn (ae 3) (ae 1))) (fJ (m2 cN (kSt "z") (ae 3))) bU))
  (fJ (ae 3)))))))
abbrev m_3:=fR 4 b_3
abbrev b_5:MF3:=
 (aq (du 1 nZ)
  (aq (ku (jf (aF (mX2 cN (mX (kI 1)) (aX 0 m_0 (aF (mX (kI 3)) aO))) aO)) (aB 2) (aq (c7 3 (aX 0 m_3 aO))
  (bK (mB (m2 i5 (ae 3) (g9 1))) (gc 1 (ae 3)) bU)))
  (aq (c7 4 (jg 1 [0] 0 0 (mU (mX (aT (af (kI 3) (af (kI 2) (af (kI 2) (af (kI 1) nZ))))))) (aB 0) (je (aF (aX 1 m_3 aO) (aF (kw oQ (aF (mX (ae 0)) (aF (aX 1 m_0 (aF (mX (kI 4)) aO)) aO))) aO)))))
  (aq (du 5 nZ)
  (aq (ku (jf (aF (aX 0 m_0 (aF (mX (kI 4)) aO)) aO)) (aB 2) (aq (c7 3 (aX 0 m_3 aO))
  (aq (fb 1 (c7 6 (lT 1 [0] 0 0 (mU (mX (ae 1))) (aB 0) (mBX (mX2 dGt (aX 1 m_0 (aF (mX (kI 4)) aO)) (mX (kI 0)))) (mX (ae 0)))))
  (bK (hE (mB (m2 dGt (aH cu (af (ae 6) nZ)) (kI 0))) (mB (m2 i5 (ae 3) (aT (bv 1 [] (am 5) (aB 0) kY (mIx (am 0) (kI 0))))))) (iL 5 (je (aF (mX (ae 3)) (aF (sw (mX (ae 6)) (mX2 iC (mX (kI 1)) (mX2 gO (mX (kI 2)) (aX 0 m_0 (aF (mX (kI 2)) aO))))) aO)))) bU))))
  (fb 5 (fb 1 (fJ (bG (af (ae 4) (af (ae 1) (af (ae 5) nZ))))))))))))
abbrev m_5:=fR 7 b_5
abbrev b_4:MF3:=
 (aq (c7 1 (mX2 iC (aX 0 m_0 (aF (mX (kI 9)) aO)) (mX (kI 2))))
  (aq (kz (mBX (mX2 dEq (aX 0 m_0 (aF (mX (kI 4)) aO)) (mX (kI 0)))) (jJ (mX2 cN (mX (m2 gO (ae 1) (m2 lx (kI 10) (kI 20)))) (aX 0 m_0 (aF (mX (m2 lx (kI 10) (kI 10))) aO)))) bU)
  (fJ (ae 1))))
abbrev m_4:=fR 2 b_4
abbrev pd:MF3:=
 (aq (c7 1 (mX2 jK (mX (kSt "ABCDEFGHIJKLMNOPQRSTUVWXYZ")) (aX 0 m_0 (aF (mX2 fu (mX (aT (af (kI 26) (af (kI 2) nZ)))) (aX 0 m_0 (aF (mX (kI 2)) aO))) aO))))
  (jJ (mX2 cN (mX (ae 1)) (aX 0 pc (aF (aX 0 m_0 (aF (mX (kI 8)) aO)) (aF (mX2 fu (mX (aT (af (kI 26) (af (kI 2) nZ)))) (aX 0 m_0 (aF (mX (kI 2)) aO))) aO))))))
abbrev sX:=fR 2 pd
abbrev pf:MF3:=
 (aq (du 4 nZ)
  (aq (ku (jf (aF (mX2 gO (kw oQ (aF (mX (ae 3)) (aF (mX2 cN (mX2 mL (aX 0 m_0 (aF (mX (kI 6)) aO)) (mX (kI 2))) (aX 0 m_0 (aF (mX (kI 2)) aO))) aO))) (mX (iK (m2 dGt (aH cu (af (ae 1) nZ)) (kI 0))))) aO)) (aB 5) (aq (c7 6 (aX 0 sX aO))
  (bK (mB (m2 i5 (ae 6) (aT (eX (ae 2) (aT (bv 1 [] (am 4) (aB 0) kY (mIx (am 0) (kI 0)))))))) (iL 4 (je (aF (mX (ae 6)) (aF (mX2 fu (mX2 fu (mX (ae 1)) (aX 0 m_0 (aF (mX (aH cu (af (ae 1) nZ))) aO))) (mX (kI 0))) aO)))) bU)))
  (fb 4 (fJ (ae 4)))))
abbrev sY:=fR 7 pf
abbrev b_8:MF3:=
 (aq (lU (cA (aU (aB 3) (aU (aB 4) cz))) (mX2 fu (mX (mIx (am 1) (kI 0))) (aX 0 m_0 (aF (mX (kI 4)) aO))))
  (aq (du 5 nZ)
  (aq (cC (gL (af (ae 4) nZ)) (aB 6) (kz (lR (mTX (mB (m2 dGt (aH cu (af (ae 2) nZ)) (kI 0)))) (mBX (mX2 dGt (aX 0 m_0 (aF (mX (kI 4)) aO)) (mX (kI 0))))) (iL 5 (mX2 fu (mX (ae 2)) (aX 0 m_0 (aF (mX (aH cu (af (ae 2) nZ))) aO)))) (iL 5 (mX2 fu (mX (mIx (am 1) (kI 1))) (aX 0 m_0 (aF (mX (aH cu (af (mIx (am 1) (kI 1)) nZ))) aO))))))
  (fb 5 (fJ (bG (af (ae 3) (af (ae 5) nZ))))))))
abbrev m_8:=fR 7 b_8
abbrev b_6:MF3:=
 (aq (c7 5 (aX 0 sY (aF (mX (ae 3)) (aF (mX (ae 2)) (aF (mX (kI 2)) aO)))))
  (aq (bO 6 (aT (eX (ae 2) (aT (bv 1 [] (be (ae 5)) (aB 0) kY (mIx (am 0) (kI 0)))))))
  (aq (du 7 nZ)
  (aq (ku (jf (aF (mX2 cN (mX (kI 1)) (aX 0 m_0 (aF (mX (ae 4)) aO))) aO)) (aB 8) (aq (c7 9 (mX2 fu (oR (aF (mX (kI 1)) (aF (kw sn (aF (aX 0 m_4 aO) aO)) aO))) (aX 0 m_0 (aF (mX (kI 2)) aO))))
  (iL 7 (je (aF (aX 0 m_8 (aF (mX (ae 1)) (aF (mX (ae 6)) aO))) (aF (mX (ae 9)) aO))))))
  (fb 7 (fJ (bG (af (ae 7) (af (ae 5) nZ)))))))))
abbrev m_6:=fR 10 b_6
abbrev b_7:MF3:=
 (aq (c7 4 (aX 0 m_0 (aF (mX (kI 6)) aO)))
  (aq (bK (hE (mB (m2 dEq (ae 4) (kI 0))) (mB (m2 dGt (aH cu (af (ae 2) nZ)) (kI 0)))) (aq (c7 5 (mX2 fu (mX (ae 2)) (aX 0 m_0 (aF (mX (aH cu (af (ae 2) nZ))) aO))))
  (aq (bO 6 (m2 cN (ae 2) (mIx (am 1) (kI 1))))
  (aq (c7 7 (mX2 fu (mX (ae 6)) (aX 0 m_0 (aF (mX (aH cu (af (ae 6) nZ))) aO))))
  (aq (kz (mBX (mX2 dEq (aX 0 m_0 (aF (mX (kI 2)) aO)) (mX (kI 0)))) (fJ (bG (af (kSt "unlike") (af (ae 7) (af (ae 5) nZ))))) bU)
  (fJ (bG (af (kSt "unlike") (af (ae 5) (af (ae 7) nZ))))))))) bU)
  (aq (bK (mB (m2 dLt (ae 4) (kI 3))) (aq (lU (cA (aU (aB 8) (aU (aB 9) cz))) (aX 0 m_6 (aF (mX (ae 1)) (aF (mX (ae 2)) (aF (mX (ae 3)) (aF (mX (kI 2)) aO))))))
  (jJ (je (aF (mX (mIx (af (kSt "least") (af (kSt "most") nZ)) (m2 i3 (ae 4) (kI 2)))) (aF (aX 0 m_4 aO) (aF (mX (ae 8)) (aF (mX (ae 9)) aO))))))) bU)
  (jJ (je (aF (mX (mIx (af (kSt "is") (af (kSt "not") (af (kSt "is") nZ))) (m2 iC (ae 4) (kI 3)))) (aF (aX 0 m_8 (aF (mX (ae 1)) (aF (mX (ae 2)) aO))) aO)))))))
abbrev m_7:=fR 10 b_7
abbrev ph:MF3:=
 (jJ (jg 1 [0,1,2,3] 0 0 (jf (aF (aX 0 m_0 (aF (mX (kI 4)) aO)) aO)) (aB 0) (aX 1 m_7 (aF (mX (ae 2)) (aF (mX (ae 3)) (aF (mX (ae 4)) aO))))))
abbrev xJ:=fR 4 ph
abbrev b_2:MF3:=
 (aq (c7 2 (aX 0 sY (aF (mX (mIx (am 1) (kI 2))) (aF (mX (aT nZ)) (aF (mX (kI 2)) aO)))))
  (aq (bO 3 (aT (bv 1 [] (be (ae 2)) (aB 0) kY (mIx (am 0) (kI 0)))))
  (aq (c7 4 (aX 0 xJ (aF (mX (ae 1)) (aF (mX (ae 3)) (aF (mX (mIx (am 1) (kI 2))) aO)))))
  (aq (lU (cA (aU (aB 5) (aU (aB 6) cz))) (aX 0 m_6 (aF (mX (ae 1)) (aF (mX (ae 3)) (aF (mX (mIx (am 1) (kI 2))) (aF (mX (kI 3)) aO))))))
  (aq (c7 7 (aX 0 m_4 aO))
  (aq (c7 8 (aX 0 m_4 aO))
  (aq (kz (mBX (mX2 dEq (aX 0 m_0 (aF (mX (kI 2)) aO)) (mX (kI 0)))) (aq (bO 9 (aH lB (af (aT (bv 1 [] (be (ae 5)) (aB 0) kY (mIx (am 0) (kI 1)))) nZ)))
  (aq (c7 7 (mX2 iC (mX2 mL (mX2 gO (aX 0 m_0 (aF (mX (kI 4)) aO)) (mX (ae 9))) (mX (kI 3))) (aX 0 m_0 (aF (mX (kI 2)) aO))))
  (c7 8 (mX2 iC (mX2 cN (mX (ae 7)) (aX 0 m_0 (aF (mX (kI 4)) aO))) (mX (kI 1)))))) bU)
  (fJ (bG (af (kSt "choose") (af (ae 7) (af (ae 8) (af (ae 5) (af (ae 6) (af (ae 4) (af (ae 2) nZ))))))))))))))))
abbrev m_2:=fR 10 b_2
abbrev sZ:MF3:=
 (aq (du 1 (af (ae 0) nZ))
  (aq (c7 2 (lP 1 m_5 aO))
  (aq (du 3 (bv 2 [] (be (mIx (am 2) (kI 2))) (cA (aU (aB 0) (aU (aB 1) cz))) kY (bG (af (kSt "kind") (af (ae 0) (af (aT (am 1)) nZ))))))
  (aq (iL 3 (lP 1 m_2 (aF (mX (ae 2)) aO)))
  (eV 3)))))
abbrev pi:=bL 4 sZ
abbrev s9:MF3:=
 (aq (du 2 (bv 1 [] (gL (af (ae 1) nZ)) (aB 0) kY (m2 cN (m2 gO (ae 0) (kI 7368787)) (kI 1000003))))
  (aq (cC (jG (af (ae 0) nZ)) (cA (aU (aB 3) (aU (aB 4) cz))) (aq (bO 5 (m2 cN (m2 gO (mIx (am 2) (m2 i3 (ae 3) (ae 1))) (kI 1000003)) (m2 i3 (ae 4) (m2 lx (kI 10) (kI 30)))))
  (lK 2 (m2 i3 (ae 3) (ae 1)) (m2 i3 (m2 cN (ae 5) (ae 3)) (m2 iC (m2 lx (kI 2) (kI 61)) (kI 1))))))
  (eV 2)))
abbrev xK:=bL 6 s9
abbrev xL:MF3:=
 (bK (mB (m2 dLt (lS (ae 0)) (aH cu (af (ae 0) nZ)))) (λ_=>ab) bU)
abbrev tf:=bL 1 xL
abbrev xM:MF3:=
 (aq (fI (aH tf (af (aT (bv 2 [] (be (m2 cN (ae 1) (ae 0))) (cA (aU (aB 0) (aU (aB 1) cz))) kY (ae 0))) nZ)))
  (aq (bO 5 (aT (bv 2 [] (be (ae 2)) (cA (aU (aB 0) (aU (aB 1) cz))) kY (ae 0))))
  (cC (be (ae 0)) (cA (aU (aB 3) (aU (aB 4) cz))) (bK (mB (m2 i5 (ae 4) (ae 5))) (λ_=>ab) bU))))
abbrev tm:=bL 6 xM
abbrev xN:MF3:=
 (bR (j8 (lN dLe dLe (kI 1) (aH cu (af (ae 0) nZ)) (ae 2)) (aH mP (af (aT (bv 1 [1] (m3 (ae 0)) (aB 0) kY (m2 m4 (ae 0) (ae 1)))) nZ))))
abbrev tu:=bL 3 xN
abbrev xO:MF3:=
 (bR (j8 (aH tu (af (m5 (ae 0) (λ_=>aa ab) (mPt (kI 1))) (af (kSt "ABCDEFGHIJKLMNOPQRSTUVWXYZ") (af (kI 1) nZ)))) (vOr (m2 dEq (aH cu (af (ae 0) nZ)) (kI 1)) (aH tu (af (m5 (ae 0) (mPt (kI 1)) (λ_=>aa ab)) (af (kSt "abcdefghijklmnopqrstuvwxyz") (af (kI 7) nZ)))))))
abbrev xP:=bL 1 xO
abbrev xQ:MF3:=
 (aq (bO 2 (aT (bv 2 [] (be (ae 1)) (cA (aU (aB 0) (aU (aB 1) cz))) kY (ae 0))))
  (cC (be (ae 0)) (aB 3) (bK (hE (gt (aH xP (af (ae 3) nZ))) (mB (m2 i5 (ae 3) (ae 2)))) (λ_=>ab) bU)))
abbrev xR:=bL 4 xQ
abbrev xS:MF3:=
 (aq (du 1 nZ)
  (aq (cC (be (ae 0)) (cA (aU (aB 2) (aU (aB 3) cz))) (i8 1 (i7 (mIx (am 2) (kI 1)))))
  (eV 1)))
abbrev tw:=bL 4 xS
abbrev xT:MF3:=
 (aq (bK (mB (m2 dEq (mIx (am 0) (kI 0)) (kSt "unlike"))) (bR (bG (af (aT (af (mIx (am 0) (kI 1)) (af (mIx (am 0) (kI 2)) nZ))) (af (aT nZ) nZ)))) bU)
  (aq (bK (mB (m2 dIn (mIx (am 0) (kI 0)) (bG (af (kSt "least") (af (kSt "most") nZ))))) (bR (bG (af (aH tw (af (mIx (am 0) (kI 2)) nZ)) (af (mIx (am 0) (kI 3)) nZ)))) bU)
  (bR (bG (af (mIx (be (mIx (am 0) (kI 1))) (kI 1)) (af (aT nZ) nZ))))))
abbrev tz:=bL 1 xT
abbrev xU:MF3:=
 (aq (du 1 (bv 1 [] (be (mIx (am 0) (m1 eU (kI 2)))) (aB 0) kY (aH tz (af (ae 0) nZ))))
  (aq (bK (mB (m2 dEq (mIx (am 0) (kI 0)) (kSt "choose"))) (gc 1 (bG (af (aH tw (af (mIx (am 0) (kI 3)) nZ)) (af (mIx (am 0) (kI 4)) nZ)))) (bK (mB (m2 dNe (mIx (am 0) (kI 0)) (kSt "never"))) (gc 1 (bG (af (mIx (be (mIx (am 0) (kI 1))) (kI 1)) (af (aT nZ) nZ)))) bU))
  (eV 1)))
abbrev xV:=bL 2 xU
abbrev xW:MF3:=
 (aq (fI (aH tm (af (mIx (am 0) (m1 eU (kI 1))) (af (aT nZ) (af (ae 1) nZ)))))
  (cC (be (aH xV (af (ae 0) nZ))) (cA (aU (aB 2) (aU (aB 3) cz))) (aq (fI (aH tm (af (ae 3) (af (mIx (am 0) (m1 eU (kI 1))) (af (ae 1) nZ)))))
  (fI (aH xR (af (ae 2) (af (m2 cN (mIx (am 0) (m1 eU (kI 1))) (ae 3)) nZ)))))))
abbrev tB:=bL 4 xW
abbrev xX:MF3:=
 (aq (bO 2 (mIx (am 0) (kI 1)))
  (aq (bK (mB (m2 dIn (ae 2) (aT (bv 2 [] (be (ae 1)) (cA (aU (aB 0) (aU (aB 1) cz))) kY (ae 0))))) (λ_=>ab) bU)
  (fI (aH tf (af (mIx (am 0) (kI 2)) nZ)))))
abbrev tE:=bL 3 xX
abbrev tF:MF3:=
 (aq (du 1 nZ)
  (aq (cC (be (ae 0)) (aB 2) (bK (mB (m2 dEq (mIx (am 2) (kI 0)) (kSt "kind"))) (aq (fI (hX tE (af (ae 2) (af (g9 1) nZ))))
  (gc 1 (bG (af (mIx (am 2) (kI 1)) (af (aT (be (mIx (am 2) (kI 2)))) nZ))))) (fI (hX tB (af (ae 2) (af (g9 1) nZ))))))
  (eV 1)))
abbrev xY:=bL 3 tF
abbrev tG:MF3:=
 (aq (bK (mB (m2 dIn (mIx (am 0) (kI 0)) (bG (af (kSt "in") (af (kSt "out") nZ))))) (bR (bG (af (mIx (am 0) (kI 0)) (af (m2 eY (ae 1) (mIx (am 0) (kI 1))) nZ)))) bU)
  (bR (bG (af (mIx (am 0) (kI 0)) (af (mIx (am 0) (kI 1)) (af (aT (bv 2 [1] (be (mIx (am 0) (kI 2))) (cA (aU (aB 0) (aU (aB 1) cz))) kY (bG (af (m2 eY (ae 2) (ae 0)) (af (ae 1) nZ))))) nZ))))))
abbrev xZ:=bL 2 tG
abbrev tH:MF3:=
 (aq (bO 2 (vIf (mB (m2 dIs (mIx (am 0) (kI 1)) kN)) kN (m2 eY (ae 1) (mIx (am 0) (kI 1)))))
  (bR (bG (af (mIx (am 0) (kI 0)) (af (ae 2) (af (aT (bv 1 [1] (be (mIx (am 0) (kI 2))) (aB 0) kY (aH xZ (af (ae 0) (af (ae 1) nZ))))) nZ))))))
abbrev x0:=bL 3 tH
abbrev x6:MF3:=
 (bK (mB (m2 dGt (mK (aH cu (af (ae 0) nZ)) (kB (ae 0))) (ae 1))) (λ_=>ab) bU)
abbrev nj:=bL 3 x6
abbrev tI:MF3:=
 (aq (du 1 (o3 (mB (m2 dIs (mIx (am 0) (kI 1)) kN)) nZ (af (mIx (am 0) (kI 1)) nZ)))
  (aq (cC (be (mIx (am 0) (kI 2))) (aB 2) (bK (mB (m2 dIn (mIx (am 2) (kI 0)) (bG (af (kSt "in") (af (kSt "out") nZ))))) (gc 1 (mIx (am 2) (kI 1))) (i8 1 (i7 (aT (bv 2 [] (be (mIx (am 2) (kI 2))) (cA (aU (aB 0) (aU (aB 1) cz))) kY (ae 0)))))))
  (eV 1)))
abbrev x8:=bL 3 tI
abbrev tJ:MF3:=
 (aq (mQ 1)
  (aq (cC (be (ae 0)) (aB 2) (cC (be (aH x8 (af (ae 2) nZ))) (aB 3) (o0 1 (ae 3) (kB (g9 1)))))
  (aq (jI 1 (fI (aH nj (af (ae 1) (af (kI 60) (af (kSt "things") nZ))))))
  (jI 1 (bR (ae 1))))))
abbrev x9:=bL 4 tJ
abbrev ya:MF3:=
 (lE (bv 1 [1] (be (ae 0)) (aB 0) kY (kC (ae 1) (ae 0) (ae 0))))
abbrev tL:=bL 2 ya
abbrev yb:MF3:=
 (aq (bO 2 (aT (bv 1 [1] (be (ae 0)) (aB 0) (mB (m2 dEq (mIx (am 0) (kI 0)) (kSt "unlike"))) (aH tL (af (wB (ae 0) (mPt (kI 1)) (λ_=>aa ab)) (af (ae 1) nZ))))))
  (bR (aH rM (af (aT (bv 2 [] (be (ae 2)) (wC (aU (aB 0) (aU (aB 1) cz))) kY (m2 dEq (ae 0) (ae 1)))) nZ))))
abbrev yc:=bL 3 yb
abbrev tM:MF3:=
 (aq (sk 2 (ae 1))
  (aq (jI 2 (bO 3 (aT (af (aT nZ) nZ))))
  (aq (cC (be (ae 0)) (cA (aU (aB 4) (aU (aB 5) cz))) (aq (du 6 nZ)
  (aq (cC (be (ae 3)) (aB 7) (i8 6 (i7 (aT (bv 1 [7] (be (m2 eY (ae 2) (ae 5))) (aB 0) kY (aT (eX (ae 1) (aT (af (ae 0) nZ)))))))))
  (fb 6 (bO 3 (ae 6))))))
  (eV 3))))
abbrev yd:=bL 8 tM
abbrev tN:MF3:=
 (aq (bO 3 (aT (bv 2 [] (be (ae 0)) (cA (aU (aB 0) (aU (aB 1) cz))) kY (ae 0))))
  (aq (du 4 nZ)
  (aq (cC (be (aH yd (af (ae 0) (af (ae 1) nZ)))) (aB 5) (aq (m8 6 (ae 2))
  (aq (m9 6 (sx (af (ae 3) (af (ae 5) nZ))))
  (fb 6 (gc 4 (ae 6))))))
  (eV 4))))
abbrev tO:=bL 7 tN
abbrev tP:MF3:=
 (aq (du 4 (bv 2 [3] (be (ae 2)) (cA (aU (aB 0) (aU (aB 1) cz))) kY (bG (af (kSt "may") (af (ae 0) (af (ae 2) nZ))))))
  (aq (gc 4 (bG (af (kSt "never") (af kN (af (aT (eX (ae 3) (aT (af (bG (af (kSt "most") (af (m2 iC (ae 0) (kI 1)) (af (ae 2) nZ)))) nZ)))) nZ)))))
  (aq (gc 4 (bG (af (kSt "never") (af kN (af (aT (eX (ae 3) (aT (af (bG (af (kSt "least") (af (m2 cN (ae 1) (kI 1)) (af (ae 2) nZ)))) nZ)))) nZ)))))
  (eV 4))))
abbrev ye:=bL 5 tP
abbrev tQ:MF3:=
 (aq (bO 1 (mIx (am 0) (kI 0)))
  (aq (bO 2 (m2 sr (kSt ",") (mIx (am 0) (kI 1))))
  (bR (vIf (gt (ae 2)) (mFs (mFv (ae 1) (mFc "(" (mFv (ae 2) (mFc ")" nZ))))) (ae 1)))))
abbrev yf:=bL 3 tQ
abbrev yg:MF3:=
 (bR (aH yf (af (bG (af (mIx (am 0) (kI 0)) (af (aH tL (af (mIx (am 0) (kI 1)) (af (ae 1) nZ))) nZ))) nZ)))
abbrev nk:=bL 2 yg
abbrev tR:MF3:=
 (aq (du 4 nZ)
  (aq (cC (be (ae 0)) (cA (aU (aB 5) (aU (aB 6) cz))) (i8 4 (i7 (aT (bv 1 [6,5] (be (aH tO (af (ae 1) (af (ae 3) (af (ae 2) nZ))))) (aB 0) kY (bG (af (aH nk (af (ae 2) (af (ae 0) nZ))) (af (ae 1) nZ))))))))
  (aq (fb 4 (fI (aH nj (af (ae 4) (af (kI 60) (af (kSt "items") nZ))))))
  (eV 4))))
abbrev tS:=bL 7 tR
abbrev tU:MF3:=
 (aq (bK (mB (m2 dEq (mIx (am 0) (kI 0)) (kSt "is"))) (bR (bG (af (kSt "in") (af (aH nk (af (mIx (am 0) (kI 1)) (af (ae 1) nZ))) nZ)))) bU)
  (aq (bK (mB (m2 dEq (mIx (am 0) (kI 0)) (kSt "not"))) (bR (bG (af (kSt "out") (af (aH nk (af (mIx (am 0) (kI 1)) (af (ae 1) nZ))) nZ)))) bU)
  (bR (bG (af (mIx (am 0) (kI 0)) (af (mIx (am 0) (kI 1)) (af (aH tS (af (mIx (am 0) (kI 2)) (af (mIx (am 0) (kI 3)) (af (ae 1) (af (ae 2) nZ))))) nZ)))))))
abbrev tW:=bL 3 tU
abbrev tX:MF3:=
 (aq (bO 3 (aT (bv 1 [1,2] (be (mIx (am 0) (m1 eU (kI 2)))) (aB 0) (mB (m2 dNe (mIx (am 0) (kI 0)) (kSt "unlike"))) (aH tW (af (ae 0) (af (ae 1) (af (ae 2) nZ)))))))
  (aq (bK (mB (m2 dEq (mIx (am 0) (kI 0)) (kSt "never"))) (lE (af (bG (af (kSt "never") (af kN (af (ae 3) nZ)))) nZ)) bU)
  (aq (bK (mB (m2 dEq (mIx (am 0) (kI 0)) (kSt "choose"))) (bR (aH ye (af (mIx (am 0) (kI 1)) (af (mIx (am 0) (kI 2)) (af (aH tS (af (mIx (am 0) (kI 3)) (af (mIx (am 0) (kI 4)) (af (ae 1) (af (ae 2) nZ))))) (af (ae 3) nZ)))))) bU)
  (aq (bO 4 (vIf (mB (m2 dEq (mIx (am 0) (kI 0)) (kSt "rule"))) (kSt "make") (kSt "may")))
  (lE (af (bG (af (ae 4) (af (aH nk (af (mIx (am 0) (kI 1)) (af (ae 1) nZ))) (af (ae 3) nZ)))) nZ))))))
abbrev yh:=bL 5 tX
abbrev tY:MF3:=
 (aq (du 2 nZ)
  (aq (cC (be (ae 0)) (aB 3) (bK (mB (m2 dNe (mIx (am 3) (kI 0)) (kSt "kind"))) (cC (be (aH tO (af (mIx (am 3) (m1 eU (kI 1))) (af (ae 1) (af (λ_=>aa (.dic [] [])) nZ))))) (aB 4) (bK (lw (gt (aH yc (af (mIx (am 3) (m1 eU (kI 2))) (af (ae 4) nZ))))) (aq (i8 2 (i7 (aH yh (af (ae 3) (af (ae 4) (af (ae 1) nZ))))))
  (fI (hX nj (af (g9 2) (af (kI 400) (af (kSt "rules") nZ)))))) bU)) bU))
  (eV 2)))
abbrev yi:=bL 5 tY
abbrev tZ:MF3:=
 (aq (bO 1 (aH yi (af (ae 0) (af (aH xY (af (ae 0) nZ)) nZ))))
  (aq (bO 2 (aH x9 (af (ae 1) nZ)))
  (bR (bG (af (aT (wA (ae 2))) (af (bG (af (kB (ae 2)) (af (aT (bv 1 [2] (be (ae 1)) (aB 0) kY (aH x0 (af (ae 0) (af (ae 1) nZ))))) nZ))) nZ))))))
abbrev yj:=bL 3 tZ
abbrev b_1:MF3:=
 (aq (bO 1 (aH xK (af (ae 0) (af (kI 2) nZ))))
  (aq (bO 2 (aH pi (af (mIx (am 1) (kI 0)) nZ)))
  (aq (bO 3 (mIx (am 2) (m1 eU (kI 1))))
  (aq (lO (cA (aU (aB 4) (aU (aB 5) cz))) (aH yj (af (ae 2) nZ)))
  (aq (bK (mB (m2 dNe (ae 2) (aH pi (af (mIx (am 1) (kI 0)) nZ)))) (bR (kBl ag)) bU)
  (aq (du 6 (af (mIx (am 1) (kI 1)) nZ))
  (aq (mQ 7)
  (aq (cC (be (ae 4)) (aB 8) (nc 7 (ae 8) (mX2 dEq (lP 6 m_0 (aF (mX (kI 2)) aO)) (mX (kI 0)))))
  (aq (mQ 9)
  (aq (cC (be (aT (mSl (ae 2) (λ_=>aa ab) (mPt (m1 eU (kI 1)))))) (aB 10) (lJ 9 (mIx (am 10) (kI 1)) (mIx (am 10) (kI 2))))
  (aq (bO 11 (kI 0))
  (aq (fb 9 (cC (gL (af (aH m_9 (af (mIx (am 3) (kI 6)) (af (ae 9) nZ))) nZ)) (aB 12) (aq (fb 9 (bO 13 (aH sN (af (ae 12) (af (mIx (am 3) (kI 6)) (af (ae 9) nZ))))))
  (bK (gt (aH xI (af (mIx (am 3) (kI 5)) (af (ae 13) nZ)))) (aq (fb 9 (bO 14 (m2 cN (m2 gO (aH cu (af (mIx (am 3) (kI 3)) nZ)) (aH m_9 (af (mIx (am 3) (kI 4)) (af (ae 9) nZ)))) (kI 2))))
  (aq (fb 7 (fb 9 (bK (lw (gt (aH xH (af (aT (mSl (mIx (am 5) (kI 1)) (mPt (ae 11)) (mPt (m2 cN (ae 11) (ae 14))))) (af (ae 3) (af (ae 9) (af (ae 13) (af (ae 4) (af (ae 7) nZ))))))))) (bR (kBl ag)) bU)))
  (lQ 11 (mX (ae 14))))) bU))))
  (bR (j8 (m2 dEq (ae 11) (aH cu (af (mIx (am 5) (kI 1)) nZ))) (m2 dEq (mIx (am 5) (kI 0)) (aH cu (af (ae 4) nZ)))))))))))))))))
abbrev m_1:=bL 15 b_1
seal DSs DS DX DE DO
variable{P:di}{w:World}{K:bo}{mg:MGT}{base:Heap}{a:Wa}
def Ki(W:Wd K mg a):qD P w K mg base a 1 "_law_block" a.e_13 ["_law_rules","_law_row_here","_law_texts_here","_law_table"] xE:=by
 refine W.e_13.pk (b6 (F:=sJ) W.e_13.F kG λ_ _ _ _ _ _ e=>?_);have d:=e.units;unfold sJ;exact (au (bZ (bu (gK d) gJ (DE.db (da dR dS rfl W.z_len dD (cq (DE.db (dv 0)) cM))) (DE.db (ca dY (da dR dS rfl W.z_len dD (cq (DE.db (dv 2)) cM)) aj))) (aA (cn gs)) cb)
 (au (cR 4 kG.nd (DO.de (by refine rp ?a ?b ?c; (case a=>exact (ax (DE.dc (ax (dvC 0) (gu aj))) aj)); (case b=>exact mO); (case c=>exact (ka (gu aj))))))
 (au (bZ (bu (gK d) gJ (DE.db (da dR dS rfl W.z_len dD (cq (DE.db (dv 4)) cM))) (DE.db (da dR dS rfl W.z_len dD (cq (DE.db (DO.de (e8 1 [] ["_law_part_here"] rfl (DI.de (bH (ax (dvC 1) aj))) (λ_ _ _ _ _=>(dgc 0 1)) (λ_ _ _ _ _=>(rB (bu (gK d) gJ (DE.db (ax (i6 0) aj)) (DE.db aQ)))) (λ_ _ _ _ _=>(dvc 0))))) cM)))) (aA (cn gs)) cb)
 (au (c6 cH rfl (vU rfl W.z_enumerate (ah (dv 2) aw)) (cW rfl (bg (bj 5 11 kG.nd) (bg (bj 6 11 kG.nd) cQ))) (au (v4 (ax (dvC 0) (dv 5)) (cW rfl (bg (bj 7 11 kG.nd) (bg (bj 8 11 kG.nd) (bg (bj 9 11 kG.nd) cQ)))))
 (aA (bZ (DW.dt (on (bu (gK d) gJ (DE.db (dv 7)) (DE.db aQ)) (on (bu (gK d) gJ (DE.db (ax (dvC 3) (dv 8))) (DE.db (ax (dvC 6) aj))) (qZ (bu (gK d) gJ (DE.db (dv 9)) (DE.db (dv 4))))))) (aA (cn gs)) cb))))
 (au (lF 10 2 [3] ["_law_text_here","_law_worth_here","_law_table"] kG.nd rfl (DI.de (bH (dv 2))) (λ_ _ _ _ _=>(cW rfl (bg (dgc 0 2) (bg (dgc 1 2) cQ)))) (λ_ _ _ _ _=>df) (λ_ _ _ _ _=>(bY (ah (Ip (dF eE PySem.F.slot_list_index PySem.F.type_list_index (Io d) (DE.pe (dvc 2)) (cs (DE.pe (dvc 0)) cJ))) (ah (dvc 1) aw)))))
 (au (bZ (bu (gK d) gJ (DE.db (ax (dvC 0) (gu aj))) (DE.db (bY (ah aQ (ah j6 (ah (DO.de (lL (dv 4) (DO.de (cg (ah (bY (ah aQ (ah (ca jC (ax (dvC 1) aj) aj) (ah (dv 10) aw)))) aw))))) aw)))))) (aA (cn gs)) cb)
 (aA (cn (gb (cO d) c9 (DE.db (ax (dvC 0) (gu aj))) (DE.db (bY (ah aQ (ah j6 (ah (DO.de (lL (dv 4) (DO.de (cg (ah (bY (ah aQ (ah (ca dY (ax (dvC 1) aj) aj) (ah (dv 10) aw)))) aw))))) aw))))))))))))))
def Ct(W:Wd K mg a):qD P w K mg base a 1 "_law_text" a.e_18 ["_law_thing_here","_law_chosen"] sL:=by
 refine W.e_18.pk (b6 (F:=sK) W.e_18.F o9 λ_ _ _ _ _ _ b=>?_);have c:=b.units;unfold sK;exact (au (cR 2 o9.nd (ax (dvC 0) aj))
 (au (c6 cH rfl (vU rfl W.z_enumerate (ah (ax (dvC 0) aj) aw)) (cW rfl (bg (bj 3 5 o9.nd) (bg (bj 4 5 o9.nd) cQ))) (aA (we 2 o9.nd (DE.dx (ca dY (Im aQ (wc rfl W.z_int (gb i4 j9 (DE.db (dv 3)) (DE.db aj)))) (sA c (dv 1) (dv 4) (dv 4) ⟨rfl,rfl,rfl,rfl⟩))))))
 (aA (cn (ca dY (dv 2) (ca Iq aQ (wc rfl W.z_int (gb i4 j9 (DE.db (da dR dS rfl W.z_len dD (cq (DE.db (ax (dvC 0) aj)) cM))) (DE.db aj)))))))))
def Cu(W:Wd K mg a):qD P w K mg base a 1 "_law_choice" a.e_11 ["_law_number_here","_law_pairs_here","_law_kinds"] sN:=by
 refine W.e_11.pk (b6 (F:=sM) W.e_11.F nh λ_ _ _ _ _ _ c=>?_);have b:=c.units;unfold sM;exact (au (rO 3 nh.nd)
 (au (c6 cH rfl (HQ rfl W.z_reversed (ah (dv 1) aw)) (cW rfl (bg (bj 4 7 nh.nd) (bg (bj 5 7 nh.nd) cQ))) (au (v4 (IL rfl W.z_divmod (ah (dv 0) (ah (da dR dS rfl W.z_len dD (cq (DE.db (jd b (dv 2) (dv 5))) cM)) aw))) (cW rfl (bg (bj 0 7 nh.nd) (bg (bj 6 7 nh.nd) cQ))))
 (aA (Bc b (pv 3) (dv 4) (ax (DE.dc (jd b (dv 2) (dv 5))) (dv 6))))))
 (aA (se 3 (cn (dv 3))))))
def ym(W:Wd K mg a):qD P w K mg base a 1 "_law_total" a.e_9 ["_law_pairs_here","_law_kinds"] m_9:=by
 refine W.e_9.pk (b6 (F:=b_9) W.e_9.F o8 λ_ _ _ _ _ _ b=>?_);have c:=b.units;unfold b_9;exact (au (cR 2 o8.nd aj)
 (au (c6 cH rfl (bH (dv 0)) (cW rfl (bg (bj 3 5 o8.nd) (bg (bj 4 5 o8.nd) cQ))) (aA (cR 2 o8.nd (ca jH (dv 2) (da dR dS rfl W.z_len dD (cq (DE.db (jd c (dv 1) (dv 4))) cM))))))
 (aA (gN 2))))
def Cv(W:Wd K mg a):qD P w K mg base a 2 "_law_texts" a.e_12 ["_law_some","_law_over","_law_kinds","_law_chosen"] sP:=by
 refine W.e_12.pk (b6 (F:=sO) W.e_12.F ni λ_ _ _ _ _ _ b=>?_);unfold sO;exact (au (fP 4 ni.nd (cg aw))
 (au (c6 cH rfl (bH (dv 0)) (cW rfl (bg (bj 5 9 ni.nd) (bg (bj 6 9 ni.nd) cQ))) (aA (c6 cH rfl (oH rfl W.z_range (ah (bq (ym W) b (ah (dv 1) (ah (dv 2) aw))) aw)) (bj 7 9 ni.nd) (au (B9 8 ni.nd rfl W.z_dict (dv 3))
 (au (Cc (dJ (dF qm uW PySem.F.type_dict_update B7 (pv 8) (cs (DE.pe (bq (Cu W) b (ah (dv 7) (ah (dv 1) (ah (dv 2) aw))))) cJ))))
 (aA (jD (dJ (dF eE f6 f7 ga (pv 4) (cs (DE.pe (bY (ah (rV (Ct W) b (cq (DE.db (dv 5)) (cq (dvB 8) cM))) (ah (dv 6) aw)))) cJ))))))))))
 (aA (gN 4))))
def yn(W:Wd K mg a):qD P w K mg base a 1 "_law_worth" a.e_29 ["_law_texts_here","_law_truths"] pb:=by
 refine W.e_29.pk (b6 (F:=xF) W.e_29.F Kh λ_ _ _ _ _ _ b=>?_);have c:=b.units;unfold xF;exact(aA (cn (da (AM rfl) AN rfl W.z_sum boot_sum (cq (DE.db (DO.de (e8 2 [1] ["_law_text_here","_law_worth_here","_law_truths"] rfl (DI.de (bH (dv 0))) (λ_ _ _ _ _=>(cW rfl (bg (dgc 0 2) (bg (dgc 1 2) cQ)))) (λ_ _ _ _ _=>(rB (j7 (DE.db (jd c (dvc 2) (dvc 0)))))) (λ_ _ _ _ _=>(dvc 1))))) cM))))
def Kj(W:Wd K mg a):qD P w K mg base a 3 "_law_holds" a.e_37 ["_law_body_here","_law_kinds","_law_chosen","_law_truths"] xG:=by
 refine W.e_37.pk (b6 (F:=sQ) W.e_37.F xD λ_ _ _ _ _ _ c=>?_);have b:=c.units;unfold sQ;exact (au (c6 cH rfl (bH (dv 0)) (bj 4 6 xD.nd) (aA (bZ (DW.dt (on (bu (cO b) c9 (DE.db (ax (dvC 4) aj)) (DE.db aQ)) (qZ (bu (cO b) c9 (DE.db (ax (dvC 4) aj)) (DE.db aQ))))) (aA (bZ (bu (gK b) gJ (DE.db (jd b (dv 3) (bq (Ct W) c (ah (ax (dvC 4) aj) (ah (dv 2) aw))))) (DE.db (gb (cO b) c9 (DE.db (ax (dvC 4) aj)) (DE.db aQ)))) (aA (cn gs)) cb)) (aA (bZ (bu (gK b) gJ (DE.db (ax (dvC 4) aj)) (DE.db aQ)) (au (cR 5 xD.nd (bq (yn W) c (ah (bq (Cv W) c (ah (ax (dvC 4) aj) (ah (ax (dvC 4) aj) (ah (dv 1) (ah (dv 2) aw))))) (ah (dv 3) aw))))
 (aA (bZ (DW.dt (on (DW.dt (om (bu (cO b) c9 (DE.db (ax (dvC 4) aj)) (DE.db aQ)) (oj (bu vC vE (DE.db (dv 5)) (DE.db (ax (dvC 4) aj)))))) (qZ (DW.dt (om (bu (cO b) c9 (DE.db (ax (dvC 4) aj)) (DE.db aQ)) (oj (bu i4 j9 (DE.db (dv 5)) (DE.db (ax (dvC 4) aj))))))))) (aA (cn gs)) cb))) cb)))))
 (aA (cn gs)))
def Kk(W:Wd K mg a):qD P w K mg base a 2 "_law_part_holds" a.e_38 ["_law_part_here","_law_table","_law_truths"] sS:=by
 refine W.e_38.pk (b6 (F:=sR) W.e_38.F Cs λ_ _ _ _ _ _ c=>?_);have b:=c.units;unfold sR;exact (au (bZ (DW.dt (on (bu (cO b) c9 (DE.db (ax (dvC 0) aj)) (DE.db aQ)) (qZ (bu (cO b) c9 (DE.db (ax (dvC 0) aj)) (DE.db aQ))))) (aA (cn (gb (cO b) c9 (DE.db (jd b (dv 2) (ax (dvC 1) (ax (dvC 0) aj)))) (DE.db (gb (cO b) c9 (DE.db (ax (dvC 0) aj)) (DE.db aQ)))))) cb)
 (au (cR 3 Cs.nd (bq (yn W) c (ah (DO.de (e8 2 [1] ["_law_thing_here","_law_worth_here","_law_table"] rfl (DI.de (bH (ax (dvC 0) aj))) (λ_ _ _ _ _=>(cW rfl (bg (dgc 0 2) (bg (dgc 1 2) cQ)))) (λ_ _ _ _ _=>df) (λ_ _ _ _ _=>(bY (ah (ax (i6 2) (dvc 0)) (ah (dvc 1) aw)))))) (ah (dv 2) aw))))
 (au (bZ (bu (cO b) c9 (DE.db (ax (dvC 0) aj)) (DE.db aQ)) (aA (cn (gb GK GL (DE.db (dv 3)) (DE.db (ax (dvC 0) aj))))) cb)
 (aA (cn (gb oA oB (DE.db (dv 3)) (DE.db (ax (dvC 0) aj))))))))
def Kl(W:Wd K mg a):qD P w K mg base a 4 "_law_agrees" a.e_14 ["_law_rules","_law_row_here","_law_kinds","_law_chosen","_law_table","_law_truths"] xH:=by
 refine W.e_14.pk (b6 (F:=sU) W.e_14.F kH λ_ _ _ _ _ _ d=>?_);have e:=d.units;unfold sU;exact (au (cR 6 kH.nd (bq (Cv W) d (ah (ax (dvC 1) aj) (ah (ax (dvC 1) aj) (ah (dv 2) (ah (dv 3) aw))))))
 (au (bZ (vz (j7 (DE.db (bq (Ki W) d (ah (dv 0) (ah (dv 1) (ah (dv 6) (ah (dv 4) aw)))))))) (aA (cn gs)) cb)
 (au (cR 7 kH.nd gs)
 (au (c6 cH rfl (bH (DO.de (by refine rp ?a ?b ?c; (case a=>exact (dv 0)); (case b=>exact (ka (gu aj))); (case c=>exact mO)))) (cW rfl (bg (bj 8 12 kH.nd) (bg (bj 9 12 kH.nd) (bg (bj 10 12 kH.nd) cQ)))) (aA (bZ (j7 (DE.db (da (A6 rfl) A7 rfl W.z_all boot_all (cq (DE.db (DO.de (e8 1 [4,5] ["_law_part_here","_law_table","_law_truths"] rfl (DI.de (bH (dv 10))) (λ_ _ _ _ _=>(dgc 0 1)) (λ_ _ _ _ _=>df) (λ_ _ _ _ _=>(bq (Kk W) d (ah (dvc 0) (ah (dvc 1) (ah (dvc 2) aw)))))))) cM)))) (aA (cR 7 kH.nd gs)) cb)))
 (au (cR 11 kH.nd (bq (Kj W) d (ah (ax (dvC 1) aj) (ah (dv 2) (ah (dv 3) (ah (dv 5) aw))))))
 (aA (cn (gb (cO e) c9 (DE.db (dv 7)) (DE.db (q9 (dv 11) (ox (GJ (Bp oA oB oA oB (DE.db (ax (dvC 1) aj)) (DE.db (bq (yn W) d (ah (dv 6) (ah (dv 5) aw)))) (DE.db (ax (dvC 1) aj)))))))))))))))
def Km(W:Wd K mg a):qD P w K mg base a 1 "_law_apart" a.e_36 ["_law_body_here","_law_chosen"] xI:=by
 refine W.e_36.pk (b6 (F:=sV) W.e_36.F xC λ_ _ _ _ _ _ c=>?_);have b:=c.units;unfold sV;exact (au (c6 cH rfl (bH (dv 0)) (bj 2 4 xC.nd) (aA (bZ (bu (cO b) c9 (DE.db (ax (dvC 2) aj)) (DE.db aQ)) (au (cR 3 xC.nd (sA b (dv 1) (ax (dvC 2) aj) (ax (dvC 2) aj) ⟨rfl,rfl,rfl,rfl⟩))
 (aA (bZ (bu (cO b) c9 (DE.db (dv 3)) (DE.db (sA b (dv 1) (ax (dvC 2) aj) (ax (dvC 2) aj) ⟨rfl,rfl,rfl,rfl⟩))) (aA (cn gs)) cb))) cb)))
 (aA (cn gs)))
def cD(W:Wd K mg a):qM P w K mg base a 1 "_law_next" a.e_0 ["_law_state","_law_many"] 0 m_0:=by
 refine W.e_0.pk (ia (F:=b_0) W.e_0.F Kf λ_ _ _ _ _ _ b=>?_);unfold b_0;exact (au (Ie (pv 0) aj (ca ly (ca dY (ca jH (ax (BB 0) aj) aj) aj) (ca jC (ca oz aj aj) aj)))
 (aA (hU (ca ly (ca vB (ax (BB 0) aj) aj) (dv 1)))))
def Cw(W:Wd K mg a):qM P w K mg base a 2 "_law_small" a.e_16 ["_law_state","_law_many","_law_span"] 0 pc:=by
 refine W.e_16.pk (ia (F:=sW) W.e_16.F sG λ_ _ _ _ _ _ b=>?_);unfold sW;exact (au (cR 3 sG.nd aQ)
 (au (c6 cH rfl (oH rfl W.z_range (ah (dv 1) aw)) (bj 4 5 sG.nd) (aA (we 3 sG.nd (BI (DE.dx aQ) (bx (cD W) b (bB 0 (aL (DE.dx (dv 2)) aZ)))))))
 (aA (hU (dv 3)))))
def yo(W:Wd K mg a):qM P w K mg base a 3 "_law_name" a.e_3 ["_law_state"] 0 m_3:=by
 refine W.e_3.pk (ia (F:=b_3) W.e_3.F o6 λ_ _ _ _ _ _ b=>?_);unfold b_3;exact (au (fP 1 o6.nd (cg (ah aQ (ah aQ (ah aQ (ah aQ (ah aQ (ah aQ (ah aQ (ah aQ aw))))))))))
 (au (I0 1 o6.nd (DE.dx (DO.de (cg (ah aQ (ah aQ (ah aQ (ah aQ (ah aQ (ah aQ (ah aQ (ah aQ aw))))))))))))
 (au (ff 2 o6.nd (iM (DE.dx (DO.de (cg (ah aj (ah aj aw))))) (bx (cD W) b (bB 0 (aL (DE.dx aj) aZ)))))
 (au (ff 3 o6.nd (bx (Cw W) b (bB 0 (aL (fS dY (DE.dx aj) (bx (cD W) b (bB 0 (aL (DE.dx aj) aZ)))) (aL (DE.dx (dv 2)) aZ)))))
 (au (ge 1 (bZ (bu oF oD (DE.db (dv 3)) (DE.db (dv 1))) (aA (hU (ca dY aQ (dv 3)))) cb))
 (aA (hU (dv 3))))))))
def Kn(W:Wd K mg a):qM P w K mg base a 4 "_law_lay" a.e_5 ["_law_state"] 0 m_5:=by
 refine W.e_5.pk (ia (F:=b_5) W.e_5.F jO λ_ _ _ _ _ _ b=>?_);unfold b_5;exact (au (fP 1 jO.nd (cg aw))
 (au (rY cH rfl (oX rfl W.z_range (aL (fS dY (DE.dx aj) (bx (cD W) b (bB 0 (aL (DE.dx aj) aZ)))) aZ)) (bj 2 7 jO.nd) (au (ff 3 jO.nd (bx (yo W) b (bB 0 aZ)))
 (aA (bZ (bu oG oE (DE.db (dv 3)) (dvB 1)) (aA (jD (dJ (dF eE f6 f7 ga (pv 1) (cs (DE.pe (dv 3)) cJ))))) cb))))
 (au (Ja 4 1 [0] 0 0 ["_law_most","_law_state"] jO.nd rfl (By (DE.dx (DO.de (cg (ah aj (ah aj (ah aj (ah aj aw)))))))) (λ_ _ _ _ _=>(dgc 0 1)) (λ_ _ _ _ _=>(mW (aL (bx (yo W) b (su 1 aZ)) (aL (wl (Bz rfl) (glc rfl) W.z_min boot_min (aL (DE.dx (dvc 0)) (aL (bx (cD W) b (su 1 (aL (DE.dx aj) aZ))) aZ))) aZ)))))
 (au (fP 5 jO.nd (cg aw))
 (au (rY cH rfl (oX rfl W.z_range (aL (bx (cD W) b (bB 0 (aL (DE.dx aj) aZ))) aZ)) (bj 2 7 jO.nd) (au (ff 3 jO.nd (bx (yo W) b (bB 0 aZ)))
 (au (ge 1 (Jr 6 1 [0] 0 0 ["_law_place","_law_state"] jO.nd rfl (By (DE.dx (dv 1))) (λ_ _ _ _ _=>(dgc 0 1)) (λ_ _ _ _ _=>(oW i4 (bx (cD W) b (su 1 (aL (DE.dx aj) aZ))) (DE.dx aj))) (λ_ _ _ _ _=>(DE.dx (dvc 0)))))
 (aA (bZ (DW.dt (om (bu i4 j9 (DE.db (da dR dS rfl W.z_len dD (cq (DE.db (dv 6)) cM))) (DE.db aj)) (oj (bu oG oE (DE.db (dv 3)) (DE.db (DO.de (e8 1 [] ["_law_kind"] rfl (AT 5) (λ_ _ _ _ _=>(dgc 0 1)) (λ_ _ _ _ _=>df) (λ_ _ _ _ _=>(ax (i6 0) aj))))))))) (aA (mY (dJ (dF eE f6 f7 ga (pv 5) (cs (DX.pe (mW (aL (DE.dx (dv 3)) (aL (Jn (DE.dx (dv 6)) (fS jC (DE.dx aj) (fS jH (DE.dx aj) (bx (cD W) b (bB 0 (aL (DE.dx aj) aZ)))))) aZ)))) cJ))))) cb)))))
 (aA (ge 5 (ge 1 (hU (bY (ah (dv 4) (ah (dv 1) (ah (dv 5) aw)))))))))))))
def t3(W:Wd K mg a):qM P w K mg base a 2 "_law_number" a.e_4 ["_law_state"] 0 m_4:=by
 refine W.e_4.pk (ia (F:=b_4) W.e_4.F Cr λ_ _ _ _ _ _ b=>?_);have c:=b.units;unfold b_4;exact (au (ff 1 Cr.nd (fS jC (bx (cD W) b (bB 0 (aL (DE.dx aj) aZ))) (DE.dx aj)))
 (au (sh (oW (cO c) (bx (cD W) b (bB 0 (aL (DE.dx aj) aZ))) (DE.dx aj)) (aA (oV (fS dY (DE.dx (ca jH (dv 1) (ca oz aj aj))) (bx (cD W) b (bB 0 (aL (DE.dx (ca oz aj aj)) aZ)))))) cb)
 (aA (hU (dv 1)))))
def Ko(W:Wd K mg a):qM P w K mg base a 3 "_law_variable" a.e_28 ["_law_state"] 0 sX:=by
 refine W.e_28.pk (ia (F:=pd) W.e_28.F Cq λ_ _ _ _ _ _ b=>?_);unfold pd;exact (au (ff 1 Cq.nd (BI (DE.dx aQ) (bx (cD W) b (bB 0 (aL (iM (DE.dx (DO.de (cg (ah aj (ah aj aw))))) (bx (cD W) b (bB 0 (aL (DE.dx aj) aZ)))) aZ)))))
 (aA (oV (fS dY (DE.dx (dv 1)) (bx (Cw W) b (bB 0 (aL (bx (cD W) b (bB 0 (aL (DE.dx aj) aZ))) (aL (iM (DE.dx (DO.de (cg (ah aj (ah aj aw))))) (bx (cD W) b (bB 0 (aL (DE.dx aj) aZ)))) aZ))))))))
def Cy(W:Wd K mg a):qM P w K mg base a 4 "_law_pairs" a.e_17 ["_law_state","_law_kinds","_law_taken","_law_most"] 0 sY:=by
 refine W.e_17.pk (ia (F:=pf) W.e_17.F sH λ_ _ _ _ _ _ b=>?_);unfold pf;exact (au (fP 4 sH.nd (cg aw))
 (au (rY cH rfl (oX rfl W.z_range (aL (fS jH (wl (Bz rfl) rfl W.z_min boot_min (aL (DE.dx (dv 3)) (aL (fS dY (fS vB (bx (cD W) b (bB 0 (aL (DE.dx aj) aZ))) (DE.dx aj)) (bx (cD W) b (bB 0 (aL (DE.dx aj) aZ)))) aZ))) (DE.dx (wc rfl W.z_int (gb i4 j9 (DE.db (da dR dS rfl W.z_len dD (cq (DE.db (dv 1)) cM))) (DE.db aj))))) aZ)) (bj 5 7 sH.nd) (au (ff 6 sH.nd (bx (Ko W) b (bB 0 aZ)))
 (aA (bZ (bu oG oE (DE.db (dv 6)) (DE.db (DO.de (lL (dv 2) (DO.de (e8 1 [] ["_law_pair"] rfl (AT 4) (λ_ _ _ _ _=>(dgc 0 1)) (λ_ _ _ _ _=>df) (λ_ _ _ _ _=>(ax (i6 0) aj)))))))) (aA (mY (dJ (dF eE f6 f7 ga (pv 4) (cs (DX.pe (mW (aL (DE.dx (dv 6)) (aL (iM (iM (DE.dx (dv 1)) (bx (cD W) b (bB 0 (aL (DE.dx (da dR dS rfl W.z_len dD (cq (DE.db (dv 1)) cM))) aZ)))) (DE.dx aj)) aZ)))) cJ))))) cb))))
 (aA (ge 4 (hU (dv 4))))))
def Cz(W:Wd K mg a):qM P w K mg base a 2 "_law_thing" a.e_8 ["_law_state","_law_lay_here","_law_known"] 0 m_8:=by
 refine W.e_8.pk (ia (F:=b_8) W.e_8.F o7 λ_ _ _ _ _ _ b=>?_);unfold b_8;exact (au (wu (iM (DE.dx (ax (dvC 1) aj)) (bx (cD W) b (bB 0 (aL (DE.dx aj) aZ)))) (cW rfl (bg (bj 3 7 o7.nd) (bg (bj 4 7 o7.nd) cQ))))
 (au (fP 5 o7.nd (cg aw))
 (au (c6 cH rfl (oH rfl W.z_range (ah (dv 4) aw)) (bj 6 7 o7.nd) (aA (sh (DWX.dtx (Il (DT.dtx (bu i4 j9 (DE.db (da dR dS rfl W.z_len dD (cq (DE.db (dv 2)) cM))) (DE.db aj))) (Ik (oW i4 (bx (cD W) b (bB 0 (aL (DE.dx aj) aZ))) (DE.dx aj))))) (aA (mY (dJ (dF eE f6 f7 ga (pv 5) (cs (DX.pe (iM (DE.dx (dv 2)) (bx (cD W) b (bB 0 (aL (DE.dx (da dR dS rfl W.z_len dD (cq (DE.db (dv 2)) cM))) aZ))))) cJ))))) (aA (mY (dJ (dF eE f6 f7 ga (pv 5) (cs (DX.pe (iM (DE.dx (ax (dvC 1) aj)) (bx (cD W) b (bB 0 (aL (DE.dx (da dR dS rfl W.z_len dD (cq (DE.db (ax (dvC 1) aj)) cM))) aZ))))) cJ))))))))
 (aA (ge 5 (hU (bY (ah (dv 3) (ah (dv 5) aw)))))))))
def CA(W:Wd K mg a):qM P w K mg base a 5 "_law_items" a.e_6 ["_law_state","_law_lay_here","_law_known","_law_kinds","_law_many"] 0 m_6:=by
 refine W.e_6.pk (ia (F:=b_6) W.e_6.F ng λ_ _ _ _ _ _ b=>?_);unfold b_6;exact (au (ff 5 ng.nd (bx (Cy W) b (bB 0 (aL (DE.dx (dv 3)) (aL (DE.dx (dv 2)) (aL (DE.dx aj) aZ))))))
 (au (cR 6 ng.nd (DO.de (lL (dv 2) (DO.de (e8 1 [] ["_law_pair"] rfl (DI.de (bH (dv 5))) (λ_ _ _ _ _=>(dgc 0 1)) (λ_ _ _ _ _=>df) (λ_ _ _ _ _=>(ax (i6 0) aj)))))))
 (au (fP 7 ng.nd (cg aw))
 (au (rY cH rfl (oX rfl W.z_range (aL (fS dY (DE.dx aj) (bx (cD W) b (bB 0 (aL (DE.dx (dv 4)) aZ)))) aZ)) (bj 8 10 ng.nd) (au (ff 9 ng.nd (iM (Ii (aL (DE.dx aj) (aL (wl IQ rfl W.z_abs boot_abs (aL (bx (t3 W) b (bB 0 aZ)) aZ)) aZ))) (bx (cD W) b (bB 0 (aL (DE.dx aj) aZ)))))
 (aA (mY (dJ (dF eE f6 f7 ga (pv 7) (cs (DX.pe (mW (aL (bx (Cz W) b (bB 0 (aL (DE.dx (dv 1)) (aL (DE.dx (dv 6)) aZ)))) (aL (DE.dx (dv 9)) aZ)))) cJ)))))))
 (aA (ge 7 (hU (bY (ah (dv 7) (ah (dv 5) aw))))))))))
def Kp(W:Wd K mg a):qM P w K mg base a 6 "_law_part" a.e_7 ["_law_state","_law_lay_here","_law_known","_law_kinds"] 0 m_7:=by
 refine W.e_7.pk (ia (F:=b_7) W.e_7.F lW λ_ _ _ _ _ _ b=>?_);have c:=b.units;unfold b_7;exact (au (ff 4 lW.nd (bx (cD W) b (bB 0 (aL (DE.dx aj) aZ))))
 (au (bZ (DW.dt (om (bu (cO c) c9 (DE.db (dv 4)) (DE.db aj)) (oj (bu i4 j9 (DE.db (da dR dS rfl W.z_len dD (cq (DE.db (dv 2)) cM))) (DE.db aj))))) (au (ff 5 lW.nd (iM (DE.dx (dv 2)) (bx (cD W) b (bB 0 (aL (DE.dx (da dR dS rfl W.z_len dD (cq (DE.db (dv 2)) cM))) aZ)))))
 (au (cR 6 lW.nd (ca dY (dv 2) (ax (dvC 1) aj)))
 (au (ff 7 lW.nd (iM (DE.dx (dv 6)) (bx (cD W) b (bB 0 (aL (DE.dx (da dR dS rfl W.z_len dD (cq (DE.db (dv 6)) cM))) aZ)))))
 (au (sh (oW (cO c) (bx (cD W) b (bB 0 (aL (DE.dx aj) aZ))) (DE.dx aj)) (aA (hU (bY (ah aQ (ah (dv 7) (ah (dv 5) aw)))))) cb)
 (aA (hU (bY (ah aQ (ah (dv 5) (ah (dv 7) aw)))))))))) cb)
 (au (bZ (bu vC vE (DE.db (dv 4)) (DE.db aj)) (au (wu (bx (CA W) b (bB 0 (aL (DE.dx (dv 1)) (aL (DE.dx (dv 2)) (aL (DE.dx (dv 3)) (aL (DE.dx aj) aZ)))))) (cW rfl (bg (bj 8 10 lW.nd) (bg (bj 9 10 lW.nd) cQ))))
 (aA (oV (mW (aL (DE.dx (ax (DO.dc (cg (ah aQ (ah aQ aw)))) (ca ly (dv 4) aj))) (aL (bx (t3 W) b (bB 0 aZ)) (aL (DE.dx (dv 8)) (aL (DE.dx (dv 9)) aZ)))))))) cb)
 (aA (oV (mW (aL (DE.dx (ax (DO.dc (cg (ah aQ (ah aQ (ah aQ aw))))) (ca jC (dv 4) aj))) (aL (bx (Cz W) b (bB 0 (aL (DE.dx (dv 1)) (aL (DE.dx (dv 2)) aZ)))) aZ))))))))
def Kq(W:Wd K mg a):qM P w K mg base a 7 "_law_body" a.e_47 ["_law_state","_law_lay_here","_law_known","_law_kinds"] 0 xJ:=by
 refine W.e_47.pk (ia (F:=ph) W.e_47.F Kg λ_ _ _ _ _ _ b=>?_);unfold ph;exact(aA (oV (IP 1 [0,1,2,3] 0 0 ["_law_k","_law_state","_law_lay_here","_law_known","_law_kinds"] rfl (oX rfl W.z_range (aL (bx (cD W) b (bB 0 (aL (DE.dx aj) aZ))) aZ)) (λ_ _ _ _ _=>(dgc 0 1)) (λ_ _ _ _ _=>(bx (Kp W) b (su 1 (aL (DE.dx (dvc 2)) (aL (DE.dx (dvc 3)) (aL (DE.dx (dvc 4)) aZ)))))))))
def Kr(W:Wd K mg a):qM P w K mg base a 8 "_law_row" a.e_2 ["_law_state","_law_lay_here"] 0 m_2:=by
 refine W.e_2.pk (ia (F:=b_2) W.e_2.F iP λ_ _ _ _ _ _ b=>?_);have c:=b.units;unfold b_2;exact (au (ff 2 iP.nd (bx (Cy W) b (bB 0 (aL (DE.dx (ax (dvC 1) aj)) (aL (DE.dx (DO.de (cg aw))) (aL (DE.dx aj) aZ))))))
 (au (lF 3 1 [] ["_law_pair"] iP.nd rfl (DI.de (bH (dv 2))) (λ_ _ _ _ _=>(dgc 0 1)) (λ_ _ _ _ _=>df) (λ_ _ _ _ _=>(ax (i6 0) aj)))
 (au (ff 4 iP.nd (bx (Kq W) b (bB 0 (aL (DE.dx (dv 1)) (aL (DE.dx (dv 3)) (aL (DE.dx (ax (dvC 1) aj)) aZ))))))
 (au (wu (bx (CA W) b (bB 0 (aL (DE.dx (dv 1)) (aL (DE.dx (dv 3)) (aL (DE.dx (ax (dvC 1) aj)) (aL (DE.dx aj) aZ)))))) (cW rfl (bg (bj 5 10 iP.nd) (bg (bj 6 10 iP.nd) cQ))))
 (au (ff 7 iP.nd (bx (t3 W) b (bB 0 aZ)))
 (au (ff 8 iP.nd (bx (t3 W) b (bB 0 aZ)))
 (au (sh (oW (cO c) (bx (cD W) b (bB 0 (aL (DE.dx aj) aZ))) (DE.dx aj)) (au (cR 9 iP.nd (da (AM rfl) AN rfl W.z_sum boot_sum (cq (DE.db (DO.de (e8 1 [] ["_law_item"] rfl (DI.de (bH (dv 5))) (λ_ _ _ _ _=>(dgc 0 1)) (λ_ _ _ _ _=>df) (λ_ _ _ _ _=>(ax (i6 0) aj))))) cM)))
 (au (ff 7 iP.nd (fS jC (fS vB (fS jH (bx (cD W) b (bB 0 (aL (DE.dx aj) aZ))) (DE.dx (dv 9))) (DE.dx aj)) (bx (cD W) b (bB 0 (aL (DE.dx aj) aZ)))))
 (aA (ff 8 iP.nd (fS jC (fS dY (DE.dx (dv 7)) (bx (cD W) b (bB 0 (aL (DE.dx aj) aZ)))) (DE.dx aj)))))) cb)
 (aA (hU (bY (ah aQ (ah (dv 7) (ah (dv 8) (ah (dv 5) (ah (dv 6) (ah (dv 4) (ah (dv 2) aw)))))))))))))))))
def CB(W:Wd K mg a):qD P w K mg base a 9 "_law_rows" a.e_19 ["_law_seed"] pi:=by
 refine W.e_19.pk (b6 (F:=sZ) W.e_19.F sI λ_ _ _ _ _ _ b=>?_);unfold sZ;exact (au (fP 1 sI.nd (cg (ah (dv 0) aw)))
 (au (ff 2 sI.nd (wd (Kn W) b (bB 1 aZ)))
 (au (rE 3 2 [] ["_law_name_here","_law_names"] sI.nd rfl (DI.de (bH (ax (dvC 2) aj))) (λ_ _ _ _ _=>(cW rfl (bg (dgc 0 2) (bg (dgc 1 2) cQ)))) (λ_ _ _ _ _=>df) (λ_ _ _ _ _=>(bY (ah aQ (ah (dvc 0) (ah (DO.de (AO boot_list (glc rfl) W.z_list (i6 1))) aw))))))
 (au (mY (dJ (dF eE f6 f7 ga (pv 3) (cs (DX.pe (wd (Kr W) b (bB 1 (aL (DE.dx (dv 2)) aZ)))) cJ))))
 (aA (gN 3))))))
def Ks(W:Wd K mg a):qD P w K mg base a 1 "_law_seeds" a.e_25 ["_law_script","_law_many"] xK:=by
 refine W.e_25.pk (b6 (F:=s9) W.e_25.F o5 λ_ _ _ _ _ _ b=>?_);unfold s9;exact (au (rE 2 1 [] ["_law_k"] o5.nd rfl (DI.de (oH rfl W.z_range (ah (dv 1) aw))) (λ_ _ _ _ _=>(dgc 0 1)) (λ_ _ _ _ _=>df) (λ_ _ _ _ _=>(ca dY (ca jH (dvc 0) aj) aj)))
 (au (c6 cH rfl (vU rfl W.z_enumerate (ah (dv 0) aw)) (cW rfl (bg (bj 3 6 o5.nd) (bg (bj 4 6 o5.nd) cQ))) (au (cR 5 o5.nd (ca dY (ca jH (ax (dvC 2) (ca ly (dv 3) (dv 1))) aj) (ca ly (dv 4) (ca oz aj aj))))
 (aA (Ho (pv 2) (ca ly (dv 3) (dv 1)) (ca ly (ca dY (dv 5) (dv 3)) (ca jC (ca oz aj aj) aj))))))
 (aA (gN 2))))
def CC(W:Wd K mg a):qD P w K mg base a 1 "must_be_unlike" a.e_41 ["words"] tf:=by
 refine W.e_41.pk (b6 (F:=xL) W.e_41.F J7 λ_ _ _ _ _ _ b=>?_);unfold xL;exact(aA (bZ (bu vC vE (DE.db (Ji rfl rfl W.z_len rfl W.z_set (dv 0))) (DE.db (da dR dS rfl W.z_len dD (cq (DE.db (dv 0)) cM)))) (aA oY) cb))
def CD(W:Wd K mg a):qD P w K mg base a 2 "must_be_pairs" a.e_22 ["pairs","outer","kinds"] tm:=by
 refine W.e_22.pk (b6 (F:=xM) W.e_22.F sB λ_ _ _ _ _ _ b=>?_);unfold xM;exact (au (i9 (bq (CC W) b (ah (DO.de (e8 2 [] ["variable","kind"] rfl (DI.de (bH (ca dY (dv 1) (dv 0)))) (λ_ _ _ _ _=>(cW rfl (bg (dgc 0 2) (bg (dgc 1 2) cQ)))) (λ_ _ _ _ _=>df) (λ_ _ _ _ _=>(dvc 0)))) aw)))
 (au (lF 5 2 [] ["kind","names"] sB.nd rfl (DI.de (bH (dv 2))) (λ_ _ _ _ _=>(cW rfl (bg (dgc 0 2) (bg (dgc 1 2) cQ)))) (λ_ _ _ _ _=>df) (λ_ _ _ _ _=>(dvc 0)))
 (aA (c6 cH rfl (bH (dv 0)) (cW rfl (bg (bj 3 6 sB.nd) (bg (bj 4 6 sB.nd) cQ))) (aA (bZ (bu oG oE (DE.db (dv 4)) (DE.db (dv 5))) (aA oY) cb))))))
def CF(W:Wd K mg a):qD P w K mg base a 1 "is_made_of" a.e_39 ["word","signs","most"] tu:=by
 refine W.e_39.pk (b6 (F:=xN) W.e_39.F J5 λ_ _ _ _ _ _ b=>?_);unfold xN;exact(aA (cn (q9 (Bp oA oB oA oB (DE.db aj) (DE.db (da dR dS rfl W.z_len dD (cq (DE.db (dv 0)) cM))) (DE.db (dv 2))) (ox (da (A6 rfl) A7 rfl W.z_all boot_all (cq (DE.db (DO.de (e8 1 [1] ["sign","signs"] rfl (DI.de (Iw (dv 0))) (λ_ _ _ _ _=>(dgc 0 1)) (λ_ _ _ _ _=>df) (λ_ _ _ _ _=>(gb Iy Ix (DE.db (dvc 0)) (DE.db (dvc 1))))))) cM))))))
def Kt(W:Wd K mg a):qD P w K mg base a 2 "is_variable" a.e_52 ["word"] xP:=by
 refine W.e_52.pk (b6 (F:=xO) W.e_52.F J6 λ_ _ _ _ _ _ b=>?_);have c:=b.units;unfold xO;exact(aA (cn (q9 (bq (CF W) b (ah (BN (dv 0) mO (ka aj)) (ah (BM rfl W.g_GREAT) (ah aj aw)))) (ox (GI (gb (cO c) c9 (DE.db (da dR dS rfl W.z_len dD (cq (DE.db (dv 0)) cM))) (DE.db aj)) (ox (bq (CF W) b (ah (BN (dv 0) (ka aj) mO) (ah (BM rfl W.g_SMALL) (ah aj aw))))))))))
def Ku(W:Wd K mg a):qD P w K mg base a 3 "must_be_told" a.e_42 ["args","pairs"] xR:=by
 refine W.e_42.pk (b6 (F:=xQ) W.e_42.F xw λ_ _ _ _ _ _ b=>?_);unfold xQ;exact (au (lF 2 2 [] ["variable","kind"] xw.nd rfl (DI.de (bH (dv 1))) (λ_ _ _ _ _=>(cW rfl (bg (dgc 0 2) (bg (dgc 1 2) cQ)))) (λ_ _ _ _ _=>df) (λ_ _ _ _ _=>(dvc 0)))
 (aA (c6 cH rfl (bH (dv 0)) (bj 3 4 xw.nd) (aA (bZ (DW.dt (om (j7 (DE.db (bq (Kt W) b (ah (dv 3) aw)))) (oj (bu oG oE (DE.db (dv 3)) (DE.db (dv 2)))))) (aA oY) cb)))))
def CG(W:Wd K mg a):qD P w K mg base a 1 "args_of" a.e_23 ["items"] tw:=by
 refine W.e_23.pk (b6 (F:=xS) W.e_23.F sC λ_ _ _ _ _ _ b=>?_);unfold xS;exact (au (fP 1 sC.nd (cg aw))
 (au (c6 cH rfl (bH (dv 0)) (cW rfl (bg (bj 2 4 sC.nd) (bg (bj 3 4 sC.nd) cQ))) (aA (oJ (dJ (dF eE nT nU oe (pv 1) (cs (DE.pe (ax (dvC 2) aj)) cJ))))))
 (aA (gN 1))))
def Kv(W:Wd K mg a):qD P w K mg base a 2 "part_uses" a.e_49 ["part"] tz:=by
 refine W.e_49.pk (b6 (F:=xT) W.e_49.F J8 λ_ _ _ _ _ _ b=>?_);have c:=b.units;unfold xT;exact (au (bZ (bu (cO c) c9 (DE.db (ax (dvC 0) aj)) (DE.db aQ)) (aA (cn (bY (ah (DO.de (cg (ah (ax (dvC 0) aj) (ah (ax (dvC 0) aj) aw)))) (ah (DO.de (cg aw)) aw))))) cb)
 (au (bZ (bu oF oD (DE.db (ax (dvC 0) aj)) (DE.db (bY (ah aQ (ah aQ aw))))) (aA (cn (bY (ah (bq (CG W) b (ah (ax (dvC 0) aj) aw)) (ah (ax (dvC 0) aj) aw))))) cb)
 (aA (cn (bY (ah (ax (DE.dc (ax (dvC 0) aj)) aj) (ah (DO.de (cg aw)) aw)))))))
def Kw(W:Wd K mg a):qD P w K mg base a 3 "uses" a.e_48 ["row"] xV:=by
 refine W.e_48.pk (b6 (F:=xU) W.e_48.F Cm λ_ _ _ _ _ _ b=>?_);have c:=b.units;unfold xU;exact (au (rE 1 1 [] ["part"] Cm.nd rfl (DI.de (bH (ax (dvC 0) (gu aj)))) (λ_ _ _ _ _=>(dgc 0 1)) (λ_ _ _ _ _=>df) (λ_ _ _ _ _=>(bq (Kv W) b (ah (dvc 0) aw))))
 (au (bZ (bu (cO c) c9 (DE.db (ax (dvC 0) aj)) (DE.db aQ)) (aA (jD (dJ (dF eE f6 f7 ga (pv 1) (cs (DE.pe (bY (ah (bq (CG W) b (ah (ax (dvC 0) aj) aw)) (ah (ax (dvC 0) aj) aw)))) cJ))))) (aA (bZ (bu (gK c) gJ (DE.db (ax (dvC 0) aj)) (DE.db aQ)) (aA (jD (dJ (dF eE f6 f7 ga (pv 1) (cs (DE.pe (bY (ah (ax (DE.dc (ax (dvC 0) aj)) aj) (ah (DO.de (cg aw)) aw)))) cJ))))) cb)))
 (aA (gN 1))))
def Kx(W:Wd K mg a):qD P w K mg base a 4 "must_be_known" a.e_31 ["row","kinds"] tB:=by
 refine W.e_31.pk (b6 (F:=xW) W.e_31.F xv λ_ _ _ _ _ _ b=>?_);unfold xW;exact (au (i9 (bq (CD W) b (ah (ax (dvC 0) (gu aj)) (ah (DO.de (cg aw)) (ah (dv 1) aw)))))
 (aA (c6 cH rfl (bH (bq (Kw W) b (ah (dv 0) aw))) (cW rfl (bg (bj 2 4 xv.nd) (bg (bj 3 4 xv.nd) cQ))) (au (i9 (bq (CD W) b (ah (dv 3) (ah (ax (dvC 0) (gu aj)) (ah (dv 1) aw)))))
 (aA (i9 (bq (Ku W) b (ah (dv 2) (ah (ca dY (ax (dvC 0) (gu aj)) (dv 3)) aw)))))))))
def Ky(W:Wd K mg a):qD P w K mg base a 2 "must_be_new" a.e_40 ["row","kinds"] tE:=by
 refine W.e_40.pk (b6 (F:=xX) W.e_40.F Ck λ_ _ _ _ _ _ b=>?_);unfold xX;exact (au (cR 2 Ck.nd (ax (dvC 0) aj))
 (au (bZ (bu oF oD (DE.db (dv 2)) (DE.db (DO.de (e8 2 [] ["kind","names"] rfl (DI.de (bH (dv 1))) (λ_ _ _ _ _=>(cW rfl (bg (dgc 0 2) (bg (dgc 1 2) cQ)))) (λ_ _ _ _ _=>df) (λ_ _ _ _ _=>(dvc 0)))))) (aA oY) cb)
 (aA (i9 (bq (CC W) b (ah (ax (dvC 0) aj) aw))))))
def Kz(W:Wd K mg a):qD P w K mg base a 5 "kinds_of" a.e_30 ["rows"] xY:=by
 refine W.e_30.pk (b6 (F:=tF) W.e_30.F xu λ_ _ _ _ _ _ b=>?_);have c:=b.units;unfold tF;exact (au (fP 1 xu.nd (cg aw))
 (au (c6 cH rfl (bH (dv 0)) (bj 2 3 xu.nd) (aA (bZ (bu (cO c) c9 (DE.db (ax (dvC 2) aj)) (DE.db aQ)) (au (i9 (rV (Ky W) b (cq (DE.db (dv 2)) (cq (dvB 1) cM))))
 (aA (jD (dJ (dF eE f6 f7 ga (pv 1) (cs (DE.pe (bY (ah (ax (dvC 2) aj) (ah (DO.de (AO boot_list rfl W.z_list (DE.dc (ax (dvC 2) aj)))) aw)))) cJ)))))) (aA (i9 (rV (Kx W) b (cq (DE.db (dv 2)) (cq (dvB 1) cM))))))))
 (aA (gN 1))))
def KA(W:Wd K mg a):qD P w K mg base a 1 "numbered_part" a.e_51 ["part","places"] xZ:=by
 refine W.e_51.pk (b6 (F:=tG) W.e_51.F Ke λ_ _ _ _ _ _ c=>?_);have b:=c.units;unfold tG;exact (au (bZ (bu oF oD (DE.db (ax (dvC 0) aj)) (DE.db (bY (ah aQ (ah aQ aw))))) (aA (cn (bY (ah (ax (dvC 0) aj) (ah (jd b (dv 1) (ax (dvC 0) aj)) aw))))) cb)
 (aA (cn (bY (ah (ax (dvC 0) aj) (ah (ax (dvC 0) aj) (ah (DO.de (e8 2 [1] ["text","worth","places"] rfl (DI.de (bH (ax (dvC 0) aj))) (λ_ _ _ _ _=>(cW rfl (bg (dgc 0 2) (bg (dgc 1 2) cQ)))) (λ_ _ _ _ _=>df) (λ_ _ _ _ _=>(bY (ah (jd b (dvc 2) (dvc 0)) (ah (dvc 1) aw)))))) aw)))))))
def KB(W:Wd K mg a):qD P w K mg base a 2 "numbered" a.e_46 ["rule","places"] x0:=by
 refine W.e_46.pk (b6 (F:=tH) W.e_46.F Cp λ_ _ _ _ _ _ b=>?_);have c:=b.units;unfold tH;exact (au (cR 2 Cp.nd (vA (bu AD AE (DE.db (ax (dvC 0) aj)) (DE.db j6)) j6 (jd c (dv 1) (ax (dvC 0) aj))))
 (aA (cn (bY (ah (ax (dvC 0) aj) (ah (dv 2) (ah (DO.de (e8 1 [1] ["part","places"] rfl (DI.de (bH (ax (dvC 0) aj))) (λ_ _ _ _ _=>(dgc 0 1)) (λ_ _ _ _ _=>df) (λ_ _ _ _ _=>(bq (KA W) b (ah (dvc 0) (ah (dvc 1) aw)))))) aw)))))))
def yp(W:Wd K mg a):qD P w K mg base a 1 "must_be_narrow" a.e_24 ["listed","most","what"] nj:=by
 refine W.e_24.pk (b6 (F:=x6) W.e_24.F J9 λ_ _ _ _ _ _ b=>?_);unfold x6;exact(aA (bZ (bu i4 j9 (DE.db (DE.orE (da dR dS rfl W.z_len dD (cq (DE.db (dv 0)) cM)) (wx rfl W.z_len (DE.db (dv 0))))) (DE.db (dv 1))) (aA oY) cb))
def KC(W:Wd K mg a):qD P w K mg base a 1 "texts_in" a.e_35 ["rule"] x8:=by
 refine W.e_35.pk (b6 (F:=tI) W.e_35.F xB λ_ _ _ _ _ _ b=>?_);unfold tI;exact (au (fP 1 xB.nd (JW (bu AD AE (DE.db (ax (dvC 0) aj)) (DE.db j6)) (cg aw) (cg (ah (ax (dvC 0) aj) aw))))
 (au (c6 cH rfl (bH (ax (dvC 0) aj)) (bj 2 3 xB.nd) (aA (bZ (bu oF oD (DE.db (ax (dvC 2) aj)) (DE.db (bY (ah aQ (ah aQ aw))))) (aA (jD (dJ (dF eE f6 f7 ga (pv 1) (cs (DE.pe (ax (dvC 2) aj)) cJ))))) (aA (oJ (dJ (dF eE nT nU oe (pv 1) (cs (DE.pe (DO.de (e8 2 [] ["text","worth"] rfl (DI.de (bH (ax (dvC 2) aj))) (λ_ _ _ _ _=>(cW rfl (bg (dgc 0 2) (bg (dgc 1 2) cQ)))) (λ_ _ _ _ _=>df) (λ_ _ _ _ _=>(dvc 0))))) cJ))))))))
 (aA (gN 1))))
def KD(W:Wd K mg a):qD P w K mg base a 2 "places_in" a.e_27 ["rules"] x9:=by
 refine W.e_27.pk (b6 (F:=tJ) W.e_27.F sF λ_ _ _ _ _ _ b=>?_);unfold tJ;exact (au (rO 1 sF.nd)
 (au (c6 cH rfl (bH (dv 0)) (bj 2 4 sF.nd) (aA (c6 cH rfl (bH (bq (KC W) b (ah (dv 2) aw))) (bj 3 4 sF.nd) (aA (JA (dJ (dF qm zo PySem.F.type_dict_setdefault Jw (pv 1) (cs (DE.pe (dv 3)) (cs (DE.pe (wx rfl W.z_len (dvB 1))) cJ)))))))))
 (au (se 1 (i9 (bq (yp W) b (ah (dv 1) (ah (ww rfl W.g_MOST_THINGS) (ah aQ aw))))))
 (aA (se 1 (cn (dv 1)))))))
def CH(W:Wd K mg a):qD P w K mg base a 1 "name_all" a.e_43 ["args","names"] tL:=by
 refine W.e_43.pk (b6 (F:=ya) W.e_43.F Ka λ_ _ _ _ _ _ b=>?_);have c:=b.units;unfold ya;exact(aA (vN (e8 1 [1] ["arg","names"] rfl (DI.de (bH (dv 0))) (λ_ _ _ _ _=>(dgc 0 1)) (λ_ _ _ _ _=>df) (λ_ _ _ _ _=>(sA c (dvc 1) (dvc 0) (dvc 0) ⟨rfl,rfl,rfl,rfl⟩)))))
def KE(W:Wd K mg a):qD P w K mg base a 2 "has_like" a.e_50 ["body","names"] yc:=by
 refine W.e_50.pk (b6 (F:=yb) W.e_50.F Cn λ_ _ _ _ _ _ b=>?_);have c:=b.units;unfold yb;exact (au (lF 2 1 [1] ["part","names"] Cn.nd rfl (DI.de (bH (dv 0))) (λ_ _ _ _ _=>(dgc 0 1)) (λ_ _ _ _ _=>(rB (bu (cO c) c9 (DE.db (ax (i6 0) aj)) (DE.db aQ)))) (λ_ _ _ _ _=>(bq (CH W) b (ah (JV (dvc 0) (ka aj) mO) (ah (dvc 1) aw)))))
 (aA (cn (da (Hd rfl) He rfl W.z_any boot_any (cq (DE.db (DO.de (e8 2 [] ["first","second"] rfl (DI.de (bH (dv 2))) (λ_ _ _ _ _=>(J4 rfl (bg (dgc 0 2) (bg (dgc 1 2) cQ)))) (λ_ _ _ _ _=>df) (λ_ _ _ _ _=>(gb (cO c) c9 (DE.db (dvc 0)) (DE.db (dvc 1))))))) cM)))))
def KF(W:Wd K mg a):qD P w K mg base a 1 "ways" a.e_10 ["pairs","kinds"] yd:=by
 refine W.e_10.pk (b6 (F:=tM) W.e_10.F kE λ_ _ _ _ _ _ b=>?_);have c:=b.units;unfold tM;exact (au (IJ 2 rfl kE.nd rfl W.z_dict (dv 1))
 (au (se 2 (cR 3 kE.nd (DO.de (cg (ah (DO.de (cg aw)) aw)))))
 (au (c6 cH rfl (bH (dv 0)) (cW rfl (bg (bj 4 8 kE.nd) (bg (bj 5 8 kE.nd) cQ))) (au (fP 6 kE.nd (cg aw))
 (au (c6 cH rfl (bH (dv 3)) (bj 7 8 kE.nd) (aA (oJ (dJ (dF eE nT nU oe (pv 6) (cs (DE.pe (DO.de (e8 1 [7] ["name","way"] rfl (DI.de (bH (jd c (dv 2) (dv 5)))) (λ_ _ _ _ _=>(dgc 0 1)) (λ_ _ _ _ _=>df) (λ_ _ _ _ _=>(DO.de (lL (dvc 1) (DO.de (cg (ah (dvc 0) aw))))))))) cJ))))))
 (aA (ge 6 (cR 3 kE.nd (dv 6)))))))
 (aA (gN 3)))))
def CI(W:Wd K mg a):qD P w K mg base a 2 "names_by_ways" a.e_15 ["pairs","kinds","outer"] tO:=by
 refine W.e_15.pk (b6 (F:=tN) W.e_15.F o4 λ_ _ _ _ _ _ b=>?_);unfold tN;exact (au (lF 3 2 [] ["variable","kind"] o4.nd rfl (DI.de (bH (dv 0))) (λ_ _ _ _ _=>(cW rfl (bg (dgc 0 2) (bg (dgc 1 2) cQ)))) (λ_ _ _ _ _=>df) (λ_ _ _ _ _=>(dvc 0)))
 (au (fP 4 o4.nd (cg aw))
 (au (c6 cH rfl (bH (bq (KF W) b (ah (dv 0) (ah (dv 1) aw)))) (bj 5 7 o4.nd) (au (B9 6 o4.nd rfl W.z_dict (dv 2))
 (au (Cc (dJ (dF qm uW PySem.F.type_dict_update B7 (pv 6) (cs (DE.pe (JO rfl rfl W.z_dict rfl W.z_zip (ah (dv 3) (ah (dv 5) aw)))) cJ))))
 (aA (ge 6 (jD (dJ (dF eE f6 f7 ga (pv 4) (cs (DE.pe (dv 6)) cJ)))))))))
 (aA (gN 4)))))
def KG(W:Wd K mg a):qD P w K mg base a 1 "choice" a.e_44 ["low","high","items","body"] ye:=by
 refine W.e_44.pk (b6 (F:=tP) W.e_44.F Co λ_ _ _ _ _ _ b=>?_);unfold tP;exact (au (rE 4 2 [3] ["text","worth","body"] Co.nd rfl (DI.de (bH (dv 2))) (λ_ _ _ _ _=>(cW rfl (bg (dgc 0 2) (bg (dgc 1 2) cQ)))) (λ_ _ _ _ _=>df) (λ_ _ _ _ _=>(bY (ah aQ (ah (dvc 0) (ah (dvc 2) aw))))))
 (au (jD (dJ (dF eE f6 f7 ga (pv 4) (cs (DE.pe (bY (ah aQ (ah j6 (ah (DO.de (lL (dv 3) (DO.de (cg (ah (bY (ah aQ (ah (ca jC (dv 0) aj) (ah (dv 2) aw)))) aw))))) aw))))) cJ))))
 (au (jD (dJ (dF eE f6 f7 ga (pv 4) (cs (DE.pe (bY (ah aQ (ah j6 (ah (DO.de (lL (dv 3) (DO.de (cg (ah (bY (ah aQ (ah (ca dY (dv 1) aj) (ah (dv 2) aw)))) aw))))) aw))))) cJ))))
 (aA (gN 4)))))
def KH(W:Wd K mg a):qD P w K mg base a 1 "shown_thing" a.e_32 ["thing"] yf:=by
 refine W.e_32.pk (b6 (F:=tQ) W.e_32.F xy λ_ _ _ _ _ _ b=>?_);unfold tQ;exact (au (cR 1 xy.nd (ax (dvC 0) aj))
 (au (cR 2 xy.nd (IT (dF PySem.F.plainAttrs_str PySem.F.slot_str_join PySem.F.type_str_join IS (DE.pe aQ) (cs (DE.pe (ax (dvC 0) aj)) cJ))))
 (aA (cn (vA (j7 (DE.db (dv 2))) (IW (BX (dv 1) (BW (BX (dv 2) (BW IU))))) (dv 1))))))
def t4(W:Wd K mg a):qD P w K mg base a 2 "text_of" a.e_20 ["thing","names"] nk:=by
 refine W.e_20.pk (b6 (F:=yg) W.e_20.F Kb λ_ _ _ _ _ _ b=>?_);unfold yg;exact(aA (cn (bq (KH W) b (ah (bY (ah (ax (dvC 0) aj) (ah (bq (CH W) b (ah (ax (dvC 0) aj) (ah (dv 1) aw))) aw))) aw))))
def CJ(W:Wd K mg a):qD P w K mg base a 3 "put_items" a.e_21 ["items","over","names","kinds"] tS:=by
 refine W.e_21.pk (b6 (F:=tR) W.e_21.F sE λ_ _ _ _ _ _ b=>?_);unfold tR;exact (au (fP 4 sE.nd (cg aw))
 (au (c6 cH rfl (bH (dv 0)) (cW rfl (bg (bj 5 7 sE.nd) (bg (bj 6 7 sE.nd) cQ))) (aA (oJ (dJ (dF eE nT nU oe (pv 4) (cs (DE.pe (DO.de (e8 1 [6,5] ["inner","worth","thing"] rfl (DI.de (bH (bq (CI W) b (ah (dv 1) (ah (dv 3) (ah (dv 2) aw)))))) (λ_ _ _ _ _=>(dgc 0 1)) (λ_ _ _ _ _=>df) (λ_ _ _ _ _=>(bY (ah (bq (t4 W) b (ah (dvc 2) (ah (dvc 0) aw))) (ah (dvc 1) aw))))))) cJ))))))
 (au (ge 4 (i9 (bq (yp W) b (ah (dv 4) (ah (ww rfl W.g_MOST_ITEMS) (ah aQ aw))))))
 (aA (gN 4)))))
def KI(W:Wd K mg a):qD P w K mg base a 4 "put_part" a.e_45 ["part","names","kinds"] tW:=by
 refine W.e_45.pk (b6 (F:=tU) W.e_45.F Kc λ_ _ _ _ _ _ b=>?_);have c:=b.units;unfold tU;exact (au (bZ (bu (cO c) c9 (DE.db (ax (dvC 0) aj)) (DE.db aQ)) (aA (cn (bY (ah aQ (ah (bq (t4 W) b (ah (ax (dvC 0) aj) (ah (dv 1) aw))) aw))))) cb)
 (au (bZ (bu (cO c) c9 (DE.db (ax (dvC 0) aj)) (DE.db aQ)) (aA (cn (bY (ah aQ (ah (bq (t4 W) b (ah (ax (dvC 0) aj) (ah (dv 1) aw))) aw))))) cb)
 (aA (cn (bY (ah (ax (dvC 0) aj) (ah (ax (dvC 0) aj) (ah (bq (CJ W) b (ah (ax (dvC 0) aj) (ah (ax (dvC 0) aj) (ah (dv 1) (ah (dv 2) aw))))) aw))))))))
def KJ(W:Wd K mg a):qD P w K mg base a 5 "rules_by" a.e_34 ["row","names","kinds"] yh:=by
 refine W.e_34.pk (b6 (F:=tX) W.e_34.F xA λ_ _ _ _ _ _ b=>?_);have c:=b.units;unfold tX;exact (au (lF 3 1 [1,2] ["part","names","kinds"] xA.nd rfl (DI.de (bH (ax (dvC 0) (gu aj)))) (λ_ _ _ _ _=>(dgc 0 1)) (λ_ _ _ _ _=>(rB (bu (gK c) gJ (DE.db (ax (i6 0) aj)) (DE.db aQ)))) (λ_ _ _ _ _=>(bq (KI W) b (ah (dvc 0) (ah (dvc 1) (ah (dvc 2) aw))))))
 (au (bZ (bu (cO c) c9 (DE.db (ax (dvC 0) aj)) (DE.db aQ)) (aA (vN (cg (ah (bY (ah aQ (ah j6 (ah (dv 3) aw)))) aw)))) cb)
 (au (bZ (bu (cO c) c9 (DE.db (ax (dvC 0) aj)) (DE.db aQ)) (aA (cn (bq (KG W) b (ah (ax (dvC 0) aj) (ah (ax (dvC 0) aj) (ah (bq (CJ W) b (ah (ax (dvC 0) aj) (ah (ax (dvC 0) aj) (ah (dv 1) (ah (dv 2) aw))))) (ah (dv 3) aw))))))) cb)
 (au (cR 4 xA.nd (vA (bu (cO c) c9 (DE.db (ax (dvC 0) aj)) (DE.db aQ)) aQ aQ))
 (aA (vN (cg (ah (bY (ah (dv 4) (ah (bq (t4 W) b (ah (ax (dvC 0) aj) (ah (dv 1) aw))) (ah (dv 3) aw)))) aw))))))))
def KL(W:Wd K mg a):qD P w K mg base a 6 "rules_of" a.e_26 ["rows","kinds"] yi:=by
 refine W.e_26.pk (b6 (F:=tY) W.e_26.F sD λ_ _ _ _ _ _ b=>?_);have c:=b.units;unfold tY;exact (au (fP 2 sD.nd (cg aw))
 (au (c6 cH rfl (bH (dv 0)) (bj 3 5 sD.nd) (aA (bZ (bu (gK c) gJ (DE.db (ax (dvC 3) aj)) (DE.db aQ)) (aA (c6 cH rfl (bH (bq (CI W) b (ah (ax (dvC 3) (gu aj)) (ah (dv 1) (ah Jz aw))))) (bj 4 5 sD.nd) (aA (bZ (vz (j7 (DE.db (bq (KE W) b (ah (ax (dvC 3) (gu aj)) (ah (dv 4) aw)))))) (au (oJ (dJ (dF eE nT nU oe (pv 2) (cs (DE.pe (bq (KJ W) b (ah (dv 3) (ah (dv 4) (ah (dv 1) aw))))) cJ))))
 (aA (i9 (rV (yp W) b (cq (dvB 2) (cq (DE.db (ww rfl W.g_MOST_RULES)) (cq (DE.db aQ) cM))))))) cb)))) cb)))
 (aA (gN 2))))
def KM(W:Wd K mg a):qD P w K mg base a 7 "plain_of" a.e_33 ["rows"] yj:=by
 refine W.e_33.pk (b6 (F:=tZ) W.e_33.F xz λ_ _ _ _ _ _ b=>?_);unfold tZ;exact (au (cR 1 xz.nd (bq (KL W) b (ah (dv 0) (ah (bq (Kz W) b (ah (dv 0) aw)) aw))))
 (au (cR 2 xz.nd (bq (KD W) b (ah (dv 1) aw)))
 (aA (cn (bY (ah (DO.de (JT rfl rfl W.z_list (dv 2))) (ah (bY (ah (wx rfl W.z_len (DE.db (dv 2))) (ah (DO.de (e8 1 [2] ["rule","places"] rfl (DI.de (bH (dv 1))) (λ_ _ _ _ _=>(dgc 0 1)) (λ_ _ _ _ _=>df) (λ_ _ _ _ _=>(bq (KB W) b (ah (dvc 0) (ah (dvc 1) aw)))))) aw))) aw)))))))
def KN(W:Wd K mg a):qD P w K mg base a 10 "law" a.e_1 ["_law_script"] m_1:=by
 refine W.e_1.pk (b6 (F:=b_1) W.e_1.F fT λ_ _ _ _ _ _ d=>?_);have e:=d.units;unfold b_1;exact (au (cR 1 fT.nd (bq (Ks W) d (ah (dv 0) (ah aj aw))))
 (au (cR 2 fT.nd (bq (CB W) d (ah (ax (dvC 1) aj) aw)))
 (au (cR 3 fT.nd (ax (dvC 2) (gu aj)))
 (au (v4 (bq (KM W) d (ah (dv 2) aw)) (cW rfl (bg (bj 4 15 fT.nd) (bg (bj 5 15 fT.nd) cQ))))
 (au (bZ (bu (gK e) gJ (DE.db (dv 2)) (DE.db (bq (CB W) d (ah (ax (dvC 1) aj) aw)))) (aA (cn gs)) cb)
 (au (fP 6 fT.nd (cg (ah (ax (dvC 1) aj) aw)))
 (au (rO 7 fT.nd)
 (au (c6 cH rfl (bH (dv 4)) (bj 8 15 fT.nd) (aA (JY e (pv 7) (dv 8) (IR (cO e) (wd (cD W) d (bB 6 (aL (DE.dx aj) aZ))) (DE.dx aj)))))
 (au (rO 9 fT.nd)
 (au (c6 cH rfl (bH (DO.de (by refine rp ?a ?b ?c; (case a=>exact (dv 2)); (case b=>exact mO); (case c=>exact (ka (gu aj)))))) (bj 10 15 fT.nd) (aA (Bc e (pv 9) (ax (dvC 10) aj) (ax (dvC 10) aj))))
 (au (cR 11 fT.nd aj)
 (au (ge 9 (c6 cH rfl (oH rfl W.z_range (ah (bq (ym W) d (ah (ax (dvC 3) aj) (ah (dv 9) aw))) aw)) (bj 12 15 fT.nd) (au (ge 9 (cR 13 fT.nd (bq (Cu W) d (ah (dv 12) (ah (ax (dvC 3) aj) (ah (dv 9) aw))))))
 (aA (bZ (j7 (DE.db (bq (Km W) d (ah (ax (dvC 3) aj) (ah (dv 13) aw))))) (au (ge 9 (cR 14 fT.nd (ca dY (ca jH (da dR dS rfl W.z_len dD (cq (DE.db (ax (dvC 3) aj)) cM)) (bq (ym W) d (ah (ax (dvC 3) aj) (ah (dv 9) aw)))) aj)))
 (au (ge 7 (ge 9 (bZ (vz (j7 (DE.db (bq (Kl W) d (ah (DO.de (by refine rp ?a ?b ?c; (case a=>exact (ax (dvC 5) aj)); (case b=>exact (ka (dv 11))); (case c=>exact (ka (ca dY (dv 11) (dv 14)))))) (ah (dv 3) (ah (dv 9) (ah (dv 13) (ah (dv 4) (ah (dv 7) aw)))))))))) (aA (cn gs)) cb)))
 (aA (we 11 fT.nd (DE.dx (dv 14)))))) cb)))))
 (aA (cn (q9 (gb (cO e) c9 (DE.db (dv 11)) (DE.db (da dR dS rfl W.z_len dD (cq (DE.db (ax (dvC 5) aj)) cM)))) (ox (gb (cO e) c9 (DE.db (ax (dvC 5) aj)) (DE.db (da dR dS rfl W.z_len dD (cq (DE.db (dv 4)) cM))))))))))))))))))))
local macro_rules | `(tactic| walk_at "evS")=>`(tactic| first | decide | lia | assumption | exact ⟨by decide,by decide⟩ | exact ⟨by lia,by lia⟩ | exact .inl ⟨by decide,by decide⟩ | exact .inr ⟨by decide,by decide⟩ | exact .inl ⟨by lia,by lia⟩ | exact .inr ⟨by lia,by lia⟩ | exact ⟨by decide,by decide,by decide⟩)
local macro_rules | `(tactic| walk_at "evO")=>`(tactic| first | with_reducible exact gh | with_reducible exact iG | with_reducible exact oN | with_reducible exact iH | with_reducible exact mS | with_reducible exact Bl | with_reducible exact jE _ _ | with_reducible exact vQ _ _ | ((with_reducible apply lM); (focus walk_at "evS")) | ((with_reducible apply rR); (focus walk_at "evS")) | ((with_reducible apply dMul_eq); (focus walk_at "evS")) | ((with_reducible apply jc); (focus first | assumption | exact .inl (by walk_at "evS") | exact .inr ⟨by lia,by lia⟩)) | ((with_reducible apply rS); (focus walk_at "evS")) | ((with_reducible apply dShr_eq); (focus walk_at "evS")) | with_reducible exact dEq_str _ _ | with_reducible exact dNe_str _ _ | with_reducible exact rJ _ _ | with_reducible exact dAndB_eq | exact dEq_nil _ _ | exact dNe_nil _ _ | assumption | rfl)
local macro_rules | `(tactic| walk_at "ev")=>`(tactic| first
 | with_reducible assumption
 | ((with_reducible apply ao); (focus walk_at "ev"); (focus walk_at "ev"); (focus walk_at "evO"))
 | ((with_reducible apply aI); (focus walk_at "ev"))
 | ((with_reducible apply jF); (focus walk_at "ev"); (focus first | assumption | rfl))
 | ((with_reducible apply kj); (focus walk_at "ev"); (focus walk_at "ev"))
 | ((with_reducible apply hV); (focus walk_at "ev"); (focus walk_at "ev"))
 | ((with_reducible apply rK); (focus walk_at "ev"))
 | ((with_reducible apply oK); (focus walk_at "ev"); (focus walk_at "ev"))
 | ((with_reducible apply A1); (focus walk_at "ev"); (focus walk_at "ev"))
 | ((with_reducible apply A2); (focus walk_at "ev"))
 | ((with_reducible apply ai); (focus walk_at "ev"); (focus walk_at "ev"))
 | ((with_reducible apply cv); (focus walk_at "ev"))
 | ((with_reducible apply bV); (focus walk_at "ev"))
 | ((with_reducible apply aN); (focus walk_at "ev"); (focus first | with_reducible assumption | with_reducible exact dZ _ _ | assumption | exact dZ _ _ | exact len_kl _ _ | rfl))
 | ((with_reducible apply callS_is); (focus walk_at "ev"); (focus assumption); (focus rfl))
 | ((with_reducible apply ak); (focus walk_at "ev"); (focus walk_at "ev"); (focus first | assumption | rfl))
 | ((with_reducible apply sl_kl); (focus walk_at "ev"); (focus rfl); (focus rfl))
 | ((with_reducible apply rT); (focus walk_at "ev"); (focus rfl); (focus rfl))
 | ((with_reducible apply bp); (focus walk_at "ev"); (focus rfl))
 | rfl)
local macro_rules | `(tactic| walk_at "nrm")=>`(tactic| simp only [Bh,set_cons_succ,set_cons_zero])
local macro_rules | `(tactic| walk_at "set")=>`(tactic| (apply ap; (first | with_reducible apply b8 | with_reducible apply dW); (focus walk_at "ev"); walk_at "nrm"))
local macro_rules | `(tactic| walk_at "if0")=>`(tactic| ((with_reducible first | apply ba | apply cw); (focus walk_at "ev")))
open PySem.Builtin PySem.Builtin.Str
@[reducible]noncomputable def tx(l:LN):Str:=⟨l.toArray⟩
def fw(l:LN):(tx l).length=l.length:=by show l.toArray.size=_;simp
def lX(a b:LN):tx a++tx b=tx (a++b):=by
 apply Str.ext';rw[Str.cps_append];simp
def yq(z:Str):tx z.cps.toList=z:=by
 apply Str.ext';simp
def ji{a b:LN}(h:tx a=tx b):a=b:=by
 have:=congrArg (λz:Str=>z.cps.toList) h
 simpa using this
variable{ρ:LS}{d:D}
def aR{f:MF1}(h:f ρ=aa d):mX f ρ=aa (d,ρ):=by
 unfold mX;rw[h];rfl
variable{ρ1 dy:LS}{x:D}
def cE{m:D->D->OD}{f g:Xe}{y:D}(b:f ρ=aa (x,ρ1))(c:g ρ1=aa (y,dy))(e:m x y=aa d):mX2 m f g ρ=aa (d,dy):=by
 unfold mX2;rw[b,aC,c,aC,e];rfl
variable{ds:LD}
def bm{f:Xe}{g:Xa}(b:f ρ=aa (d,ρ1))(c:g ρ1=aa (ds,dy)):aF f g ρ=aa (d::ds,dy):=by
 unfold aF;rw[b,aC,c];rfl
def KO{f:Xa}{b:LD}(c:f ρ=aa (b,ρ1))(e:kf b=aa ds):jf f ρ=aa (ds,ρ1):=by
 unfold jf;rw[c,aC,e];rfl
variable{i:Nat}{m:Addr->LD->LD->LD->Option (LD×D)}{l:Addr}{xs0 xs ys:LD}
def gj{f:Xa}{h:Addr}(b:ρ[i]?=aa (.pin h xs0))(c:f ρ=aa (ds,ρ1))(e:ρ1[i]?=aa (.pin l xs))(g:m l [] ds xs=aa (ys,d)):aX i m f ρ=aa (d,ρ1.set i (.pin l ys)):=by
 unfold aX;rw[b,c,aC,e];show(m l [] ds xs).map _=_;rw[g];rfl
open Classical in
def yr{f:Xa}(c:ρ[i]?=aa (.own xs0))(g:f ρ=aa (ds,ρ1))(j:ρ1[i]?=aa (.own xs))(b:∀l,m l [] ds xs=aa (ys,d)):lP i m f ρ=aa (d,ρ1.set i (.own ys)):=by
 unfold lP;rw[c];show(f ρ).bind _=_;rw[g,aC];dsimp only;rw[j];show(if h:∃q,∀l,m l [] ds xs=aa q then _ else ab)=_;rw[dif_pos ⟨(ys,d),b⟩]
 have e:(⟨(ys,d),b⟩:∃q,∀l,m l [] ds xs=aa q).choose=(ys,d):=by
  have:=(⟨(ys,d),b⟩:∃q,∀l,m l [] ds xs=aa q).choose_spec 0;rw[b 0]at this;exact cj this.symm
 rw[e]
variable{K:Fl->Prop}
def eL{f:Xe}(h:f ρ=aa (d,ρ1))(k:K (.nx (ρ1.set i (.im d)))):wp (c7 i f) ρ K:=⟨_,by unfold c7;rw[h];rfl,k⟩
def nq{f:Xe}(h:f ρ=aa (d,ρ1))(k:K (.rtS d ρ1)):wp (jJ f) ρ K:=⟨_,by unfold jJ;rw[h];rfl,k⟩
def yt{f:Xe}{z:D}(b:ρ[i]?=aa (.im x))(h:f ρ=aa (d,ρ1))(c:oU x d=aa z)(k:K (.nx (ρ1.set i (.im z)))):wp (lQ i f) ρ K:=⟨_,by
 unfold lQ;rw[b];show(f ρ).bind _=_;rw[h,aC,c];rfl,k⟩
variable{b:Bool}
def pj{t:Xt}{F c:MF3}(h:t ρ=aa (b,ρ1))(g:b=ac->wp F ρ1 K)(e:b=ag->wp c ρ1 K):wp (kz t F c) ρ K:=by
 unfold wp kz;rw[h]
 cases b with
 |true=>exact g rfl
 |false=>exact e rfl
abbrev nx(s:Int):Int:=(s*1181783497276652981+12345678910987) % (2 ^ 61-1)
abbrev okS(s:Int):Prop:=0<=s/\s<2305843009213693951
def bz(s:Int):okS (nx s):=by
 unfold okS nx;lia
abbrev dr(s k:Int):Int:=nx s / 65537 % k
variable{k:Int}
def bJ(s:Int)(h:0<k):0<=dr s k/\dr s k<k:=⟨Int.emod_nonneg _ (by lia),uA _ h⟩
def nr(l:Addr)(s k:Int)(h:okS s)(g:0<k):m_0 l [] [.int k] [.int s]=aa ([.int (nx s)],.int (dr s k)):=by
 obtain⟨j,n⟩:=h
 have w:wp b_0 [.pin l [.int s],.im (.int k)] (λo=>o=.rtS (.int (dr s k)) [.pin l [.int (nx s)],.im (.int k)]):=by
  apply ap;have c:kr s 1181783497276652981:=.inr ⟨by lia,by decide⟩;exact Ig (ao (ao (ao rfl rfl (jc c)) rfl gh) (ao (ao rfl rfl (rS (by decide))) rfl iG) (lM (by decide))) rfl rfl (by decide) (by show _<1;decide) (ib (ao (ao rfl rfl (rR (by have:=bz s;unfold okS at this;walk_at "evS"))) rfl (lM g)) rfl)
 obtain⟨o,e,rfl⟩:=w;exact ic e rfl
abbrev smL:LN:=("abcdefghijklmnopqrstuvwxyz":Str).cps.toList
def yu:smL.length=26:=by decide +kernel
def smT:("abcdefghijklmnopqrstuvwxyz":Str)=tx smL:=(yq _).symm
abbrev stp(sp:Int)(p:Int×LN):Int×LN:=(nx p.1,p.2++[smL.getD (dr p.1 sp).toNat 0])
abbrev its(sp:Int):Nat->Int×LN->Int×LN
 | 0,p=>p
 |n+1,p=>stp sp (its sp n p)
def yv(sp:Int)(p:Int×LN)(h:okS p.1):∀n,okS (its sp n p).1/\(its sp n p).2.length=p.2.length+n
 | 0=>⟨h,rfl⟩
 |n+1=>by
  obtain⟨a,c⟩:=yv sp p h n;refine⟨bz _,?_⟩;show((its sp n p).2++[_]).length=_;rw[aJ,c];rfl
def CK(a b:LN)(h:a.length+b.length<=2000):cN (.str (tx a)) (.str (tx b))=aa (.str (tx (a++b))):=by
 show(if (tx a).length+(tx b).length<=16777216 then aa _ else ab)=_;rw[fw,fw,if_pos (by lia),lX]
def yw(c:LN)(v:Int)(h:0<=v/\v<(c.length:Nat))(g:c.length<=1000):jK (.str (tx c)) (.int v)=aa (.str (tx [c.getD v.toNat 0])):=by
 show(if 0<=v/\v<2 ^ 63/\v<_ then ((tx c).cps[v.toNat]?).map _ else ab)=_;rw[if_pos ⟨h.1,by lia,by rw[fw];exact h.2⟩];have e:v.toNat<c.length:=by lia
 rw[pV,cr e,fm,cr e];rfl
def t5(v:Int)(a:0<=v)(b:v<=500):kf [D.int v]=aa ((ci v.toNat).map λ(i:Nat)=>D.int i):=by
 show(if -_<=v/\v<2 ^ 62 then aa _ else ab)=_;rw[if_pos ⟨by lia,by lia⟩,AY];simp
abbrev smP(n sp s:Int):Int×LN:=its sp n.toNat (s,[])
def t6(n sp s:Int)(h:okS s)(e:0<=n):okS (smP n sp s).1/\((smP n sp s).2.length:Int)=n:=by
 obtain⟨a,c⟩:=yv sp (s,[]) h n.toNat;refine⟨a,?_⟩;unfold smP;rw[c];simp only[length_nil];lia
def KP(l:Addr)(s n sp:Int)(h:okS s)(c:0<=n/\n<=500)(j:0<sp/\sp<=26):pc l [] [.int n,.int sp] [.int s]=aa ([.int (smP n sp s).1],.str (tx (smP n sp s).2)):=by
 have w:wp sW [.pin l [.int s],.im (.int n),.im (.int sp),.no,.no] (λo=>∃a,o=.rtS (.str (tx (smP n sp s).2)) [.pin l [.int (smP n sp s).1],.im (.int n),.im (.int sp),.im (.str (tx (smP n sp s).2)),a]):=by
  apply ap;refine b8 rfl ?_;show wp _ [.pin l _,.im _,.im _,.im (.str (tx [])),.no] _;apply ap;refine cK (ci n.toNat) (λi=>D.int i) (λpre ρ=>∃a,ρ=[.pin l [.int (its sp pre.length (s,[])).1],.im _,.im _,.im (.str (tx (its sp pre.length (s,[])).2)),a]) ?_ ⟨_,rfl⟩ ?_ ?_
  .have u:af (ae 1) nZ [.pin l [.int s],.im _,.im (.int sp),.im (.str (tx [])),.no]=aa [.int n]:=rfl;unfold gL;rw[u,aC,t5 n c.1 c.2]
  .rintro pre x post ρ v ⟨a,rfl⟩;refine⟨_,rfl,?_⟩;obtain⟨q,r⟩:=(yv sp (s,[]) h) pre.length
   have g:pre.length<n.toNat:=by
    have:=congrArg e6 v;rw[dP,aJ,bP]at this;lia
   generalize hp:its sp pre.length _=p at q r;have y:=bJ p.1 j.1;have t:aX 0 m_0 (aF (mX (ae 2)) aO) _=aa _:=gj (ρ1:=[.pin l _,.im (.int n),.im _,.im (.str (tx p.2)),.im (.int x)]) rfl (bm (aR rfl) rfl) rfl (nr l p.1 sp q j.1);refine yt (z:=.str (tx (stp sp p).2)) rfl (cE (aR (by rw[smT])) t (yw smL _ (by rw[yu];lia) (by rw[yu];decide))) ?_ ?_
   .show(if (tx p.2).length+(tx [_]).length<=16777216 then aa _ else ab)=_;rw[fw,fw,if_pos (by rw[r];simp only[length_nil,bP];lia),lX];rfl
   .refine⟨.im (.int x),?_⟩;rw[aJ,show([x]:LN).length=1 from rfl];show _=[Sl.pin l [.int (stp sp _).1],.im _,.im _,.im (.str (tx (stp sp _).2)),.im _];rw[hp];rfl
  .rintro ρ ⟨a,rfl⟩;rw[dP];exact ib rfl ⟨a,rfl⟩
 obtain⟨o,e,a,rfl⟩:=w;exact ic e rfl
def dg(l:Addr)(s k:Int)(r:LS){f:MF1}(c:f (.pin l [.int s]::r)=aa (.int k))(h:okS s)(e:0<k):aX 0 m_0 (aF (mX f) aO) (.pin l [.int s]::r)=aa (.int (dr s k),.pin l [.int (nx s)]::r):=gj (ρ1:=.pin l _::r) rfl (bm (aR c) rfl) rfl (nr l s k h e)
abbrev itP{c:Type}(F:Int->Int×c):Nat->Int->Int×List c
 | 0,s=>(s,[])
 |n+1,s=>((itP F n (F s).1).1,(F s).2::(itP F n (F s).1).2)
def kK{e:Type}{F:Int->Int×e}(c:∀s,okS (F s).1):∀n s,okS s->okS (itP F n s).1/\(itP F n s).2.length=n
 | 0,s,h=>⟨h,rfl⟩
 |n+1,s,_=>⟨(kK c n _ (c s)).1,by show(_::(itP F n (F s).1).2).length=_;rw[bP,(kK c n _ (c s)).2]⟩
def kL{g:Type}{F:Int->Int×g}{P:g->Prop}(c:∀s,P (F s).2):∀n s,∀x∈(itP F n s).2,P x
 | 0,_,x,h=>(cT h).elim
 |n+1,s,x,h=>by
  rcases bX.mp (h)with e |e
  .rw[e];exact c s
  .exact kL c n _ x e
abbrev grL:LN:=("ABCDEFGHIJKLMNOPQRSTUVWXYZ":Str).cps.toList
def grT:("ABCDEFGHIJKLMNOPQRSTUVWXYZ":Str)=tx grL:=(yq _).symm
def yx:grL.length=26:=by decide +kernel
abbrev kpS:LSt:=["kind","rule","may","choose","never","if","and","not","unlike","least","most","of","to","over","in","for"]
abbrev kpW:L2N:=kpS.map λz=>z.cps.toList
abbrev kept(w:LN):Bool:=kpW.any λk=>k==w
def kpD:kpS.map D.str=kpW.map λw=>D.str (tx w):=by
 refine map_congr_left λz _=>?_;show D.str z=D.str (tx z.cps.toList);rw[yq]
def inK(w:LN):dIn (.str (tx w)) (.lst (kpW.map λw=>D.str (tx w)))=aa (.bl (kept w)):=by
 show Option.map D.bl (if ((D.str (tx w)).scalar && (kpW.map λw=>D.str (tx w)).all D.scalar)=ac then aa _ else ab)=_;rw[if_pos (by rw[all_map];exact(cS _ _).mpr ⟨rfl,all_eq_true.mpr λ_ _=>rfl⟩),any_map];show aa _=_
 congr 2
 refine congrArg _ (funext λk=>?_);show(tx k==tx w)=_;apply fU.mpr;rw[beq_iff_eq,beq_iff_eq];exact⟨ji,λe=>by rw[e]⟩
abbrev yy(c w:LN):Bool:=w.all λx=>decide (x∈c)
abbrev made(w c:LN)(most:Nat):Bool:=(decide (1<=w.length) && decide (w.length<=most)) && yy c w
abbrev fA(w:LN):Bool:=made w smL 8 && !kept w
abbrev sp2(v:Int):Int:=if v=0 then 26 else 2
def nt(v:Int):0<sp2 v/\sp2 v<=26:=by unfold sp2;split <;> decide
def CL(sp:Int)(g:0<sp/\sp<=26)(p:Int×LN)(h:∀x∈p.2,x∈smL):∀n,∀x∈(its sp n p).2,x∈smL
 | 0,x,hx=>h x hx
 |n+1,x,hx=>by
  rcases dB.mp (hx)with e |e
  .exact CL sp g p h n x e
  .have d:=bJ (its sp n p).1 g.1;rw[bN]at e;have c:(dr (its sp n p).1 sp).toNat<smL.length:=by rw[yu];lia
   rw[e,fm,cr c];exact ju c
def CM(n sp s:Int)(e:0<sp/\sp<=26):yy smL (smP n sp s).2=ac:=all_eq_true.mpr λx c=>decide_eq_true (CL sp e _ (λx c=>(cT c).elim) n.toNat x c)
def KQ:∀k∈kpW,fA (122::k)=ac:=by decide +kernel
@[reducible]noncomputable def sT(w:LN):D:=.str (tx w)
def yz{c:Type}{F:Int->Int×c}{toD:c->D}(e:∀s,okS s->m l [] [] [.int s]=aa ([.int (F s).1],toD (F s).2))(s:Int)(r:LS)(h:okS s):aX 0 m aO (.pin l [.int s]::r)=aa (toD (F s).2,.pin l [.int (F s).1]::r):=gj (ρ1:=.pin l _::r) rfl rfl rfl (e s h)
variable{fa:Xa}
def CN(l:Addr)(s n sp:Int)(r:LS)(c:ρ[0]?=aa (.pin l xs))(e:fa ρ=aa ([.int n,.int sp],.pin l [.int s]::r))(h:okS s)(g:0<=n/\n<=500)(j:0<sp/\sp<=26):aX 0 pc fa ρ=aa (.str (tx (smP n sp s).2),.pin l [.int (smP n sp s).1]::r):=gj c e rfl (KP l s n sp h g j)
def yA(v:Int)(h:0<=v/\v<2):fu (.lst [.int 26,.int 2]) (.int v)=aa (.int (sp2 v)):=by
 have:v=0\/v=1:=by lia
 rcases this with e |e <;> (rw[e];rfl)
def zT:("z":Str)=tx [122]:=by decide +kernel
def bxX{f g:Xe}{m:D->D->OD}{ρ':LS}(h:mX2 m f g ρ=aa (.bl b,ρ')):mBX (mX2 m f g) ρ=aa (b,ρ'):=by
 unfold mBX;rw[h];rfl
def KR{f:Xe}(c:ρ[i]?=aa (.own xs0))(h:f ρ=aa (.lst ds,ρ1))(h':ρ1[i]?=aa (.own xs))(e:xs.length+ds.length<=16777216)(k:K (.nx (ρ1.set i (.own (xs++ds))))):wp (oZ i f) ρ K:=⟨_,by
 unfold oZ;rw[c];show(f ρ).bind _=_;rw[h,aC];dsimp only;rw[h'];show(if xs.length+ds.length<=16777216 then aa (Fl.nx (ρ1.set i (.own (xs++ds)))) else ab)=_;rw[if_pos e],k⟩
abbrev br(s:Int):Int×LN:=((smP (1+dr (nx s) 8) (sp2 (dr s 2)) (nx (nx s))).1,if kept (smP (1+dr (nx s) 8) (sp2 (dr s 2)) (nx (nx s))).2 then 122::(smP (1+dr (nx s) 8) (sp2 (dr s 2)) (nx (nx s))).2 else (smP (1+dr (nx s) 8) (sp2 (dr s 2)) (nx (nx s))).2)
def po(s:Int):okS (br s).1/\fA (br s).2=ac:=by
 have j:=bJ (nx s) (k:=8) (by decide);obtain⟨a,b⟩:=t6 (1+dr (nx s) 8) (sp2 (dr s 2)) (nx (nx s)) (bz _) (by lia);have h:=CM (1+dr (nx s) 8) (sp2 (dr s 2)) (nx (nx s)) (nt _);unfold br;generalize smP _ _ _=q at a b h;refine⟨a,?_⟩;dsimp only;split
 .rename_i e;unfold kept at e;obtain⟨k,g,c⟩:=any_eq_true.mp e;rw[beq_iff_eq]at c;subst c;exact KQ _ g
 .rename_i e;unfold fA made;rw[h,decide_eq_true (show 1<=q.2.length by lia),decide_eq_true (show q.2.length<=8 by lia),Bool.eq_false_iff.mpr e];rfl
def CO(l:Addr)(s:Int)(t:okS s):m_3 l [] [] [.int s]=aa ([.int (br s).1],.str (tx (br s).2)):=by
 have n:=bJ s (k:=2) (by decide);have v:=bJ (nx s) (k:=8) (by decide);have u:=bz s;have j:=bz (nx s)
 have w:wp b_3 [.pin l [.int s],.no,.no,.no] (λo=>∃c g h,o=.rtS (.str (tx (br s).2)) [.pin l [.int (br s).1],c,g,h]):=by
  unfold b_3 br;apply ap;refine dW rfl ?_;apply ap;refine KR rfl (aR rfl) rfl (by decide) ?_;show wp _ [.pin l [.int s],.own (kpS.map D.str),.no,.no] _;rw[kpD];apply ap;refine eL (cE (aR rfl) (dg l s 2 _ rfl t (by decide)) (yA _ n)) ?_;show wp _ [.pin l [.int (nx s)],.own (kpW.map λw=>D.str (tx w)),.im (.int (sp2 (dr s 2))),.no] _;apply ap;refine eL (CN l _ _ _ _ rfl (bm (cE (aR rfl) (dg l _ 8 _ rfl u (by decide)) gh) (bm (aR rfl) rfl)) j ⟨by lia,by lia⟩ (nt _)) ?_;obtain⟨p,r⟩:=t6 (1+dr (nx s) 8) (sp2 (dr s 2)) _ j (by lia);generalize smP _ _ _=q at p r;apply ap;refine gg rfl ?_;refine ba (aI (ao rfl rfl (inK q.2))) (λe=>?_) λe=>bA ?_
  .rw[e];exact ib (ao (by rw[zT]) rfl (CK _ q.2 (by rw[eZ];lia))) ⟨_,_,_,rfl⟩
  .rw[e];exact ib rfl ⟨_,_,_,rfl⟩
 obtain⟨o,e,c,g,h,rfl⟩:=w;exact ic e rfl
abbrev dw(s:Int):Int×LN:=
 ((smP (dr (nx (nx s)) 8) (sp2 (dr (nx (nx (nx s))) 2)) (nx (nx (nx (nx s))))).1,grL.getD (dr (nx s) (sp2 (dr s 2))).toNat 0::(smP (dr (nx (nx s)) 8) (sp2 (dr (nx (nx (nx s))) 2)) (nx (nx (nx (nx s))))).2)
abbrev jk(w:LN):Bool:=made (w.take 1) grL 1 && (decide (w.length=1) || made (w.drop 1) smL 7)
def CP(s:Int):okS (dw s).1/\jk (dw s).2=ac:=by
 have j:=nt (dr s 2);have p:=bJ (nx s) j.1;have n:=bJ (nx (nx s)) (k:=8) (by decide);obtain⟨a,b⟩:=t6 _ _ _ (bz _) n.1;have c:=CM (dr (nx (nx s)) 8) _ (nx (nx (nx (nx s)))) (nt (dr (nx (nx (nx s))) 2));unfold dw;generalize smP _ _ _=q at a b c;refine⟨a,?_⟩;have h:(dr (nx s) (sp2 (dr s 2))).toNat<grL.length:=by rw[yx];lia
 have g:grL.getD (dr (nx s) (sp2 (dr s 2))).toNat 0∈grL:=by
  rw[fm,cr h];exact ju h
 generalize grL.getD (dr _ _).toNat 0=x at g;show(made [x] grL 1 && (decide _ || made q.2 smL 7))=ac
 have o:made [x] grL 1=ac:=by
  unfold made yy;rw[jR,decide_eq_true g];rfl
 rw[o,pT,bP];unfold made;rw[c]
 by_cases e:q.2.length=0
 .rw[decide_eq_true (show q.2.length+1=1 by lia)];rfl
 .rw[decide_eq_true (show 1<=q.2.length by lia),decide_eq_true (show q.2.length<=7 by lia)];simp
def KS(l:Addr)(s:Int)(r:okS s):sX l [] [] [.int s]=aa ([.int (dw s).1],.str (tx (dw s).2)):=by
 have n:=nt (dr s 2);have t:=bJ (nx s) n.1;have p:=bJ (nx (nx s)) (k:=8) (by decide);have c:=bJ (nx (nx (nx s))) (k:=2) (by decide);have h:=nt (dr (nx (nx (nx s))) 2)
 have w:wp pd [.pin l [.int s],.no] (λo=>∃j,o=.rtS (.str (tx (dw s).2)) [.pin l [.int (dw s).1],j]):=by
  unfold pd dw;apply ap
  have q:aX 0 m_0 (aF (mX2 fu (mX (aT (af (λ_=>aa _) (af (λ_=>aa _) nZ)))) (aX 0 m_0 (aF (mX (λ_=>aa _)) aO))) aO) _=aa _:=
   gj (ρ1:=[.pin l _,.no]) rfl (bm (cE (aR rfl) (dg l s 2 _ rfl r (by decide)) (yA _ (bJ s (by decide)))) rfl) rfl (nr l _ _ (bz _) n.1)
  refine eL (cE (aR (by rw[grT])) q (yw grL _ (by rw[yx];lia) (by rw[yx];decide))) ?_;generalize grL.getD (dr _ _).toNat 0=x;have g:=bz (nx s);generalize nx (nx s)=s2 at *;obtain⟨a,b⟩:=t6 _ (sp2 (dr (nx s2) 2)) (nx (nx s2)) (bz _) p.1;refine nq (cE (aR rfl) (CN l _ _ _ _ rfl (bm (dg l s2 8 _ rfl g (by decide)) (bm (cE (aR rfl) (dg l _ 2 _ rfl (bz _) (by decide)) (yA _ c)) rfl)) (bz _) ⟨by lia,by lia⟩ h) (CK [x] _ (by rw[eZ];lia))) ⟨_,rfl⟩
 obtain⟨o,e,j,rfl⟩:=w;exact ic e rfl
abbrev cy(s:Int):Int×Int:=if dr (nx s) 4=0 then (nx (nx (nx s)),(dr s 9-2)*10 ^ 20+dr (nx (nx s)) (10 ^ 10)) else (nx (nx s),dr s 9-2)
def pq(s:Int):okS (cy s).1/\-(10 ^ 30)<(cy s).2/\(cy s).2<10 ^ 30:=by
 have e:=bJ s (k:=9) (by decide);have c:=bJ (nx (nx s)) (k:=10 ^ 10) (by decide);unfold cy;split
 .refine⟨bz _,?_⟩;show -(10 ^ 30)<(dr s 9-2)*10 ^ 20+dr (nx (nx s)) (10 ^ 10)/\(dr s 9-2)*10 ^ 20+dr (nx (nx s)) (10 ^ 10)<10 ^ 30;lia
 .refine⟨bz _,?_⟩;show -(10 ^ 30)<dr s 9-2/\dr s 9-2<10 ^ 30;lia
def KU(l:Addr)(s:Int)(n:okS s):m_4 l [] [] [.int s]=aa ([.int (cy s).1],.int (cy s).2):=by
 have p:=bJ s (k:=9) (by decide);have h:=bJ (nx (nx s)) (k:=10 ^ 10) (by decide)
 have w:wp b_4 [.pin l [.int s],.no] (λo=>∃g,o=.rtS (.int (cy s).2) [.pin l [.int (cy s).1],g]):=by
  unfold b_4 cy;apply ap;refine eL (cE (dg l s 9 _ rfl n (by decide)) (aR rfl) iG) ?_;show wp _ [.pin l [.int (nx s)],.im (.int (dr s 9-2))] _;apply ap;refine pj (bxX (cE (dg l (nx s) 4 _ rfl (bz _) (by decide)) (aR rfl) (jE _ _))) (λe=>?_) λe=>bA ?_
  .have c:dr (nx s) 4=0:=by simpa using e
   rw[if_pos c];refine nq (cE (aR (ao rfl (ao rfl rfl rfl) (jc (j:=10 ^ 20) (.inr ⟨by lia,by decide⟩)))) (dg l (nx (nx s)) (10 ^ 10) _ (ao rfl rfl rfl) (bz _) (by decide)) gh) ⟨_,rfl⟩
  .have c:¬dr (nx s) 4=0:=by simpa using e
   rw[if_neg c];exact ib rfl ⟨_,rfl⟩
 obtain⟨o,e,g,rfl⟩:=w;exact ic e rfl
def pw{f:Xe}(c:ρ[i]?=aa (.own xs0))(h:f ρ=aa (d,ρ1))(e:ρ1[i]?=aa (.own xs))(g:xs.length<16777216)(k:K (.nx (ρ1.set i (.own (xs++[d]))))):wp (iL i f) ρ K:=⟨_,by
 unfold iL;rw[c,h,aC,e];exact if_pos g,k⟩
def lY{f:Xa}(h:f ρ=aa (ds,ρ1)):je f ρ=aa (.tup ds,ρ1):=by
 unfold je;rw[h];rfl
def px{f:Xe}{v:Int}(h:f ρ=aa (.int v,ρ1))(a:0<=v)(b:v<=500):jf (aF f aO) ρ=aa ((ci v.toNat).map (λ(i:Nat)=>D.int i),ρ1):=KO (bm h rfl) (t5 v a b)
def yB{m:LD->OD}{f:Xa}(c:f ρ=aa (ds,ρ1))(e:m ds=aa d):kw m f ρ=aa (d,ρ1):=by
 unfold kw;rw[c,aC,e];rfl
def KW{f:Xa}(h:f ρ=aa (ds,ρ1)):oR f ρ=aa (.lst ds,ρ1):=by
 unfold oR;rw[h];rfl
def CQ(w:LN)(L:L2N):inD (.str (tx w)) (.lst (L.map sT))=aa (decide (w∈L)):=by
 show(if ((D.str (tx w)).scalar && (L.map sT).all D.scalar)=ac then aa _ else ab)=_;rw[if_pos (by rw[all_map];exact(cS _ _).mpr ⟨rfl,all_eq_true.mpr λ_ _=>rfl⟩),any_map]
 congr 1
 rw[fU,decide_eq_true_eq,any_eq_true];constructor
 .rintro⟨k,c,e⟩;have e:(tx k==tx w)=ac:=e;rw[beq_iff_eq]at e;exact ji e▸c
 .intro h;refine⟨w,h,?_⟩;show(tx w==tx w)=ac;exact beq_iff_eq.mpr rfl
def inW(w:LN)(L:L2N):dIn (.str (tx w)) (.lst (L.map sT))=aa (.bl (decide (w∈L))):=by
 unfold dIn;rw[CQ];rfl
def py(w:LN)(L:L2N):i5 (.str (tx w)) (.lst (L.map sT))=aa (.bl (!decide (w∈L))):=by
 unfold i5;rw[CQ];rfl
abbrev itN{c:Type}(f:c->c):Nat->c->c
 | 0,p=>p
 |n+1,p=>f (itN f n p)
abbrev itD{c:Type}(F:D->Int->Int×c):LD->Int->Int×List c
 | [],s=>(s,[])
 |d::ds,s=>((itD F ds (F d s).1).1,(F d s).2::(itD F ds (F d s).1).2)
variable{tl:LS}{fi:Xa}{s:Int}
def KY{n:Type}{j:Xe}{F:D->Int->Int×n}{toD:n->D}(p:∀d s,d∈ds->okS s->j [.im d,.pin l [.int s]]=aa (toD (F d s).2,[.im d,.pin l [.int (F d s).1]]))(o:∀d s,okS (F d s).1)(h:okS s)(hi:fi ρ=aa (ds,.pin l [.int s]::tl))(hz:ds.length<=1000):
  jg 1 [0] 0 0 fi (aB 0) j ρ=aa (.lst ((itD F ds s).2.map toD),.pin l [.int (itD F ds s).1]::tl):=by
 have g:∀(e:Sl) d s,d∈ds->okS s->jM 1 [0] 0 0 (aB 0) j (e::tl) l d [.int s]=aa (toD (F d s).2,[.int (F d s).1]):=λe d s hd h=>by
  unfold jM;show(aa [Sl.im d,Sl.pin l [.int s]]).bind _=_;rw[aC,p d s hd h,aC];refine if_pos λi hi=>?_
  cases i with
  |zero=>nomatch hi
  |succ i=>rfl
 have loop:∀(e:Sl) (c:LD) (s:Int),(∀d∈c,d∈ds)->okS s->gi 1 [0] 0 0 (aB 0) j (e::tl) l c [.int s]=aa ((itD F c s).2.map toD,[.int (itD F c s).1]):=λe c=>by
  induction c with
  |nil=>intro s _ _;rfl
  |cons d c t=>
   intro s hz h;unfold gi;rw[g e d s (hz d bW) h,aC,t (F d s).1 (λx r=>hz x (c8 _ r)) (o d s)];rfl
 unfold jg;rw[hi,aC];show(if ds.length<=16777216/\([0]:LN)[0]?=aa 0/\_=ac then (gi 1 [0] 0 0 _ _ _ l ds _).map λq=>_ else ab)=_;rw[if_pos ⟨by lia,rfl,rfl⟩,loop _ ds s (λ_ h=>h) h];rfl
abbrev fiP:L2N->Int->Int×L2N
 | [],s=>(s,[])
 |p::ps,s=>((fiP ps (nx s)).1,if 0<dr s 4 then p::(fiP ps (nx s)).2 else (fiP ps (nx s)).2)
def CS(p:LN)(ps:L2N)(s:Int):fiP (p::ps) s=((fiP ps (nx s)).1,if 0<dr s 4 then p::(fiP ps (nx s)).2 else (fiP ps (nx s)).2):=rfl
def KZ{tt:Xt}(j:∀d s,okS s->tt [.im d,.pin l [.int s]]=aa (decide (0<dr s 4),[.im d,.pin l [.int (nx s)]])){ps:L2N}(h:okS s)(hi:fi ρ=aa (ps.map sT,.pin l [.int s]::tl))(hz:ps.length<=1000):
  lT 1 [0] 0 0 fi (aB 0) tt (mX (ae 0)) ρ=aa (.lst ((fiP ps s).2.map sT),.pin l [.int (fiP ps s).1]::tl):=by
 have e:∀(c:Sl) (d:D) (y:OD) s,m6 1 [0] 0 0 (c::tl) l [.im d,.pin l [.int s]] y=aa (y,[.int s]):=λc d y s=>by
  unfold m6;refine if_pos λi hi=>?_
  cases i with
  |zero=>nomatch hi
  |succ i=>rfl
 have g:∀(c:Sl) d s,okS s->m7 1 [0] 0 0 (aB 0) tt (mX (ae 0)) (c::tl) l d [.int s]=aa (if 0<dr s 4 then aa d else ab,[.int (nx s)]):=λc d s h=>by
  unfold m7;show(aa [Sl.im d,Sl.pin l [.int s]]).bind _=_;rw[aC,j d s h,aC]
  by_cases hd:0<dr s 4
  .rw[decide_eq_true hd,if_pos hd];exact e c d _ _
  .rw[decide_eq_false hd,if_neg hd];exact e c d _ _
 have loop:∀(c:Sl) (ps:L2N) (s:Int),okS s->ie 1 [0] 0 0 (aB 0) tt (mX (ae 0)) (c::tl) l (ps.map sT) [.int s]=aa ((fiP ps s).2.map sT,[.int (fiP ps s).1]):=λc ps=>by
  induction ps with
  |nil=>intro s _;rfl
  |cons p ps n=>
   intro s h;rw[cY];unfold ie;rw[g c _ s h,aC];show(ie 1 [0] 0 0 _ _ _ _ l _ [.int (nx s)]).map _=_;rw[n (nx s) (bz s)];rw[CS]
   by_cases hd:0<dr s 4
   .rw[if_pos hd,if_pos hd];rfl
   .rw[if_neg hd,if_neg hd];rfl
 unfold lT;rw[hi,aC];show(if (ps.map sT).length<=16777216/\([0]:LN)[0]?=aa 0/\_=ac then (ie 1 [0] 0 0 _ _ _ _ l _ _).map λq=>_ else ab)=_;rw[if_pos ⟨by rw[av];lia,rfl,rfl⟩,loop _ ps s h];rfl
def CT(ps:L2N):∀s,okS s->okS (fiP ps s).1/\(fiP ps s).2.Sublist ps:=by
 induction ps with
 |nil=>exact λs h=>⟨h,.slnil⟩
 |cons p ps c=>
  intro s h;obtain⟨a,b⟩:=c (nx s) (bz s);refine⟨a,?_⟩;rw[CS];dsimp only;split
  .exact b.cons₂ _
  .exact b.cons _
abbrev plS(p:Int×L2N):Int×L2N:=((br p.1).1,if (br p.1).2∈p.2 then p.2 else p.2++[(br p.1).2])
def K0(p:Int×L2N)(g:p.2.Nodup)(j:∀w∈p.2,fA w=ac):okS (plS p).1/\(plS p).2.Nodup/\(∀w∈(plS p).2,fA w=ac)/\p.2.length<=(plS p).2.length/\(plS p).2.length<=p.2.length+1/\0<(plS p).2.length:=by
 obtain⟨a,b⟩:=po p.1;unfold plS;refine⟨a,?_⟩;dsimp only;split
 .rename_i h;exact⟨g,j,bf _,by lia,length_pos_of_mem h⟩
 .rename_i h;refine⟨gn.mpr ⟨g,by simp,λx n y o e=>?_⟩,λw c=>?_,by simp,by simp,by simp⟩
  .rw[bN.mp o]at e;rw[e]at n;exact h n
  .rcases dB.mp c with c |c
   .exact j w c
   .rw[bN.mp c];exact b
def nu{c:Type}{f:c->c}{I:Nat->c->Prop}(h:∀n p,I n p->I (n+1) (f p)){p:c}(e:I 0 p):∀n,I n (itN f n p)
 | 0=>e
 |n+1=>h n _ (nu h e n)
abbrev CU(n:Nat)(p:Int×L2N):Prop:=okS p.1/\p.2.Nodup/\(∀w∈p.2,fA w=ac)/\p.2.length<=n/\(0<n->0<p.2.length)
def yC(h:okS s)(n:Nat):CU n (itN plS n (s,[])):=
 nu (I:=CU) (λn p q=>by
  obtain⟨_,a,b,c,_⟩:=q;obtain⟨e,g,j,r,t,o⟩:=K0 p a b;exact⟨e,g,j,by lia,λ_=>o⟩) ⟨h,iu,λ_ z=>(cT z).elim,bf _,λz=>absurd z (iV _)⟩ n
abbrev hdP(d:D)(s:Int):Int×(LN×Int):=(nx (br s).1,((br s).2,match d with
 |.int m=>if dr (br s).1 4<m then dr (br s).1 4 else m
 | _=>0))
abbrev ig(s:Int):Int×List (LN×Int):=itD hdP [.int 3,.int 2,.int 2,.int 1] s
@[reducible]noncomputable def nrD(x:LN×Int):D:=.tup [sT x.1,.int x.2]
@[reducible]noncomputable def kdD(x:LN×L2N):D:=.tup [sT x.1,.lst (x.2.map sT)]
abbrev kdS(pl:L2N)(p:Int×List (LN×L2N)):Int×List (LN×L2N):=
 if 0<(fiP pl (br p.1).1).2.length/\(br p.1).2∉p.2.map (·.1) then
  (nx (fiP pl (br p.1).1).1,p.2++[((br p.1).2,if dr (fiP pl (br p.1).1).1 2=0 then (fiP pl (br p.1).1).2 else (fiP pl (br p.1).1).2.reverse)])
 else ((fiP pl (br p.1).1).1,p.2)
structure t7(pl:L2N)(ks:List (LN×L2N)):Prop where
 nd:(ks.map (·.1)).Nodup
 nm:∀k∈ks,fA k.1=ac
 ns:∀k∈ks,k.2.Nodup/\k.2≠[]/\∀w∈k.2,w∈pl
variable{pl:L2N}
def K1(hp:pl.Nodup){p:Int×List (LN×L2N)}(h:t7 pl p.2):okS (kdS pl p).1/\t7 pl (kdS pl p).2/\(kdS pl p).2.length<=p.2.length+1:=by
 obtain⟨a,b⟩:=po p.1;obtain⟨c,d⟩:=CT pl _ a;unfold kdS;generalize fiP pl (br p.1).1=f at c d;split
 .rename_i o;refine⟨bz _,⟨?_,λk g=>?_,λk g=>?_⟩,by simp⟩
  .rw[bh];refine gn.mpr ⟨h.nd,by simp,λx t y u e=>?_⟩;rw[show y=(br p.1).2 from bN.mp u]at e;rw[e]at t;exact o.2 t
  .rcases dB.mp g with g |g
   .exact h.nm k g
   .rw[bN.mp g];exact b
  .rcases dB.mp g with g |g
   .exact h.ns k g
   .rw[bN.mp g];have r:=d.nodup hp;have q:∀w∈f.2,w∈pl:=λw j=>d.subset j;have n:f.2≠[]:=jw.mp o.1;dsimp only;split
    .exact⟨r,n,q⟩
    .exact⟨pairwise_reverse.mpr (List.Pairwise.imp cF r),λz=>n (reverse_eq_nil_iff.mp z),λw j=>q w (k8.mp j)⟩
 .exact⟨c,h,by simp⟩
abbrev CV(pl:L2N)(n:Nat)(p:Int×List (LN×L2N)):Prop:=okS p.1/\t7 pl p.2/\p.2.length<=n
def CW(hp:pl.Nodup)(h:okS s)(n:Nat):CV pl n (itN (kdS pl) n (s,[])):=
 nu (I:=CV pl) (λn p g=>by
  obtain⟨_,a,b⟩:=g;obtain⟨c,e,j⟩:=K1 hp a;exact⟨c,e,by lia⟩) (p:=(s,[])) ⟨h,⟨iu,λ_ z=>(cT z).elim,λ_ z=>(cT z).elim⟩,bf _⟩ n
structure Lay where
 h:List (LN×Int)
 p:L2N
 k:List (LN×L2N)
@[reducible]noncomputable def Lay.toD(y:Lay):D:=.tup [.lst (y.h.map nrD),.lst (y.p.map sT),.lst (y.k.map kdD)]
abbrev gz(s:Int):Int×L2N:=itN plS (1+dr s 3).toNat (nx s,[])
abbrev nv(s:Int)(pl:L2N):Int×List (LN×L2N):=itN (kdS pl) (dr s 4).toNat (nx s,[])
abbrev gR(s:Int):Int×Lay:=((nv (ig (gz s).1).1 (gz s).2).1,⟨(ig (gz s).1).2,(gz s).2,(nv (ig (gz s).1).1 (gz s).2).2⟩)
structure fg(y:Lay):Prop where
 h:y.h.length=4/\∀x∈y.h,fA x.1=ac/\0<=x.2/\x.2<=3
 p:y.p.Nodup/\(∀w∈y.p,fA w=ac)/\0<y.p.length/\y.p.length<=3
 k:t7 y.p y.k/\y.k.length<=3
def K2(d:D)(s:Int):okS (hdP d s).1:=bz _
def CY(s:Int):okS (ig s).1/\(ig s).2.length=4/\∀x∈(ig s).2,fA x.1=ac/\0<=x.2/\x.2<=3:=by
 refine⟨bz _,rfl,λx c=>?_⟩
 have one:∀(m:Int) s,0<=m/\m<=3->fA (hdP (.int m) s).2.1=ac/\0<=(hdP (.int m) s).2.2/\(hdP (.int m) s).2.2<=3:=λm s e=>by
  refine⟨(po s).2,?_⟩;have d:=bJ (br s).1 (k:=4) (by decide);show 0<=(if dr (br s).1 4<m then dr (br s).1 4 else m)/\(if dr (br s).1 4<m then dr (br s).1 4 else m)<=3
  split <;> lia
 have c:x∈[(hdP (.int 3) s).2,(hdP (.int 2) (hdP (.int 3) s).1).2,(hdP (.int 2) (hdP (.int 2) (hdP (.int 3) s).1).1).2,(hdP (.int 1) (hdP (.int 2) (hdP (.int 2) (hdP (.int 3) s).1).1).1).2]:=c;simp only[bX,cT,or_false]at c
 rcases c with rfl |rfl |rfl |rfl
 .exact one 3 _ (by decide)
 .exact one 2 _ (by decide)
 .exact one 2 _ (by decide)
 .exact one 1 _ (by decide)
def CZ(s:Int):okS (gR s).1/\fg (gR s).2:=by
 have u:=bJ s (k:=3) (by decide);obtain⟨r,c,e,g,h⟩:=yC (bz s) (1+dr s 3).toNat;obtain⟨t,j,n⟩:=CY (gz s).1;have v:=bJ (ig (gz s).1).1 (k:=4) (by decide);obtain⟨o,p,q⟩:=CW c (bz (ig (gz s).1).1) (dr (ig (gz s).1).1 4).toNat;exact⟨o,⟨j,n⟩,⟨c,e,h (by lia),dC g (by lia)⟩,p,dC q (by lia)⟩
def C0(l:Addr)(s:Int)(r:LS)(h:okS s):aX 0 m_3 aO (.pin l [.int s]::r)=aa (sT (br s).2,.pin l [.int (br s).1]::r):=yz (toD:=sT) (λs h=>CO l s h) s r h
def C1(d:D)(r:LD):atI (d::r) 0=aa d:=by
 unfold atI ixN;rw[if_pos (by decide),if_pos (by rw[bP];lia)];rfl
def t8{c:Type}{f:c->D}{q:c->LN}{fi:MF2}{L:List c}(h:fi ρ=aa (L.map f))(g:∀x,∃r,f x=.tup (sT (q x)::r))(hz:L.length<=1000:=by lia):bv 1 [] fi (aB 0) kY (mIx (am 0) (kI 0)) ρ=aa ((L.map q).map sT):=by
 rw[map_map];refine fq L f (sT ∘ q) h (by lia) λz _=>?_;obtain⟨r,e⟩:=g z;rw[e];exact eW rfl rfl (ak rfl rfl (C1 _ _))
def K3(l:Addr)(s:Int)(hs:okS s):m_5 l [] [] [.int s]=aa ([.int (gR s).1],(gR s).2.toD):=by
 have d3:=bJ s (k:=3) (by decide)
 have w:wp b_5 [.pin l [.int s],.no,.no,.no,.no,.no,.no] (λo=>∃H j n I J r,o=.rtS (gR s).2.toD [.pin l [.int (gR s).1],H,j,n,I,J,r]):=by
  unfold b_5;apply ap;refine dW rfl ?_;show wp _ [.pin l [.int s],.own [],.no,.no,.no,.no,.no] _;refine km (λρ=>∃j n,ρ=[.pin l [.int (gz s).1],.own ((gz s).2.map sT),j,n,.no,.no,.no]) ?_ ?_
  .refine rZ (px (cE (aR rfl) (dg l s 3 _ rfl hs (by decide)) gh) (by lia) (by lia)) ?_;refine cK (ci (1+dr s 3).toNat) (λi=>D.int i) (λpre ρ=>∃j n,ρ=[.pin l [.int (itN plS pre.length (nx s,[])).1],.own ((itN plS pre.length (nx s,[])).2.map sT),j,n,.no,.no,.no]) rfl ⟨_,_,rfl⟩ ?_ ?_
   .rintro pre x post ρ G ⟨j,n,rfl⟩;refine⟨_,rfl,?_⟩;obtain⟨u,A,B,C,_⟩:=yC (bz s) pre.length
    have y:pre.length<3:=by
     have:=congrArg e6 G;rw[dP,aJ,bP]at this;lia
    rw[aJ,show([x]:LN).length=1 from rfl];show wp _ _ λo=>_;generalize hp:itN plS pre.length (nx s,[])=p at u A B C;have t:itN plS (pre.length+1) (nx s,[])=plS p:=by rw[<- hp];rfl
    rw[t];apply ap;refine eL (C0 l p.1 _ u) ?_;show wp _ [.pin l [.int (br p.1).1],.own (p.2.map sT),.im (.int x),.im (sT (br p.1).2),.no,.no,.no] _;refine ba (aI (ao rfl rfl (py _ _))) (λe=>?_) λe=>bA ?_
    .have v:(br p.1).2∉p.2:=by simpa using e
     refine ja rfl rfl (by rw[av];lia) ⟨.im (.int x),.im (sT (br p.1).2),?_⟩;unfold plS;rw[if_neg v,bh];rfl
    .have v:(br p.1).2∈p.2:=by simpa using e
     refine⟨.im (.int x),.im (sT (br p.1).2),?_⟩;unfold plS;rw[if_pos v]
   .rintro ρ ⟨j,n,rfl⟩;rw[dP];exact k_J ⟨j,n,rfl⟩
  rintro _ ⟨j,n,rfl⟩;obtain⟨u,A,B,C,k5⟩:=yC (bz s) (1+dr s 3).toNat;have hA:itN plS (1+dr s 3).toNat (nx s,[])=gz s:=rfl;rw[hA]at u A B C;unfold gR;generalize gz s=c at u A B C;apply ap;refine eL (KY (F:=hdP) (toD:=nrD) (ds:=[.int 3,.int 2,.int 2,.int 1]) (λd s hd h=>?_) (λd s=>K2 d s) u (by unfold mU;rw[aR rfl];rfl) (by decide)) ?_
  .obtain⟨m,rfl⟩:∃m,d=.int m:=by
    simp only[bX,cT,or_false]at hd
    rcases hd with e |e |e |e <;> exact⟨_,e⟩
   have E:=(po s).1;refine lY (bm (gj (i:=1) (ρ1:=[.im (.int m),.pin l [.int s]]) rfl rfl rfl (CO l s h)) (bm (yB (ds:=[.int m,.int (dr (br s).1 4)]) (bm (aR rfl) (bm (gj (i:=1) (ρ1:=[.im (.int m),.pin l [.int (br s).1]]) rfl (bm (aR rfl) rfl) rfl (nr l _ 4 E (by decide))) rfl)) rfl) rfl))
  obtain⟨Q,h2,h3⟩:=CY c.1;show wp _ [.pin l [.int (ig c.1).1],.own (c.2.map sT),j,n,.im (.lst ((ig c.1).2.map nrD)),.no,.no] _;generalize ig c.1=g at Q h2 h3;have d4:=bJ g.1 (k:=4) (by decide);apply ap;refine dW rfl ?_;show wp _ [.pin l [.int g.1],.own (c.2.map sT),j,n,.im (.lst (g.2.map nrD)),.own [],.no] _;refine km (λρ=>∃z j n r,(z=Sl.own (c.2.map sT)\/z=.im (.lst (c.2.map sT)))/\ρ=[.pin l [.int (nv g.1 c.2).1],z,j,n,.im (.lst (g.2.map nrD)),.own ((nv g.1 c.2).2.map kdD),r]) ?_ ?_
  .refine rZ (px (dg l g.1 4 _ rfl Q (by decide)) (by lia) (by lia)) ?_;refine cK (ci (dr g.1 4).toNat) (λi=>D.int i) (λpre ρ=>∃z j n r,(z=Sl.own (c.2.map sT)\/z=.im (.lst (c.2.map sT)))/\ρ=[.pin l [.int (itN (kdS c.2) pre.length (nx g.1,[])).1],z,j,n,.im (.lst (g.2.map nrD)),.own ((itN (kdS c.2) pre.length (nx g.1,[])).2.map kdD),r]) rfl ⟨_,_,_,_,.inl rfl,rfl⟩ ?_ ?_
   .rintro pre x post ρ G ⟨z,j,n,r,hz,rfl⟩;refine⟨_,rfl,?_⟩;obtain⟨T,q2,q3⟩:=CW A (bz g.1) pre.length
    have y:pre.length<4:=by
     have:=congrArg e6 G;rw[dP,aJ,bP]at this;lia
    rw[aJ,show([x]:LN).length=1 from rfl];generalize hp:itN (kdS c.2) pre.length (nx g.1,[])=p at T q2 q3;have t:itN (kdS c.2) (pre.length+1) (nx g.1,[])=kdS c.2 p:=by rw[<- hp];rfl
    rw[t];apply ap;refine eL (C0 l p.1 _ T) ?_;obtain⟨E,_⟩:=po p.1;show wp _ [.pin l [.int (br p.1).1],z,.im (.int x),.im (sT (br p.1).2),.im (.lst (g.2.map nrD)),.own (p.2.map kdD),r] _;apply ap
    refine gg (ρ':=[.pin l [.int (br p.1).1],.im (.lst (c.2.map sT)),.im (.int x),.im (sT (br p.1).2),.im (.lst (g.2.map nrD)),.own (p.2.map kdD),r]) (by rcases hz with rfl |rfl <;> rfl) ?_
    obtain⟨M,N⟩:=CT c.2 _ E;refine eL (KZ (ps:=c.2) (λd s h=>bxX (cE (gj (i:=1) (ρ1:=[.im d,.pin l [.int s]]) rfl (bm (aR rfl) rfl) rfl (nr l s 4 h (by decide))) (aR rfl) iH)) E (by unfold mU;rw[aR rfl];rfl) (by lia)) ?_;show wp _ [.pin l [.int (fiP c.2 (br p.1).1).1],.im (.lst (c.2.map sT)),.im (.int x),.im (sT (br p.1).2),.im (.lst (g.2.map nrD)),.own (p.2.map kdD),.im (.lst ((fiP c.2 (br p.1).1).2.map sT))] _;have Y:=N.length_le;unfold kdS;generalize fiP c.2 (br p.1).1=f at M N Y;have U:bv 1 [] (am 5) (aB 0) kY (mIx (am 0) (kI 0)) [.pin l [.int f.1],.im (.lst (c.2.map sT)),.im (.int x),.im (sT (br p.1).2),.im (.lst (g.2.map nrD)),.own (p.2.map kdD),.im (.lst (f.2.map sT))]=aa ((p.2.map (·.1)).map sT):=t8 (L:=p.2) (f:=kdD) (q:=(·.1)) rfl λz=>⟨_,rfl⟩;have d2:=bJ f.1 (k:=2) (by decide);refine ba (kj (aI (ao (aN (ai rfl rfl) (dZ f.2 sT)) rfl iH)) (aI (ao rfl (bV U) (py _ _)))) (λe=>?_) λe=>bA ?_
    .rw[cS,decide_eq_true_eq,Bool.not_eq_true',decide_eq_false_iff_not]at e;rw[if_pos ⟨by lia,e.2⟩];refine pw (ρ1:=[.pin l [.int (nx f.1)],.im (.lst (c.2.map sT)),.im (.int x),.im (sT (br p.1).2),.im (.lst (g.2.map nrD)),.own (p.2.map kdD),.im (.lst (f.2.map sT))]) rfl (lY (bm (aR rfl) (bm (d:=.lst ((if dr f.1 2=0 then f.2 else f.2.reverse).map sT)) ?_ rfl))) rfl (by rw[av];lia) ⟨.im (.lst (c.2.map sT)),.im (.int x),.im (sT (br p.1).2),.im (.lst (f.2.map sT)),.inr rfl,?_⟩
     .unfold sw;rw[aR rfl,aC,cE (aR rfl) (cE (aR rfl) (dg l f.1 2 _ rfl M (by decide)) (jc (.inl (.inl ⟨by decide,by decide⟩)))) iG,aC]
      rcases(show dr f.1 2=0\/dr f.1 2=1 by lia)with e0 |e0
      .rw[e0];rfl
      .rw[e0];show aa (D.lst ((f.2.map sT).reverse),_)=_;rw[<- nK];rfl
     .rw[bh];rfl
    .have v:¬(0<f.2.length/\(br p.1).2∉p.2.map (·.1)):=λz=>by
      rw[decide_eq_true (show(0:Int)<(f.2.length:Nat) by lia),decide_eq_false z.2]at e
      nomatch e
     rw[if_neg v];exact⟨_,_,_,_,.inr rfl,rfl⟩
   .rintro ρ ⟨z,j,n,r,hz,rfl⟩;rw[dP];exact k_J ⟨z,j,n,r,hz,rfl⟩
  rintro _ ⟨z,j,n,r,hz,rfl⟩;refine gg (i:=5) rfl ?_
  refine gg (i:=1) (ρ':=[.pin l [.int (nv g.1 c.2).1],.im (.lst (c.2.map sT)),j,n,.im (.lst (g.2.map nrD)),.im (.lst ((nv g.1 c.2).2.map kdD)),r]) (by rcases hz with rfl |rfl <;> rfl) ?_
  exact ib rfl ⟨_,_,_,_,_,_,rfl⟩
 obtain⟨o,e,H,j,n,I,J,r,rfl⟩:=w;exact ic e rfl
@[reducible]noncomputable def Th:=LN×L2N
@[reducible]noncomputable def Ti:=Th×Int
@[reducible]noncomputable def Pr:=LN×LN
@[reducible]noncomputable def bC(z:Ti):D:=.tup [kdD z.1,.int z.2]
@[reducible]noncomputable def prD(p:Pr):D:=.tup [sT p.1,sT p.2]
inductive Pa where
 |is (t:Th)
 |no (t:Th)
 |un (a b:LN)
 |ct (w:Bool) (n:Int) (its:List Ti) (ov:List Pr)
@[reducible]noncomputable def Pa.toD:Pa->D
 |.is t=>.tup [.str "is",kdD t]
 |.no t=>.tup [.str "not",kdD t]
 |.un a b=>.tup [.str "unlike",sT a,sT b]
 |.ct w n its ov=>.tup [.str (if w then "least" else "most"),.int n,.lst (its.map bC),.lst (ov.map prD)]
inductive Ro where
 |kind (n:LN) (ns:L2N)
 |rule (b:Bool) (t:Th) (bd:List Pa) (ps:List Pr)
 |choose (lo hi:Int) (its:List Ti) (ov:List Pr) (bd:List Pa) (ps:List Pr)
 |never (bd:List Pa) (ps:List Pr)
@[reducible]noncomputable def Ro.toD:Ro->D
 |.kind n ns=>.tup [.str "kind",sT n,.lst (ns.map sT)]
 |.rule b t bd ps=>.tup [.str (if b then "rule" else "may"),kdD t,.lst (bd.map Pa.toD),.lst (ps.map prD)]
 |.choose lo hi its ov bd ps=>.tup [.str "choose",.int lo,.int hi,.lst (its.map bC),.lst (ov.map prD),.lst (bd.map Pa.toD),.lst (ps.map prD)]
 |.never bd ps=>.tup [.str "never",.lst (bd.map Pa.toD),.lst (ps.map prD)]
abbrev dh{c:Type}(L:List c)(z:c)(k:Int):c:=L.getD k.toNat z
def jl{e:Type}{L:List e}{z:e}(h:0<=k/\k<(L.length:Nat)):dh L z k∈L:=by
 have c:k.toNat<L.length:=by lia
 unfold dh;rw[fm,cr c];exact ju c
def K4{c:Type}{L:List c}{z:c}(f:c->D)(h:0<=k/\k<(L.length:Nat)):atI (L.map f) k=aa (f (dh L z k)):=by
 have e:k.toNat<L.length:=by lia
 unfold atI ixN dh;rw[if_pos h.1,if_pos (by rw[av];lia),aC,d7,cr e,fm,cr e];rfl
def pz{c:Type}{L:List c}{z:c}(f:c->D)(h:0<=k/\k<(L.length:Nat)):fu (.lst (L.map f)) (.int k)=aa (f (dh L z k)):=K4 f h
abbrev eM(y:Lay)(kn:L2N)(s:Int):Int×LN:=
 if kn=[] then (nx s,dh y.p [] (dr s (y.p.length:Nat)))
 else if 0<dr s 4 then (nx (nx s),dh kn [] (dr (nx s) (kn.length:Nat))) else (nx (nx s),dh y.p [] (dr (nx s) (y.p.length:Nat)))
abbrev thP(y:Lay)(kn:L2N)(s:Int):Int×Th:=((itP (eM y kn) (dh y.h ([],0) (dr s 4)).2.toNat (nx s)).1,((dh y.h ([],0) (dr s 4)).1,(itP (eM y kn) (dh y.h ([],0) (dr s 4)).2.toNat (nx s)).2))
abbrev prS(ks:List (LN×L2N))(kn:L2N)(p:Int×List Pr):Int×List Pr:=
 if (dw p.1).2∈kn++p.2.map (·.1) then ((dw p.1).1,p.2) else (nx (dw p.1).1,p.2++[((dw p.1).2,(dh ks ([],[]) (dr (dw p.1).1 (ks.length:Nat))).1)])
abbrev prN(ks:List (LN×L2N))(most s:Int):Nat:=if 0<ks.length then (if dr s 6 / 2+dr (nx s) 2<most then dr s 6 / 2+dr (nx s) 2 else most).toNat else 0
abbrev dz(ks:List (LN×L2N))(kn:L2N)(most s:Int):Int×List Pr:=itN (prS ks kn) (prN ks most s) (nx (nx s),[])
abbrev itS(y:Lay)(kn:L2N)(s:Int):Int×Ti:=((thP y kn (nx (cy s).1)).1,((thP y kn (nx (cy s).1)).2,if dr (cy s).1 2=0 then 1 else ((cy s).2.natAbs:Int)))
@[reducible]noncomputable def vrs(ps:List Pr):L2N:=ps.map (·.1)
abbrev dG(y:Lay)(kn:L2N)(ks:List (LN×L2N))(many s:Int):Int×(List Ti×List Pr):=
 ((itP (itS y (kn++vrs (dz ks kn 2 s).2)) (1+dr (dz ks kn 2 s).1 many).toNat (nx (dz ks kn 2 s).1)).1,((itP (itS y (kn++vrs (dz ks kn 2 s).2)) (1+dr (dz ks kn 2 s).1 many).toNat (nx (dz ks kn 2 s).1)).2,(dz ks kn 2 s).2))
abbrev unS(y:Lay)(kn:L2N)(s:Int):Int×Pa:=
 (nx (nx (nx s)),if dr (nx (nx s)) 2=0 then .un (dh (kn++y.p) [] (dr (nx s) ((kn++y.p).length:Nat))) (dh kn [] (dr s (kn.length:Nat))) else .un (dh kn [] (dr s (kn.length:Nat))) (dh (kn++y.p) [] (dr (nx s) ((kn++y.p).length:Nat))))
abbrev ctS(y:Lay)(kn:L2N)(ks:List (LN×L2N))(w:Bool)(s:Int):Int×Pa:=
 ((cy (dG y kn ks 2 s).1).1,.ct w (cy (dG y kn ks 2 s).1).2 (dG y kn ks 2 s).2.1 (dG y kn ks 2 s).2.2)
abbrev fh(y:Lay)(kn:L2N)(ks:List (LN×L2N))(s:Int):Int×Pa:=
 if dr s 6=0/\kn≠[] then unS y kn (nx s)
 else if dr s 6<3 then ctS y kn ks (decide (dr s 6 % 2=0)) (nx s)
 else ((thP y kn (nx s)).1,if dr s 6=4 then .no (thP y kn (nx s)).2 else .is (thP y kn (nx s)).2)
abbrev jm(y:Lay)(kn:L2N)(ks:List (LN×L2N))(s:Int):Int×List Pa:=itP (fh y kn ks) (dr s 4).toNat (nx s)
abbrev ij(vs:L2N)(w:LN):Prop:=w∈vs\/fA w=ac
abbrev iQ(vs:L2N)(t:Th):Prop:=∀w∈t.2,ij vs w
structure nw(ks:L2N)(vs:L2N)(ps:List Pr):Prop where
 nd:(vs++vrs ps).Nodup
 kd:∀p∈ps,p.2∈ks
 vr:∀p∈ps,jk p.1=ac
abbrev PsL(ks:L2N)(vs:L2N)(ps:List Pr):Prop:=nw ks vs ps/\ps.length<=3
abbrev kM(ks vs:L2N):Pa->Prop
 |.is t=>iQ vs t
 |.no t=>iQ vs t
 |.un a b=>ij vs a/\ij vs b
 |.ct _ _ its ov=>PsL ks vs ov/\∀z∈its,iQ (vs++vrs ov) z.1
abbrev pB(ks:L2N):Ro->Prop
 |.kind _ _=>False
 |.rule _ t bd ps=>PsL ks [] ps/\iQ (vrs ps) t/\∀p∈bd,kM ks (vrs ps) p
 |.choose _ _ its ov bd ps=>PsL ks [] ps/\(PsL ks (vrs ps) ov/\∀z∈its,iQ (vrs ps++vrs ov) z.1)/\∀p∈bd,kM ks (vrs ps) p
 |.never bd ps=>PsL ks [] ps/\∀p∈bd,kM ks (vrs ps) p
section
variable{y:Lay}(hy:fg y)
include hy
def t9{kn:L2N}(s:Int)(e:kn.length<=1000):okS (eM y kn s).1/\ij kn (eM y kn s).2:=by
 obtain⟨g,c,j,n⟩:=hy.p;have dp:∀s,ij kn (dh y.p [] (dr s (y.p.length:Nat))):=λs=>.inr (c _ (jl (bJ s (by lia))));unfold eM;split
 .exact⟨bz _,dp _⟩
 .rename_i h;split
  .exact⟨bz _,.inl (jl (bJ _ (by have:=jw.mpr h;lia)))⟩
  .exact⟨bz _,dp _⟩
def ub{kn:L2N}(s:Int)(c:kn.length<=1000):okS (thP y kn s).1/\iQ kn (thP y kn s).2/\(thP y kn s).2.2.length<=3:=by
 obtain⟨j,e⟩:=hy.h;have d:=bJ s (k:=4) (by decide);have n:=e _ (jl (L:=y.h) (z:=([],0)) (k:=dr s 4) (by lia));obtain⟨a,b⟩:=kK (F:=eM y kn) (λs=>(t9 hy s c).1) (dh y.h ([],0) (dr s 4)).2.toNat (nx s) (bz _);refine⟨a,λw g=>kL (F:=eM y kn) (P:=ij kn) (λs=>(t9 hy s c).2) _ _ w g,?_⟩;show(itP (eM y kn) _ (nx s)).2.length<=3;rw[b];lia
end
abbrev lZ(ks:L2N)(kn:L2N)(n:Nat)(p:Int×List Pr):Prop:=okS p.1/\nw ks kn p.2/\p.2.length<=n
variable{ks:List (LN×L2N)}{kn:L2N}
def yD(t:0<ks.length)(n:Nat)(p:Int×List Pr)(h:lZ (ks.map (·.1)) kn n p):lZ (ks.map (·.1)) kn (n+1) (prS ks kn p):=by
 obtain⟨_,g,o⟩:=h;obtain⟨a,b⟩:=CP p.1;unfold prS;split
 .exact⟨a,g,Nat.le_succ_of_le o⟩
 .rename_i r;refine⟨bz _,⟨?_,λq c=>?_,λq c=>?_⟩,by rw[aJ,eZ];lia⟩
  .show(kn++(p.2++[((dw p.1).2,(dh ks ([],[]) (dr (dw p.1).1 (ks.length:Nat))).1)]).map (λz=>z.1)).Nodup;rw[bh,<- gm];refine gn.mpr ⟨g.nd,by simp,λx j z hz e=>?_⟩;rw[show z=(dw p.1).2 from bN.mp hz]at e;rw[e]at j;exact r j
  .rcases dB.mp c with c |c
   .exact g.kd q c
   .rw[bN.mp c];exact bT.mpr ⟨_,jl (bJ _ (by lia)),rfl⟩
  .rcases dB.mp c with c |c
   .exact g.vr q c
   .rw[bN.mp c];exact b
def yE(ks:List (LN×L2N))(most s:Int)(h:0<=most):prN ks most s<=most.toNat/\prN ks most s<=3/\(ks=[]->prN ks most s=0):=by
 have g:=bJ s (k:=6) (by decide);have c:=bJ (nx s) (k:=2) (by decide);unfold prN;refine⟨?_,?_,λe=>by rw[e];rfl⟩
 .split
  .split <;> lia
  .omega
 .split
  .split <;> lia
  .omega
def uc(j:kn.Nodup)(most s:Int)(h:0<=most):okS (dz ks kn most s).1/\nw (ks.map (·.1)) kn (dz ks kn most s).2/\(dz ks kn most s).2.length<=3:=by
 obtain⟨a,b,c⟩:=yE ks most s h;have e:lZ (ks.map (·.1)) kn 0 (nx (nx s),[]):=⟨bz _,⟨by simpa using j,λ_ z=>(cT z).elim,λ_ z=>(cT z).elim⟩,bf _⟩;unfold dz
 by_cases g:0<ks.length
 .obtain⟨o,q,r⟩:=nu (I:=lZ (ks.map (·.1)) kn) (λn p hp=>yD g n p hp) e (prN ks most s);exact⟨o,q,by lia⟩
 .rw[c (nG.mp (by lia))];exact⟨e.1,e.2.1,by simp[itN]⟩
section
variable{y:Lay}(hy:fg y)
include hy
def yF{kn:L2N}(s:Int)(c:kn.length<=1000):okS (itS y kn s).1/\iQ kn (itS y kn s).2.1:=⟨(ub hy _ c).1,(ub hy _ c).2.1⟩
def pE{kn:L2N}(ks:List (LN×L2N))(p:kn.Nodup)(r:kn.length<=100){many:Int}(o:0<many)(s:Int):okS (dG y kn ks many s).1/\nw (ks.map (·.1)) kn (dG y kn ks many s).2.2/\(∀z∈(dG y kn ks many s).2.1,iQ (kn++vrs (dG y kn ks many s).2.2) z.1)/\(dG y kn ks many s).2.2.length<=3/\(dG y kn ks many s).2.1.length<=many.toNat:=by
 obtain⟨h,c,e⟩:=uc (ks:=ks) p 2 s (by decide);unfold dG;generalize dz ks kn 2 s=q at h c e;have g:(kn++vrs q.2).length<=1000:=by rw[aJ,av];lia
 obtain⟨j,n⟩:=kK (F:=itS y (kn++vrs q.2)) (λs=>(yF hy s g).1) (1+dr q.1 many).toNat (nx q.1) (bz _);have d:=bJ q.1 o;refine⟨j,c,λz hz=>kL (F:=itS y (kn++vrs q.2)) (P:=λz=>iQ (kn++vrs q.2) z.1) (λs=>(yF hy s g).2) _ _ z hz,e,?_⟩;show(itP (itS y _) _ _).2.length<=_;rw[n];lia
def yG{kn:L2N}(ks:List (LN×L2N))(r:kn.Nodup)(q:kn.length<=100)(s:Int):okS (fh y kn ks s).1/\kM (ks.map (·.1)) kn (fh y kn ks s).2:=by
 obtain⟨v,t,A,B⟩:=hy.p;unfold fh;split
 .rename_i h;have u:=jw.mpr h.2;have g:∀s,ij kn (dh kn [] (dr s (kn.length:Nat))):=λs=>.inl (jl (bJ _ (by lia)))
  have j:∀s,ij kn (dh (kn++y.p) [] (dr s ((kn++y.p).length:Nat))):=λs=>by
   rcases dB.mp (jl (L:=kn++y.p) (z:=[]) (bJ s (k:=((kn++y.p).length:Nat)) (by rw[aJ];lia)))with z |z
   .exact .inl z
   .exact .inr (t _ z)
  refine⟨bz _,?_⟩;unfold unS;dsimp only;split
  .exact⟨j _,g _⟩
  .exact⟨g _,j _⟩
 .split
  .obtain⟨e,c,n,o,_⟩:=pE hy ks r q (many:=2) (by decide) (nx s);exact⟨(pq _).1,⟨c,o⟩,n⟩
  .obtain⟨e,c,_⟩:=ub hy (kn:=kn) (nx s) (by lia);refine⟨e,?_⟩;dsimp only;split
   .exact c
   .exact c
def yH{kn:L2N}(ks:List (LN×L2N))(e:kn.Nodup)(c:kn.length<=100)(s:Int):okS (jm y kn ks s).1/\(∀p∈(jm y kn ks s).2,kM (ks.map (·.1)) kn p)/\(jm y kn ks s).2.length<=3:=by
 have d:=bJ s (k:=4) (by decide);obtain⟨g,h⟩:=kK (F:=fh y kn ks) (λs=>(yG hy ks e c s).1) (dr s 4).toNat (nx s) (bz _);refine⟨g,kL (F:=fh y kn ks) (λs=>(yG hy ks e c s).2) _ _,?_⟩;show(itP _ _ _).2.length<=_;rw[h];lia
end
def K5{f g:Xt}(h:f ρ=aa (ac,ρ1))(c:g ρ1=aa (b,dy)):lR f g ρ=aa (b,dy):=by
 unfold lR;rw[h,aC,if_pos rfl,c]
def K6{f g:Xt}(h:f ρ=aa (ag,ρ1)):lR f g ρ=aa (ag,ρ1):=by
 unfold lR;rw[h,aC];rfl
def tX1{f:MF4}(h:f ρ=aa b):mTX f ρ=aa (b,ρ):=by
 unfold mTX;rw[h];rfl
def yI{c:Type}(F:Int->Int×c):∀n s,itP F (n+1) s=((F (itP F n s).1).1,(itP F n s).2++[(F (itP F n s).1).2])
 | 0,s=>rfl
 |n+1,s=>by
  show((itP F (n+1) (F s).1).1,(F s).2::(itP F (n+1) (F s).1).2)=_;rw[yI F n (F s).1];rfl
def yJ(n:Nat):dGt (.int (n:Nat)) (.int 0)=aa (.bl (decide (0<n))):=by
 rw[iH]
 congr 2
 exact decide_eq_decide.mpr (by lia)
variable{y:Lay}
def K7(q:fg y)(l:Addr)(kn:L2N)(Q:kn.length<=1000)(s:Int)(T:okS s):m_8 l [] [y.toD,.lst (kn.map sT)] [.int s]=aa ([.int (thP y kn s).1],kdD (thP y kn s).2):=by
 obtain⟨h1,M⟩:=q.h;obtain⟨p1,p2,I,p4⟩:=q.p;have d:=bJ s (k:=4) (by decide);have G:=M _ (jl (L:=y.h) (z:=([],0)) (k:=dr s 4) (by lia))
 have w:wp b_8 [.pin l [.int s],.im y.toD,.im (.lst (kn.map sT)),.no,.no,.no,.no] (λo=>∃u v A g,o=.rtS (kdD (thP y kn s).2) [.pin l [.int (thP y kn s).1],.im y.toD,.im (.lst (kn.map sT)),u,v,A,g]):=by
  unfold b_8 thP;apply ap;refine wv (cE (aR (ak rfl rfl (C1 _ _))) (dg l s 4 _ rfl T (by decide)) (pz (z:=([],0)) nrD (by lia))) rfl ?_;generalize dh y.h ([],0) (dr s 4)=x at G;show wp _ [.pin l [.int (nx s)],.im y.toD,.im (.lst (kn.map sT)),.im (sT x.1),.im (.int x.2),.no,.no] _;apply ap;refine dW rfl ?_;show wp _ [.pin l [.int (nx s)],.im y.toD,.im (.lst (kn.map sT)),.im (sT x.1),.im (.int x.2),.own [],.no] _;refine km (λρ=>∃g,ρ=[.pin l [.int (itP (eM y kn) x.2.toNat (nx s)).1],.im y.toD,.im (.lst (kn.map sT)),.im (sT x.1),.im (.int x.2),.own ((itP (eM y kn) x.2.toNat (nx s)).2.map sT),g]) ?_ ?_
  .refine cK (ci x.2.toNat) (λi=>D.int i) (λpre ρ=>∃g,ρ=[.pin l [.int (itP (eM y kn) pre.length (nx s)).1],.im y.toD,.im (.lst (kn.map sT)),.im (sT x.1),.im (.int x.2),.own ((itP (eM y kn) pre.length (nx s)).2.map sT),g]) ?_ ⟨_,rfl⟩ ?_ ?_
   .unfold gL;rw[ai rfl rfl,aC,t5 x.2 G.2.1 (by lia)]
   .rintro pre i post ρ N ⟨g,rfl⟩;refine⟨_,rfl,?_⟩;obtain⟨r,Y⟩:=kK (F:=eM y kn) (λs=>(t9 q s Q).1) pre.length (nx s) (bz _)
    have H:pre.length<4:=by
     have:=congrArg e6 N;rw[dP,aJ,bP]at this;lia
    rw[aJ,show([i]:LN).length=1 from rfl,yI];generalize itP (eM y kn) pre.length (nx s)=p at r Y;show wp _ [.pin l [.int p.1],.im y.toD,.im (.lst (kn.map sT)),.im (sT x.1),.im (.int x.2),.own (p.2.map sT),.im (.int i)] _;have c:mB (m2 dGt (aH cu (af (ae 2) nZ)) (kI 0)) [.pin l [.int p.1],.im y.toD,.im (.lst (kn.map sT)),.im (sT x.1),.im (.int x.2),.own (p.2.map sT),.im (.int i)]=aa (decide (0<kn.length)):=aI (ao (aN (ai rfl rfl) (dZ kn sT)) rfl (yJ _))
    have n:∀(f:MF1) (L:L2N) t (K:Fl->Prop),okS t->0<L.length->(∀t,f [.pin l [.int t],.im y.toD,.im (.lst (kn.map sT)),.im (sT x.1),.im (.int x.2),.own (p.2.map sT),.im (.int i)]=aa (.lst (L.map sT)))->K (.nx [.pin l [.int (nx t)],.im y.toD,.im (.lst (kn.map sT)),.im (sT x.1),.im (.int x.2),.own ((p.2++[dh L [] (dr t (L.length:Nat))]).map sT),.im (.int i)])->wp (iL 5 (mX2 fu (mX f) (aX 0 m_0 (aF (mX (aH cu (af f nZ))) aO)))) [.pin l [.int t],.im y.toD,.im (.lst (kn.map sT)),.im (sT x.1),.im (.int x.2),.own (p.2.map sT),.im (.int i)] K:=λf L t K U hL C B=>by
     refine pw rfl (cE (aR (C t)) (dg l t (L.length:Nat) _ (aN (ai (C t) rfl) (dZ L sT)) U (by lia)) (pz (z:=[]) sT (bJ t (by lia)))) rfl (by rw[av];lia) ?_;rw[bh]at B;exact B
    unfold eM
    by_cases j:kn=[]
    .rw[if_pos j];have J:decide (0<kn.length)=ag:=by rw[j];rfl
     rw[J]at c;refine pj (K6 (tX1 c)) (λe=>nomatch e) λ_=>?_;exact n _ y.p p.1 _ r I (λ_=>ak rfl rfl rfl) ⟨_,rfl⟩
    .rw[if_neg j];have E:=jw.mpr j;rw[decide_eq_true E]at c;refine pj (K5 (tX1 c) (bxX (cE (dg l p.1 4 _ rfl r (by decide)) (aR rfl) iH))) (λe=>?_) λe=>?_
     .rw[if_pos (of_decide_eq_true e)];exact n _ kn (nx p.1) _ (bz _) E (λ_=>rfl) ⟨_,rfl⟩
     .rw[if_neg (of_decide_eq_false e)];exact n _ y.p (nx p.1) _ (bz _) I (λ_=>ak rfl rfl rfl) ⟨_,rfl⟩
   .rintro ρ ⟨g,rfl⟩;rw[dP];exact k_J ⟨g,rfl⟩
  rintro _ ⟨g,rfl⟩;refine gg rfl ?_;exact ib rfl ⟨_,_,_,_,rfl⟩
 obtain⟨o,e,u,v,A,g,rfl⟩:=w;exact ic e rfl
def C2{f g:MF1}{a b:LD}(h:f ρ=aa (.lst a))(h':g ρ=aa (.lst b))(c:a.length+b.length<=16777216):eX f g ρ=aa (a++b):=by
 unfold eX;rw[h,h'];show(if a.length+b.length<=16777216 then aa _ else ab)=_;rw[if_pos c]
def K8(l:Addr)(s:Int)(r:LS)(h:okS s):aX 0 sX aO (.pin l [.int s]::r)=aa (sT (dw s).2,.pin l [.int (dw s).1]::r):=yz (toD:=sT) (λs h=>KS l s h) s r h
def ud(l:Addr)(s:Int)(r:LS)(h:okS s):aX 0 m_4 aO (.pin l [.int s]::r)=aa (.int (cy s).2,.pin l [.int (cy s).1]::r):=yz (toD:=D.int) (λs h=>KU l s h) s r h
def C3(l:Addr)(ks:List (LN×L2N))(kn:L2N)(M:ks.length<=100)(hk:kn.length<=100)(Q:kn.Nodup)(most:Int)(N:0<=most/\most<=3)(s:Int)(T:okS s):sY l [] [.lst (ks.map kdD),.lst (kn.map sT),.int most] [.int s]=aa ([.int (dz ks kn most s).1],.lst ((dz ks kn most s).2.map prD)):=by
 have d6:=bJ s (k:=6) (by decide);have d2:=bJ (nx s) (k:=2) (by decide);obtain⟨_,H,t⟩:=yE ks most s N.1
 have w:wp pf [.pin l [.int s],.im (.lst (ks.map kdD)),.im (.lst (kn.map sT)),.im (.int most),.no,.no,.no] (λo=>∃A c g,o=.rtS (.lst ((dz ks kn most s).2.map prD)) [.pin l [.int (dz ks kn most s).1],.im (.lst (ks.map kdD)),.im (.lst (kn.map sT)),.im (.int most),A,c,g]):=by
  unfold pf;apply ap;refine dW rfl ?_;show wp _ [.pin l [.int s],.im (.lst (ks.map kdD)),.im (.lst (kn.map sT)),.im (.int most),.own [],.no,.no] _
  have E:(mX2 gO (kw oQ (aF (mX (ae 3)) (aF (mX2 cN (mX2 mL (aX 0 m_0 (aF (mX (kI 6)) aO)) (mX (kI 2))) (aX 0 m_0 (aF (mX (kI 2)) aO))) aO))) (mX (iK (m2 dGt (aH cu (af (ae 1) nZ)) (kI 0))))) [.pin l [.int s],.im (.lst (ks.map kdD)),.im (.lst (kn.map sT)),.im (.int most),.own [],.no,.no]=aa (.int (prN ks most s:Nat),[.pin l [.int (nx (nx s))],.im (.lst (ks.map kdD)),.im (.lst (kn.map sT)),.im (.int most),.own [],.no,.no]):=by
   have j:iK (m2 dGt (aH cu (af (ae 1) nZ)) (kI 0)) [.pin l [.int (nx (nx s))],.im (.lst (ks.map kdD)),.im (.lst (kn.map sT)),.im (.int most),.own [],.no,.no]=aa (.int (if decide (0<ks.length) then 1 else 0)):=by
    unfold iK;rw[ao (aN (ai rfl rfl) (dZ ks kdD)) rfl (yJ _)];rfl
   refine cE (yB (ds:=[.int most,.int (dr s 6 / 2+dr (nx s) 2)]) (d:=.int (if dr s 6 / 2+dr (nx s) 2<most then dr s 6 / 2+dr (nx s) 2 else most)) (bm (aR rfl) (bm (cE (cE (dg l s 6 _ rfl T (by decide)) (aR rfl) (rR ⟨by decide,by decide⟩)) (dg l (nx s) 2 _ rfl (bz _) (by decide)) gh) rfl)) rfl) (aR j) ?_
   rw[jc (.inr ⟨by split <;> lia,by split <;> decide⟩)]
   congr 2
   unfold prN
   by_cases h:0<ks.length
   .rw[if_pos h,decide_eq_true h,if_pos rfl,Int.mul_one,Int.toNat_of_nonneg (by split <;> lia)]
   .rw[if_neg h,decide_eq_false h,show(if ag=ac then (1:Int) else 0)=0 from rfl,Int.mul_zero];rfl
  refine km (λρ=>∃c g,ρ=[.pin l [.int (dz ks kn most s).1],.im (.lst (ks.map kdD)),.im (.lst (kn.map sT)),.im (.int most),.own ((dz ks kn most s).2.map prD),c,g]) ?_ ?_
  .refine rZ (px E (by lia) (by lia)) ?_;rw[gT];refine cK (ci (prN ks most s)) (λi=>D.int i) (λpre ρ=>∃c g,ρ=[.pin l [.int (itN (prS ks kn) pre.length (nx (nx s),[])).1],.im (.lst (ks.map kdD)),.im (.lst (kn.map sT)),.im (.int most),.own ((itN (prS ks kn) pre.length (nx (nx s),[])).2.map prD),c,g]) rfl ⟨_,_,rfl⟩ ?_ ?_
   .rintro pre i post ρ J ⟨c,g,rfl⟩;refine⟨_,rfl,?_⟩
    have r:pre.length<prN ks most s:=by
     have:=congrArg e6 J;rw[dP,aJ,bP]at this;lia
    have u:0<ks.length:=by
     rcases Nat.eq_zero_or_pos ks.length with z |z
     .rw[t (nG.mp z)]at r;lia
     .exact z
    obtain⟨B,U,Y⟩:=nu (I:=lZ (ks.map (·.1)) kn) (λn p hp=>yD u n p hp) (p:=(nx (nx s),[])) ⟨bz _,⟨by simpa using Q,λ_ z=>(cT z).elim,λ_ z=>(cT z).elim⟩,bf _⟩ pre.length;rw[aJ,show([i]:LN).length=1 from rfl];show wp _ _ λo=>_;generalize hp:itN (prS ks kn) pre.length (nx (nx s),[])=p at B U Y;have v:itN (prS ks kn) (pre.length+1) (nx (nx s),[])=prS ks kn p:=by rw[<- hp];rfl
    rw[v];obtain⟨v1,_⟩:=CP p.1;apply ap;refine eL (K8 l p.1 _ B) ?_;show wp _ [.pin l [.int (dw p.1).1],.im (.lst (ks.map kdD)),.im (.lst (kn.map sT)),.im (.int most),.own (p.2.map prD),.im (.int i),.im (sT (dw p.1).2)] _
    have G:aT (eX (ae 2) (aT (bv 1 [] (am 4) (aB 0) kY (mIx (am 0) (kI 0))))) [.pin l [.int (dw p.1).1],.im (.lst (ks.map kdD)),.im (.lst (kn.map sT)),.im (.int most),.own (p.2.map prD),.im (.int i),.im (sT (dw p.1).2)]=aa (.lst ((kn++vrs p.2).map sT)):=by
     refine bV ((C2 (a:=kn.map sT) (b:=(vrs p.2).map sT) rfl (bV (t8 (L:=p.2) (f:=prD) (q:=(·.1)) rfl λz=>⟨_,rfl⟩)) (by rw[av,av,av];lia)).trans ?_);rw[bh]
    unfold prS;refine ba (aI (ao rfl G (py _ _))) (λe=>?_) λe=>bA ?_
    .have j:(dw p.1).2∉kn++vrs p.2:=by simpa using e
     rw[if_neg j];have C:=bJ (dw p.1).1 (k:=(ks.length:Nat)) (by lia);refine pw rfl (lY (bm (aR rfl) (bm (cE (cE (aR rfl) (dg l _ (ks.length:Nat) _ (aN (ai rfl rfl) (dZ ks kdD)) v1 (by lia)) (pz (z:=([],[])) kdD C)) (aR rfl) rfl) rfl))) rfl (by rw[av];lia) ⟨.im (.int i),.im (sT (dw p.1).2),?_⟩;rw[bh];rfl
    .have j:(dw p.1).2∈kn++vrs p.2:=by simpa using e
     rw[if_pos j];exact⟨_,_,rfl⟩
   .rintro ρ ⟨c,g,rfl⟩;rw[dP];exact k_J ⟨c,g,rfl⟩
  rintro _ ⟨c,g,rfl⟩;refine gg rfl ?_;exact ib rfl ⟨_,_,_,rfl⟩
 obtain⟨o,e,A,c,g,rfl⟩:=w;exact ic e rfl
def K9(n:Int):sn [.int n]=aa (.int (n.natAbs:Int)):=by
 show aa (D.int (if n<0 then -n else n))=_
 congr 2
 split <;> lia
variable{r:LS}
def thX(h:fg y)(l:Addr)(kn:L2N)(e:kn.length<=1000)(s:Int)(g:okS s)(c:fa (.pin l [.int s]::r)=aa ([y.toD,.lst (kn.map sT)],.pin l [.int s]::r)):aX 0 m_8 fa (.pin l [.int s]::r)=aa (kdD (thP y kn s).2,.pin l [.int (thP y kn s).1]::r):=gj rfl c rfl (K7 h l kn e s g)
def C4(E:fg y)(l:Addr)(kn:L2N)(ks:List (LN×L2N))(n:ks.length<=100)(M:kn.length<=100)(B:kn.Nodup)(many:Int)(A:0<many/\many<=3)(s:Int)(N:okS s):
  m_6 l [] [y.toD,.lst (kn.map sT),.lst (ks.map kdD),.int many] [.int s]=aa ([.int (dG y kn ks many s).1],.tup [.lst ((dG y kn ks many s).2.1.map bC),.lst ((dG y kn ks many s).2.2.map prD)]):=by
 obtain⟨H,U,Y⟩:=uc (ks:=ks) B 2 s (by decide)
 have w:wp b_6 [.pin l [.int s],.im y.toD,.im (.lst (kn.map sT)),.im (.lst (ks.map kdD)),.im (.int many),.no,.no,.no,.no,.no] (λo=>∃t u v g h,o=.rtS (.tup [.lst ((dG y kn ks many s).2.1.map bC),.lst ((dG y kn ks many s).2.2.map prD)]) [.pin l [.int (dG y kn ks many s).1],.im y.toD,.im (.lst (kn.map sT)),.im (.lst (ks.map kdD)),.im (.int many),t,u,v,g,h]):=by
  unfold b_6 dG;apply ap;refine eL (gj rfl (bm (aR rfl) (bm (aR rfl) (bm (aR rfl) rfl))) rfl (C3 l ks kn n M B 2 (by decide) s N)) ?_;generalize dz ks kn 2 s=q at H U Y;show wp _ [.pin l [.int q.1],.im y.toD,.im (.lst (kn.map sT)),.im (.lst (ks.map kdD)),.im (.int many),.im (.lst (q.2.map prD)),.no,.no,.no,.no] _;apply ap;refine b8 (d:=.lst ((kn++vrs q.2).map sT)) (bV ((C2 (a:=kn.map sT) (b:=(vrs q.2).map sT) rfl (bV (t8 (L:=q.2) (f:=prD) (q:=(·.1)) rfl λz=>⟨_,rfl⟩)) (by rw[av,av,av];lia)).trans (by rw[bh]))) ?_;have j:(kn++vrs q.2).length<=1000:=by rw[aJ,av];lia
  generalize kn++vrs q.2=c at j;show wp _ [.pin l [.int q.1],.im y.toD,.im (.lst (kn.map sT)),.im (.lst (ks.map kdD)),.im (.int many),.im (.lst (q.2.map prD)),.im (.lst (c.map sT)),.no,.no,.no] _;apply ap;refine dW rfl ?_;show wp _ [.pin l [.int q.1],.im y.toD,.im (.lst (kn.map sT)),.im (.lst (ks.map kdD)),.im (.int many),.im (.lst (q.2.map prD)),.im (.lst (c.map sT)),.own [],.no,.no] _;have dm:=bJ q.1 A.1;refine km (λρ=>∃g h,ρ=[.pin l [.int (itP (itS y c) (1+dr q.1 many).toNat (nx q.1)).1],.im y.toD,.im (.lst (kn.map sT)),.im (.lst (ks.map kdD)),.im (.int many),.im (.lst (q.2.map prD)),.im (.lst (c.map sT)),.own ((itP (itS y c) (1+dr q.1 many).toNat (nx q.1)).2.map bC),g,h]) ?_ ?_
  .refine rZ (px (cE (aR rfl) (dg l q.1 many _ rfl H A.1) gh) (by lia) (by lia)) ?_;refine cK (ci (1+dr q.1 many).toNat) (λi=>D.int i) (λpre ρ=>∃g h,ρ=[.pin l [.int (itP (itS y c) pre.length (nx q.1)).1],.im y.toD,.im (.lst (kn.map sT)),.im (.lst (ks.map kdD)),.im (.int many),.im (.lst (q.2.map prD)),.im (.lst (c.map sT)),.own ((itP (itS y c) pre.length (nx q.1)).2.map bC),g,h]) rfl ⟨_,_,rfl⟩ ?_ ?_
   .rintro pre i post ρ J ⟨g,h,rfl⟩;refine⟨_,rfl,?_⟩;obtain⟨G,Q⟩:=kK (F:=itS y c) (λs=>(yF E s j).1) pre.length (nx q.1) (bz _)
    have C:pre.length<4:=by
     have:=congrArg e6 J;rw[dP,aJ,bP]at this;lia
    rw[aJ,show([i]:LN).length=1 from rfl,yI];generalize itP (itS y c) pre.length (nx q.1)=p at G Q;obtain⟨T,_⟩:=pq p.1;have d2:=bJ (cy p.1).1 (k:=2) (by decide)
    have I:fu (.lst [.int 1,.int ((cy p.1).2.natAbs:Int)]) (.int (dr (cy p.1).1 2))=aa (.int (if dr (cy p.1).1 2=0 then 1 else ((cy p.1).2.natAbs:Int))):=by
     rcases(show dr (cy p.1).1 2=0\/dr (cy p.1).1 2=1 by lia)with e |e
     .rw[e];rfl
     .rw[e];rfl
    apply ap;refine eL (cE (KW (bm (aR rfl) (bm (yB (bm (ud l p.1 _ G) rfl) (K9 _)) rfl))) (dg l _ 2 _ rfl T (by decide)) I) ?_;show wp _ [.pin l [.int (nx (cy p.1).1)],.im y.toD,.im (.lst (kn.map sT)),.im (.lst (ks.map kdD)),.im (.int many),.im (.lst (q.2.map prD)),.im (.lst (c.map sT)),.own (p.2.map bC),.im (.int i),.im (.int (if dr (cy p.1).1 2=0 then 1 else ((cy p.1).2.natAbs:Int)))] _;refine pw rfl (lY (bm (thX E l c j _ (bz _) (bm (aR rfl) (bm (aR rfl) rfl))) (bm (aR rfl) rfl))) rfl (by rw[av];lia) ⟨.im (.int i),.im (.int (if dr (cy p.1).1 2=0 then 1 else ((cy p.1).2.natAbs:Int))),?_⟩;rw[bh];rfl
   .rintro ρ ⟨g,h,rfl⟩;rw[dP];exact k_J ⟨g,h,rfl⟩
  rintro _ ⟨g,h,rfl⟩;refine gg rfl ?_;exact ib rfl ⟨_,_,_,_,_,rfl⟩
 obtain⟨o,e,t,u,v,g,h,rfl⟩:=w;exact ic e rfl
def La(o:fg y)(l:Addr)(kn:L2N)(ks:List (LN×L2N))(c:ks.length<=100)(g:kn.length<=100)(j:kn.Nodup)(many:Int)(h:0<many/\many<=3)(s:Int)(n:okS s)(e:fa (.pin l [.int s]::r)=aa ([y.toD,.lst (kn.map sT),.lst (ks.map kdD),.int many],.pin l [.int s]::r)):
  aX 0 m_6 fa (.pin l [.int s]::r)=aa (.tup [.lst ((dG y kn ks many s).2.1.map bC),.lst ((dG y kn ks many s).2.2.map prD)],.pin l [.int (dG y kn ks many s).1]::r):=gj rfl e rfl (C4 o l kn ks c g j many h s n)
def Lb(g:fg y)(l:Addr)(kn:L2N)(ks:List (LN×L2N))(j:ks.length<=100)(N:kn.length<=100)(Q:kn.Nodup)(s:Int)(hs:okS s):
  m_7 l [] [y.toD,.lst (kn.map sT),.lst (ks.map kdD)] [.int s]=aa ([.int (fh y kn ks s).1],(fh y kn ks s).2.toD):=by
 obtain⟨p1,p2,p3,p4⟩:=g.p;have d6:=bJ s (k:=6) (by decide);have h:=bz s
 have w:wp b_7 [.pin l [.int s],.im y.toD,.im (.lst (kn.map sT)),.im (.lst (ks.map kdD)),.no,.no,.no,.no,.no,.no] (λo=>∃A B C E G H I J L,o=.rtS (fh y kn ks s).2.toD [.pin l [.int (fh y kn ks s).1],A,B,C,E,G,H,I,J,L]):=by
  unfold b_7 fh;apply ap;refine eL (dg l s 6 _ rfl hs (by decide)) ?_;generalize dr s 6=v at d6;generalize nx s=s1 at h;show wp _ [.pin l [.int s1],.im y.toD,.im (.lst (kn.map sT)),.im (.lst (ks.map kdD)),.im (.int v),.no,.no,.no,.no,.no] _;apply ap;refine ba (b:=decide (v=0) && decide (0<kn.length)) (kj (aI (ao rfl rfl (jE v 0))) (aI (ao (aN (ai rfl rfl) (dZ kn sT)) rfl (yJ _)))) (λe=>?_) λe=>bA ?_
  .rw[cS,decide_eq_true_eq,decide_eq_true_eq]at e;have hl:=e.2;rw[if_pos ⟨e.1,jw.mp hl⟩];unfold unS;have dk:=bJ s1 (k:=(kn.length:Nat)) (by lia);have U:=bz s1;apply ap;refine eL (cE (aR rfl) (dg l s1 (kn.length:Nat) _ (aN (ai rfl rfl) (dZ kn sT)) h (by lia)) (pz (z:=[]) sT dk)) ?_;generalize dh kn [] (dr s1 (kn.length:Nat))=one;generalize nx s1=s2 at U;show wp _ [.pin l [.int s2],.im y.toD,.im (.lst (kn.map sT)),.im (.lst (ks.map kdD)),.im (.int v),.im (sT one),.no,.no,.no,.no] _;apply ap;refine b8 (d:=.lst ((kn++y.p).map sT)) (ao rfl (ak rfl rfl rfl) ?_) ?_
   .show(if (kn.map sT).length+(y.p.map sT).length<=16777216 then aa (D.lst (kn.map sT++y.p.map sT)) else ab)=_;rw[if_pos (by rw[av,av];lia),bh]
   have n:0<(kn++y.p).length:=by rw[aJ];lia
   generalize kn++y.p=c at n;have ds:=bJ s2 (k:=(c.length:Nat)) (by lia);show wp _ [.pin l [.int s2],.im y.toD,.im (.lst (kn.map sT)),.im (.lst (ks.map kdD)),.im (.int v),.im (sT one),.im (.lst (c.map sT)),.no,.no,.no] _;apply ap;refine eL (cE (aR rfl) (dg l s2 (c.length:Nat) _ (aN (ai rfl rfl) (dZ c sT)) U (by lia)) (pz (z:=[]) sT ds)) ?_;generalize dh c [] (dr s2 (c.length:Nat))=t;have Y:=bz s2;generalize nx s2=u at Y;show wp _ [.pin l [.int u],.im y.toD,.im (.lst (kn.map sT)),.im (.lst (ks.map kdD)),.im (.int v),.im (sT one),.im (.lst (c.map sT)),.im (sT t),.no,.no] _;apply ap;refine pj (b:=decide (dr u 2=0)) (bxX (cE (dg l u 2 _ rfl Y (by decide)) (aR rfl) (jE _ _))) (λe=>?_) λe=>bA ?_
   .rw[if_pos (of_decide_eq_true e)];exact ib rfl ⟨_,_,_,_,_,_,_,_,_,rfl⟩
   .rw[if_neg (of_decide_eq_false e)];exact ib rfl ⟨_,_,_,_,_,_,_,_,_,rfl⟩
  have e1:¬(v=0/\kn≠[]):=λz=>by
   rw[decide_eq_true z.1,decide_eq_true (jw.mpr z.2)]at e
   nomatch e
  rw[if_neg e1];apply ap;refine ba (b:=decide (v<3)) (aI (ao rfl rfl oN)) (λe=>?_) λe=>bA ?_
  .have e:=of_decide_eq_true e;rw[if_pos e];unfold ctS;apply ap;refine wv (La g l kn ks j N Q 2 (by decide) s1 h (bm (aR rfl) (bm (aR rfl) (bm (aR rfl) (bm (aR rfl) rfl))))) rfl ?_;obtain⟨T,_⟩:=pE g ks Q N (many:=2) (by decide) s1;generalize dG y kn ks 2 s1=q at T;show wp _ [.pin l [.int q.1],.im y.toD,.im (.lst (kn.map sT)),.im (.lst (ks.map kdD)),.im (.int v),.no,.no,.no,.im (.lst (q.2.1.map bC)),.im (.lst (q.2.2.map prD))] _;refine nq (d:=Pa.toD (.ct (decide (v % 2=0)) (cy q.1).2 q.2.1 q.2.2)) (lY (bm (d:=.str (if decide (v % 2=0) then "least" else "most")) (aR (ak rfl (ao rfl rfl (lM (by decide))) ?_)) (bm (ud l q.1 _ T) (bm (aR rfl) (bm (aR rfl) rfl))))) ⟨_,_,_,_,_,_,_,_,_,rfl⟩
   rcases(show v % 2=0\/v % 2=1 by lia)with z |z
   .rw[z];rfl
   .rw[z];rfl
  .have e:=of_decide_eq_false e;rw[if_neg e];obtain⟨t1,t2,_⟩:=ub g (kn:=kn) s1 (by lia);have M:=thX g l kn (by lia) s1 h (r:=[.im y.toD,.im (.lst (kn.map sT)),.im (.lst (ks.map kdD)),.im (.int v),.no,.no,.no,.no,.no]) (fa:=aF (mX (ae 1)) (aF (mX (ae 2)) aO)) (bm (aR rfl) (bm (aR rfl) rfl))
   by_cases z:v=4
   .rw[if_pos z];exact nq (d:=Pa.toD (.no (thP y kn s1).2)) (lY (bm (d:=.str "not") (aR (ak rfl (ao rfl rfl iG) (by rw[z];rfl))) (bm M rfl))) ⟨_,_,_,_,_,_,_,_,_,rfl⟩
   .rw[if_neg z]
    exact nq (d:=Pa.toD (.is (thP y kn s1).2)) (lY (bm (d:=.str "is") (aR (ak rfl (ao rfl rfl iG) (by rcases(show v=3\/v=5 by lia)with z |z <;> (rw[z];rfl)))) (bm M rfl))) ⟨_,_,_,_,_,_,_,_,_,rfl⟩
 obtain⟨o,e,A,B,C,E,G,H,I,J,L,rfl⟩:=w;exact ic e rfl
def Lc(u:fg y)(l:Addr)(kn:L2N)(ks:List (LN×L2N))(j:ks.length<=100)(n:kn.length<=100)(t:kn.Nodup)(s:Int)(v:okS s):
  xJ l [] [y.toD,.lst (kn.map sT),.lst (ks.map kdD)] [.int s]=aa ([.int (jm y kn ks s).1],.lst ((jm y kn ks s).2.map Pa.toD)):=by
 have A:=bJ s (k:=4) (by decide)
 have g:∀(c:Sl) d s,okS s->jM 1 [0,1,2,3] 0 0 (aB 0) (aX 1 m_7 (aF (mX (ae 2)) (aF (mX (ae 3)) (aF (mX (ae 4)) aO)))) [c,.im y.toD,.im (.lst (kn.map sT)),.im (.lst (ks.map kdD))] l d [.int s]=aa ((fh y kn ks s).2.toD,[.int (fh y kn ks s).1]):=λc d s h=>by
  unfold jM;show(aa [Sl.im d,Sl.pin l [.int s],.im y.toD,.im (.lst (kn.map sT)),.im (.lst (ks.map kdD))]).bind _=_;rw[aC,gj (i:=1) (ρ1:=[.im d,.pin l [.int s],.im y.toD,.im (.lst (kn.map sT)),.im (.lst (ks.map kdD))]) rfl (bm (aR rfl) (bm (aR rfl) (bm (aR rfl) rfl))) rfl (Lb u l kn ks j n t s h),aC];refine if_pos λi hi=>?_
  cases i with
  |zero=>nomatch hi
  |succ i=>rfl
 have loop:∀(c:Sl) (ds:LD) (s:Int),okS s->gi 1 [0,1,2,3] 0 0 (aB 0) (aX 1 m_7 (aF (mX (ae 2)) (aF (mX (ae 3)) (aF (mX (ae 4)) aO)))) [c,.im y.toD,.im (.lst (kn.map sT)),.im (.lst (ks.map kdD))] l ds [.int s]=aa ((itP (fh y kn ks) ds.length s).2.map Pa.toD,[.int (itP (fh y kn ks) ds.length s).1]):=λc ds=>by
  induction ds with
  |nil=>intro s _;rfl
  |cons d ds z=>
   intro s h;unfold gi;rw[g c d s h,aC,z _ (yG u ks t n s).1];rfl
 have w:wp ph [.pin l [.int s],.im y.toD,.im (.lst (kn.map sT)),.im (.lst (ks.map kdD))] (λo=>o=.rtS (.lst ((jm y kn ks s).2.map Pa.toD)) [.pin l [.int (jm y kn ks s).1],.im y.toD,.im (.lst (kn.map sT)),.im (.lst (ks.map kdD))]):=by
  unfold ph jm;refine nq (ρ1:=[.pin l [.int (itP (fh y kn ks) (dr s 4).toNat (nx s)).1],.im y.toD,.im (.lst (kn.map sT)),.im (.lst (ks.map kdD))]) ?_ rfl;unfold jg;rw[px (dg l s 4 _ rfl v (by decide)) (by lia) (by lia),aC];show(if ((ci (dr s 4).toNat).map λ(i:Nat)=>D.int i).length<=16777216/\_[0]?=aa 0/\_=ac then (gi 1 [0,1,2,3] 0 0 _ _ _ l _ _).map λq=>_ else ab)=_;have p:((ci (dr s 4).toNat).map λ(i:Nat)=>D.int i).length=(dr s 4).toNat:=by rw[av,dP]
  rw[if_pos ⟨by rw[p];lia,rfl,rfl⟩,loop _ _ (nx s) (bz s),p];rfl
 obtain⟨o,e,rfl⟩:=w;exact ic e rfl
open NumText PySem.Builtin PySem.Builtin.Str
nonrec abbrev asc(w:LN):Prop:=w.all (· < 128)=ac
variable{w:LN}
def Ld(h:asc w):(tx w).cps.all (· < 128)=ac:=by
 simpa using h
def Le(x:Nat)(c:LN):inS ⟨#[x]⟩ (tx c)=decide (x∈c):=StrLaws.found_one _ x
def C5(w:LN)(h:w.length<=1000):cu [.str (tx w)]=aa (.int (w.length:Int)):=by
 show(if (tx w).length<=16777216 then aa _ else ab)=_;rw[fw,if_pos (by lia)]
def Lf{f:MF1}(h:f ρ=aa (.str (tx w)))(c:asc w):m3 f ρ=aa (w.map λx=>D.str ⟨#[x]⟩):=by
 unfold m3;rw[h,aC];show(if (tx w).cps.all (· < 128)=ac then aa _ else ab)=_;rw[if_pos (Ld c)]
def C6(bs:List Bool):mP [.lst (bs.map D.bl)]=aa (.bl (bs.all id)):=by
 have:∀l:List Bool,gf (l.map D.bl)=aa l:=by
  intro l
  induction l with
  |nil=>rfl
  |cons a l c=>rw[cY];unfold gf;rw[c];rfl
 show((gf _).map λbs=>D.bl _)=_;rw[this];rfl
def C7(w c:LN)(most:Nat)(n:w.length<=1000)(e:asc w):tu [.str (tx w),.str (tx c),.int (most:Int)]=aa (.bl (made w c most)):=by
 apply b9;show wp _ [.im _,.im _,.im _] _;refine cw ?_ (cx rfl);refine oK ?_ ?_
 .have:=Bq (f:=λ_=>aa (.int 1)) (g:=aH cu (af (ae 0) nZ)) (h:=ae 2) (ρ:=[.im _,.im (.str (tx c)),.im (.int most)]) rfl (aN rfl (C5 w n)) mS rfl mS;rw[this]
  congr 3 <;> exact decide_eq_decide.mpr (by lia)
 .have j:bv 1 [1] (m3 (ae 0)) (aB 0) kY (m2 m4 (ae 0) (ae 1)) [.im (.str (tx w)),.im (.str (tx c)),.im (.int most)]=aa ((w.map λx=>decide (x∈c)).map D.bl):=by
   rw[map_map];exact fq w _ (λx=>D.bl _) (Lf rfl e) (by lia) λx _=>eW rfl rfl (ao rfl rfl (show aa _=_ by rw[Le]))
  refine aN (ai (bV j) rfl) ?_;rw[C6,all_map];rfl
def C8(w:LN)(i:Int)(h:0<=i/\i<=w.length):gG (tx w) (aa i) ab=tx (w.drop i.toNat):=by
 have:=StrLaws.sliceText_from (x:=tx w) ⟨h.1,h.2⟩;show StrLaws.sliceText _ _ ab=_;rw[this]
 congr 2
 show(w.drop i.toNat).take _=_;rw[kU (by rw[mh];show _<=(w.length-i).toNat;lia)]
def Lg(w:LN)(i:Int)(h:(w.length:Int)<=i):gG (tx w) (aa i) ab=tx (w.drop i.toNat):=by
 have e:uR (aa i) ab 1 (tx w).length=uR (aa ((tx w).length:Int)) ab 1 (tx w).length:=by
  have o:=fw w;have g:¬i<0:=by lia
  have j:¬(((tx w).length:Nat):Int)<0:=by lia
  have n:min i (((tx w).length:Nat):Int)=((tx w).length:Nat):=by lia
  simp[uR,g,j,n]
 have c:gG (tx w) (aa i) ab=gG (tx w) (aa w.length) ab:=by
  unfold gG;rw[e,fw]
 rw[c,C8 w _ ⟨by lia,by lia⟩,drop_of_length_le (by lia),drop_of_length_le (by lia)]
def Lh(w:LN)(i:Int)(h:0<=i):gG (tx w) (aa i) ab=tx (w.drop i.toNat):=by
 by_cases hi:i<=w.length
 .exact C8 w i ⟨h,hi⟩
 .exact Lg w i (by lia)
def Li(w:LN)(j:Int)(h:0<=j/\j<=w.length):gG (tx w) ab (aa j)=tx (w.take j.toNat):=by
 have:=StrLaws.sliceText_to (x:=tx w) ⟨h.1,h.2⟩;show StrLaws.sliceText _ ab _=_;rw[this];simp
def Lj(w:LN):gG (tx w) ab (aa 1)=tx (w.take 1):=by
 cases w with
 |nil=>rfl
 |cons a w=>exact Li _ 1 ⟨by decide,by rw[bP];lia⟩
def Lk(w:LN)(lo hi:Option Int)(h:w.length<=1000):si (.str (tx w)) lo hi=aa (.str (gG (tx w) lo hi)):=by
 show(if (tx w).length<=16777216 then aa _ else ab)=_;rw[fw,if_pos (by lia)]
variable{l h:LS->Option (Option Int)}
def C9{f:MF1}{lo hi:Option Int}{r:Str}(c:f ρ=aa (.str (tx w)))(e:l ρ=aa lo)(g:h ρ=aa hi)(n:w.length<=1000)(j:gG (tx w) lo hi=r):m5 f l h ρ=aa (.str r):=by
 unfold m5;rw[c,aC,e,aC,g,aC,Lk w lo hi n,j]
def Da{a b:LN}(h:asc b)(c:a ⊆ b):asc a:=all_eq_true.mpr λx e=>all_eq_true.mp h x (c e)
def Ll(w:LN)(c:w.length<=1000)(g:asc w):xP [.str (tx w)]=aa (.bl (jk w)):=by
 apply b9;refine cw (oK ?_ (A1 ?_ ?_)) (cx rfl)
 .exact aN (ai (C9 rfl rfl rfl c (Lj w)) (ai rfl (ai rfl rfl))) (C7 _ grL 1 (by rw[k7];lia) (Da g (take_subset _ _)))
 .refine ao (aN rfl (C5 w c)) rfl ((jE _ _).trans ?_)
  congr 2
  by_cases e:w.length=1
  .rw[e];rfl
  .rw[decide_eq_false e];exact beq_eq_false_iff_ne.mpr (by lia)
 .exact aN (ai (C9 rfl rfl rfl c (Lh w 1 (by decide))) (ai rfl (ai rfl rfl))) (C7 _ smL 7 (by rw[mh];lia) (Da g (drop_subset _ _)))
def Db:∀x∈smL,x<128:=by decide +kernel
def Lm:∀x∈grL,x<128:=by decide +kernel
def pG(h:fA w=ac):w.length<=8/\∀x∈w,x∈smL:=by
 unfold fA made at h;simp only[cS,decide_eq_true_eq]at h;exact⟨h.1.1.2,λx c=>of_decide_eq_true (all_eq_true.mp h.1.2 x c)⟩
def Ln:∀x∈grL,x∉smL:=by decide +kernel
def Lo(h:fA w=ac):jk w=ag:=by
 obtain⟨_,e⟩:=pG h
 have c:1<=w.length:=by
  unfold fA made at h;simp only[cS,decide_eq_true_eq]at h;exact h.1.1.1
 match w,c with
 |x::w,_=>
  rw[Bool.eq_false_iff];intro z;unfold jk made at z;simp only[cS,decide_eq_true_eq]at z;have:=of_decide_eq_true (all_eq_true.mp z.1.2 x (by simp));exact Ln x this (e x bW)
def Lp(h:fA w=ac):asc w:=all_eq_true.mpr λx c=>decide_eq_true (Db x ((pG h).2 x c))
def Dc(h:jk w=ac):w.length<=8/\∀x∈w,x∈grL\/x∈smL:=by
 unfold jk made at h;simp only[cS,jr,decide_eq_true_eq]at h;obtain⟨j,c⟩:=h
 match w with
 | []=>exact⟨by simp,λx g=>(cT g).elim⟩
 |x::w=>
  have g:=of_decide_eq_true (all_eq_true.mp j.2 x (by simp))
  rcases c with c |c
  .have:w=[]:=nG.mp (by rw[bP]at c;lia);subst this;exact⟨by simp,λz hz=>by rw[bN.mp hz];exact .inl g⟩
  .have n:w.length<=7:=c.1.2;refine⟨by rw[bP];lia,λz hz=>?_⟩
   rcases bX.mp hz with e |e
   .rw[e];exact .inl g
   .exact .inr (of_decide_eq_true (all_eq_true.mp c.2 z e))
def Lq(h:jk w=ac):asc w:=all_eq_true.mpr λx c=>decide_eq_true (((Dc h).2 x c).elim (Lm x) (Db x))
def Lr(ws:L2N):(ws.map tx).Nodup↔ws.Nodup:=by
 rw[pW,pW,pairwise_map];exact⟨λh=>h.imp λh e=>h (by rw[e]),λh=>h.imp λh e=>h (ji e)⟩
variable{ws:L2N}
def Ls{f:MF1}(h:f ρ=aa (.lst (ws.map sT)))(c:ws.length<4000):lS f ρ=aa (.int (iO (ws.map tx):Nat)):=by
 refine Jh (xs:=ws.map tx) ?_ (by rw[av];exact c);rw[h,map_map];rfl
def Lu(ws:L2N):decide (((iO (ws.map tx):Nat):Int)<(ws.length:Nat))=!decide ws.Nodup:=by
 have g:=Jj (ws.map tx);have c:=Jk (ws.map tx);rw[av,Lr]at c;rw[av]at g
 by_cases h:ws.Nodup
 .rw[decide_eq_true h,c.mpr h];simp
 .rw[decide_eq_false h];exact decide_eq_true (by have:iO (ws.map tx)≠ws.length:=λe=>h (c.mp e);lia)
def Lv(ws:L2N)(c:ws.length<4000):mB (m2 dLt (lS (ae 0)) (aH cu (af (ae 0) nZ))) [.im (.lst (ws.map sT))]=aa (!decide ws.Nodup):=by
 refine aI (ao (Ls rfl c) (aN (ai rfl rfl) (dZ ws sT)) ?_);rw[oN,Lu]
def Dd(ws:L2N)(h:ws.Nodup)(c:ws.length<4000):tf [.lst (ws.map sT)]=aa .non:=by
 apply b9;refine ba (Lv ws c) (λe=>?_) λ_=>bA ⟨_,rfl,rfl⟩;rw[decide_eq_true h]at e
 nomatch e
def ny{c:Type}{f:c->D}{q:c->LN}{fi:MF2}{L:List c}(h:fi ρ=aa (L.map f))(g:∀x,∃r,f x=.tup [sT (q x),r])(hz:L.length<=1000):bv 2 [] fi (cA (aU (aB 0) (aU (aB 1) cz))) kY (ae 0) ρ=aa ((L.map q).map sT):=by
 rw[map_map];refine fq L f (sT ∘ q) h (by lia) λz _=>?_;obtain⟨r,e⟩:=g z;rw[e];exact eW rfl rfl rfl
def De{c:Type}(f:c->D)(a b:List c)(h:a.length+b.length<=1000):cN (.lst (a.map f)) (.lst (b.map f))=aa (.lst ((a++b).map f)):=by
 show(if (a.map f).length+(b.map f).length<=16777216 then aa (D.lst (a.map f++b.map f)) else ab)=_;rw[if_pos (by rw[av,av];lia),bh]
def Dg(ks:List (LN×L2N))(c ps:List Pr)(h:nw (ks.map (·.1)) (vrs c) ps)(u:c.length+ps.length<=100)(t:ks.length<=1000):tm [.lst (ps.map prD),.lst (c.map prD),.lst (ks.map kdD)]=aa .non:=by
 apply b9;show wp _ [.im (.lst (ps.map prD)),.im (.lst (c.map prD)),.im (.lst (ks.map kdD)),.no,.no,.no] _;apply ap;have o:vrs (c++ps)=vrs c++vrs ps:=bh;refine jb (aN (ai (bV (ny (L:=c++ps) (f:=prD) (q:=(·.1)) (bp (ao rfl rfl (De prD c ps (by lia))) rfl) (λz=>⟨_,rfl⟩) (by rw[aJ];lia))) rfl) (Dd _ (by show(vrs (c++ps)).Nodup;rw[o];exact h.nd) (by rw[av,aJ];lia))) ?_;apply ap;refine b8 (bV (ny (L:=ks) (f:=kdD) (q:=(·.1)) (bp rfl rfl) (λz=>⟨_,rfl⟩) (by lia))) ?_;show wp _ [.im (.lst (ps.map prD)),.im (.lst (c.map prD)),.im (.lst (ks.map kdD)),.no,.no,.im (.lst ((ks.map (·.1)).map sT))] _;refine cK ps prD (λ_ ρ=>∃g j,ρ=[.im (.lst (ps.map prD)),.im (.lst (c.map prD)),.im (.lst (ks.map kdD)),g,j,.im (.lst ((ks.map (·.1)).map sT))]) (bp rfl rfl) ⟨_,_,rfl⟩ ?_ ?_
 .rintro pre p post ρ n ⟨g,j,rfl⟩;refine⟨_,rfl,?_⟩;have hp:p∈ps:=by rw[n];simp
  refine ba (aI (ao rfl rfl (py p.2 _))) (λe=>?_) λ_=>bA ⟨_,_,rfl⟩;rw[decide_eq_true (h.kd p hp)]at e
  nomatch e
 .rintro ρ ⟨g,j,rfl⟩;exact⟨_,rfl,rfl⟩
def Lw(c:L2N)(ps:List Pr)(h:∀w∈c,ij (vrs ps) w)(j:∀p∈ps,jk p.1=ac)(u:ps.length<=100):xR [.lst (c.map sT),.lst (ps.map prD)]=aa .non:=by
 apply b9;show wp _ [.im (.lst (c.map sT)),.im (.lst (ps.map prD)),.no,.no] _;apply ap;refine b8 (bV (ny (L:=ps) (f:=prD) (q:=(·.1)) (bp rfl rfl) (λz=>⟨_,rfl⟩) (by lia))) ?_;show wp _ [.im (.lst (c.map sT)),.im (.lst (ps.map prD)),.im (.lst ((vrs ps).map sT)),.no] _;refine cK c sT (λ_ ρ=>∃g,ρ=[.im (.lst (c.map sT)),.im (.lst (ps.map prD)),.im (.lst ((vrs ps).map sT)),g]) (bp rfl rfl) ⟨_,rfl⟩ ?_ ?_
 .rintro pre w post ρ o ⟨g,rfl⟩;refine⟨_,rfl,?_⟩;have n:=h w (by rw[o];simp)
  have t:w.length<=8/\asc w:=by
   rcases n with z |z
   .obtain⟨p,hp,rfl⟩:=bT.mp z;exact⟨(Dc (j p hp)).1,Lq (j p hp)⟩
   .exact⟨(pG z).1,Lp z⟩
  refine ba (b:=jk w && !decide (w∈vrs ps)) (kj (jF (aN (ai rfl rfl) (Ll w (by lia) t.2)) rfl) (aI (ao rfl rfl (py w _)))) (λe=>?_) λ_=>bA ⟨_,rfl⟩
  rcases n with z |z
  .rw[decide_eq_true z,Bool.not_true,Bool.and_false]at e;nomatch e
  .rw[Lo z]at e;nomatch e
 .rintro ρ ⟨g,rfl⟩;exact⟨_,rfl,rfl⟩
def Lx{f:MF1}(h:f ρ=aa (.lst ds))(h':ρ[i]?=aa (.own xs))(c:xs.length+ds.length<=16777216):i8 i (i7 f) ρ=aa (.nx (ρ.set i (.own (xs++ds)))):=by
 unfold i8 i7;rw[h]
 show((match ρ[i]? with |some (.own xs)=>_ | _=>_):Option Fl)=_
 rw[h'];exact if_pos c
def pH{f:MF1}(h:f ρ=aa (.lst ds))(h':ρ[i]?=aa (.own xs))(c:xs.length+ds.length<=16777216)(k:K (.nx (ρ.set i (.own (xs++ds))))):wp (i8 i (i7 f)) ρ K:=⟨_,Lx h h' c,k⟩
@[reducible]noncomputable def Us:=L2N×List Pr
@[reducible]noncomputable def usD(u:Us):D:=.tup [.lst (u.1.map sT),.lst (u.2.map prD)]
abbrev jo(its:List Ti):L2N:=its.flatMap λz=>z.1.2
abbrev paU:Pa->Us
 |.is t=>(t.2,[])
 |.no t=>(t.2,[])
 |.un a b=>([a,b],[])
 |.ct _ _ its ov=>(jo its,ov)
abbrev roU:Ro->List Us
 |.kind _ _=>[]
 |.rule _ t bd _=>bd.map paU++[(t.2,[])]
 |.choose _ _ its ov bd _=>bd.map paU++[(jo its,ov)]
 |.never bd _=>bd.map paU
abbrev roP:Ro->List Pr
 |.kind _ _=>[]
 |.rule _ _ _ ps=>ps
 |.choose _ _ _ _ _ ps=>ps
 |.never _ ps=>ps
abbrev roB:Ro->List Pa
 |.kind _ _=>[]
 |.rule _ _ bd _=>bd
 |.choose _ _ _ _ bd _=>bd
 |.never bd _=>bd
abbrev PaS:Pa->Prop
 |.is t=>t.2.length<=100
 |.no t=>t.2.length<=100
 |.un _ _=>True
 |.ct _ _ its _=>its.length<=100/\∀z∈its,z.1.2.length<=100
abbrev RoS:Ro->Prop
 |.kind _ ns=>ns.length<=100
 |.rule _ t bd _=>t.2.length<=100/\bd.length<=100/\∀p∈bd,PaS p
 |.choose _ _ its _ bd _=>(its.length<=100/\∀z∈its,z.1.2.length<=100)/\bd.length<=100/\∀p∈bd,PaS p
 |.never bd _=>bd.length<=100/\∀p∈bd,PaS p
def Ly{its:List Ti}(h:∀z∈its,z.1.2.length<=100):(jo its).length<=100*its.length:=by
 unfold jo
 induction its with
 |nil=>simp
 |cons z its e=>
  rw[iU,aJ,bP];have g:=h z bW;have j:=e λx c=>h x (c8 _ c);lia
def Dh(its:List Ti)(o:its.length<=100)(h:∀z∈its,z.1.2.length<=100):tw [.lst (its.map bC)]=aa (.lst ((jo its).map sT)):=by
 apply b9;show wp _ [.im (.lst (its.map bC)),.no,.no,.no] _;apply ap;refine dW rfl ?_;show wp _ [.im (.lst (its.map bC)),.own [],.no,.no] _;apply ap;refine cK its bC (λpre ρ=>∃c g,ρ=[.im (.lst (its.map bC)),.own ((jo pre).map sT),c,g]) (bp rfl rfl) ⟨_,_,rfl⟩ ?_ ?_
 .rintro pre z post ρ j ⟨c,g,rfl⟩;refine⟨_,rfl,?_⟩;have hz:=h z (by rw[j];simp);have hp:=Ly (its:=pre) λx n=>h x (by rw[j];simp[n])
  have p:pre.length<=100:=by
   have:=congrArg e6 j;rw[aJ]at this;lia
  refine pH (ak rfl rfl rfl) rfl (by rw[av,av];lia) ⟨.im (kdD z.1),.im (.int z.2),?_⟩
  have e:jo (pre++[z])=jo pre++z.1.2:=by
   unfold jo;rw[fD];simp
  rw[e,bh];rfl
 .rintro ρ ⟨c,g,rfl⟩;exact⟨_,rfl,_,rfl,rfl⟩
def Lz(p:Pa)(h:PaS p):tz [p.toD]=aa (usD (paU p)):=by
 apply b9;show wp _ [.im p.toD] _
 cases p with
 |is t=>
  apply ap;refine ba (b:=ag) (aI (ao (ak rfl rfl rfl) rfl rfl)) (λe=>nomatch e) λ_=>bA ?_;apply ap;refine ba (b:=ag) (aI (ao (ak rfl rfl rfl) rfl rfl)) (λe=>nomatch e) λ_=>bA ?_
  exact cw (cv (ai (ak (bp (ak rfl rfl rfl) rfl) rfl rfl) (ai rfl rfl))) (cx rfl)
 |no t=>
  apply ap;refine ba (b:=ag) (aI (ao (ak rfl rfl rfl) rfl rfl)) (λe=>nomatch e) λ_=>bA ?_;apply ap;refine ba (b:=ag) (aI (ao (ak rfl rfl rfl) rfl rfl)) (λe=>nomatch e) λ_=>bA ?_
  exact cw (cv (ai (ak (bp (ak rfl rfl rfl) rfl) rfl rfl) (ai rfl rfl))) (cx rfl)
 |un a b=>
  apply ap;refine ba (b:=ac) (aI (ao (ak rfl rfl rfl) rfl rfl)) (λ_=>?_) λe=>nomatch e
  exact cw (cv (ai (bV (ai (ak rfl rfl rfl) (ai (ak rfl rfl rfl) rfl))) (ai rfl rfl))) (cx rfl)
 |ct w n its ov=>
  apply ap
  refine ba (b:=ag) (aI (ao (ak rfl rfl rfl) rfl (by cases w <;> rfl))) (λe=>nomatch e) λ_=>bA ?_
  apply ap
  refine ba (b:=ac) (aI (ao (ak rfl rfl rfl) rfl (by cases w <;> rfl))) (λ_=>?_) λe=>nomatch e
  exact cw (cv (ai (aN (ai (ak rfl rfl rfl) rfl) (Dh its h.1 h.2)) (ai (ak rfl rfl rfl) rfl))) (cx rfl)
def LA(r:Ro)(o:∀n ns,r≠.kind n ns)(h:RoS r):xV [r.toD]=aa (.lst ((roU r).map usD)):=by
 have bd:∀(bd:List Pa) (ρ:LS) (fi:MF2),fi ρ=aa (bd.map Pa.toD)->bd.length<=100->(∀p∈bd,PaS p)->bv 1 [] fi (aB 0) kY (aH tz (af (ae 0) nZ)) ρ=aa ((bd.map paU).map usD):=λbd ρ fi g q j=>by
  rw[map_map];exact fq bd Pa.toD (usD ∘ paU) g (by lia) λp hp=>eW rfl rfl (aN (ai rfl rfl) (Lz p (j p hp)))
 apply b9;show wp _ [.im r.toD,.no] _
 cases r with
 |kind n ns=>exact absurd rfl (o n ns)
 |rule b t c ps=>
  apply ap;refine dW (bd c _ _ (bp (ak rfl rfl rfl) rfl) h.2.1 h.2.2) ?_;apply ap
  refine ba (b:=ag) (aI (ao (ak rfl rfl rfl) rfl (by cases b <;> rfl))) (λe=>nomatch e) λ_=>?_
  refine ba (b:=ac) (aI (ao (ak rfl rfl rfl) rfl (by cases b <;> rfl))) (λ_=>?_) λe=>nomatch e
  refine ja (cv (ai (ak (bp (ak rfl rfl rfl) rfl) rfl rfl) (ai rfl rfl))) rfl (by rw[av,av];have:=h.2.1;lia) ⟨_,rfl,_,rfl,?_⟩;show D.lst (_++[_])=_;unfold roU;rw[bh]
  rfl
 |choose lo hi its ov c ps=>
  apply ap;refine dW (bd c _ _ (bp (ak rfl rfl rfl) rfl) h.2.1 h.2.2) ?_;apply ap;refine ba (b:=ac) (aI (ao (ak rfl rfl rfl) rfl rfl)) (λ_=>?_) λe=>nomatch e;refine ja (cv (ai (aN (ai (ak rfl rfl rfl) rfl) (Dh its h.1.1 h.1.2)) (ai (ak rfl rfl rfl) rfl))) rfl (by rw[av,av];have:=h.2.1;lia) ⟨_,rfl,_,rfl,?_⟩;show D.lst (_++[_])=_;unfold roU;rw[bh]
  rfl
 |never c ps=>
  apply ap;refine dW (bd c _ _ (bp (ak rfl rfl rfl) rfl) h.1 h.2) ?_;apply ap;refine ba (b:=ag) (aI (ao (ak rfl rfl rfl) rfl rfl)) (λe=>nomatch e) λ_=>?_;refine ba (b:=ag) (aI (ao (ak rfl rfl rfl) rfl rfl)) (λe=>nomatch e) λ_=>bA ⟨_,rfl,_,rfl,rfl⟩
@[reducible]noncomputable def Kd:=LN×L2N
abbrev ue(K vs:L2N)(u:Us):Prop:=PsL K vs u.2/\∀w∈u.1,ij (vs++vrs u.2) w
variable{K vs:L2N}
def Di(h:vs.Nodup):PsL K vs []:=⟨⟨by simpa using h,λ_ z=>(cT z).elim,λ_ z=>(cT z).elim⟩,by decide⟩
variable{t:Th}
def thU(c:vs.Nodup)(h:iQ vs t):ue K vs (t.2,[]):=⟨Di c,λw e=>by simpa using h w e⟩
variable{ov:List Pr}
def itU{its:List Ti}(h:PsL K vs ov/\∀z∈its,iQ (vs++vrs ov) z.1):ue K vs (jo its,ov):=by
 refine⟨h.1,λw c=>?_⟩;obtain⟨z,hz,c⟩:=fX.mp c;exact h.2 z hz w c
def yK(c:vs.Nodup):∀p:Pa,kM K vs p->ue K vs (paU p)
 |.is _,h=>thU c h
 |.no _,h=>thU c h
 |.un a b,h=>⟨Di c,λw g=>by
   rcases bX.mp g with e |e
   .rw[e];show ij (vs++[]) a;rw[eB];exact h.1
   .rw[bN.mp e];show ij (vs++[]) b;rw[eB];exact h.2⟩
 |.ct _ _ _ _,h=>itU h
def LB:∀r:Ro,pB K r->PsL K [] (roP r)/\∀u∈roU r,ue K (vrs (roP r)) u
 |.rule _ t bd ps,h=>by
  have c:(vrs ps).Nodup:=by simpa using h.1.1.nd
  refine⟨h.1,λu g=>?_⟩
  rcases dB.mp g with e |e
  .obtain⟨p,hp,rfl⟩:=bT.mp e;exact yK c p (h.2.2 p hp)
  .rw[bN.mp e];exact thU c h.2.1
 |.choose _ _ its ov bd ps,h=>by
  have c:(vrs ps).Nodup:=by simpa using h.1.1.nd
  refine⟨h.1,λu g=>?_⟩
  rcases dB.mp g with e |e
  .obtain⟨p,hp,rfl⟩:=bT.mp e;exact yK c p (h.2.2 p hp)
  .rw[bN.mp e];exact itU h.2.1
 |.never bd ps,h=>by
  have c:(vrs ps).Nodup:=by simpa using h.1.1.nd
  refine⟨h.1,λu g=>?_⟩;obtain⟨p,hp,rfl⟩:=bT.mp g;exact yK c p (h.2 p hp)
def yL(r:Ro)(c:∀n ns,r≠.kind n ns)(ρ:LS):mIx (am 0) (m1 eU (kI 1)) (.im r.toD::ρ)=aa (.lst ((roP r).map prD)):=by
 cases r with
 |kind n ns=>exact absurd rfl (c n ns)
 |rule b t bd ps=>exact ak rfl rfl rfl
 |choose lo hi its ov bd ps=>exact ak rfl rfl rfl
 |never bd ps=>exact ak rfl rfl rfl
def LC(ks:List Kd)(r:Ro)(h:pB (ks.map (·.1)) r)(B:RoS r)(v:ks.length<=1000):tB [r.toD,.lst (ks.map kdD)]=aa .non:=by
 have c:∀n ns,r≠.kind n ns:=λn ns e=>by subst e;exact h
 obtain⟨o,z⟩:=LB r h;have G:=o.2;apply b9;show wp _ [.im r.toD,.im (.lst (ks.map kdD)),.no,.no] _;apply ap;refine jb (aN (ai (yL r c _) (ai rfl (ai rfl rfl))) (Dg ks [] (roP r) o.1 (by rw[length_nil];lia) v)) ?_;refine cK (roU r) usD (λ_ ρ=>∃g j,ρ=[.im r.toD,.im (.lst (ks.map kdD)),g,j]) (bp (aN (ai rfl rfl) (LA r c B)) rfl) ⟨_,_,rfl⟩ ?_ ?_
 .rintro pre u post ρ A ⟨g,j,rfl⟩;refine⟨_,rfl,?_⟩;obtain⟨q,E⟩:=z u (by rw[A];simp);have H:=q.2;apply ap;refine jb (aN (ai rfl (ai (yL r c _) (ai rfl rfl))) (Dg ks (roP r) u.2 q.1 (by lia) v)) ?_;refine jb (aN (ai rfl (ai (ao (yL r c _) rfl (De prD (roP r) u.2 (by lia))) rfl)) (Lw u.1 (roP r++u.2) (λw C=>?_) (λp hp=>?_) (by rw[aJ];lia))) ⟨_,_,rfl⟩
  .rw[show vrs (roP r++u.2)=vrs (roP r)++vrs u.2 from bh];exact E w C
  .exact(dB.mp hp).elim (o.1.vr p) (q.1.vr p)
 .rintro ρ ⟨g,j,rfl⟩;exact⟨_,rfl,rfl⟩
def LF(ks:List Kd)(n:LN)(c:Sl)(e:ks.length<=1000):mB (m2 dIn (ae 2) (aT (bv 2 [] (be (ae 1)) (cA (aU (aB 0) (aU (aB 1) cz))) kY (ae 0)))) [c,.im (.lst (ks.map kdD)),.im (sT n)]=aa (decide (n∈ks.map (·.1))):=
 aI (ao rfl (bV (ny (L:=ks) (f:=kdD) (q:=(·.1)) (bp rfl rfl) (λz=>⟨_,rfl⟩) e)) (inW n _))
def LG(ks:List Kd)(n:LN)(ns:L2N)(h:n∉ks.map (·.1))(j:ns.Nodup)(g:ns.length<4000)(c:ks.length<=1000):tE [Ro.toD (.kind n ns),.lst (ks.map kdD)]=aa .non:=by
 apply b9;show wp _ [.im (Ro.toD (.kind n ns)),.im (.lst (ks.map kdD)),.no] _;apply ap;refine b8 (d:=sT n) (ak rfl rfl rfl) ?_;show wp _ [.im (Ro.toD (.kind n ns)),.im (.lst (ks.map kdD)),.im (sT n)] _;apply ap;refine ba (LF ks n _ c) (λe=>absurd (of_decide_eq_true e) h) λ_=>bA ?_;exact jb (aN (ai (ak rfl rfl rfl) rfl) (Dd ns j g)) ⟨_,rfl,rfl⟩
abbrev kO:Ro->List Kd
 |.kind n ns=>[(n,ns)]
 | _=>[]
abbrev dN(rs:List Ro):List Kd:=rs.flatMap kO
def Dj(rs:List Ro):(dN rs).length<=rs.length:=by
 unfold dN
 induction rs with
 |nil=>simp
 |cons r rs c=>
  rw[iU,aJ,bP]
  have:(kO r).length<=1:=by cases r <;> simp[kO]
  lia
abbrev uf(ks:List Kd):Ro->Prop
 |.kind n ns=>n∉ks.map (·.1)/\ns.Nodup
 |r=>pB (ks.map (·.1)) r
def LH(r:Ro)(a b:Sl):mB (m2 dEq (mIx (am 2) (kI 0)) (kSt "kind")) [a,b,.im r.toD]=aa (match r with |.kind _ _=>ac | _=>ag):=by
 cases r with
 |kind n ns=>exact aI (ao (ak rfl rfl rfl) rfl rfl)
 |rule b t bd ps=>exact aI (ao (ak rfl rfl rfl) rfl (by cases b <;> rfl))
 |choose lo hi its ov bd ps=>exact aI (ao (ak rfl rfl rfl) rfl rfl)
 |never bd ps=>exact aI (ao (ak rfl rfl rfl) rfl rfl)
def yM{m:LD->OD}{f:MF2}(h:f ρ=aa ds)(e:m ds=aa .non):hX m f ρ=aa .non:=by
 unfold hX;rw[h,aC,e];rfl
abbrev pI(rs:List Ro):Prop:=∀pre r post,rs=pre++r::post->uf (dN pre) r/\RoS r
def LI(pre:List Ro)(r:Ro):dN (pre++[r])=dN pre++kO r:=by
 unfold dN;rw[fD,flatMap_singleton]
def LJ(a:Sl)(ks:List Kd)(r:Ro)(h:uf ks r)(j:RoS r)(c:ks.length<=1000):wp (bK (mB (m2 dEq (mIx (am 2) (kI 0)) (kSt "kind"))) (aq (fI (hX tE (af (ae 2) (af (g9 1) nZ))))
  (gc 1 (bG (af (mIx (am 2) (kI 1)) (af (aT (be (mIx (am 2) (kI 2)))) nZ))))) (fI (hX tB (af (ae 2) (af (g9 1) nZ))))) [a,.own (ks.map kdD),.im r.toD] (λo=>o=.nx [a,.own ((ks++kO r).map kdD),.im r.toD]):=by
 refine ba (LH r _ _) (λe=>?_) λe=>?_
 .cases r with
  |kind n ns=>
   apply ap;refine jb (yM (ai rfl (ai rfl rfl)) (LG ks n ns h.1 h.2 (by have:ns.length<=100:=j;lia) c)) ?_;refine ja (d:=kdD (n,ns)) (cv (ai (ak rfl rfl rfl) (ai (bV (bp (ak rfl rfl rfl) rfl)) rfl))) rfl (by rw[av];lia) ?_;show Fl.nx [a,.own (ks.map kdD++[kdD (n,ns)]),_]=Fl.nx [a,.own ((ks++[(n,ns)]).map kdD),_];rw[bh]
   rfl
  |rule b t bd ps=>nomatch e
  |choose lo hi its ov bd ps=>nomatch e
  |never bd ps=>nomatch e
 .have g:kO r=[]/\pB (ks.map (·.1)) r:=by
   cases r with
   |kind n ns=>nomatch e
   |rule b t bd ps=>exact⟨rfl,h⟩
   |choose lo hi its ov bd ps=>exact⟨rfl,h⟩
   |never bd ps=>exact⟨rfl,h⟩
  refine jb (yM (ai rfl (ai rfl rfl)) (LC ks r g.2 j c)) ?_;rw[g.1,eB]
def LK(rs:List Ro)(h:pI rs)(p:rs.length<=1000):xY [.lst (rs.map Ro.toD)]=aa (.lst ((dN rs).map kdD)):=by
 apply b9;unfold tF;show wp _ [.im (.lst (rs.map Ro.toD)),.no,.no] _;apply ap;refine dW (d:=[]) rfl ?_;show wp _ [.im (.lst (rs.map Ro.toD)),.own [],.no] _;apply ap;refine cK rs Ro.toD (λpre ρ=>∃c,ρ=[.im (.lst (rs.map Ro.toD)),.own ((dN pre).map kdD),c]) (bp rfl rfl) ⟨_,rfl⟩ ?_ ?_
 .rintro pre r post ρ g ⟨c,rfl⟩;refine⟨_,rfl,?_⟩;obtain⟨j,n⟩:=h pre r post g;have hp:pre.length<=rs.length:=by rw[g,aJ];lia
  have:=Dj pre;obtain⟨o,e,rfl⟩:=LJ (.im (.lst (rs.map Ro.toD))) (dN pre) r j n (by lia);exact⟨_,e,_,by rw[LI]⟩
 .rintro ρ ⟨c,rfl⟩;exact ko rfl (iF rfl)
abbrev gk{c:Type}(F:List (List c))(ns:List c):List (List c):=F.flatMap λw=>ns.map λn=>w++[n]
abbrev dO{c:Type}(S:List (List c)):List (List c):=S.foldl gk [[]]
abbrev l5{c:Type}(d:c):List (List c)->Nat->List c
 | [],_=>[]
 |ns::R,i=>l5 d R (i / ns.length)++[ns.getD (i % ns.length) d]
abbrev tot{c:Type}(S:List (List c)):Nat:=S.foldl (λt ns=>t*ns.length) 1
def pJ{e:Type}(ns:List e):∀F:List (List e),(gk F ns).length=F.length*ns.length
 | []=>by simp[gk]
 |w::F=>by
  have c:=pJ ns F;unfold gk at c ⊢;rw[iU,aJ,c,av,bP,ml,Nat.add_comm]
def Dk{e:Type}(d:e)(ns:List e)(j:0<ns.length):∀(F:List (List e)) (i:Nat) (w:List e),F[i / ns.length]?=aa w->(gk F ns)[i]?=aa (w++[ns.getD (i % ns.length) d])
 | [],i,w,h=>by simp at h
 |v::F,i,w,h=>by
  unfold gk;rw[iU]
  by_cases hi:i<ns.length
  .rw[kR (by rw[av];exact hi),d7,cr hi,Nat.mod_eq_of_lt hi];rw[Nat.div_eq_of_lt hi]at h;cases h;rw[fm,cr hi];rfl
  .have c:ns.length<=i:=p7 hi;rw[iT (by rw[av];exact c),av];have g:=Dk d ns j F (i-ns.length) w;unfold gk at g;rw[<- Nat.mod_eq_sub_mod c]at g;apply g;have:i / ns.length=(i-ns.length) / ns.length+1:=by rw[Nat.div_eq_sub_div j c]
   rw[this]at h;exact h
def kP{c:Type}(S:List (List c))(ns:List c):dO (S++[ns])=gk (dO S) ns:=by unfold dO;rw[mf];rfl
def yN{c:Type}(S:List (List c))(ns:List c):tot (S++[ns])=tot S*ns.length:=by unfold tot;rw[mf];rfl
def Dl{e:Type}(R:List (List e)):(dO R.reverse).length=tot R.reverse:=by
 induction R with
 |nil=>rfl
 |cons ns R c=>rw[gl,kP,yN,pJ,c]
def LM{e:Type}(d:e)(R:List (List e))(hR:∀ns∈R,0<ns.length):∀i,i<tot R.reverse->(dO R.reverse)[i]?=aa (l5 d R i):=by
 induction R with
 |nil=>
  intro i hi;have:i=0:=by unfold tot at hi;simp at hi;exact hi
  subst this
  rfl
 |cons ns R j=>
  intro i hi;rw[gl,yN]at hi;have c:=hR ns bW;rw[gl,kP];exact Dk d ns c _ i _ (j (λm g=>hR m (c8 _ g)) (i / ns.length) ((Nat.div_lt_iff_lt_mul c).mpr hi))
def yO{c:Type}(f:c->LN)(g:c->D)(w:LN):∀L:List c,gy (L.map λx=>(g3 (tx (f x)):Key)) (L.map g) (.inr (tx w))=(L.find? λx=>decide (f x=w)).map g
 | []=>rfl
 |x::L=>by
  have j:=yO f g w L;unfold gy at j ⊢;rw[cY,cY,kZ,mj,mj]
  by_cases e:f x=w
  .rw[decide_eq_true (show(g3 (tx (f x)):Key)=.inr (tx w) by rw[e]),decide_eq_true e];rfl
  .rw[decide_eq_false (λz=>e (ji (nV z))),decide_eq_false e];exact j
@[reducible]noncomputable def As:=List (LN×LN)
abbrev aK(n:As):List Key:=n.map λp=>.inr (tx p.1)
abbrev aV(n:As):LD:=n.map λp=>sT p.2
abbrev fj(d:D)(n:As):Prop:=iJ d=aa (aK n,aV n)
abbrev nmF(n:As)(w:LN):LN:=((n.find? λp=>decide (p.1=w)).map (·.2)).getD w
variable{n:As}
def LO(h:fj d n)(w:LN):sy d (sT w) (sT w)=aa (sT (nmF n w)):=by
 unfold sy;rw[h,aC];show aa ((gy (aK n) (aV n) (.inr (tx w))).getD (sT w))=_;unfold aK aV nmF;rw[yO (λp:LN×LN=>p.1) (λp=>sT p.2) w n]
 cases n.find? λp=>decide (p.1=w) <;> rfl
def ug{f g h:MF1}(c:f ρ=aa d)(e:g ρ=aa (sT w))(j:h ρ=aa (sT w))(o:fj d n):kC f g h ρ=aa (sT (nmF n w)):=by
 unfold kC;rw[c,aC,e,aC,j,aC];exact LO o w
abbrev dA(ks:List Kd):List Key:=ks.map λk=>.inr (tx k.1)
abbrev eN(ks:List Kd):LD:=ks.map λk=>.lst (k.2.map sT)
abbrev kOf(ks:List Kd)(k:LN):L2N:=((ks.find? λq=>decide (q.1=k)).map (·.2)).getD []
abbrev kQ(d:D)(ks:List Kd):Prop:=iJ d=aa (dA ks,eN ks)
variable{ks:List Kd}
def Dm{k:LN}(h:k∈ks.map (·.1)):∃q,ks.find? (λq=>decide (q.1=k))=aa q/\kOf ks k=q.2/\q∈ks:=by
 obtain⟨q,g,e⟩:=bT.mp h
 cases c:ks.find? (λq=>decide (q.1=k))with
 |none=>exact absurd (p5.mp c q g) (by simpa using e)
 |some x=>exact⟨x,rfl,by unfold kOf;rw[c];rfl,mem_of_find?_eq_some c⟩
def yP(h:kQ d ks){k:LN}(g:k∈ks.map (·.1)):eY d (sT k)=aa (.lst ((kOf ks k).map sT)):=by
 obtain⟨q,c,e,_⟩:=Dm g;unfold eY;rw[h,aC];show gy (dA ks) (eN ks) (.inr (tx k))=_;unfold dA eN;rw[yO (λq:Kd=>q.1) (λq=>D.lst (q.2.map sT)) k ks,c,e];rfl
def Dn:∀ks:List Kd,jL (ks.map kdD)=aa (dA ks,eN ks)
 | []=>rfl
 |k::ks=>by
  rw[cY];show((gx (.str (tx k.1))).bind λy=>(jL (ks.map kdD)).map λr=>(y::r.1,D.lst (k.2.map sT)::r.2))=_;rw[Dn ks];rfl
def uh{c:Type}(f:c->LN)(L:List c)(h:(L.map f).Nodup):(L.map λx=>(g3 (tx (f x)):Key)).Nodup:=by
 rw[pW,pairwise_map]at h ⊢;exact h.imp λh e=>h (ji (nV e))
abbrev psN(ks:List Kd)(ps:List Pr):List L2N:=ps.map λp=>kOf ks p.2
structure PsK(ks:List Kd)(ps:List Pr):Prop where
 k:∀p∈ps,p.2∈ks.map (·.1)
 l:∀p∈ps,0<(kOf ks p.2).length/\(kOf ks p.2).length<=12
 n:ps.length<=3
def Do:∀(S:List L2N),(∀ns∈S,ns.length<=12)->(dO S.reverse).length<=12 ^ S.length
 | [],_=>bf _
 |ns::S,h=>by
  rw[gl,kP,pJ,bP,Nat.pow_succ];exact Nat.mul_le_mul (Do S λm c=>h m (c8 _ c)) (h ns bW)
def Dp:∀(S:List L2N),∀w∈dO S.reverse,w.length=S.length
 | [],w,hw=>by cases bN.mp hw;rfl
 |ns::S,w,hw=>by
  rw[gl,kP]at hw;obtain⟨v,e,c⟩:=fX.mp hw;obtain⟨n,_,rfl⟩:=bT.mp c;rw[aJ,Dp S v e];rfl
variable{ps:List Pr}
def pK(h:PsK ks ps):(dO (psN ks ps)).length<=1728/\∀w∈dO (psN ks ps),w.length=ps.length:=by
 have c:=Do (psN ks ps).reverse λm j=>by
  obtain⟨p,hp,rfl⟩:=bT.mp (k8.mp j);exact(h.l p hp).2
 have e:=Dp (psN ks ps).reverse;rw[kX]at c e;have g:(psN ks ps).reverse.length=ps.length:=by unfold psN;rw[jv,av]
 rw[g]at c;refine⟨dC c (dC (uG (by decide) h.n) (by decide)),λw o=>(e w o).trans g⟩
def yQ{a b:List Pr}(h:PsK ks (a++b)):PsK ks a:=⟨λp hp=>h.k p (dB.mpr (.inl hp)),λp hp=>h.l p (dB.mpr (.inl hp)),by have:=h.n;rw[aJ]at this;lia⟩
def LP(nd:(ks.map (·.1)).Nodup)(L:ks.length<=1000)(h:PsK ks ps):yd [.lst (ps.map prD),.lst (ks.map kdD)]=aa (.lst ((dO (psN ks ps)).map λw=>D.lst (w.map sT))):=by
 apply b9;unfold tM;show wp _ [.im (.lst (ps.map prD)),.im (.lst (ks.map kdD)),.no,.no,.no,.no,.no,.no] _;apply ap
 have M:sk 2 (ae 1) [.im (.lst (ps.map prD)),.im (.lst (ks.map kdD)),.no,.no,.no,.no,.no,.no]=aa (.nx [.im (.lst (ps.map prD)),.im (.lst (ks.map kdD)),.ownd (dA ks) (eN ks),.no,.no,.no,.no,.no]):=by
  show((jL (ks.map kdD)).bind λr=>if r.1.Nodup/\r.1.length<=1000 then aa (Fl.nx [.im (.lst (ps.map prD)),.im (.lst (ks.map kdD)),.ownd r.1 r.2,.no,.no,.no,.no,.no]) else ab)=_;rw[Dn,aC,if_pos ⟨uh (λk:Kd=>k.1) ks nd,by unfold dA;rw[av];exact L⟩]
 refine oM M ?_;apply ap;refine wb (ks:=dA ks) (xs:=eN ks) rfl ?_;refine b8 (d:=.lst ((dO (psN ks [])).map λw=>D.lst (w.map sT))) rfl ?_;show wp _ [.im (.lst (ps.map prD)),.im (.lst (ks.map kdD)),.im (.kd (dA ks) (eN ks)),.im (.lst ((dO (psN ks [])).map λw=>D.lst (w.map sT))),.no,.no,.no,.no] _;have e:kQ (.kd (dA ks) (eN ks)) ks:=rfl;generalize D.kd (dA ks) (eN ks)=N at e;apply ap;refine cK ps prD (λpre ρ=>∃u v q c,ρ=[.im (.lst (ps.map prD)),.im (.lst (ks.map kdD)),.im N,.im (.lst ((dO (psN ks pre)).map λw=>D.lst (w.map sT))),u,v,q,c]) (bp rfl rfl) ⟨_,_,_,_,rfl⟩ ?_ ?_
 .rintro pre p post ρ z ⟨u,v,q,c,rfl⟩;have hp:p∈ps:=by rw[z];simp
  obtain⟨H,B⟩:=pK (yQ (z▸h));have o:pre.length<=3:=(yQ (z▸h)).n;have C:=yP e (h.k p hp);have j:=(h.l p hp).2;have E:psN ks (pre++[p])=psN ks pre++[kOf ks p.2]:=by unfold psN;rw[bh];rfl
  rw[E,kP];generalize dO (psN ks pre)=F at H B;generalize kOf ks p.2=ns at C j;refine⟨_,rfl,?_⟩;show wp _ [.im (.lst (ps.map prD)),.im (.lst (ks.map kdD)),.im N,.im (.lst (F.map λw=>D.lst (w.map sT))),.im (sT p.1),.im (sT p.2),q,c] _;apply ap;refine dW (d:=[]) rfl ?_;show wp _ [.im (.lst (ps.map prD)),.im (.lst (ks.map kdD)),.im N,.im (.lst (F.map λw=>D.lst (w.map sT))),.im (sT p.1),.im (sT p.2),.own [],c] _;apply ap;refine cK F (λw=>D.lst (w.map sT)) (λpre ρ=>∃c,ρ=[.im (.lst (ps.map prD)),.im (.lst (ks.map kdD)),.im N,.im (.lst (F.map λw=>D.lst (w.map sT))),.im (sT p.1),.im (sT p.2),.own ((gk pre ns).map λw=>D.lst (w.map sT)),c]) (bp rfl rfl) ⟨_,rfl⟩ ?_ ?_
  .rintro G w A ρ g ⟨c,rfl⟩;refine⟨_,rfl,?_⟩;have Q:w.length<=3:=by rw[B w (by rw[g];simp)];exact o
   have I:G.length<=1728:=by have:=congrArg e6 g;rw[aJ]at this;lia
   have J:bv 1 [7] (be (m2 eY (ae 2) (ae 5))) (aB 0) kY (aT (eX (ae 1) (aT (af (ae 0) nZ)))) [.im (.lst (ps.map prD)),.im (.lst (ks.map kdD)),.im N,.im (.lst (F.map λw=>D.lst (w.map sT))),.im (sT p.1),.im (sT p.2),.own ((gk G ns).map λw=>D.lst (w.map sT)),.im (.lst (w.map sT))]=aa ((ns.map λn=>w++[n]).map λw=>D.lst (w.map sT)):=by
    rw[map_map];refine fq ns sT _ (bp (ao rfl rfl C) rfl) (by lia) λn _=>eW rfl rfl ?_;show(eX _ _ _).map D.lst=aa (D.lst ((w++[n]).map sT));unfold eX;show((if (w.map sT).length+1<=16777216 then aa (w.map sT++[sT n]) else ab):OLD).map D.lst=_;rw[if_pos (by rw[av];lia),bh];rfl
   refine pH (bV J) rfl (by rw[av,pJ,av,av];have:=Nat.mul_le_mul I j;lia) ⟨.im (.lst (w.map sT)),?_⟩;have:gk (G++[w]) ns=gk G ns++ns.map λn=>w++[n]:=by unfold gk;rw[fD];simp
   rw[this,bh];rfl
  .rintro ρ ⟨c,rfl⟩;refine gg (ρ':=[.im (.lst (ps.map prD)),.im (.lst (ks.map kdD)),.im N,.im (.lst (F.map λw=>D.lst (w.map sT))),.im (sT p.1),.im (sT p.2),.im (.lst ((gk F ns).map λw=>D.lst (w.map sT))),c]) rfl ?_;exact b8 (d:=.lst ((gk F ns).map λw=>D.lst (w.map sT))) rfl ⟨_,_,_,_,rfl⟩
 .rintro ρ ⟨u,v,q,c,rfl⟩;exact vZ rfl (cx rfl)
abbrev nbw(ks:List Kd)(ps:List Pr)(n:As):List As:=(dO (psN ks ps)).map λw=>n++(vrs ps).zip w
abbrev asD(n:As):D:=.dic (aK n) (aV n)
def LQ(vs w:L2N)(e:vs.length=w.length)(j:vs.Nodup)(h:vs.length<=100):wy [.lst (vs.map sT),.lst (w.map sT)]=aa (asD (vs.zip w)):=by
 have c:∀vs:L2N,na (vs.map sT)=aa (vs.map λv=>(g3 (tx v):Key)):=λvs=>by
  induction vs with
  |nil=>rfl
  |cons v vs o=>
   rw[cY];show((gx (.str (tx v))).bind λk=>(na (vs.map sT)).map λr=>k::r)=_;rw[o];rfl
 show(na (vs.map sT)).bind _=_;rw[c,aC,if_pos ⟨uh (λv=>v) vs (by simpa using j),by rw[av,av];exact e,by rw[av];lia⟩];unfold asD aK aV
 congr 2
 .have:=map_map (g:=λv=>(g3 (tx v):Key)) (f:=Prod.fst) (l:=vs.zip w);rw[mi (by lia)]at this;exact this
 .have:=map_map (g:=sT) (f:=Prod.snd) (l:=vs.zip w);rw[map_snd_zip (by lia)]at this;exact this
def pL(n m:As):aK (n++m)=aK n++aK m:=bh
def yR(n m:As):aV (n++m)=aV n++aV m:=bh
def Dr(nd:(ks.map (·.1)).Nodup)(A:ks.length<=1000)(h:PsK ks ps)(hd:fj d n)(o:(n.map (·.1)++vrs ps).Nodup)(G:n.length<=100):tO [.lst (ps.map prD),.lst (ks.map kdD),d]=aa (.lst ((nbw ks ps n).map asD)):=by
 apply b9;unfold tN;show wp _ [.im (.lst (ps.map prD)),.im (.lst (ks.map kdD)),.im d,.no,.no,.no,.no] _;have E:=h.n;apply ap;refine b8 (bV (ny (L:=ps) (f:=prD) (q:=(·.1)) (bp rfl rfl) (λz=>⟨_,rfl⟩) (by lia))) ?_;apply ap;refine dW (d:=[]) rfl ?_;show wp _ [.im (.lst (ps.map prD)),.im (.lst (ks.map kdD)),.im d,.im (.lst ((vrs ps).map sT)),.own [],.no,.no] _;obtain⟨C,v⟩:=pK h;apply ap;refine cK (dO (psN ks ps)) (λw=>D.lst (w.map sT)) (λpre ρ=>∃e c,ρ=[.im (.lst (ps.map prD)),.im (.lst (ks.map kdD)),.im d,.im (.lst ((vrs ps).map sT)),.own ((pre.map λw=>n++(vrs ps).zip w).map asD),e,c]) (bp (aN (ai rfl (ai rfl rfl)) (LP nd A h)) rfl) ⟨_,_,rfl⟩ ?_ ?_
 .rintro pre w post ρ j ⟨e,c,rfl⟩;refine⟨_,rfl,?_⟩;have B:(vrs ps).length=w.length:=by rw[av,v w (by rw[j];simp)]
  have u:pre.length<=1728:=by have:=congrArg e6 j;rw[aJ]at this;lia
  show wp _ [.im (.lst (ps.map prD)),.im (.lst (ks.map kdD)),.im d,.im (.lst ((vrs ps).map sT)),.own ((pre.map λw=>n++(vrs ps).zip w).map asD),.im (.lst (w.map sT)),c] _;apply ap;refine Ca rfl hd ?_;show wp _ [.im (.lst (ps.map prD)),.im (.lst (ks.map kdD)),.im d,.im (.lst ((vrs ps).map sT)),.own ((pre.map λw=>n++(vrs ps).zip w).map asD),.im (.lst (w.map sT)),.ownd (aK n) (aV n)] _;apply ap;have g:((vrs ps).zip w).map (·.1)=vrs ps:=mi (by lia)
  refine Ce (ks:=aK n) (xs:=aV n) (r:=(aK ((vrs ps).zip w),aV ((vrs ps).zip w))) rfl (by
   unfold sx;rw[ai rfl (ai rfl rfl),aC];exact LQ (vrs ps) w B (gn.mp o).2.1 (by rw[av];lia)) rfl ?_ ?_ ?_
  .rw[<- pL];exact uh (λp:LN×LN=>p.1) _ (by rw[bh,g];exact o)
  .unfold aK;rw[av,av,io,av];lia
  dsimp only;rw[<- pL,<- yR];refine gg (ρ':=[.im (.lst (ps.map prD)),.im (.lst (ks.map kdD)),.im d,.im (.lst ((vrs ps).map sT)),.own ((pre.map λw=>n++(vrs ps).zip w).map asD),.im (.lst (w.map sT)),.im (asD (n++(vrs ps).zip w))]) rfl ?_;refine ja (d:=asD (n++(vrs ps).zip w)) rfl rfl (by rw[av,av];lia) ⟨.im (.lst (w.map sT)),.im (asD (n++(vrs ps).zip w)),?_⟩;rw[bh,bh];rfl
 .rintro ρ ⟨e,c,rfl⟩;exact ko rfl (iF rfl)
abbrev jn(a:LN):L2N->LN
 | []=>[]
 | [x]=>x
 |x::y::r=>x++a++jn a (y::r)
def LR(a:LN):∀ws:L2N,Txt.join (tx a) (ws.map tx)=tx (jn a ws):=by
 intro ws;show cZ.Str.glued (tx a) (ws.map tx)=_;rw[StrLaws.glued_eq_join]
 induction ws with
 |nil=>rfl
 |cons x r c=>
  cases r with
  |nil=>rfl
  |cons y r=>
   show tx x++tx a++Str.join (tx a) ((y::r).map tx)=_;rw[c,lX,lX];rfl
abbrev l6(ws:L2N):Nat:=(ws.map e6).sum
def ui(a:LN):∀ws,(jn a ws).length<=l6 ws+ws.length*a.length
 | []=>iw _
 | [x]=>by show x.length<=_;unfold l6;simp
 |x::y::r=>by
  have c:=ui a (y::r);show(x++a++jn a (y::r)).length<=_;rw[aJ,aJ];unfold l6 at c ⊢;rw[cY,sum_cons,bP (a:=x),ml];lia
def uj(b:Nat):∀ws:L2N,(∀w∈ws,w.length<=b)->l6 ws<=ws.length*b
 | [],_=>iw _
 |w::ws,h=>by
  have e:=uj b ws λx c=>h x (c8 _ c);have g:=h w bW;unfold l6 at e ⊢;rw[cY,sum_cons,bP,ml];lia
def LU(a:LN)(ws:L2N)(g:a.length<=16)(j:l6 ws+ws.length<=100000):sr (.str (tx a)) (.lst (ws.map sT))=aa (.str (tx (jn a ws))):=by
 have e:ws.map sT=(ws.map tx).map D.str:=by rw[map_map];rfl
 show(gQ (ws.map sT)).bind (λc=>if PySem.JoinOk (tx a) c=ac then aa (D.str (u0 (tx a) c)) else ab)=_;rw[e,BR,aC,if_pos,LR];refine joinOk_of_weight ?_ (by rw[fw];exact g);rw[map_map,av];have:(λx=>x.length) ∘ tx=e6:=funext λw=>fw w;rw[this];unfold l6 at j;lia
def yS(a b:LN)(h:a.length+b.length<=100000):cN (.str (tx a)) (.str (tx b))=aa (.str (tx (a++b))):=by
 show(if (tx a).length+(tx b).length<=16777216 then aa (D.str (tx a++tx b)) else ab)=_;rw[fw,fw,if_pos (by lia),lX]
def LV(a b:LN)(h:a.length+b.length<=100000):oU (.str (tx a)) (.str (tx b))=aa (.str (tx (a++b))):=by
 show(if (tx a).length+(tx b).length<=16777216 then aa (D.str (tx a++tx b)) else ab)=_;rw[fw,fw,if_pos (by lia),lX]
def Ds:∀(ws:L2N) (o:LN),iN (tx o) (ws.map tx)=tx (ws.foldl (·++·) o)
 | [],_=>rfl
 |w::ws,o=>by
  show iN (tx o++tx w) (ws.map tx)=_;rw[lX,Ds ws (o++w)];rfl
def LW{f:LS->Option LSt}{r:LN}(h:f ρ=aa (ws.map tx))(c:ws.foldl (·++·) []=r)(g:r.length<=100000):mFs f ρ=aa (.str (tx r)):=by
 have e:iN Str.empty (ws.map tx)=tx r:=by rw[<- c];exact Ds ws []
 unfold mFs;rw[h,aC,e,fw,if_pos (by lia)]
variable{g:LS->Option LSt}{zs:LSt}
def Dt{f:MF1}(h:f ρ=aa (.str (tx w)))(e:w.length<=100000)(c:g ρ=aa zs):mFv f g ρ=aa (tx w::zs):=by
 unfold mFv;rw[h,aC];show(if (tx w).length<=16777216 then aa (tx w) else ab).bind _=_;rw[fw,if_pos (by lia),aC,c];rfl
def Du{x:Str}(h:x=tx w)(c:g ρ=aa zs):mFc x g ρ=aa (tx w::zs):=by
 unfold mFc;rw[c,h];rfl
def LX{a:LN}:∀{ws:L2N},ws≠[]->(∀w∈ws,0<w.length)->0<(jn a ws).length
 | [],h,_=>absurd rfl h
 | [x],_,h=>h x bW
 |x::y::r,_,h=>by
  show 0<(x++a++jn a (y::r)).length;have:=h x bW;rw[aJ,aJ];lia
def LY(w:LN)(h:w.length<=100000):qY (.str (tx w))=aa (decide (0<w.length)):=by
 show(if (tx w).length<=16777216 then aa (((tx w).length:Int) != 0) else ab)=_;rw[fw,if_pos (by lia)]
 congr 1
 by_cases e:w.length=0
 .rw[e];rfl
 .rw[decide_eq_true (show 0<w.length by lia)];simp only[bne_iff_ne,ne_eq];lia
def cmT:(",":Str)=tx [44]:=by decide +kernel
def opT:("(":Str)=tx [40]:=by decide +kernel
def clT:(")":Str)=tx [41]:=by decide +kernel
abbrev thT(t:Th):LN:=if t.2=[] then t.1 else t.1++[40]++jn [44] t.2++[41]
abbrev tT(n:As)(t:Th):LN:=thT (t.1,t.2.map (nmF n))
structure yT(t:Th):Prop where
 a:t.1.length<=8
 l:t.2.length<=3
 w:∀w∈t.2,0<w.length/\w.length<=8
abbrev jq(n:As)(t:Th):Prop:=yT (t.1,t.2.map (nmF n))
def LZ(h:yT t):(thT t).length<=50:=by
 have j:=ui [44] t.2;have s:=uj 8 t.2 λw c=>(h.w w c).2;have a:=h.a;have l:=h.l;unfold thT;split
 .omega
 .simp only[aJ,eZ]at *;lia
def L0(t:Th)(h:yT t):yf [kdD t]=aa (sT (thT t)):=by
 have j:=ui [44] t.2;have s:=uj 8 t.2 λw e=>(h.w w e).2;have p:=h.a;have q:=h.l;rw[eZ]at j;apply b9;unfold tQ;show wp _ [.im (kdD t),.no,.no] _;apply ap;refine b8 (d:=sT t.1) (ak rfl rfl rfl) ?_;show wp _ [.im (kdD t),.im (sT t.1),.no] _;apply ap;refine b8 (d:=sT (jn [44] t.2)) (ao (x:=.str (tx [44])) (by rw[cmT]) (ak rfl rfl rfl) (LU [44] t.2 (by decide) (by lia))) ?_;show wp _ [.im (kdD t),.im (sT t.1),.im (sT (jn [44] t.2))] _;have tt:gt (ae 2) [.im (kdD t),.im (sT t.1),.im (sT (jn [44] t.2))]=aa (decide (0<(jn [44] t.2).length)):=jF rfl (LY _ (by lia));refine cw (d:=sT (thT t)) ?_ (cx rfl);unfold vIf;rw[tt,aC]
 by_cases c:t.2=[]
 .have o:jn [44] t.2=[]:=by rw[c];rfl
  unfold thT;rw[if_pos c,if_neg (by rw[o];decide)];rfl
 .rw[if_pos (decide_eq_true (LX c λw e=>(h.w w e).1))];refine LW (ws:=[t.1,[40],jn [44] t.2,[41]]) (Dt rfl (by lia) (Du opT (Dt rfl (by lia) (Du clT rfl)))) ?_ ?_
  .unfold thT;rw[if_neg c];simp
  .have:=LZ h;lia
def Dv(c:fj d n)(x:D)(ws:L2N)(e:g8 x=aa (ws.map sT))(j:ws.length<=1000):tL [x,d]=aa (.lst ((ws.map (nmF n)).map sT)):=by
 apply b9;show wp _ [.im x,.im d] _;rw[map_map];exact vY (fq ws sT (sT ∘ nmF n) (bp rfl e) (by lia) λw _=>eW rfl rfl (ug rfl rfl rfl c)) (iF rfl)
def uk(c:fj d n)(t:Th)(h:jq n t):nk [kdD t,d]=aa (sT (tT n t)):=by
 apply b9;show wp _ [.im (kdD t),.im d] _;have e:=h.l;rw[av]at e;exact cw (aN (ai (cv (ai (ak rfl rfl rfl) (ai (aN (ai (ak rfl rfl rfl) (ai rfl rfl)) (Dv c _ t.2 rfl (by lia))) rfl))) rfl) (L0 (t.1,t.2.map (nmF n)) h)) (cx rfl)
abbrev isU:Pa->Bool
 |.un _ _=>ac
 | _=>ag
abbrev pM(n:As):Pa->L2N
 |.un a b=>[nmF n a,nmF n b]
 | _=>[]
abbrev bM(n:As)(bd:List Pa):Bool:=bd.any λp=>match p with
 |.un a b=>decide (nmF n a=nmF n b)
 | _=>ag
def L1(bs:List Bool):rM [.lst (bs.map D.bl)]=aa (.bl (bs.any id)):=by
 have:∀l:List Bool,gf (l.map D.bl)=aa l:=by
  intro l
  induction l with
  |nil=>rfl
  |cons a l c=>rw[cY];unfold gf;rw[c];rfl
 show((gf _).map λbs=>D.bl _)=_;rw[this];rfl
def ul(p:Pa)(ρ:LS):mB (m2 dEq (mIx (am 0) (kI 0)) (kSt "unlike")) (.im p.toD::ρ)=aa (isU p):=by
 cases p with
 |is t=>exact aI (ao (ak rfl rfl rfl) rfl rfl)
 |no t=>exact aI (ao (ak rfl rfl rfl) rfl rfl)
 |un a b=>exact aI (ao (ak rfl rfl rfl) rfl rfl)
 |ct w n its ov=>exact aI (ao (ak rfl rfl rfl) rfl (by cases w <;> rfl))
def yU(p:Pa)(ρ:LS):mB (m2 dNe (mIx (am 0) (kI 0)) (kSt "unlike")) (.im p.toD::ρ)=aa (!isU p):=by
 cases p with
 |is t=>exact aI (ao (ak rfl rfl rfl) rfl rfl)
 |no t=>exact aI (ao (ak rfl rfl rfl) rfl rfl)
 |un a b=>exact aI (ao (ak rfl rfl rfl) rfl rfl)
 |ct w n its ov=>exact aI (ao (ak rfl rfl rfl) rfl (by cases w <;> rfl))
def eqT(a b:LN):dEq (sT a) (sT b)=aa (.bl (decide (a=b))):=by
 rw[show dEq (sT a) (sT b)=aa (.bl (tx a==tx b))from rfl]
 congr 2
 apply fU.mpr;rw[beq_iff_eq,decide_eq_true_eq];exact⟨ji,λe=>by rw[e]⟩
def L3(o:fj d n)(bd:List Pa)(q:bd.length<=1000):yc [.lst (bd.map Pa.toD),d]=aa (.bl (bM n bd)):=by
 apply b9;show wp _ [.im (.lst (bd.map Pa.toD)),.im d,.no] _;apply ap;refine b8 (d:=.lst ((bd.filter isU).map λp=>D.lst ((pM n p).map sT))) (bV (rF bd Pa.toD isU (λp=>D.lst ((pM n p).map sT)) (bp rfl rfl) (by lia) λp _=>?_)) ?_
 .cases p with
  |un a b=>
   refine eW rfl (ul (.un a b) _) (aN (ai (d:=.tup [sT a,sT b]) rfl (ai rfl rfl)) (Dv o _ [a,b] rfl (by simp)))
  |is t=>exact lG (b:=ag) (y:=.non) rfl (ul (.is t) _) λe=>nomatch e
  |no t=>exact lG (b:=ag) (y:=.non) rfl (ul (.no t) _) λe=>nomatch e
  |ct w k its ov=>exact lG (b:=ag) (y:=.non) rfl (ul (.ct w k its ov) _) λe=>nomatch e
 show wp _ [.im (.lst (bd.map Pa.toD)),.im d,.im (.lst ((bd.filter isU).map λp=>D.lst ((pM n p).map sT)))] _
 have j:bv 2 [] (be (ae 2)) (wC (aU (aB 0) (aU (aB 1) cz))) kY (m2 dEq (ae 0) (ae 1)) [.im (.lst (bd.map Pa.toD)),.im d,.im (.lst ((bd.filter isU).map λp=>D.lst ((pM n p).map sT)))]=aa (((bd.filter isU).map λp=>match p with |.un a b=>decide (nmF n a=nmF n b) | _=>ag).map D.bl):=by
  rw[map_map];refine fq (bd.filter isU) (λp=>D.lst ((pM n p).map sT)) _ (bp rfl rfl) (dC (me _ _) (by lia)) λp hp=>?_;have c:=(k9.mp hp).2
  cases p with
  |un a b=>exact eW (ρ1:=[.im (sT (nmF n a)),.im (sT (nmF n b))]) rfl rfl (ao rfl rfl (eqT _ _))
  |is t=>nomatch c
  |no t=>nomatch c
  |ct w k its ov=>nomatch c
 refine cw (aN (ai (bV j) rfl) (L1 _)) (cx ?_)
 congr 1
 unfold bM;rw[any_map];clear j q
 induction bd with
 |nil=>rfl
 |cons p bd u=>
  rw[eS,<- u]
  cases p with
  |un a b=>rw[uD rfl,eS];rfl
  |is t=>rw[nH (show ¬ag=ac from bS)];rfl
  |no t=>rw[nH (show ¬ag=ac from bS)];rfl
  |ct w k its ov=>rw[nH (show ¬ag=ac from bS)];rfl
inductive PP where
 |i (t:LN)
 |o (t:LN)
 |c (w:Bool) (n:Int) (its:List (LN×Int))
@[reducible]noncomputable def tiD(z:LN×Int):D:=.tup [sT z.1,.int z.2]
@[reducible]noncomputable def PP.toD:PP->D
 |.i t=>.tup [.str "in",sT t]
 |.o t=>.tup [.str "out",sT t]
 |.c w n its=>.tup [.str (if w then "least" else "most"),.int n,.lst (its.map tiD)]
structure PR where
 w:Str
 h:Option LN
 b:List PP
@[reducible]noncomputable def hdD:Option LN->D
 |none=>.non
 |some t=>sT t
@[reducible]noncomputable def PR.toD(r:PR):D:=.tup [.str r.w,hdD r.h,.lst (r.b.map PP.toD)]
abbrev itF(ks:List Kd)(ov:List Pr)(n:As)(its:List Ti):List (LN×Int):=its.flatMap λz=>(nbw ks ov n).map λm=>(tT m z.1,z.2)
abbrev ppF(ks:List Kd)(n:As):Pa->PP
 |.is t=>.i (tT n t)
 |.no t=>.o (tT n t)
 |.ct w k its ov=>.c w k (itF ks ov n its)
 |.un _ _=>.i []
abbrev bdF(ks:List Kd)(n:As)(bd:List Pa):List PP:=(bd.filter λp=>!isU p).map (ppF ks n)
abbrev chF(lo hi:Int)(its:List (LN×Int))(b:List PP):List PR:=(its.map λz=>PR.mk "may" (aa z.1) b)++[PR.mk "never" ab (b++[.c ag (lo-1) its]),PR.mk "never" ab (b++[.c ac (hi+1) its])]
abbrev rbF(ks:List Kd)(n:As):Ro->List PR
 |.kind _ _=>[]
 |.rule b t bd _=>[PR.mk (if b then "make" else "may") (aa (tT n t)) (bdF ks n bd)]
 |.choose lo hi its ov bd _=>chF lo hi (itF ks ov n its) (bdF ks n bd)
 |.never bd _=>[PR.mk "never" ab (bdF ks n bd)]
structure ItK(ks:List Kd)(n:As)(its:List Ti)(ov:List Pr):Prop where
 p:PsK ks ov
 d:(n.map (·.1)++vrs ov).Nodup
 t:∀z∈its,∀m∈nbw ks ov n,jq m z.1
 l:(itF ks ov n its).length<=60
 s:its.length<=100
abbrev PaK(ks:List Kd)(n:As):Pa->Prop
 |.is t=>jq n t
 |.no t=>jq n t
 |.ct _ _ its ov=>ItK ks n its ov
 |.un _ _=>True
abbrev RoK(ks:List Kd)(n:As):Ro->Prop
 |.kind _ _=>True
 |.rule _ t bd _=>jq n t/\bd.length<=100/\∀p∈bd,PaK ks n p
 |.choose _ _ its ov bd _=>ItK ks n its ov/\bd.length<=100/\∀p∈bd,PaK ks n p
 |.never bd _=>bd.length<=100/\∀p∈bd,PaK ks n p
def Dw{c:Type}(L:List c)(f:c->D)(k:Int)(w:Str)(h:(L.length:Int)<=k):nj [.lst (L.map f),.int k,.str w]=aa .non:=by
 apply b9;show wp _ [.im (.lst (L.map f)),.im (.int k),.im (.str w)] _
 have e:mK (aH cu (af (ae 0) nZ)) (kB (ae 0)) [.im (.lst (L.map f)),.im (.int k),.im (.str w)]=aa (.int (L.length:Int)):=by
  unfold mK;rw[aN (ai rfl rfl) (dZ L f)];rfl
 refine ba (aI (ao e rfl iH)) (λz=>?_) λ_=>bA ⟨_,rfl,rfl⟩;have:=of_decide_eq_true z;lia
def Dx(h:PsK ks ps)(n:As):(nbw ks ps n).length<=1728:=by unfold nbw;rw[av];exact(pK h).1
section
variable{ks:List Kd}(nd:(ks.map (·.1)).Nodup)(hk:ks.length<=1000)
include nd hk
def Dy{n:As}{d:D}(hd:fj d n)(q:n.length<=100){its:List Ti}{ov:List Pr}(h:ItK ks n its ov):tS [.lst (its.map bC),.lst (ov.map prD),d,.lst (ks.map kdD)]=aa (.lst ((itF ks ov n its).map tiD)):=by
 apply b9;unfold tR;show wp _ [.im (.lst (its.map bC)),.im (.lst (ov.map prD)),.im d,.im (.lst (ks.map kdD)),.no,.no,.no] _;apply ap;refine dW (d:=[]) rfl ?_;show wp _ [.im (.lst (its.map bC)),.im (.lst (ov.map prD)),.im d,.im (.lst (ks.map kdD)),.own [],.no,.no] _;have B:=Dx h.p n;have A:=h.s;apply ap;refine cK its bC (λpre ρ=>∃c e,ρ=[.im (.lst (its.map bC)),.im (.lst (ov.map prD)),.im d,.im (.lst (ks.map kdD)),.own ((itF ks ov n pre).map tiD),c,e]) (bp rfl rfl) ⟨_,_,rfl⟩ ?_ ?_
 .rintro pre z post ρ j ⟨c,e,rfl⟩;refine⟨_,rfl,?_⟩;have hz:=h.t z (by rw[j];simp)
  have v:(itF ks ov n pre).length<=60:=by
   have:=h.l;rw[j]at this;unfold itF at this ⊢;rw[fD,aJ]at this;lia
  show wp _ [.im (.lst (its.map bC)),.im (.lst (ov.map prD)),.im d,.im (.lst (ks.map kdD)),.own ((itF ks ov n pre).map tiD),.im (kdD z.1),.im (.int z.2)] _;refine pH (ds:=((nbw ks ov n).map λm=>(tT m z.1,z.2)).map tiD) (bV ?_) rfl (by rw[av,av,av];lia) ⟨.im (kdD z.1),.im (.int z.2),?_⟩
  .rw[map_map];exact fq (nbw ks ov n) asD _ (bp (aN (ai rfl (ai rfl (ai rfl rfl))) (Dr nd hk h.p hd h.d q)) rfl) (by lia) λm u=>eW rfl rfl (cv (ai (aN (ai rfl (ai rfl rfl)) (uk (show fj (asD m) m from rfl) z.1 (hz m u))) (ai rfl rfl)))
  .have:itF ks ov n (pre++[z])=itF ks ov n pre++(nbw ks ov n).map λm=>(tT m z.1,z.2):=by unfold itF;rw[fD];simp
   rw[this,bh];rfl
 .rintro ρ ⟨c,e,rfl⟩;have o:=h.l;apply ap;refine gg (ρ':=[.im (.lst (its.map bC)),.im (.lst (ov.map prD)),.im d,.im (.lst (ks.map kdD)),.im (.lst ((itF ks ov n its).map tiD)),c,e]) rfl ?_;refine jb (aN (ai rfl (ai rfl (ai rfl rfl))) (Dw _ tiD 60 "items" (by lia))) ?_;exact vZ rfl (cx rfl)
def L4{n:As}{d:D}(hd:fj d n)(c:n.length<=100)(p:Pa)(h:PaK ks n p)(j:isU p=ag):tW [p.toD,d,.lst (ks.map kdD)]=aa (ppF ks n p).toD:=by
 apply b9;unfold tU;show wp _ [.im p.toD,.im d,.im (.lst (ks.map kdD))] _
 cases p with
 |is t=>
  apply ap;refine ba (b:=ac) (aI (ao (ak rfl rfl rfl) rfl rfl)) (λ_=>?_) λe=>nomatch e
  exact cw (cv (ai rfl (ai (aN (ai (ak rfl rfl rfl) (ai rfl rfl)) (uk hd t h)) rfl))) (cx rfl)
 |no t=>
  apply ap;refine ba (b:=ag) (aI (ao (ak rfl rfl rfl) rfl rfl)) (λe=>nomatch e) λ_=>bA ?_;apply ap;refine ba (b:=ac) (aI (ao (ak rfl rfl rfl) rfl rfl)) (λ_=>?_) λe=>nomatch e
  exact cw (cv (ai rfl (ai (aN (ai (ak rfl rfl rfl) (ai rfl rfl)) (uk hd t h)) rfl))) (cx rfl)
 |un a b=>nomatch j
 |ct w k its ov=>
  apply ap
  refine ba (b:=ag) (aI (ao (ak rfl rfl rfl) rfl (by cases w <;> rfl))) (λe=>nomatch e) λ_=>bA ?_
  apply ap
  refine ba (b:=ag) (aI (ao (ak rfl rfl rfl) rfl (by cases w <;> rfl))) (λe=>nomatch e) λ_=>bA ?_
  exact cw (cv (ai (ak rfl rfl rfl) (ai (ak rfl rfl rfl) (ai (aN (ai (ak rfl rfl rfl) (ai (ak rfl rfl rfl) (ai rfl (ai rfl rfl)))) (Dy nd hk hd c h)) rfl)))) (cx rfl)
def yV{n:As}{d:D}(hd:fj d n)(z:n.length<=100)(bd:List Pa)(A:bd.length<=100)(h:∀p∈bd,PaK ks n p){ρ:LS}{fi:MF2}(v:fi ρ=aa (bd.map Pa.toD))(q:ρ[1]?=aa (.im d))(u:ρ[2]?=aa (.im (.lst (ks.map kdD)))):
  bv 1 [1,2] fi (aB 0) (mB (m2 dNe (mIx (am 0) (kI 0)) (kSt "unlike"))) (aH tW (af (ae 0) (af (ae 1) (af (ae 2) nZ)))) ρ=aa ((bdF ks n bd).map PP.toD):=by
 unfold bdF;rw[map_map]
 have o:cX 1 [1,2] ρ=[.no,.im d,.im (.lst (ks.map kdD))]:=by
  show[Sl.no]++[1,2].map (λj=>(ρ[j]?).getD .no)=_;simp[q,u]
 refine rF bd Pa.toD (λp=>!isU p) (PP.toD ∘ ppF ks n) v (by lia) λp hp=>?_;rw[o]
 cases c:isU p with
 |false=>exact eW rfl ((yU p _).trans (by rw[c];rfl)) (aN (ai rfl (ai rfl (ai rfl rfl))) (L4 nd hk hd z p (h p hp) c))
 |true=>exact lG (b:=ag) (y:=.non) rfl ((yU p _).trans (by rw[c];rfl)) λe=>nomatch e
def L5(lo hi:Int)(its:List (LN×Int))(b:List PP)(q:its.length<=1000)(u:b.length<=1000):ye [.int lo,.int hi,.lst (its.map tiD),.lst (b.map PP.toD)]=aa (.lst ((chF lo hi its b).map PR.toD)):=by
 apply b9;unfold tP;show wp _ [.im (.int lo),.im (.int hi),.im (.lst (its.map tiD)),.im (.lst (b.map PP.toD)),.no] _;apply ap;refine dW (d:=(its.map λz=>PR.mk "may" (aa z.1) b).map PR.toD) (by rw[map_map];exact fq its tiD _ (bp rfl rfl) (by lia) λz _=>eW rfl rfl (cv (ai rfl (ai rfl (ai rfl rfl))))) ?_
 have e:∀(p:PP) (ρ:LS) (f g:MF1),f ρ=aa (.lst (b.map PP.toD))->g ρ=aa p.toD->aT (eX f (aT (af g nZ))) ρ=aa (.lst ((b++[p]).map PP.toD)):=λp ρ f g j o=>by
  refine bV ?_;unfold eX;rw[j,aC,bV (ai o rfl)];show(if (b.map PP.toD).length+1<=16777216 then aa (b.map PP.toD++[p.toD]) else ab)=_;rw[if_pos (by rw[av];lia),bh];rfl
 show wp _ [.im (.int lo),.im (.int hi),.im (.lst (its.map tiD)),.im (.lst (b.map PP.toD)),.own ((its.map λz=>PR.mk "may" (aa z.1) b).map PR.toD)] _;apply ap;refine ja (d:=PR.toD (PR.mk "never" ab (b++[.c ag (lo-1) its]))) (cv (ai rfl (ai rfl (ai (e (.c ag (lo-1) its) _ _ _ rfl (cv (ai rfl (ai (ao rfl rfl iG) (ai rfl rfl))))) rfl)))) rfl (by rw[av,av];lia) ?_;apply ap;refine ja (d:=PR.toD (PR.mk "never" ab (b++[.c ac (hi+1) its]))) (cv (ai rfl (ai rfl (ai (e (.c ac (hi+1) its) _ _ _ rfl (cv (ai rfl (ai (ao rfl rfl gh) (ai rfl rfl))))) rfl)))) rfl (by rw[aJ,av,av,eZ];lia) ?_;refine ko rfl (iF ?_);unfold chF;rw[bh,gm];rfl
def L6{n:As}{d:D}(hd:fj d n)(c:n.length<=100)(r:Ro)(q:∀a b,r≠.kind a b)(h:RoK ks n r):yh [r.toD,d,.lst (ks.map kdD)]=aa (.lst ((rbF ks n r).map PR.toD)):=by
 apply b9;unfold tX;show wp _ [.im r.toD,.im d,.im (.lst (ks.map kdD)),.no,.no] _
 cases r with
 |kind a b=>exact absurd rfl (q a b)
 |rule b t bd ps=>
  apply ap;refine b8 (bV (yV nd hk hd c bd h.2.1 h.2.2 (bp (ak rfl rfl rfl) rfl) rfl rfl)) ?_;apply ap
  refine ba (b:=ag) (aI (ao (ak rfl rfl rfl) rfl (by cases b <;> rfl))) (λe=>nomatch e) λ_=>bA ?_
  apply ap
  refine ba (b:=ag) (aI (ao (ak rfl rfl rfl) rfl (by cases b <;> rfl))) (λe=>nomatch e) λ_=>bA ?_
  apply ap;refine b8 (d:=.str (if b then "make" else "may")) ?_ ?_
  .unfold vIf
   rw[aI (b:=b) (ao (ak rfl rfl rfl) rfl (by cases b <;> rfl)),aC]
   cases b <;> rfl
  exact vY (ai (cv (ai rfl (ai (aN (ai (ak rfl rfl rfl) (ai rfl rfl)) (uk hd t h.1)) (ai rfl rfl)))) rfl) (iF rfl)
 |choose lo hi its ov bd ps=>
  apply ap;refine b8 (bV (yV nd hk hd c bd h.2.1 h.2.2 (bp (ak rfl rfl rfl) rfl) rfl rfl)) ?_;apply ap;refine ba (b:=ag) (aI (ao (ak rfl rfl rfl) rfl rfl)) (λe=>nomatch e) λ_=>bA ?_;apply ap;refine ba (b:=ac) (aI (ao (ak rfl rfl rfl) rfl rfl)) (λ_=>?_) λe=>nomatch e
  have o:(bdF ks n bd).length<=1000:=by
   unfold bdF;rw[av];have:=me (λp=>!isU p) bd;have:=h.2.1;lia
  have j:=h.1.l
  exact cw (aN (ai (ak rfl rfl rfl) (ai (ak rfl rfl rfl) (ai (aN (ai (ak rfl rfl rfl) (ai (ak rfl rfl rfl) (ai rfl (ai rfl rfl)))) (Dy nd hk hd c h.1)) (ai rfl rfl)))) (L5 nd hk lo hi _ _ (by lia) o)) (cx rfl)
 |never bd ps=>
  apply ap;refine b8 (bV (yV nd hk hd c bd h.1 h.2 (bp (ak rfl rfl rfl) rfl) rfl rfl)) ?_;apply ap;refine ba (b:=ac) (aI (ao (ak rfl rfl rfl) rfl rfl)) (λ_=>?_) λe=>nomatch e;exact vY (ai (cv (ai rfl (ai rfl (ai rfl rfl)))) rfl) (iF rfl)
end
abbrev gA:Ro->Bool
 |.kind _ _=>ac
 | _=>ag
abbrev rwF(ks:List Kd)(r:Ro):List PR:=((nbw ks (roP r) []).filter λn=>!bM n (roB r)).flatMap λn=>rbF ks n r
abbrev rsF(ks:List Kd)(rs:List Ro):List PR:=rs.flatMap λr=>if gA r then [] else rwF ks r
structure RwK(ks:List Kd)(r:Ro):Prop where
 p:PsK ks (roP r)
 d:(vrs (roP r)).Nodup
 b:(roB r).length<=1000
 k:∀n∈nbw ks (roP r) [],bM n (roB r)=ag->RoK ks n r/\n.length<=100
def nKd(r:Ro)(a b c:Sl):mB (m2 dNe (mIx (am 3) (kI 0)) (kSt "kind")) [a,b,c,.im r.toD,.no]=aa (!gA r)/\∀z:Sl,mB (m2 dNe (mIx (am 3) (kI 0)) (kSt "kind")) [a,b,c,.im r.toD,z]=aa (!gA r):=by
 have h:∀z:Sl,mB (m2 dNe (mIx (am 3) (kI 0)) (kSt "kind")) [a,b,c,.im r.toD,z]=aa (!gA r):=λz=>by
  cases r with
  |kind n ns=>exact aI (ao (ak rfl rfl rfl) rfl rfl)
  |rule b t bd ps=>exact aI (ao (ak rfl rfl rfl) rfl (by cases b <;> rfl))
  |choose lo hi its ov bd ps=>exact aI (ao (ak rfl rfl rfl) rfl rfl)
  |never bd ps=>exact aI (ao (ak rfl rfl rfl) rfl rfl)
 exact⟨h _,h⟩
def DD(r:Ro)(e:gA r=ag)(a b c z:Sl):mIx (am 3) (m1 eU (kI 1)) [a,b,c,.im r.toD,z]=aa (.lst ((roP r).map prD))/\mIx (am 3) (m1 eU (kI 2)) [a,b,c,.im r.toD,z]=aa (.lst ((roB r).map Pa.toD)):=by
 cases r with
 |kind n ns=>nomatch e
 |rule b t bd ps=>exact⟨ak rfl rfl rfl,ak rfl rfl rfl⟩
 |choose lo hi its ov bd ps=>exact⟨ak rfl rfl rfl,ak rfl rfl rfl⟩
 |never bd ps=>exact⟨ak rfl rfl rfl,ak rfl rfl rfl⟩
def L7(nd:(ks.map (·.1)).Nodup)(Y:ks.length<=1000)(rs:List Ro)(hl:rs.length<=1000)(h:∀r∈rs,gA r=ag->RwK ks r)(q:(rsF ks rs).length<=400):yi [.lst (rs.map Ro.toD),.lst (ks.map kdD)]=aa (.lst ((rsF ks rs).map PR.toD)):=by
 apply b9;unfold tY;show wp _ [.im (.lst (rs.map Ro.toD)),.im (.lst (ks.map kdD)),.no,.no,.no] _;apply ap;refine dW (d:=[]) rfl ?_;show wp _ [.im (.lst (rs.map Ro.toD)),.im (.lst (ks.map kdD)),.own [],.no,.no] _;apply ap;refine cK rs Ro.toD (λpre ρ=>∃I c,ρ=[.im (.lst (rs.map Ro.toD)),.im (.lst (ks.map kdD)),.own ((rsF ks pre).map PR.toD),I,c]) (bp rfl rfl) ⟨_,_,rfl⟩ ?_ ?_
 .rintro pre r post ρ U ⟨I,c,rfl⟩;refine⟨_,rfl,?_⟩;show wp _ [.im (.lst (rs.map Ro.toD)),.im (.lst (ks.map kdD)),.own ((rsF ks pre).map PR.toD),.im r.toD,c] _;have E:r∈rs:=by rw[U];simp
  have es:∀x,rsF ks (pre++[x])=rsF ks pre++if gA x then [] else rwF ks x:=λx=>by unfold rsF;rw[fD];simp
  refine ba ((nKd r _ _ _).2 _) (λe=>?_) λe=>bA ?_
  .have o:gA r=ag:=by simpa using e
   have H:=h r E o;have hn0:=Dx H.p []
   have v:(rsF ks pre).length+(rwF ks r).length<=400:=by
    have e2:rsF ks rs=rsF ks (pre++[r])++rsF ks post:=by rw[U];unfold rsF;rw[<- fD];simp
    rw[e2,aJ,es,o,aJ]at q;have:(if ag=ac then ([]:List PR) else rwF ks r)=rwF ks r:=rfl;rw[this]at q;lia
   have J:=Dr nd Y H.p (n:=[]) (d:=.dic [] []) rfl (by simpa using H.d) (by simp);refine cK (nbw ks (roP r) []) asD (λu ρ=>∃c,ρ=[.im (.lst (rs.map Ro.toD)),.im (.lst (ks.map kdD)),.own ((rsF ks pre++(u.filter λn=>!bM n (roB r)).flatMap λn=>rbF ks n r).map PR.toD),.im r.toD,c]) (bp (aN (ai (DD r o _ _ _ _).1 (ai rfl (ai rfl rfl))) J) rfl) ⟨c,by simp⟩ ?_ ?_
   .rintro u n A ρ G ⟨c,rfl⟩;refine⟨_,rfl,?_⟩;show wp _ [.im (.lst (rs.map Ro.toD)),.im (.lst (ks.map kdD)),.own ((rsF ks pre++(u.filter λn=>!bM n (roB r)).flatMap λn=>rbF ks n r).map PR.toD),.im r.toD,.im (asD n)] _;have N:n∈nbw ks (roP r) []:=by rw[G];simp
    have B:fj (asD n) n:=rfl;refine ba (b:=!bM n (roB r)) (rK (jF (aN (ai (DD r o _ _ _ _).2 (ai rfl rfl)) (L3 B (roB r) H.b)) rfl)) (λe=>?_) λe=>bA ⟨.im (asD n),?_⟩
    .have j:bM n (roB r)=ag:=by simpa using e
     obtain⟨Q,M⟩:=H.k n N j
     have T:((u++[n]).filter λn=>!bM n (roB r)).flatMap (λn=>rbF ks n r)=(u.filter λn=>!bM n (roB r)).flatMap (λn=>rbF ks n r)++rbF ks n r:=by
      rw[nJ,fD];simp[j]
     have C:(rsF ks pre++(u.filter λn=>!bM n (roB r)).flatMap λn=>rbF ks n r).length+(rbF ks n r).length<=400:=by
      have e3:rwF ks r=((u++[n]).filter λn=>!bM n (roB r)).flatMap (λn=>rbF ks n r)++(A.filter λn=>!bM n (roB r)).flatMap (λn=>rbF ks n r):=by
       unfold rwF;rw[G,<- fD,<- nJ];simp
      rw[e3,T,aJ,aJ]at v;rw[aJ];lia
     rw[T,<- gm];generalize (rsF ks pre++(u.filter λn=>!bM n (roB r)).flatMap λn=>rbF ks n r)=R at C;apply ap;have L:∀a b,r≠.kind a b:=λa b z=>by rw[z]at o;nomatch o
     refine pH (aN (ai rfl (ai rfl (ai rfl rfl))) (L6 nd Y B M r L Q)) rfl (by rw[av,av];lia) ?_;rw[<- bh];refine jb (yM (ai rfl (ai rfl (ai rfl rfl))) (Dw (R++rbF ks n r) PR.toD 400 "rules" (by rw[aJ];lia))) ⟨_,rfl⟩
    .have j:bM n (roB r)=ac:=by simpa using e
     rw[nJ];simp[j]
   .rintro ρ ⟨c,rfl⟩;refine⟨.im r.toD,c,?_⟩;rw[es,o];rfl
  .have o:gA r=ac:=by simpa using e
   refine⟨.im r.toD,c,?_⟩;rw[es,o];show _=[.im (.lst (rs.map Ro.toD)),.im (.lst (ks.map kdD)),.own ((rsF ks pre++[]).map PR.toD),.im r.toD,c];rw[eB]
 .rintro ρ ⟨I,c,rfl⟩;exact ko rfl (iF rfl)
abbrev ppT:PP->L2N
 |.i t=>[t]
 |.o t=>[t]
 |.c _ _ its=>its.map (·.1)
abbrev prT(r:PR):L2N:=r.h.toList++r.b.flatMap ppT
def DF(p:PP)(ρ:LS)(i:Nat)(h:ρ[i]?=aa (.im p.toD)):mB (m2 dIn (mIx (am i) (kI 0)) (bG (af (kSt "in") (af (kSt "out") nZ)))) ρ=aa (match p with |.c _ _ _=>ag | _=>ac):=by
 have e:am i ρ=g8 p.toD:=by unfold am;rw[h]
 cases p with
 |i t=>exact aI (ao (x:=.str "in") (ak (ds:=[.str "in",sT t]) (e.trans rfl) rfl rfl) rfl rfl)
 |o t=>exact aI (ao (x:=.str "out") (ak (ds:=[.str "out",sT t]) (e.trans rfl) rfl rfl) rfl rfl)
 |c w n its=>exact aI (ao (x:=.str (if w then "least" else "most")) (ak (ds:=[.str (if w then "least" else "most"),.int n,.lst (its.map tiD)]) (e.trans rfl) rfl rfl) rfl (by cases w <;> rfl))
def L8(r:PR)(M:r.b.length<=1000)(hi:∀p∈r.b,(ppT p).length<=1000):x8 [r.toD]=aa (.lst ((prT r).map sT)):=by
 apply b9;unfold tI;show wp _ [.im r.toD,.no,.no] _;apply ap;refine dW (d:=r.h.toList.map sT) ?_ ?_
 .obtain⟨w,h,b⟩:=r
  cases h with
  |none=>
   unfold o3;rw[aI (b:=ac) (ao (ak rfl rfl rfl) rfl rfl)]
   rfl
  |some t=>
   unfold o3;rw[aI (b:=ag) (ao (ak rfl rfl rfl) rfl rfl)];show af (mIx (am 0) (kI 1)) nZ [.im (PR.toD ⟨w,aa t,b⟩),.no,.no]=_;exact ai (ak rfl rfl rfl) rfl
 show wp _ [.im r.toD,.own (r.h.toList.map sT),.no] _;apply ap;refine cK r.b PP.toD (λpre ρ=>∃u,ρ=[.im r.toD,.own ((r.h.toList++pre.flatMap ppT).map sT),u]) (bp (ak rfl rfl rfl) rfl) ⟨.no,by simp⟩ ?_ ?_
 .rintro pre p post ρ v ⟨u,rfl⟩;refine⟨_,rfl,?_⟩
  have j:(r.h.toList++pre.flatMap ppT).length<=1+1000*1000:=by
   have I:r.h.toList.length<=1:=by cases r.h <;> simp
   have E:∀l:List PP,(∀p∈l,(ppT p).length<=1000)->(l.flatMap ppT).length<=l.length*1000:=λl=>by
    induction l with
    |nil=>intro _;simp
    |cons x l H=>
     intro h;rw[iU,aJ,bP,ml];have:=h x bW;have:=H λy B=>h y (c8 _ B);lia
   have J:=E pre λy B=>hi y (by rw[v];simp[B]);have G:pre.length<=1000:=by have:=congrArg e6 v;rw[aJ]at this;lia
   rw[aJ];have:=uH 1000 G;lia
  have hp:=hi p (by rw[v];simp);have C:r.h.toList++(pre++[p]).flatMap ppT=(r.h.toList++pre.flatMap ppT)++ppT p:=by rw[fD];simp
  rw[C];generalize r.h.toList++pre.flatMap ppT=T at j;show wp _ [.im r.toD,.own (T.map sT),.im p.toD] _;refine ba (DF p _ 2 rfl) (λe=>?_) λe=>?_
  .cases p with
   |i t=>exact ja (d:=sT t) (ak rfl rfl rfl) rfl (by rw[av];lia) ⟨.im (PP.toD (.i t)),by rw[bh];rfl⟩
   |o t=>exact ja (d:=sT t) (ak rfl rfl rfl) rfl (by rw[av];lia) ⟨.im (PP.toD (.o t)),by rw[bh];rfl⟩
   |c w n its=>nomatch e
  .cases p with
   |i t=>nomatch e
   |o t=>nomatch e
   |c w n its=>
    have A:its.length<=1000:=by have:(its.map (·.1)).length<=1000:=hp;rwa [av]at this
    exact pH (ds:=(its.map (·.1)).map sT) (bV (ny (L:=its) (f:=tiD) (q:=(·.1)) (bp (ak rfl rfl rfl) rfl) (λz=>⟨_,rfl⟩) A)) rfl (by rw[av,av,av];lia) ⟨.im (PP.toD (.c w n its)),by rw[bh];rfl⟩
 .rintro ρ ⟨u,rfl⟩;exact ko rfl (iF rfl)
abbrev fB(tb:L2N)(t:LN):L2N:=if t∈tb then tb else tb++[t]
abbrev tbF(c:L2N):L2N:=c.foldl fB []
abbrev tK(tb:L2N):List Key:=tb.map λt=>.inr (tx t)
abbrev tV(tb:L2N):LD:=(ci tb.length).map λ(i:Nat)=>D.int i
def L9(tb:L2N)(c:L2N)(t:LN):(c++[t]).foldl fB tb=fB (c.foldl fB tb) t:=by rw[mf];rfl
def l7(j:L2N):∀tb:L2N,tb.Nodup->(j.foldl fB tb).Nodup/\(∀t,t∈j.foldl fB tb↔t∈tb\/t∈j)/\tb.length<=(j.foldl fB tb).length:=by
 induction j with
 |nil=>exact λtb h=>⟨h,λt=>by simp,bf _⟩
 |cons x j v=>
  intro tb h
  have p:(fB tb x).Nodup/\(∀t,t∈fB tb x↔t∈tb\/t=x)/\tb.length<=(fB tb x).length:=by
   unfold fB;split
   .rename_i o;exact⟨h,λt=>⟨.inl,λz=>z.elim id λe=>by rw[e];exact o⟩,bf _⟩
   .rename_i o;refine⟨gn.mpr ⟨h,by simp,λa q b u e=>?_⟩,λt=>by simp,by simp⟩;rw[bN.mp u]at e;rw[e]at q;exact o q
  obtain⟨a,b,c⟩:=v (fB tb x) p.1;refine⟨a,λt=>?_,dC p.2.2 c⟩;rw[foldl_cons,b t,p.2.1 t,bX,or_assoc]
def um(tb:L2N)(t:LN):fc (tK tb) (.inr (tx t))=decide (t∈tb):=by
 apply fU.mpr;unfold fc tK;rw[any_map,any_eq_true,decide_eq_true_eq];constructor
 .rintro⟨x,c,e⟩;have:=ji (nV (of_decide_eq_true e));rw[<- this];exact c
 .exact λh=>⟨t,h,decide_eq_true rfl⟩
def Ma(tb:L2N)(t:LN)(o:tb.length<=100000)(a b:Sl)(K:Fl->Prop)(k:K (.nx [a,.ownd (tK (fB tb t)) (tV (fB tb t)),b,.im (sT t)])):wp (o0 1 (ae 3) (kB (g9 1))) [a,.ownd (tK tb) (tV tb),b,.im (sT t)] K:=by
 refine⟨_,?_,k⟩;unfold o0;show(if fc (tK tb) (.inr (tx t))=ac then aa (Fl.nx [a,.ownd (tK tb) (tV tb),b,.im (sT t)]) else if (tK tb).length<16777216 then aa (Fl.nx [a,.ownd (tK tb++[.inr (tx t)]) (tV tb++[.int ((tK tb).length:Nat)]),b,.im (sT t)]) else ab)=_;rw[um];unfold fB
 by_cases h:t∈tb
 .rw[if_pos (decide_eq_true h),if_pos h]
 .rw[if_neg (by rw[decide_eq_false h];exact bS),if_neg h];have c:(tK tb).length=tb.length:=by unfold tK;rw[av]
  rw[c,if_pos (by lia)];have e:tK (tb++[t])=tK tb++[.inr (tx t)]:=by unfold tK;rw[bh];rfl
  have j:tV (tb++[t])=tV tb++[.int (tb.length:Nat)]:=by
   unfold tV;rw[aJ,eZ,range_succ,bh];rfl
  rw[e,j]
def Mb(rs:List PR)(L:rs.length<=1000)(I:∀r∈rs,r.b.length<=1000/\∀p∈r.b,(ppT p).length<=1000)(j:(tbF (rs.flatMap prT)).length<=60):x9 [.lst (rs.map PR.toD)]=aa (.kd (tK (tbF (rs.flatMap prT))) (tV (tbF (rs.flatMap prT)))):=by
 apply b9;unfold tJ;show wp _ [.im (.lst (rs.map PR.toD)),.no,.no,.no] _;apply ap;refine oM (o:=.nx [.im (.lst (rs.map PR.toD)),.ownd (tK (tbF [])) (tV (tbF [])),.no,.no]) rfl ?_
 have q:∀a b:L2N,rs.flatMap prT=a++b->(tbF a).length<=60:=λa b e=>by
  rw[e]at j;unfold tbF at j ⊢;rw[mf]at j;have:=(l7 b (a.foldl fB []) (l7 a [] iu).1).2.2;lia
 apply ap;refine cK rs PR.toD (λpre ρ=>∃A c,ρ=[.im (.lst (rs.map PR.toD)),.ownd (tK (tbF (pre.flatMap prT))) (tV (tbF (pre.flatMap prT))),A,c]) (bp rfl rfl) ⟨_,_,rfl⟩ ?_ ?_
 .rintro pre r post ρ C ⟨A,c,rfl⟩;refine⟨_,rfl,?_⟩;obtain⟨E,G⟩:=I r (by rw[C];simp);refine cK (prT r) sT (λu ρ=>∃c,ρ=[.im (.lst (rs.map PR.toD)),.ownd (tK (tbF (pre.flatMap prT++u))) (tV (tbF (pre.flatMap prT++u))),.im r.toD,c]) (bp (aN (ai rfl rfl) (L8 r E G)) rfl) ⟨_,by rw[eB];rfl⟩ ?_ ?_
  .rintro u t v ρ B ⟨c,rfl⟩;refine⟨_,rfl,?_⟩;have M:=q (pre.flatMap prT++u) (t::v++post.flatMap prT) (by rw[C,fD,iU,B];simp);refine Ma (tbF (pre.flatMap prT++u)) t (by lia) _ _ _ ⟨.im (sT t),?_⟩;rw[<- gm];show _=[_,Sl.ownd (tK ((pre.flatMap prT++u++[t]).foldl fB [])) (tV ((pre.flatMap prT++u++[t]).foldl fB [])),_,_];rw[L9];rfl
  .rintro ρ ⟨c,rfl⟩;refine⟨.im r.toD,c,?_⟩;rw[fD];simp
 .rintro ρ ⟨A,c,rfl⟩;generalize J:tbF (rs.flatMap prT)=T at j;apply ap;refine wb (ks:=tK T) (xs:=tV T) rfl ?_;show wp _ [.im (.lst (rs.map PR.toD)),.im (.kd (tK T) (tV T)),A,c] _
  have H:nj [.kd (tK T) (tV T),.int 60,.str "things"]=aa .non:=by
   apply b9;show wp _ [.im (.kd (tK T) (tV T)),.im (.int 60),.im (.str "things")] _
   have e:mK (aH cu (af (ae 0) nZ)) (kB (ae 0)) [.im (.kd (tK T) (tV T)),.im (.int 60),.im (.str "things")]=aa (.int (T.length:Nat)):=by
    show aa (D.int ((tK T).length:Nat))=_;unfold tK;rw[av]
   refine ba (aI (ao e rfl iH)) (λz=>?_) λ_=>bA ⟨_,rfl,rfl⟩;have:=of_decide_eq_true z;lia
  refine jb (aN (ai rfl (ai rfl (ai rfl rfl))) H) ?_;refine⟨_,rfl,cx rfl⟩
abbrev pos(tb:L2N)(t:LN):Nat:=tb.idxOf t
def yW(t:LN):∀(tb:L2N) (xs:LD),tb.length=xs.length->t∈tb->gy (tK tb) xs (.inr (tx t))=xs[tb.idxOf t]?
 | [],_,_,h=>(cT h).elim
 |a::tb,[],hl,_=>by simp at hl
 |a::tb,x::xs,hl,h=>by
  have c:=yW t tb xs (by simpa using hl);unfold gy tK at c ⊢;rw[cY,kZ,mj,idxOf_cons]
  by_cases e:a=t
  .subst e;simp
  .rw[decide_eq_false (λz=>e (ji (nV z))),beq_eq_false_iff_ne.mpr e];show Option.map _ (List.find? _ _)=_;rw[c ((bX.mp h).resolve_left (cF e))];simp
variable{tb:L2N}{t:LN}
def ixT(h:t∈tb):eY (.kd (tK tb) (tV tb)) (sT t)=aa (.int (pos tb t:Nat)):=by
 show gy (tK tb) (tV tb) (.inr (tx t))=_;have c:tb.idxOf t<tb.length:=uC h;rw[yW t tb (tV tb) (by unfold tV;rw[av,dP]) h];unfold tV;rw[d7,pX c];rfl
@[reducible]noncomputable def niD(tb:L2N)(z:LN×Int):D:=.tup [.int (pos tb z.1:Nat),.int z.2]
@[reducible]noncomputable def PP.nD(tb:L2N):PP->D
 |.i t=>.tup [.str "in",.int (pos tb t:Nat)]
 |.o t=>.tup [.str "out",.int (pos tb t:Nat)]
 |.c w n its=>.tup [.str (if w then "least" else "most"),.int n,.lst (its.map (niD tb))]
@[reducible]noncomputable def hnD(tb:L2N):Option LN->D
 |none=>.non
 |some t=>.int (pos tb t:Nat)
@[reducible]noncomputable def PR.nD(tb:L2N)(r:PR):D:=.tup [.str r.w,hnD tb r.h,.lst (r.b.map (PP.nD tb))]
def Mc(tb:L2N)(p:PP)(h:∀t∈ppT p,t∈tb)(j:(ppT p).length<=1000):xZ [p.toD,.kd (tK tb) (tV tb)]=aa (p.nD tb):=by
 apply b9;unfold tG;show wp _ [.im p.toD,.im (.kd (tK tb) (tV tb))] _;apply ap;refine ba (DF p _ 0 rfl) (λe=>?_) λe=>bA ?_
 .cases p with
  |i t=>exact cw (cv (ai (ak rfl rfl rfl) (ai (ao rfl (ak rfl rfl rfl) (ixT (h t (by simp[ppT])))) rfl))) (cx rfl)
  |o t=>exact cw (cv (ai (ak rfl rfl rfl) (ai (ao rfl (ak rfl rfl rfl) (ixT (h t (by simp[ppT])))) rfl))) (cx rfl)
  |c w n its=>nomatch e
 .cases p with
  |i t=>nomatch e
  |o t=>nomatch e
  |c w n its=>
   have q:its.length<=1000:=by have:(its.map (·.1)).length<=1000:=j;rwa [av]at this
   refine cw (cv (ai (ak rfl rfl rfl) (ai (ak rfl rfl rfl) (ai (bV (fq its tiD (niD tb) (bp (ak rfl rfl rfl) rfl) (by lia) λz hz=>?_)) rfl)))) (cx rfl);exact eW rfl rfl (cv (ai (ao rfl rfl (ixT (h z.1 (bT.mpr ⟨z,hz,rfl⟩)))) (ai rfl rfl)))
def Md(tb:L2N)(r:PR)(h:∀t∈prT r,t∈tb)(j:r.b.length<=1000)(c:∀p∈r.b,(ppT p).length<=1000):x0 [r.toD,.kd (tK tb) (tV tb)]=aa (r.nD tb):=by
 apply b9;unfold tH;show wp _ [.im r.toD,.im (.kd (tK tb) (tV tb)),.no] _;apply ap;refine b8 (d:=hnD tb r.h) ?_ ?_
 .obtain⟨w,hd,b⟩:=r;unfold vIf
  cases hd with
  |none=>rw[aI (b:=ac) (ao (ak rfl rfl rfl) rfl rfl)];rfl
  |some t=>
   rw[aI (b:=ag) (ao (ak rfl rfl rfl) rfl rfl)];show m2 eY (ae 1) (mIx (am 0) (kI 1)) [.im (PR.toD ⟨w,aa t,b⟩),.im (.kd (tK tb) (tV tb)),.no]=_;exact ao rfl (ak rfl rfl rfl) (ixT (h t (by simp[prT])))
 exact cw (cv (ai (ak rfl rfl rfl) (ai rfl (ai (bV (fq r.b PP.toD (PP.nD tb) (bp (ak rfl rfl rfl) rfl) (by lia) λp hp=>eW rfl rfl (aN (ai rfl (ai rfl rfl)) (Mc tb p (λt e=>h t (dB.mpr (.inr (fX.mpr ⟨p,hp,e⟩)))) (c p hp))))) rfl)))) (cx rfl)
abbrev plR(rs:List Ro):List PR:=rsF (dN rs) rs
abbrev plT(rs:List Ro):L2N:=tbF ((plR rs).flatMap prT)
@[reducible]noncomputable def plD(rs:List Ro):D:=.tup [.lst ((plT rs).map sT),.tup [.int ((plT rs).length:Nat),.lst ((plR rs).map (PR.nD (plT rs)))]]
structure PlK(rs:List Ro):Prop where
 g:pI rs
 l:rs.length<=1000
 n:((dN rs).map (·.1)).Nodup
 k:∀r∈rs,gA r=ag->RwK (dN rs) r
 r:(plR rs).length<=400
 b:∀r∈plR rs,r.b.length<=1000/\∀p∈r.b,(ppT p).length<=1000
 t:(plT rs).length<=60
def Me(rs:List Ro)(h:PlK rs):yj [.lst (rs.map Ro.toD)]=aa (plD rs):=by
 apply b9;unfold tZ;show wp _ [.im (.lst (rs.map Ro.toD)),.no,.no] _;have j:=Dj rs;have p:=h.l;have c:=h.r;apply ap;refine b8 (d:=.lst ((plR rs).map PR.toD)) (aN (ai rfl (ai (aN (ai rfl rfl) (LK rs h.g h.l)) rfl)) (L7 h.n (by lia) rs h.l h.k h.r)) ?_;show wp _ [.im (.lst (rs.map Ro.toD)),.im (.lst ((plR rs).map PR.toD)),.no] _;apply ap;refine b8 (d:=.kd (tK (plT rs)) (tV (plT rs))) (aN (ai rfl rfl) (Mb (plR rs) (by lia) h.b h.t)) ?_;show wp _ [.im (.lst (rs.map Ro.toD)),.im (.lst ((plR rs).map PR.toD)),.im (.kd (tK (plT rs)) (tV (plT rs)))] _;have e:∀r∈plR rs,∀t∈prT r,t∈plT rs:=λr c t o=>((l7 ((plR rs).flatMap prT) [] iu).2.1 t).mpr (.inr (fX.mpr ⟨r,c,o⟩));refine cw (cv (ai (d:=.lst ((plT rs).map sT)) (bV ?_) (ai (cv (ai (d:=.int ((plT rs).length:Nat)) ?_ (ai (bV (fq (plR rs) PR.toD (PR.nD (plT rs)) (bp rfl rfl) (by lia) λr c=>eW rfl rfl (aN (ai rfl (ai rfl rfl)) (Md (plT rs) r (e r c) (h.b r c).1 (h.b r c).2)))) rfl))) rfl))) (cx rfl)
 .show aa ((tK (plT rs)).map kD)=_;unfold tK;rw[map_map];rfl
 .show aa (D.int ((tK (plT rs)).length:Nat))=_;unfold tK;rw[av]
def yX{n:Nat}{pre post:LN}(h:ci n=pre++i::post):i=pre.length/\pre.length<n:=by
 have e:=congrArg e6 h;rw[dP,aJ,bP]at e;have c:=congrArg (λl:LN=>l[pre.length]?) h;rw[pX (by lia),iT (bf _),Nat.sub_self]at c;exact⟨(cj c).symm,by lia⟩
def uo(h:PsK ks ps):tot (psN ks ps)<=1728:=by
 have:=(pK h).1;have e:=Dl (psN ks ps).reverse;rw[kX]at e;lia
def yY(hd:kQ d ks)(ps:List Pr)(h:PsK ks ps):m_9 [.lst (ps.map prD),d]=aa (.int (tot (psN ks ps):Nat)):=by
 apply b9;unfold b_9;show wp _ [.im (.lst (ps.map prD)),.im d,.no,.no,.no] _;apply ap;refine b8 (d:=.int (tot (psN ks []):Nat)) rfl ?_;show wp _ [.im (.lst (ps.map prD)),.im d,.im (.int (tot (psN ks []):Nat)),.no,.no] _;apply ap;refine cK ps prD (λpre ρ=>∃c e,ρ=[.im (.lst (ps.map prD)),.im d,.im (.int (tot (psN ks pre):Nat)),c,e]) (bp rfl rfl) ⟨_,_,rfl⟩ ?_ ?_
 .rintro pre p post ρ j ⟨c,e,rfl⟩;refine⟨_,rfl,?_⟩;have hp:p∈ps:=by rw[j];simp
  have u:=uo (yQ (j▸h));have q:=(h.l p hp).2;have o:tot (psN ks (pre++[p]))=tot (psN ks pre)*(kOf ks p.2).length:=by unfold psN;rw[bh];exact yN _ _
  show wp _ [.im (.lst (ps.map prD)),.im d,.im (.int (tot (psN ks pre):Nat)),.im (sT p.1),.im (sT p.2)] _;refine b8 (d:=.int (tot (psN ks (pre++[p])):Nat)) (ao rfl (aN (ai (ao rfl rfl (yP hd (h.k p hp))) rfl) (dZ (kOf ks p.2) sT)) ?_) ⟨_,_,rfl⟩;rw[o];exact(jc (.inl (.inl ⟨by lia,by lia⟩))).trans (by rw[Int.natCast_mul])
 .rintro ρ ⟨c,e,rfl⟩;exact vZ rfl (cx rfl)
abbrev chW(ks:List Kd):List Pr->Nat->As
 | [],_=>[]
 |p::R,i=>(p.1,(kOf ks p.2).getD (i % (kOf ks p.2).length) [])::chW ks R (i / (kOf ks p.2).length)
abbrev dvW(ks:List Kd)(R:List Pr)(i:Nat):Nat:=R.foldl (λx p=>x / (kOf ks p.2).length) i
def DH(ks:List Kd)(p:Pr):∀(R:List Pr) (i:Nat),chW ks (R++[p]) i=chW ks R i++[(p.1,(kOf ks p.2).getD (dvW ks R i % (kOf ks p.2).length) [])]
 | [],_=>rfl
 |q::R,i=>by
  rw[cons_append,chW,DH ks p R];rfl
def uq(ks:List Kd):∀(R:List Pr) (i:Nat),(chW ks R i).map (·.1)=vrs R
 | [],_=>rfl
 |q::R,i=>by rw[chW,cY,uq ks R];rfl
def yZ(ks:List Kd)(R:List Pr)(i:Nat):(chW ks R i).length=R.length:=by
 have:=congrArg e6 (uq ks R i)
 rwa [av,av]at this
def DJ{c:Type}(d:c):∀(R:List (List c)) (i:Nat),(l5 d R i).length=R.length
 | [],_=>rfl
 |ns::R,i=>by unfold l5;rw[aJ,DJ d R];rfl
def DK(ks:List Kd):∀(R:List Pr) (i:Nat),(chW ks R i).reverse=(vrs R.reverse).zip (l5 [] (psN ks R) i)
 | [],_=>rfl
 |q::R,i=>by
  rw[chW,gl,DK ks R];show _=(vrs (q::R).reverse).zip (l5 [] (psN ks R) _++[_]);rw[gl,show vrs (R.reverse++[q])=vrs R.reverse++[q.1]from bh];rw[zip_append (by rw[DJ];unfold psN;rw[av,av,jv])];rfl
def nz{ks:List Key}{k:Key}(h:fc ks k=ag)(xs:LD)(d:D):iD ks k=ks++[k]/\fQ ks xs k d=xs++[d]:=by
 unfold iD fQ;rw[h];exact⟨rfl,rfl⟩
def Mf(n:As)(v:LN):fc (aK n) (.inr (tx v))=decide (v∈n.map (·.1)):=by
 have:=um (n.map (·.1)) v;unfold tK at this;rw[map_map]at this;exact this
def Mg(ns:L2N)(i:Nat)(h:0<ns.length)(x:LN)(e:x=ns.getD (i % ns.length) []):atI (ns.map sT) ((i:Int) % (ns.length:Int))=aa (sT x):=by
 have c:=Nat.mod_lt i h;subst e;have:(i:Int) % (ns.length:Int)=((i % ns.length:Nat):Int):=by lia
 rw[this];unfold atI ixN;rw[if_pos (by lia),if_pos (by rw[av];lia),aC,d7,gT,cr c,fm,cr c];rfl
def DL(hd:kQ d ks)(ps:List Pr)(h:PsK ks ps)(Q:(vrs ps).Nodup)(i:Nat):sN [.int (i:Nat),.lst (ps.map prD),d]=aa (.kd (aK (chW ks ps.reverse i)) (aV (chW ks ps.reverse i))):=by
 apply b9;unfold sM;show wp _ [.im (.int (i:Nat)),.im (.lst (ps.map prD)),.im d,.no,.no,.no,.no] _;apply ap;refine oM (o:=.nx [.im (.int (i:Nat)),.im (.lst (ps.map prD)),.im d,.ownd (aK (chW ks [] i)) (aV (chW ks [] i)),.no,.no,.no]) rfl ?_;have T:=h.n;apply ap;refine cK ps.reverse prD (λpre ρ=>∃v A u,ρ=[.im (.int (dvW ks pre i:Nat)),.im (.lst (ps.map prD)),.im d,.ownd (aK (chW ks pre i)) (aV (chW ks pre i)),v,A,u]) (HR (ai rfl rfl)) ⟨_,_,_,rfl⟩ ?_ ?_
 .rintro pre p post ρ B ⟨v,A,u,rfl⟩;refine⟨_,rfl,?_⟩;have hp:p∈ps:=by rw[<- k8,B];simp
  have I:=h.l p hp;have G:=yP hd (h.k p hp)
  have J:pre.length<=3:=by
   have:=congrArg e6 B;rw[jv,aJ]at this;lia
  have q:p.1∉vrs pre:=λz=>by
   have H:(vrs ps.reverse).Nodup:=by rw[show vrs ps.reverse=(vrs ps).reverse from nK];exact(reverse_perm _).nodup_iff.mpr Q
   rw[B,show vrs (pre++p::post)=vrs pre++p.1::vrs post from bh]at H;exact(gn.mp H).2.2 _ z _ bW rfl
  have E:fc (aK (chW ks pre i)) (.inr (tx p.1))=ag:=by rw[Mf,uq];exact decide_eq_false q
  rw[DH];have M:dvW ks (pre++[p]) i=dvW ks pre i / (kOf ks p.2).length:=by unfold dvW;rw[mf];rfl
  rw[M,pL,yR];have e:(aK (chW ks pre i)).length<16777216:=by unfold aK;rw[av,yZ];lia
  generalize dvW ks pre i=j;generalize L:(kOf ks p.2).getD (j % (kOf ks p.2).length) []=x;generalize chW ks pre i=c at E e;generalize kOf ks p.2=ns at I G L;show wp _ [.im (.int (j:Nat)),.im (.lst (ps.map prD)),.im d,.ownd (aK c) (aV c),.im (sT p.1),.im (sT p.2),u] _;apply ap;refine v5 (d:=.tup [.int ((j:Int) / (ns.length:Int)),.int ((j:Int) % (ns.length:Int))]) (aN (ai rfl (ai (aN (ai (ao rfl rfl G) rfl) (dZ ns sT)) rfl)) ?_) rfl ?_
  .show(if 0<(ns.length:Int)/\(ns.length:Int)<1073741824 then _ else ab)=_;rw[if_pos (by lia)]
  show wp _ [.im (.int ((j:Int) / (ns.length:Int))),.im (.lst (ps.map prD)),.im d,.ownd (aK c) (aV c),.im (sT p.1),.im (sT p.2),.im (.int ((j:Int) % (ns.length:Int)))] _;have C:mIx (be (m2 eY (ae 2) (ae 5))) (ae 6) [.im (.int ((j:Int) / (ns.length:Int))),.im (.lst (ps.map prD)),.im d,.ownd (aK c) (aV c),.im (sT p.1),.im (sT p.2),.im (.int ((j:Int) % (ns.length:Int)))]=aa (sT x):=ak (bp (ao rfl rfl G) rfl) rfl (Mg ns j I.1 x L.symm);have N:(j:Int) / (ns.length:Int)=((j / ns.length:Nat):Int):=by lia
  refine⟨.nx [.im (.int ((j / ns.length:Nat):Int)),.im (.lst (ps.map prD)),.im d,.ownd (aK c++aK [(p.1,x)]) (aV c++aV [(p.1,x)]),.im (sT p.1),.im (sT p.2),.im (.int ((j:Int) % (ns.length:Int)))],?_,⟨_,_,_,rfl⟩⟩;unfold lJ;rw[C,aC];show(if (aK c).length<16777216 then aa (Fl.nx [.im (.int ((j:Int) / (ns.length:Int))),.im (.lst (ps.map prD)),.im d,.ownd (iD (aK c) (.inr (tx p.1))) (fQ (aK c) (aV c) (.inr (tx p.1)) (sT x)),.im (sT p.1),.im (sT p.2),.im (.int ((j:Int) % (ns.length:Int)))]) else ab)=_;rw[if_pos e,(nz E (aV c) (sT x)).1,(nz E (aV c) (sT x)).2,N];rfl
 .rintro ρ ⟨v,A,u,rfl⟩;refine wb (ks:=aK (chW ks ps.reverse i)) (xs:=aV (chW ks ps.reverse i)) rfl ?_;exact cw rfl (cx rfl)
def y0:∀{n:As} (_:(n.map (·.1)).Nodup) {p:LN×LN} (_:p∈n),n.find? (λq=>decide (q.1=p.1))=aa p
 | [],_,p,hp=>(cT hp).elim
 |a::n,h,p,hp=>by
  rw[cY,nodup_cons]at h;rw[mj]
  rcases bX.mp hp with e |e
  .subst e;rw[decide_eq_true rfl]
  .rw[decide_eq_false (λz:a.1=p.1=>h.1 (by rw[z];exact mem_map_of_mem e))];exact y0 h.2 e
variable{m:As}
def DM(h:n.Perm m)(c:(n.map (·.1)).Nodup):nmF n=nmF m:=funext λw=>by
 have j:(m.map (·.1)).Nodup:=(h.map _).nodup_iff.mp c;unfold nmF
 by_cases e:∃p∈n,p.1=w
 .obtain⟨p,hp,rfl⟩:=e;rw[y0 c hp,y0 j (h.mem_iff.mp hp)]
 .rw[p5.mpr λp hp z=>e ⟨p,hp,of_decide_eq_true z⟩,p5.mpr λp hp z=>e ⟨p,h.mem_iff.mpr hp,of_decide_eq_true z⟩]
def y3(h:nmF n=nmF m):tT n=tT m:=funext λt=>by unfold tT;rw[h]
def y4(h:nmF n=nmF m)(t:Th):jq n t->jq m t:=λz=>by unfold jq at z ⊢;rw[<- h];exact z
def Mh(h:nmF n=nmF m)(bd:List Pa):bM n bd=bM m bd:=by unfold bM;rw[h]
def Mi(h:PsK ks ps):dO (psN ks ps)=(ci (tot (psN ks ps))).map λi=>l5 [] (psN ks ps.reverse) i:=by
 have e:psN ks ps.reverse=(psN ks ps).reverse:=nK;rw[e]
 have j:∀ns∈(psN ks ps).reverse,0<ns.length:=λns q=>by
  obtain⟨p,hp,rfl⟩:=bT.mp (k8.mp q);exact(h.l p hp).1
 have o:=Dl (psN ks ps).reverse;have c:=LM [] (psN ks ps).reverse j;rw[kX]at o c;apply k6;intro i
 by_cases hi:i<tot (psN ks ps)
 .rw[c i hi,d7,pX hi];rfl
 .rw[pU (by lia),pU (by rw[av,dP];lia)]
def y6(h:PsK ks ps)(n:As):nbw ks ps n=(ci (tot (psN ks ps))).map λi=>n++(chW ks ps.reverse i).reverse:=by
 unfold nbw;rw[Mi h,map_map];refine map_congr_left λi _=>?_;rw[DK,kX];rfl
abbrev sf(ws:L2N):LN:=if ws=[] then [] else 40::jn [44] ws
def DN(a w:LN):∀ws:L2N,ws≠[]->jn a (ws++[w])=jn a ws++a++w
 | [],h=>absurd rfl h
 | [x],_=>rfl
 |x::y::r,_=>by
  have c:=DN a w (y::r) (by simp);show x++a++jn a (y::r++[w])=_;rw[c];show _=x++a++jn a (y::r)++a++w;simp
def Mj(ws:L2N)(w:LN):sf (ws++[w])=sf ws++([[40,44].getD (if ws=[] then 0 else 1) 0]++w):=by
 unfold sf;rw[if_neg (by simp)]
 by_cases h:ws=[]
 .subst h;rfl
 .rw[if_neg h,if_neg h,DN _ _ _ h];simp
def DP(ws:L2N)(e:ws.length<=3)(c:∀w∈ws,w.length<=8):(sf ws).length<=40:=by
 have j:=ui [44] ws;have s:=uj 8 ws c;rw[eZ]at j;unfold sf;split
 .simp
 .rw[bP];lia
def Mk:("(,":Str)=tx [40,44]:=by decide +kernel
def Ml{c:Type}(l:List c)(i:Nat)(d:c)(h:i<l.length):l.take (i+1)=l.take i++[l.getD i d]:=by
 rw[take_succ,cr h,fm,cr h];rfl
def y7(C:fj d n)(t:Th)(h:jq n t):sL [kdD t,d]=aa (sT (tT n t)):=by
 have G:t.2.length<=3:=by have:=h.l;rwa [av]at this
 have u:∀w∈t.2,(nmF n w).length<=8:=λw e=>(h.w _ (mem_map_of_mem e)).2;have I:t.1.length<=8:=h.a;apply b9;unfold sK;show wp _ [.im (kdD t),.im d,.no,.no,.no] _;apply ap;refine b8 (d:=sT (t.1++sf ((t.2.take 0).map (nmF n)))) (ak rfl rfl (by rw[take_zero];show aa (sT t.1)=aa (sT (t.1++[]));rw[eB])) ?_;show wp _ [.im (kdD t),.im d,.im (sT (t.1++sf ((t.2.take 0).map (nmF n)))),.no,.no] _;apply ap;refine cK (ci t.2.length) (λi=>D.tup [.int (i:Nat),sT (t.2.getD i [])]) (λpre ρ=>∃o p,ρ=[.im (kdD t),.im d,.im (sT (t.1++sf ((t.2.take pre.length).map (nmF n)))),o,p]) (Bo [] (ai (ak rfl rfl rfl) rfl)) ⟨_,_,rfl⟩ ?_ ?_
 .rintro pre i post ρ E ⟨o,p,rfl⟩;obtain⟨rfl,hi⟩:=yX E;refine⟨_,rfl,?_⟩;rw[aJ,eZ,Ml t.2 pre.length [] hi,bh,map_singleton,Mj,<- gm];have H:t.2.getD pre.length []∈t.2:=by rw[fm,cr hi];exact ju hi
  have v:=u _ H
  have j:=DP ((t.2.take pre.length).map (nmF n)) (by rw [av,k7]; lia) (λw e=>by
   obtain⟨x,A,rfl⟩:=bT.mp e;exact u x (mem_of_mem_take A))
  have hz:(t.2.take pre.length).map (nmF n)=[]↔pre.length=0:=by
   rw[map_eq_nil_iff,take_eq_nil_iff];constructor
   .rintro(z |z)
    .exact z
    .rw[z]at hi;simp at hi
   .exact .inl
  generalize (t.2.take pre.length).map (nmF n)=ws at j hz;generalize t.2.getD pre.length []=w at v;generalize pre.length=k at hz;show wp _ [.im (kdD t),.im d,.im (sT (t.1++sf ws)),.im (.int (k:Nat)),.im (sT w)] _
  have B:m2 jK (kSt "(,") (iK (m2 dGt (ae 3) (kI 0))) [.im (kdD t),.im d,.im (sT (t.1++sf ws)),.im (.int (k:Nat)),.im (sT w)]=aa (sT [[40,44].getD (if ws=[] then 0 else 1) 0]):=by
   refine ao (y:=.int (if ws=[] then 0 else 1)) (x:=.str (tx [40,44])) (by rw[Mk]) ?_ ?_
   .unfold iK;rw[ao rfl rfl iH,aC];show aa (D.int (if decide ((k:Int)>0)=ac then 1 else 0))=_
    congr 2
    by_cases z:ws=[]
    .rw[if_pos z,if_neg (by rw[hz.mp z];decide)]
    .rw[if_neg z,if_pos (decide_eq_true (by have:k≠0:=λq=>z (hz.mpr q);lia))]
   .rw[yw [40,44] _ (by split <;> simp) (by simp)]
    by_cases z:ws=[]
    .rw[if_pos z,if_pos z];rfl
    .rw[if_neg z,if_neg z];rfl
  refine yt rfl (aR (ao B (ug (w:=w) rfl rfl rfl C) (yS [[40,44].getD (if ws=[] then 0 else 1) 0] (nmF n w) (by rw[eZ];lia)))) (LV (t.1++sf ws) ([[40,44].getD (if ws=[] then 0 else 1) 0]++nmF n w) (by simp only[aJ,eZ];lia)) ⟨.im (.int (k:Nat)),.im (sT w),?_⟩;rfl
 .rintro ρ ⟨o,p,rfl⟩;rw[dP,take_length]
  have j:=DP (t.2.map (nmF n)) (by rw [av]; exact G) (λw e=>by
   obtain⟨x,A,rfl⟩:=bT.mp e;exact u x A)
  refine cw (d:=sT (tT n t)) (ao (y:=sT (if t.2=[] then [] else [41])) rfl (ao (y:=.int (if t.2=[] then 0 else 1)) (x:=.str ")") rfl ?_ ?_) ?_) (cx rfl)
  .unfold iK;rw[ao (aN (ai (ak rfl rfl rfl) rfl) (dZ t.2 sT)) rfl iH,aC];show aa (D.int (if decide ((t.2.length:Int)>0)=ac then 1 else 0))=_
   congr 2
   by_cases z:t.2=[]
   .rw[if_pos z,if_neg (by rw[z];decide)]
   .rw[if_neg z,if_pos (decide_eq_true (by have:=jw.mpr z;lia))]
  .split
   .rfl
   .rw[clT];rfl
  .unfold tT thT sf
   by_cases z:t.2=[]
   .have c:t.2.map (nmF n)=[]:=by rw[z];rfl
    rw[if_pos c,if_pos z,if_pos c];exact(yS _ _ (by simp;lia)).trans (by simp)
   .have c:t.2.map (nmF n)≠[]:=by simpa using z
    unfold sf at j;rw[if_neg c]at j;rw[if_neg c,if_neg z,if_neg c];exact(yS _ _ (by rw[aJ,eZ];lia)).trans (by simp)
def Mm(q:fj d n)(bd:List Pa):xI [.lst (bd.map Pa.toD),d]=aa (.bl (!bM n bd)):=by
 apply b9;unfold sV;show wp _ [.im (.lst (bd.map Pa.toD)),.im d,.no,.no] _;apply ap;refine cK bd Pa.toD (λpre ρ=>bM n pre=ag/\∃j c,ρ=[.im (.lst (bd.map Pa.toD)),.im d,j,c]) (bp rfl rfl) ⟨rfl,_,_,rfl⟩ ?_ ?_
 .rintro pre p post ρ u ⟨o,j,c,rfl⟩;refine⟨_,rfl,?_⟩
  have es:∀x,bM n (pre++[x])=(match x with |.un a b=>decide (nmF n a=nmF n b) | _=>ag):=λx=>by
   have:bM n (pre++[x])=(bM n pre || bM n [x]):=by unfold bM;rw[any_append]
   rw[this,o];unfold bM
   cases x <;> simp
  show wp _ [.im (.lst (bd.map Pa.toD)),.im d,.im p.toD,c] _
  cases p with
  |is t=>
   refine ba (b:=ag) (aI (ao (ak rfl rfl rfl) rfl rfl)) (λe=>nomatch e) λ_=>bA ⟨es _,_,_,rfl⟩
  |no t=>
   refine ba (b:=ag) (aI (ao (ak rfl rfl rfl) rfl rfl)) (λe=>nomatch e) λ_=>bA ⟨es _,_,_,rfl⟩
  |ct w k its ov=>
   refine ba (b:=ag) (aI (ao (ak rfl rfl rfl) rfl (by cases w <;> rfl))) (λe=>nomatch e) λ_=>bA ⟨es _,_,_,rfl⟩
  |un a b=>
   refine ba (b:=ac) (aI (ao (ak rfl rfl rfl) rfl rfl)) (λ_=>?_) λe=>nomatch e;apply ap;refine b8 (d:=sT (nmF n a)) (ug (w:=a) rfl (ak rfl rfl rfl) (ak rfl rfl rfl) q) ?_;show wp _ [.im (.lst (bd.map Pa.toD)),.im d,.im (Pa.toD (.un a b)),.im (sT (nmF n a))] _;refine ba (b:=decide (nmF n a=nmF n b)) (aI (ao rfl (ug (w:=b) rfl (ak rfl rfl rfl) (ak rfl rfl rfl) q) (eqT _ _))) (λe=>?_) λe=>bA ⟨(es _).trans e,_,_,rfl⟩;refine cw rfl (cx ?_)
   have:bM n bd=ac:=by
    unfold bM;rw[any_eq_true];exact⟨.un a b,by rw[u];simp,e⟩
   rw[this];rfl
 .rintro ρ ⟨o,j,c,rfl⟩;refine cw rfl (cx ?_);rw[o];rfl
structure Sm(n m:As):Prop where
 p:n.Perm m
 d:(m.map (·.1)).Nodup
def Sm.f(h:Sm n m):nmF n=nmF m:=DM h.p ((h.p.map _).nodup_iff.mpr h.d)
variable{dk:D}
def DQ(hk:kQ dk ks)(ha:fj d n)(hs:Sm n m)(hl:n.length<=100){its:List Ti}(h:ItK ks m its ov):sP [.lst (its.map bC),.lst (ov.map prD),dk,d]=aa (.lst ((itF ks ov m its).map tiD)):=by
 apply b9;unfold sO;show wp _ [.im (.lst (its.map bC)),.im (.lst (ov.map prD)),.im dk,.im d,.no,.no,.no,.no,.no] _;apply ap;refine dW (d:=[]) rfl ?_;show wp _ [.im (.lst (its.map bC)),.im (.lst (ov.map prD)),.im dk,.im d,.own [],.no,.no,.no,.no] _;have ht:=uo h.p;have M:=h.l;have h3:=h.p.n;have C:=y6 h.p m;apply ap;refine cK its bC (λpre ρ=>∃J L q o,ρ=[.im (.lst (its.map bC)),.im (.lst (ov.map prD)),.im dk,.im d,.own ((itF ks ov m pre).map tiD),J,L,q,o]) (bp rfl rfl) ⟨_,_,_,_,rfl⟩ ?_ ?_
 .rintro pre z post ρ he ⟨J,L,q,o,rfl⟩;refine⟨_,rfl,?_⟩;have hz:z∈its:=by rw[he];simp
  have es:itF ks ov m (pre++[z])=itF ks ov m pre++(ci (tot (psN ks ov))).map λi=>(tT (m++(chW ks ov.reverse i).reverse) z.1,z.2):=by
   unfold itF;rw[fD,C,flatMap_singleton,map_map];rfl
  have I:(itF ks ov m pre).length<=60:=by
   have:itF ks ov m its=itF ks ov m pre++itF ks ov m (z::post):=by rw[he];unfold itF;rw[fD]
   rw[this,aJ]at M;lia
  show wp _ [.im (.lst (its.map bC)),.im (.lst (ov.map prD)),.im dk,.im d,.own ((itF ks ov m pre).map tiD),.im (kdD z.1),.im (.int z.2),q,o] _;rw[es];generalize itF ks ov m pre=T at I;refine cK (ci (tot (psN ks ov))) (λ(i:Nat)=>D.int i) (λe ρ=>∃q o,ρ=[.im (.lst (its.map bC)),.im (.lst (ov.map prD)),.im dk,.im d,.own ((T++e.map λi=>(tT (m++(chW ks ov.reverse i).reverse) z.1,z.2)).map tiD),.im (kdD z.1),.im (.int z.2),q,o]) ((A3 (n:=((tot (psN ks ov):Nat):Int)) (ai (aN (ai rfl (ai rfl rfl)) (yY hk ov h.p)) rfl) (by lia) (by lia)).trans (by rw[gT])) ⟨_,_,by rw[map_nil,eB]⟩ ?_ ?_
  .rintro e i ipost ρ Q ⟨q,o,rfl⟩;refine⟨_,rfl,?_⟩;obtain⟨hi,E⟩:=yX Q;subst hi;have j:m++(chW ks ov.reverse e.length).reverse∈nbw ks ov m:=by rw[C];exact bT.mpr ⟨e.length,iq.mpr E,rfl⟩
   have u:=h.t z hz _ j;have hipl:e.length<=1728:=by lia
   have Y:(vrs ov).Nodup:=(gn.mp h.d).2.1;have v:=DL hk ov h.p Y e.length;have A:=uq ks ov.reverse e.length;have B:=yZ ks ov.reverse e.length;have e2:T++(e++[e.length]).map (λi=>(tT (m++(chW ks ov.reverse i).reverse) z.1,z.2))=T++e.map (λi=>(tT (m++(chW ks ov.reverse i).reverse) z.1,z.2))++[(tT (m++(chW ks ov.reverse e.length).reverse) z.1,z.2)]:=by rw[bh,<- gm];rfl
   rw[e2];have N:(T++e.map λi=>(tT (m++(chW ks ov.reverse i).reverse) z.1,z.2)).length<=2000:=by rw[aJ,av];lia
   generalize T++e.map (λi=>(tT (m++(chW ks ov.reverse i).reverse) z.1,z.2))=U at N;generalize e.length=i at j u v A B E;generalize chW ks ov.reverse i=c at j u v A B;rw[jv]at B
   have G:((n++c).map (·.1)).Nodup:=by
    rw[bh,A,show vrs ov.reverse=(vrs ov).reverse from nK];exact(((hs.p.map _).append (reverse_perm _)).nodup_iff).mpr h.d
   have H:nmF (n++c)=nmF (m++c.reverse):=DM (hs.p.append (reverse_perm c).symm) G;show wp _ [.im (.lst (its.map bC)),.im (.lst (ov.map prD)),.im dk,.im d,.own (U.map tiD),.im (kdD z.1),.im (.int z.2),.im (.int (i:Nat)),o] _;apply ap;refine Ca rfl ha ?_;show wp _ [.im (.lst (its.map bC)),.im (.lst (ov.map prD)),.im dk,.im d,.own (U.map tiD),.im (kdD z.1),.im (.int z.2),.im (.int (i:Nat)),.ownd (aK n) (aV n)] _;apply ap;refine Ce (ks:=aK n) (xs:=aV n) (r:=(aK c,aV c)) rfl (aN (ai rfl (ai rfl (ai rfl rfl))) v) rfl ?_ ?_ ?_
   .rw[<- pL];exact uh (λp:LN×LN=>p.1) _ G
   .unfold aK;rw[av,av];lia
   dsimp only;rw[<- pL,<- yR];show wp _ [.im (.lst (its.map bC)),.im (.lst (ov.map prD)),.im dk,.im d,.own (U.map tiD),.im (kdD z.1),.im (.int z.2),.im (.int (i:Nat)),.ownd (aK (n++c)) (aV (n++c))] _;refine ja (d:=tiD (tT (m++c.reverse) z.1,z.2)) (cv (ai (Hw (d:=sT (tT (m++c.reverse) z.1)) (ai rfl (ai rfl rfl)) ?_ rfl) (ai rfl rfl))) rfl (by rw[av];lia) ⟨.im (.int (i:Nat)),.ownd (aK (n++c)) (aV (n++c)),?_⟩
   .rw[y7 (show fj (.dic (aK (n++c)) (aV (n++c))) (n++c)from rfl) z.1 (y4 H.symm _ u),y3 H]
   .rw[bh];rfl
  .rintro ρ ⟨q,o,rfl⟩;exact⟨_,_,_,_,rfl⟩
 .rintro ρ ⟨J,L,q,o,rfl⟩;exact ko rfl (iF rfl)
structure nA(d:D)(tb:L2N)(bs:List Bool):Prop where
 d:iJ d=aa (tK tb,bs.map D.bl)
 l:tb.length=bs.length
abbrev trF(tb:L2N)(bs:List Bool)(t:LN):Bool:=bs.getD (tb.idxOf t) ag
def pN{bs:List Bool}(h:nA d tb bs)(c:t∈tb):eY d (sT t)=aa (.bl (trF tb bs t)):=by
 unfold eY;rw[h.d,aC];show gy (tK tb) (bs.map D.bl) (.inr (tx t))=_;have e:=uC c;rw[yW t tb _ (by rw[av];exact h.l) c,d7];unfold trF;rw[fm];have:tb.idxOf t<bs.length:=by rw[<- h.l];exact e
 rw[cr this];rfl
abbrev wo(f:LN->Bool)(its:List (LN×Int)):Int:=((its.filter λz=>f z.1).map (·.2)).sum
def y8{bs:List Bool}(h:nA d tb bs)(its:List (LN×Int))(e:its.length<=1000)(c:∀z∈its,z.1∈tb):pb [.lst (its.map tiD),d]=aa (.int (wo (trF tb bs) its)):=by
 apply b9;show wp _ [.im (.lst (its.map tiD)),.im d] _;refine cw (aN (ai (bV (ds:=(((its.filter λz=>trF tb bs z.1).map (·.2)).map D.int)) ?_) rfl) AZ) (cx rfl);rw[map_map];exact rF its tiD (λz=>trF tb bs z.1) (D.int ∘ (·.2)) (bp rfl rfl) (by lia) λz hz=>lG rfl (jF (ao rfl rfl (pN h (c z hz))) rfl) λ_=>rfl
abbrev hp(f:LN->Bool):PP->Bool
 |.i t=>f t
 |.o t=>!f t
 |.c w n its=>if w then decide (n<=wo f its) else decide (wo f its<=n)
def ur(e:t∈tb):atI (tb.map sT) ((pos tb t:Nat):Int)=aa (sT t):=by
 have c:=uC e;unfold atI ixN pos;rw[if_pos (by lia),if_pos (by rw[av];lia),aC,d7,gT,cr c,List.getElem_idxOf c];rfl
def Mn(a b:Bool)(h:b=ac):(a==b)=a:=by rw[h];cases a <;> rfl
def Mp{bs:List Bool}(h:nA d tb bs)(p:PP)(v:(ppT p).length<=1000)(j:∀t∈ppT p,t∈tb):sS [p.nD tb,.lst (tb.map sT),d]=aa (.bl (hp (trF tb bs) p)):=by
 apply b9;unfold sR;show wp _ [.im (p.nD tb),.im (.lst (tb.map sT)),.im d,.no] _
 cases p with
 |i t=>
  apply ap;refine ba (b:=ac) (hV (a:=ac) (b:=ag) (aI (ao (ak rfl rfl rfl) rfl rfl)) (aI (ao (ak rfl rfl rfl) rfl rfl))) (λ_=>?_) λe=>nomatch e;refine cw (ao (ao rfl (ak rfl (ak rfl rfl rfl) (ur (j t (by simp[ppT])))) (pN h (j t (by simp[ppT])))) (ao (ak rfl rfl rfl) rfl rfl) (rJ _ _)) (cx ?_);show D.bl (trF tb bs t==ac)=_;rw[Mn _ _ rfl]
  rfl
 |o t=>
  apply ap;refine ba (b:=ac) (hV (a:=ag) (b:=ac) (aI (ao (ak rfl rfl rfl) rfl rfl)) (aI (ao (ak rfl rfl rfl) rfl rfl))) (λ_=>?_) λe=>nomatch e;refine cw (ao (ao rfl (ak rfl (ak rfl rfl rfl) (ur (j t (by simp[ppT])))) (pN h (j t (by simp[ppT])))) (ao (ak rfl rfl rfl) rfl rfl) (rJ _ _)) (cx ?_);show D.bl (trF tb bs t==ag)=D.bl (!trF tb bs t)
  cases trF tb bs t <;> rfl
 |c w n its=>
  have u:its.length<=1000:=by have:(its.map (·.1)).length<=1000:=v;rwa [av]at this
  have q:∀z∈its,z.1∈tb:=λz hz=>j z.1 (bT.mpr ⟨z,hz,rfl⟩);apply ap
  refine ba (b:=ag) (hV (a:=ag) (b:=ag) (aI (ao (ak rfl rfl rfl) rfl (by cases w <;> rfl))) (aI (ao (ak rfl rfl rfl) rfl (by cases w <;> rfl)))) (λe=>nomatch e) λ_=>bA ?_
  apply ap;refine b8 (d:=.int (wo (trF tb bs) its)) (aN (ai (bV (fq its (niD tb) tiD (bp (ak rfl rfl rfl) rfl) (by lia) λz hz=>eW rfl rfl (cv (ai (ak rfl rfl (ur (q z hz))) (ai rfl rfl))))) (ai rfl rfl)) (y8 h its u q)) ?_;show wp _ [.im (PP.nD tb (.c w n its)),.im (.lst (tb.map sT)),.im d,.im (.int (wo (trF tb bs) its))] _;apply ap
  refine ba (b:=w) (aI (ao (ak rfl rfl rfl) rfl (by cases w <;> rfl))) (λe=>?_) λe=>bA ?_
  .subst e;exact cw (ao rfl (ak rfl rfl rfl) Bl) (cx rfl)
  .subst e;exact cw (ao rfl (ak rfl rfl rfl) mS) (cx rfl)
def DR(ks:List Kd)(m:As)(pre:List Pa)(p:Pa):bdF ks m (pre++[p])=bdF ks m pre++if isU p then [] else [ppF ks m p]:=by
 unfold bdF;rw[nJ,bh]
 cases h:isU p <;> simp[h]
variable{dt:D}
def Mq{bs:List Bool}(Q:kQ dk ks)(I:fj d n)(L:Sm n m)(T:n.length<=100)(h:nA dt tb bs)(bd:List Pa)(N:∀p∈bd,PaK ks m p)(U:∀p∈bdF ks m bd,∀t∈ppT p,t∈tb):xG [.lst (bd.map Pa.toD),dk,d,dt]=aa (.bl ((bdF ks m bd).all (hp (trF tb bs)))):=by
 apply b9;unfold sQ;show wp _ [.im (.lst (bd.map Pa.toD)),.im dk,.im d,.im dt,.no,.no] _;apply ap;refine cK bd Pa.toD (λpre ρ=>(bdF ks m pre).all (hp (trF tb bs))=ac/\∃G C,ρ=[.im (.lst (bd.map Pa.toD)),.im dk,.im d,.im dt,G,C]) (bp rfl rfl) ⟨rfl,_,_,rfl⟩ ?_ ?_
 .rintro pre p post ρ J ⟨E,G,C,rfl⟩;refine⟨_,rfl,?_⟩;have o:=N p (by rw[J];simp)
  have B:isU p=ag->ppF ks m p∈bdF ks m bd:=λA=>by
   unfold bdF;exact bT.mpr ⟨p,k9.mpr ⟨by rw[J];simp,by rw[A];rfl⟩,rfl⟩
  have es:isU p=ag->hp (trF tb bs) (ppF ks m p)=ac->(bdF ks m (pre++[p])).all (hp (trF tb bs))=ac:=λA z=>by
   rw[DR,A,all_append,E];show(ac && (hp (trF tb bs) (ppF ks m p) && ac))=ac;rw[z];rfl
  have no : isU p=ag->hp (trF tb bs) (ppF ks m p)=ag->mR (λd=>d=.bl ((bdF ks m bd).all (hp (trF tb bs)))) (.rt (.bl ag)):=λA z=>cx (by
   have:(bdF ks m bd).all (hp (trF tb bs))=ag:=by
    rw[all_eq_false];exact⟨_,B A,by rw[z];exact bS⟩
   rw[this])
  have u:isU p=ag->∀t∈ppT (ppF ks m p),t∈tb:=λA t z=>U _ (B A) t z;have j:=L.f;show wp _ [.im (.lst (bd.map Pa.toD)),.im dk,.im d,.im dt,.im p.toD,C] _
  cases p with
  |is t=>
   have H:tT m t∈tb:=u rfl _ (by simp[ppF,ppT]);refine ba (b:=ac) (hV (a:=ac) (b:=ag) (aI (ao (ak rfl rfl rfl) rfl rfl)) (aI (ao (ak rfl rfl rfl) rfl rfl))) (λ_=>?_) λe=>nomatch e;refine ba (aI (ao (ao rfl (aN (ai (ak rfl rfl rfl) (ai rfl rfl)) ((y7 I t (y4 j.symm _ o)).trans (by rw[y3 j]))) (pN h H)) (ao (y:=.str "is") (ak rfl rfl rfl) rfl rfl) (A0 _ _))) (λe=>?_) λe=>bA ⟨es rfl ?_,_,_,rfl⟩
   .refine cw rfl (no rfl ?_);show trF tb bs (tT m t)=ag
    revert e
    cases trF tb bs (tT m t)
    .exact λ_=>rfl
    .exact λe=>nomatch e
   .show trF tb bs (tT m t)=ac
    revert e
    cases trF tb bs (tT m t)
    .exact λe=>nomatch e
    .exact λ_=>rfl
  |no t=>
   have H:tT m t∈tb:=u rfl _ (by simp[ppF,ppT]);refine ba (b:=ac) (hV (a:=ag) (b:=ac) (aI (ao (ak rfl rfl rfl) rfl rfl)) (aI (ao (ak rfl rfl rfl) rfl rfl))) (λ_=>?_) λe=>nomatch e;refine ba (aI (ao (ao rfl (aN (ai (ak rfl rfl rfl) (ai rfl rfl)) ((y7 I t (y4 j.symm _ o)).trans (by rw[y3 j]))) (pN h H)) (ao (y:=.str "is") (ak rfl rfl rfl) rfl rfl) (A0 _ _))) (λe=>?_) λe=>bA ⟨es rfl ?_,_,_,rfl⟩
   .refine cw rfl (no rfl ?_);show(!trF tb bs (tT m t))=ag
    revert e
    cases trF tb bs (tT m t)
    .exact λe=>nomatch e
    .exact λ_=>rfl
   .show(!trF tb bs (tT m t))=ac
    revert e
    cases trF tb bs (tT m t)
    .exact λ_=>rfl
    .exact λe=>nomatch e
  |un a b=>
   refine ba (b:=ag) (hV (a:=ag) (b:=ag) (aI (ao (ak rfl rfl rfl) rfl rfl)) (aI (ao (ak rfl rfl rfl) rfl rfl))) (λe=>nomatch e) λ_=>?_;refine ba (b:=ag) (aI (ao (ak rfl rfl rfl) rfl rfl)) (λe=>nomatch e) λ_=>bA ⟨?_,_,_,rfl⟩;rw[DR];show(bdF ks m pre++[]).all _=ac;rw[eB]
   exact E
  |ct w k its ov=>
   refine ba (b:=ag) (hV (a:=ag) (b:=ag) (aI (ao (ak rfl rfl rfl) rfl (by cases w <;> rfl))) (aI (ao (ak rfl rfl rfl) rfl (by cases w <;> rfl)))) (λe=>nomatch e) λ_=>?_
   refine ba (b:=ac) (aI (ao (ak rfl rfl rfl) rfl (by cases w <;> rfl))) (λ_=>?_) λe=>nomatch e
   have M:=o.l;apply ap;refine b8 (d:=.int (wo (trF tb bs) (itF ks ov m its))) (aN (ai (aN (ai (ak rfl rfl rfl) (ai (ak rfl rfl rfl) (ai rfl (ai rfl rfl)))) (DQ Q I L T o)) (ai rfl rfl)) (y8 h _ (by lia) λz hz=>u rfl z.1 (bT.mpr ⟨z,hz,rfl⟩))) ?_;have c:=es rfl;have q:=no rfl;have Y:hp (trF tb bs) (ppF ks m (.ct w k its ov))=if w then decide (k<=wo (trF tb bs) (itF ks ov m its)) else decide (wo (trF tb bs) (itF ks ov m its)<=k):=rfl;rw[Y]at c q;generalize wo (trF tb bs) (itF ks ov m its)=v at c q;show wp _ [.im (.lst (bd.map Pa.toD)),.im dk,.im d,.im dt,.im (Pa.toD (.ct w k its ov)),.im (.int v)] _
   cases w with
   |true=>
    refine ba (b:=decide (v<k)) ((hV (a:=decide (v<k)) (b:=ag) ((kj (a:=ac) (aI (ao (ak rfl rfl rfl) rfl rfl)) (aI (ao rfl (ak rfl rfl rfl) oN))).trans (by rw[pT])) ((kj (a:=ag) (aI (ao (ak rfl rfl rfl) rfl rfl)) (aI (ao rfl (ak rfl rfl rfl) iH))).trans rfl)).trans (by rw[pS])) (λe=>?_) λe=>bA ⟨c (decide_eq_true ?_),_,_,rfl⟩
    .exact cw rfl (q (decide_eq_false (by have:=of_decide_eq_true e;lia)))
    .have:=of_decide_eq_false e;lia
   |false=>
    refine ba (b:=decide (k<v)) ((hV (a:=ag) (b:=decide (k<v)) ((kj (a:=ag) (aI (ao (ak rfl rfl rfl) rfl rfl)) (aI (ao rfl (ak rfl rfl rfl) oN))).trans rfl) ((kj (a:=ac) (aI (ao (ak rfl rfl rfl) rfl rfl)) (aI (ao rfl (ak rfl rfl rfl) iH))).trans (by rw[pT]))).trans (by rw[Bool.false_or])) (λe=>?_) λe=>bA ⟨c (decide_eq_true ?_),_,_,rfl⟩
    .exact cw rfl (q (decide_eq_false (by have:=of_decide_eq_true e;lia)))
    .have:=of_decide_eq_false e;lia
 .rintro ρ ⟨E,G,C,rfl⟩;refine cw rfl (cx ?_);rw[E]
def Mr{c:Type}(A:List c)(x y:c):atI (A++[x,y]) (-1)=aa y:=by
 unfold atI ixN;rw[if_neg (by decide),if_pos (by rw[aJ];simp;lia),aC,aJ,show((-1:Int)+((A.length + [x,y].length:Nat):Int)).toNat=A.length+1 by simp;lia,iT (by lia),uF];rfl
def Ms{c:Type}(A:List c)(x y:c):atI (A++[x,y]) (-2)=aa x:=by
 unfold atI ixN;rw[if_neg (by decide),if_pos (by rw[aJ];simp;lia),aC,aJ,show((-2:Int)+((A.length + [x,y].length:Nat):Int)).toNat=A.length by simp;lia,iT (by lia),Nat.sub_self];rfl
variable{f:MF1}
def DU{c:Type}{g:c->D}{xs:List c}{x:c}(e:f ρ=aa (.lst ((xs++[x]).map g)))(j:l ρ=aa ab)(o:h ρ=aa (aa (-1))):mSl f l h ρ=aa (xs.map g):=by
 rw[rT e j o];show aa (List.map g (List.take (HT.sIx _ _ _-0) (List.drop 0 (xs++[x]))))=_
 have:HT.sIx (xs++[x]).length (xs++[x]).length (aa (-1))=xs.length:=by
  unfold HT.sIx;dsimp only;rw[if_pos (by decide),aJ];simp;lia
 rw[this,Nat.sub_zero,drop_zero,take_left]
def Mt{c:Type}{g:c->D}{A:List c}{x y:c}(e:f ρ=aa (.lst ((A++[x,y]).map g)))(j:l ρ=aa (aa (-2)))(o:h ρ=aa ab):mSl f l h ρ=aa ([x,y].map g):=by
 rw[rT e j o]
 have p:HT.sIx (A++[x,y]).length 0 (aa (-2))=A.length:=by
  unfold HT.sIx;dsimp only;rw[if_pos (by decide),aJ];simp;lia
 rw[p];show aa (List.map g (List.take ((A++[x,y]).length-A.length) (List.drop A.length (A++[x,y]))))=_;rw[drop_left,aJ,uF];rfl
def Mu(a b:LN):isE (sT a) (sT b)=decide (b=a):=by
 have:deq 19 (sT b) (sT a)=aa (tx b==tx a):=rfl;unfold isE;rw[this];apply fU.mpr;rw[beq_iff_eq,decide_eq_true_eq];constructor
 .intro z;exact ji (beq_iff_eq.mp (cj z))
 .intro z;rw[z,beq_self_eq_true]
def DV(a:LN):∀tb:L2N,iE (sT a) (tb.map sT)=aa (tb.any λb=>decide (b=a))
 | []=>rfl
 |b::tb=>by
  rw[cY];show((deq 19 (sT b) (sT a)).bind λx=>(iE (sT a) (tb.map sT)).map λr=>x || r)=_;rw[DV a tb,show deq 19 (sT b) (sT a)=aa (tx b==tx a)from rfl,aC,eS,Option.map_some]
  congr 2
  apply fU.mpr;rw[beq_iff_eq,decide_eq_true_eq];exact⟨ji,λz=>by rw[z]⟩
def Mv(c:t∈tb):mZ (.lst (tb.map sT)) (sT t)=aa (.int ((pos tb t:Nat):Int)):=by
 show(if iE (sT t) (tb.map sT)=aa ac then aa (D.int (((tb.map sT).findIdx (isE (sT t)):Nat):Int)) else ab)=_;rw[DV,any_eq_true.mpr ⟨t,c,decide_eq_true rfl⟩,if_pos rfl,findIdx_map]
 congr 3
 unfold pos List.idxOf
 congr 1
 funext b;show isE (sT t) (sT b)=(b==t);rw[Mu];apply fU.mpr;rw[beq_iff_eq,decide_eq_true_eq]
def Mw(tb:L2N)(n:Nat)(p:PP):dU (n+5) (p.nD tb):=by
 cases p with
 |i t=>
  intro x j
  rcases bX.mp j with e |e
  .rw[e];rfl
  .rw[bN.mp e];rfl
 |o t=>
  intro x j
  rcases bX.mp j with e |e
  .rw[e];rfl
  .rw[bN.mp e];rfl
 |c w k its=>
  intro x j
  rcases bX.mp j with e |e
  .rw[e];rfl
  rcases bX.mp e with e |e
  .rw[e];rfl
  rw[bN.mp e];intro y v;obtain⟨z,_,rfl⟩:=bT.mp v;intro u q
  rcases bX.mp q with e |e
  .rw[e];rfl
  .rw[bN.mp e];rfl
def DY(tb:L2N)(n:Nat)(b:List PP):dU (n+6) (.lst (b.map (PP.nD tb))):=λx c=>by
 obtain⟨p,_,rfl⟩:=bT.mp c;exact Mw tb n p
def DZ(tb:L2N)(n:Nat)(r:PR):dU (n+7) (r.nD tb):=λx c=>by
 rcases bX.mp c with e |e
 .rw[e];rfl
 rcases bX.mp e with e |e
 .rw[e];cases r.h <;> rfl
 rw[bN.mp e];exact DY tb n r.b
def D0(tb:L2N)(b:List PP)(p:PP)(j:b.length<=1000){g:MF1}(c:f ρ=aa (.lst (b.map (PP.nD tb))))(e:g ρ=aa (p.nD tb)):aT (eX f (aT (af g nZ))) ρ=aa (.lst ((b++[p]).map (PP.nD tb))):=by
 refine bV ?_;unfold eX;rw[c,aC,bV (ai e rfl)];show(if (b.map (PP.nD tb)).length+1<=16777216 then aa (b.map (PP.nD tb)++[p.nD tb]) else ab)=_;rw[if_pos (by rw[av];lia),bh];rfl
def Mx(tb:L2N)(lo hi:Int)(j:List Ti)(ov:List Pr)(bd:List Pa)(ps:List Pr)(its:List (LN×Int))(b:List PP)(hb:b.length=(bd.filter λp=>!isU p).length)(hbd:bd.length<=100)(hl:its.length<=1000)(ht:∀z∈its,z.1∈tb):
  xE [.lst ((chF lo hi its b).map (PR.nD tb)),(Ro.choose lo hi j ov bd ps).toD,.lst (its.map tiD),.lst (tb.map sT)]=aa (.bl ac):=by
 have I:b.length<=1000:=by have:=me (λp=>!isU p) bd;lia
 apply b9;unfold sJ;generalize hRw:(Ro.choose lo hi j ov bd ps).toD=B;show wp _ [.im (.lst ((chF lo hi its b).map (PR.nD tb))),.im B,.im (.lst (its.map tiD)),.im (.lst (tb.map sT)),.no,.no,.no,.no,.no,.no,.no] _
 have e5:∀ρ:LS,ρ[1]?=aa (.im B)->mIx (am 1) (kI 5) ρ=aa (.lst (bd.map Pa.toD))/\mIx (am 1) (kI 1) ρ=aa (.int lo)/\mIx (am 1) (kI 2) ρ=aa (.int hi):=λρ h=>by
  subst hRw;have hv:am 1 ρ=aa [.str "choose",.int lo,.int hi,.lst (j.map bC),.lst (ov.map prD),.lst (bd.map Pa.toD),.lst (ps.map prD)]:=by unfold am;rw[h];rfl
  exact⟨ak hv rfl rfl,ak hv rfl rfl,ak hv rfl rfl⟩
 generalize hM:its.map (λz:LN×Int=>PR.mk "may" (aa z.1) b)=M;have eR:chF lo hi its b=M++[PR.mk "never" ab (b++[.c ag (lo-1) its]),PR.mk "never" ab (b++[.c ac (hi+1) its])]:=by rw[<- hM];rfl
 have hM1:∀(i:Nat) (z:LN×Int),its[i]?=aa z->M[i]?=aa (PR.mk "may" (aa z.1) b):=λi z h=>by rw[<- hM,d7,h];rfl
 have hMl:M.length=its.length:=by rw[<- hM,av]
 rw[eR];generalize hr1:PR.mk "never" ab (b++[.c ag (lo-1) its])=u;generalize T:PR.mk "never" ab (b++[.c ac (hi+1) its])=v;have q:atI ((M++[u,v]).map (PR.nD tb)) (-1)=aa (v.nD tb):=by rw[bh];exact Mr _ _ _
 have L:atI ((M++[u,v]).map (PR.nD tb)) (-2)=aa (u.nD tb):=by rw[bh];exact Ms _ _ _
 have N:∀(i:Nat) (z:LN×Int),its[i]?=aa z->atI ((M++[u,v]).map (PR.nD tb)) ((i:Nat):Int)=aa (PR.nD tb (PR.mk "may" (aa z.1) b)):=λi z h=>by
  have hi:=(eQ.mp h).1;unfold atI ixN;rw[if_pos (by lia),if_pos (by rw[av,aJ];lia),aC,d7,gT,kR (by lia),hM1 i z h];rfl
 have Q:(M++[u,v]).length=its.length+2:=by rw[aJ,hMl];rfl
 generalize H:D.lst ((M++[u,v]).map (PR.nD tb))=A;have hsq:g8 A=aa ((M++[u,v]).map (PR.nD tb)):=by subst H;rfl
 have o:∀ρ:LS,ρ[0]?=aa (.im A)->am 0 ρ=aa ((M++[u,v]).map (PR.nD tb)):=λρ h=>by unfold am;rw[h];exact hsq
 apply ap;refine ba (b:=ag) (aI (ao (aN (ai rfl rfl) (by rw[<- H];exact dZ _ _)) (ao (aN (ai rfl rfl) (dZ its tiD)) rfl gh) ((vQ _ _).trans ?_))) (λe=>nomatch e) λ_=>bA ?_
 .rw[Q,show(((its.length+2:Nat):Int)==(its.length:Int)+2)=ac from beq_iff_eq.mpr (by lia)];rfl
 apply ap;refine b8 (d:=.lst (b.map (PP.nD tb))) (bV (DU (x:=.c ac (hi+1) its) (ak (bp (ak (o _ rfl) rfl q) rfl) rfl (by subst T;rfl)) rfl rfl)) ?_;show wp _ [.im A,.im B,.im (.lst (its.map tiD)),.im (.lst (tb.map sT)),.im (.lst (b.map (PP.nD tb))),.no,.no,.no,.no,.no,.no] _;apply ap;refine ba (b:=ag) (aI (ao (aN (ai rfl rfl) (dZ b _)) (aN (ai (bV (rF bd Pa.toD (λp=>!isU p) Pa.toD (bp (e5 _ rfl).1 rfl) (by lia) λp _=>lG rfl (yU p _) λ_=>rfl)) rfl) (dZ _ _)) ((vQ _ _).trans ?_))) (λe=>nomatch e) λ_=>bA ?_
 .rw[hb,beq_self_eq_true];rfl
 apply ap;refine cK (ci its.length) (λi=>D.tup [.int (i:Nat),tiD (its.getD i ([],0))]) (λ_ ρ=>∃U Y C E G,ρ=[.im A,.im B,.im (.lst (its.map tiD)),.im (.lst (tb.map sT)),.im (.lst (b.map (PP.nD tb))),U,Y,C,E,G,.no]) (Bo ([],0) (ai rfl rfl)) ⟨_,_,_,_,_,rfl⟩ ?_ ?_
 .rintro pre i post ρ he ⟨U,Y,C,E,G,rfl⟩;obtain⟨hi1,J⟩:=yX he;rw[<- hi1]at J;refine⟨_,rfl,?_⟩;have hg:its[i]?=aa (its.getD i ([],0)):=by rw[fm,cr J];rfl
  generalize its.getD i ([],0)=z at hg;have hz:z∈its:=mem_of_getElem? hg;show wp _ [.im A,.im B,.im (.lst (its.map tiD)),.im (.lst (tb.map sT)),.im (.lst (b.map (PP.nD tb))),.im (.int (i:Nat)),.im (tiD z),C,E,G,.no] _;apply ap;refine v5 (ak (o _ rfl) rfl (N i z hg)) rfl ?_;show wp _ [.im A,.im B,.im (.lst (its.map tiD)),.im (.lst (tb.map sT)),.im (.lst (b.map (PP.nD tb))),.im (.int (i:Nat)),.im (tiD z),.im (.str "may"),.im (.int (pos tb z.1:Nat)),.im (.lst (b.map (PP.nD tb))),.no] _;refine ba (b:=ag) (hV (a:=ag) (b:=ag) (aI (ao rfl rfl rfl)) (hV (a:=ag) (b:=ag) (aI (ao (ak rfl rfl (ur (ht z hz))) (ak rfl rfl rfl) (rH (d:=sT z.1) rfl))) (aI (ao rfl rfl (rH (DY tb 14 b)))))) (λe=>nomatch e) λ_=>bA ⟨_,_,_,_,_,rfl⟩
 .rintro ρ ⟨U,Y,C,E,G,rfl⟩;apply ap;refine b8 (d:=.lst (its.map (niD tb))) (bV (fq its tiD (niD tb) (bp rfl rfl) (by lia) λz hz=>eW rfl rfl (cv (ai (ao rfl rfl (Mv (ht z hz))) (ai rfl rfl))))) ?_;show wp _ [.im A,.im B,.im (.lst (its.map tiD)),.im (.lst (tb.map sT)),.im (.lst (b.map (PP.nD tb))),U,Y,C,E,G,.im (.lst (its.map (niD tb)))] _;apply ap;refine ba (b:=ag) (aI (ao (ak (o _ rfl) rfl L) (cv (ai rfl (ai rfl (ai (D0 tb b (.c ag (lo-1) its) I rfl (cv (ai rfl (ai (ao (e5 _ rfl).2.1 rfl iG) (ai rfl rfl))))) rfl)))) (by subst hr1;exact rH (DZ tb 13 (PR.mk "never" ab (b++[.c ag (lo-1) its])))))) (λe=>nomatch e) λ_=>bA ?_;exact cw (ao (ak (o _ rfl) rfl q) (cv (ai rfl (ai rfl (ai (D0 tb b (.c ac (hi+1) its) I rfl (cv (ai rfl (ai (ao (e5 _ rfl).2.2 rfl gh) (ai rfl rfl))))) rfl)))) (by subst T;exact G2 (DZ tb 13 (PR.mk "never" ab (b++[.c ac (hi+1) its]))))) (cx rfl)
def My{bs:List Bool}(hk:kQ dk ks)(ha:fj d n)(hs:Sm n m)(hl:n.length<=100)(h:nA dt tb bs)(lo hi:Int)(its:List Ti)(ov:List Pr)(bd:List Pa)(ps:List Pr)(J:ItK ks m its ov)(hbd:bd.length<=100)(hb:∀p∈bd,PaK ks m p)(ht:∀p∈bdF ks m bd,∀t∈ppT p,t∈tb)(G:∀z∈itF ks ov m its,z.1∈tb)(hp1:∀p∈bdF ks m bd,(ppT p).length<=1000):
  xH [.lst ((chF lo hi (itF ks ov m its) (bdF ks m bd)).map (PR.nD tb)),(Ro.choose lo hi its ov bd ps).toD,dk,d,.lst (tb.map sT),dt]=aa (.bl ac):=by
 have T:=J.l
 have hbl:(bdF ks m bd).length<=1000:=by
  unfold bdF;rw[av];have:=me (λp=>!isU p) bd;lia
 have j:=Mx tb lo hi its ov bd ps (itF ks ov m its) (bdF ks m bd) (by unfold bdF;rw[av]) hbd (by lia) G;apply b9;unfold sU;generalize Y:(Ro.choose lo hi its ov bd ps).toD=C at j
 have H:∀ρ:LS,ρ[1]?=aa (.im C)->mIx (am 1) (kI 3) ρ=aa (.lst (its.map bC))/\mIx (am 1) (kI 4) ρ=aa (.lst (ov.map prD))/\mIx (am 1) (kI 5) ρ=aa (.lst (bd.map Pa.toD))/\mIx (am 1) (kI 1) ρ=aa (.int lo)/\mIx (am 1) (kI 2) ρ=aa (.int hi):=λρ h=>by
  subst Y;have M:am 1 ρ=aa [.str "choose",.int lo,.int hi,.lst (its.map bC),.lst (ov.map prD),.lst (bd.map Pa.toD),.lst (ps.map prD)]:=by unfold am;rw[h];rfl
  exact⟨ak M rfl rfl,ak M rfl rfl,ak M rfl rfl,ak M rfl rfl,ak M rfl rfl⟩
 generalize U:D.lst ((chF lo hi (itF ks ov m its) (bdF ks m bd)).map (PR.nD tb))=v at j;show wp _ [.im v,.im C,.im dk,.im d,.im (.lst (tb.map sT)),.im dt,.no,.no,.no,.no,.no,.no] _;have hT:=DQ hk ha hs hl J;have hH:=Mq hk ha hs hl h bd hb ht;have hW:=y8 h (itF ks ov m its) (by lia) G
 have hS:∀ρ:LS,ρ[0]?=aa (.im v)->mSl (ae 0) (mPt (m1 eU (kI 2))) (λ_=>aa ab) ρ=aa ([PR.mk "never" ab (bdF ks m bd++[.c ag (lo-1) (itF ks ov m its)]),PR.mk "never" ab (bdF ks m bd++[.c ac (hi+1) (itF ks ov m its)])].map (PR.nD tb)):=λρ h0=>by
  refine Mt (A:=(itF ks ov m its).map λz=>PR.mk "may" (aa z.1) (bdF ks m bd)) ?_ rfl rfl;unfold ae;rw[h0,<- U];rfl
 have o:∀(p:PP),(∀t∈ppT p,t∈tb)->(ppT p).length<=1000->∀(q:PP),q∈bdF ks m bd++[p]->(ppT q).length<=1000/\∀t∈ppT q,t∈tb:=λp e1 e2 q hq=>by
  rcases dB.mp hq with z |z
  .exact⟨hp1 q z,ht q z⟩
  .rw[bN.mp z];exact⟨e2,e1⟩
 have u:∀t∈(itF ks ov m its).map (·.1),t∈tb:=λt z=>by
  obtain⟨x,hx,rfl⟩:=bT.mp z;exact G x hx
 generalize itF ks ov m its=I at j hT hW hS T u;generalize bdF ks m bd=B at j hH hS hbl o;have hq1:=o (.c ag (lo-1) I) u (by show(I.map (·.1)).length<=1000;rw[av];lia);have hq2:=o (.c ac (hi+1) I) u (by show(I.map (·.1)).length<=1000;rw[av];lia);apply ap;refine b8 (d:=.lst (I.map tiD)) (aN (ai (H _ rfl).1 (ai (H _ rfl).2.1 (ai rfl (ai rfl rfl)))) hT) ?_;show wp _ [.im v,.im C,.im dk,.im d,.im (.lst (tb.map sT)),.im dt,.im (.lst (I.map tiD)),.no,.no,.no,.no,.no] _;apply ap;refine ba (b:=ag) (rK (b:=ac) (jF (aN (ai rfl (ai rfl (ai rfl (ai rfl rfl)))) j) rfl)) (λe=>nomatch e) λ_=>bA ?_;apply ap;refine b8 (d:=.bl ag) rfl ?_;show wp _ [.im v,.im C,.im dk,.im d,.im (.lst (tb.map sT)),.im dt,.im (.lst (I.map tiD)),.im (.bl ag),.no,.no,.no,.no] _;apply ap;refine cK [PR.mk "never" ab (B++[.c ag (lo-1) I]),PR.mk "never" ab (B++[.c ac (hi+1) I])] (PR.nD tb) (λpre ρ=>∃N Q E,ρ=[.im v,.im C,.im dk,.im d,.im (.lst (tb.map sT)),.im dt,.im (.lst (I.map tiD)),.im (.bl (pre.any λr=>r.b.all (hp (trF tb bs)))),N,Q,E,.no]) (bp (bV (hS _ rfl)) rfl) ⟨_,_,_,rfl⟩ ?_ ?_
 .rintro pre r post ρ he ⟨N,Q,E,rfl⟩;refine⟨_,rfl,?_⟩
  have hr:∀q∈r.b,(ppT q).length<=1000/\∀t∈ppT q,t∈tb:=by
   have:r∈[PR.mk "never" ab (B++[.c ag (lo-1) I]),PR.mk "never" ab (B++[.c ac (hi+1) I])]:=by rw[he];simp
   rcases bX.mp this with e |e
   .rw[e];exact hq1
   .rw[bN.mp e];exact hq2
  have hrl:r.b.length<=1001:=by
   have:r∈[PR.mk "never" ab (B++[.c ag (lo-1) I]),PR.mk "never" ab (B++[.c ac (hi+1) I])]:=by rw[he];simp
   rcases bX.mp this with e |e
   .rw[e];show(B++[_]).length<=1001;rw[aJ];simp;lia
   .rw[bN.mp e];show(B++[_]).length<=1001;rw[aJ];simp;lia
  show wp _ [.im v,.im C,.im dk,.im d,.im (.lst (tb.map sT)),.im dt,.im (.lst (I.map tiD)),.im (.bl (pre.any λr=>r.b.all (hp (trF tb bs)))),.im (.str r.w),.im (hnD tb r.h),.im (.lst (r.b.map (PP.nD tb))),.no] _
  have hc:gt (aH mP (af (aT (bv 1 [4,5] (be (ae 10)) (aB 0) kY (aH sS (af (ae 0) (af (ae 1) (af (ae 2) nZ)))))) nZ)) [.im v,.im C,.im dk,.im d,.im (.lst (tb.map sT)),.im dt,.im (.lst (I.map tiD)),.im (.bl (pre.any λr=>r.b.all (hp (trF tb bs)))),.im (.str r.w),.im (hnD tb r.h),.im (.lst (r.b.map (PP.nD tb))),.no]=aa (r.b.all (hp (trF tb bs))):=by
   refine jF (aN (ai (bV (ds:=(r.b.map (hp (trF tb bs))).map D.bl) ?_) rfl) (C6 _)) ?_
   .rw[map_map];exact fq r.b (PP.nD tb) (D.bl ∘ hp (trF tb bs)) (bp rfl rfl) (by lia) λp L=>eW rfl rfl (aN (ai rfl (ai rfl (ai rfl rfl))) (Mp h p (hr p L).1 (hr p L).2))
   .show aa _=_;rw[all_map];rfl
  refine ba hc (λe=>b8 (d:=.bl ac) rfl ⟨.im (.str r.w),.im (hnD tb r.h),.im (.lst (r.b.map (PP.nD tb))),?_⟩) λe=>bA ⟨.im (.str r.w),.im (hnD tb r.h),.im (.lst (r.b.map (PP.nD tb))),?_⟩
  .rw[any_append,eS,e,Bool.true_or,Bool.or_true];rfl
  .rw[any_append,eS,e];simp
 .rintro ρ ⟨N,Q,E,rfl⟩;apply ap;refine b8 (d:=.bl (B.all (hp (trF tb bs)))) (aN (ai (H _ rfl).2.2.1 (ai rfl (ai rfl (ai rfl rfl)))) hH) ?_;refine cw (ao rfl (oK rfl (A2 (Bq (H _ rfl).2.2.2.1 (aN (ai rfl (ai rfl rfl)) hW) mS (H _ rfl).2.2.2.2 mS))) (rJ _ _)) (cx ?_)
  congr 1
  rw[beq_iff_eq];simp only[eS,any_nil,all_append,jR,all_nil,hp];cases B.all (hp (trF tb bs))
  .rfl
  .simp only[pT,pR,pS];apply fU.mpr;simp;lia
section
variable{y:Lay}(hy:fg y)
include hy
end
abbrev l8:List Kd->List Ro->Prop
 | _,[]=>True
 |ks,r::rs=>(uf ks r/\RoS r)/\l8 (ks++kO r) rs
def D3:∀(a b:List Ro) (ks:List Kd),l8 ks a->l8 (ks++dN a) b->l8 ks (a++b)
 | [],b,ks,_,h=>by simpa[dN]using h
 |r::a,b,ks,h,h2=>⟨h.1,D3 a b _ h.2 (by rw[gm];exact h2)⟩
def D4:∀(pre:List Ro) (r:Ro) (post:List Ro) (ks:List Kd),l8 ks (pre++r::post)->uf (ks++dN pre) r/\RoS r
 | [],r,post,ks,h=>by
  have:=h.1;rw[show dN []=[]from rfl,eB]
  exact this
 |x::pre,r,post,ks,h=>by
  have:=D4 pre r post _ h.2;rw[gm]at this;exact this
def Mz{rs:List Ro}(h:l8 [] rs):pI rs:=λpre r post e=>by
 subst e;exact D4 pre r post [] h
abbrev cP(k:Kd):Ro:=.kind k.1 k.2
def MA(a b:List Ro):dN (a++b)=dN a++dN b:=by
 unfold dN;rw[fD]
def y9:∀ks:List Kd,dN (ks.map cP)=ks
 | []=>rfl
 |k::ks=>by
  have:=y9 ks;unfold dN at this;show[(k.1,k.2)]++(ks.map cP).flatMap kO=_;rw[this];rfl
def D5:∀(b a:List Kd),((a++b).map (·.1)).Nodup->(∀k∈b,k.2.Nodup/\k.2.length<=100)->l8 a (b.map cP)
 | [],_,_,_=>trivial
 |k::b,a,h,h2=>by
  refine⟨⟨⟨λz=>?_,(h2 k bW).1⟩,(h2 k bW).2⟩,?_⟩
  .rw[bh,gn]at h;exact h.2.2 _ z _ bW rfl
  .refine D5 b _ ?_ λx c=>h2 x (c8 _ c);show((a++[(k.1,k.2)]++b).map (·.1)).Nodup;rw[gm];exact h
abbrev ThD(y:Lay)(kn:L2N)(t:Th):Prop:=(t.1,((t.2.length:Nat):Int))∈y.h/\∀w∈t.2,w∈kn\/w∈y.p
structure PsD(ks:List Kd)(kn:L2N)(ps:List Pr):Prop where
 o:nw (ks.map (·.1)) kn ps
 l:ps.length<=2
structure ItD(y:Lay)(kn:L2N)(its:List Ti)(ov:List Pr):Prop where
 p:PsD y.k kn ov
 l:its.length<=3
 t:∀z∈its,ThD y (kn++vrs ov) z.1
 w:∀z∈its,0<=z.2/\z.2<10 ^ 30
abbrev PaD(y:Lay)(kn:L2N):Pa->Prop
 |.is t=>ThD y kn t
 |.no t=>ThD y kn t
 |.un _ _=>True
 |.ct _ _ its ov=>ItD y kn its ov
abbrev ut(y:Lay):Prop:=∃a b c d:LN×Int,y.h=[a,b,c,d]/\a.2.toNat<=3/\b.2.toNat<=2/\c.2.toNat<=2/\d.2.toNat<=1
def MB(s:Int):ut (gR s).2:=by
 have one:∀(m:Int) s,0<=m->(hdP (.int m) s).2.2.toNat<=m.toNat:=λm s c=>by
  have d:=bJ (br s).1 (k:=4) (by decide);show(if dr (br s).1 4<m then dr (br s).1 4 else m).toNat<=m.toNat
  split <;> lia
 exact⟨_,_,_,_,rfl,one 3 _ (by decide),one 2 _ (by decide),one 2 _ (by decide),one 1 _ (by decide)⟩
def D6(e:kn.Nodup)(s:Int):PsD ks kn (dz ks kn 2 s).2:=by
 refine⟨(uc e 2 s (by decide)).2.1,?_⟩;obtain⟨a,b,c⟩:=yE ks 2 s (by decide);have j:lZ (ks.map (·.1)) kn 0 (nx (nx s),[]):=⟨bz _,⟨by simpa using e,λ_ z=>(cT z).elim,λ_ z=>(cT z).elim⟩,bf _⟩;unfold dz
 by_cases o:0<ks.length
 .obtain⟨q,u,v⟩:=nu (I:=lZ (ks.map (·.1)) kn) (λn p hp=>yD o n p hp) j (prN ks 2 s);have:(2:Int).toNat=2:=rfl;lia
 .rw[c (nG.mp (by lia))];simp[itN]
section
variable{y:Lay}(hy:fg y)
include hy
def MC{kn:L2N}(s:Int):(eM y kn s).2∈kn\/(eM y kn s).2∈y.p:=by
 obtain⟨c,e,j,o⟩:=hy.p;have dp:∀s,dh y.p [] (dr s (y.p.length:Nat))∈y.p:=λs=>jl (bJ s (by lia));unfold eM;split
 .exact .inr (dp _)
 .rename_i h;split
  .exact .inl (jl (bJ _ (by have:=jw.mpr h;lia)))
  .exact .inr (dp _)
def za{kn:L2N}(o:kn.length<=1000)(s:Int):ThD y kn (thP y kn s).2:=by
 obtain⟨q,e⟩:=hy.h;have d:=bJ s (k:=4) (by decide);have c:=jl (L:=y.h) (z:=([],0)) (k:=dr s 4) (by lia);have j:=e _ c;obtain⟨a,b⟩:=kK (F:=eM y kn) (λs=>(t9 hy s o).1) (dh y.h ([],0) (dr s 4)).2.toNat (nx s) (bz _);refine⟨?_,kL (F:=eM y kn) (P:=λw=>w∈kn\/w∈y.p) (λs=>MC hy s) _ _⟩;show((dh y.h ([],0) (dr s 4)).1,(((itP (eM y kn) _ (nx s)).2.length:Nat):Int))∈y.h;rw[b,Int.toNat_of_nonneg j.2.1];exact c
def D7{kn:L2N}(c:kn.Nodup)(e:kn.length<=100){many:Int}(o:0<many/\many<=3)(s:Int):ItD y kn (dG y kn y.k many s).2.1 (dG y kn y.k many s).2.2:=by
 obtain⟨p,q,u,v,A⟩:=pE hy y.k c e o.1 s;have hp:=D6 (ks:=y.k) c s;have j:(kn++vrs (dz y.k kn 2 s).2).length<=1000:=by rw[aJ,av];have:=hp.l;lia
 refine⟨hp,by lia,?_,?_⟩
 .exact kL (F:=itS y (kn++vrs (dz y.k kn 2 s).2)) (P:=λz=>ThD y (kn++vrs (dz y.k kn 2 s).2) z.1) (λs=>za hy j _) _ _
 .refine kL (F:=itS y (kn++vrs (dz y.k kn 2 s).2)) (P:=λz=>0<=z.2/\z.2<10 ^ 30) (λs=>?_) _ _;have:=pq s;show 0<=(if dr (cy s).1 2=0 then (1:Int) else ((cy s).2.natAbs:Int))/\(if dr (cy s).1 2=0 then (1:Int) else ((cy s).2.natAbs:Int))<10 ^ 30;split
  .decide
  .omega
def MD{kn:L2N}(e:kn.Nodup)(c:kn.length<=100)(s:Int):PaD y kn (fh y kn y.k s).2:=by
 unfold fh;split
 .unfold unS;dsimp only
  split <;> trivial
 .split
  .exact D7 hy e c (many:=2) (by decide) (nx s)
  .dsimp only;split
   .exact za hy (by lia) _
   .exact za hy (by lia) _
def ME{kn:L2N}(e:kn.Nodup)(c:kn.length<=100)(s:Int):∀p∈(jm y kn y.k s).2,PaD y kn p:=kL (F:=fh y kn y.k) (λs=>MD hy e c s) _ _
end
structure RwD(y:Lay)(its:List Ti)(ov:List Pr)(bd:List Pa)(ps:List Pr):Prop where
 p:PsD y.k [] ps
 i:ItD y (vrs ps) its ov
 b:∀p∈bd,PaD y (vrs ps) p
 l:bd.length<=3
abbrev uu(s tt lo:Int):Int:=if dr s 2=0 then dr (nx s) 4*tt / 3-dr (nx (nx s)) 2 else lo
abbrev uv(s tt hi:Int):Int:=if dr s 2=0 then dr (nx s) 4*tt / 3-dr (nx (nx s)) 2+dr (nx (nx (nx s))) 4-1 else hi
abbrev rwS(s:Int):Int:=if dr s 2=0 then nx (nx (nx (nx s))) else nx s
abbrev rwQ(y:Lay)(s:Int):Int×List Pr:=dz y.k [] 2 s
abbrev rwB(y:Lay)(s:Int):Int×List Pa:=jm y (vrs (rwQ y s).2) y.k (rwQ y s).1
abbrev rwI(y:Lay)(s:Int):Int×(List Ti×List Pr):=dG y (vrs (rwQ y s).2) y.k 3 (rwB y s).1
abbrev rwL(y:Lay)(s:Int):Int×Int:=cy (rwI y s).1
abbrev rwH(y:Lay)(s:Int):Int×Int:=cy (rwL y s).1
abbrev gB(its:List Ti):Int:=(its.map (·.2)).sum
abbrev jP(y:Lay)(s:Int):Ro:=.choose (uu (rwH y s).1 (gB (rwI y s).2.1) (rwL y s).2) (uv (rwH y s).1 (gB (rwI y s).2.1) (rwH y s).2) (rwI y s).2.1 (rwI y s).2.2 (rwB y s).2 (rwQ y s).2
def zb(j:fg y)(s:Int):RwD y (rwI y s).2.1 (rwI y s).2.2 (rwB y s).2 (rwQ y s).2:=by
 have hp:PsD y.k [] (rwQ y s).2:=D6 (ks:=y.k) (kn:=[]) iu s;have e:(vrs (rwQ y s).2).Nodup:=by simpa using hp.o.nd
 have c:(vrs (rwQ y s).2).length<=100:=by rw[av];have:(rwQ y s).2.length<=2:=hp.l;lia
 exact⟨hp,D7 j e c (by decide) _,ME j e c _,(yH j y.k e c _).2.2⟩
def MF(its:List Ti)(h:∀z∈its,0<=z.2/\z.2<10 ^ 30)(p:its.length<=3):(gB its).natAbs<2 ^ 200:=by
 have:∀l:List Ti,(∀z∈l,0<=z.2/\z.2<10 ^ 30)->0<=gB l/\gB l<=(l.length:Nat)*10 ^ 30:=λl=>by
  induction l with
  |nil=>intro _;exact⟨by decide,by decide⟩
  |cons z l j=>
   intro h;have o:=h z bW;have c:=j λx e=>h x (c8 _ e);unfold gB at c ⊢;rw[cY,sum_cons,bP];lia
 have:=this its h;lia
def MG(v:fg y)(l:Addr)(s:Int)(hs:okS s):m_2 l [] [y.toD] [.int s]=aa ([.int (rwS (rwH y s).1)],(jP y s).toD):=by
 have u:y.k.length<=100:=by have:=v.k.2;lia
 have hd:=zb v s
 have w:wp b_2 [.pin l [.int s],.im y.toD,.no,.no,.no,.no,.no,.no,.no,.no] (λo=>∃A B C E G H I J j,o=.rtS (jP y s).toD [.pin l [.int (rwS (rwH y s).1)],A,B,C,E,G,H,I,J,j]):=by
  unfold b_2 jP;have q1:okS (rwQ y s).1:=(uc (ks:=y.k) (kn:=[]) iu 2 s (by decide)).1;have M:(vrs (rwQ y s).2).Nodup:=by simpa using hd.p.o.nd
  have L:(vrs (rwQ y s).2).length<=100:=by rw[av];have:=hd.p.l;lia
  apply ap;refine eL (d:=.lst ((rwQ y s).2.map prD)) (gj (i:=0) (ρ1:=[.pin l [.int s],.im y.toD,.no,.no,.no,.no,.no,.no,.no,.no]) rfl (bm (aR (ak rfl rfl rfl)) (bm (aR rfl) (bm (aR rfl) rfl))) rfl (C3 l y.k [] u (by simp) iu 2 (by decide) s hs)) ?_;show wp _ [.pin l [.int (rwQ y s).1],.im y.toD,.im (.lst ((rwQ y s).2.map prD)),.no,.no,.no,.no,.no,.no,.no] _;apply ap;refine b8 (d:=.lst ((vrs (rwQ y s).2).map sT)) (bV (t8 (f:=prD) (q:=(·.1)) (bp rfl rfl) (λz=>⟨_,rfl⟩) (by have:=hd.p.l;lia))) ?_;show wp _ [.pin l [.int (rwQ y s).1],.im y.toD,.im (.lst ((rwQ y s).2.map prD)),.im (.lst ((vrs (rwQ y s).2).map sT)),.no,.no,.no,.no,.no,.no] _;have hB:=Lc v l (vrs (rwQ y s).2) y.k u L M (rwQ y s).1 q1;have b1:okS (rwB y s).1:=(yH v y.k M L _).1;have hI:=C4 v l (vrs (rwQ y s).2) y.k u L M 3 (by decide) (rwB y s).1 b1;have i1:okS (rwI y s).1:=(pE v y.k M L (many:=3) (by decide) _).1;apply ap;refine eL (d:=.lst ((rwB y s).2.map Pa.toD)) (gj (i:=0) (ρ1:=[.pin l [.int (rwQ y s).1],.im y.toD,.im (.lst ((rwQ y s).2.map prD)),.im (.lst ((vrs (rwQ y s).2).map sT)),.no,.no,.no,.no,.no,.no]) rfl (bm (aR rfl) (bm (aR rfl) (bm (aR (ak rfl rfl rfl)) rfl))) rfl hB) ?_;show wp _ [.pin l [.int (rwB y s).1],.im y.toD,.im (.lst ((rwQ y s).2.map prD)),.im (.lst ((vrs (rwQ y s).2).map sT)),.im (.lst ((rwB y s).2.map Pa.toD)),.no,.no,.no,.no,.no] _;apply ap;refine wv (d:=.tup [.lst ((rwI y s).2.1.map bC),.lst ((rwI y s).2.2.map prD)]) (gj (i:=0) (ρ1:=[.pin l [.int (rwB y s).1],.im y.toD,.im (.lst ((rwQ y s).2.map prD)),.im (.lst ((vrs (rwQ y s).2).map sT)),.im (.lst ((rwB y s).2.map Pa.toD)),.no,.no,.no,.no,.no]) rfl (bm (aR rfl) (bm (aR rfl) (bm (aR (ak rfl rfl rfl)) (bm (aR rfl) rfl)))) rfl hI) rfl ?_;have Y:=MF (rwI y s).2.1 hd.i.w hd.i.l;have Q:=hd.i.l;show wp _ [.pin l [.int (rwI y s).1],.im y.toD,.im (.lst ((rwQ y s).2.map prD)),.im (.lst ((vrs (rwQ y s).2).map sT)),.im (.lst ((rwB y s).2.map Pa.toD)),.im (.lst ((rwI y s).2.1.map bC)),.im (.lst ((rwI y s).2.2.map prD)),.no,.no,.no] _;have l1:okS (rwL y s).1:=(pq _).1;have U:okS (rwH y s).1:=(pq _).1;apply ap;refine eL (ud l (rwI y s).1 _ i1) ?_;show wp _ [.pin l [.int (rwL y s).1],.im y.toD,.im (.lst ((rwQ y s).2.map prD)),.im (.lst ((vrs (rwQ y s).2).map sT)),.im (.lst ((rwB y s).2.map Pa.toD)),.im (.lst ((rwI y s).2.1.map bC)),.im (.lst ((rwI y s).2.2.map prD)),.im (.int (rwL y s).2),.no,.no] _;apply ap;refine eL (ud l (rwL y s).1 _ l1) ?_;show wp _ [.pin l [.int (rwH y s).1],.im y.toD,.im (.lst ((rwQ y s).2.map prD)),.im (.lst ((vrs (rwQ y s).2).map sT)),.im (.lst ((rwB y s).2.map Pa.toD)),.im (.lst ((rwI y s).2.1.map bC)),.im (.lst ((rwI y s).2.2.map prD)),.im (.int (rwL y s).2),.im (.int (rwH y s).2),.no] _;generalize (rwH y s).1=c at U;generalize (rwL y s).2=lo;generalize (rwH y s).2=hi;generalize (rwI y s).2.2=ov;generalize (rwI y s).2.1=its at Y Q;generalize (rwB y s).2=bd;generalize (rwQ y s).2=ps
  have N:∀(s' a b:Int) (j:Sl),wp (fJ (bG (af (kSt "choose") (af (ae 7) (af (ae 8) (af (ae 5) (af (ae 6) (af (ae 4) (af (ae 2) nZ)))))))))
    [.pin l [.int s'],.im y.toD,.im (.lst (ps.map prD)),.im (.lst ((vrs ps).map sT)),.im (.lst (bd.map Pa.toD)),.im (.lst (its.map bC)),.im (.lst (ov.map prD)),.im (.int a),.im (.int b),j]
    (λo=>∃A B C E G H I J j,o=.rtS (Ro.choose a b its ov bd ps).toD [.pin l [.int s'],A,B,C,E,G,H,I,J,j]):=λs' a b j=>ib (cv (ai rfl (ai rfl (ai rfl (ai rfl (ai rfl (ai rfl (ai rfl rfl)))))))) ⟨_,_,_,_,_,_,_,_,_,rfl⟩
  refine km (λρ=>∃j,ρ=[.pin l [.int (rwS c)],.im y.toD,.im (.lst (ps.map prD)),.im (.lst ((vrs ps).map sT)),.im (.lst (bd.map Pa.toD)),.im (.lst (its.map bC)),.im (.lst (ov.map prD)),.im (.int (uu c (gB its) lo)),.im (.int (uv c (gB its) hi)),j]) ?_ (λρ' ⟨j,e⟩=>by subst e;exact N _ _ _ _);unfold rwS uu uv;refine pj (b:=decide (dr c 2=0)) (bxX (cE (dg l c 2 _ rfl U (by decide)) (aR rfl) (jE _ _))) (λe=>?_) λe=>bA ?_
  .have e:=of_decide_eq_true e;rw[if_pos e,if_pos e,if_pos e];have n1:=bz c;have d1:=bJ (nx c) (k:=4) (by decide);apply ap
   have T:∀ρ:LS,ρ[5]?=aa (.im (.lst (its.map bC)))->bv 1 [] (be (ae 5)) (aB 0) kY (mIx (am 0) (kI 1)) ρ=aa ((its.map (·.2)).map D.int):=λρ h=>by
    rw[map_map];refine fq its bC (D.int ∘ (·.2)) (bp (d:=.lst (its.map bC)) (by unfold ae;rw[h]) rfl) (by lia) λz _=>?_;exact eW (ρ1:=[.im (bC z)]) rfl rfl (ak rfl rfl rfl)
   refine b8 (d:=.int (gB its)) (aN (ai (bV (ds:=(its.map (·.2)).map D.int) (T _ rfl)) rfl) AZ) ?_;show wp _ [.pin l [.int (nx c)],.im y.toD,.im (.lst (ps.map prD)),.im (.lst ((vrs ps).map sT)),.im (.lst (bd.map Pa.toD)),.im (.lst (its.map bC)),.im (.lst (ov.map prD)),.im (.int lo),.im (.int hi),.im (.int (gB its))] _;apply ap;refine eL (d:=.int (dr (nx c) 4*gB its / 3-dr (nx (nx c)) 2)) (cE (cE (cE (dg l (nx c) 4 _ rfl n1 (by decide)) (aR rfl) (jc (.inr ⟨by lia,Y⟩))) (aR rfl) (rR ⟨by decide,by decide⟩)) (dg l (nx (nx c)) 2 _ rfl (bz _) (by decide)) iG) ?_;refine eL (d:=.int (dr (nx c) 4*gB its / 3-dr (nx (nx c)) 2+dr (nx (nx (nx c))) 4-1)) (cE (cE (aR rfl) (dg l (nx (nx (nx c))) 4 _ rfl (bz _) (by decide)) gh) (aR rfl) iG) (k_J ⟨_,rfl⟩)
  .have e:=of_decide_eq_false e;rw[if_neg e,if_neg e,if_neg e];exact k_J ⟨_,rfl⟩
 obtain⟨o,e,A,B,C,E,G,H,I,J,j,rfl⟩:=w;exact ic e rfl
abbrev zc(s:Int):List Ro:=(gR s).2.k.map cP++[jP (gR s).2 (gR s).1]
def MH(s:Int)(o:okS s):pi [.int s]=aa (.lst ((zc s).map Ro.toD)):=by
 obtain⟨e,c⟩:=CZ s;apply b9;unfold sZ zc;show wp _ [.im (.int s),.no,.no,.no] _;apply ap;refine dW (d:=[.int s]) (ai rfl rfl) ?_;apply ap;refine eL (yr (xs:=[.int s]) rfl rfl rfl λl=>K3 l _ o) ?_;generalize gR s=q at e c;obtain⟨s1,y⟩:=q;show wp _ [.im (.int s),.own [.int s1],.im y.toD,.no] _;have j:y.k.length<=3:=c.k.2;apply ap;refine dW (d:=(y.k.map cP).map Ro.toD) (by rw[map_map];exact fq y.k kdD _ (bp (ak rfl rfl rfl) rfl) (by lia) λk _=>eW rfl rfl (cv (ai rfl (ai rfl (ai (bV rfl) rfl))))) ?_;show wp _ [.im (.int s),.own [.int s1],.im y.toD,.own ((y.k.map cP).map Ro.toD)] _;apply ap;refine pw (xs0:=(y.k.map cP).map Ro.toD) (xs:=(y.k.map cP).map Ro.toD) rfl (yr (xs:=[.int s1]) rfl (bm (aR rfl) rfl) rfl λl=>MG c l s1 e) rfl (by rw[av,av];lia) ?_;refine ko rfl (iF ?_);rw[bh];rfl
def MI{c:Type}{g:c->D}{xs:List c}{a b:Int}(e:f ρ=aa (.lst (xs.map g)))(j:l ρ=aa (aa a))(o:h ρ=aa (aa b))(p:0<=a)(q:0<=b):mSl f l h ρ=aa (((xs.take b.toNat).drop a.toNat).map g):=by
 rw[rT e j o];obtain⟨n,rfl⟩:=Int.eq_ofNat_of_zero_le p;obtain⟨m,rfl⟩:=Int.eq_ofNat_of_zero_le q;rw[HT.sIx_nat,HT.sIx_nat]
 congr 1
 rw[gT,gT,drop_take]
 by_cases v:n<=xs.length
 .rw[Nat.min_eq_left v]
  by_cases u:m<=xs.length
  .rw[Nat.min_eq_left u]
  .rw[Nat.min_eq_right (by lia),kU (by rw[mh];lia),kU (by rw[mh];lia)]
 .rw[Nat.min_eq_right (show xs.length<=n by lia),drop_length,drop_of_length_le (by lia),take_nil,take_nil]
def D8(ws:L2N)(n:Nat):dU (n+2) (.lst (ws.map sT)):=λx c=>by
 obtain⟨w,_,rfl⟩:=bT.mp c;rfl
structure NmD(y:Lay)(vs:L2N)(n:As):Prop where
 k:n.map (·.1)=vs
 v:∀p∈n,p.2∈y.p
def MJ(h:NmD y vs n)(j:w∈vs\/w∈y.p):nmF n w∈y.p:=by
 unfold nmF
 cases c:n.find? (λp=>decide (p.1=w))with
 |some p=>exact h.v p (mem_of_find?_eq_some c)
 |none=>
  refine j.resolve_left λz=>?_;rw[<- h.k]at z;obtain⟨p,hp,e⟩:=bT.mp z;exact p5.mp c p hp (decide_eq_true e)
def zd(b:Nat):∀(S:List L2N),(∀ns∈S,ns.length<=b)->(dO S.reverse).length<=b ^ S.length
 | [],_=>bf _
 |ns::S,h=>by
  rw[gl,kP,pJ,bP,Nat.pow_succ];exact Nat.mul_le_mul (zd b S λm c=>h m (c8 _ c)) (h ns bW)
def D9:∀(S:List L2N),∀w∈dO S.reverse,∀x∈w,∃ns∈S,x∈ns
 | [],w,hw,x,hx=>by cases bN.mp hw;exact(cT hx).elim
 |ns::S,w,hw,x,hx=>by
  rw[gl,kP]at hw;obtain⟨v,q,c⟩:=fX.mp hw;obtain⟨n,p,rfl⟩:=bT.mp c
  rcases dB.mp hx with e |e
  .obtain⟨u,o,j⟩:=D9 S v q x e;exact⟨u,c8 _ o,j⟩
  .rw[bN.mp e];exact⟨ns,bW,p⟩
def Ea(p:L2N):∀ws:L2N,(∀w∈ws,w∈p)->ws.reverse∈dO (fV ws.length p)
 | [],_=>bN.mpr rfl
 |w::ws,h=>by
  rw[gl,bP,replicate_succ',kP];exact fX.mpr ⟨_,Ea p ws λx c=>h x (c8 _ c),bT.mpr ⟨w,h w bW,rfl⟩⟩
def MK(p ws:L2N)(h:∀w∈ws,w∈p):ws∈dO (fV ws.length p):=by
 have:=Ea p ws.reverse λw c=>h w (k8.mp c)
 rwa [kX,jv]at this
abbrev gS(y:Lay):L2N:=y.h.flatMap λx=>(dO (fV x.2.toNat y.p)).map λws=>thT (x.1,ws)
section
variable{y:Lay}(hy:fg y)
include hy
def ML(z:ut y):(gS y).length<=60:=by
 obtain⟨a,b,c,d,e,o,q,u,v⟩:=z;have hp:=hy.p.2.2.2
 have j:∀k m:Nat,k<=m->(dO (fV k y.p)).length<=3 ^ m:=λk m h=>by
  have:=zd 3 (fV k y.p) λns A=>by rw[(mem_replicate.mp A).2];exact hp
  rw[reverse_replicate,kW]at this;exact dC this (uG (by decide) h)
 have B:=j _ _ o;have C:=j _ _ q;have E:=j _ _ u;have G:=j _ _ v;unfold gS;rw[e];simp only[iU,flatMap_nil,aJ,av,length_nil];lia
def nB{vs:L2N}{n:As}{t:Th}(h:NmD y vs n)(j:ThD y vs t):jq n t/\tT n t∈gS y:=by
 have q:=hy.h.2 _ j.1
 have e:∀w∈t.2.map (nmF n),w∈y.p:=λw o=>by
  obtain⟨x,u,rfl⟩:=bT.mp o;exact MJ h (j.2 x u)
 refine⟨⟨(pG q.1).1,?_,λw o=>?_⟩,?_⟩
 .show(t.2.map (nmF n)).length<=3;rw[av];have:((t.2.length:Nat):Int)<=3:=q.2.2;lia
 .have c:=hy.p.2.1 w (e w o);refine⟨?_,(pG c).1⟩;unfold fA made at c;simp only[cS,decide_eq_true_eq]at c;exact c.1.1.1
 .refine fX.mpr ⟨_,j.1,bT.mpr ⟨t.2.map (nmF n),?_,rfl⟩⟩;have:=MK y.p _ e
  rwa [av]at this
def ze{k:LN}(j:k∈y.k.map (·.1)):0<(kOf y.k k).length/\(kOf y.k k).length<=3/\∀w∈kOf y.k k,w∈y.p:=by
 obtain⟨q,_,e,o⟩:=Dm j;obtain⟨a,b,c⟩:=hy.k.1.ns q o;rw[e];refine⟨jw.mpr b,?_,c⟩;have:=uE a (λw u=>c w u);have:=hy.p.2.2.2;lia
def pO{kn:L2N}{ps:List Pr}(h:PsD y.k kn ps):PsK y.k ps:=⟨h.o.kd,λp hp=>by have:=ze hy (h.o.kd p hp);lia,by have:=h.l;lia⟩
def Eb{vs:L2N}{n:As}{ov:List Pr}(h:NmD y vs n)(hp:PsD y.k vs ov):(nbw y.k ov n).length<=9/\∀m∈nbw y.k ov n,NmD y (vs++vrs ov) m:=by
 have B:=pO hy hp
 have j:∀w∈dO (psN y.k ov),∀x∈w,x∈y.p:=λw q x E=>by
  have:=D9 (psN y.k ov).reverse w (by rw[kX];exact q) x E;obtain⟨ns,u,z⟩:=this;obtain⟨p,c,rfl⟩:=bT.mp (k8.mp u);exact(ze hy (hp.o.kd p c)).2.2 x z
 constructor
 .unfold nbw;rw[av]
  have:=zd 3 (psN y.k ov).reverse λns u=>by
   obtain⟨p,c,rfl⟩:=bT.mp (k8.mp u);exact(ze hy (hp.o.kd p c)).2.1
  rw[kX,jv]at this;have A:(psN y.k ov).length<=2:=by unfold psN;rw[av];exact hp.l
  exact dC this (uG (by decide) A)
 .intro m C;obtain⟨w,q,rfl⟩:=bT.mp C;have A:=(pK B).2 w q;refine⟨?_,λp c=>?_⟩
  .rw[bh,h.k,mi (by rw[av];lia)]
  .rcases dB.mp c with e |e
   .exact h.v p e
   .exact j w q p.2 (of_mem_zip e).2
def Ec{c j:Type}(f:c->List j)(b:Nat):∀l:List c,(∀x∈l,(f x).length<=b)->(l.flatMap f).length<=l.length*b:=λl=>by
 induction l with
 |nil=>intro _;simp
 |cons x l e=>
  intro h;rw[iU,aJ,bP,ml];have:=h x bW;have:=e λz hz=>h z (c8 _ hz);lia
def Ed{vs:L2N}{n:As}{its:List Ti}{ov:List Pr}(h:NmD y vs n)(hi:ItD y vs its ov):ItK y.k n its ov/\(itF y.k ov n its).length<=27/\∀z∈itF y.k ov n its,z.1∈gS y:=by
 obtain⟨v,nm⟩:=Eb hy h hi.p;have j:=hi.l
 have q:(itF y.k ov n its).length<=27:=by
  have:=Ec hy (λz:Ti=>(nbw y.k ov n).map λm=>(tT m z.1,z.2)) 9 its λz _=>by rw[av];exact v
  unfold itF;have e:=uH 9 j;lia
 refine⟨⟨pO hy hi.p,by rw[h.k];exact hi.p.o.nd,λz hz m c=>(nB hy (nm m c) (hi.t z hz)).1,by lia,by lia⟩,q,λz hz=>?_⟩;obtain⟨x,u,e⟩:=fX.mp hz;obtain⟨m,c,rfl⟩:=bT.mp e;exact(nB hy (nm m c) (hi.t x u)).2
def Ee{vs:L2N}{n:As}(h:NmD y vs n)(p:Pa)(hp:PaD y vs p):PaK y.k n p/\(isU p=ag->(ppT (ppF y.k n p)).length<=27/\∀t∈ppT (ppF y.k n p),t∈gS y):=by
 cases p with
 |is t=>exact⟨(nB hy h hp).1,λ_=>⟨by simp[ppF,ppT],λx j=>by rw[bN.mp (show x∈[tT n t]from j)];exact(nB hy h hp).2⟩⟩
 |no t=>exact⟨(nB hy h hp).1,λ_=>⟨by simp[ppF,ppT],λx j=>by rw[bN.mp (show x∈[tT n t]from j)];exact(nB hy h hp).2⟩⟩
 |un a b=>exact⟨trivial,λe=>nomatch e⟩
 |ct w k its ov=>
  obtain⟨a,b,c⟩:=Ed hy h hp;refine⟨a,λ_=>⟨by show((itF y.k ov n its).map (·.1)).length<=27;rw[av];exact b,λt o=>?_⟩⟩;obtain⟨z,hz,rfl⟩:=bT.mp (show t∈(itF y.k ov n its).map (·.1)from o);exact c z hz
structure WyK(y:Lay)(n:As)(lo hi:Int)(its:List Ti)(ov:List Pr)(bd:List Pa):Prop where
 i:ItK y.k n its ov
 b:∀p∈bd,PaK y.k n p
 t:∀p∈bdF y.k n bd,(ppT p).length<=27/\∀t∈ppT p,t∈gS y
 j:(itF y.k ov n its).length<=27/\∀z∈itF y.k ov n its,z.1∈gS y
 r:∀r∈chF lo hi (itF y.k ov n its) (bdF y.k n bd),r.b.length<=1000/\(∀p∈r.b,(ppT p).length<=1000)/\∀t∈prT r,t∈gS y
def MM{n:As}{its:List Ti}{ov:List Pr}{bd:List Pa}{ps:List Pr}(A:RwD y its ov bd ps)(C:NmD y (vrs ps) n)(lo hi:Int):WyK y n lo hi its ov bd:=by
 obtain⟨a,b,c⟩:=Ed hy C A.i
 have o:∀p∈bdF y.k n bd,(ppT p).length<=27/\∀t∈ppT p,t∈gS y:=λp hp=>by
  unfold bdF at hp;obtain⟨q,v,rfl⟩:=bT.mp hp;obtain⟨G,j⟩:=k9.mp v;exact(Ee hy C q (A.b q G)).2 (by simpa using j)
 have H:(bdF y.k n bd).length<=3:=by
  unfold bdF;rw[av];exact dC (me _ _) A.l
 refine⟨a,λp hp=>(Ee hy C p (A.b p hp)).1,o,⟨b,c⟩,λr E=>?_⟩
 have B:∀w k,(ppT (.c w k (itF y.k ov n its))).length<=1000/\∀t∈ppT (.c w k (itF y.k ov n its)),t∈gS y:=λw k=>⟨by show((itF y.k ov n its).map (·.1)).length<=1000;rw[av];lia,λt u=>by
  obtain⟨z,hz,rfl⟩:=bT.mp (show t∈(itF y.k ov n its).map (·.1)from u);exact c z hz⟩
 have two:∀(w:Bool) (k:Int),(bdF y.k n bd++[PP.c w k (itF y.k ov n its)]).length<=1000/\(∀p∈bdF y.k n bd++[PP.c w k (itF y.k ov n its)],(ppT p).length<=1000)/\∀t∈prT (PR.mk "never" ab (bdF y.k n bd++[PP.c w k (itF y.k ov n its)])),t∈gS y:=λw k=>by
  have v:∀p∈bdF y.k n bd++[PP.c w k (itF y.k ov n its)],(ppT p).length<=1000/\∀t∈ppT p,t∈gS y:=λp hp=>by
   rcases dB.mp hp with e |e
   .exact⟨by have:=(o p e).1;lia,(o p e).2⟩
   .rw[bN.mp e];exact B w k
  refine⟨by rw[aJ,eZ];lia,λp hp=>(v p hp).1,λt u=>?_⟩;obtain⟨p,hp,j⟩:=fX.mp (show t∈(bdF y.k n bd++[PP.c w k (itF y.k ov n its)]).flatMap ppT from u);exact(v p hp).2 t j
 rcases dB.mp E with e |e
 .obtain⟨z,hz,rfl⟩:=bT.mp e;refine⟨by show(bdF y.k n bd).length<=1000;lia,λp hp=>by have:=(o p hp).1;lia,λt u=>?_⟩
  rcases dB.mp (show t∈[z.1]++(bdF y.k n bd).flatMap ppT from u)with q |q
  .rw[bN.mp q];exact c z hz
  .obtain⟨p,hp,j⟩:=fX.mp q;exact(o p hp).2 t j
 .rcases bX.mp e with e |e
  .rw[e];exact two ag (lo-1)
  .rw[bN.mp e];exact two ac (hi+1)
end
variable{n:Nat}
def iR(h:∀d∈ds,dU n d):dU (n+1) (.tup ds):=h
def nC{c:Type}(f:c->D)(l:List c)(h:∀x,dU n (f x)):dU (n+1) (.lst (l.map f)):=λd hd=>by
 obtain⟨x,_,rfl⟩:=bT.mp hd;exact h x
abbrev Ef(P:D->Prop):LD->Prop
 | []=>True
 | [d]=>P d
 |d::e::ds=>P d/\Ef P (e::ds)
def ik{n:Nat}{P:D->Prop}:∀{ds:LD},Ef P ds->∀d∈ds,P d
 | [],_,d,hd=>(cT hd).elim
 | [x],h,d,hd=>by rw[bN.mp hd];exact h
 |x::e::ds,h,d,hd=>by
  rcases bX.mp hd with q |q
  .rw[q];exact h.1
  .exact ik (n:=n) h.2 d q
def uw(t:Th):dU 10 (kdD t):=iR (ik (n:=0) ⟨rfl,D8 t.2 7⟩)
def pP(ps:List Pr):dU 10 (.lst (ps.map prD)):=nC prD ps λp=>iR (ik (n:=0) ⟨rfl,rfl⟩)
def Eg(its:List Ti):dU 12 (.lst (its.map bC)):=nC bC its λz=>iR (ik (n:=0) ⟨uw z.1,rfl⟩)
def zf:∀(n:Nat) (d:D),dU n d->dU (n+1) d
 | 0,_,h=>h.elim
 |n+1,d,h=>by
  cases d with
  |lst xs=>exact λx c=>zf n x (h x c)
  |tup xs=>exact λx c=>zf n x (h x c)
  | _=>exact h
def gC{m:Nat}(h:n<=m)(p:dU n d):dU m d:=by
 induction h with
 |refl=>exact p
 |step _ c=>exact zf _ _ c
def zg(p:Pa):dU 15 p.toD:=by
 cases p with
 |is t=>exact iR (ik (n:=0) ⟨rfl,gC (by decide) (uw t)⟩)
 |no t=>exact iR (ik (n:=0) ⟨rfl,gC (by decide) (uw t)⟩)
 |un a b=>exact iR (ik (n:=0) ⟨rfl,rfl,rfl⟩)
 |ct w k its ov=>exact iR (ik (n:=0) ⟨rfl,rfl,gC (by decide) (Eg its),gC (by decide) (pP ov)⟩)
def MN(r:Ro):dU 18 r.toD:=by
 cases r with
 |kind n ns=>exact iR (ik (n:=0) ⟨rfl,rfl,D8 ns 15⟩)
 |rule b t bd ps=>exact iR (ik (n:=0) ⟨rfl,gC (by decide) (uw t),gC (by decide) (nC Pa.toD bd zg),gC (by decide) (pP ps)⟩)
 |choose lo hi its ov bd ps=>exact iR (ik (n:=0) ⟨rfl,rfl,rfl,gC (by decide) (Eg its),gC (by decide) (pP ov),gC (by decide) (nC Pa.toD bd zg),gC (by decide) (pP ps)⟩)
 |never bd ps=>exact iR (ik (n:=0) ⟨rfl,gC (by decide) (nC Pa.toD bd zg),gC (by decide) (pP ps)⟩)
def MO(rs:List Ro):dU 20 (.lst (rs.map Ro.toD)):=gC (by decide) (nC Ro.toD rs MN)
def MP(y:Lay)(r:Ro)(c:gA r=ag):dN (y.k.map cP++[r])=y.k:=by
 rw[MA,y9]
 have:dN [r]=[]:=by cases r <;> first |rfl |nomatch c
 rw[this,eB]
def MQ(y:Lay)(r:Ro)(e:gA r=ag):rsF y.k (y.k.map cP++[r])=rwF y.k r:=by
 unfold rsF;rw[fD]
 have c:∀l:List Kd,(l.map cP).flatMap (λr=>if gA r then [] else rwF y.k r)=[]:=λl=>by
  induction l with
  |nil=>rfl
  |cons k l j=>rw[cY,iU,j];rfl
 rw[c,nil_append,flatMap_singleton,e];rfl
def MR(j:fg y)(p:Pa)(q:kn.Nodup)(h:PaD y kn p)(o:kM (y.k.map (·.1)) kn p):PaS p:=by
 have c:∀{vs:L2N} {t:Th},ThD y vs t->t.2.length<=100:=λ{vs t} e=>by
  have:((t.2.length:Nat):Int)<=3:=(j.h.2 _ e.1).2.2;lia
 cases p with
 |is t=>exact c h
 |no t=>exact c h
 |un a b=>trivial
 |ct w k its ov=>exact⟨by have:=h.l;lia,λz hz=>c (h.t z hz)⟩
def MS(c:fg y)(s:Int):pB (y.k.map (·.1)) (jP y s)/\RoS (jP y s):=by
 have hd:=zb c s;have e:(vrs (rwQ y s).2).Nodup:=by simpa using hd.p.o.nd
 have q:(vrs (rwQ y s).2).length<=100:=by rw[av];have:=hd.p.l;lia
 obtain⟨B,u,v,A,C⟩:=pE c y.k e q (many:=3) (by decide) (rwB y s).1;have j:∀p∈(rwB y s).2,kM (y.k.map (·.1)) (vrs (rwQ y s).2) p:=(yH c y.k e q (rwQ y s).1).2.1;have E:=hd.l;have hi:=hd.i.l;have hp:=hd.p.l;refine⟨⟨⟨hd.p.o,by lia⟩,⟨⟨u,A⟩,v⟩,j⟩,⟨by lia,λz hz=>?_⟩,by lia,λp hp=>MR c p e (hd.b p hp) (j p hp)⟩;have:((z.1.2.length:Nat):Int)<=3:=(c.h.2 _ (hd.i.t z hz).1).2.2;lia
def MT(c:fg y)(s:Int):pI (y.k.map cP++[jP y s]):=by
 apply Mz;refine D3 _ _ _ (D5 y.k [] (by simpa using c.k.1.nd) λk e=>?_) ?_
 .have h:=c.k.1.ns k e;have:=uE h.1 (λw j=>h.2.2 w j);have:=c.p.2.2.2;exact⟨h.1,by lia⟩
 .rw[y9,nil_append];exact⟨MS c s,trivial⟩
def MU(B:fg y)(hb:ut y)(lo hi:Int)(its:List Ti)(ov:List Pr)(bd:List Pa)(ps:List Pr)(C:RwD y its ov bd ps)(T:pI (y.k.map cP++[Ro.choose lo hi its ov bd ps])):
  PlK (y.k.map cP++[Ro.choose lo hi its ov bd ps])/\plR (y.k.map cP++[Ro.choose lo hi its ov bd ps])=rwF y.k (Ro.choose lo hi its ov bd ps)/\∀n∈nbw y.k ps [],NmD y (vrs ps) n/\WyK y n lo hi its ov bd:=by
 generalize v:Ro.choose lo hi its ov bd ps=R at T;have E:gA R=ag:=by rw[<- v];rfl
 have M:=MP y R E;have hS:=MQ y R E;have n0:NmD y [] []:=⟨rfl,λ_ z=>(cT z).elim⟩;have A:=Eb B n0 C.p;rw[nil_append]at A;have G:∀n∈nbw y.k ps [],NmD y (vrs ps) n/\WyK y n lo hi its ov bd:=λn q=>⟨A.2 n q,MM B C (A.2 n q) lo hi⟩;have L:plR (y.k.map cP++[R])=rwF y.k R:=by unfold plR;rw[M,hS]
 have H:∀r∈rwF y.k R,∃n∈nbw y.k ps [],r∈chF lo hi (itF y.k ov n its) (bdF y.k n bd):=λr h=>by
  subst v;obtain⟨n,q,u⟩:=fX.mp h;exact⟨n,(k9.mp q).1,u⟩
 have hkl:=B.k.2;refine⟨⟨T,by rw[aJ,av,eZ];lia,by rw[M];exact B.k.1.nd,λr c N=>?_,?_,λr c=>?_,?_⟩,L,G⟩
 .have:r=R:=by
   rcases dB.mp c with e |e
   .obtain⟨k,_,rfl⟩:=bT.mp e
    nomatch N
   .exact bN.mp e
  subst this;subst v;rw[M];have hl:=C.l;refine⟨pO B C.p,by have:=C.p.o.nd;rw[nil_append]at this;exact this,by show bd.length<=1000;lia,λn q _=>?_⟩;obtain⟨U,u⟩:=G n q;refine⟨⟨u.i,by lia,u.b⟩,?_⟩;have:=congrArg e6 U.k;rw[av,av]at this;have:=C.p.l;lia
 .rw[L];subst v;have h9:=A.1;have hf:((nbw y.k ps []).filter λn=>!bM n bd).length<=9:=dC (me _ _) h9
  have:=Ec B (λn=>rbF y.k n (.choose lo hi its ov bd ps)) 29 ((nbw y.k ps []).filter λn=>!bM n bd) λn q=>by
   have:=(G n (k9.mp q).1).2.j.1;show(chF lo hi (itF y.k ov n its) (bdF y.k n bd)).length<=29;unfold chF;rw[aJ,av];show _+2<=29;lia
  have u:=uH 29 hf;show(((nbw y.k ps []).filter λn=>!bM n bd).flatMap λn=>rbF y.k n (.choose lo hi its ov bd ps)).length<=400;lia
 .rw[L]at c;obtain⟨n,q,u⟩:=H r c;have:=(G n q).2.r r u;exact⟨this.1,this.2.1⟩
 .have I:∀t∈plT (y.k.map cP++[R]),t∈gS y:=λt J=>by
   unfold plT at J;rw[L]at J;have:=((l7 ((rwF y.k R).flatMap prT) [] iu).2.1 t).mp J
   rcases this with e |e
   .exact(cT e).elim
   .obtain⟨r,c,u⟩:=fX.mp e;obtain⟨n,q,Y⟩:=H r c;exact((G n q).2.r r Y).2.2 t u
  have Q:(plT (y.k.map cP++[R])).Nodup:=(l7 _ [] iu).1;have:=uE Q (λt J=>I t J);have:=ML B hb;lia
def MV{c:Type}{f:MF2}{g:c->D}{xs:List c}(d:c)(e:f ρ=aa [.kl (xs.map g)]):jG f ρ=aa ((ci xs.length).map λi=>D.tup [.int (i:Nat),g (xs.getD i d)]):=by
 unfold jG;rw[e,<- Bm];rfl
def MW(ns:List Int)(many:Int)(J:0<many/\many<=6):∃j:List Int,j.length=many.toNat/\(∀s∈j,okS s)/\xK [.kl (ns.map D.int),.int many]=aa (.lst (j.map D.int)):=by
 have w:wp s9 [.im (.kl (ns.map D.int)),.im (.int many),.no,.no,.no,.no] (mR λd=>∃j:List Int,d=.lst (j.map D.int)/\j.length=many.toNat/\∀s∈j,okS s):=by
  generalize G:D.kl _=v;apply ap
  have T:bv 1 [] (gL (af (ae 1) nZ)) (aB 0) kY (m2 cN (m2 gO (ae 0) (kI 7368787)) (kI 1000003)) [.im v,.im (.int many),.no,.no,.no,.no]=aa (((ci many.toNat).map λ(k:Nat)=>(k:Int)*7368787+1000003).map D.int):=by
   rw[map_map];refine fq _ (λ(i:Nat)=>D.int i) _ ?_ (by rw[dP];lia) λi hi=>?_
   .unfold gL;rw[show af _ _ _=aa _ from rfl,aC,t5 _ (by lia) (by lia)]
   .have U:=iq.mp hi;exact eW rfl rfl (ao (ao rfl rfl (jc (.inl (.inr ⟨by decide,by decide⟩)))) rfl gh)
  refine dW T ?_;apply ap;refine cK _ _ (λ_ ρ=>∃(j:List Int) (A B C:Sl),(j.length=many.toNat/\∀s∈j,okS s)/\ρ=[.im v,.im _,.own (j.map D.int),A,B,C]) (by subst G;exact MV 0 rfl) ⟨_,_,_,_,⟨by rw[av,dP],λs o=>?_⟩,rfl⟩ ?_ ?_
  .obtain⟨k,Y,rfl⟩:=bT.mp o;have:=iq.mp Y;unfold okS;lia
  .rintro pre i post ρ he ⟨j,A,B,C,⟨p,o⟩,rfl⟩;refine⟨_,rfl,?_⟩;generalize ns.getD i 0=c;have H:0<=i % many/\i % many<many:=⟨Int.emod_nonneg _ (by lia),uA _ J.1⟩;have E:∀(M N:Sl),m2 i3 (ae 3) (ae 1) [.im v,.im _,.own (j.map D.int),.im _,M,N]=aa (.int (i % many)):=λ_ _=>ao rfl rfl (lM J.1);generalize _ % many=q at H E;have u:q.toNat<j.length:=by lia
   have I:atI (j.map D.int) q=aa (.int j[q.toNat]):=by
    unfold atI ixN;rw[if_pos H.1,if_pos (by rw[av];lia),aC,d7,cr u];rfl
   have L:=o _ (ju u);unfold okS at L;generalize j[q.toNat]=s at I L;apply ap;refine b8 (ao (ao (ak rfl (E _ _) I) rfl (jc (.inr ⟨by lia,by decide⟩))) (ao rfl (ao rfl rfl (rS (by decide))) (lM (by decide))) gh) ?_;refine Hs (ao (ao rfl rfl gh) (ao (ao rfl rfl (rS (by decide))) rfl iG) (lM (by decide))) (E _ _) rfl H.1 (by rw[av];lia) ?_;refine⟨j.set q.toNat ((s*1000003+c % 10 ^ 30+i) % (2 ^ 61-1)),.im (.int i),.im (.int c),.im (.int (s*1000003+c % 10 ^ 30)),⟨by rw[length_set];exact p,λz hz=>?_⟩,?_⟩
   .rcases mem_or_eq_of_mem_set hz with e |e
    .exact o z e
    .have Q:=Int.emod_nonneg (s*1000003+c % 10 ^ 30+i) (show(2 ^ 61-1:Int)≠0 by decide);rw[e];exact⟨Q,(uA _ (show _<2 ^ 61-1 by decide))⟩
   .rw[map_set];rfl
  .rintro ρ ⟨j,A,B,C,⟨p,o⟩,rfl⟩;exact ko rfl (iF ⟨j,rfl,p,o⟩)
 obtain⟨d,e,j,rfl,p,o⟩:=Bk (n:=6) (ds:=[.kl _,.int many]) w;exact⟨j,p,o,e⟩
def MX{c:Type}(A:List c)(x:c):atI (A++[x]) (-1)=aa x:=by
 unfold atI ixN;rw[if_neg (by decide),if_pos (by rw[aJ];simp;lia),aC,aJ,show((-1:Int)+((A.length + [x].length:Nat):Int)).toNat=A.length by simp;lia,iT (by lia),Nat.sub_self];rfl
abbrev blk(F:Nat->As)(g:As->Bool)(B:As->List PR)(l:LN):List PR:=((l.map F).filter g).flatMap B
def MY(F:Nat->As)(g:As->Bool)(B:As->List PR)(a b:LN):blk F g B (a++b)=blk F g B a++blk F g B b:=by
 unfold blk;rw[bh,nJ,fD]
def MZ(F:Nat->As)(g:As->Bool)(B:As->List PR)(i:Nat):blk F g B [i]=if g (F i) then B (F i) else []:=by
 unfold blk;rw[map_singleton]
 cases h:g (F i)with
 |true=>rw[uD h];simp
 |false=>rw[nH (by rw[h];exact bS)];simp
def Eh{ks:List Kd}{ov:List Pr}(h:PsK ks ov)(n:As):∀its:List Ti,(itF ks ov n its).length=its.length*tot (psN ks ov)
 | []=>by unfold itF;simp
 |z::its=>by
  have c:=Eh h n its;unfold itF at c ⊢;rw[iU,aJ,c,av,y6 h,av,dP,bP,ml,Nat.add_comm]
def M0(lo hi:Int)(its:List (LN×Int))(b:List PP):(chF lo hi its b).length=its.length+2:=by
 unfold chF;rw[aJ,av];rfl
def M1{e:Type}(a b c:List e):((a++b++c).take (a.length+b.length)).drop a.length=b:=by
 rw[<- aJ,take_left,drop_left]
def M3(ns:List Int)(_:ns.length<=63):m_1 [.kl (ns.map D.int)]=aa (.bl ac):=by
 obtain⟨ss,hl,hs,es⟩:=MW ns 2 (by decide)
 match ss,hl with
 | [sa,sb],_=>
 have hsa:=hs sa bW;have hsb:=hs sb (by simp);apply b9;unfold b_1;generalize D.kl (ns.map D.int)=A at es;show wp _ [.im A,.no,.no,.no,.no,.no,.no,.no,.no,.no,.no,.no,.no,.no,.no] _;apply ap;refine b8 (aN (ai rfl (ai rfl rfl)) es) ?_;have N:=MH sa hsa;have hyb:=MB sa;obtain⟨l1,hy⟩:=CZ sa;unfold zc at N;generalize gR sa=q at N hyb hy l1;obtain⟨s1,y⟩:=q;have hy:fg y:=hy;have hyb:ut y:=hyb;have N:pi [.int sa]=aa (.lst ((y.k.map cP++[jP y s1]).map Ro.toD)):=N;have hd:=zb hy s1;have hg:=MT hy s1;unfold jP at N hg;generalize uu (rwH y s1).1 (gB (rwI y s1).2.1) (rwL y s1).2=lo at N hg;generalize uv (rwH y s1).1 (gB (rwI y s1).2.1) (rwH y s1).2=hi at N hg;generalize (rwI y s1).2.2=ov at N hg hd;generalize (rwI y s1).2.1=its at N hg hd;generalize (rwB y s1).2=bd at N hg hd;generalize (rwQ y s1).2=ps at N hg hd;obtain⟨hP,hPR,hW⟩:=MU hy hyb lo hi its ov bd ps hd hg;have eP:=Me _ hP;have hpT:(plT (y.k.map cP++[Ro.choose lo hi its ov bd ps])).Nodup:=(l7 _ [] iu).1;have hpI:∀r∈plR (y.k.map cP++[Ro.choose lo hi its ov bd ps]),∀t∈prT r,t∈plT (y.k.map cP++[Ro.choose lo hi its ov bd ps]):=λr hr t ht=>((l7 ((plR _).flatMap prT) [] iu).2.1 t).mpr (.inr (fX.mpr ⟨r,hr,ht⟩));have h60:=hP.t;have hRl:=hP.r;unfold plD at eP;rw[hPR]at eP hpI hRl;generalize plT (y.k.map cP++[Ro.choose lo hi its ov bd ps])=tb at eP hpT hpI h60;have hps:PsK y.k ps:=pO hy hd.p;have hnb:=y6 hps [];have hov:PsK y.k ov:=pO hy hd.i.p
 have hL:rwF y.k (Ro.choose lo hi its ov bd ps)=blk (λi=>(chW y.k ps.reverse i).reverse) (λn=>!bM n bd) (λn=>chF lo hi (itF y.k ov n its) (bdF y.k n bd)) (ci (tot (psN y.k ps))):=by
  show((nbw y.k ps []).filter λn=>!bM n bd).flatMap (λn=>chF lo hi (itF y.k ov n its) (bdF y.k n bd))=_;rw[hnb];rfl
 rw[hL]at eP hpI hRl;have hbl:∀n,(chF lo hi (itF y.k ov n its) (bdF y.k n bd)).length=its.length*tot (psN y.k ov)+2:=λn=>by rw[M0,Eh hov]
 have hRw:∀(R:D),R=(Ro.choose lo hi its ov bd ps).toD->∀ρ:LS,ρ[3]?=aa (.im R)->mIx (am 3) (kI 3) ρ=aa (.lst (its.map bC))/\mIx (am 3) (kI 4) ρ=aa (.lst (ov.map prD))/\mIx (am 3) (kI 5) ρ=aa (.lst (bd.map Pa.toD))/\mIx (am 3) (kI 6) ρ=aa (.lst (ps.map prD)):=λR e ρ h=>by
  subst e;have hv:am 3 ρ=aa [.str "choose",.int lo,.int hi,.lst (its.map bC),.lst (ov.map prD),.lst (bd.map Pa.toD),.lst (ps.map prD)]:=by unfold am;rw[h];rfl
  exact⟨ak hv rfl rfl,ak hv rfl rfl,ak hv rfl rfl,ak hv rfl rfl⟩
 have hRs:g8 (.lst ((y.k.map cP++[Ro.choose lo hi its ov bd ps]).map Ro.toD))=aa ((y.k.map cP).map Ro.toD++[(Ro.choose lo hi its ov bd ps).toD]):=by rw[bh];rfl
 have hRp:=MO (y.k.map cP++[Ro.choose lo hi its ov bd ps]);have hRi:∀(f:MF1) (ρ:LS),f ρ=aa (.lst ((y.k.map cP++[Ro.choose lo hi its ov bd ps]).map Ro.toD))->mSl f (λ_=>aa ab) (mPt (m1 eU (kI 1))) ρ=aa ((y.k.map cP).map Ro.toD):=λf ρ h=>DU (x:=Ro.choose lo hi its ov bd ps) h rfl rfl;have T:=hRw _ rfl;generalize hRD:(Ro.choose lo hi its ov bd ps).toD=B at hRs T;generalize hRsD:D.lst ((y.k.map cP++[Ro.choose lo hi its ov bd ps]).map Ro.toD)=j at hRs hRp hRi N eP;apply ap;refine b8 (aN (ai (ak rfl rfl rfl) rfl) N) ?_;show wp _ [.im A,.im (.lst ([sa,sb].map D.int)),.im j,.no,.no,.no,.no,.no,.no,.no,.no,.no,.no,.no,.no] _;apply ap;refine b8 (ak (hRs) rfl (MX _ _)) ?_;show wp _ [.im A,.im (.lst ([sa,sb].map D.int)),.im j,.im B,.no,.no,.no,.no,.no,.no,.no,.no,.no,.no,.no] _;apply ap;refine v5 (aN (ai rfl rfl) eP) rfl ?_;generalize hLL:blk (λi=>(chW y.k ps.reverse i).reverse) (λn=>!bM n bd) (λn=>chF lo hi (itF y.k ov n its) (bdF y.k n bd)) (ci (tot (psN y.k ps)))=LL at hpI hRl;show wp _ [.im A,.im (.lst ([sa,sb].map D.int)),.im j,.im B,.im (.lst (tb.map sT)),.im (.tup [.int (tb.length:Nat),.lst (LL.map (PR.nD tb))]),.no,.no,.no,.no,.no,.no,.no,.no,.no] _;apply ap;refine ba (b:=ag) (aI (ao rfl (aN (ai (ak rfl rfl rfl) rfl) N) (rH hRp))) (λe=>nomatch e) λ_=>bA ?_;apply ap;refine dW (d:=[.int sb]) (ai (ak rfl rfl rfl) rfl) ?_;apply ap;generalize hPl:D.tup [.int (tb.length:Nat),.lst (LL.map (PR.nD tb))]=E;generalize hSd:D.lst ([sa,sb].map D.int)=G;refine oM (o:=.nx [.im A,.im G,.im j,.im B,.im (.lst (tb.map sT)),.im E,.own [.int sb],.ownd [] [],.no,.no,.no,.no,.no,.no,.no]) rfl ?_;refine km (λρ=>∃(bs:List Bool) (H C:Sl),tb.length=bs.length/\ρ=[.im A,.im G,.im j,.im B,.im (.lst (tb.map sT)),.im E,H,.ownd (tK tb) (bs.map D.bl),C,.no,.no,.no,.no,.no,.no]) ?_ ?_
 .refine cK tb sT (λpre ρ=>∃(bs:List Bool) (s:Int) (C:Sl),okS s/\pre.length=bs.length/\ρ=[.im A,.im G,.im j,.im B,.im (.lst (tb.map sT)),.im E,.own [.int s],.ownd (tK pre) (bs.map D.bl),C,.no,.no,.no,.no,.no,.no]) (bp rfl rfl) ⟨[],sb,_,hsb,rfl,rfl⟩ ?_ ?_
  .rintro pre t post ρ he ⟨bs,s,C,hs',hlb,rfl⟩;refine⟨_,rfl,?_⟩
   have J:fc (tK pre) (.inr (tx t))=ag:=by
    rw[um];refine decide_eq_false λz=>?_;rw[he]at hpT;exact(gn.mp hpT).2.2 _ z _ bW rfl
   have k4:(tK pre).length<16777216:=by
    unfold tK;rw[av];have:=congrArg e6 he;rw[aJ]at this;lia
   refine JZ (d:=.bl (dr s 2==0)) (ρ1:=[.im A,.im G,.im j,.im B,.im (.lst (tb.map sT)),.im E,.own [.int (nx s)],.ownd (tK pre) (bs.map D.bl),.im (sT t),.no,.no,.no,.no,.no,.no]) (ks:=tK pre) (xs:=bs.map D.bl) (cE (yr (xs:=[.int s]) rfl (bm (aR rfl) rfl) rfl λl=>nr l s 2 hs' (by decide)) (aR rfl) (jE _ _)) rfl rfl rfl k4 ⟨bs++[dr s 2==0],nx s,.im (sT t),bz s,by rw[aJ,aJ,hlb];rfl,?_⟩;rw[(nz J (bs.map D.bl) (.bl (dr s 2==0))).1,(nz J (bs.map D.bl) (.bl (dr s 2==0))).2,show tK (pre++[t])=tK pre++[.inr (tx t)]from bh,bh];rfl
  .rintro ρ ⟨bs,s,C,_,hlb,rfl⟩;exact k_J ⟨bs,_,_,hlb,rfl⟩
 rintro _ ⟨bs,H,C,hlb,rfl⟩;apply ap;refine oM (o:=.nx [.im A,.im G,.im j,.im B,.im (.lst (tb.map sT)),.im E,H,.ownd (tK tb) (bs.map D.bl),C,.ownd [] [],.no,.no,.no,.no,.no]) rfl ?_;refine km (λρ=>∃(u:Sl),ρ=[.im A,.im G,.im j,.im B,.im (.lst (tb.map sT)),.im E,H,.ownd (tK tb) (bs.map D.bl),C,.ownd (dA y.k) (eN y.k),u,.no,.no,.no,.no]) ?_ ?_
 .refine cK y.k (λk=>(cP k).toD) (λpre ρ=>∃(u:Sl),ρ=[.im A,.im G,.im j,.im B,.im (.lst (tb.map sT)),.im E,H,.ownd (tK tb) (bs.map D.bl),C,.ownd (dA pre) (eN pre),u,.no,.no,.no,.no]) ((bp (bV (hRi _ _ rfl)) rfl).trans (by rw[map_map];rfl)) ⟨_,rfl⟩ ?_ ?_
  .rintro pre k post ρ he ⟨u,rfl⟩;refine⟨_,rfl,?_⟩
   have J:fc (dA pre) (.inr (tx k.1))=ag:=by
    have h1:=um (pre.map (·.1)) k.1;unfold tK at h1;rw[map_map]at h1;have h1:fc (dA pre) (.inr (tx k.1))=_:=h1;rw[h1];refine decide_eq_false λz=>?_;have h2:=hy.k.1.nd;rw[he,bh]at h2;exact(gn.mp h2).2.2 _ z _ bW rfl
   have k4:(dA pre).length<16777216:=by
    unfold dA;rw[av];have:=congrArg e6 he;rw[aJ]at this;have:=hy.k.2;lia
   refine⟨.nx [.im A,.im G,.im j,.im B,.im (.lst (tb.map sT)),.im E,H,.ownd (tK tb) (bs.map D.bl),C,.ownd (dA (pre++[k])) (eN (pre++[k])),.im (cP k).toD,.no,.no,.no,.no],?_,⟨_,rfl⟩⟩;unfold lJ;show(if (dA pre).length<16777216 then aa (Fl.nx [.im A,.im G,.im j,.im B,.im (.lst (tb.map sT)),.im E,H,.ownd (tK tb) (bs.map D.bl),C,.ownd (iD (dA pre) (.inr (tx k.1))) (fQ (dA pre) (eN pre) (.inr (tx k.1)) (.lst (k.2.map sT))),.im (cP k).toD,.no,.no,.no,.no]) else ab)=_;rw[if_pos k4,(nz J (eN pre) (.lst (k.2.map sT))).1,(nz J (eN pre) (.lst (k.2.map sT))).2,show dA (pre++[k])=dA pre++[.inr (tx k.1)]from bh,show eN (pre++[k])=eN pre++[.lst (k.2.map sT)]from bh]
  .rintro ρ ⟨u,rfl⟩;exact k_J ⟨_,rfl⟩
 rintro _ ⟨u,rfl⟩;apply ap;refine b8 (d:=.int 0) rfl ?_;show wp _ [.im A,.im G,.im j,.im B,.im (.lst (tb.map sT)),.im E,H,.ownd (tK tb) (bs.map D.bl),C,.ownd (dA y.k) (eN y.k),u,.im (.int 0),.no,.no,.no] _;have hTr:nA (.dic (tK tb) (bs.map D.bl)) tb bs:=⟨rfl,hlb⟩;have Y:kQ (.dic (dA y.k) (eN y.k)) y.k:=rfl;apply ap;refine gg (ρ':=[.im A,.im G,.im j,.im B,.im (.lst (tb.map sT)),.im E,H,.ownd (tK tb) (bs.map D.bl),C,.im (.dic (dA y.k) (eN y.k)),u,.im (.int 0),.no,.no,.no]) rfl ?_;generalize hTd:D.dic (tK tb) (bs.map D.bl)=Td at hTr;generalize D.dic (dA y.k) (eN y.k)=Kd at Y;have ht:=uo hps;have hto:=uo hov;have hil:=hd.i.l;generalize hBf:(λn=>chF lo hi (itF y.k ov n its) (bdF y.k n bd))=v at hLL;have hvp:(vrs ps).Nodup:=by simpa using hd.p.o.nd
 refine cK (ci (tot (psN y.k ps))) (λ(i:Nat)=>D.int i) (λpre ρ=>∃s7 a12 U L,(s7=.ownd (tK tb) (bs.map D.bl)\/s7=.im Td)/\ρ=[.im A,.im G,.im j,.im B,.im (.lst (tb.map sT)),.im E,H,s7,C,.im Kd,u,.im (.int ((blk (λi=>(chW y.k ps.reverse i).reverse) (λn=>!bM n bd) v pre).length:Nat)),a12,U,L]) ((A3 (n:=((tot (psN y.k ps):Nat):Int)) (ai (aN (ai (T _ rfl).2.2.2 (ai rfl rfl)) (yY Y ps hps)) rfl) (by lia) (by lia)).trans (by rw[gT])) ⟨_,_,_,_,.inl rfl,rfl⟩ ?_ ?_
 .rintro pre i post ρ he ⟨s7,a12,U,L,h7,rfl⟩;refine⟨_,rfl,?_⟩;have hit:i<tot (psN y.k ps):=iq.mp (by rw[he];simp);have hbs:=MY (λi=>(chW y.k ps.reverse i).reverse) (λn=>!bM n bd) v;have I:=MZ (λi=>(chW y.k ps.reverse i).reverse) (λn=>!bM n bd) v i
  have hLs:LL=blk (λi=>(chW y.k ps.reverse i).reverse) (λn=>!bM n bd) v pre++blk (λi=>(chW y.k ps.reverse i).reverse) (λn=>!bM n bd) v [i]++blk (λi=>(chW y.k ps.reverse i).reverse) (λn=>!bM n bd) v post:=by
   rw[<- hLL,he,show pre++i::post=pre++[i]++post by simp,hbs,hbs]
  have ir:(chW y.k ps.reverse i).reverse∈nbw y.k ps []:=by rw[hnb];exact bT.mpr ⟨i,iq.mpr hit,rfl⟩
  obtain⟨hN,hK⟩:=hW _ ir;have hch:=DL Y ps hps hvp i;have hcl:=yZ y.k ps.reverse i;rw[hbs];generalize blk (λi=>(chW y.k ps.reverse i).reverse) (λn=>!bM n bd) v pre=P at hLs;generalize blk (λi=>(chW y.k ps.reverse i).reverse) (λn=>!bM n bd) v post=Q at hLs;have I:blk (λi=>(chW y.k ps.reverse i).reverse) (λn=>!bM n bd) v [i]=if (!bM (chW y.k ps.reverse i).reverse bd)=ac then v (chW y.k ps.reverse i).reverse else []:=I;generalize blk (λi=>(chW y.k ps.reverse i).reverse) (λn=>!bM n bd) v [i]=M at hLs I;generalize chW y.k ps.reverse i=c at ir hN hK hch hcl I;have hSm:Sm c c.reverse:=⟨(reverse_perm c).symm,by rw[hN.k];exact hvp⟩;have hcl':c.length<=100:=by rw[hcl,jv];have:=hd.p.l;lia
  have hIs:fj (.kd (aK c) (aV c)) c:=rfl;show wp _ [.im A,.im G,.im j,.im B,.im (.lst (tb.map sT)),.im E,H,s7,C,.im Kd,u,.im (.int (P.length:Nat)),.im (.int (i:Nat)),U,L] _;apply ap;refine gg (ρ':=[.im A,.im G,.im j,.im B,.im (.lst (tb.map sT)),.im E,H,s7,C,.im Kd,u,.im (.int (P.length:Nat)),.im (.int (i:Nat)),U,L]) rfl ?_;refine b8 (aN (ai rfl (ai (T _ rfl).2.2.2 (ai rfl rfl))) hch) ?_;generalize D.kd (aK c) (aV c)=Cd at hIs;show wp _ [.im A,.im G,.im j,.im B,.im (.lst (tb.map sT)),.im E,H,s7,C,.im Kd,u,.im (.int (P.length:Nat)),.im (.int (i:Nat)),.im Cd,L] _;refine ba (b:=!bM c.reverse bd) (jF (aN (ai (T _ rfl).2.2.1 (ai rfl rfl)) ((Mm hIs bd).trans (by rw[Mh hSm.f]))) rfl) (λe=>?_) λe=>bA ?_
  .rw[if_pos e]at I;subst I;have hM:v c.reverse=chF lo hi (itF y.k ov c.reverse its) (bdF y.k c.reverse bd):=by rw[<- hBf]
   have hMl:=hbl c.reverse;rw[<- hM]at hMl;apply ap;refine gg (ρ':=[.im A,.im G,.im j,.im B,.im (.lst (tb.map sT)),.im E,H,s7,C,.im Kd,u,.im (.int (P.length:Nat)),.im (.int (i:Nat)),.im Cd,L]) rfl ?_;refine b8 (d:=.int ((v c.reverse).length:Nat)) (ao (ao (aN (ai (T _ rfl).1 rfl) (dZ its bC)) (aN (ai (T _ rfl).2.1 (ai rfl rfl)) (yY Y ov hov)) (jc (.inl (.inl ⟨by lia,by lia⟩)))) rfl (gh.trans (by rw[hMl];push_cast;rfl))) ?_;show wp _ [.im A,.im G,.im j,.im B,.im (.lst (tb.map sT)),.im E,H,s7,C,.im Kd,u,.im (.int (P.length:Nat)),.im (.int (i:Nat)),.im Cd,.im (.int ((v c.reverse).length:Nat))] _;apply ap
   refine gg (ρ':=[.im A,.im G,.im j,.im B,.im (.lst (tb.map sT)),.im E,H,.im Td,C,.im Kd,u,.im (.int (P.length:Nat)),.im (.int (i:Nat)),.im Cd,.im (.int ((v c.reverse).length:Nat))]) (by rcases h7 with e |e <;> (subst e;subst hTd;rfl)) ?_
   refine gg (ρ':=[.im A,.im G,.im j,.im B,.im (.lst (tb.map sT)),.im E,H,.im Td,C,.im Kd,u,.im (.int (P.length:Nat)),.im (.int (i:Nat)),.im Cd,.im (.int ((v c.reverse).length:Nat))]) rfl ?_
   have hsl:mSl (mIx (am 5) (kI 1)) (mPt (ae 11)) (mPt (m2 cN (ae 11) (ae 14))) [.im A,.im G,.im j,.im B,.im (.lst (tb.map sT)),.im E,H,.im Td,C,.im Kd,u,.im (.int (P.length:Nat)),.im (.int (i:Nat)),.im Cd,.im (.int ((v c.reverse).length:Nat))]=aa ((v c.reverse).map (PR.nD tb)):=by
    have h1:=MI (xs:=LL) (g:=PR.nD tb) (f:=mIx (am 5) (kI 1)) (l:=mPt (ae 11)) (h:=mPt (m2 cN (ae 11) (ae 14))) (ρ:=[.im A,.im G,.im j,.im B,.im (.lst (tb.map sT)),.im E,H,.im Td,C,.im Kd,u,.im (.int (P.length:Nat)),.im (.int (i:Nat)),.im Cd,.im (.int ((v c.reverse).length:Nat))]) (a:=((P.length:Nat):Int)) (b:=((P.length:Nat):Int)+((v c.reverse).length:Nat)) (by subst hPl;exact ak rfl rfl rfl) rfl rfl (by lia) (by lia);rw[h1,gT,show(((P.length:Nat):Int)+((v c.reverse).length:Nat)).toNat=P.length+(v c.reverse).length by lia,hLs,M1]
   have hrb:∀r∈v c.reverse,∀t∈prT r,t∈tb:=λr hr t h2=>hpI r (by rw[hLs];simp[hr]) t h2
   have hag:=My Y hIs hSm hcl' hTr lo hi its ov bd ps hK.i (by have:=hd.l; lia) hK.b (λp hp t h2=>hrb (PR.mk "never" ab (bdF y.k c.reverse bd++[PP.c ag (lo - 1) (itF y.k ov c.reverse its)])) (by rw [hM]; unfold chF; simp) t (by
     show t∈(bdF y.k c.reverse bd++[PP.c ag (lo-1) (itF y.k ov c.reverse its)]).flatMap ppT
     exact fX.mpr ⟨p,dB.mpr (.inl hp),h2⟩)) (λz hz=>hrb (PR.mk "never" ab (bdF y.k c.reverse bd++[PP.c ag (lo-1) (itF y.k ov c.reverse its)])) (by rw[hM];unfold chF;simp) z.1 (by
     show z.1∈(bdF y.k c.reverse bd++[PP.c ag (lo-1) (itF y.k ov c.reverse its)]).flatMap ppT;exact fX.mpr ⟨.c ag (lo-1) (itF y.k ov c.reverse its),by simp,bT.mpr ⟨z,hz,rfl⟩⟩)) (λp hp=>by have:=(hK.t p hp).1;lia)
   rw[<- hM,hRD]at hag;refine ba (b:=ag) (rK (b:=ac) (jF (aN (ai (bV hsl) (ai rfl (ai rfl (ai rfl (ai rfl (ai rfl rfl)))))) hag) rfl)) (λe=>nomatch e) λ_=>bA ?_;refine yt rfl (aR rfl) (show _=aa (D.int (((P++v c.reverse).length:Nat):Int))from ?_) ⟨.im Td,.im (.int (i:Nat)),.im Cd,.im (.int ((v c.reverse).length:Nat)),.inr rfl,rfl⟩;rw[aJ,Int.natCast_add];rfl
  .rw[if_neg (by rw[e];exact bS)]at I;subst I;rw[eB];exact⟨_,_,_,_,h7,rfl⟩
 .rintro ρ ⟨s7,a12,U,L,h7,rfl⟩;rw[hLL];refine cw (oK (a:=ac) (b:=ac) (ao rfl (aN (ai (by subst hPl;exact ak rfl rfl rfl) rfl) (dZ LL (PR.nD tb))) ((jE _ _).trans (by rw[beq_self_eq_true]))) (ao (by subst hPl;exact ak rfl rfl rfl) (aN (ai rfl rfl) (dZ tb sT)) ((jE _ _).trans (by rw[beq_self_eq_true])))) (cx rfl)
abbrev sp_law(K:bo):Sp:=λvs H Q _=>∃(a:Addr) (ns:List Int),vs=[.ref a]/\SqL K H a (ns.map V.int)/\ns.length<=63/\∀H',Q (.bl ac) H'
variable{K:bo}
def sp_law_of{H:Hp}{a:Addr}{ns:List Int}{E:XK}(e:ns.length<=63)(c:SqL K H a (ns.map V.int)):sp_law K [.ref a] H (λv _=>v=.bl ac) E:=⟨a,ns,rfl,c,e,λ_=>rfl⟩
variable{w:World}
def law_ok(W:Wd K mg a):f9 P w K mg base CX0 10 a.e_1.1 a.e_1.2 ["_law_script"] (sp_law K):=(KN W).ok.imp λvs H Q E ⟨a,ns,c,e,j,k⟩=>
 ⟨H,[.kl (ns.map D.int)],.bl ac,aM.refl _,⟨.ref a,[],c,⟨a,_,rfl,e,ay.ints ns⟩,rfl⟩,rfl,M3 ns j,λv Hf' H' x r=>by rw[show v=V.bl ac from r];exact k H'⟩
variable{P:LVa->Prop}
def nE(h:P []):∀us:LVa,us.length=0->P us:=λus e=>by
 rw[eq_nil_of_length_eq_zero e];exact h
def eO(h:∀a (us:LVa),us.length=n->P (a::us)):∀us:LVa,us.length=n+1->P us:=λus e=>by
 cases us with
 |nil=>cases e
 |cons a us=>exact h a us (Nat.succ.inj e)
def Ei(h:∀c:Value,P [c]):∀us:LVa,us.length=1->P us:=eO (P:=λus=>P (us)) λc=>nE (h c)
def M4(h:∀c e:Value,P [c,e]):∀us:LVa,us.length=2->P us:=eO (P:=λus=>P (us)) λc=>eO (P:=λus=>P (c::us)) λe=>nE (h c e)
def M5(h:∀c e j:Value,P [c,e,j]):∀us:LVa,us.length=3->P us:=eO (P:=λus=>P (us)) λc=>eO (P:=λus=>P (c::us)) λe=>eO (P:=λus=>P (c::e::us)) λj=>nE (h c e j)
def M6(h:∀c e j o:Value,P [c,e,j,o]):∀us:LVa,us.length=4->P us:=eO (P:=λus=>P (us)) λc=>eO (P:=λus=>P (c::us)) λe=>eO (P:=λus=>P (c::e::us)) λj=>eO (P:=λus=>P (c::e::j::us)) λo=>nE (h c e j o)
def M7(h:∀c e j o p:Value,P [c,e,j,o,p]):∀us:LVa,us.length=5->P us:=eO (P:=λus=>P (us)) λc=>eO (P:=λus=>P (c::us)) λe=>eO (P:=λus=>P (c::e::us)) λj=>eO (P:=λus=>P (c::e::j::us)) λo=>eO (P:=λus=>P (c::e::j::o::us)) λp=>nE (h c e j o p)
def M8(h:∀c e j o p q:Value,P [c,e,j,o,p,q]):∀us:LVa,us.length=6->P us:=eO (P:=λus=>P (us)) λc=>eO (P:=λus=>P (c::us)) λe=>eO (P:=λus=>P (c::e::us)) λj=>eO (P:=λus=>P (c::e::j::us)) λo=>eO (P:=λus=>P (c::e::j::o::us)) λp=>eO (P:=λus=>P (c::e::j::o::p::us)) λq=>nE (h c e j o p q)
local macro_rules | `(tactic| walk_at "bd")=>`(tactic| exact λ_ _ _ _ _ _=>by first | exact Ei λ_=>rfl | exact M4 λ_ _=>rfl | exact M5 λ_ _ _=>rfl | exact M6 λ_ _ _ _=>rfl | exact M7 λ_ _ _ _ _=>rfl | exact M8 λ_ _ _ _ _ _=>rfl)
set_option autoImplicit true in
def all_mk{h:Heap}{fd_39 fd_52 fd_30 fd_40 fd_41 fd_31 Y fd_42 fd_48 fd_49 fd_23 B fd_32 fd_33 fd_26 fd_24 J fd_50 fd_43 T fd_34 fd_44 fd_45 U fd_27 fd_35 fd_46 fd_51 fd_0 fd_25 L fd_3 fd_28 fd_4 fd_5 fd_8 M fd_6 fd_7 fd_47 fd_2 fd_9 C N fd_36 E fd_29 fd_37 fd_38 H I Q fd_1:fL}{t_SMALL t_GREAT u j q:Tok}{fa:Addr}(X:K.In h)(G:h.Ns cL mg)(hfa:mg "law"=aa (.ref fa))
 (q_39:Dq K "is_made_of" wD f_39 fd_39)
 (q_52:Dq K "is_variable" wE f_52 fd_52)
 (q_30:Dq K "kinds_of" wF f_30 fd_30)
 (q_40:Dq K "must_be_new" wG f_40 fd_40)
 (q_41:Dq K "must_be_unlike" wH f_41 fd_41)
 (q_31:Dq K "must_be_known" wI f_31 fd_31)
 (q_22:Dq K "must_be_pairs" wJ f_22 Y)
 (q_42:Dq K "must_be_told" wK f_42 fd_42)
 (q_48:Dq K "uses" wL f_48 fd_48)
 (q_49:Dq K "part_uses" wM f_49 fd_49)
 (q_23:Dq K "args_of" wN f_23 fd_23)
 (q_10:Dq K "ways" wO f_10 B)
 (q_32:Dq K "shown_thing" wP f_32 fd_32)
 (q_33:Dq K "plain_of" wQ f_33 fd_33)
 (q_26:Dq K "rules_of" wR f_26 fd_26)
 (q_24:Dq K "must_be_narrow" wS f_24 fd_24)
 (q_15:Dq K "names_by_ways" wT f_15 J)
 (q_50:Dq K "has_like" wU f_50 fd_50)
 (q_43:Dq K "name_all" wV f_43 fd_43)
 (q_20:Dq K "text_of" wW f_20 T)
 (q_34:Dq K "rules_by" wX f_34 fd_34)
 (q_44:Dq K "choice" wY f_44 fd_44)
 (q_45:Dq K "put_part" wZ f_45 fd_45)
 (q_21:Dq K "put_items" w4 f_21 U)
 (q_27:Dq K "places_in" w5 f_27 fd_27)
 (q_35:Dq K "texts_in" w6 f_35 fd_35)
 (q_46:Dq K "numbered" w9 f_46 fd_46)
 (q_51:Dq K "numbered_part" xa f_51 fd_51)
 (q_0:Dq K "_law_next" s_0 f_0 fd_0)
 (q_25:Dq K "_law_seeds" xb f_25 fd_25)
 (q_16:Dq K "_law_small" xc f_16 L)
 (q_3:Dq K "_law_name" s_3 f_3 fd_3)
 (q_28:Dq K "_law_variable" xf f_28 fd_28)
 (q_4:Dq K "_law_number" s_4 f_4 fd_4)
 (q_5:Dq K "_law_lay" s_5 f_5 fd_5)
 (q_8:Dq K "_law_thing" s_8 f_8 fd_8)
 (q_17:Dq K "_law_pairs" xg f_17 M)
 (q_6:Dq K "_law_items" s_6 f_6 fd_6)
 (q_7:Dq K "_law_part" s_7 f_7 fd_7)
 (q_47:Dq K "_law_body" xh f_47 fd_47)
 (q_2:Dq K "_law_row" s_2 f_2 fd_2)
 (q_9:Dq K "_law_total" s_9 f_9 fd_9)
 (q_11:Dq K "_law_choice" xi f_11 C)
 (q_18:Dq K "_law_text" xj f_18 N)
 (q_36:Dq K "_law_apart" xk f_36 fd_36)
 (q_12:Dq K "_law_texts" xl f_12 E)
 (q_29:Dq K "_law_worth" xm f_29 fd_29)
 (q_37:Dq K "_law_holds" xo f_37 fd_37)
 (q_38:Dq K "_law_part_holds" xp f_38 fd_38)
 (q_13:Dq K "_law_block" xq f_13 H)
 (q_14:Dq K "_law_agrees" xr f_14 I)
 (q_19:Dq K "_law_rows" xt f_19 Q)
 (q_1:Dq K "law" s_1 f_1 fd_1)
 (A:dX K cL "SMALL"=aa (aa (.str "abcdefghijklmnopqrstuvwxyz" t_SMALL)))
 (z:dX K cL "GREAT"=aa (aa (.str "ABCDEFGHIJKLMNOPQRSTUVWXYZ" t_GREAT)))
 (p:dX K cL "MOST_RULES"=aa (aa (.int 400 u)))
 (c:dX K cL "MOST_THINGS"=aa (aa (.int 60 j)))
 (o:dX K cL "MOST_ITEMS"=aa (aa (.int 60 q)))
 (z_ValueError:dX K cL "ValueError"=aa ab)
 (z_abs:dX K cL "abs"=aa ab)
 (z_all:dX K cL "all"=aa ab)
 (z_any:dX K cL "any"=aa ab)
 (z_dict:dX K cL "dict"=aa ab)
 (z_divmod:dX K cL "divmod"=aa ab)
 (z_enumerate:dX K cL "enumerate"=aa ab)
 (z_int:dX K cL "int"=aa ab)
 (z_len:dX K cL "len"=aa ab)
 (z_list:dX K cL "list"=aa ab)
 (z_min:dX K cL "min"=aa ab)
 (z_range:dX K cL "range"=aa ab)
 (z_reversed:dX K cL "reversed"=aa ab)
 (z_set:dX K cL "set"=aa ab)
 (z_sum:dX K cL "sum"=aa ab)
 (z_zip:dX K cL "zip"=aa ab)
  : ∃a:Wa,∃W:Wd K mg a,a.e_1.1=fa/\∀(s:aE) (v:Value),BindsTo s a.e_1.2 ⟨[v],[]⟩ [("_law_script",v)]:=by
 have e:=hfa.symm.trans (W.mg_of X G q_1.a);cases e
 exact⟨{
  e_39:=(f_39,fd_39),e_52:=(f_52,fd_52),e_30:=(f_30,fd_30),e_40:=(f_40,fd_40),e_41:=(f_41,fd_41),e_31:=(f_31,fd_31),e_22:=(f_22,Y),e_42:=(f_42,fd_42),e_48:=(f_48,fd_48),e_49:=(f_49,fd_49),e_23:=(f_23,fd_23),e_10:=(f_10,B),e_32:=(f_32,fd_32),e_33:=(f_33,fd_33),e_26:=(f_26,fd_26),e_24:=(f_24,fd_24),e_15:=(f_15,J),e_50:=(f_50,fd_50),e_43:=(f_43,fd_43),e_20:=(f_20,T),e_34:=(f_34,fd_34),e_44:=(f_44,fd_44),e_45:=(f_45,fd_45),e_21:=(f_21,U),e_27:=(f_27,fd_27),e_35:=(f_35,fd_35),e_46:=(f_46,fd_46),e_51:=(f_51,fd_51),e_0:=(f_0,fd_0),e_25:=(f_25,fd_25),e_16:=(f_16,L),e_3:=(f_3,fd_3),e_28:=(f_28,fd_28),e_4:=(f_4,fd_4),e_5:=(f_5,fd_5),e_8:=(f_8,fd_8),e_17:=(f_17,M),e_6:=(f_6,fd_6),e_7:=(f_7,fd_7),e_47:=(f_47,fd_47),e_2:=(f_2,fd_2),e_9:=(f_9,fd_9),e_11:=(f_11,C),e_18:=(f_18,N),e_36:=(f_36,fd_36),e_12:=(f_12,E),e_29:=(f_29,fd_29),e_37:=(f_37,fd_37),e_38:=(f_38,fd_38),e_13:=(f_13,H),e_14:=(f_14,I),e_19:=(f_19,Q),e_1:=(f_1,fd_1),cl:=λ_=>0},{
  g_SMALL:=⟨_,W.mg_of X G A⟩,
  g_GREAT:=⟨_,W.mg_of X G z⟩,
  g_MOST_RULES:=⟨_,W.mg_of X G p⟩,
  g_MOST_THINGS:=⟨_,W.mg_of X G c⟩,
  g_MOST_ITEMS:=⟨_,W.mg_of X G o⟩,
  z_ValueError:=fN X G z_ValueError,
  z_abs:=fN X G z_abs,
  z_all:=fN X G z_all,
  z_any:=fN X G z_any,
  z_dict:=fN X G z_dict,
  z_divmod:=fN X G z_divmod,
  z_enumerate:=fN X G z_enumerate,
  z_int:=fN X G z_int,
  z_len:=fN X G z_len,
  z_list:=fN X G z_list,
  z_min:=fN X G z_min,
  z_range:=fN X G z_range,
  z_reversed:=fN X G z_reversed,
  z_set:=fN X G z_set,
  z_sum:=fN X G z_sum,
  z_zip:=fN X G z_zip,
  e_39:=q_39.mk2 X G,
  e_52:=q_52.mk2 X G,
  e_30:=q_30.mk2 X G,
  e_40:=q_40.mk2 X G,
  e_41:=q_41.mk2 X G,
  e_31:=q_31.mk2 X G,
  e_22:=q_22.mk2 X G,
  e_42:=q_42.mk2 X G,
  e_48:=q_48.mk2 X G,
  e_49:=q_49.mk2 X G,
  e_23:=q_23.mk2 X G,
  e_10:=q_10.mk2 X G,
  e_32:=q_32.mk2 X G,
  e_33:=q_33.mk2 X G,
  e_26:=q_26.mk2 X G,
  e_24:=q_24.mk2 X G,
  e_15:=q_15.mk2 X G,
  e_50:=q_50.mk2 X G,
  e_43:=q_43.mk2 X G,
  e_20:=q_20.mk2 X G,
  e_34:=q_34.mk2 X G,
  e_44:=q_44.mk2 X G,
  e_45:=q_45.mk2 X G,
  e_21:=q_21.mk2 X G,
  e_27:=q_27.mk2 X G,
  e_35:=q_35.mk2 X G,
  e_46:=q_46.mk2 X G,
  e_51:=q_51.mk2 X G,
  e_0:=q_0.mk2 X G,
  e_25:=q_25.mk2 X G,
  e_16:=q_16.mk2 X G,
  e_3:=q_3.mk2 X G,
  e_28:=q_28.mk2 X G,
  e_4:=q_4.mk2 X G,
  e_5:=q_5.mk2 X G,
  e_8:=q_8.mk2 X G,
  e_17:=q_17.mk2 X G,
  e_6:=q_6.mk2 X G,
  e_7:=q_7.mk2 X G,
  e_47:=q_47.mk2 X G,
  e_2:=q_2.mk2 X G,
  e_9:=q_9.mk2 X G,
  e_11:=q_11.mk2 X G,
  e_18:=q_18.mk2 X G,
  e_36:=q_36.mk2 X G,
  e_12:=q_12.mk2 X G,
  e_29:=q_29.mk2 X G,
  e_37:=q_37.mk2 X G,
  e_38:=q_38.mk2 X G,
  e_13:=q_13.mk2 X G,
  e_14:=q_14.mk2 X G,
  e_19:=q_19.mk2 X G,
  e_1:=q_1.mk2 X G},rfl,q_1.bt (λ_ _ _ _ _ _=>Ei λ_=>rfl)⟩
end N_k84
structure PySem.W.Fast:Prop where
 (te8183738213237582394 te12045988121063907226 te10600138876787376128 te10654900420347930042 te9711543752195896871 te11897928664322440785 te13587814455554845110 te7307064833699620974 te16253864542887525848:True)
open PySem PySem.W PyProof.Rows
set_option maxRecDepth 100000 in
set_option maxHeartbeats 0 in
theorem PySem.Challenge.cw_standstill_k84_choices_put_holds : PySem.Challenge.rw_standstill_k84_choices_put.Holds := by
 w_on; o_law; k_head; (case hw=>w_witness2)
 k_fill
 refine L2.walk_ofK (l:=PySem.Challenge.rw_standstill_k84_choices_put) (n:=63) (k:=10) (x:="_law_script") (CX:=L2.CX0) (sp:=N_k84.sp_law) rfl (by decide) rfl ⟨rfl,by decide,by decide⟩ (fun w h Y=>PySem.W.kIn_of Y) ?F (fun _ _ a ns hl _ hS=>N_k84.sp_law_of hl hS) (fun _ _ _ _ z=>z)
 case F =>
  intro w mg fa h KX G hmg
  have TT : ∃ a : N_k84.Wa,∃ W : N_k84.Wd (L2.KOf KX) mg a,a.e_1.1=fa /\ ∀ (s:Shared) (v:Value),BindsTo s a.e_1.2 ⟨[v],[]⟩ [("_law_script",v)]:=by
   dsimp only [L2.KOf]
   refine' N_k84.all_mk KX G hmg ..
   all_goals first | k_is | kit_is | k_exc | exact ⟨by k_is,L2.fun_mk (by k_is) (by k_is) (by k_is)⟩ | exact ⟨by k_is,by k_is,L2.fun_mk (by k_is) (by k_is) (by k_is)⟩ | (intro t ht; simp only [List.mem_cons,List.not_mem_nil,or_false] at ht; rcases ht with rfl | rfl | rfl | rfl | rfl | rfl | rfl <;> kit_is) | skip
  obtain ⟨a,W,e1,hb⟩:=TT
  subst e1
  exact ⟨_,hb,fun base kb nb=>N_k84.law_ok W⟩
