import PyProof.Rows.All
import Wide.All
import OpenK.AllK
import Wide.FinOn
import Lean
import PyProof.EqAt
import PyProof.EqKinds
import PyProof.TupleCall
import PyProof.NeKinds
import PySem.Challenge.RW_standstill_k83_put
set_option Elab.async false
set_option genSizeOf false
set_option linter.all false
set_option compiler.extract_closed false
set_option bootstrap.genMatcherCode false
local macro_rules
|`(def $d:declId $b* :$t $v:declVal)=>`(theorem $d $b* :$t $v:declVal)
|`(abbrev $d:declId $s:optDeclSig $v:declVal)=>`(noncomputable def $d $s:optDeclSig $v:declVal)
set_option maxRecDepth 100000
open Array renaming length_toList->pP,getElem?_eq_none->wW,getElem?_toList->wX
open Bool renaming false->ag,true->ac,false_ne_true->bZ,and_eq_true->di,eq_iff_iff->jh,false_eq_true->lw,or_eq_true->kz,noConfusion->mw
open False renaming elim->jN
open ForInStep renaming yield->n6
open Int renaming toNat_natCast->gP,eq_ofNat_of_zero_le->wY,emod_lt_of_pos->wZ
open List renaming length_map->au,length_append->aM,getElem?_eq_getElem->cR,getElem?_eq_some_iff->eD,mem_cons_self->bK,mem_cons_of_mem->cB,map_append->bp,mem_singleton->ca,length_cons->bT,not_mem_nil->b6,getElem?_map->eM,length_singleton->dR,mem_append_right->eE,getElem?_set_ne->fZ,range->cp,append_nil->cx,mem_append->cC,getD_eq_getElem?_getD->gy,flatMap_append->eS,length_range->dH,mem_cons->b8,getElem?_append_right->jO,nodup_append->eG,getElem?_set_self->ji,mem_append_left->f6,append_assoc->eU,map_cons->cS,replicate->gz,length->fB,mem_map->cq,take_of_length_le->jk,getElem?_append_left->mx,reverse_cons->gQ,lookup_cons->gA,mem_flatMap->gB,filter_cons_of_neg->lx,length_reverse->jP,flatMap_cons->iJ,nodup_cons->gC,length_take->hJ,getElem_mem->ly,nodup_nil->f7,reverse_reverse->kA,length_set->hU,drop_eq_nil_of_le->my,length_replicate->mz,length_pos_iff->lz,nodup_iff_pairwise_ne->pQ,nil_append->jl,getElem?_range->pR,getElem?_cons_succ->sI,mem_reverse->kB,length_zip->jQ,ext_getElem?->lA,mem_range->jm,length_eq_zero_iff->pS,zip_cons_cons->mC,getElem?_eq_none->sJ,getElem?_toArray->sK,idxOf_lt_length_of_mem->sL,length_drop->lB,flatMap_singleton->pT,any_cons->iK,foldl_append->mD,take_append_drop->pU,length_filter_le->pV,drop_eq_getElem_cons->sM,zipWith->n8,mem_filter->lC,map_reverse->mE,map_fst_zip->mF,cons_append->mG,getElem?_replicate->w4,filter_cons_of_pos->sN,reverse_perm->oe,map_congr_left->pW,mem_of_getElem?->sO,mem_of_mem_take->sP,find?_cons->og,length_nil->oh,all_cons->mH,set_cons_succ->sQ,find?_eq_none->sR,filter_append->sS,map_singleton->sU
open List.Nodup renaming length_le_of_subset->w5
open Nat renaming le_refl->aU,ne_of_lt->cy,le_trans->cV,lt_of_lt_of_le->f8,zero_le->gD,le_of_ble_eq_true->mI,min_eq_left->kC,lt_irrefl->jR,le_of_lt->jS,le_add_right->mJ,min_eq_right->oi,ne_of_gt->lD,pow_le_pow_right->sV,mul_le_mul_right->sW,succ_mul->oj,add_sub_cancel_left->w6,le_of_not_lt->sX,min_self->pX,zero_add->sY
open Ne renaming symm->ce
open Option renaming some->aa,bind_some->ax,none->ab,bind_eq_some_iff->cr,map_eq_some_iff->mK
open Option.some renaming inj->cz
open Or renaming inr->br,inl->bU
open PyProof.Rows renaming callWith_type1->kE,slot_tuple_getitem->w9,callWith_builtin1->BN,boot_list->mL,envOfC->iL,AllBare->kG
open PySem renaming wpAny_bind->av,wpAny_pure->bc,boot_len->cA,sizeLine->aW,starEach->aY,Shared->aI,mainGlobals->cK,sizeLine_eq->cL,wpAny_holding->fh,compareOp->cW,foldedSetIterable->hV,assignEach->fj,bootBuiltins->gR,Program->dn,builtinLookup_eq_fast->mM,wpAny_mono->gj,swapsWith->fR,sysModules->gE,wpAny_truthy_bool->lE,wpAny_Call_Name_kw->mN,wpAny_field->iM,binaryOp->fS,codeAny_builtin->lF,wpAny_callSpecial?_slot->pY,FuncData->gl,typeLookup_type->mO,Builtin->c9,wpAny_pyIter_list->om,NameKind->gF,mem_of_lookup->pZ,wpAny_call_entry->on,wpAny_typeOf->lG,Around->eI,behindInMarks->mP,wpAny_getItem_str_slice->sZ,Builtin->BO,wpAny_seqItems->ow,codeAny_mono->mQ,codeAny->gS,backTo->fT,plainId_quiet->ox,typeLookup->lH,holding->hZ,wpAny_passesOwn->p5,sliceBounds->mR,getattributeRaised->s9,valueAt->iN,isSubtype_type->p6,wpAny_newObj_type->tf,wpAny_rule->mS,Spec->Hu,swapsWithSole->p7,swappedStores->p8,wpAny_pyNext_list_item->xa,assign->h9,wpAny_pyNext_list_end->xb,post_val_or_str->tm,wpAny_notOrdered_dict->xc,codeAny_call_builtin->xf,stored->iO,rawInt->iP,subscripted->p9,getItem->kH,Paired->ia,wpAny_standAt->tu,pyNext->jo,tupleKind_room_in1->xg,IsPair->jq,wpAny_attempt->tw
open PySem.Around renaming under_plainId->tz,in1_units->xh
open PySem.Builtin.Dict renaming updateFrom->tB,selfAndRest->BP,pairItems->BQ
open PySem.Builtin.Int renaming intBits->tE
open PySem.Builtin.List renaming listExtendWith->tF,listTooLong->BR,listItems->BS
open PySem.Builtin.Slice renaming slicePlaces->xi,sliceAdjust->BU
open PySem.Builtin.SmallTypes renaming ownedTupleIsFree->tG,nextOf->xj
open PySem.Builtin.Str renaming strSliceIndices->xk
open PySem.Calls renaming spliced_cons->mT,spliced_nil->xl
open PySem.F renaming plainAttrs_list->eJ,slot_list_append->fJ,type_list_append->fK,slot_list_extend->qb,type_list_extend->qc,plainAttrs_dict->tH,called_set->lI,slot_list_getattribute->xm,slot_zip_getattribute->xo,slot_list_reversed->xp,slot_dict_update->xq,slot_dict_get->xr,slot_zip_next->tI,slot_dict_setdefault->BV,kt_typeCall_dict_1->BW
open PySem.Heap renaming get?_push_of_some->bV,lt_size->bD,get?_push_size->dS,get?_update_other->mU,get?_update_self->oy,SameBut->iQ,size_push->tJ
open PySem.Heap.DictOf renaming new->xu
open PySem.Heap.IsSliceOf renaming new->BX
open PySem.NameKind renaming free->f9,cell->mV
open PySem.Obj renaming mapSeq->ib
open PySem.Paired renaming length->tL
open PySem.PassesOwn renaming never->cE
open PySem.SeqAt renaming EqAt->dE
open PySem.SeqAt.EqAt renaming same->xv
open PySem.Str renaming empty->oz
open PySem.Txt renaming slice->ic,join->xw,slice_le->tM
open PySem.Value renaming bool->gG,type->jr,ref->iR,none->oA
open PySem.W renaming Frag->bm,mg_none_of->fL,nsIn->dU,kia_one->jt
open Sum renaming inr->iS
open Sum.inr renaming inj->oB
open True renaming intro->ie
nonrec abbrev PRS:=PySem.Value->PySem.Shared->Prop
nonrec abbrev MGT:=PySem.Str->Option PySem.Value
nonrec abbrev PNS:=List (PySem.Addr×PySem.Obj)
nonrec abbrev LN:=List Nat
nonrec abbrev L2N:=List LN
nonrec abbrev LSt:=List PySem.Str
nonrec abbrev LVa:=List PySem.Value
nonrec abbrev LAd:=List PySem.Addr
nonrec abbrev LEx:=List PySem.Expr
namespace L2
open List
open PySem PySem.Spec PyProof.Rows
@[reducible]noncomputable def Key:=Sum Int Str
abbrev mW:Key->Value->Bool
 |.inl k,v=>Value.isInt k v
 |.inr x,v=>Value.isStrOf x v
abbrev Hv(w:World):Key->Int
 |.inl k=>hashInt k
 |.inr x=>hashStr w x
def jT:∀{k:Key} {v:Value},mW k v=ac->(∃i t,k=Sum.inl i/\v=Value.int i t)\/(∃x t,k=iS x/\v=Value.str x t)
 |.inl i,v,h=>by
  obtain⟨t,e⟩:=Value.isInt_shape h
  exact .inl ⟨i,t,rfl,e⟩
 |.inr x,v,h=>by
  obtain⟨t,e⟩:=Value.isStrOf_shape h;exact .inr ⟨x,t,rfl,e⟩
def Hw(i:Int)(t:Tok):mW (.inl i) (.int i t)=ac:=by simp[mW,Value.isInt]
def Hx(x:Str)(t:Tok):mW (.inr x) (.str x t)=ac:=by simp[mW,Value.isStrOf]
def Hy(a b:Int):decide ((Sum.inl a:Key)=Sum.inl b)=(a==b):=by
 by_cases e:a=b
 .subst e;simp
 .have h:¬(Sum.inl a:Key)=Sum.inl b:=λq=>e (Sum.inl.inj q);rw[decide_eq_false h];exact(beq_eq_false_iff_ne.mpr e).symm
def Hz(a b:Str):decide ((iS a:Key)=iS b)=decide (a=b):=by
 by_cases e:a=b
 .subst e;simp
 .have h:¬(iS a:Key)=iS b:=λq=>e (oB q);rw[decide_eq_false h,decide_eq_false e]
def HA(a:Int)(b:Str):decide ((Sum.inl a:Key)=iS b)=ag:=decide_eq_false (λq=>nomatch q)
def HB(a:Str)(b:Int):decide ((iS a:Key)=Sum.inl b)=ag:=decide_eq_false (λq=>nomatch q)
abbrev cX(prog:dn)(w:World):PySem.KeyKind prog w Key where
 is:=mW
 hash:=Hv w
 inj:=λv a b ha hb=>by
  rcases jT ha with⟨i,t,rfl,rfl⟩ |⟨x,t,rfl,rfl⟩
  .rcases jT hb with⟨j,u,rfl,e⟩ |⟨y,u,rfl,e⟩
   .injection e with e1 _;rw[e1]
   .exact nomatch e
  .rcases jT hb with⟨j,u,rfl,e⟩ |⟨y,u,rfl,e⟩
   .exact nomatch e
   .injection e with e1 _;rw[e1]
 byValue:=λk v h=>by
  rcases jT h with⟨i,t,rfl,rfl⟩ |⟨x,t,rfl,rfl⟩ <;> rfl
 pyHash:=λhv h=>by
  rcases jT hv with⟨i,t,rfl,rfl⟩ |⟨x,t,rfl,rfl⟩
  .exact wpAny_pyHash_int h
  .exact wpAny_pyHash_str h
 eqBool:=λhu hv h=>by
  rcases jT hu with⟨i,t,rfl,rfl⟩ |⟨x,t,rfl,rfl⟩
  .rcases jT hv with⟨j,u,rfl,rfl⟩ |⟨y,u,rfl,rfl⟩
   .rw[Hy]at h;exact wpAny_eqBool_int h
   .rw[HA]at h;exact dE.int_str i t y u _ _ _ _ h
  .rcases jT hv with⟨j,u,rfl,rfl⟩ |⟨y,u,rfl,rfl⟩
   .rw[HB]at h;exact dE.str_int x t j u _ _ _ _ h
   .rw[Hz]at h;exact wpAny_eqBool_str h
 «strs»:=λk x t v h=>by
  rcases jT h with⟨i,u,rfl,e⟩ |⟨y,u,rfl,e⟩
  .exact nomatch e
  .injection e with e1 _
   subst e1
   cases v <;> rfl
def BY(prog:dn)(w:World)(i:Int)(t:Tok):(cX prog w).is (.inl i) (.int i t)=ac:=Hw i t
def BZ(prog:dn)(w:World)(x:Str)(t:Tok):(cX prog w).is (.inr x) (.str x t)=ac:=Hx x t
inductive V where
 |non |bl (b:Bool) |int (i:Int) |str (x:Str) |byt (b:Array UInt8) |flt (b:UInt64) |ref (a:Addr) |ty (n:String)
 deriving DecidableEq
abbrev aR:V->Value->Prop
 |.non,u=>u=oA
 |.bl b,u=>u=gG b
 |.int i,u=>∃t,u=Value.int i t
 |.str x,u=>∃t,u=Value.str x t
 |.byt b,u=>∃t,u=Value.bytes b t
 |.flt b,u=>∃t,u=Value.float b t
 |.ref a,u=>u=iR a
 |.ty n,u=>u=jr n
nonrec abbrev aX:List V->LVa->Prop:=ia aR
variable{xs:List V}{us:LVa}
def aX.length(r:aX xs us):xs.length=us.length:=tL r
def aX.get:∀{xs:List V} {us:LVa} {i:Nat} {x:V},aX xs us->xs[i]?=aa x->∃u,us[i]?=aa u/\aR x u
 | _,_,_,_,.nil,e=>by simp at e
 | _,_,0,_,.cons r _,e=>by simp at e;subst e;exact⟨_,rfl,r⟩
 | _,_,i+1,x,.cons _ t,e=>by
  obtain⟨u,a,b⟩:=aX.get t (by simpa using e);exact⟨u,by simpa using a,b⟩
def aX.set{x:V}{u:Value}(r:aR x u):∀{xs:List V} {us:LVa} (i:Nat),aX xs us->aX (xs.set i x) (us.set i u)
 | _,_,_,.nil=>.nil
 | _,_,0,.cons _ t=>.cons r t
 | _,_,i+1,.cons q t=>.cons q (aX.set r i t)
def aX.append:∀{xs a:List V} {us ws:LVa},aX xs us->aX a ws->aX (xs++a) (us++ws)
 | _,_,_,_,.nil,s=>s
 | _,_,_,_,.cons r t,s=>.cons r (aX.append t s)
def aX.take:∀{xs:List V} {us:LVa} (n:Nat),aX xs us->aX (xs.take n) (us.take n)
 | _,_,0,_=>.nil
 | _,_,_+1,.nil=>.nil
 | _,_,n+1,.cons r t=>.cons r (aX.take n t)
def aX.drop:∀{xs:List V} {us:LVa} (n:Nat),aX xs us->aX (xs.drop n) (us.drop n)
 | _,_,0,r=>r
 | _,_,_+1,.nil=>.nil
 | _,_,n+1,.cons _ t=>aX.drop n t
abbrev ig:Option V->Option Value->Prop
 |some v,aa u=>aR v u
 |none,ab=>True
 | _,_=>False
abbrev KV{a:Type}:List (a×V)->List (a×Value)->Prop:=ia λ(p:a×V) (q:a×Value)=>p.1=q.1/\aR p.2 q.2
abbrev kV:Key->V
 |.inl i=>.int i
 |.inr x=>.str x
inductive HO where
 |lst (xs:List V)
 |tup (xs:List V)
 |dK (kvs:List (Key×V)) |dT (kvs:List (List Key×V))
 |set (S:Int->Bool) (n:Nat)
 |ins (C dx:Addr) (fs:List (Str×V))
 |own (x:Addr)
 |xd (fs:List (Str×V))
 |met (f x:Addr)
 |rng (lo hi:Int)
 |frz (o:Obj) (u:HO)
 |tbl (ps:Array Value)
 |ext (φ:Heap->Prop)
@[reducible]noncomputable def Hp:=Addr->Option HO
abbrev upd(H:Hp)(a:Addr)(o:HO):Hp:=λb=>if b=a then aa o else H b
variable{H:Hp}{a:Addr}{o:HO}
def bw:upd H a o a=aa o:=by unfold upd;rw[if_pos rfl]
variable{b:Addr}
def bz(h:b≠a):upd H a o b=H b:=by unfold upd;rw[if_neg h]
variable{u:HO}
def HC:upd (upd H a o) a u=upd H a u:=by
 funext b;unfold upd;split <;> rfl
def HD(h:H a=aa o)(h':H b=aa u)(d:o≠u):a≠b:=by
 intro e;subst e;rw[h]at h';exact d (cz h')
def iT(h:H a=aa o)(h':H b=ab):a≠b:=by
 intro e;subst e;rw[h]at h';cases h'
section
variable(P:dn)(w:World)
abbrev fM(H:Hp)(h:Heap)(a:Addr):HO->Prop
 |.lst xs=>xs.length<=aW/\∃(its:LVa) (n:Nat),aX xs its/\h.get? a=aa {cls:=.type "list",data:=.seq its.toArray n}
 |.tup xs=>xs.length<=aW/\∃its:LVa,aX xs its/\IsTup h a its.toArray
 |.dK kvs=>kvs.length<=aW/\(a==gE)=ag/\∃vs,KV kvs vs/\h.DictOf (cX P w) a vs
 |.dT kvs=>kvs.length<=aW/\(a==gE)=ag/\∃xs:List (List Key×Addr×Value),
   ia (λ(p:List Key×V) (q:List Key×Addr×Value)=>p.1=q.1/\H q.2.1=aa (.tup (p.1.map kV))/\aR p.2 q.2.2) kvs xs /\
   ∃o es e,h.get? a=aa o/\o.ExactDict/\o.data=.dict es e/\es.toList=xs.map (entryOfKey (tupleKind (cX P w)))/\(xs.map (·.1)).Nodup
 |.set S n=>h.SetOf (intKind P w) a S n
 |.ins C dx fs=>H dx=aa (.own a)/\fs.length<=1000/\dx≠a/\h.get? a=aa (W.instObj C dx) /\
   ∃mA,h.Ns1 dx mA/\(∀f,ig (fs.lookup f) (mA f))/\PySem.Within mA (fs.map (·.1))
 |.own _=>∃o,h.get? a=aa o
 |.xd fs=>∃mA,h.Ns1 a mA/\∀f,ig (fs.lookup f) (mA f)
 |.rng lo hi=>∃t u v,h.get? a=aa {cls:=.type "range",data:=.fields #[.int lo t,.int hi u,.int 1 v]}
 |.frz o u=>h.get? a=aa o/\fM H h a u
 |.tbl ps=>h.get? a=aa {cls:=.none,data:=.fields ps}
 |.met f x=>h.get? a=aa (W.methodObj (.ref f) (.ref x))
 |.ext φ=>φ h/\(∃o,h.get? a=aa o)/\∀c d:Heap,φ c->(∀o,c.get? a=aa o->d.get? a=aa o)->φ d
abbrev HOk(H:Hp)(h:Heap):Prop:=∀a o,H a=aa o->fM P w H h a o
end
variable{P:dn}{w:World}{h:Heap}
def fM.lt(x:fM P w H h a o):a<h.objs.size:=by
 cases o with
 |lst xs=>obtain⟨_,_,_,_,e⟩:=x;exact bD e
 |tup xs=>obtain⟨_,_,_,p⟩:=x;exact p.lt
 |dK kvs=>obtain⟨_,_,_,_,o,_,_,e,_⟩:=x;exact bD e
 |dT kvs=>obtain⟨_,_,_,_,o,_,_,e,_⟩:=x;exact bD e
 |set S n=>obtain⟨o,_,_,_,e,_⟩:=x;exact bD e
 |ins C dx fs=>obtain⟨_,_,_,e,_⟩:=x;exact bD e
 |own y=>obtain⟨_,e⟩:=x;exact bD e
 |xd fs=>obtain⟨_,⟨_,_,_,e,_⟩,_⟩:=x;exact bD e
 |rng lo hi=>obtain⟨_,_,_,e⟩:=x;exact bD e
 |frz c u=>obtain⟨e,_⟩:=x;exact bD e
 |tbl ps=>exact bD (x)
 |met f y=>exact bD (x)
 |ext φ=>obtain⟨_,⟨_,e⟩,_⟩:=x;exact bD e
def ia.mapP{d e:Type}{F G:d->e->Prop}:∀{l₁:List d} {c:List e},ia F l₁ c->(∀a b,F a b->G a b)->ia G l₁ c
 | _,_,.nil,_=>.nil
 | _,_,.cons r t,f=>.cons (f _ _ r) (ia.mapP t f)
variable{H':Hp}{h':Heap}
def fM.stay(x:fM P w H h a o)(k:∀b u,(b=a\/H b=aa (.own a))->h.get? b=aa u->h'.get? b=aa u)
 (l:∀b,H b=aa (.own a)->H' b=aa (.own a))(m:∀b xs,H b=aa (.tup xs)->H' b=aa (.tup xs)):fM P w H' h' a o:=by
 induction o with
 |lst xs=>obtain⟨z,its,n,r,e⟩:=x;exact⟨z,its,n,r,k _ _ (.inl rfl) e⟩
 |tup xs=>obtain⟨z,its,r,g,e,c⟩:=x;exact⟨z,its,r,g,k _ _ (.inl rfl) e,c⟩
 |dK kvs=>obtain⟨z,y,vs,r,g,es,i,e,c⟩:=x;exact⟨z,y,vs,r,g,es,i,k _ _ (.inl rfl) e,c⟩
 |dT kvs=>
  obtain⟨z,y,xs,r,g,es,i,e,c⟩:=x
  exact⟨z,y,xs,ia.mapP r λp q z=>⟨z.1,m _ _ z.2.1,z.2.2⟩,g,es,i,k _ _ (.inl rfl) e,c⟩
 |set S n=>obtain⟨g,es,i,t,e,c⟩:=x;exact⟨g,es,i,t,k _ _ (.inl rfl) e,c⟩
 |ins C dx fs=>
  obtain⟨d,z,ne,e,mA,⟨od,es,i,j,c⟩,r⟩:=x
  exact⟨l _ d,z,ne,k _ _ (.inl rfl) e,mA,⟨od,es,i,k _ _ (.inr d) j,c⟩,r⟩
 |own y=>obtain⟨g,e⟩:=x;exact⟨g,k _ _ (.inl rfl) e⟩
 |xd fs=>obtain⟨mA,⟨od,es,i,e,c⟩,r⟩:=x;exact⟨mA,⟨od,es,i,k _ _ (.inl rfl) e,c⟩,r⟩
 |rng lo hi=>obtain⟨t,u,v,e⟩:=x;exact⟨t,u,v,k _ _ (.inl rfl) e⟩
 |frz g u s=>obtain⟨e,q⟩:=x;exact⟨k _ _ (.inl rfl) e,s q⟩
 |tbl ps=>
  have e:=x
  exact k a _ (.inl rfl) e
 |met f y=>
  have e:=x
  exact k a _ (.inl rfl) e
 |ext φ=>obtain⟨p,⟨o,e⟩,st⟩:=x;exact⟨st _ _ p λo q=>k _ _ (.inl rfl) q,⟨o,k _ _ (.inl rfl) e⟩,st⟩
def HOk.lt(x:HOk P w H h)(e:H a=aa o):a<h.objs.size:=(x a o e).lt
def HOk.fresh(x:HOk P w H h)(e:h.objs.size<=a):H a=ab:=by
 cases q:H a with
 |none=>rfl
 |some u=>exact absurd (f8 (x.lt q) e) (jR _)
def HOk.kept(x:HOk P w H h)(k:∀b u,h.get? b=aa u->h'.get? b=aa u):HOk P w H h':=λa o e=>
 (x a o e).stay (λb u _ q=>k b u q) (λ_ q=>q) λ_ _ q=>q
def HOk.laid(x:HOk P w H h)(k:∀b u,h.get? b=aa u->h'.get? b=aa u)(g:h.objs.size<=a)(new:fM P w (upd H a o) h' a o):HOk P w (upd H a o) h':=λb u e=>by
 have hn:=x.fresh g
 by_cases d:b=a
 .subst d;rw[bw]at e;cases e;exact new
 .rw[bz d]at e;exact(x b u e).stay (λc v _ q=>k c v q) (λc q=>by rw[bz (iT q hn)];exact q) λc xs q=>by rw[bz (iT q hn)];exact q
abbrev Rd(H:Hp)(a:Addr)(u:HO):Prop:=H a=aa u\/∃o,H a=aa (.frz o u)
def Rd.ok(r:Rd H a u)(x:HOk P w H h):fM P w H h a u:=by
 rcases r with r |⟨o,r⟩
 .exact x a u r
 .obtain⟨_,q⟩:=x a _ r;exact q
abbrev Mut:Option HO->Prop
 |some (.lst _)=>True
 |some (.dK _)=>True
 |some (.dT _)=>True
 |some (.set _ _)=>True
 |some (.ins _ _ _)=>True
 |some (.ext _)=>True
 | _=>False
variable{x e:Addr}{o':HO}
def HOk.write(ok:HOk P w H h)(m:Mut (H x))(p:e=x\/H e=aa (.own x))(k:∀b u,b≠e->h.get? b=aa u->h'.get? b=aa u)(n:∃u,h'.get? e=aa u)
 (new:fM P w (upd H x o') h' x o'):HOk P w (upd H x o') h':=λb u q=>by
 have g:∀c y,H c=aa (.own y)->c≠x:=λc y r z=>by subst z;rw[r]at m;exact m
 have i:∀c xs,H c=aa (.tup xs)->c≠x:=λc xs r z=>by subst z;rw[r]at m;exact m
 by_cases j:b=x
 .subst j;rw[bw]at q;cases q;exact new
 .rw[bz j]at q
  by_cases d:b=e
  .have s:H b=aa (.own x):=by
    rcases p with z |z
    .exact absurd (d.trans z) j
    .rw[d];exact z
   rw[q]at s;cases s;obtain⟨v,t⟩:=n;exact⟨v,by rw[d];exact t⟩
  .refine(ok b u q).stay (λc v l r=>k c v ?_ r) (λc r=>by rw[bz (g c b r)];exact r) λc xs r=>by rw[bz (i c xs r)];exact r
   rcases l with rfl |l
   .exact d
   .rintro rfl
    rcases p with z |z
    .exact g c b l z
    .rw[l]at z;cases z;exact j rfl
structure Un(fs ex:LAd)(H H':Hp)(h h':Heap):Prop where
 keep:∀b o,h.get? b=aa o->H b=ab->b∉fs->b∉ex->h'.get? b=aa o
 slot:∀b o,h.get? b=aa o->H b=ab->b∈fs->b∉ex->∃sl,h'.get? b=aa {o with slots:=sl}
 free:∀b o,h.get? b=aa o->H b=ab->b∉ex->H' b=ab
 there:∀b o,h.get? b=aa o->b∉ex->∃o',h'.get? b=aa o'
 tups:∀b xs,H b=aa (.tup xs)->H' b=aa (.tup xs)
 frzs:∀b o u,H b=aa (.frz o u)->H' b=aa (.frz o u)
 tbls:∀b ps,H b=aa (.tbl ps)->∃more,H' b=aa (.tbl (ps++more))
variable{ex:LAd}{H1:Hp}{h1:Heap}
def Un.any{fs:LAd}(u:Un fs ex H H1 h h1){c:Obj}(q:h.get? b=aa c)(n:H b=ab)(g:b∉ex):∃sl,h1.get? b=aa {c with slots:=sl}:=by
 by_cases d:b∈fs
 .exact u.slot b c q n d g
 .exact⟨c.slots,u.keep b c q n d g⟩
variable{H2:Hp}{h2:Heap}
def Un.trans{fs:LAd}(a:Un fs ex H H1 h h1)(b:Un fs ex H1 H2 h1 h2):Un fs ex H H2 h h2 where
 keep:=λc ob q n hc hx=>b.keep c ob (a.keep c ob q n hc hx) (a.free c ob q n hx) hc hx
 slot:=λc ob q n hc hx=>by
  obtain⟨sl,e1⟩:=a.slot c ob q n hc hx;obtain⟨sl',e2⟩:=b.slot c _ e1 (a.free c ob q n hx) hc hx;exact⟨sl',e2⟩
 free:=λc ob q n hx=>by
  obtain⟨o',e1⟩:=a.there c ob q hx;exact b.free c o' e1 (a.free c ob q n hx) hx
 there:=λc ob q hx=>by
  obtain⟨o',e1⟩:=a.there c ob q hx;exact b.there c o' e1 hx
 tups:=λc xs q=>b.tups c xs (a.tups c xs q)
 frzs:=λc ob xs q=>b.frzs c ob xs (a.frzs c ob xs q)
 tbls:=λc ps q=>by
  obtain⟨m1,e1⟩:=a.tbls c ps q;obtain⟨m2,e2⟩:=b.tbls c _ e1;exact⟨m1++m2,by rw[e2,Array.append_assoc]⟩
def Un.kept{fs:LAd}(k:∀b u,h.get? b=aa u->h'.get? b=aa u):Un fs ex H H h h':=
 ⟨λb c q _ _ _=>k b c q,λb c q _ _ _=>⟨c.slots,k b c q⟩,λ_ _ _ n _=>n,λb c q _=>⟨c,k b c q⟩,λ_ _ q=>q,λ_ _ _ q=>q,λ_ ps q=>⟨#[],by rw[q];simp⟩⟩
def Un.refl{fs:LAd}:Un fs ex H H h h:=Un.kept λ_ _ q=>q
def Un.laid{fs:LAd}(k:∀b u,h.get? b=aa u->h'.get? b=aa u)(hp:h.objs.size<=a)(hn:H a=ab):Un fs ex H (upd H a o) h h' where
 keep:=λb u q _ _ _=>k b u q
 slot:=λb u q _ _ _=>⟨u.slots,k b u q⟩
 free:=λb u q n _=>by rw[bz (cy (f8 (bD q) hp))];exact n
 there:=λb u q _=>⟨u,k b u q⟩
 tups:=λb xs q=>by rw[bz (iT q hn)];exact q
 frzs:=λb u xs q=>by rw[bz (iT q hn)];exact q
 tbls:=λb ps q=>⟨#[],by rw[bz (iT q hn),q];simp⟩
def Un.write{fs:LAd}(d:Mut (H x))(l:e=x\/H e=aa (.own x))(k:∀b u,b≠e->h.get? b=aa u->h'.get? b=aa u)(g:∃u,h'.get? e=aa u):Un fs ex H (upd H x o) h h':=by
 have j:∀b,H b=ab->b≠x:=λb n z=>by subst z;rw[n]at d;exact d
 have i:∀b,H b=ab->b≠e:=λb n z=>by
  subst z
  rcases l with r |r
  .exact j b n r
  .rw[n]at r;nomatch r
 have hm:∀b u,H b=aa u->¬Mut (aa u)->b≠x:=λb u q nm z=>by subst z;rw[q]at d;exact nm d
 refine⟨λb u q n _ _=>k b u (i b n) q,λb u q n _ _=>⟨u.slots,k b u (i b n) q⟩,λb u q n _=>by rw[bz (j b n)];exact n,λb u q _=>?_,
  λb xs q=>by rw[bz (hm b _ q λz=>z)];exact q,λb u xs q=>by rw[bz (hm b _ q λz=>z)];exact q,λb ps q=>⟨#[],by rw[bz (hm b _ q λz=>z),q];simp⟩⟩
 by_cases c:b=e
 .subst c;exact g
 .exact⟨u,k b u c q⟩
abbrev trk(h:Heap)(H:Hp):LAd:=(cp h.objs.size).filter λa=>(H a).isSome
abbrev oC(h:Heap)(H:Hp):Heap:=W.hideAll h (trk h H)
def HE(h:Heap)(H:Hp):(oC h H).objs.size=h.objs.size:=W.hideAll_size _ _
variable{o:Obj}
def HF(e:h.get? b=aa o)(n:H b=ab):(oC h H).get? b=aa o:=
 W.hideAll_get _ e λhm=>by
  have q:=(lC.mp hm).2;rw[n]at q;simp at q
def HG(e:(oC h H).get? b=aa o):h.get? b=aa o/\H b=ab:=by
 have c:=W.of_hideAll _ e;refine⟨c,?_⟩
 cases q:H b with
 |none=>rfl
 |some x=>
  have hm:b∈trk h H:=lC.mpr ⟨jm.mpr (bD c),by simp[q]⟩;have z:(oC h H).get? b=ab:=W.hideAll_none _ hm;rw[z]at e;nomatch e
abbrev HH(g h:Heap)(L:Addr):PNS:=(cp h.objs.size).filterMap λa=>if a=L\/(g.get? a).isSome=ac then ab else (h.get? a).map λo=>(a,o)
abbrev bv(g h:Heap)(L d:Addr):PNS:=(HH g h L).filter λp=>decide (p.1≠d)
structure Mod(K:bm)(mg:MGT)(base:Heap):Prop where
 kin:K.In base
 glob:base.Ns cK mg
 blt:∃mb,base.Ns builtinsNs mb/\∀x:Str,x ≠ "__name__" -> mb x=gR x
 nolimit:base.NoLimit
set_option genInjectivity false in
structure Cx where
 prog:dn
 w:World
 K:bm
 mg:Str->Option Value
 base:Heap
 A:eI
 N:LSt
 s₀:aI
 H₀:Hp
 env:Env
 outer:List Env
 stack:List Env
 ex:LAd
 fn:Str->Bool
 calm:Bool
 pn:PNS
 xe:Value->aI->Prop
nonrec abbrev NDb(x:Str):=(x==("__debug__":Str))=ag
nonrec abbrev NCd(x:Str):=(x==("__classdict__":Str))=ag
nonrec abbrev StE(X:Cx)(e:Expr)(es:LEx):=aY (e::es) X.env=(ag,eval e X.env)::aY es X.env
nonrec abbrev BkE(X:Cx)(pos:Pos)(es:LEx):=(fT pos (aY es X.env)).any (·.1)=ag
nonrec abbrev LcF(X:Cx)(x:Str):=X.fn x=ac\/X.env.scope.names.lookup x=aa .local
abbrev frs(l:List Env):LAd:=l.filterMap (·.frame)
@[reducible]noncomputable def Cx.fs(X:Cx):LAd:=frs X.outer
abbrev Vis(sc:Scope)(x:Str):Prop:=sc.names.lookup x=aa .local\/sc.names.lookup x=aa .cell\/sc.names.lookup x=aa .free
abbrev Loc(sc:Scope)(x:Str):Prop:=sc.names.lookup x=aa .local\/sc.names.lookup x=aa .cell
abbrev HI(env:Env)(h:Heap)(m:MGT)(x:Str)(u:Value):Prop:=
 (env.kindOf x=aa .local/\m x=aa u)\/((env.kindOf x=aa .cell\/env.kindOf x=aa .free)/\∃c,env.cells.lookup x=aa c/\h.IsCell c (aa u))
structure Cx.Ok(X:Cx):Prop where
 mod:Mod X.K X.mg X.base
 kind:X.env.scope.kind=.function
 glob:X.env.globals=cK
 blt:X.env.builtins=builtinsNs
 above:X.s₀.heap.objs.size<=X.env.locals
 inj:∀x y c,X.env.cells.lookup x=aa c->X.env.cells.lookup y=aa c->x=y
 has:∀x,(X.env.kindOf x=aa .cell\/X.env.kindOf x=aa .free)->∃c,X.env.cells.lookup x=aa c
 cab:∀x c,X.fn x=ac->X.env.cells.lookup x=aa c->X.s₀.heap.objs.size<=c
 hd:X.calm=ac->X.A.handled=ab
 frames:X.A.frames=aa X.stack
 stk:X.stack=X.outer\/(X.stack=X.env::X.outer/\X.env.frame=aa X.env.locals)
 exf:∀b∈X.ex,b≠X.env.locals/\∀x c,X.env.cells.lookup x=aa c->c≠b
 bs:∀b o,X.base.get? b=aa o->X.s₀.heap.get? b=aa o/\X.H₀ b=ab
 bsz:X.base.objs.size<=X.s₀.heap.objs.size
 noex:∀b o,X.base.get? b=aa o->b∉X.ex
 exfs:∀b∈X.ex,b∉X.fs
 funs:X.s₀.heap.FunFrames X.base X.outer
 frf:∀b∈X.fs,X.H₀ b=ab
structure Inv(X:Cx)(pins:PNS)(σ:List (Option V))(H:Hp)(s:aI):Prop where
 ok:X.Ok
 os:s.os=X.s₀.os
 bare:kG s.gens
 base:Un X.fs X.ex X.H₀ H X.s₀.heap s.heap
 loc:∃m,s.heap.Ns X.env.locals m/\∀(i:Nat) (x:Str) (v:V),X.N[i]?=aa x->σ[i]?=aa (aa v)->Vis X.env.scope x->∃u,aR v u/\HI X.env s.heap m x u
 cell:∀x c,X.env.cells.lookup x=aa c->∃v,s.heap.IsCell c v
 free:H X.env.locals=ab
 freeC:∀x c,X.env.cells.lookup x=aa c->H c=ab
 pin:∀p∈X.pn++pins,s.heap.get? p.1=aa p.2/\H p.1=ab/\p.1≠X.env.locals/\p.1∉X.fs/\∀v,p.2.data≠.cell v
 hok:HOk X.prog X.w H s.heap
 len:σ.length=X.N.length
variable{X:Cx}
def Cx.Ok.nofr(ok:X.Ok)(e:X.base.get? b=aa o):b∉X.fs:=λc=>by
 have:=(ok.funs.mem c).1;rw[e]at this;nomatch this
variable{pins:PNS}{σ:List (Option V)}{s:aI}
def Inv.bs(I:Inv X pins σ H s):∀b o,X.base.get? b=aa o->s.heap.get? b=aa o/\H b=ab:=λb o e=>
 ⟨I.base.keep b o (I.ok.bs b o e).1 (I.ok.bs b o e).2 (I.ok.nofr e) (I.ok.noex b o e),I.base.free b o (I.ok.bs b o e).1 (I.ok.bs b o e).2 (I.ok.noex b o e)⟩
def Inv.bk(I:Inv X pins σ H s):∀b o,X.base.get? b=aa o->s.heap.get? b=aa o:=λb o e=>(I.bs b o e).1
def Inv.mod(I:Inv X pins σ H s):Mod X.K X.mg X.base:=I.ok.mod
def Inv.kIn(I:Inv X pins σ H s):X.K.In s.heap:=I.ok.mod.kin.keeps I.bk
def Inv.lt(I:Inv X pins σ H s):X.env.locals<s.heap.objs.size:=let ⟨_,hn,_⟩:=I.loc;hn.lt
def Inv.sz(I:Inv X pins σ H s):X.s₀.heap.objs.size<=s.heap.objs.size:=cV I.ok.above (jS I.lt)
def Inv.nofs(I:Inv X pins σ H s)(h:s.heap.objs.size<=a):a∉X.fs:=λc=>by
 obtain⟨_,o,d,_⟩:=I.ok.funs.mem c;exact absurd (f8 (bD d) (cV I.sz h)) (jR _)
def Inv.cne(I:Inv X pins σ H s):∀x c,X.env.cells.lookup x=aa c->c≠X.env.locals:=λx c e z=>by
 obtain⟨v,o,i,hd⟩:=I.cell x c e;obtain⟨m,⟨o',es,j,g,d,_⟩,_⟩:=I.loc;rw[z,g]at i;cases i;rw[d]at hd;nomatch hd
def Inv.funs(I:Inv X pins σ H s):s.heap.FunFrames X.base X.outer:=by
 have all:∀l,(∀b∈frs l,b∈X.fs)->X.s₀.heap.FunFrames X.base l->s.heap.FunFrames X.base l:=by
  intro l
  induction l with
  |nil=>intro _ _;trivial
  |cons env r q=>
   intro i m;obtain⟨j,⟨L,o,g,hn,n,hd⟩,p⟩:=m;have c:=i L (by unfold frs;rw[filterMap_cons,g];exact bK);obtain⟨sl,e⟩:=I.base.slot L o n (I.ok.frf L c) c λz=>I.ok.exfs L z c;exact⟨j,⟨L,_,g,hn,e,hd⟩,q (λb d=>i b (by unfold frs;rw[filterMap_cons,g];exact cB _ d)) p⟩
 exact all X.outer (λ_ d=>d) I.ok.funs
def Inv.stack(I:Inv X pins σ H s):s.heap.FunFrames X.base X.stack:=by
 rcases I.ok.stk with e |⟨e,hf⟩
 .rw[e];exact I.funs
 .rw[e];obtain⟨m,hn,_⟩:=I.loc;exact .cons (by rw[I.ok.kind];decide) hf hn (Heap.get?_none_of_le (cV I.ok.bsz I.ok.above)) I.funs
def Inv.stkSub(I:Inv X pins σ H s):∀b∈frs X.stack,b∈X.env.locals::X.fs:=λb c=>by
 rcases I.ok.stk with e |⟨e,hf⟩
 .rw[e]at c;exact cB _ c
 .rw[e]at c;unfold frs at c;rw[filterMap_cons,hf]at c;exact c
def Inv.stkFree(I:Inv X pins σ H s):∀b∈frs X.stack,H b=ab:=λb c=>by
 rcases b8.mp (I.stkSub b c)with e |c
 .rw[e];exact I.free
 .obtain⟨_,o,d,_⟩:=I.ok.funs.mem c;exact I.base.free b o d (I.ok.frf b c) λz=>I.ok.exfs b z c
variable{g':Array GenState}{t':Nat}{d':Drawn}{ch:LAd}
def Inv.step(I:Inv X pins σ H s)
 (t:∀b∈ch,(b∈X.ex\/X.s₀.heap.objs.size<=b)/\b≠X.env.locals/\(∀x c,X.env.cells.lookup x=aa c->c≠b)/\∀p∈X.pn++pins,p.1≠b)
 (keep:∀b o,b≠X.env.locals->b∉X.fs->b∉ch->s.heap.get? b=aa o->H b=ab->h'.get? b=aa o)
 (slot:∀b o,b≠X.env.locals->b∈X.fs->b∉ch->s.heap.get? b=aa o->H b=ab->∃sl,h'.get? b=aa {o with slots:=sl})(free:∀b o,b∉ch->s.heap.get? b=aa o->H b=ab->H' b=ab)
 (there:∀b o,b∉ch->s.heap.get? b=aa o->∃o',h'.get? b=aa o')
 (tups:∀b xs,H b=aa (.tup xs)->H' b=aa (.tup xs))(frzs:∀b o u,H b=aa (.frz o u)->H' b=aa (.frz o u))(tbls:∀b ps,H b=aa (.tbl ps)->∃more,H' b=aa (.tbl (ps++more)))
 (ns:∀m,s.heap.Ns X.env.locals m->h'.Ns X.env.locals m)(hok:HOk X.prog X.w H' h')(U:kG g'):
  Inv X pins σ H' {s with heap:=h',gens:=g',drawn:=d',toks:=t'}:=by
 have J:∀b o,X.s₀.heap.get? b=aa o->b≠X.env.locals:=λb o e=>cy (f8 (bD e) I.ok.above)
 have B:∀b o,X.s₀.heap.get? b=aa o->b∉X.ex->b∉ch:=λb o e g C=>by
  rcases(t b C).1 with z |z
  .exact g z
  .exact absurd (f8 (bD e) z) (jR _)
 have j:∀x c,X.env.cells.lookup x=aa c->∀v,s.heap.IsCell c v->h'.IsCell c v:=λx c e v q_=>by
  obtain⟨o,E,hd⟩:=q_;have y:=λz=>(t c z).2.2.1 x c e rfl
  by_cases M:c∈X.fs
  .obtain⟨sl,q⟩:=slot c o (I.cne x c e) M y E (I.freeC x c e);exact⟨_,q,hd⟩
  .exact⟨o,keep c o (I.cne x c e) M y E (I.freeC x c e),hd⟩
 refine⟨I.ok,I.os,U,⟨λb o e n C g=>(keep b o (J b o e) C (B b o e g) (I.base.keep b o e n C g) (I.base.free b o e n g)),λb o e n C g=>?_,λb o e n g=>?_,λb o e g=>?_,λb xs e=>tups b xs (I.base.tups b xs e),λb o xs e=>frzs b o xs (I.base.frzs b o xs e),λb ps e=>?_⟩,?_,λx c e=>?_,?_,λx c e=>?_,λp N=>?_,hok,I.len⟩
 .obtain⟨sl,A⟩:=I.base.slot b o e n C g;obtain⟨L,G⟩:=slot b _ (J b o e) C (B b o e g) A (I.base.free b o e n g);exact⟨L,G⟩
 .obtain⟨o',A⟩:=I.base.there b o e g;exact free b o' (B b o e g) A (I.base.free b o e n g)
 .obtain⟨o',A⟩:=I.base.there b o e g;exact there b o' (B b o e g) A
 .obtain⟨m1,A⟩:=I.base.tbls b ps e;obtain⟨m2,G⟩:=tbls b _ A;exact⟨m1++m2,by rw[G,Array.append_assoc]⟩
 .obtain⟨m,hn,Y⟩:=I.loc;refine⟨m,ns m hn,λi x v A G T=>?_⟩;obtain⟨u,r,l⟩:=Y i x v A G T;refine⟨u,r,?_⟩
  rcases l with l |⟨k,c,e,z⟩
  .exact .inl l
  .exact .inr ⟨k,c,e,j x c e _ z⟩
 .obtain⟨v,z⟩:=I.cell x c e;exact⟨v,j x c e v z⟩
 .obtain⟨m,⟨o,_,_,E,_⟩,_⟩:=I.loc;exact free _ o (λz=>(t _ z).2.1 rfl) E I.free
 .obtain⟨v,o,E,hd⟩:=I.cell x c e;exact free c o (λz=>(t c z).2.2.1 x c e rfl) E (I.freeC x c e)
 .obtain⟨e,n,ne,Q,d⟩:=I.pin p N;have y:=λz=>(t p.1 z).2.2.2 p N rfl;exact⟨keep p.1 p.2 ne Q y e n,free p.1 p.2 y e n,ne,Q,d⟩
def Inv.un(I:Inv X pins σ H s)(u:Un X.fs [] H H' s.heap h')(hok:HOk X.prog X.w H' h'):Inv X pins σ H' {s with heap:=h',toks:=t'}:=by
 obtain⟨m,⟨o,es,q,j,r⟩,_⟩:=id I.loc;obtain⟨sl,l⟩:=u.any j I.free (by simp)
 exact I.step (ch:=[]) (λ_ z=>nomatch z) (λb o _ i _ e n=>u.keep b o e n i (by simp)) (λb o _ i _ e n=>u.slot b o e n i (by simp)) (λb o _ e n=>u.free b o e n (by simp)) (λb o _ e=>u.there b o e (by simp)) u.tups u.frzs u.tbls (λt hm=>by
  obtain⟨o',g,d,c,p⟩:=hm;rw[j]at c;cases c;exact⟨_,g,d,l,p⟩) hok I.bare
def Inv.call(I:Inv X pins σ H s)(u:Un (frs X.stack) ch H H' s.heap h')(hok:HOk X.prog X.w H' h')(y:kG g')
 (g:∀b∈ch,(b∈X.ex\/X.s₀.heap.objs.size<=b)/\b≠X.env.locals/\(∀x c,X.env.cells.lookup x=aa c->c≠b)/\∀p∈X.pn++pins,p.1≠b):
  Inv X pins σ H' {s with heap:=h',gens:=g',drawn:=d',toks:=t'}:=by
 obtain⟨m,⟨o,es,B,t,r⟩,_⟩:=id I.loc;obtain⟨sl,q⟩:=u.any t I.free λz=>(g _ z).2.1 rfl
 exact I.step g (λb o q v d e n=>u.keep b o e n (λz=>(b8.mp (I.stkSub b z)).elim q v) d) (λb o _ _ d e n=>u.any e n d) (λb o d e n=>u.free b o e n d) (λb o d e=>u.there b o e d) u.tups u.frzs u.tbls (λC hm=>by
  obtain⟨o',l,j,i,A⟩:=hm;rw[t]at i;cases i;exact⟨_,l,j,q,A⟩) hok y
variable{it:Addr}
def Inv.turned(I:Inv X pins σ H s)(k:∀b o,b≠it->s.heap.get? b=aa o->h'.get? b=aa o)(hn:H it=ab)(i:it≠X.env.locals)
 (h1:it∈X.ex\/X.s₀.heap.objs.size<=it)(h2:∀x c,X.env.cells.lookup x=aa c->c≠it)(l:∀p∈X.pn++pins,p.1≠it):Inv X pins σ H {s with heap:=h',toks:=t'}:=by
 have g:∀b u,H b=aa u->b≠it:=λb u e z=>by rw[z,hn]at e;nomatch e
 refine I.step (ch:=[it]) (λb t=>?_) (λb o _ _ d e _=>k b o (λz=>d (by simp[z])) e) (λb o _ _ d e _=>⟨o.slots,k b o (λz=>d (by simp[z])) e⟩) (λ_ _ _ _ n=>n)
  (λb o d e=>⟨o,k b o (λz=>d (by simp[z])) e⟩) (λ_ _ e=>e) (λ_ _ _ e=>e) (λb ps e=>⟨#[],by rw[e];simp⟩) (λm hm=>?_) (λb u e=>?_) I.bare
 .have e:b=it:=by simpa using t
  subst e;exact⟨h1,i,h2,l⟩
 .obtain⟨o,es,j,y,r⟩:=hm;exact⟨o,es,j,k _ o (ce i) y,r⟩
 .refine(I.hok b u e).stay (λc v d q=>k c v ?_ q) (λ_ q=>q) λ_ _ q=>q
  rcases d with z |z
  .rw[z];exact g b u e
  .exact g c _ z
def Inv.tok(I:Inv X pins σ H s)(t:Nat):Inv X pins σ H {s with toks:=t}:=I.un Un.refl I.hok
def Inv.kept(I:Inv X pins σ H s)(k:∀b u,s.heap.get? b=aa u->h'.get? b=aa u):Inv X pins σ H {s with heap:=h',toks:=t'}:=I.un (Un.kept k) (I.hok.kept k)
def Inv.laid{o:HO}(I:Inv X pins σ H s)(k:∀b u,s.heap.get? b=aa u->h'.get? b=aa u)(c:s.heap.objs.size<=a)(new:fM X.prog X.w (upd H a o) h' a o):
  Inv X pins σ (upd H a o) {s with heap:=h',toks:=t'}:=I.un (Un.laid k c (I.hok.fresh c)) (I.hok.laid k c new)
def Inv.write{o:HO}(I:Inv X pins σ H s)(g:Mut (H x))(d:e=x\/H e=aa (.own x))(k:∀b u,b≠e->s.heap.get? b=aa u->h'.get? b=aa u)(c:∃u,h'.get? e=aa u)
 (new:fM X.prog X.w (upd H x o) h' x o):Inv X pins σ (upd H x o) {s with heap:=h',toks:=t'}:=I.un (Un.write g d k c) (I.hok.write g d k c new)
def Inv.pins_of{c:PNS}(I:Inv X pins σ H s)(h:∀p∈c,s.heap.get? p.1=aa p.2/\H p.1=ab/\p.1≠X.env.locals/\p.1∉X.fs/\∀v,p.2.data≠.cell v):Inv X c σ H s:=
 ⟨I.ok,I.os,I.bare,I.base,I.loc,I.cell,I.free,I.freeC,λp d=>(cC.mp d).elim (λz=>I.pin p (f6 _ z)) (h p),I.hok,I.len⟩
variable{N:LSt}{i:Nat}{x:Str}
def B0(g:N.Nodup){j:Nat}(a:N[i]?=aa x)(b:N[j]?=aa x):i=j:=by
 obtain⟨h1,c⟩:=eD.mp a;obtain⟨h2,d⟩:=eD.mp b;exact(List.getElem_inj g).mp (c.trans d.symm)
variable{M:Model}{A:eI}{E:PRS}{v:V}{u:Value}{Q:Unit->aI->Prop}
def B1(I:Inv X pins σ H s)(hN:X.N.Nodup)(hi:X.N[i]?=aa x)(C:Loc X.env.scope x)(r:aR v u)
 (h:∀s',Inv X pins (σ.set i (aa v)) H s'->(∃a,iQ a s.heap s'.heap/\(a=X.env.locals\/X.env.cells.lookup x=aa a))->Q () s')(hf:LcF X x:=by first |exact .inl rfl |exact .inr rfl |assumption):wpAny M A (storeName X.env x u) Q E s:=by
 obtain⟨m,hn,hl⟩:=id I.loc;have hcls:(X.env.scope.kind==.class || (X.env.scope.kind==.module && X.env.locals != X.env.globals))=ag:=by rw[I.ok.kind];rfl
 have L:i<σ.length:=by rw[I.len];exact(eD.mp hi).1
 have cne:=I.cne
 have t:∀{a:Addr} {h':Heap},(∃o,s.heap.get? a=aa o/\H a=ab)->iQ a s.heap h'->HOk X.prog X.w H h':=λ{a h'} ha g b ob e=>by
  obtain⟨_,_,G⟩:=ha;refine(I.hok b ob e).stay (λc w' B q=>(g.2 c ?_).trans q) (λ_ q=>q) λ_ _ q=>q;rintro rfl
  rcases B with rfl |B
  .rw[G]at e;nomatch e
  .rw[G]at B;nomatch B
 rcases C with hk |hk
 .refine wpAny_storeName_local hk hn (λh' hn' g=>?_) hcls;obtain⟨oL,_,_,hoL,_⟩:=id hn;refine h _ ⟨I.ok,I.os,I.bare,⟨λb o e n T C=>((g.2 b (cy (f8 (bD e) I.ok.above))).trans (I.base.keep b o e n T C)),λb o e n T C=>?_,I.base.free,λb o e C=>?_,I.base.tups,I.base.frzs,I.base.tbls⟩,⟨_,hn',λj y v' l J e3=>?_⟩,λy c e=>?_,I.free,I.freeC,λp hp=>?_,t ⟨oL,hoL,I.free⟩ g,by simpa using I.len⟩ ⟨_,g,.inl rfl⟩
  .obtain⟨sl,l⟩:=I.base.slot b o e n T C;exact⟨sl,(g.2 b (cy (f8 (bD e) I.ok.above))).trans l⟩
  .obtain⟨o',l⟩:=I.base.there b o e C;exact⟨o',(g.2 b (cy (f8 (bD e) I.ok.above))).trans l⟩
  .by_cases Y:j=i
   .subst Y;rw[hi]at l;cases l;rw[ji L]at J;cases J;exact⟨u,r,.inl ⟨hk,by simp⟩⟩
   .rw[fZ (ce Y)]at J;obtain⟨u',r',q⟩:=hl j y v' l J e3;refine⟨u',r',?_⟩
    rcases q with⟨k,e⟩ |⟨k,c,e,z⟩
    .refine .inl ⟨k,?_⟩;have:y≠x:=λe=>Y (B0 hN l (e▸hi));simp[this,e]
    .exact .inr ⟨k,c,e,z.sameBut g (cne y c e)⟩
  .obtain⟨w',z⟩:=I.cell y c e;exact⟨w',z.sameBut g (cne y c e)⟩
  .obtain⟨e,n,ne,nf,d⟩:=I.pin p hp;exact⟨(g.2 p.1 ne).trans e,n,ne,nf,d⟩
 .have U:X.fn x=ac:=by
   rcases hf with z |z
   .exact z
   .rw[z]at hk;nomatch hk
  obtain⟨c,B⟩:=I.ok.has x (.inl hk);obtain⟨w',z⟩:=I.cell x c B;refine wpAny_storeName_cell I.ok.kind hk B z (λh' hc' g=>?_);obtain⟨oc,hoc,hocd⟩:=id z
  refine h {s with heap:=h'} ⟨I.ok,I.os,I.bare,⟨λb o e n T C=>((g.2 b (cy (f8 (bD e) (I.ok.cab x c U B)))).trans (I.base.keep b o e n T C)),λb o e n T C=>?_,I.base.free,λb o e C=>?_,I.base.tups,I.base.frzs,I.base.tbls⟩,⟨m,hn.sameBut g (ce (cne x c B)),λj y v' l J e3=>?_⟩,λy c' e=>?_,I.free,I.freeC,λp hp=>?_,t ⟨oc,hoc,I.freeC x c B⟩ g,by simpa using I.len⟩ ⟨c,g,.inr B⟩
  .obtain⟨sl,l⟩:=I.base.slot b o e n T C;exact⟨sl,(g.2 b (cy (f8 (bD e) (I.ok.cab x c U B)))).trans l⟩
  .obtain⟨o',l⟩:=I.base.there b o e C;exact⟨o',(g.2 b (cy (f8 (bD e) (I.ok.cab x c U B)))).trans l⟩
  .by_cases Y:j=i
   .subst Y;rw[hi]at l;cases l;rw[ji L]at J;cases J;exact⟨u,r,.inr ⟨.inl hk,c,B,hc'⟩⟩
   .rw[fZ (ce Y)]at J;obtain⟨u',r',q⟩:=hl j y v' l J e3;refine⟨u',r',?_⟩
    rcases q with q |⟨k,c',e,z'⟩
    .exact .inl q
    .refine .inr ⟨k,c',e,z'.sameBut g ?_⟩;rintro rfl;exact Y (B0 hN l (I.ok.inj _ _ _ e B▸hi))
  .by_cases hcc:c'=c
   .subst hcc;exact⟨_,hc'⟩
   .obtain⟨w2,z2⟩:=I.cell y c' e;exact⟨w2,z2.sameBut g hcc⟩
  .obtain⟨e,n,ne,nf,d⟩:=I.pin p hp;refine⟨(g.2 p.1 ?_).trans e,n,ne,nf,d⟩;intro q;rw[q,hoc]at e;exact d w' (by rw[<- (cz e)];exact hocd)
def xy(I:Inv X pins σ H s)(d:X.N.Nodup)(hi:X.N[i]?=aa x)(j:Loc X.env.scope x)(r:aR v u)
 (h:∀s',Inv X pins (σ.set i (aa v)) H s'->Q () s')(g:LcF X x:=by first |exact .inl rfl |exact .inr rfl |assumption):wpAny M A (storeName X.env x u) Q E s:=
 B1 I d hi j r (λs' c _=>h s' c) g
variable{s':aI}
def Inv.call'(I:Inv X pins σ H s)(j:s'.os=s.os)(u:Un (frs X.stack) ch H H' s.heap s'.heap)(hok:HOk X.prog X.w H' s'.heap)(g:kG s'.gens)
 (d:∀b∈ch,(b∈X.ex\/X.s₀.heap.objs.size<=b)/\b≠X.env.locals/\(∀x c,X.env.cells.lookup x=aa c->c≠b)/\∀p∈X.pn++pins,p.1≠b):Inv X pins σ H' s':=by
 obtain⟨h',g',d',t',o'⟩:=s';subst j;exact I.call u hok g d
@[reducible]noncomputable def XK:=Value->Option Addr->Hp->Prop
@[reducible]noncomputable def St:=List (Option V)
@[reducible]noncomputable def VK:=V->Hp->Prop
@[reducible]noncomputable def TE:=St->Hp->VK->Prop
@[reducible]noncomputable def TT:=St->Hp->(Bool->Hp->Prop)->Prop
@[reducible]noncomputable def TA:=St->Hp->(List V->Hp->Prop)->Prop
structure jU where
 nx:St->Hp->Prop
 rt:VK
 bk:St->Hp->Prop:=λ_ _=>False
 ct:St->Hp->Prop:=λ_ _=>False
@[reducible]noncomputable def TS:=jU->St->Hp->Prop
abbrev EP(X:Cx)(pins:PNS)(σ:St)(Q:VK)(u:Value)(s':aI):Prop:=∃v H',Inv X pins σ H' s'/\aR v u/\Q v H'
abbrev TP(X:Cx)(pins:PNS)(σ:St)(Q:Bool->Hp->Prop)(b:Bool)(s':aI):Prop:=∃H',Inv X pins σ H' s'/\Q b H'
abbrev AP(X:Cx)(pins:PNS)(σ:St)(Q:List V->Hp->Prop)(us:LVa)(s':aI):Prop:=∃vs H',Inv X pins σ H' s'/\aX vs us/\Q vs H'
abbrev SP(X:Cx)(pins:PNS)(D:jU)(f:Flow)(s':aI):Prop:=
 match f with
 |.next=>∃σ' H',Inv X pins σ' H' s'/\D.nx σ' H'
 |.brk=>∃σ' H',Inv X pins σ' H' s'/\D.bk σ' H'
 |.cont=>∃σ' H',Inv X pins σ' H' s'/\D.ct σ' H'
 |.ret u=>∃v σ' H',Inv X pins σ' H' s'/\aR v u/\D.rt v H'
abbrev PE(X:Cx)(e:Expr)(t:TE):Prop:=
 ∀(pins:PNS) (s:aI) (σ:St) (H:Hp) (Q:VK),Inv X pins σ H s->t σ H Q->wpAny (model X.prog X.w) X.A (eval e X.env) (EP X pins σ Q) X.xe s
abbrev PT(X:Cx)(e:Expr)(t:TT):Prop:=
 ∀(pins:PNS) (s:aI) (σ:St) (H:Hp) (Q:Bool->Hp->Prop),Inv X pins σ H s->t σ H Q->wpAny (model X.prog X.w) X.A (isTrue e X.env (eval e X.env)) (TP X pins σ Q) X.xe s
abbrev PW(X:Cx)(e:Expr)(t:TT):Prop:=
 ∀(c:Sem Value) (pins:PNS) (s:aI) (σ:St) (H:Hp) (Q:Bool->Hp->Prop),Inv X pins σ H s->t σ H Q->wpAny (model X.prog X.w) X.A (isTrue e X.env c) (TP X pins σ Q) X.xe s
variable{e:Expr}
def PW.pt{t:TT}(h:PW X e t):PT X e t:=h _
abbrev PA(X:Cx)(es:LEx)(t:TA):Prop:=
 ∀(pos:Pos) (pins:PNS) (s:aI) (σ:St) (H:Hp) (Q:List V->Hp->Prop),Inv X pins σ H s->t σ H Q->wpAny (model X.prog X.w) X.A (spliced (fT pos (aY es X.env))) (AP X pins σ Q) X.xe s
abbrev PS(X:Cx)(st:Stmt)(t:TS):Prop:=
 ∀(pins:PNS) (s:aI) (σ:St) (H:Hp) (D:jU),Inv X pins σ H s->t D σ H->wpAny (model X.prog X.w) X.A (exec st X.env) (SP X pins D) X.xe s
abbrev PSs(X:Cx)(st:List Stmt)(t:TS):Prop:=
 ∀(pins:PNS) (s:aI) (σ:St) (H:Hp) (D:jU),Inv X pins σ H s->t D σ H->wpAny (model X.prog X.w) X.A (execs st X.env) (SP X pins D) X.xe s
def thn{d:Type}{t:Sem d}{Q c:d->aI->Prop}(h:wpAny M A t Q E s)(g:∀a s,Q a s->c a s):wpAny M A t c E s:=gj h g λ_ _ x=>x
abbrev eV(i:Nat):TE:=λσ H Q=>∃v,σ[i]?=aa (aa v)/\Q v H
abbrev tC(v:V):TE:=λ_ H Q=>Q v H
def jV{pos:Pos}(q:X.N[i]?=aa x)(y:Vis X.env.scope x)(hd:NDb x:=by decide)(n:NCd x:=by decide):PE X (.Name x pos) (eV i):=by
 intro pins s σ H Q I h;obtain⟨v,e,h⟩:=h;obtain⟨m,hn,t⟩:=I.loc;obtain⟨u,r,l⟩:=t i x v q e y;have g:EP X pins σ Q u s:=⟨v,H,I,r,h⟩
 rcases l with⟨j,hm⟩ |⟨j,c,p,d⟩
 .exact wpAny_Name (wpAny_loadName_local I.ok.kind j hn hm g) hd
 .rcases j with j |j
  .exact wpAny_Name (wpAny_loadName_cell I.ok.kind j p d g) hd
  .exact wpAny_Name (wpAny_loadName_free I.ok.kind j p d g n) hd
def HJ{i j pos}:PE X (.Constant (.int i) j pos) (tC (.int i)):=λ_ _ _ H _ I h=>wpAny_Constant_int ⟨.int i,H,I.tok _,⟨_,rfl⟩,h⟩
def HK{b j pos}:PE X (.Constant (.bool b) j pos) (tC (.bl b)):=λ_ _ _ H _ I h=>Constant_bool ⟨.bl b,H,I,rfl,h⟩
def HL{j pos}:PE X (.Constant .none j pos) (tC .non):=λ_ _ _ H _ I h=>Constant_none ⟨.non,H,I,rfl,h⟩
def mY{x j pos}:PE X (.Constant (.str x) j pos) (tC (.str x)):=λ_ _ _ H _ I h=>Calls.Constant_str ⟨.str x,H,I.tok _,⟨_,rfl⟩,h⟩
abbrev Gl(X:Cx)(x:Str):Prop:=X.env.kindOf x=aa .globalImplicit
variable{σ:St}
def B2{pos:Pos}{Q:PRS}(I:Inv X pins σ H s)(c:Gl X x)(hm:X.mg x=aa u)(h:Q u s)
 (hd:NDb x:=by decide):wpAny (model X.prog X.w) X.A (eval (.Name x pos) X.env) Q E s:=
 Calls.Name_function_global I.ok.kind c (Calls.loadGlobal_global (by rw[I.ok.glob];exact I.mod.glob.keeps I.bk) hm h) hd
def iU{pos:Pos}{Q:PRS}(I:Inv X pins σ H s)(c:Gl X x)(hm:X.mg x=ab)(d:gR x=aa u)(h:Q u s)
 (hn:x ≠ "__name__":=by decide)(hd:NDb x:=by decide):wpAny (model X.prog X.w) X.A (eval (.Name x pos) X.env) Q E s:=by
 obtain⟨mb,h1,h2⟩:=I.mod.blt;exact Calls.Name_function_global I.ok.kind c (Calls.loadGlobal_builtin (by rw[I.ok.glob];exact I.mod.glob.keeps I.bk) hm (by rw[I.ok.blt];exact h1.keeps I.bk) ((h2 x hn).trans d) h) hd
def B3{pos:Pos}(c:Gl X x)(hm:X.mg x=aa u)(r:aR v u)(hd:NDb x:=by decide):PE X (.Name x pos) (tC v):=
 λ_ _ _ H _ I h=>B2 I c hm ⟨v,H,I,r,h⟩ hd
def HM{pos:Pos}(c:Gl X x)(hm:X.mg x=ab)(d:gR x=aa u)(r:aR v u)(hn:x ≠ "__name__":=by decide)(hd:NDb x:=by decide):PE X (.Name x pos) (tC v):=
 λ_ _ _ H _ I h=>iU I c hm d ⟨v,H,I,r,h⟩ hn hd
abbrev HN(t u:TT):TT:=λσ H Q=>t σ H λc H1=>if c=ac then u σ H1 Q else Q ag H1
abbrev tOr(t u:TT):TT:=λσ H Q=>t σ H λc H1=>if c=ac then Q ac H1 else u σ H1 Q
abbrev HP(t:TT):TT:=λσ H Q=>t σ H λc H1=>Q (!c) H1
variable{a:Expr}{tA:TT}
def B4{pos:Pos}(ha:PT X a tA):PW X (.BoolOp .And [a] pos) tA:=by
 intro d pins s σ H Q I h;refine isTrue_and (thn (ha pins s σ H Q I h) λc s1 e=>?_)
 cases c with
 |true=>exact isTrue_and_nil e
 |false=>exact e
def HQ{pos:Pos}(ha:PT X a tA):PW X (.BoolOp .Or [a] pos) tA:=by
 intro d pins s σ H Q I h;refine isTrue_or (thn (ha pins s σ H Q I h) λc s1 e=>?_)
 cases c with
 |false=>exact isTrue_or_nil e
 |true=>exact e
variable{b:Expr}{tB':TT}
def B5{pos:Pos}{bv:LEx}(ha:PT X a tA)(j:PW X (.BoolOp .And (b::bv) pos) tB'):PW X (.BoolOp .And (a::b::bv) pos) (HN tA tB'):=by
 intro m pins s σ H Q I h;refine isTrue_and (thn (ha pins s σ H _ I h) λc s1 l=>?_);obtain⟨H1,d,g⟩:=l
 cases c with
 |true=>exact j m pins s1 σ H1 Q d g
 |false=>exact⟨H1,d,g⟩
def HR{pos:Pos}{bv:LEx}(ha:PT X a tA)(j:PW X (.BoolOp .Or (b::bv) pos) tB'):PW X (.BoolOp .Or (a::b::bv) pos) (tOr tA tB'):=by
 intro m pins s σ H Q I h;refine isTrue_or (thn (ha pins s σ H _ I h) λc s1 l=>?_);obtain⟨H1,d,g⟩:=l
 cases c with
 |true=>exact⟨H1,d,g⟩
 |false=>exact j m pins s1 σ H1 Q d g
def HS{pos:Pos}(ha:PT X a tA):PT X (.UnaryOp .Not a pos) (HP tA):=by
 intro pins s σ H Q I h;exact isTrue_not (ha pins s σ H _ I h)
abbrev HU(d tb:TE):TE:=λσ H Q=>d σ H λx H1=>∃c,x=.bl c/\if c=ac then tb σ H1 Q else Q (.bl ag) H1
abbrev HV(d tb:TE):TE:=λσ H Q=>d σ H λx H1=>∃c,x=.bl c/\if c=ac then Q (.bl ac) H1 else tb σ H1 Q
abbrev HW(d:TE):TE:=λσ H Q=>d σ H λx H1=>∃c,x=.bl c/\Q (.bl (!c)) H1
def HX{pos:Pos}{op}{t:TE}(h:PE X a t):PE X (.BoolOp op [a] pos) t:=λpins s σ H Q I c=>BoolOp_one (h pins s σ H Q I c)
variable{ta tb:TE}
def HY{pos:Pos}{bv:LEx}(ha:PE X a ta)(j:PE X (.BoolOp .And (b::bv) pos) tb):PE X (.BoolOp .And (a::b::bv) pos) (HU ta tb):=by
 intro pins s σ H Q I h;refine BoolOp_and (thn (ha pins s σ H _ I h) λv s1 l=>?_);obtain⟨x,H1,g,m,d⟩:=l;obtain⟨c,rfl,d⟩:=d;subst m;refine lE ?_
 cases c with
 |true=>exact j pins s1 σ H1 Q g d
 |false=>exact⟨.bl ag,H1,g,rfl,d⟩
def HZ{pos:Pos}{bv:LEx}(ha:PE X a ta)(j:PE X (.BoolOp .Or (b::bv) pos) tb):PE X (.BoolOp .Or (a::b::bv) pos) (HV ta tb):=by
 intro pins s σ H Q I h;refine BoolOp_or (thn (ha pins s σ H _ I h) λv s1 l=>?_);obtain⟨x,H1,g,m,d⟩:=l;obtain⟨c,rfl,d⟩:=d;subst m;refine lE ?_
 cases c with
 |false=>exact j pins s1 σ H1 Q g d
 |true=>exact⟨.bl ac,H1,g,rfl,d⟩
def Ia{pos:Pos}(ha:PE X a ta):PE X (.UnaryOp .Not a pos) (HW ta):=by
 intro pins s σ H Q I h;refine UnaryOp_ (thn (ha pins s σ H _ I h) λv s1 j=>?_);obtain⟨x,H1,g,l,d⟩:=j;obtain⟨c,rfl,d⟩:=d;subst l;exact not_of (lE ⟨.bl (!c),H1,g,rfl,d⟩)
abbrev tIf(t:TT)(ta tb:TE):TE:=λσ H Q=>t σ H λc H1=>if c=ac then ta σ H1 Q else tb σ H1 Q
variable{c:Expr}
def B6{pos:Pos}(m:PT X c tA)(ha:PE X a ta)(l:PE X b tb):PE X (.IfExp c a b pos) (tIf tA ta tb):=by
 intro pins s σ H Q I h;refine wpAny_IfExp (thn (m pins s σ H _ I h) λd s1 n=>?_);obtain⟨H1,g,j⟩:=n
 cases d with
 |true=>exact ha pins s1 σ H1 Q g j
 |false=>exact l pins s1 σ H1 Q g j
abbrev SqL(K:bm)(H:Hp)(a:Addr)(xs:List V):Prop:=
 Rd H a (.lst xs) \/
  ∃(o:Obj) (its:Array Value) (n:Nat),K.lookup a=aa o/\o.cls=.type "list" /\ o.dict=ab/\o.data=.seq its n/\its.size<=aW/\aX xs its.toList
abbrev SqT(K:bm)(H:Hp)(a:Addr)(xs:List V):Prop:=
 Rd H a (.tup xs) \/
  ∃(o:Obj) (its:Array Value) (n:Nat),K.lookup a=aa o/\o.cls=.type "tuple" /\ o.data=.seq its n/\its.size<=aW/\aX xs its.toList
abbrev Ib:Value->Option V
 |.none=>aa .non
 |.bool b=>aa (.bl b)
 |.int i _=>aa (.int i)
 |.str x _=>aa (.str x)
 |.bytes b _=>aa (.byt b)
 |.float b _=>aa (.flt b)
 |.ref a=>aa (.ref a)
 |.type n=>aa (.ty n)
 | _=>ab
def aR.abs{x:V}(r:aR x u):Ib u=aa x:=by
 cases x with
 |non=>subst r;rfl
 |bl _=>subst r;rfl
 |int _=>obtain⟨t,rfl⟩:=r;rfl
 |str _=>obtain⟨t,rfl⟩:=r;rfl
 |byt _=>obtain⟨t,rfl⟩:=r;rfl
 |flt _=>obtain⟨t,rfl⟩:=r;rfl
 |ref _=>subst r;rfl
 |ty _=>subst r;rfl
variable{y:V}
def aR.inj{x:V}(r:aR x u)(q:aR y u):x=y:=cz (r.abs.symm.trans q.abs)
def aX.inj:∀{xs d:List V} {us:LVa},aX xs us->aX d us->xs=d
 | _,_,_,.nil,.nil=>rfl
 | _,_,_,.cons r t,.cons r' t'=>by rw[r.inj r',aX.inj t t']
variable{a:Addr}{K:bm}
def SqL.of(h:H a=aa (.lst xs)):SqL K H a xs:=.inl (.inl h)
def SqT.of(h:H a=aa (.tup xs)):SqT K H a xs:=.inl (.inl h)
def Inv.list(I:Inv X pins σ H s)(h:SqL X.K H a xs):∃its:LVa,aX xs its/\PlainL s.heap a its.toArray/\xs.length<=aW:=by
 rcases h with h |⟨o,its,n,hk,hc,hd,hs,hz,r⟩
 .obtain⟨z,its,n,r,e⟩:=h.ok I.hok;exact⟨its,r,⟨_,n,e,rfl,rfl,rfl⟩,z⟩
 .refine⟨its.toList,r,⟨o,n,I.kIn a o hk,hc,hd,by simpa using hs⟩,?_⟩;have e:=r.length;simp only[pP]at e;lia
def Inv.tuple(I:Inv X pins σ H s)(h:SqT X.K H a xs):∃its:LVa,aX xs its/\IsTup s.heap a its.toArray/\xs.length<=aW:=by
 rcases h with h |⟨o,its,n,hk,hc,hs,hz,r⟩
 .obtain⟨z,its,r,p⟩:=h.ok I.hok;exact⟨its,r,p,z⟩
 .refine⟨its.toList,r,⟨o,I.kIn a o hk,hc,n,by simpa using hs⟩,?_⟩;have e:=r.length;simp only[pP]at e;lia
variable{ys:List V}
def Inv.list_inj(I:Inv X pins σ H s)(h:SqL X.K H a xs)(h':SqL X.K H a ys):xs=ys:=by
 obtain⟨its,r,⟨o,n,e,_,_,d⟩,_⟩:=I.list h;obtain⟨g,l,⟨o',m,j,_,_,d'⟩,_⟩:=I.list h';rw[e]at j;cases j;rw[d]at d'
 injection d' with d1 _
 have:its=g:=by simpa using congrArg Array.toList d1
 subst this;exact r.inj l
def Inv.tuple_inj(I:Inv X pins σ H s)(h:SqT X.K H a xs)(h':SqT X.K H a ys):xs=ys:=by
 obtain⟨its,r,⟨o,e,_,n,d⟩,_⟩:=I.tuple h;obtain⟨g,l,⟨o',j,_,m,d'⟩,_⟩:=I.tuple h';rw[e]at j;cases j;rw[d]at d'
 injection d' with d1 _
 have:its=g:=by simpa using congrArg Array.toList d1
 subst this;exact r.inj l
@[reducible]noncomputable def Cx.wish(X:Cx)(E:PRS):Cx:={X with xe:=E}
@[reducible]noncomputable def Cx.nox(X:Cx):Cx:=X.wish λ_ _=>False
def Cx.Ok.wish(ok:X.Ok)(E:PRS):(X.wish E).Ok:=
 ⟨ok.mod,ok.kind,ok.glob,ok.blt,ok.above,ok.inj,ok.has,ok.cab,ok.hd,ok.frames,ok.stk,ok.exf,ok.bs,ok.bsz,ok.noex,ok.exfs,ok.funs,ok.frf⟩
def Cx.Ok.unwish(ok:(X.wish E).Ok):X.Ok:=
 ⟨ok.mod,ok.kind,ok.glob,ok.blt,ok.above,ok.inj,ok.has,ok.cab,ok.hd,ok.frames,ok.stk,ok.exf,ok.bs,ok.bsz,ok.noex,ok.exfs,ok.funs,ok.frf⟩
def Inv.wish(I:Inv X pins σ H s)(E:PRS):Inv (X.wish E) pins σ H s:=⟨I.ok.wish E,I.os,I.bare,I.base,I.loc,I.cell,I.free,I.freeC,I.pin,I.hok,I.len⟩
def Inv.unwish(I:Inv (X.wish E) pins σ H s):Inv X pins σ H s:=⟨I.ok.unwish,I.os,I.bare,I.base,I.loc,I.cell,I.free,I.freeC,I.pin,I.hok,I.len⟩
def SP.unwish{D:jU}{f:Flow}(h:SP (X.wish E) pins D f s'):SP X pins D f s':=by
 cases f with
 |next=>obtain⟨σ',H',I,q⟩:=h;exact⟨σ',H',I.unwish,q⟩
 |brk=>obtain⟨σ',H',I,q⟩:=h;exact⟨σ',H',I.unwish,q⟩
 |cont=>obtain⟨σ',H',I,q⟩:=h;exact⟨σ',H',I.unwish,q⟩
 |ret u=>obtain⟨v,σ',H',I,r,q⟩:=h;exact⟨v,σ',H',I.unwish,r,q⟩
variable{t:TS}
def PSs.nox{st:List Stmt}(h:PSs X.nox st t):PSs X st t:=λpins s σ H D I d=>
 gj (h pins s σ H D (I.wish _) d) (λ_ _ q=>q.unwish) λ_ _ z=>jN z
abbrev Ic:TS:=λD σ H=>D.nx σ H
abbrev Ie(t u:TS):TS:=λD σ H=>t {D with nx:=u D} σ H
def Ig:PSs X [] Ic:=λ_ _ σ H _ I h=>wpAny_execs_nil ⟨σ,H,I,h⟩
variable{st:Stmt}{u:TS}
def Ih{bv:List Stmt}(h1:PS X st t)(h2:PSs X bv u):PSs X (st::bv) (Ie t u):=by
 intro pins s σ H D I h
 refine wpAny_execs_cons (thn (h1 pins s σ H {D with nx:=u D} I h) λf s1 q=>?_)
 cases f with
 |next=>
  obtain⟨σ',H',d,q⟩:=q
  exact h2 pins s1 σ' H' D d q
 |ret v=>exact q
 |brk=>exact q
 |cont=>exact q
def Ii(h1:PS X st t):PSs X [st] t:=by
 intro pins s σ H D I h;refine wpAny_execs_cons (thn (h1 pins s σ H D I h) λf s1 q=>?_)
 cases f with
 |next=>exact wpAny_execs_nil q
 |ret v=>exact q
 |brk=>exact q
 |cont=>exact q
abbrev Ij:TS:=λD σ H=>D.ct σ H
def Ik{pos:Pos}:PS X (.Continue pos) Ij:=λ_ _ σ H _ I h=>wpAny_Continue ⟨σ,H,I,h⟩
def Inv.quiet(I:Inv X pins σ H s):interactive X.env=ag:=by simp[interactive,I.ok.kind]
abbrev lJ(te:TE):TS:=λD σ H=>te σ H λ_ H1=>D.nx σ H1
variable{te:TE}
def du{pos:Pos}(g:PE X e te)(j:fR e ab pos.line X.env=pure ag:=by rfl):PS X (.Expr e pos) (lJ te):=by
 intro pins s σ H D I h;exact wpAny_Expr_any (thn (g pins s σ H _ I h) λv s1 ⟨x,H1,d,m,l⟩=>⟨σ,H1,d,l⟩) I.quiet j
abbrev Il(te:TE):TS:=λD σ H=>te σ H D.rt
def oD{pos:Pos}(g:PE X e te):PS X (.Return (aa e) pos) (Il te):=by
 intro pins s σ H D I h;exact wpAny_Return_some (thn (g pins s σ H _ I h) λv s1 ⟨x,H1,d,l,j⟩=>⟨x,σ,H1,d,l,j⟩)
abbrev Im(c:TT)(t u:TS):TS:=λD σ H=>c σ H λb H1=>if b=ac then t D σ H1 else u D σ H1
def B7{pos:Pos}{a b:List Stmt}{l:TT}(n:PT X c l)(ha:PSs X a t)(m:PSs X b u):PS X (.If c a b pos) (Im l t u):=by
 intro pins s σ H D I h;refine wpAny_If (thn (n pins s σ H _ I h) λd s1 p=>?_);obtain⟨H1,g,j⟩:=p
 cases d with
 |true=>exact ha pins s1 σ H1 D g j
 |false=>exact m pins s1 σ H1 D g j
@[reducible]noncomputable def TG:=V->St->Hp->(St->Hp->Prop)->Prop
@[reducible]noncomputable def TGs:=List V->St->Hp->(St->Hp->Prop)->Prop
abbrev PG(X:Cx)(d:Expr)(t:TG):Prop:=
 ∀(pins:PNS) (s:aI) (σ:St) (H:Hp) (v:V) (u:Value) (Q:St->Hp->Prop),Inv X pins σ H s->aR v u->t v σ H Q ->
  wpAny (model X.prog X.w) X.A (h9 d X.env u) (λ_ s'=>∃σ' H',Inv X pins σ' H' s'/\Q σ' H') X.xe s
abbrev PGs(X:Cx)(d:LEx)(t:TGs):Prop:=
 ∀(pins:PNS) (s:aI) (σ:St) (H:Hp) (vs:List V) (us:LVa) (Q:St->Hp->Prop),Inv X pins σ H s->aX vs us->t vs σ H Q ->
  wpAny (model X.prog X.w) X.A (assignInOrder ((fj d X.env).map (·.2)) us) (λ_ s'=>∃σ' H',Inv X pins σ' H' s'/\Q σ' H') X.xe s
@[reducible]noncomputable def xz:=V->V->V->Hp->(Hp->Prop)->Prop
abbrev B8(X:Cx)(t:xz):Prop:=
 ∀(pins:PNS) (s:aI) (σ:St) (H:Hp) (o i v:V) (ov d u:Value) (Q:Hp->Prop),Inv X pins σ H s->aR o ov->aR i d->aR v u->t o i v H Q ->
  wpAny (model X.prog X.w) X.A (setItem ov d u) (λ_ s'=>∃H',Inv X pins σ H' s'/\Q H') X.xe s
@[reducible]noncomputable def TIp:=V->V->Hp->VK->Prop
abbrev PIp(X:Cx)(d:Operator)(t:TIp):Prop:=
 ∀(pins:PNS) (s:aI) (σ:St) (H:Hp) (x y:V) (v u:Value) (Q:VK),Inv X pins σ H s->aR x v->aR y u->t x y H Q ->
  wpAny (model X.prog X.w) X.A (inplaceOp d v u) (EP X pins σ Q) X.xe s
abbrev iV(i:Nat):TG:=λv σ H Q=>Q (σ.set i (aa v)) H
def qd{pos:Pos}(g:X.N.Nodup)(hi:X.N[i]?=aa x)(l:Loc X.env.scope x)(j:LcF X x:=by first |exact .inl rfl |exact .inr rfl |assumption):PG X (.Name x pos) (iV i):=by
 intro pins s σ H v u Q I r h;exact wpAny_assign_Name (xy I g hi l r (λs' d=>⟨_,H,d,h⟩) j)
abbrev B9:TGs:=λvs σ H Q=>vs=[]/\Q σ H
abbrev tN(t:TG)(u:TGs):TGs:=λvs σ H Q=>∃v r,vs=v::r/\t v σ H λσ' H'=>u r σ' H' Q
def Ca:PGs X [] B9:=by
 intro pins s σ H vs us Q I r h;obtain⟨e,h⟩:=h;exact assignInOrder_nil ⟨σ,H,I,h⟩
variable{es:LEx}
def tO{t:TG}{u:TGs}(h1:PG X e t)(h2:PGs X es u)
 (l:(fj (e::es) X.env).map (·.2)=h9 e X.env::(fj es X.env).map (·.2):=by rfl):PGs X (e::es) (tN t u):=by
 intro pins s σ H vs us Q I r h;obtain⟨v,vr,j,h⟩:=h;subst j
 cases r with
 |cons r n=>
  rw[l];exact assignInOrder_cons (thn (h1 pins s σ H _ _ _ I r h) λ_ s1 ⟨d,H1,g,m⟩=>(h2 pins s1 d H1 _ _ Q g n m))
abbrev Cb(K:bm)(n:Nat)(t:TGs):TG:=λv σ H Q=>∃a xs,v=.ref a/\SqT K H a xs/\xs.length=n/\t xs σ H Q
def Cc{pos:Pos}{k:Nat}{t:TGs}{n:Nat}(m:X.calm=ac)(h:PGs X es t)
 (hn:(fj es X.env).length=n:=by rfl)(d:(fj es X.env).findIdx? (·.1)=ab:=by rfl):PG X (.Tuple es k pos) (Cb X.K n t):=by
 intro pins s σ H v u Q I r g;obtain⟨a,xs,l,q,p,g⟩:=g;subst l;subst r;obtain⟨its,j,z,hz⟩:=I.tuple q;refine assign_Tuple_tuple (I.ok.hd m) z (by simp[hn,<- p,j.length]) d λh' B=>?_;exact h pins _ σ H xs _ Q (I.kept λb o e=>B b o (cy (bD e)) e) (by simpa using j) g
abbrev xA(to g:TE)(t:xz):TG:=λv σ H Q=>to σ H λo H1=>g σ H1 λi H2=>t o i v H2 λd=>Q σ d
def Cd{pos:Pos}{o i:Expr}{to j:TE}{t:xz}(q:PE X o to)(hi:PE X i j)(z:B8 X t)
 (ha:∀ v,h9 (.Subscript o i pos) X.env v=(do
   let ov <- hZ [v] (eval o X.env)
   let d <- hZ [v,ov] (eval i X.env)
   standAt pos
   hZ [v,ov,d] (setItem ov d v)
   release [v,ov,d] []):=by intro _;rfl):PG X (.Subscript o i pos) (xA to j t):=by
 intro pins s σ H v u Q I r h;refine av (fh (thn (q pins s σ H _ I h) λov s1 g=>?_));obtain⟨x,H1,m,J,B⟩:=g;refine av (fh (thn (hi pins s1 σ H1 _ m B) λd s2 g=>?_));obtain⟨y,H2,n,L,C⟩:=g;exact av (tu (av (fh (thn (z pins s2 σ H2 x y v ov d u _ n J L r C) λ_ T ⟨l,p,G⟩=>(wpAny_release ⟨σ,l,p,G⟩)))))
abbrev kK(te:TE)(g:TG):TS:=λD σ H=>te σ H λx H1=>g x σ H1 D.nx
variable{tg:Expr}{g:TG}
def tP{pos:Pos}(j:PE X e te)(l:PG X tg g)(m:p7 [tg] e pos.line X.env=pure ag:=by rfl)(n:p8 [tg] e X.env=pure ab:=by rfl)
 (h1:(fj [tg] X.env).map (·.2)=[h9 tg X.env]:=by rfl):PS X (.Assign [tg] e pos) (kK te g):=by
 intro pins s σ H D I h;refine wpAny_Assign_stores (thn (j pins s σ H _ I h) λv s1 r=>?_) m n;obtain⟨x,H1,d,z,p⟩:=r;rw[h1];exact thn (l pins s1 σ H1 x v _ d z p) λ_ s2 q=>q
variable{b0:Pos}
def lK{pos:Pos}(l:X.N.Nodup)(hi:X.N[i]?=aa x)(q:Loc X.env.scope x)(m:PE X e te)(p:fR e (aa (.Name x b0)) pos.line X.env=pure ag:=by rfl)(n:LcF X x:=by first |exact .inl rfl |exact .inr rfl |assumption):
  PS X (.Assign [.Name x b0] e pos) (kK te (iV i)):=by
 intro pins s σ H D I h;exact wpAny_Assign_Name (thn (m pins s σ H _ I h) λv s1 ⟨y,H1,d,z,r⟩=>(xy d l hi q z (λs2 j=>⟨_,H1,j,r⟩) n)) p
abbrev Io(i:Nat)(te:TE)(d:TIp):TS:=λD σ H=>∃x,σ[i]?=aa (aa x)/\te σ H λy H1=>d x y H1 λz H2=>D.nx (σ.set i (aa z)) H2
variable{op:Operator}
def Ce{pos:Pos}{C:TIp}(U:X.N.Nodup)(hi:X.N[i]?=aa x)(q:Loc X.env.scope x)(he:PE X e te)(ho:PIp X op C)(hf:LcF X x:=by first |exact .inl rfl |exact .inr rfl |assumption):
  PS X (.AugAssign (.Name x b0) op e pos) (Io i te C):=by
 intro pins s σ H D I h;obtain⟨v,T,h⟩:=h;obtain⟨m,hn,hl⟩:=I.loc
 have B:Vis X.env.scope x:=by rcases q with k |k;exact .inl k;exact .inr (.inl k)
 obtain⟨u,r,l⟩:=hl i x v hi T B;refine wpAny_AugAssign_Name ?_
 have go:wpAny (model X.prog X.w) X.A (eval e X.env) (λw n=>wpAny (model X.prog X.w) X.A (inplaceOp op u w) (λr p=>wpAny (model X.prog X.w) X.A (storeName X.env x r) (λ_=>SP X pins D .next) X.xe p) X.xe n) X.xe s:=by
  refine thn (he pins s σ H _ I h) λw s1 q_=>?_;obtain⟨y,H1,G,r1,q1⟩:=q_;exact thn (ho pins s1 σ H1 v y u w _ G r r1 q1) λz s2 ⟨zv,H2,J,r2,q2⟩=>(xy J U hi q r2 (λs3 L=>⟨_,H2,L,q2⟩) hf)
 rcases l with⟨d,hm⟩ |⟨d,c,Y,j⟩
 .exact wpAny_loadName_local I.ok.kind d hn hm go
 .rcases d with d |d
  .exact wpAny_loadName_cell I.ok.kind d Y j go
  .rcases q with k |k
   .have:X.env.scope.names.lookup x=aa .free:=d;rw[k]at this;nomatch this
   .have:X.env.scope.names.lookup x=aa .free:=d;rw[k]at this;nomatch this
abbrev ipI(f:Int->Int->Int):TIp:=λx y H Q=>∃i j,x=.int i/\y=.int j/\Q (.int (f i j)) H
def Ip:PIp X .Add (ipI λi j=>i+j):=by
 intro pins s σ H x y v u Q I m n h;obtain⟨i,j,d,l,q⟩:=h;subst d;subst l;obtain⟨t,rfl⟩:=m;obtain⟨t',rfl⟩:=n;exact iadd_int ⟨.int _,H,I.tok _,⟨_,rfl⟩,q⟩
structure It where
 go:Nat->Hp->Prop
 yld:Nat->Hp->V->Hp->Prop
 stop:Nat->Hp->Prop
abbrev ij(X:Cx)(pins:PNS)(H:Hp)(b:Addr):Prop:=
 H b=ab/\b≠X.env.locals/\b∉X.fs/\(b∈X.ex\/X.s₀.heap.objs.size<=b)/\(∀x c,X.env.cells.lookup x=aa c->c≠b)/\∀p∈X.pn++pins,p.1≠b
def Inv.fpOk{b:Addr}(I:Inv X pins σ H s)(d:s.heap.objs.size<=b)(hn:H' b=ab):ij X pins H' b:=by
 refine⟨hn,lD (f8 I.lt d),I.nofs d,.inr (cV I.sz d),λx c e z=>?_,λp j z=>(absurd (f8 (bD (I.pin p j).1) (by rw[z];exact d)) (jR _))⟩;obtain⟨v,q⟩:=I.cell x c e;exact absurd (f8 q.lt (by rw[z];exact d)) (jR _)
structure jW(P:dn)(w:World)(K:bm)(tg:Expr)(J:It)(fp:LAd)(it:Addr)(tn:Nat->Heap->Prop):Prop where
 mem:it∈fp
 obj:∀i h,tn i h->∀b∈fp,∃o,h.get? b=aa o/\∀v,o.data≠.cell v
 keep:∀i h h',tn i h->(∀b∈fp,∀o,h.get? b=aa o->h'.get? b=aa o)->tn i h'
 item:∀(X:Cx),X.prog=P->X.w=w->X.K=K->X.calm=ac->∀(i:Nat) (pins:PNS) (s:aI) (σ:St) (H:Hp) (E:PRS),Inv X pins σ H s->(∀b∈fp,ij X pins H b)->tn i s.heap->J.go i H ->
  wpAny (model P w) X.A (jo (.ref it)) (λr s1=>∃ u,r=aa u /\
   wpAny (model P w) X.A (letOwnedTupleGo tg (.ref it) u) (λ_ s2=>∃x H',Inv X pins σ H' s2/\aR x u/\J.yld i H x H'/\tn (i+1) s2.heap/\∀b∈fp,H' b=ab) E s1) E s
 done:∀(X:Cx),X.prog=P->X.w=w->X.K=K->X.calm=ac->∀(i:Nat) (pins:PNS) (s:aI) (σ:St) (H:Hp) (E:PRS),Inv X pins σ H s->(∀b∈fp,ij X pins H b)->tn i s.heap->J.stop i H ->
  wpAny (model P w) X.A (jo (.ref it)) (λr s1=>r=ab/\Inv X pins σ H s1) E s
 self:∀(A:eI) (i:Nat) (s:aI) (Q:PRS) (E:PRS),tn i s.heap->Q (.ref it) s->wpAny (model P w) A (pyIter (.ref it)) Q E s
@[reducible]noncomputable def TI:=St->Hp->(It->Hp->Prop)->Prop
abbrev PIE(X:Cx)(pins:PNS)(σ:St)(tg:Expr)(R:It->Hp->Prop)(d:Value)(s2:aI):Prop:=
 ∃(it:Addr) (fp:LAd) (tn:Nat->Heap->Prop) (J:It) (H':Hp),d=.ref it/\Inv X pins σ H' s2/\jW X.prog X.w X.K tg J fp it tn/\tn 0 s2.heap/\(∀b∈fp,ij X pins H' b)/\R J H'
abbrev PI(X:Cx)(tg iter:Expr)(d:TI):Prop:=
 ∀(pins:PNS) (s:aI) (σ:St) (H:Hp) (R:It->Hp->Prop),Inv X pins σ H s->d σ H R ->
  wpAny (model X.prog X.w) X.A (eval iter X.env) (λv s1=>wpAny (model X.prog X.w) X.A (pyIter v) (PIE X pins σ tg R) X.xe s1) X.xe s
def qe{u:Value}{n:String}{vs:Array Value}(l:s.heap.get? it = aa o)(j:o.cls = .type n)(hd:o.data = .fields vs)
   (hn:["enumerate", "zip", "dict_itemiterator", "dict_reverseitemiterator", "odict_iterator", "itertools.zip_longest", "itertools.pairwise"].contains n = ag)(d:Q () s):wpAny M A (letOwnedTupleGo tg (.ref it) u) Q E s:= by
  cases tg <;> first
    |exact bc d
    | (cases u <;> first
        |exact bc d
        | (refine av (wpAny_load l ?_)
           rw[j, hd];show wpAny M A (if _ = ac then _ else _) Q E s;rw[if_neg (by intro h;rw[hn, Bool.false_and]at h;nomatch h)];exact bc d))
abbrev Itl(K:bm)(a:Addr):It:=
 ⟨λi H=>∃xs x,SqL K H a xs/\xs[i]?=aa x,λi H x H'=>H'=H/\∀xs,SqL K H a xs->xs[i]?=aa x,λi H=>∃xs,SqL K H a xs/\xs.length<=i⟩
abbrev Itt(K:bm)(a:Addr):It:=
 ⟨λi H=>∃xs x,SqT K H a xs/\xs[i]?=aa x,λi H x H'=>H'=H/\∀xs,SqT K H a xs->xs[i]?=aa x,λi H=>∃xs,SqT K H a xs/\xs.length<=i⟩
abbrev Itr(lo:Int)(n:Nat):It:=⟨λi _=>i<n,λi H x H'=>H'=H/\x=.int (lo+i),λi _=>n<=i⟩
def Iq(a it:Addr):jW P w K tg (Itl K a) [it] it (λi h=>h.IsListIter it a i) where
 mem:=by simp
 obj:=λi h st b hb=>by
  have e:b=it:=by simpa using hb
  subst e;obtain⟨o,e,c,d⟩:=st;exact⟨o,e,λv z=>by rw[d]at z;nomatch z⟩
 keep:=λi h h' st k=>st.at λo e=>k it (by simp) o e
 item:=by
  intro X hP hw hK hc i pins s σ H E I hf st hg;subst hP hw hK;obtain⟨xs,x,hq,hx⟩:=hg;obtain⟨its,rv,p,hz⟩:=I.list hq;obtain⟨u,hu,ru⟩:=rv.get hx;obtain⟨f0,f1,f2,f3,f4,f5⟩:=hf it (by simp);refine xa st p.isList (by simpa using hu) λh' h6 sb=>?_;obtain⟨o,e,c,d⟩:=id h6;exact⟨u,rfl,qe e c d (by decide) ⟨x,H,(I.turned (λb o hb e=>(sb.2 b hb).trans e) f0 f1 f3 f4 f5),ru,⟨rfl,λys hy=>by rw[I.list_inj hy hq];exact hx⟩,h6,λb hb=>(hf b hb).1⟩⟩
 done:=by
  intro X hP hw hK hc i pins s σ H E I hf st hg;subst hP hw hK;obtain⟨xs,hq,hx⟩:=hg;obtain⟨its,rv,p,hz⟩:=I.list hq;obtain⟨f0,f1,f2,f3,f4,f5⟩:=hf it (by simp);have hl:=rv.length;exact xb (I.ok.hd hc) st p.isList (by simp;lia) λh' eb=>⟨rfl,I.turned (λb o hb e=>eb b o hb e) f0 f1 f3 f4 f5⟩
 self:=λ_ _ _ _ _ st h=>wpAny_pyIter_listiter st h
def Ir(a it:Addr):jW P w K tg (Itt K a) [it] it (λi h=>h.IsTupleIter it a i) where
 mem:=by simp
 obj:=λi h st b hb=>by
  have e:b=it:=by simpa using hb
  subst e;obtain⟨o,e,c,d⟩:=st;exact⟨o,e,λv z=>by rw[d]at z;nomatch z⟩
 keep:=λi h h' st k=>st.at λo e=>k it (by simp) o e
 item:=by
  intro X hP hw hK hc i pins s σ H E I hf st hg;subst hP hw hK;obtain⟨xs,x,hq,hx⟩:=hg;obtain⟨its,rv,p,hz⟩:=I.tuple hq;obtain⟨u,hu,ru⟩:=rv.get hx;obtain⟨f0,f1,f2,f3,f4,f5⟩:=hf it (by simp);refine wpAny_pyNext_tuple_item st (p) (by simpa using hu) λh' h6 sb=>?_;obtain⟨o,e,c,d⟩:=id h6;exact⟨u,rfl,qe e c d (by decide) ⟨x,H,(I.turned (λb o hb e=>(sb.2 b hb).trans e) f0 f1 f3 f4 f5),ru,⟨rfl,λys hy=>by rw[I.tuple_inj hy hq];exact hx⟩,h6,λb hb=>(hf b hb).1⟩⟩
 done:=by
  intro X hP hw hK hc i pins s σ H E I hf st hg;subst hP hw hK;obtain⟨xs,hq,hx⟩:=hg;obtain⟨its,rv,p,hz⟩:=I.tuple hq;obtain⟨f0,f1,f2,f3,f4,f5⟩:=hf it (by simp);have hl:=rv.length;exact wpAny_pyNext_tuple_end (I.ok.hd hc) st (p) (by simp;lia) λh' eb=>⟨rfl,I.turned (λb o hb e=>eb b o hb e) f0 f1 f3 f4 f5⟩
 self:=λ_ _ _ _ _ st h=>wpAny_pyIter_tupleiter st h
def Iu(it:Addr)(lo:Int)(n:Nat):jW P w K tg (Itr lo n) [it] it (λi h=>IsRangeIter h it (lo+(i:Nat)*1) ((n:Int)-(i:Nat)) 1) where
 mem:=by simp
 obj:=λi h st b hb=>by
  have e:b=it:=by simpa using hb
  subst e
  exact⟨_,st,λv z=>by
   nomatch z⟩
 keep:=λi h h' st k=>k it (by simp) _ st
 item:=by
  intro X hP hw hK hc i pins s σ H E I hf st hg;subst hP hw hK;obtain⟨f0,f1,f2,f3,f4,f5⟩:=hf it (by simp);refine(Walks.range (I.ok.hd hc) it lo 1 n).item i s _ _ hg st λv h' tk hv h6 kk=>?_;obtain⟨t,rfl⟩:=hv
  have I1:Inv X pins σ H {s with heap:=h',toks:=tk}:=I.turned (λb o hb e=>kk b o (by simpa using hb) e) f0 f1 f3 f4 f5
  refine⟨_,rfl,qe h6 rfl rfl (by decide) ⟨.int _,H,I1,⟨t,?_⟩,⟨rfl,rfl⟩,h6,λb hb=>(hf b hb).1⟩⟩;rw[Int.mul_one]
 done:=by
  intro X hP hw hK hc i pins s σ H E I hf st hg;obtain⟨f0,f1,f2,f3,f4,f5⟩:=hf it (by simp);exact wpAny_pyNext_range_end (I.ok.hd hc) st (by have:n<=i:=hg;lia) λh' eb=>⟨rfl,I.turned (λb o hb e=>eb b o hb e) f0 f1 f3 f4 f5⟩
 self:=λ_ _ _ _ _ st h=>wpAny_pyIter_rangeiter st h
abbrev Iv(K:bm)(d:TE):TI:=λσ H R=>d σ H λx H1=>∃a,x=.ref a/\(∃xs,SqL K H1 a xs)/\R (Itl K a) H1
abbrev Iw(K:bm)(d:TE):TI:=λσ H R=>d σ H λx H1=>∃a,x=.ref a/\(∃xs,SqT K H1 a xs)/\R (Itt K a) H1
variable{l:Expr}{tl:TE}
def tQ(m:PE X l tl):PI X tg l (Iv X.K tl):=by
 intro pins s σ H R I h;refine thn (m pins s σ H _ I h) λv s1 z=>?_;obtain⟨x,H1,d,B,r⟩:=z;obtain⟨a,e,⟨xs,n⟩,q⟩:=r;subst e;subst B;obtain⟨its,C,p,hz⟩:=d.list n;refine om p.isList ?_;refine⟨s1.heap.objs.size,_,_,_,H1,rfl,d.kept λb o e=>bV _ e,Iq a _,⟨_,dS _ rfl,rfl,rfl⟩,λb j=>?_,q⟩;have e:b=s1.heap.objs.size:=by simpa using j
 subst e;exact d.fpOk (aU _) (d.hok.fresh (aU _))
def Ix(m:PE X l tl):PI X tg l (Iw X.K tl):=by
 intro pins s σ H R I h;refine thn (m pins s σ H _ I h) λv s1 z=>?_;obtain⟨x,H1,d,B,r⟩:=z;obtain⟨a,e,⟨xs,n⟩,q⟩:=r;subst e;subst B;obtain⟨its,C,p,hz⟩:=d.tuple n;refine wpAny_pyIter_tuple (p) ?_;refine⟨s1.heap.objs.size,_,_,_,H1,rfl,d.kept λb o e=>bV _ e,Ir a _,⟨_,dS _ rfl,rfl,rfl⟩,λb j=>?_,q⟩;have e:b=s1.heap.objs.size:=by simpa using j
 subst e;exact d.fpOk (aU _) (d.hok.fresh (aU _))
def Iy{R:It->Hp->Prop}{lo hi:Int}{t u v:Tok}{j:Nat}(I:Inv X pins σ H s)(h1:-(2 ^ 62)<=lo)(h2:lo<2 ^ 62)(p:-(2 ^ 62)<=hi)(r:hi<2 ^ 62)
 (q:R (Itr lo (hi-lo).toNat) H):wpAny (model X.prog X.w) X.A (pyIter (.ref s.heap.objs.size)) (PIE X pins σ tg R) E {s with heap:=s.heap.push {cls:=.type "range",data:=.fields #[.int lo t,.int hi u,.int 1 v]},toks:=j}:=by
 refine wpAny_pyIter_range (IsRange.new ..) (small_one h1 h2 p r) ?_
 have d:Inv X pins σ H {s with heap:=s.heap.push {cls:=.type "range",data:=.fields #[.int lo t,.int hi u,.int 1 v]},toks:=j}:=I.kept λb o e=>bV _ e
 refine⟨(s.heap.push {cls:=.type "range",data:=.fields #[.int lo t,.int hi u,.int 1 v]}).objs.size,_,_,_,H,rfl,
  d.kept λb o e=>bV _ e,Iu _ lo (hi-lo).toNat,?_,λb z=>?_,q⟩
 .have m:lo+((0:Nat):Int)*1=lo:=by simp
  have n:(((hi-lo).toNat:Nat):Int)-((0:Nat):Int)=c9.Range.rangeSize lo hi 1:=by rw[rangeSize_one];split <;> lia
  rw[m,n];exact dS _ rfl
 .have e:b=(s.heap.push {cls:=.type "range",data:=.fields #[.int lo t,.int hi u,.int 1 v]}).objs.size:=by simpa using z
  subst e;exact d.fpOk (aU _) (d.hok.fresh (aU _))
abbrev Iz(ta:TA):TI:=λσ H R=>ta σ H λvs H1=>∃j:Int,vs=[.int j]/\-(2 ^ 62)<=j/\j<2 ^ 62/\R (Itr 0 j.toNat) H1
variable{a:Expr}
def Cf{ta:TA}{p pos:Pos}(n:Gl X "range")(hm:X.mg "range"=ab)(ha:PA X [a] ta)(z:aY [a] X.env=[(ag,eval a X.env)]:=by rfl):PI X tg (.Call (.Name "range" p) [a] [] pos) (Iz ta):=by
 intro pins s σ H R I h;refine Call_ (iU I n hm boot_range (kE (thn (ha pos pins s σ H _ I h) λus s1 ⟨vs,H1,m,C,d⟩=>?_) z rfl));obtain⟨j,e,d,B,q⟩:=d;subst e
 cases C with
 |cons r G=>
  cases G;obtain⟨t,rfl⟩:=r;exact call_range_1 (Iy m (by lia) (by lia) d B (by simpa using q))
abbrev IA(n:TI)(g:TG)(tb:TS):TS:=λD σ H=>n σ H λJ H1=>∃W:Nat->Nat->St->Hp->Prop,(∃m,W 0 m σ H1)/\∀i m σ H,W i m σ H ->
 (J.stop i H/\D.nx σ H)\/(J.go i H/\∃N:St->Hp->Prop,(∀σ' H',N σ' H'->∃j,j<m/\W (i+1) j σ' H')/\∀x H',J.yld i H x H'->g x σ H' λd H2=>tb {D with nx:=N,ct:=N,bk:=D.nx} d H2)
abbrev tR(fp:LAd)(h:Heap):PNS:=fp.filterMap λb=>(h.get? b).map λo=>(b,o)
variable{fp:LAd}
def tS{b:Addr}(d:b∈fp)(e:h.get? b=aa o):(b,o)∈tR fp h:=mem_filterMap.mpr ⟨b,d,by rw[e];rfl⟩
def IB{p:Addr×Obj}(m:p∈tR fp h):p.1∈fp/\h.get? p.1=aa p.2:=by
 obtain⟨b,j,e⟩:=mem_filterMap.mp m
 cases q:h.get? b with
 |none=>rw[q]at e;nomatch e
 |some o=>
  rw[q]at e;have d:=cz e;subst d;exact⟨j,q⟩
def Inv.pinned(I:Inv X pins σ H s)(q:∀b∈fp,ij X pins H b)(r:∀b∈fp,∃o,s.heap.get? b=aa o/\∀v,o.data≠.cell v):Inv X (pins++tR fp s.heap) σ H s:=
 I.pins_of λp B=>(cC.mp B).elim (λz=>I.pin p (eE _ z)) λz=>by
  obtain⟨m,e⟩:=IB z;obtain⟨n,f1,f2,_⟩:=q p.1 m;obtain⟨o,j,d⟩:=r p.1 m;rw[e]at j;cases j;exact⟨e,n,f1,f2,d⟩
def Inv.unpinned{pl:PNS}(I:Inv X (pins++pl) σ H s):Inv X pins σ H s:=I.pins_of λp d=>I.pin p (eE _ (f6 _ d))
variable{iter:Expr}{body:List Stmt}{wi:TI}
def xB{tb:TS}{pos:Pos}(Y:PassesOwn (model X.prog X.w) X.A X.env X.xe)(hc:X.calm=ac)(hi:PI X tg iter wi)(hg:PG X tg g)(z:PSs X body tb)
 (hs:∀x,hV iter X.env x=pure x:=by intro _;rfl):PS X (.For tg iter body [] pos) (IA wi g tb):=by
 intro pins s σ H D I h;refine wpAny_For (thn (hi pins s σ H _ I h) λv s1 h1=>thn h1 λitv s2 h2=>?_) hs;obtain⟨it,fp,tn,J,H2,e,I2,T,st2,f2,W,⟨m0,w0⟩,turn⟩:=h2;subst e;have B:∀{H':Hp},(∀b∈fp,H' b=ab)->∀b∈fp,ij X pins H' b:=λhn b z=>⟨hn b z,(f2 b z).2⟩;refine codeAny_forLoop_any (λn s'=>∃i σ' H',Inv X pins σ' H' s'/\tn i s'.heap/\(∀b∈fp,H' b=ab)/\W i n σ' H') ?_ m0 ⟨0,σ,H2,I2,st2,λb z=>(f2 b z).1,w0⟩;rintro n s3 ⟨i,C,H3,I3,n9,U,w3⟩
 rcases turn i n C H3 w3 with⟨stop,qn⟩ |⟨go,N,hN,step⟩
 .refine p5 Y (thn (T.done X rfl rfl rfl hc i pins s3 C H3 X.xe I3 (B U) n9 stop) λr s4 ⟨hr,I4⟩=>?_);subst hr;exact wpAny_execs_nil ⟨C,H3,I4,qn⟩
 .refine p5 Y (thn (T.item X rfl rfl rfl hc i pins s3 C H3 X.xe I3 (B U) n9 go) λr s4 q_=>?_);obtain⟨u,hr,h4⟩:=q_;subst hr;refine p5 Y (thn h4 λ_ s5 q_=>?_);obtain⟨x,H5,I5,r5,y5,L,fr5⟩:=q_;refine p5 Y (thn (hg _ s5 C H5 x u _ (I5.pinned (B fr5) (T.obj _ _ L)) r5 (step x H5 y5)) λ_ s6 q_=>?_);obtain⟨σ6,H6,I6,q6⟩:=q_;refine p5 Y (thn (z _ s6 σ6 H6 _ I6 q6) λf s7 G=>?_)
  have again:∀{j:St} {p:Hp},Inv X _ j p s7->N j p->∃m,m<n/\∃i σ' H',Inv X pins σ' H' s7/\tn i s7.heap/\(∀b∈fp,H' b=ab)/\W i m σ' H':=λ{j p} q n7=>by
   obtain⟨m',hm,w7⟩:=hN j p n7;refine⟨m',hm,i+1,j,p,q.unpinned,T.keep _ _ _ L λb z o e=>(q.pin _ (eE _ (eE _ (tS z e)))).1,λb z=>?_,w7⟩;obtain⟨o,e,d⟩:=T.obj _ _ L b z;exact(q.pin _ (eE _ (eE _ (tS z e)))).2.1
  cases f with
  |next=>obtain⟨j,p,q,n7⟩:=G;exact again q n7
  |cont=>obtain⟨j,p,q,n7⟩:=G;exact again q n7
  |brk=>obtain⟨j,p,q,G⟩:=G;exact⟨j,p,q.unpinned,G⟩
  |ret v=>obtain⟨x7,j,p,q,r7,G⟩:=G;exact⟨x7,j,p,q.unpinned,r7,G⟩
@[reducible]noncomputable def R2:=V->V->Hp->VK->Prop
abbrev OpR(X:Cx)(f:Value->Value->Sem Value)(r:R2):Prop:=
 ∀(pins:PNS) (s:aI) (σ:St) (H:Hp) (x y:V) (v u:Value) (Q:VK),Inv X pins σ H s->aR x v->aR y u->r x y H Q ->
  wpAny (model X.prog X.w) X.A (f v u) (EP X pins σ Q) X.xe s
abbrev UnR(X:Cx)(f:Value->Sem Value)(r:V->Hp->VK->Prop):Prop:=
 ∀(pins:PNS) (s:aI) (σ:St) (H:Hp) (x:V) (v:Value) (Q:VK),Inv X pins σ H s->aR x v->r x H Q ->
  wpAny (model X.prog X.w) X.A (f v) (EP X pins σ Q) X.xe s
abbrev ga(X:Cx)(f:Value)(r:List V->Hp->VK->Prop):Prop:=
 ∀(pins:PNS) (s:aI) (σ:St) (H:Hp) (xs:List V) (us:LVa) (Q:VK),Inv X pins σ H s->aX xs us->r xs H Q ->
  wpAny (model X.prog X.w) X.A (call f us) (EP X pins σ Q) X.xe s
abbrev IC(X:Cx)(r:V->Hp->(Bool->Hp->Prop)->Prop):Prop:=
 ∀(pins:PNS) (s:aI) (σ:St) (H:Hp) (x:V) (v:Value) (Q:Bool->Hp->Prop),Inv X pins σ H s->aR x v->r x H Q ->
  wpAny (model X.prog X.w) X.A (truthy v) (TP X pins σ Q) X.xe s
abbrev tOp(r:R2)(ta tb:TE):TE:=λσ H Q=>ta σ H λx H1=>tb σ H1 λy H2=>r x y H2 Q
abbrev tUn(r:V->Hp->VK->Prop)(ta:TE):TE:=λσ H Q=>ta σ H λx H1=>r x H1 Q
abbrev rI(C:Int->Int->Prop)(g:Int->Int->V):R2:=λx y H Q=>∃i j,x=.int i/\y=.int j/\C i j/\Q (g i j) H
abbrev rI0(g:Int->Int->V):R2:=λx y H Q=>∃i j,x=.int i/\y=.int j/\Q (g i j) H
abbrev rU(g:Int->V):V->Hp->VK->Prop:=λx H Q=>∃i,x=.int i/\Q (g i) H
def tU(ha:PE X a ta)(p:PE X b tb){R:V->V->Hp->Prop}(I:Inv X pins σ H s)
 (h:ta σ H λx H1=>tb σ H1 λy H2=>R x y H2){Q:PRS}{f:Value->Value->Sem Value}
 (q:∀v u s2 x y H2,Inv X pins σ H2 s2->aR x v->aR y u->R x y H2->wpAny (model X.prog X.w) X.A (f v u) Q X.xe s2):
  wpAny (model X.prog X.w) X.A (eval a X.env) (λv d=>wpAny (model X.prog X.w) X.A (eval b X.env) (λu j=>wpAny (model X.prog X.w) X.A (f v u) Q X.xe j) X.xe d) X.xe s:=by
 refine thn (ha pins s σ H _ I h) λv s1 B=>?_;obtain⟨x,H1,m,C,r⟩:=B;exact thn (p pins s1 σ H1 _ m r) λu s2 ⟨y,H2,n,G,z⟩=>(q v u s2 x y H2 n C G z)
def xC{pos:Pos}{r:R2}(m:OpR X (fS op) r)(ha:PE X a ta)(j:PE X b tb):PE X (.BinOp a op b pos) (tOp r ta tb):=by
 intro pins s σ H Q I h;exact wpAny_BinOp (tU ha j I h λv u s2 x y H2 d n p q=>m pins s2 σ H2 x y v u Q d n p q)
def ID{pos:Pos}{op:UnaryOp}{r:V->Hp->VK->Prop}(j:UnR X (unaryOp op) r)(ha:PE X a ta):PE X (.UnaryOp op a pos) (tUn r ta):=by
 intro pins s σ H Q I h;exact UnaryOp_ (thn (ha pins s σ H _ I h) λv s1 ⟨x,H1,d,n,m⟩=>j pins s1 σ H1 x v Q d n m)
def opI{f:Value->Value->Sem Value}{C:Int->Int->Prop}{g:Int->Int->Int}
 (rule:∀(i j:Int) (t u:Tok) (s:aI) (Q:PRS) (E:PRS),C i j->Q (.int (g i j) s.toks) {s with toks:=s.toks+1}->wpAny (model X.prog X.w) X.A (f (.int i t) (.int j u)) Q E s):
  OpR X f (rI C λi j=>.int (g i j)):=by
 intro pins s σ H x y v u Q I m n h;obtain⟨i,j,rfl,rfl,d,q⟩:=h;obtain⟨t,rfl⟩:=m;obtain⟨t',rfl⟩:=n;exact rule i j t t' s _ _ d ⟨.int _,H,I.tok _,⟨_,rfl⟩,q⟩
def Cg{f:Value->Value->Sem Value}{g:Int->Int->Int}
 (rule:∀(i j:Int) (t u:Tok) (s:aI) (Q:PRS) (E:PRS),Q (.int (g i j) s.toks) {s with toks:=s.toks+1}->wpAny (model X.prog X.w) X.A (f (.int i t) (.int j u)) Q E s):
  OpR X f (rI0 λi j=>.int (g i j)):=by
 intro pins s σ H x y v u Q I d m h;obtain⟨i,j,rfl,rfl,q⟩:=h;obtain⟨t,rfl⟩:=d;obtain⟨t',rfl⟩:=m;exact rule i j t t' s _ _ ⟨.int _,H,I.tok _,⟨_,rfl⟩,q⟩
def tW{f:Value->Value->Sem Value}{g:Int->Int->Bool}
 (rule:∀(i j:Int) (t u:Tok) (s:aI) (Q:PRS) (E:PRS),Q (.bool (g i j)) s->wpAny (model X.prog X.w) X.A (f (.int i t) (.int j u)) Q E s):
  OpR X f (rI0 λi j=>.bl (g i j)):=by
 intro pins s σ H x y v u Q I d m h;obtain⟨i,j,rfl,rfl,q⟩:=h;obtain⟨t,rfl⟩:=d;obtain⟨t',rfl⟩:=m;exact rule i j t t' s _ _ ⟨.bl _,H,I,rfl,q⟩
abbrev oE(i j:Int):Prop:=0<j/\j<1073741824
abbrev qf(i j:Int):Prop:=0<=j/\j<=1000000/\i.natAbs<2 ^ 64
abbrev qg(i j:Int):Prop:=(-(2 ^ 64)<i/\i<2 ^ 64)\/(-(2 ^ 64)<j/\j<2 ^ 64)
variable{j:Int}
def qg.ok{i:Int}(h:qg i j):IntMulOk i j:=by
 rcases h with⟨h1,h2⟩ |⟨h1,h2⟩
 .exact .of_left (intBits_le_64 h1 h2)
 .exact .of_right (intBits_le_64 h1 h2)
def IE:OpR X (fS .Add) (rI0 λi j=>.int (i+j)):=Cg λ_ _ _ _ _ _ _ q=>add_int q
def IF:OpR X (fS .Sub) (rI0 λi j=>.int (i-j)):=Cg λ_ _ _ _ _ _ _ q=>sub_int q
def IG:OpR X (fS .FloorDiv) (rI oE λi j=>.int (i / j)):=opI λi j _ _ _ _ _ d q=>by
 have h1:=d.1;have h2:=d.2;exact floordiv_int (by lia) (by rw[Int.fdiv_eq_ediv_of_nonneg i (by lia)];exact q) (.inl (PyProof.noPylong_small (by lia)))
def IH:OpR X (fS .Mod) (rI (λ_ j=>0<j) λi j=>.int (i % j)):=opI λi j _ _ _ _ _ d q=>by
 exact mod_int' (by lia) (by rw[Int.fmod_eq_emod_of_nonneg i (by lia)];exact q)
def II:OpR X (fS .Pow) (rI qf λi j=>.int (i ^ j.toNat)):=opI λ_ _ _ _ _ _ _ d q=>pow_int_small d.1 d.2.1 d.2.2 q
def unI{f:Value->Sem Value}{g:Int->Int}
 (rule:∀(i:Int) (t:Tok) (s:aI) (Q:PRS) (E:PRS),Q (.int (g i) s.toks) {s with toks:=s.toks+1}->wpAny (model X.prog X.w) X.A (f (.int i t)) Q E s):
  UnR X f (rU λi=>.int (g i)):=by
 intro pins s σ H x v Q I d h;obtain⟨i,rfl,q⟩:=h;obtain⟨t,rfl⟩:=d;exact rule i t s _ _ ⟨.int _,H,I.tok _,⟨_,rfl⟩,q⟩
def IJ:UnR X (unaryOp .USub) (rU λi=>.int (-i)):=unI λ_ _ _ _ _ q=>neg_int q
abbrev xD:V->V->Bool
 |.non,.non=>ac |.non,.int _=>ac |.int _,.non=>ac |.non,.bl _=>ac |.bl _,.non=>ac |.non,.str _=>ac |.str _,.non=>ac
 |.int _,.int _=>ac |.bl _,.bl _=>ac |.str _,.str _=>ac |.byt _,.byt _=>ac
 |.int _,.str _=>ac |.str _,.int _=>ac |.bl _,.str _=>ac |.str _,.bl _=>ac
 | _,_=>ag
abbrev rEq:R2:=λx y H Q=>xD x y=ac/\Q (.bl (decide (x=y))) H
abbrev rNe:R2:=λx y H Q=>xD x y=ac/\Q (.bl (!decide (x=y))) H
def xE{i:Int}:decide (V.int i=V.int j)=(i==j):=by
 rw[jh];simp
def qh{i j:Bool}:decide (V.bl i=V.bl j)=(i==j):=by
 rw[jh];simp
def xF{i j:Str}:decide (V.str i=V.str j)=(i==j):=by
 rw[jh];simp
def Ch{i j:Array UInt8}:decide (V.byt i=V.byt j)=(i.toList==j.toList):=by
 rw[jh];cases i;cases j;simp
def cF{Q:VK}{k d:Bool}(I:Inv X pins σ H s)(q:Q (.bl k) H)(e:k=d):EP X pins σ Q (.bool d) s:=by
 subst e;exact⟨.bl k,H,I,rfl,q⟩
def IK:OpR X (cW .Eq) rEq:=by
 intro pins s σ H x y v u Q I n d h;obtain⟨m,q⟩:=h
 cases x with
 |non=>
  cases n
  cases y with
  |non=>subst d;exact PySem.EqNone.eq_none_none (cF I q (by simp))
  |bl j=>subst d;exact PySem.EqNone.eq_none_bool (cF I q (by simp))
  |int j=>obtain⟨t',rfl⟩:=d;exact PySem.EqNone.eq_none_int (cF I q (by simp))
  |str j=>obtain⟨t',rfl⟩:=d;exact PySem.EqNone.eq_none_str (cF I q (by simp))
  | _=>exact absurd (m) bZ
 |bl i=>
  subst n
  cases y with
  |non=>subst d;exact PySem.EqNone.eq_bool_none (cF I q (by simp))
  |bl j=>subst d;exact eq_bool (cF I q qh)
  |str j=>obtain⟨t',rfl⟩:=d;exact PySem.EqMixed.eq_bool_str (cF I q (by simp))
  | _=>exact absurd (m) bZ
 |int i=>
  obtain⟨t,rfl⟩:=n
  cases y with
  |non=>subst d;exact PySem.EqNone.eq_int_none (cF I q (by simp))
  |int j=>obtain⟨t',rfl⟩:=d;exact eq_int (cF I q xE)
  |str j=>obtain⟨t',rfl⟩:=d;exact PySem.EqMixed.eq_int_str (cF I q (by simp))
  | _=>exact absurd (m) bZ
 |str i=>
  obtain⟨t,rfl⟩:=n
  cases y with
  |non=>subst d;exact PySem.EqNone.eq_str_none (cF I q (by simp))
  |bl j=>subst d;exact PySem.EqMixed.eq_str_bool (cF I q (by simp))
  |int j=>obtain⟨t',rfl⟩:=d;exact PySem.EqMixed.eq_str_int (cF I q (by simp))
  |str j=>obtain⟨t',rfl⟩:=d;exact eq_str (cF I q xF)
  | _=>exact absurd (m) bZ
 |byt i=>
  obtain⟨t,rfl⟩:=n
  cases y with
  |byt j=>obtain⟨t',rfl⟩:=d;exact W.eq_bytes (cF I q Ch)
  | _=>exact absurd (m) bZ
 | _=>cases y <;> exact absurd (show ag=ac from m) bZ
def IL:OpR X (cW .NotEq) rNe:=by
 intro pins s σ H x y v u Q I n d h;obtain⟨m,q⟩:=h
 cases x with
 |non=>
  cases n
  cases y with
  |non=>subst d;exact PySem.EqNone.ne_none_none (cF I q (by simp))
  |bl j=>subst d;exact PySem.EqNone.ne_none_bool (cF I q (by simp))
  |int j=>obtain⟨t',rfl⟩:=d;exact PySem.EqNone.ne_none_int (cF I q (by simp))
  |str j=>obtain⟨t',rfl⟩:=d;exact PySem.EqNone.ne_none_str (cF I q (by simp))
  | _=>exact absurd (m) bZ
 |bl i=>
  subst n
  cases y with
  |non=>subst d;exact PySem.EqNone.ne_bool_none (cF I q (by simp))
  |bl j=>subst d;exact ne_bool (cF I q (congrArg not qh))
  |str j=>obtain⟨t',rfl⟩:=d;exact PySem.EqMixed.ne_bool_str (cF I q (by simp))
  | _=>exact absurd (m) bZ
 |int i=>
  obtain⟨t,rfl⟩:=n
  cases y with
  |non=>subst d;exact PySem.EqNone.ne_int_none (cF I q (by simp))
  |int j=>obtain⟨t',rfl⟩:=d;exact ne_int (cF I q (congrArg not xE))
  |str j=>obtain⟨t',rfl⟩:=d;exact PySem.EqMixed.ne_int_str (cF I q (by simp))
  | _=>exact absurd (m) bZ
 |str i=>
  obtain⟨t,rfl⟩:=n
  cases y with
  |non=>subst d;exact PySem.EqNone.ne_str_none (cF I q (by simp))
  |bl j=>subst d;exact PySem.EqMixed.ne_str_bool (cF I q (by simp))
  |int j=>obtain⟨t',rfl⟩:=d;exact PySem.EqMixed.ne_str_int (cF I q (by simp))
  |str j=>obtain⟨t',rfl⟩:=d;exact ne_str (cF I q (congrArg not xF))
  | _=>exact absurd (m) bZ
 |byt i=>
  obtain⟨t,rfl⟩:=n
  cases y with
  |byt j=>obtain⟨t',rfl⟩:=d;exact W.ne_bytes (cF I q (congrArg not Ch))
  | _=>exact absurd (show ag=ac from m) bZ
 | _=>cases y <;> exact absurd (show ag=ac from m) bZ
def IM:OpR X (cW .Lt) (rI0 λi j=>.bl (decide (i<j))):=tW λ_ _ _ _ _ _ _ q=>lt_int q
def IN:OpR X (cW .LtE) (rI0 λi j=>.bl (decide (i<=j))):=tW λ_ _ _ _ _ _ _ q=>le_int q
def IP:OpR X (cW .Gt) (rI0 λi j=>.bl (decide (j<i))):=tW λ_ _ _ _ _ _ _ q=>gt_int q
def IQ:OpR X (cW .GtE) (rI0 λi j=>.bl (decide (j<=i))):=tW λ_ _ _ _ _ _ _ q=>ge_int q
def IR:OpR X (cW .Is) (λx y H Q=>y=.non/\Q (.bl (decide (x=.non))) H):=by
 intro pins s σ H x y v u Q I d m h;obtain⟨rfl,q⟩:=h;subst m;refine is_none_gen (cF I q ?_)
 cases x <;> first
  |(subst d;rfl)
  |(obtain⟨t,rfl⟩:=d;rfl)
def IS:OpR X (cW .IsNot) (λx y H Q=>y=.non/\Q (.bl (!decide (x=.non))) H):=by
 intro pins s σ H x y v u Q I d m h;obtain⟨rfl,q⟩:=h;subst m;refine isnot_none_gen (cF I q ?_)
 cases x <;> first
  |(subst d;rfl)
  |(obtain⟨t,rfl⟩:=d;rfl)
variable{op:CmpOp}
def xG(b:Expr)(h:op≠.In:=by decide)(h2:op≠.NotIn:=by decide):mP op b=ag:=by
 have d:(op==CmpOp.In)=ag:=by cases op <;> first |rfl |exact absurd rfl h
 have m:(op==CmpOp.NotIn)=ag:=by cases op <;> first |rfl |exact absurd rfl h2
 cases b <;> simp[mP,d,m]
variable{r:R2}
def IT{pos:Pos}(n:OpR X (cW op) r)(ha:PE X a ta)(m:PE X b tb)(hm:mP op b=ag):PE X (.Compare a [op] [b] pos) (tOp r ta tb):=by
 intro pins s σ H Q I h;exact wpAny_Compare1 (tU ha m I h λv u s2 x y H2 d p z q=>n pins s2 σ H2 x y v u Q d p z q) hm
abbrev IU(t:TE):TT:=λσ H Q=>t σ H λx H'=>∃k,x=.bl k/\Q k H'
def Ci{pos:Pos}(B:OpR X (cW op) r)(ha:PE X a ta)(q:PE X b tb)(hm:mP op b=ag):PT X (.Compare a [op] [b] pos) (IU (tOp r ta tb)):=by
 intro pins s σ H Q I h
 refine wpAny_isTrue_Compare1 (thn (ha pins s σ H _ I h) λv s1 ⟨x,H1,m,L,C⟩=>thn (q pins s1 σ H1 _ m C) λu s2 ⟨y,H2,n,T,G⟩ =>
  thn (B pins s2 σ H2 x y v u _ n L T G) λc Y ⟨z,d,p,U,k,e,J⟩=>?_) hm
 subst e;subst U;exact lE ⟨d,p,J⟩
abbrev IV(r n:R2)(ta tb p:TE):TE:=λσ H Q=>ta σ H λx H1=>tb σ H1 λy H2=>r x y H2 λz d=>∃k,z=.bl k /\
 (if k=ac then p σ d λq m=>n y q m Q else Q (.bl ag) d)
variable{tc:TE}{op':CmpOp}{r':R2}
def IW{pos:Pos}(Y:OpR X (cW op) r)(m:OpR X (cW op') r')(ha:PE X a ta)(T:PE X b tb)(U:PE X c tc)
 (hm:lastMarks [op,op'] [b,c]=ag:=by with_unfolding_all rfl):PE X (.Compare a [op,op'] [b,c] pos) (IV r r' ta tb tc):=by
 intro pins s σ H Q I h
 refine Compare_chain (thn (ha pins s σ H _ I h) λv s1 ⟨x,H1,G,r1,q1⟩=>chain_link (thn (T pins s1 σ H1 _ G q1) λu s2 ⟨y,H2,J,B,q2⟩ =>
  thn (Y pins s2 σ H2 x y v u _ J r1 B q2) λd s3 ⟨z,n,p,r3,k,e,q⟩=>?_)) hm
 subst e;subst r3;refine lE ?_
 cases k with
 |false=>exact ite_ff ⟨.bl ag,n,p,rfl,q⟩
 |true=>exact ite_tt (chain_last (thn (U pins s3 σ n _ p q) λw' s4 ⟨z',C,L,r4,q4⟩=>m pins s4 σ C y z' u w' Q L B r4 q4))
abbrev xH(K:bm)(x:V)(H:Hp)(k:Bool):Prop:=
 match x with
 |.non=>k=ag
 |.bl b=>k=b
 |.int i=>k=(i != 0)
 |.str y=>y.length<=aW/\k=((y.length:Int) != 0)
 |.byt y=>y.size<=aW/\k=((y.size:Int) != 0)
 |.ref p=>(∃xs,SqL K H p xs/\k=!xs.isEmpty)\/(∃xs,SqT K H p xs/\k=!xs.isEmpty)\/∃kvs,H p=aa (.dK kvs)/\k=!kvs.isEmpty
 | _=>False
def IX{d:Type}{kvs:List (d×V)}{vs:List (d×Value)}(r:KV kvs vs):(!vs.isEmpty)=!kvs.isEmpty:=by
 cases r <;> rfl
def Cj{its:LVa}(r:aX xs its):(!its.toArray.isEmpty)=!xs.isEmpty:=by
 cases r <;> simp
def qi:(aW:Nat)<2 ^ 63:=by rw[cL];decide
def IY:IC X (λx H Q=>∃k,xH X.K x H k/\Q k H):=by
 intro pins s σ H x v Q I z h;obtain⟨k,e,q⟩:=h;have J:=cL
 cases x with
 |non=>
  subst z;have d:=e;subst d
  exact truthy_none ⟨H,I,q⟩
 |bl b=>
  subst z;have d:=e;subst d
  exact lE ⟨H,I,q⟩
 |int i=>
  obtain⟨t,rfl⟩:=z;have d:=e;subst d
  exact PySem.P.truthy_int ⟨H,I,q⟩
 |str y=>
  obtain⟨t,rfl⟩:=z;obtain⟨G,d⟩:y.length<=aW/\k=_:=e;subst d
  exact PySem.P.truthy_str (by lia) ⟨H,I.tok _,q⟩
 |byt y=>
  obtain⟨t,rfl⟩:=z;obtain⟨G,d⟩:y.size<=aW/\k=_:=e;subst d
  exact W.truthy_bytes (by lia) ⟨H,I.tok _,q⟩
 |ref p=>
  subst z;have d:=e
  rcases d with⟨xs,B,d⟩ |⟨xs,B,d⟩ |⟨kvs,B,d⟩
  .subst d;obtain⟨its,r,pl,hz⟩:=I.list B;have n:=r.length;exact wpAny_truthy_list pl.isList (by simp only[size_toArray];lia) ⟨H,I.tok _,by rw[Cj r];exact q⟩
  .subst d;obtain⟨its,r,pl,hz⟩:=I.tuple B;have n:=r.length;exact truthy_tuple pl (by simp only[size_toArray];lia) ⟨H,I.tok _,by rw[Cj r];exact q⟩
  .subst d;obtain⟨hz,C,vs,r,m⟩:kvs.length<=aW/\(p==gE)=ag/\∃vs,KV kvs vs/\s.heap.DictOf (cX X.prog X.w) p vs:=I.hok p _ B;have n:=tL r
   exact wpAny_truthy_dict C m (by lia) ⟨H,I.tok _,by rw[IX r];exact q⟩
 | _=>exact(show False from e).elim
def IZ(ha:PE X a ta)(n:∀d,isTrue a X.env d=(do let v <- d;standAt a.pos;hZ [v] (truthy v))):
  PT X a (λσ H Q=>ta σ H λx H'=>∃k,xH X.K x H' k/\Q k H'):=by
 intro pins s σ H Q I h;exact isTrue_plain (thn (ha pins s σ H _ I h) λv s1 ⟨x,H1,m,q,p⟩=>IY pins s1 σ H1 x v Q m q p) (n _)
def I0:OpR X (fS .Add) (λx y H Q=>∃i j,x=.str i/\y=.str j/\i.length+j.length<=aW/\Q (.str (i++j)) H):=by
 intro pins s σ H x y v u Q I d m h;obtain⟨i,j,rfl,rfl,hz,q⟩:=h;obtain⟨t,rfl⟩:=d;obtain⟨t',rfl⟩:=m;exact add_str (λt' n=>⟨.str _,H,I.tok _,⟨_,rfl⟩,q⟩) hz
def Ja:OpR X (inplaceOp .Add) (λx y H Q=>∃i j,x=.str i/\y=.str j/\i.length+j.length<=aW/\Q (.str (i++j)) H):=by
 intro pins s σ H x y v u Q I d m h;obtain⟨i,j,rfl,rfl,hz,q⟩:=h;obtain⟨t,rfl⟩:=d;obtain⟨t',rfl⟩:=m;exact iadd_str (λt' n=>⟨.str _,H,I.tok _,⟨_,rfl⟩,q⟩) hz
abbrev xI(b:Expr):Prop:=∀o i,p9 b ag o i=operate [o,i] (kH o i)
def Ck{pos:Pos}(ha:PE X a ta)(C:PE X b tb)(J:xI b):
  PE X (.Subscript a b pos) (tOp (λx y H Q=>∃z i c,x=.str z/\y=.int i/\0<=i/\i<2 ^ 63/\i<z.length/\z.cps[i.toNat]?=aa c/\Q (.str ⟨#[c]⟩) H) ta tb):=by
 intro pins s σ H Q I h;refine Subscript_ (tU ha C I h λv u s2 x y H2 d L T q=>?_);obtain⟨z,i,c,rfl,rfl,p,B,h1,G,q⟩:=q;obtain⟨t,rfl⟩:=L;obtain⟨t',rfl⟩:=T
 exact tail_any (typeIs_str s2 z t) slot_str_getitem.lookup (getItem_str (by
  have m:decide (i < -(2 ^ 63:Int))=ag:=decide_eq_false (by lia);have n:decide (i≥2 ^ 63)=ag:=decide_eq_false (by lia)
  rw[m,n] <;> rfl) (by rw[(PySem.StrLaws.seqIndex_nonneg p h1)];exact G) ⟨.str ⟨#[c]⟩,H2,d.tok _,⟨_,rfl⟩,q⟩) (J _ _)
variable{x:V}
def ju(r:aX [x] us):∃u,us=[u]/\aR x u:=by
 cases r with
 |cons d m=>cases m;exact⟨_,rfl,d⟩
def qj(r:aX [x,y] us):∃u d,us=[u,d]/\aR x u/\aR y d:=by
 cases r with
 |cons m n=>
  cases n with
  |cons p q=>cases q;exact⟨_,_,rfl,m,p⟩
def Jb:ga X (.builtin "divmod") (λxs H Q=>∃i j,xs=[.int i,.int j]/\oE i j/\∀p,H p=ab->Q (.ref p) (upd H p (.tup [.int (i / j),.int (i % j)]))):=by
 intro pins s σ H xs us Q I r h;obtain⟨i,j,rfl,⟨h1,h2⟩,q⟩:=h;obtain⟨u,d,rfl,⟨t,rfl⟩,⟨t',rfl⟩⟩:=qj r;refine divmod_int (by lia) ?_ (.inl (PyProof.noPylong_small (by lia)));rw[Int.fdiv_eq_ediv_of_nonneg i (by lia),Int.fmod_eq_emod_of_nonneg i (by lia)];refine⟨.ref s.heap.objs.size,_,?_,rfl,q _ (I.hok.fresh (aU _))⟩;exact I.laid (λb o e=>bV _ e) (aU _) ⟨by simp only[bT];rw[cL];decide,_,.cons ⟨_,rfl⟩ (.cons ⟨_,rfl⟩ .nil),⟨_,dS s.heap rfl,rfl,0,rfl⟩⟩
structure xJ(h:Heap)(x dx C:Addr)(mA:MGT):Prop where
 obj:h.get? x=aa (W.instObj C dx)
 ns:h.Ns1 dx mA
 ne:dx≠x
variable{mA:MGT}
def Jc{dx:Addr}(n:h.Ns1 dx mA):∃od,h.get? dx=aa od/\∀name,W.lookIn name od=aa (mA name):=by
 obtain⟨o,es,G,B,hd,p,_,hm⟩:=n;refine⟨o,B,λname=>?_⟩;have e:=hm name;unfold nsFind findBy at e;rw[<- Array.find?_toList]at e;unfold W.lookIn;rw[hd];dsimp only;split
 .rename_i y q;rw[q]at e;exact congrArg aa e
 .rename_i q;rw[q]at e
  have a:es.toList.any (·.refKey)=ag:=by
   rw[any_eq_false];intro y C;obtain⟨z,t,d⟩:=p y (Array.mem_toList_iff.mp C);simp[DictEntry.refKey,d]
  have m:¬es.toList.any (·.refKey)=ac:=by rw[a];exact bZ
  rw[if_neg m];exact congrArg aa e
def xJ.look{x dx C:Addr}(I:xJ h x dx C mA):∃od,W.InstAt h x (W.instObj C dx) C (aa od)/\∀name,W.lookIn name od=aa (mA name):=
 let ⟨od,ho,hl⟩:=Jc I.ns
 ⟨od,⟨I.obj,rfl,rfl,ho⟩,hl⟩
def ig.some_of{o:Option Value}(r:ig (aa v) o):∃u,o=aa u/\aR v u:=by
 cases o with
 |none=>exact(r).elim
 |some u=>exact⟨u,rfl,r⟩
variable{a C:Addr}{fs:List (Str×V)}
def Jd{dx:Addr}(hok:HOk P w H h)(e:H a=aa (.ins C dx fs)):∃mA,xJ h a dx C mA/\(∀f,ig (fs.lookup f) (mA f))/\PySem.Within mA (fs.map (·.1))/\fs.length<=1000/\H dx=aa (.own a):=by
 obtain⟨d,z,ne,m,mA,n,r,q⟩:=(hok a _ e);exact⟨mA,⟨m,n,ne⟩,r,q,z,d⟩
structure Cls(K:bm)(C:Addr):Prop where
 pg:W.plainGet K C oz=ac
 hd:W.hasDictIn K C=ac
 po:W.plainOver K C=ac
 sa:W.findIn K (.ref C) "__setattr__"=aa (aa (.builtin "object.__setattr__"))
def Cls.get(c:Cls K C)(f:Str):W.plainGet K C f=ac:=c.pg
inductive gT(K:bm)(H:Hp):V->Value->Prop where
 |non:gT K H .non (.type "NoneType")
 |bl (x:Bool):gT K H (.bl x) (.type "bool")
 |int (i:Int):gT K H (.int i) (.type "int")
 |str (x:Str):gT K H (.str x) (.type "str")
 |flt (x:UInt64):gT K H (.flt x) (.type "float")
 |lst {a:Addr} {xs:List V} (e:H a=aa (.lst xs)):gT K H (.ref a) (.type "list")
 |frz {a:Addr} {o:Obj} {xs:List V} (e:H a=aa (.frz o (.lst xs))):gT K H (.ref a) (.type "list")
 |tup {a:Addr} {xs:List V} (e:H a=aa (.tup xs)):gT K H (.ref a) (.type "tuple")
 |dK {a:Addr} {kvs:List (Key×V)} (e:H a=aa (.dK kvs)):gT K H (.ref a) (.type "dict")
 |dT {a:Addr} {kvs:List (List Key×V)} (e:H a=aa (.dT kvs)):gT K H (.ref a) (.type "dict")
 |ins {a C dx:Addr} {fs:List (Str×V)} (e:H a=aa (.ins C dx fs)) (cl:Cls K C) (ha:W.findIn K (.ref C) "__class__"=aa (aa (.builtin "object.__class__")))
   (hn:W.specialIn K (.builtin "object.__class__") "__get__"=aa (aa (.builtin "getset_descriptor.__get__"))) (htk:W.takesIn K (.builtin "object.__class__")=aa ac)
   (hm:W.mroIn K C (.type "object")=aa ac):gT K H (.ref a) (.ref C)
variable{Q:PRS}{c u:Value}{b:Bool}
def Je{t:Value}(I:Inv X pins σ H s)(m:aR x u)(ty:gT X.K H x t)(e:W.kitOne X.K t c=aa b)(h:∀G,Q (.bool b) {s with toks:=G}):
  wpAny (model X.prog X.w) A (call (.builtin "isinstance") [u,c]) Q E s:=by
 cases ty with
 |non=>cases (m);exact jt W.kitx_none I.kIn ie e (λz=>nomatch z) h
 |bl y=>cases (m);exact jt W.kitx_bool I.kIn ie e (λz=>nomatch z) h
 |int i=>obtain⟨t,q⟩:=(m);subst q;exact jt W.kitx_int I.kIn ie e (λz=>nomatch z) h
 |str y=>obtain⟨t,q⟩:=(m);subst q;exact jt W.kitx_str I.kIn ie e (λz=>nomatch z) h
 |flt y=>obtain⟨t,q⟩:=(m);subst q;exact jt W.kitx_float I.kIn ie e (λz=>nomatch z) h
 | @lst a xs d=>
  cases (m);obtain⟨_,_,n,_,h1⟩:=(I.hok a _ d)
  exact jt W.kitx_list I.kIn ⟨_,h1,rfl⟩ e (λz=>nomatch z) h
 | @frz a L xs d=>
  cases (m);obtain⟨_,_,_,n,_,h1⟩:=(I.hok a _ d)
  exact jt W.kitx_list I.kIn ⟨_,h1,rfl⟩ e (λz=>nomatch z) h
 | @tup a xs d=>
  cases (m);obtain⟨_,_,_,p⟩:=(I.hok a _ d);obtain⟨o,h1,h2,_⟩:=p
  exact jt W.kitx_tuple I.kIn ⟨o,h1,h2⟩ e (λz=>nomatch z) h
 | @dK a kvs d=>
  cases (m);obtain⟨_,_,vs,_,p⟩:=(I.hok a _ d);obtain⟨o,es,B,h1,h2,_⟩:=p
  exact jt W.kitx_dict I.kIn ⟨o,h1,h2.1⟩ e (λz=>nomatch z) h
 | @dT a kvs d=>
  cases (m);obtain⟨_,_,xs,_,o,es,B,h1,h2,_⟩:=(I.hok a _ d)
  exact jt W.kitx_dict I.kIn ⟨o,h1,h2.1⟩ e (λz=>nomatch z) h
 | @ins a C dx fs d cl ha hn htk hm=>
  cases (m);obtain⟨mA,O,_⟩:=Jd I.hok d;obtain⟨od,J,_⟩:=O.look;exact jt (W.kitx_own (cl.get _) cl.hd ha hn htk hm) I.kIn J e (λz=>nomatch z) h
structure c6(k:Nat)(A:eI):Prop where
 hd:A.handled=ab
 dp:A.depth+3*k+5<recursionLimit
 un:A.units+16*k+200<cLine
def c6.mono{j k:Nat}(r:c6 k A)(h:j<=k):c6 j A:=⟨r.hd,by have:=r.dp;lia,by have:=r.un;lia⟩
def c6.deeper{k:Nat}(r:c6 (k+1) A)(env:Env):c6 k (A.deeper env):=
 ⟨r.hd,by have:=r.dp;show A.depth+1+3*k+5<_;lia,by have:=r.un;show A.units+3+16*k+200<_;lia⟩
def c6.depth{k:Nat}(r:c6 k A):A.depth<recursionLimit:=by have:=r.dp;lia
def c6.units{k:Nat}(r:c6 k A):A.units+64<cLine:=by have:=r.un;lia
abbrev kL:TA:=λ_ H Q=>Q [] H
abbrev jX(ta:TE)(d:TA):TA:=λσ H Q=>ta σ H λx H1=>d σ H1 λxs H2=>Q (x::xs) H2
def cs:PA X [] kL:=λ_ _ _ _ H Q I h=>xl ⟨[],H,I,.nil,h⟩
variable{t:TA}
def bW(ha:PE X e te)(n:PA X es t)(p:StE X e es:=by rfl):PA X (e::es) (jX te t):=by
 intro pos pins s σ H Q I h;rw[p];exact mT (thn (ha pins s σ H _ I h) λu s1 ⟨x,H1,d,B,q⟩=>(thn (n pos pins s1 σ H1 _ d q) λus s2 ⟨xs,H2,m,G,z⟩=>⟨x::xs,H2,m,.cons B G,z⟩))
abbrev Jf(t:TA):TE:=λσ H Q=>t σ H λxs H1=>xs.length<=aW/\∀p,H1 p=ab->Q (.ref p) (upd H1 p (.tup xs))
abbrev Jg(t:TA):TE:=λσ H Q=>t σ H λxs H1=>xs.length<=aW/\∀p,H1 p=ab->Q (.ref p) (upd H1 p (.lst xs))
def tX{pos:Pos}{x1}(h:PA X es t):PE X (.Tuple es x1 pos) (Jf t):=by
 intro pins s σ H Q I m;refine wpAny_Tuple_spliced (thn (h pos pins s σ H _ I m) λus s1 ⟨xs,H1,d,r,z,q⟩=>⟨by rw[<- r.length];exact z,?_⟩);refine⟨.ref s1.heap.objs.size,upd H1 s1.heap.objs.size _,d.laid (λb u e=>bV _ e) (aU _) ?_,rfl,q _ (d.hok.fresh (aU _))⟩;exact⟨z,us,r,⟨_,dS _ rfl,rfl,_,rfl⟩⟩
def xK{pos:Pos}(h:PA X es t):PE X (.List es pos) (Jg t):=by
 intro pins s σ H Q I m;refine wpAny_List_spliced (thn (h pos pins s σ H _ I m) λus s1 ⟨xs,H1,d,r,z,q⟩=>⟨by rw[<- r.length];exact z,?_⟩);refine⟨.ref s1.heap.objs.size,upd H1 s1.heap.objs.size _,d.laid (λb u e=>bV _ e) (aU _) ?_,rfl,q _ (d.hok.fresh (aU _))⟩;exact⟨z,us,0,r,dS _ rfl⟩
@[reducible]noncomputable def Sp:=List V->Hp->VK->XK->Prop
@[reducible]noncomputable def CXT:=List Env->Hp->aI->XK->PRS
structure tY(P:dn)(w:World)(K:bm)(mg:MGT)(base:Heap)(A:eI)(outer:List Env)(s:aI)(H:Hp):Prop where
 frames:A.frames=aa outer
 mod:Mod K mg base
 bs:∀b o,base.get? b=aa o->s.heap.get? b=aa o/\H b=ab
 bsz:base.objs.size<=s.heap.objs.size
 funs:s.heap.FunFrames base outer
 frf:∀b∈frs outer,H b=ab
 hok:HOk P w H s.heap
 bare:kG s.gens
abbrev CE(outer:List Env)(P:dn)(w:World)(H:Hp)(s:aI)(Q:VK)(u:Value)(s':aI):Prop:=
 ∃v H',s'.os=s.os/\kG s'.gens/\Un (frs outer) [] H H' s.heap s'.heap/\HOk P w H' s'.heap/\aR v u/\Q v H'
abbrev CR(CX:CXT)(outer:List Env)(P:dn)(w:World)(H:Hp)(s:aI)(Q:VK)(E:XK)(r:Result)(s':aI):Prop:=
 match r with
 |.ok (.ret u)=>CE outer P w H s Q u s'
 |.ok _=>False
 |.error e=>CX outer H s E e s'
structure gm(P:dn)(w:World)(K:bm)(mg:MGT)(base:Heap)(CX:CXT)(k:Nat)(f:Addr)(fd:gl)(ps:LSt)(sp:Sp):Prop where
 len:∀vs H Q E,sp vs H Q E->vs.length=ps.length
 run:∀(A:eI) (outer:List Env) (s:aI) (H:Hp) (args:Args) (us:LVa) (vs:List V) (Q:VK) (E:XK),c6 k A->tY P w K mg base A outer s H->BindsTo s fd args (ps.zip us)->aX vs us->sp vs H Q E ->
  gS (model P w) A (.call (.ref f) args) (CR CX outer P w H s Q E) s
variable{mg:MGT}{base:Heap}{CX:CXT}{fd:gl}{ps:LSt}{sp:Sp}
def gm.imp{k:Nat}{f:Addr}{d:Sp}(F:gm P w K mg base CX k f fd ps sp)
 (h:∀vs H Q E,d vs H Q E->sp vs H Q E):gm P w K mg base CX k f fd ps d:=
 ⟨λvs H Q E q=>F.len vs H Q E (h _ _ _ _ q),λA outer s H args us vs Q E p n m B z=>F.run A outer s H args us vs Q E p n m B (h _ _ _ _ z)⟩
def Inv.env0(I:Inv X pins σ H s):tY X.prog X.w X.K X.mg X.base X.A X.stack s H:=
 ⟨I.ok.frames,I.ok.mod,I.bs,cV I.ok.bsz I.sz,I.stack,I.stkFree,I.hok,I.bare⟩
def Inv.after{Q:VK}(I:Inv X pins σ H s)(h:CE X.stack X.prog X.w H s Q u s'):EP X pins σ Q u s':=by
 obtain⟨v,H',os,bare,un,hok,r,q⟩:=h;obtain⟨n,g,d,t,m⟩:=s';obtain rfl:m=s.os:=os;exact⟨v,H',I.call un hok bare (λb z=>absurd z (by simp)),r,q⟩
abbrev Jh(sp:Sp)(d:List V)(E:XK)(t:TA):TE:=λσ H Q=>t σ H λvs H1=>sp (vs++d) H1 Q E
abbrev mZ(K:bm)(fd:gl)(ps:LSt)(ds:LVa):Prop:=
 ∀(s:aI) (us:LVa),K.In s.heap->(us++ds).length=ps.length->BindsTo s fd ⟨us,[]⟩ (ps.zip (us++ds))
def mZ.all(h:∀us:LVa,us.length=ps.length->bindArgs fd ⟨us,[]⟩=pure (ps.zip us)):mZ K fd ps []:=λs us _ d=>by
 rw[cx]at d ⊢;exact .of_eq (h us d)
abbrev xL(CX:CXT)(X:Cx)(E:XK):Prop:=∀(pins:PNS) (σ:St) (H:Hp) (s:aI) (e:Value) (s':aI),Inv X pins σ H s->CX X.stack H s E e s'->X.xe e s'
variable{dvs vs:List V}{ds:LVa}{E:XK}
def Ji{k:Nat}{f:Addr}{Q:VK}(F:gm X.prog X.w X.K X.mg X.base CX k f fd ps sp)(z:c6 k X.A)(p:mZ X.K fd ps ds)(hd:aX dvs ds)(B:xL CX X E)
 (I:Inv X pins σ H s)(r:aX vs us)(h:sp (vs++dvs) H Q E):wpAny (model X.prog X.w) X.A (call (.ref f) us) (EP X pins σ Q) X.xe s:=by
 have m:=r.append hd;have q:(us++ds).length=ps.length:=by rw[<- m.length];exact F.len _ _ _ _ h
 refine wpAny_call (mQ (F.run X.A X.stack s H ⟨us,[]⟩ _ _ Q E z I.env0 (p s us I.kIn q) m h) λr s' d=>?_)
 cases r with
 |error e=>exact B pins σ H s e s' I d
 |ok n=>
  cases n with
  |ret u=>exact I.after d
  |next=>exact jN d
  |brk=>exact jN d
  |cont=>exact jN d
variable{x:Str}{p:Pos}
def kM{k:Nat}{f:Addr}{pos:Pos}(F:gm X.prog X.w X.K X.mg X.base CX k f fd ps sp)(L:c6 k X.A)(G:Gl X x)(hm:X.mg x=aa (.ref f))(J:W.keepIn X.K (.ref f)=ac)(z:mZ X.K fd ps ds)(hd:aX dvs ds)(T:xL CX X E)
 (ha:PA X (e::es) t)(d:NDb x:=by decide)(B:StE X e es:=by rfl)(m:BkE X pos es:=by rfl):
  PE X (.Call (.Name x p) (e::es) [] pos) (Jh sp dvs E t):=by
 intro pins s σ H Q I h;refine mN (B2 I G hm ?_ d);exact W.callWith_K I.ok.mod.kin J (thn (ha pos pins s σ H _ I h) λus s1 ⟨vs,H1,n,r,q⟩=>⟨n.kIn,(Ji F L z hd T n r q)⟩) B m
structure bo(N P:LSt)(sc:Scope):Prop where
 kind:sc.kind=.function
 co:sc.isCoroutine=ag
 gen:sc.isGenerator=ag
 nd:N.Nodup
 pre:N.take P.length=P
 par:∀x∈P,sc.names.lookup x=aa .local\/sc.names.lookup x=aa .cell
 nofree:∀y∈sc.names,y.2≠.free
def Cm{kindOf:Str->Option gF}{x:Str}:∀{binds:List (Str×Value)} {m:MGT},(∀v,(x,v)∉binds)->bindL kindOf binds m x=m x
 | [],_,_=>rfl
 |(n,v)::r,m,h=>by
  unfold bindL;rw[Cm λw d=>h w (cB _ d)];split
  .have:x≠n:=by rintro rfl;exact h v bK
   simp[this]
  .rfl
def Cn{kindOf:Str->Option gF}{x:Str}:∀{binds:List (Str×Value)} {m:MGT},(∀v,(x,v)∉binds)->bindC kindOf binds m x=m x
 | [],_,_=>rfl
 |(n,v)::r,m,h=>by
  unfold bindC;rw[Cn λw d=>h w (cB _ d)];split
  .rfl
  .have:x≠n:=by rintro rfl;exact h v bK
   simp[this]
def Co{kindOf:Str->Option gF}{x:Str}{v:Value}:∀{P:LSt} {vs:LVa} {i:Nat} {m:MGT},P.Nodup->P[i]?=aa x->vs[i]?=aa v->kindOf x=aa .local ->
  bindL kindOf (P.zip vs) m x=aa v
 | [],_,_,_,_,h,_,_=>by simp at h
 | _::_,[],_,_,_,_,h,_=>by simp at h
 |p::P,w::vs,0,m,nd,h1,h2,hk=>by
  simp at h1 h2;subst h1;subst h2;show bindL kindOf (_::P.zip vs) m p=_;unfold bindL;rw[Cm λv d=>(gC.mp nd).1 (of_mem_zip d).1,if_pos hk]
  simp
 |p::P,w::vs,i+1,m,nd,h1,h2,hk=>by
  show bindL kindOf (_::P.zip vs) m x=_;exact Co (gC.mp nd).2 (by simpa using h1) (by simpa using h2) hk
def Cp{kindOf:Str->Option gF}{x:Str}{v:Value}:∀{P:LSt} {vs:LVa} {i:Nat} {m:MGT},P.Nodup->P[i]?=aa x->vs[i]?=aa v->kindOf x≠aa .local ->
  bindC kindOf (P.zip vs) m x=aa v
 | [],_,_,_,_,h,_,_=>by simp at h
 | _::_,[],_,_,_,_,h,_=>by simp at h
 |p::P,w::vs,0,m,nd,h1,h2,hk=>by
  simp at h1 h2;subst h1;subst h2;show bindC kindOf (_::P.zip vs) m p=_;unfold bindC;rw[Cn λv d=>(gC.mp nd).1 (of_mem_zip d).1,if_neg hk]
  simp
 |p::P,w::vs,i+1,m,nd,h1,h2,hk=>by
  show bindC kindOf (_::P.zip vs) m x=_;exact Cp (gC.mp nd).2 (by simpa using h1) (by simpa using h2) hk
abbrev start(N:LSt)(vs:List V):St:=vs.map aa++gz (N.length-vs.length) ab
abbrev kO(CX:CXT)(P:dn)(w:World)(K:bm)(mg:MGT)(base:Heap)(N:LSt)(qual:Str)(scope:Scope)(f:Addr)(cd:Value)(A:eI)(outer:List Env)(s:aI)(H:Hp)(E:XK):Cx where
 prog:=P
 w:=w
 K:=K
 mg:=mg
 base:=base
 A:=A.deeper (iL qual scope s.heap.objs.size f cd)
 N:=N
 s₀:=s
 H₀:=H
 env:=iL qual scope s.heap.objs.size f cd
 outer:=outer
 stack:=iL qual scope s.heap.objs.size f cd::outer
 ex:=[]
 calm:=ac
 fn:=λ_=>ac
 pn:=[]
 xe:=λe s'=>wpAny (model P w) (A.deeper (iL qual scope s.heap.objs.size f cd)) (leaving (iL qual scope s.heap.objs.size f cd) e) (λ_ s''=>CX outer H s E e s'') (λe' s''=>CX outer H s E e' s'') s'
variable{n:Nat}
def Cq{sc:Scope}(h:sc.names.lookup x=aa .cell):∃c,(cellsFrom n sc.names []).lookup x=aa c:=by
 exact Option.isSome_iff_exists.mp (W.cellsFrom_some sc.names n [] (.inl h))
variable{qual:Str}{scope:Scope}
def Jj{f:Addr}{J:Value}{outer:List Env}{s1:aI}
 (S:bo N ps scope)(hd:A.handled=ab)(d:tY P w K mg base A outer s H)(hl:vs.length=ps.length)(r:aX vs us)
 (x:InCallC s s.heap.objs.size (bindL (iL qual scope s.heap.objs.size f J).kindOf (ps.zip us) λ_=>ab) (cellsFrom (s.heap.objs.size+1) scope.names []) (bindC (iL qual scope s.heap.objs.size f J).kindOf (ps.zip us) λ_=>ab) s1):
  Inv (kO CX P w K mg base N qual scope f J A outer s H E) [] (start N vs) H s1:=by
 have U:ps.length<=N.length:=by have:=congrArg fB S.pre;rw[hJ]at this;lia
 obtain⟨h1,tk,rfl,L⟩:=x.done;have B:∀b:Addr,b∉(kO CX P w K mg base N qual scope f J A outer s H E).ex:=λb z=>absurd (show b∈([]:LAd)from z) (by simp)
 refine⟨⟨d.mod,S.kind,rfl,rfl,aU _,λy z c h1 h2=>?_,λy m=>?_,λy c _ h=>?_,λ_=>hd,eI.frames_deeper d.frames,.inr ⟨rfl,rfl⟩,λb z=>absurd z (B b),d.bs,d.bsz,λb _ _=>B b,λb z=>absurd z (B b),d.funs,d.frf⟩,
  rfl,d.bare,Un.kept L,⟨_,x.toInCall.ns,λi y v h1 h2 h3=>?_⟩,λy c h=>⟨_,x.cell y c h⟩,d.hok.fresh (aU _),λy c h=>?_,λp G=>absurd (show p∈([]:List _)from G) (by simp),d.hok.kept L,?_⟩
 .exact name_of_addr x.apart (pZ h1) (pZ h2)
 .have m:=m
  rcases m with m |m
  .exact Cq m
  .exact absurd rfl (S.nofree _ (pZ m))
 .exact jS (x.above y c (pZ h))
 .have hi:i<vs.length:=by
   unfold start at h2
   by_cases hi:i<vs.length
   .exact hi
   .rw[jO (by simpa using hi)]at h2;rw[w4]at h2
    split at h2 <;> nomatch h2
  have ha:vs[i]?=aa v:=by
   unfold start at h2;rw[mx (by simpa using hi),eM]at h2
   cases e:vs[i]? with
   |none=>rw[e]at h2;nomatch h2
   |some a=>rw[e]at h2;cases h2;rfl
  obtain⟨u,T,Y⟩:=r.get ha
  have G:ps[i]?=aa y:=by
   rw[<- S.pre,List.getElem?_take_of_lt (by lia)];exact h1
  have I:ps.Nodup:=by rw[<- S.pre];exact S.nd.sublist (take_sublist _ _)
  refine⟨u,Y,?_⟩
  rcases S.par y (sO G)with k |k
  .exact .inl ⟨k,Co I G T k⟩
  .obtain⟨c,e⟩:=Cq k;refine .inr ⟨.inl k,c,e,?_⟩;have q:=x.cell y c e;rw[Cp I G T (by show scope.names.lookup y≠_;rw[k];decide)]at q;exact q
 .exact d.hok.fresh (jS (x.above y c (pZ h)))
 .unfold start;show _=N.length;rw[aM,au,mz];lia
variable{name:Str}{an od:Option Addr}{osl:Array (Option Value)}
def Jk{k:Nat}{f:Addr}{params:Arguments}{dV kV doc pm cdv ct oc:Value}
  (lk:K.lookup f=aa ⟨oc,od,.func (W.fnOf name qual params body scope dV kV doc pm an cdv ct),osl⟩)(T:W.codeIn K cdv qual=ac)(S:bo N ps scope)
 (len:∀vs H Q E,sp vs H Q E->vs.length=ps.length)
 (d:∀ (A:eI) (outer:List Env) (s:aI) (H:Hp) (vs:List V) (Q:VK) (E:XK),c6 k (A.deeper (iL qual scope s.heap.objs.size f cdv))->sp vs H Q E ->
   ∃t,PSs (kO CX P w K mg base N qual scope f cdv A outer s H E) body t/\t {nx:=λ_ H'=>Q .non H',rt:=Q} (start N vs) H):
  gm P w K mg base CX (k+1) f (W.fnOf name qual params body scope dV kV doc pm an cdv ct) ps sp:=by
 refine⟨len,λA outer s H args us vs Q E U B hb r L=>?_⟩;have KX:=B.mod.kin.keeps λb o e=>(B.bs b o e).1
 have m:∀y∈ps.zip us,scope.names.lookup y.1=aa .local\/(scope.names.lookup y.1=aa .cell/\((cellsFrom (s.heap.objs.size+1) scope.names []).lookup y.1).isSome=ac):=λ⟨n,v⟩ hy=>by
  rcases S.par n (of_mem_zip hy).1 with q |q
  .exact .inl q
  .exact .inr ⟨q,W.cellsFrom_some _ _ _ (.inl q)⟩
 refine codeAny_call_function U.depth (KX _ _ lk) rfl S.co S.gen rfl (W.codeRec_of KX T) (hb _ _ _ _ ?_);refine wpAny_newFunctionEnv_cells S.kind m λenv he s1 x=>?_;subst he;refine⟨(B.mod.nolimit.keeps λb o e=>(B.bs b o e).1).keeps x.toInCall.keep,codeAny_func ?_⟩;obtain⟨t,ht,hq⟩:=d A outer s H vs Q E (U.deeper _) L;have I:Inv (kO CX P w K mg base N qual scope f cdv A outer s H E) [] _ H s1:=Jj S U.hd B (len _ _ _ _ L) r x;refine gj (ht [] s1 _ H _ I hq) (λfl s' z=>?_) λe s' z=>z
 have G:∀{σ':St} {H':Hp} {v:V} {u:Value},Inv (kO CX P w K mg base N qual scope f cdv A outer s H E) [] σ' H' s'->aR v u->Q v H'->CE outer P w H s Q u s':=
  λ{σ' H' v u} J Y q=>⟨v,H',J.os,J.bare,J.base,J.hok,Y,q⟩
 cases fl with
 |ret u=>
  obtain⟨v,σ',H',J,Y,q⟩:=z
  exact G J Y q
 |next=>
  obtain⟨σ',H',J,q⟩:=z
  exact G (v:=V.non) J rfl q
 |brk=>
  obtain⟨_,_,_,q⟩:=z
  exact jN q
 |cont=>
  obtain⟨_,_,_,q⟩:=z;exact jN q
abbrev tCB(r:List V->Hp->VK->Prop)(t:TA):TE:=λσ H Q=>t σ H λvs H1=>r vs H1 Q
variable{r:List V->Hp->VK->Prop}
def qk{pos:Pos}{id:String}(z:ga X (.builtin id) r)(G:Gl X x)(hm:X.mg x=ab)(J:gR x=aa (.builtin id))(ha:PA X (e::es) t)(hn:x ≠ "__name__":=by decide)(d:NDb x:=by decide)
 (B:StE X e es:=by rfl)(m:BkE X pos es:=by rfl):PE X (.Call (.Name x p) (e::es) [] pos) (tCB r t):=by
 intro pins s σ H Q I h;exact mN (iU I G hm J (BN (thn (ha pos pins s σ H _ I h) λus s1 ⟨vs,H1,q,T,L⟩=>z pins s1 σ H1 vs us Q q T L) B m) hn d)
variable{T:String}
def tZ{pos:Pos}(z:ga X (.type T) r)(G:Gl X x)(hm:X.mg x=ab)(J:gR x=aa (.type T))(ha:PA X (e::es) t)(hn:x ≠ "__name__":=by decide)(d:NDb x:=by decide)
 (B:StE X e es:=by rfl)(m:BkE X pos es:=by rfl):PE X (.Call (.Name x p) (e::es) [] pos) (tCB r t):=by
 intro pins s σ H Q I h;exact mN (iU I G hm J (kE (thn (ha pos pins s σ H _ I h) λus s1 ⟨vs,H1,q,U,L⟩=>z pins s1 σ H1 vs us Q q U L) B m) hn d)
end L2
namespace HT
open List
open PySem PyProof.Rows
open PySem.SeqAt
open PySem.AutoSeq1 (wpAny_loadPart')
open PySem.MeetsSeq PySem.MeetsSeq2 PySem.MeetsSeq3
abbrev sIx(n d:Nat):Option Int->Nat
 |none=>d
 |some v=>if v<0 then (v+(n:Int)).toNat else min v.toNat n
def sIx_none(n d:Nat):sIx n d ab=d:=rfl
def sIx_nat(n d k:Nat):sIx n d (aa (k:Int))=min k n:=by
 show(if k<0 then (k+(n:Int)).toNat else min (k:Int).toNat n)=min k n;rw[if_neg (by lia),gP]
def Cr(v:Int)(n d:Nat):(if v<0 then max (v+(n:Int)) 0 else min v (n:Int))=((sIx n d (aa v):Nat):Int):=by
 show _=(((if v<0 then (v+_).toNat else min v.toNat n):Nat):Int)
 by_cases a:v<0
 .simp only[if_pos a];lia
 .simp only[if_neg a];lia
def Jl(lo hi:Option Int)(n:Nat):BU lo hi 1 (n:Int)=(((sIx n 0 lo:Nat):Int),((sIx n n hi:Nat):Int)):=by
 refine Prod.ext ?_ ?_
 .cases lo with
  |none=>rfl
  |some v=>exact Cr v n 0
 .cases hi with
  |none=>rfl
  |some v=>exact Cr v n n
def Jm(i j:Nat):xi (i:Int) (j:Int) 1=j-i:=by
 unfold xi
 split <;> lia
variable{prog:dn}{w:World}{A:eI}{E:PRS}{s:aI}{v:Value}
def Cs{o:Option Int}{Q:Option Int->aI->Prop}(p:IsPart v o)(h:Q o s):wpAny (model prog w) A (c9.Slice.slicePartIndex v) Q E s:=by
 cases p with
 |none=>exact slicePart_none h
 |int i t=>exact slicePart_int h
variable{sl:Addr}{vl vu:Value}{lo hi:Option Int}{n:Nat}
def Jn{Q:Int×Int×Nat->aI->Prop}(d:s.heap.IsSliceOf sl vl vu .none)(pl:IsPart vl lo)(e:IsPart vu hi)
 (h:Q (((sIx n 0 lo:Nat):Int),1,sIx n n hi-sIx n 0 lo) s):wpAny (model prog w) A (c9.Slice.sliceApplied (.ref sl) (pure (n:Int))) Q E s:=by
 obtain⟨os,b,c,a⟩:=id d;refine av (av (iM b a rfl (av (iM b a rfl (av (iM b a rfl (bc ?_)))))));refine av (slicePart_none ?_);refine av (Cs pl (av (Cs e (av (bc ?_)))))
 show wpAny _ _ (match BU lo hi 1 _ with |(lo,hi)=>pure (lo,_,xi lo hi 1)) _ _ s
 rw[Jl lo hi n];show wpAny _ _ (pure _) _ _ s;rw[Jm];exact bc h
def Jo(xs:Array Value)(i k:Nat):((cp k).filterMap λ(m:Nat)=>xs[((i:Int)+(m:Int)*1).toNat]?).toArray=((xs.toList.drop i).take k).toArray:=by
 have e:(λ(m:Nat)=>xs[(i+(m:Int)*1).toNat]?)=λm=>xs[i+m]?:=by
  funext m;have:(i+(m:Int)*1).toNat=i+m:=by lia
  rw[this]
 rw[e];have:=pick_run xs i k;rw[filterMap_map]at this;have a:(_ ∘ λx=>i+x)=λm=>xs[i+m]?:=rfl;rw[a]at this;rw[this]
variable{items:Array Value}{Q:PRS}
def getItem_tuple_cut{t:Addr}(b:IsTup s.heap t items)(i:s.heap.IsSliceOf sl vl vu .none)(pl:IsPart vl lo)(m:IsPart vu hi)
 (l:¬(sIx items.size 0 lo=0/\sIx items.size items.size hi=items.size))
 (h:Q (.ref s.heap.objs.size) {s with heap:=s.heap.push {cls:=.type "tuple",data:=.seq ((items.toList.drop (sIx items.size 0 lo)).take (sIx items.size items.size hi-sIx items.size 0 lo)).toArray}})
 (hsz:items.size<=aW):wpAny (model prog w) A (kH (.ref t) (.ref sl)) Q E s:=by
 have a:sizeOk (.seq ((items.toList.drop (sIx items.size 0 lo)).take (sIx items.size items.size hi-sIx items.size 0 lo)).toArray):=by
  show((items.toList.drop _).take _).toArray.size<=aW;rw[size_toArray,hJ,lB,pP];lia
 obtain⟨os,g,d,j⟩:=id i;have c:s.TypeIs (.ref sl) "slice":=⟨os,g,d⟩;unfold kH
 try with_reducible refine fh ?_
 first |refine av _ |skip
 refine av (wpAny_sequenceKey b.typeIs (by decide) ?_)
 refine av (pY b.typeIs w9
  (on w9 b.typeIs entry_tuple_getitem ?_ (args_tuple_getitem _ _)))
 show wpAny _ _ (c9.Tuple.tupleItemsOf _ >>= _) _ _ s;refine av (tupleItemsOf_ b ?_);refine av (lG c ?_);refine av (Jn i pl m ?_)
 have e:¬((((sIx items.size 0 lo:Nat):Int)==0 && (1:Int)==1 && (sIx items.size items.size hi-sIx items.size 0 lo)==items.size)=ac):=by
  intro q;rw[di,di]at q;have o:=eq_of_beq q.1.1;have p:=eq_of_beq q.2;exact l ⟨by lia,by lia⟩
 show wpAny _ _ (if _=ac then _ else _) _ _ s;rw[if_neg e,Jo]
 first
  |exact av _
  |exact av (tf (av (bc (bc ⟨_,rfl,bc h⟩))) a)
  |exact av _
  |exact av _
end HT
namespace L2
open List
open PySem PySem.Spec PyProof.Rows
@[reducible]noncomputable def TO:=St->Hp->(Option Int->Hp->Prop)->Prop
abbrev PO(X:Cx)(e:Option Expr)(t:TO):Prop:=
 ∀(pins:PNS) (s:aI) (σ:St) (H:Hp) (Q:Option Int->Hp->Prop),Inv X pins σ H s->t σ H Q ->
  wpAny (model X.prog X.w) X.A (evalPart e X.env) (λu s'=>∃o H',Inv X pins σ H' s'/\IsPart u o/\Q o H') X.xe s
abbrev Jp:TO:=λ_ H Q=>Q ab H
abbrev Jq(t:TE):TO:=λσ H Q=>t σ H λx a=>∃i,x=.int i/\Q (aa i) a
variable{X:Cx}
def xM:PO X ab Jp:=by
 intro pins s σ H Q I h;exact bc ⟨ab,H,I,.none,h⟩
variable{e:Expr}{te:TE}
def Ct(h:PE X e te):PO X (aa e) (Jq te):=by
 intro pins s σ H Q I c;refine thn (h pins s σ H _ I c) λu s1 g=>?_;obtain⟨x,a,b,j,d⟩:=g;obtain⟨i,rfl,q⟩:=d;obtain⟨t,rfl⟩:=j;exact⟨aa i,a,b,.int i t,q⟩
variable{lo hi:Option Expr}
abbrev SlR(X:Cx)(r:V->Option Int->Option Int->Hp->VK->Prop):Prop:=
 ∀(pins:PNS) (s:aI) (σ:St) (H:Hp) (x:V) (v a b:Value) (lo hi:Option Int) (sl:Addr) (Q:VK),Inv X pins σ H s->aR x v->s.heap.IsSliceOf sl a b .none->IsPart a lo->IsPart b hi->r x lo hi H Q ->
  ∃T id,lH (.type T) "__getitem__"=pure (aa (.builtin id))/\s.TypeIs v T/\wpAny (model X.prog X.w) X.A (kH v (.ref sl)) (EP X pins σ Q) X.xe s
abbrev tSl(r:V->Option Int->Option Int->Hp->VK->Prop)(te:TE)(g d:TO):TE:=λσ H Q=>te σ H λx a=>g σ a λl b=>d σ b λu c=>r x l u c Q
variable{tl th:TO}{p2:Pos}
def xN{pos:Pos}{r:V->Option Int->Option Int->Hp->VK->Prop}(B:SlR X r)(y:PE X e te)(A:PO X lo tl)(E:PO X hi th):PE X (.Subscript e (.Slice lo hi ab p2) pos) (tSl r te tl th):=by
 intro pins s σ H Q I h;refine Subscript_ (thn (y pins s σ H _ I h) λv s1 c=>?_);obtain⟨x,j,n,N,J⟩:=c;refine wpAny_Slice (thn (A pins s1 σ j _ n J) λd s2 ⟨l,m,o,pl,L⟩=>thn (E pins s2 σ m _ o L) λg a c=>?_);obtain⟨u,i,p,G,M⟩:=c;refine bc ?_
 have t:Inv X pins σ i {a with heap:=a.heap.push {cls:=.type "slice",data:=.fields #[d,g,.none]}}:=p.kept λb U q=>bV _ q
 obtain⟨T,id,w,C,z⟩:=B pins {a with heap:=a.heap.push {cls:=.type "slice",data:=.fields #[d,g,.none]}} σ i x v d g l u a.heap.objs.size Q t N (BX ..) pl G M
 exact tail_any C w z (by with_unfolding_all rfl)
abbrev m3(xs:List V)(lo hi:Option Int):List V:=(xs.drop (HT.sIx xs.length 0 lo)).take (HT.sIx xs.length xs.length hi-HT.sIx xs.length 0 lo)
def Cu(xs:List V)(lo hi:Option Int):(m3 xs lo hi).length<=xs.length:=by
 unfold m3;rw[hJ,lB];lia
abbrev Jr(K:bm):V->Option Int->Option Int->Hp->VK->Prop:=λx lo hi H Q=>∃a xs,x=.ref a/\SqT K H a xs /\
 ¬(HT.sIx xs.length 0 lo=0/\HT.sIx xs.length xs.length hi=xs.length)/\∀p,H p=ab->Q (.ref p) (upd H p (.tup (m3 xs lo hi)))
def Js:SlR X (Jr X.K):=by
 intro pins s σ H x v o p lo hi sl Q I m g pl l h;obtain⟨a,xs,rfl,j,i,q⟩:=h;subst m;obtain⟨its,r,d,hz⟩:=I.tuple j;have c:its.toArray.size=xs.length:=by rw[size_toArray];exact r.length.symm
 refine⟨"tuple",_,w9.lookup,d.typeIs,?_⟩;refine HT.getItem_tuple_cut d g pl l (by rw[c];exact i) ?_ (by rw[c];exact hz);rw[c];refine⟨.ref s.heap.objs.size,_,I.laid (λb n q=>bV _ q) (aU _) ?_,rfl,q _ (I.hok.fresh (aU _))⟩;exact⟨cV (Cu xs lo hi) hz,_,(r.drop _).take _,IsTup.new _ _⟩
abbrev ixN(n:Nat)(i:Int):Option Nat:=if 0<=i then (if i<n then aa i.toNat else ab) else if -(n:Int)<=i then aa (i+n).toNat else ab
abbrev atI{a:Type}(xs:List a)(i:Int):Option a:=(ixN xs.length i).bind λj=>xs[j]?
variable{n j:Nat}{i:Int}
def Cv(h:ixN n i=aa j):seqIndex? i n=aa j/\j<n/\-(n:Int)<=i/\i<n:=by
 unfold ixN at h
 by_cases b:0<=i
 .rw[if_pos b]at h
  by_cases a:i<n
  .rw[if_pos a]at h;have e:=cz h;exact⟨by rw[seqIndex_of b a,e],by lia,by lia,a⟩
  .rw[if_neg a]at h;nomatch h
 .rw[if_neg b]at h
  by_cases a:-n<=i
  .rw[if_pos a]at h;have e:=cz h;exact⟨by rw[seqIndex_neg (by lia) a,e],by lia,a,by lia⟩
  .rw[if_neg a]at h;nomatch h
def Cw{a:Type}{xs:List a}{v:a}(h:atI xs i=aa v):∃j,seqIndex? i xs.length=aa j/\xs[j]?=aa v/\j<xs.length/\-(xs.length:Int)<=i/\i<xs.length:=by
 unfold atI at h
 cases e:ixN xs.length i with
 |none=>rw[e]at h;nomatch h
 |some j=>
  rw[e]at h;obtain⟨b,c,d,g⟩:=Cv e;exact⟨j,b,h,c,d,g⟩
abbrev t4(b:Expr):Prop:=∀o i,p9 b ag o i=operate [o,i] (kH o i)
abbrev IxR(X:Cx)(r:R2):Prop:=
 ∀(value slice:Expr) (pins:PNS) (s:aI) (σ:St) (H:Hp) (x y:V) (v u:Value) (Q:VK),Inv X pins σ H s->aR x v->aR y u->r x y H Q ->
  p9 slice ag v u=operate [v,u] (kH v u)->wpAny (model X.prog X.w) X.A (subscriptTail value slice v u) (EP X pins σ Q) X.xe s
abbrev MtR(X:Cx)(id:String)(r:V->List V->Hp->VK->Prop):Prop:=
 ∀(pins:PNS) (s:aI) (σ:St) (H:Hp) (x:V) (xs:List V) (v:Value) (us:LVa) (Q:VK),Inv X pins σ H s->aR x v->aX xs us->r x xs H Q ->
  wpAny (model X.prog X.w) X.A (call (.builtin id) (v::us)) (EP X pins σ Q) X.xe s
variable{r r':R2}
def IxR.or(h:IxR X r)(h':IxR X r'):IxR X (λx y H Q=>r x y H Q\/r' x y H Q):=by
 intro value slice pins s σ H x y v u Q I b c q a
 rcases q with q |q
 .exact h value slice pins s σ H x y v u Q I b c q a
 .exact h' value slice pins s σ H x y v u Q I b c q a
variable{a b:Expr}{ta tb:TE}
def xO{pos:Pos}(l:IxR X r)(ha:PE X a ta)(g:PE X b tb)(m:t4 b):PE X (.Subscript a b pos) (tOp r ta tb):=by
 intro pins s σ H Q I h;exact Subscript_ (tU ha g I h λv u s2 x y c d o p q=>l a b pins s2 σ c x y v u Q d o p q (m _ _))
abbrev Jt(K:bm):R2:=λx y H Q=>∃p xs i v,x=.ref p/\y=.int i/\SqL K H p xs/\atI xs i=aa v/\Q v H
abbrev Ju(K:bm):R2:=λx y H Q=>∃p xs i v,x=.ref p/\y=.int i/\SqT K H p xs/\atI xs i=aa v/\Q v H
def xP:IxR X (Jt X.K):=by
 intro value slice pins s σ H x y v u Q I M N h A;obtain⟨p,xs,i,z,rfl,rfl,L,G,q⟩:=h;subst M;obtain⟨t,rfl⟩:=N;obtain⟨its,r,pl,hz⟩:=I.list L;obtain⟨j,d,B,T,C,E⟩:=Cw G;obtain⟨w,m,l⟩:=r.get B;have J:=r.length;have hn:=qi;have c:EP X pins σ Q w s:=⟨z,H,I,l,q⟩
 by_cases o:0<=i
 .have g:i.toNat=j:=by
   rw[seqIndex_of o E]at d;exact cz d
  exact item_listR pl.isList o (by lia) (by rw[g];simpa using m) c A
 .have g:(i+its.toArray.size).toNat=j:=by
   rw[seqIndex_neg (by lia) C]at d;rw[size_toArray,<- J];exact cz d
  exact subscriptTail_builtinR pl.isList.typeIs slot_list_getitem.lookup
   (wpAny_getItem_list_neg pl.isList (by lia) (by rw[size_toArray] <;> lia) (by lia) (by rw[g];simpa using m) ⟨rfl,c⟩) A
def xQ:IxR X (Ju X.K):=by
 intro value slice pins s σ H x y v u Q I C E h B;obtain⟨p,xs,i,z,rfl,rfl,A,o,q⟩:=h;subst C;obtain⟨t,rfl⟩:=E;obtain⟨its,r,pl,hz⟩:=I.tuple A;obtain⟨j,l,m,G,J,L⟩:=Cw o;obtain⟨w,g,d⟩:=r.get m;have hn:=qi;have c:EP X pins σ Q w s:=⟨z,H,I,d,q⟩
 exact subscriptTail_builtinR pl.typeIs slot_tuple_getitem.lookup
  (getItem_tuple pl (by lia) (by lia) (by rw[size_toArray,<- r.length];exact l) (by simpa using g) ⟨rfl,c⟩) B
def Jv(its:LVa)(n j:Nat)(u:Value):ib (·.setIfInBounds j u) {cls:=.type "list",data:=.seq its.toArray n}={cls:=.type "list",data:=.seq (its.set j u).toArray n}:=by
 simp[ib]
variable{pins:PNS}{σ:St}{H:Hp}{s:aI}{p:Addr}{xs:List V}
def Inv.lst(I:Inv X pins σ H s)(h:H p=aa (.lst xs)):
  ∃(its:LVa) (n:Nat),aX xs its/\s.heap.get? p=aa {cls:=.type "list",data:=.seq its.toArray n}/\xs.length<=aW:=by
 obtain⟨z,its,n,r,e⟩:=I.hok p _ h;exact⟨its,n,r,e,z⟩
variable{ys:List V}{n':Nat}
def Inv.lstUpd{its c:LVa}{f:Obj->Obj}(I:Inv X pins σ H s)(h:H p=aa (.lst xs))
 (l:s.heap.get? p=aa {cls:=.type "list",data:=.seq its.toArray n})(d:f {cls:=.type "list",data:=.seq its.toArray n}={cls:=.type "list",data:=.seq c.toArray n'})(r:aX ys c)(hz:ys.length<=aW)(t:Nat):
  Inv X pins σ (upd H p (.lst ys)) {s with heap:=s.heap.update p f,toks:=t}:=by
 have e:(s.heap.update p f).get? p=aa {cls:=.type "list",data:=.seq c.toArray n'}:=by
  rw[oy f l (by rw[d] <;> rfl),d]
 exact I.write (by rw[h];trivial) (.inl rfl) (λb u g q=>(mU _ _ (ce g)).trans q) ⟨_,e⟩ ⟨hz,c,n',r,e⟩
abbrev xR:V->V->V->Hp->(Hp->Prop)->Prop:=λo i v H Q=>∃p xs k j,o=.ref p/\i=.int k/\H p=aa (.lst xs)/\ixN xs.length k=aa j/\Q (upd H p (.lst (xs.set j v)))
def Cy:B8 X xR:=by
 intro pins s σ H o i v ov J u Q I C B E h;obtain⟨p,xs,k,j,rfl,rfl,z,A,q⟩:=h;subst C;obtain⟨t,rfl⟩:=B;obtain⟨its,n,r,l,hz⟩:=I.lst z;obtain⟨c,G,x,y⟩:=Cv A;have g:=r.length;have hn:=qi
 have m:Inv X pins σ _ {s with heap:=s.heap.update p _}:=
  I.lstUpd z l (Jv its n j u) (r.set E j) (by rw[hU];exact hz) s.toks
 by_cases w:0<=k
 .have d:k.toNat=j:=by
   rw[seqIndex_of w y]at c;exact cz c
  exact W.ki_setAt l w (by lia) (by rw[size_toArray,<- g];exact y) (by rw[d];exact⟨_,m,q⟩)
 .have d:(k+its.toArray.size).toNat=j:=by
   rw[seqIndex_neg (by lia) x]at c;rw[size_toArray,<- g];exact cz c
  exact W.ki_setBack l (by lia) (by rw[size_toArray,<- g];exact x) (by lia) (by rw[d];exact⟨_,m,q⟩)
def Jw(lo hi:Option Int)(n:Nat):(mR lo hi ab n).1=((HT.sIx n 0 lo:Nat):Int)/\(mR lo hi ab n).2.1=((HT.sIx n n hi:Nat):Int)/\(mR lo hi ab n).2.2=1:=by
 refine⟨?_,?_,rfl⟩
 .cases lo with
  |none=>simp[mR,HT.sIx]
  |some i=>
   simp only[mR,HT.sIx,Option.getD_none]
   by_cases h:i<0
   .simp only[h,if_true] <;> lia
   .simp only[h,if_false] <;> lia
 .cases hi with
  |none=>simp[mR,HT.sIx]
  |some i=>
   simp only[mR,HT.sIx,Option.getD_none]
   by_cases h:i<0
   .simp only[h,if_true] <;> lia
   .simp only[h,if_false] <;> lia
def Cz(its:LVa)(lo hi:Option Int):slicePick its.toArray lo hi ab=((its.drop (HT.sIx its.length 0 lo)).take (HT.sIx its.length its.length hi-HT.sIx its.length 0 lo)).toArray:=by
 obtain⟨c,d,g⟩:=Jw lo hi its.toArray.size;unfold slicePick;rw[c,d,g]
 simp only[sliceRange_one,pick_run] <;> rfl
abbrev Jx(K:bm):V->Option Int->Option Int->Hp->VK->Prop:=λx lo hi H Q=>∃a xs,x=.ref a/\SqL K H a xs/\∀p,H p=ab->Q (.ref p) (upd H p (.lst (m3 xs lo hi)))
def Jy:SlR X (Jx X.K):=by
 intro pins s σ H x v u w lo hi sl Q I o g pl m h;obtain⟨a,xs,rfl,l,q⟩:=h;subst o;obtain⟨its,r,d,hz⟩:=I.list l;have c:=r.length;refine⟨"list",_,slot_list_getitem.lookup,d.isList.typeIs,?_⟩
 refine wpAny_getItem_list_slice d.isList g pl m .none (by simp) ?_ (by rw[size_toArray] <;> lia)
 rw[Cz,<- c];refine⟨.ref s.heap.objs.size,_,I.laid (λb t q=>bV _ q) (aU _) ?_,rfl,q _ (I.hok.fresh (aU _))⟩;exact⟨cV (Cu xs lo hi) hz,_,0,(r.drop _).take _,dS _ rfl⟩
abbrev gn:V->Bool
 |.non=>ac
 |.bl _=>ac
 |.int _=>ac
 |.str _=>ac
 | _=>ag
abbrev eqV:V->V->Bool
 |.non,.non=>ac
 |.bl a,.bl b=>a==b
 |.bl a,.int b=>(if a then 1 else 0)==b
 |.int a,.bl b=>a==(if b then 1 else 0)
 |.int a,.int b=>a==b
 |.str a,.str b=>a==b
 | _,_=>ag
variable{y x:V}{u v:Value}
def CA{A:eI}(g:aR y u)(c:aR x v)(h:gn y=ac)(d:gn x=ac):dE A s u v (eqV y x):=by
 cases y with
 |non=>
  cases g
  cases x with
  |non=>subst c;exact xv _
  |bl b=>subst c;exact dE.none_bool b
  |int b=>obtain⟨t,rfl⟩:=c;exact dE.none_int b t
  |str b=>obtain⟨t,rfl⟩:=c;exact dE.none_str b t
  | _=>exact absurd (d) bZ
 |bl a=>
  subst g
  cases x with
  |non=>subst c;exact dE.bool_none a
  |bl b=>subst c;exact dE.bool_bool a b
  |int b=>obtain⟨t,rfl⟩:=c;exact dE.bool_int a b t
  |str b=>obtain⟨t,rfl⟩:=c;exact dE.bool_str a b t
  | _=>exact absurd (d) bZ
 |int a=>
  obtain⟨t',rfl⟩:=g
  cases x with
  |non=>subst c;exact dE.int_none a t'
  |bl b=>subst c;exact dE.int_bool a t' b
  |int b=>obtain⟨t,rfl⟩:=c;exact dE.int_int a t' b t
  |str b=>obtain⟨t,rfl⟩:=c;exact dE.int_str a t' b t
  | _=>exact absurd (d) bZ
 |str a=>
  obtain⟨t',rfl⟩:=g
  cases x with
  |non=>subst c;exact dE.str_none a t'
  |bl b=>subst c;exact dE.str_bool a t' b
  |int b=>obtain⟨t,rfl⟩:=c;exact dE.str_int a t' b t
  |str b=>obtain⟨t,rfl⟩:=c;exact dE.str_str a t' b t
  | _=>exact absurd (d) bZ
 | _=>exact absurd (h) bZ
abbrev eqU(x:V)(u:Value):Bool:=match u with
 |.none=>eqV .non x
 |.bool b=>eqV (.bl b) x
 |.int i _=>eqV (.int i) x
 |.str z _=>eqV (.str z) x
 | _=>ag
def CB(r:aR y u)(f:gn y=ac):eqU x u=eqV y x:=by
 cases y with
 |non=>subst r;rfl
 |bl b=>subst r;rfl
 |int i=>obtain⟨t,rfl⟩:=r;rfl
 |str z=>obtain⟨t,rfl⟩:=r;rfl
 | _=>exact absurd (f) bZ
def qm{x:V}:∀{xs:List V} {us:LVa},aX xs us->xs.all gn=ac->us.any (eqU x)=xs.any λy=>eqV y x
 | _,_,.nil,_=>rfl
 |y::xs,u::us,.cons r t,f=>by
  rw[mH,di]at f;rw[iK,iK,CB r f.1,qm t f.2]
def qo{A:eI}{s:aI}{x:V}{v:Value}(g:aR x v)(d:gn x=ac):∀{xs:List V} {us:LVa},aX xs us->xs.all gn=ac->∀u∈us,dE A s u v (eqU x u)
 | _,_,.nil,_=>λu c=>by nomatch c
 |y::xs,u::us,.cons r t,f=>λh c=>by
  rw[mH,di]at f
  rcases b8.mp c with rfl |c
  .rw[CB r f.1];exact CA r g f.1 d
  .exact qo g d t f.2 h c
abbrev inV(x:V)(xs:List V):Bool:=xs.any λy=>eqV y x
abbrev rIn(K:bm)(neg:Bool):R2:=λx y H Q=>∃p xs,y=.ref p/\(SqL K H p xs\/SqT K H p xs)/\gn x=ac/\xs.all gn=ac/\Q (.bl (if neg then !inV x xs else inV x xs)) H
def Jz:OpR X (cW .In) (rIn X.K ag):=by
 intro pins s σ H x y v u Q I l m h;obtain⟨p,xs,rfl,c,g,fs,q⟩:=h;subst m
 rcases c with c |c
 .obtain⟨its,r,pl,hz⟩:=I.list c;refine SeqAt.in_listAt _ pl.isList (λw d=>qo l g r fs w (by simpa using d)) ⟨.bl _,H,I,rfl,?_⟩;rw[show its.toArray.any _=its.any (eqU x) by simp,qm r fs];exact q
 .obtain⟨its,r,pl,hz⟩:=I.tuple c;refine SeqAt.in_tupleAt _ pl (λw d=>qo l g r fs w (by simpa using d)) ⟨.bl _,H,I,rfl,?_⟩;rw[show its.toArray.any _=its.any (eqU x) by simp,qm r fs];exact q
def JA:OpR X (cW .NotIn) (rIn X.K ac):=by
 intro pins s σ H x y v u Q I l m h;obtain⟨p,xs,rfl,c,g,fs,q⟩:=h;subst m
 rcases c with c |c
 .obtain⟨its,r,pl,hz⟩:=I.list c;refine SeqAt.notIn_listAt _ pl.isList (λw d=>qo l g r fs w (by simpa using d)) ⟨.bl _,H,I,rfl,?_⟩;rw[show its.toArray.any _=its.any (eqU x) by simp,qm r fs];exact q
 .obtain⟨its,r,pl,hz⟩:=I.tuple c;refine SeqAt.notIn_tupleAt _ pl (λw d=>qo l g r fs w (by simpa using d)) ⟨.bl _,H,I,rfl,?_⟩;rw[show its.toArray.any _=its.any (eqU x) by simp,qm r fs];exact q
def JB:ga X (.builtin "len") (λxs H Q=>∃p ys,xs=[.ref p]/\(SqL X.K H p ys\/SqT X.K H p ys)/\Q (.int ys.length) H):=by
 intro pins s σ H xs us Q I r h;obtain⟨p,ys,rfl,d,q⟩:=h;obtain⟨u,rfl,g⟩:=ju r;subst g;have hn:=qi
 rcases d with d |d
 .obtain⟨its,r',pl,hz⟩:=I.list d;have c:=r'.length
  exact Calls.call_len_list pl.isList (by simp only[size_toArray] <;> lia) ⟨.int ys.length,H,I.tok _,⟨s.toks+1,by rw[size_toArray,c]⟩,q⟩
 .obtain⟨its,r',pl,hz⟩:=I.tuple d;have c:=r'.length
  exact len_tuple pl (by simp only[size_toArray] <;> lia) ⟨.int ys.length,H,I.tok _,⟨s.toks+1,by rw[size_toArray,c]⟩,q⟩
def JC:ga X (.builtin "len") (λxs H Q=>∃z,xs=[.str z]/\z.length<=aW/\Q (.int z.length) H):=by
 intro pins s σ H xs us Q I r h;obtain⟨z,rfl,hz,q⟩:=h;obtain⟨u,rfl,t,rfl⟩:=ju r;have hn:=qi;exact len_str (by lia) ⟨.int z.length,H,I.tok _,⟨_,rfl⟩,q⟩
def JD:ga X (.type "list") (λxs H Q=>∃p ys,xs=[.ref p]/\(SqL X.K H p ys\/SqT X.K H p ys)/\∀l,H l=ab->Q (.ref l) (upd H l (.lst ys))):=by
 intro pins s σ H xs us Q I r h;obtain⟨p,ys,rfl,m,q⟩:=h;obtain⟨u,rfl,A⟩:=ju r;subst A
 have d:∀its,aX ys its->ys.length<=aW->∀h' c,_ ->
   h'.get? s.heap.objs.size=aa {cls:=.type "list",dict:=ab,data:=.seq its.toArray c,slots:=#[]}->EP X pins σ Q _ {s with heap:=h'}:=λits r' hz h' c kp e=>
  ⟨.ref s.heap.objs.size,_,I.laid kp (aU _) (show fM X.prog X.w _ h' _ (.lst ys)from⟨hz,its,c,r',e⟩),rfl,q _ (I.hok.fresh (aU _))⟩
 rcases m with m |m
 .obtain⟨its,r',pl,hz⟩:=I.list m;have g:=r'.length;obtain⟨o,z,t,n,hd⟩:=pl.isList
  exact call_list_seq p (.inl rfl) z t hd (λh' c kp e=>d its r' hz h' c kp e) (by simp only[size_toArray] <;> lia)
 .obtain⟨its,r',pl,hz⟩:=I.tuple m;have g:=r'.length;obtain⟨o,z,t,n,hd⟩:=pl
  exact call_list_seq p (.inr rfl) z t hd (λh' c kp e=>d its r' hz h' c kp e) (by simp only[size_toArray] <;> lia)
abbrev tyV(K:bm)(T:String)(x:V)(H:Hp):Prop:=match x with
 |.str _=>T="str"
 |.int _=>T="int"
 |.ref p=>(T="list" /\ ∃xs,SqL K H p xs)\/(T="tuple" /\ ∃o,K.lookup p=aa o/\o.cls=.type "tuple" /\ o.dict=ab) \/
   (T="dict" /\ ((∃kvs,H p=aa (.dK kvs))\/∃kvs,H p=aa (.dT kvs)))\/(T="set" /\ ∃S n,H p=aa (.set S n))
 | _=>False
variable{T:String}
def JE(I:Inv X pins σ H s)(r:aR x v)(ty:tyV X.K T x H):
  s.TypeIs v T/\∀a,v=.ref a->∃h,s.heap.get? a=aa h/\h.dict=ab:=by
 cases x with
 |str z=>
  obtain⟨t,rfl⟩:=r;cases (ty)
  exact⟨typeIs_str s z t,λ_ e=>nomatch e⟩
 |int i=>
  obtain⟨t,rfl⟩:=r;cases (ty)
  exact⟨typeIs_int s i t,λ_ e=>nomatch e⟩
 |ref p=>
  subst r
  rcases ty with⟨rfl,xs,m⟩ |⟨rfl,o,d,l,hd⟩ |⟨rfl,d⟩ |⟨rfl,S,n,d⟩
  .obtain⟨its,_,pl,_⟩:=I.list m;refine⟨pl.isList.typeIs,λa e=>?_⟩;cases e;obtain⟨o,n,e,c,hd,_⟩:=pl;exact⟨o,e,hd⟩
  .refine⟨⟨o,I.kIn p o d,l⟩,λa e=>?_⟩;cases e;exact⟨o,I.kIn _ o d,hd⟩
  .have z:∃o,s.heap.get? p=aa o/\o.ExactDict:=by
    rcases d with⟨kvs,d⟩ |⟨kvs,d⟩
    .obtain⟨_,_,_,_,o,_,_,e,ex,_⟩:=I.hok p _ d;exact⟨o,e,ex⟩
    .obtain⟨_,_,_,_,o,_,_,e,ex,_⟩:=I.hok p _ d;exact⟨o,e,ex⟩
   obtain⟨o,e,ex⟩:=z;refine⟨⟨o,e,ex.1⟩,λa g=>?_⟩;cases g;exact⟨o,e,ex.2.1⟩
  .obtain⟨o,_,_,_,e,ex,_⟩:=I.hok p _ d;refine⟨⟨o,e,ex.1⟩,λa g=>?_⟩;cases g
   exact⟨o,e,ex.2.1⟩
 | _=>exact jN ty
abbrev tBM(K:bm)(T:String)(r:V->List V->Hp->VK->Prop)(to:TE)(t:TA):TE:=λσ H Q=>to σ H λx c=>tyV K T x c/\t σ c λxs d=>r x xs d Q
variable{o:Expr}{es:LEx}{t:TA}{name:Str}{apos cpos:Pos}{r:V->List V->Hp->VK->Prop}
def dw{to:TE}{id:String}(pa:PlainAttrs T)(slot:Slot T name id)(m:typeOf (.builtin id)=pure (.type "method_descriptor"))(hm:MtR X id r)(J:PE X o to)(ha:PA X (e::es) t)
 (d:attributeBase o name X.env (eval o X.env)=eval o X.env:=by rfl)
 (l:((fT cpos (aY (e::es) X.env)).all (λx=>!x.1) && (backToKw cpos (keywordEach [] X.env)).all (λx=>x.1.isSome)
   && decide ((e::es).length+([]:List Keyword).length+(if ([]:List Keyword).isEmpty then 0 else 1)<30))=ac:=by rfl)
 (g:(apos.endLine==cpos.line)=ac:=by rfl)(L:StE X e es:=by rfl)(c:(fT cpos (aY es X.env)).any (·.1)=ag:=by rfl):
  PE X (.Call (.Attribute o name apos) (e::es) [] cpos) (tBM X.K T r to t):=by
 intro pins s σ H Q I h;refine wpAny_Call_method_late d l g rfl (thn (J pins s σ H _ I h) λv s1 U=>?_);obtain⟨x,A,q,z,ty,M⟩:=U;obtain⟨E,G⟩:=JE q z ty;refine⟨T,id,pa,slot,m,E,G,?_⟩;have w:=ha cpos pins s1 σ A _ q M;rw[L]at w ⊢
 exact Calls.callWith_builtin (by show(ag || (fT cpos _).any (·.1))=ag;rw[c] <;> rfl) (Calls.evalArgs_plain (thn w λus s2 ⟨vs,B,C,Y,N⟩=>hm pins s2 σ B x vs v us Q C z Y N))
abbrev MtM(X:Cx)(id:String)(r:V->List V->Hp->VK->Prop):Prop:=
 ∀(pins:PNS) (s:aI) (σ:St) (H:Hp) (x:V) (xs:List V) (v:Value) (us:LVa) (Q:VK),Inv X pins σ H s->aR x v->aX xs us->r x xs H Q ->
  wpAny (model X.prog X.w) X.A (call (.builtin id) (v::us)) (EP X pins σ Q) X.xe s
def aX.one:∀{x:V} {us:LVa},aX [x] us->∃u,us=[u]/\aR x u
 | _,_,.cons r .nil=>⟨_,rfl,r⟩
def aX.two:∀{x y:V} {us:LVa},aX [x,y] us->∃u v,us=[u,v]/\aR x u/\aR y v
 | _,_,_,.cons r (.cons q .nil)=>⟨_,_,rfl,r,q⟩
variable{us:LVa}
def aX.reverse(h:aX xs us):aX xs.reverse us.reverse:=by
 induction h with
 |nil=>exact .nil
 |cons r t c=>rw[gQ,gQ];exact aX.append c (.cons r .nil)
variable{l:Addr}{t':Nat}
def Inv.lset{its c:LVa}{f:Array Value->Array Value}(I:Inv X pins σ H s)(d:H l=aa (.lst xs))
 (e:s.heap.get? l=aa {cls:=.type "list",data:=.seq its.toArray n})(h:f its.toArray=c.toArray)(w:aX ys c)(hz:ys.length<=aW):
  Inv X pins σ (upd H l (.lst ys)) {s with heap:=s.heap.update l (ib f),toks:=t'}:=by
 have q:=PySem.IsL.update e f;rw[h]at q;exact I.write (by rw[d];exact trivial) (.inl rfl) (λz u g m=>(mU s.heap _ (ce g)).trans m) ⟨_,q⟩ ⟨hz,c,_,w,q⟩
def Inv.lnew{its:LVa}(I:Inv X pins σ H s)(c:aX ys its)(hz:ys.length<=aW):
  Inv X pins σ (upd H s.heap.objs.size (.lst ys)) {s with heap:=s.heap.push {cls:=.type "list",data:=.seq its.toArray},toks:=t'}:=
 I.laid (λ_ _ q=>bV _ q) (aU _) ⟨hz,its,0,c,dS _ rfl⟩
def Inv.fresh(I:Inv X pins σ H s):H s.heap.objs.size=ab:=I.hok.fresh (aU _)
def Inv.lstM(I:Inv X pins σ H s)(c:H l=aa (.lst xs)):xs.length<=aW/\∃(its:LVa) (n:Nat),aX xs its/\xs.length=its.length/\s.heap.get? l=aa {cls:=.type "list",data:=.seq its.toArray n}:=by
 obtain⟨z,its,n,r,e⟩:=I.hok l _ c;exact⟨z,its,n,r,r.length,e⟩
def CC(h:n<=aW):BR n=ag:=by
 exact decide_eq_false (by lia)
abbrev qp:V->List V->Hp->VK->Prop:=λx vs H Q=>∃l xs y,x=.ref l/\vs=[y]/\H l=aa (.lst xs)/\xs.length<aW/\Q .non (upd H l (.lst (xs++[y])))
def fN:MtM X "list.append" qp:=by
 intro pins s σ H x vs v us Q I m g h;obtain⟨l,xs,y,rfl,rfl,c,hz,q⟩:=h;subst m;obtain⟨u,rfl,d⟩:=g.one;obtain⟨z,its,n,r,w,e⟩:=I.lstM c;refine call_meets F.slot_list_append ⟨_,e,rfl⟩ F.entry_list_append (F.args_list_append_2 _ _) (PySem.list_append l its.toArray n u (by rw[size_toArray];lia)) ⟨e,?_⟩;refine⟨.non,_,I.lset c e (by simp) (r.append (.cons d .nil)) ?_,rfl,q⟩;rw[aM,dR];lia
abbrev CD:V->List V->Hp->VK->Prop:=λx vs H Q=>∃l b xs c,x=.ref l/\vs=[.ref b]/\H l=aa (.lst xs)/\H b=aa (.lst c)/\xs.length+c.length<=aW/\Q .non (upd H l (.lst (xs++c)))
def qr:MtM X "list.extend" CD:=by
 intro pins s σ H x vs v us Q I J G h;obtain⟨l,b,xs,N,rfl,rfl,g,w,hz,q⟩:=h;subst J;obtain⟨u,rfl,E⟩:=G.one;subst E;obtain⟨z,its,n,r,L,e⟩:=I.lstM g;obtain⟨M,c,B,C,A,m⟩:=I.lstM w;have hsz:its.toArray.size+c.toArray.size<=aW:=by rw[size_toArray,size_toArray];lia
 have d:¬(!its.toArray.isEmpty && BR (its.toArray.size+c.toArray.size))=ac:=by
  rw[CC hsz,Bool.and_false];exact bZ
 refine call_meets F.slot_list_extend ⟨_,e,rfl⟩ F.entry_list_extend (F.args_list_extend_2 _ _)
  (AutoSeq1.list_extend_list_list_0 l its.toArray n b c.toArray B d (by rw[size_toArray];lia) (by lia)) ⟨e,m,?_⟩
 refine⟨.non,_,I.lset g e (by simp) (r.append C) ?_,rfl,q⟩;rw[aM];lia
abbrev JF:R2:=λx y H Q=>∃l b xs c,x=.ref l/\y=.ref b/\H l=aa (.lst xs)/\H b=aa (.lst c)/\xs.length+c.length<=aW/\∀p,H p=ab->Q (.ref p) (upd H p (.lst (xs++c)))
def CF:OpR X (fS .Add) JF:=by
 intro pins s σ H x y v u Q I C E h;obtain⟨l,b,xs,M,rfl,rfl,w,m,hz,q⟩:=h;subst C;subst E;obtain⟨z,its,n,r,G,e⟩:=I.lstM w;obtain⟨L,c,J,B,A,d⟩:=I.lstM m;refine PySem.P.add_list e d ?_ (by rw[size_toArray,size_toArray];lia);have g:its.toArray++c.toArray=(its++c).toArray:=by simp
 rw[g];exact⟨.ref _,_,I.lnew (r.append B) (by rw[aM];lia),rfl,q _ I.fresh⟩
end L2
namespace Att
open List
open PySem PySem.W PySem.Calls PyProof.Rows
variable{P:Params}{h:Heap}
def JG:∀(ns:List Int) (vs:LVa),WellAll P h vs (ns.map WData.int)->IntsAre vs ns:=by
 intro ns
 induction ns with
 |nil=>
  intro vs w;cases w
  exact .nil
 |cons n ns c=>
  intro vs w
  cases w with
  |cons a b=>
   cases a;exact .cons _ _ (c _ b)
variable{l:OpenLaw}{n:Nat}
def JH(hn:l.most=aa n){args:List WData}{c:LVa}
 (b:l.row.toRowW.claim.pre args=ac)(m:WellAll P h c args):
  ∃a vs ns,c=[iR a]/\args=[WData.list (ns.map WData.int)]/\h.get? a=aa {cls:=.type "list",data:=.seq vs.toArray}/\IntsAre vs ns/\ns.length<=n:=by
 obtain⟨d,r,rfl,o,p⟩:=hasAllW_cons ((pre_splitW b).1);obtain rfl:=hasAllW_nil p;obtain⟨xs,rfl,q⟩:=hasW_list o;obtain⟨ns,rfl⟩:=items_int q
 have g:ns.length<=n:=by
  have i:(WTm.not (.lt (.lit (.int n)) (.len (.arg 0)))).holds [] {args:=[.list (ns.map .int)]}=ac:=by
   have i:=(holds_andW ((pre_splitW b).2)).1;rw[hn]at i;exact i
  have j:=condW_of i (w_not (w_lt w_lit (w_len_list (w_arg rfl))))
  first
   |(rw[decide_eq_true q']at j;exact absurd j (by decide))
   |(simp at j;lia)
 cases m with
 |cons t u=>
  cases u
  cases t with
  |list s e=>exact⟨_,_,ns,rfl,rfl,s,JG ns _ e,g⟩
def JI(l:OpenLaw)(args:List WData):l.row.toRowW.claim.post args (.bool ac) args=ac:=
 postW_of
  (show WShape.has [] _ .bool=ac by first |rfl |decide |simp[WShape.has])
  (w_eq_bool (w_res rfl) w_lit) rfl
variable{q:dn}{hG:LSt}{XP:MGT->Heap->Prop}{YP:World->Heap->Prop}{d:DefRec}
def attach_call
 (hn:l.most=aa n)(p:d.params.defaults=[])
 (call:∀ (w:World) (s₀ b:aI) (mg mb:MGT) (fa:Addr) (o:Obj) (pm j doc:Value) (a:Addr) (vs:LVa) (ns:List Int),
   Ground q hG [] XP w s₀ mg mb b.heap->YP w b.heap ->
   b.heap.get? fa=aa o->o.data=.func (docDef d.name d.params d.body d.scope pm j doc)->b.heap.CodeRec j d.name->mg d.name=aa (.ref fa) ->
   b.heap.get? a=aa {cls:=.type "list",data:=.seq vs.toArray}->IntsAre vs ns->ns.length<=n->b.gens=#[] ->
   gS (model l.prog w) callerA (.call (.ref fa) ⟨[.ref a],[]⟩) (λr s'=>r=.ok (.ret (.bool ac))/\OldK b.heap s'.heap/\s'.os=b.os/\kG s'.gens) b):
  WalkO q hG XP YP l.row.toRowW d [] (λf vs=>PySem.call f vs):=by
 intro w s₀ b mg mb G Y fa o pm j doc y kV H hd m u s C args x L i v J t E;obtain rfl:y=.none:=Dflts.none u p;obtain rfl:kV=.none:=Dflts.noKw u;obtain⟨a,vs,ns,rfl,rfl,g,c,e⟩:=JH hn i t;refine enter_call (mQ (call w s₀ b mg mb fa o pm j doc a vs ns G Y H (fd_plain hd) m s g c e C) λr s' I=>?_);obtain⟨rfl,z,A,B⟩:=I;exact⟨.inl ⟨.bool ac,.bool ac,[],rfl,λ_=>rfl,.bool ac,JI l _,λ_=>⟨List.Pairwise.nil,λ_ hm=>(nomatch hm)⟩⟩,z,A,B⟩
end Att
namespace L2
open List
open PySem PySem.Spec PyProof.Rows
def CG:∀{vs:LVa} {ns:List Int},IntsAre vs ns->aX (ns.map V.int) vs
 | _,_,.nil=>.nil
 | _,_,.cons n t h=>.cons ⟨t,rfl⟩ (CG h)
abbrev t5(H:Hp):Prop:=∀b,H b=ab\/∃o xs,H b=aa (.frz o (.lst xs))
variable{P:dn}{w:World}{K:bm}{mg:MGT}{a:Addr}{fd:gl}{x:Str}{ns:List Int}
def JJ{mb:MGT}{CX:CXT}{k:Nat}{fa:Addr}{sp:Sp}{c:aI}{vs:LVa}
 (Q:K.In c.heap)(A:c.heap.Ns cK mg)(i:c.heap.Ns builtinsNs mb)(J:∀x:Str,x ≠ "__name__" -> mb x=gR x)(y:c.heap.NoLimit)(hg:c.gens=#[])
 (ha:c.heap.get? a=aa {cls:=.type "list",data:=.seq vs.toArray})(hi:IntsAre vs ns)(hl:ns.length<=aW)(hr:c6 k callerA)
 (F:∀base:Heap,K.In base->base.Ns cK mg->gm P w K mg base CX k fa fd [x] sp)(p:∀(s:aI) (u:Value),BindsTo s fd ⟨[u],[]⟩ [(x,u)])
 (M:∀H:Hp,t5 H->SqL K H a (ns.map V.int)->sp [.ref a] H (λv _=>v=.bl ac) λ_ _ _=>False)
 (I:∀H e s',CX [] H c (λ_ _ _=>False) e s'->False):
  gS (model P w) callerA (.call (.ref fa) ⟨[.ref a],[]⟩) (λr s'=>r=.ok (.ret (.bool ac))/\OldK c.heap s'.heap/\s'.os=c.os/\kG s'.gens) c:=by
 have rv:=CG hi
 have l:∀H:Hp,t5 H->SqL K H a (ns.map V.int)->HOk P w H c.heap->(∀b,H b≠ab->b=a)->(H a≠ab->K.lookup a=ab) ->
   gS (model P w) callerA (.call (.ref fa) ⟨[.ref a],[]⟩) (λr s'=>r=.ok (.ret (.bool ac))/\OldK c.heap s'.heap/\s'.os=c.os/\kG s'.gens) c:=by
  intro H Y hS hok U hK;have g:∀{b:Addr} {o:Obj},c.heap.get? b=aa o->H b=ab->(oC c.heap H).get? b=aa o:=λe n=>HF e n
  have N:∀{b:Addr} {o:Obj} {es:Array DictEntry} {E:Nat},c.heap.get? b=aa o->o.data=.dict es E->H b=ab:=λ{b o es E} e d=>by
   cases q:H b with
   |none=>rfl
   |some u=>
    have G:=U b (by rw[q];simp);subst G;rw[ha]at e;cases e
    nomatch d
  have j:∀{b:Addr} {m:MGT},c.heap.Ns b m->(oC c.heap H).Ns b m:=λ{b m} ⟨o,es,E,e,d,r⟩=>⟨o,es,E,g e (N e d),d,r⟩
  have t:=λb o e=>g (Q b o e) (by
   cases q:H b with
   |none=>rfl
   |some u=>
    have G:=U b (by rw[q];simp);subst G;rw[hK (by rw[q];simp)]at e;nomatch e)
  have hM:Mod K mg _:=⟨t,j A,⟨mb,j i,J⟩,let ⟨mc,h1,h2⟩:=y;⟨mc,j h1,h2⟩⟩;have e0:tY P w K mg _ callerA [] c H:=⟨rfl,hM,λb o e=>HG e,Nat.le_of_eq (HE _ _),trivial,λb i=>absurd (show b∈([]:LAd)from i) (by simp),hok,.of_eq hg⟩;refine mQ ((F _ t (j A)).run callerA [] c H ⟨[.ref a],[]⟩ _ [.ref a] _ _ hr e0 (p c _) (.cons rfl .nil) (M H Y hS)) λr s' h=>?_
  cases r with
  |error e=>exact(I H e s' h).elim
  |ok fl=>
   cases fl with
   |next=>exact jN h
   |brk=>exact jN h
   |cont=>exact jN h
   |ret u=>
    obtain⟨v,H',os,bare,un,B,r',q⟩:=h;subst q;obtain rfl:u=gG ac:=r';refine⟨rfl,OldK.of_keep λb o e=>?_,os,bare⟩
    cases q:H b with
    |none=>exact un.keep b o e q (by intro z;exact absurd (show b∈([]:LAd)from z) (by simp)) (by simp)
    |some u=>
     rcases Y b with z |⟨ob,xs,z⟩
     .rw[q]at z;nomatch z
     .have z2:=un.frzs b ob _ z;obtain⟨T,_⟩:=hok b _ z;obtain⟨e2,_⟩:=B b _ z2;rw[e]at T;cases T;exact e2
 cases L:K.lookup a with
 |some o=>
  have e:=Q a o L;rw[ha]at e;cases e
  refine l _ (λ_=>.inl rfl) (.inr ⟨_,vs.toArray,_,L,rfl,rfl,rfl,by rw[size_toArray,hi.length];exact hl,by simpa using rv⟩) (λb u z=>by have C:_=aa u:=z;nomatch C) (λb z=>absurd rfl z) λz=>absurd rfl z
 |none=>
  refine l (λb=>if b=a then aa _ else ab) (λb=>?_) (.inl (.inr ⟨{cls:=.type "list",data:=.seq vs.toArray},if_pos rfl⟩)) (λb u z=>?_) (λb z=>?_) λ_=>L
  .by_cases i:b=a
   .exact .inr ⟨_,_,if_pos i⟩
   .exact .inl (if_neg i)
  .by_cases i:b=a
   .have C:=(if_pos i).symm.trans z;cases C;subst i;exact⟨ha,by rw[au];exact hl,vs,_,rv,ha⟩
   .have C:=(if_neg i).symm.trans z
    nomatch C
  .by_cases i:b=a
   .exact i
   .exact absurd (if_neg i) z
variable{h:Heap}
@[reducible]noncomputable def KOf(_:K.In h):bm:=K
variable{l:W.OpenLaw}{q:dn}{hG:LSt}{XP:MGT->Heap->Prop}{YP:World->Heap->Prop}{d:DefRec}
def JK{n k:Nat}{K:Params->bm}{CX:World->CXT}{sp:World->Sp}
 (hn:l.most=aa n)(y:n<=aW)(r:d.params.defaults=[])(N:c6 k callerA)
 (I:∀(w:World) (h:Heap),YP w h->(K w.params).In h)
 (F:∀ (w:World) (mg:MGT) (fa:Addr) (h:Heap),(K w.params).In h->h.Ns cK mg->mg d.name=aa (.ref fa) ->
   ∃fd:gl,(∀(s:aI) (u:Value),BindsTo s fd ⟨[u],[]⟩ [(x,u)]) /\
    ∀base:Heap,(K w.params).In base->base.Ns cK mg->gm l.prog w (K w.params) mg base (CX w) k fa fd [x] (sp w))
 (z:∀(w:World) (H:Hp) (a:Addr) (ns:List Int),ns.length<=n->t5 H->SqL (K w.params) H a (ns.map V.int)->sp w [.ref a] H (λv _=>v=.bl ac) λ_ _ _=>False)
 (p:∀(w:World) (H:Hp) (s:aI) (e:Value) (s':aI),CX w [] H s (λ_ _ _=>False) e s'->False):
  W.WalkO q hG XP YP l.row.toRowW d [] (λf vs=>PySem.call f vs):=by
 refine Att.attach_call hn r λw s₀ m mg mb fa o pm Q doc a vs ns G Y U hd L t j i c M=>?_;have A:=I w _ Y;obtain⟨fd,J,B⟩:=F w mg fa _ A G.T.g t;exact JJ A G.T.g G.T.b G.T.builtins G.T.nolimit M j i (cV c y) N B J (λH C E=>z w H a ns c C E) λH e s'=>p w H m e s'
variable{CX:CXT}
def walk_ofK{n k:Nat}{K:Params->bm}{sp:bm->Sp}
 (hn:l.most=aa n)(g:n<=aW)(c:d.params.defaults=[])(r:c6 k callerA)
 (p:∀(w:World) (h:Heap),YP w h->(K w.params).In h)
 (F:∀ (w:World) (mg:MGT) (fa:Addr) (h:Heap),(K w.params).In h->h.Ns cK mg->mg d.name=aa (.ref fa) ->
   ∃fd:gl,(∀(s:aI) (u:Value),BindsTo s fd ⟨[u],[]⟩ [(x,u)]) /\
    ∀base:Heap,(K w.params).In base->base.Ns cK mg->gm l.prog w (K w.params) mg base CX k fa fd [x] (sp (K w.params)))
 (i:∀(K:bm) (H:Hp) (a:Addr) (ns:List Int),ns.length<=n->t5 H->SqL K H a (ns.map V.int)->sp K [.ref a] H (λv _=>v=.bl ac) λ_ _ _=>False)
 (b:∀(H:Hp) (s:aI) (e:Value) (s':aI),CX [] H s (λ_ _ _=>False) e s'->False):
  W.WalkO q hG XP YP l.row.toRowW d [] (λf vs=>PySem.call f vs):=
 JK hn g c r p F (λw H a ns j m o=>i _ H a ns j m o) λ_ H s e s'=>b H s e s'
abbrev qt(s:Stmt):Arguments:=match s with
 |.FunctionDef _ a _ _ _ _ _ _ _ _=>a
 | _=>{posonlyargs:=[],args:=[],vararg:=ab,kwonlyargs:=[],kw_defaults:=[],kwarg:=ab,defaults:=[]}
abbrev kP(s:Stmt):List Stmt:=match s with
 |.FunctionDef _ _ b _ _ _ _ _ _ _=>b
 | _=>[]
abbrev aZ(s:Stmt):Scope:=match s with
 |.FunctionDef _ _ _ _ _ _ sc _ _ _=>sc
 | _=>{kind:=.function,names:=[],isGenerator:=ag,isCoroutine:=ag}
nonrec abbrev CX0:CXT:=λ_ _ _ _ _ _=>False
nonrec abbrev E0:XK:=λ_ _ _=>False
variable{X:Cx}
def kQ:xL CX0 X E0:=λ_ _ _ _ _ _ _ h=>h.elim
structure Fun(K:bm)(x qual:Str)(st:Stmt)(f:Addr)(fd:gl):Prop where
 ex:∃(oc:Value) (od:Option Addr) (kV doc pm:Value) (an:Option Addr) (cdv ct:Value) (osl:Array (Option Value)),
  fd=W.fnOf x qual (qt st) (kP st) (aZ st) .none kV doc pm an cdv ct/\K.lookup f=aa ⟨oc,od,.func fd,osl⟩/\W.codeIn K cdv qual=ac
 kp:W.keepIn K (.ref f)=ac
variable{base:Heap}{qual:Str}{st:Stmt}{N ps:LSt}{sp:Sp}
def Fun.ok{f:Addr}{k:Nat}(F:Fun K x qual st f fd)(S:bo N ps (aZ st))(len:∀vs H Q E,sp vs H Q E->vs.length=ps.length)
 (b:∀ (cdv:Value) (A:eI) (outer:List Env) (s:aI) (H:Hp) (vs:List V) (Q:VK) (E:XK),c6 k (A.deeper (iL qual (aZ st) s.heap.objs.size f cdv))->sp vs H Q E ->
   ∃t,PSs (kO CX0 P w K mg base N qual (aZ st) f cdv A outer s H E).nox (kP st) t/\t {nx:=λ_ H'=>Q .non H',rt:=Q} (start N vs) H):gm P w K mg base CX0 (k+1) f fd ps sp:=by
 obtain⟨oc,od,kV,doc,pm,an,cdv,ct,osl,rfl,i,c⟩:=F.ex;refine Jk i c S len λA outer s H vs Q E g e=>?_;obtain⟨t,h,q⟩:=b cdv A outer s H vs Q E g e;exact⟨t,h.nox,q⟩
def Fun.binds{f:Addr}(F:Fun K x qual st f fd)
 (h:∀(kV doc pm:Value) (an:Option Addr) (cdv ct:Value) (us:LVa),us.length=ps.length->bindArgs (W.fnOf x qual (qt st) (kP st) (aZ st) .none kV doc pm an cdv ct) ⟨us,[]⟩=pure (ps.zip us)):mZ K fd ps []:=by
 obtain⟨oc,od,kV,doc,pm,an,cdv,ct,osl,rfl,c,b⟩:=F.ex;exact .all (h kV doc pm an cdv ct)
def fun_mk{f:Addr}{oc:Value}{od an:Option Addr}{osl:Array (Option Value)}{kV doc pm cdv ct:Value}(l:K.lookup f=aa ⟨oc,od,.func (W.fnOf x qual (qt st) (kP st) (aZ st) .none kV doc pm an cdv ct),osl⟩)
 (c:W.codeIn K cdv qual=ac)(k:W.keepIn K (.ref f)=ac):Fun K x qual st f (W.fnOf x qual (qt st) (kP st) (aZ st) .none kV doc pm an cdv ct):=⟨⟨oc,od,kV,doc,pm,an,cdv,ct,osl,rfl,l,c⟩,k⟩
structure Df(K:bm)(mg:MGT)(x:Str)(st:Stmt)(ps:LSt)(e:Addr×gl):Prop where
 F:Fun K x x st e.1 e.2
 b:mZ K e.2 ps []
 g:mg x=aa (.ref e.1)
structure Pk(P:dn)(w:World)(K:bm)(mg:MGT)(base:Heap)(CX:CXT)(k:Nat)(x:Str)(e:Addr×gl)(ps:LSt)(sp:Sp):Prop where
 ok:gm P w K mg base CX k e.1 e.2 ps sp
 g:mg x=aa (.ref e.1)
 kp:W.keepIn K (.ref e.1)=ac
 b:mZ K e.2 ps []
variable{e:Addr×gl}
def Df.pk{k:Nat}(E:Df K mg x st ps e)(o:gm P w K mg base CX k e.1 e.2 ps sp):Pk P w K mg base CX k x e ps sp:=⟨o,E.g,E.F.kp,E.b⟩
structure Dq(K:bm)(x:Str)(st:Stmt)(f:Addr)(fd:gl):Prop where
 a:dU K cK x=aa (aa (.ref f))
 F:Fun K x x st f fd
nonrec abbrev CH(x q:Str)(st:Stmt)(ps:LSt):Prop:=∀(kV doc pm:Value) (an:Option Addr) (cdv ct:Value) (us:LVa),us.length=ps.length->bindArgs (W.fnOf x q (qt st) (kP st) (aZ st) .none kV doc pm an cdv ct) ⟨us,[]⟩=pure (ps.zip us)
def Dq.mk2{f:Addr}(d:Dq K x st f fd)(X:K.In h)(G:h.Ns cK mg)(b:CH x x st ps:=by walk_at "bd"):Df K mg x st ps (f,fd):=⟨d.F,d.F.binds b,W.mg_of X G d.a⟩
def Dq.bt{f:Addr}{p:Str}(d:Dq K x st f fd)(b:CH x x st [p])(s:aI)(v:Value):BindsTo s fd ⟨[v],[]⟩ [(p,v)]:=by
 obtain⟨oc,od,kV,doc,pm,an,cdv,ct,osl,rfl,g,c⟩:=d.F.ex;exact .of_eq (b kV doc pm an cdv ct [v] rfl)
variable{n:Nat}
def m4(h:n<=1000):n<aW:=Nat.lt_of_le_of_lt h (by decide)
def pv(i:Nat){pos:Pos}(c:X.N[i]?=aa x:=by rfl)(g:Vis X.env.scope x:=by first |exact bU rfl |exact br (bU rfl) |exact br (br rfl))(hd:NDb x:=by decide)
 (b:NCd x:=by decide):PE X (.Name x pos) (eV i):=jV c g hd b
def CI{A B:Prop}(h:A):if ac=ac then A else B:=by
 rw[if_pos rfl];exact h
abbrev aH(H H':Hp):Prop:=∀b o,H b=aa o->H' b=aa o
def aH.refl(H:Hp):aH H H:=λ_ _ h=>h
variable{H H1 H2:Hp}
def aH.trans(a:aH H H1)(b:aH H1 H2):aH H H2:=λc o h=>b c o (a c o h)
variable{H':Hp}{l:Addr}
def aH.free(e:aH H H')(h:H' l=Option.none):H l=Option.none:=by
 cases q:H l with
 |none=>rfl
 |some o=>
  rw[e l o q]at h
  nomatch h
def aH.seq{xs:List V}(e:aH H H')(h:SqL K H a xs):SqL K H' a xs:=by
 rcases h with(h |⟨o,h⟩) |h
 .exact .inl (.inl (e _ _ h))
 .exact .inl (.inr ⟨o,e _ _ h⟩)
 .exact .inr h
section
variable{κ:Type}[DecidableEq κ]
abbrev fm(kvs:List (κ×V))(k:κ):Option V:=(kvs.find? λb=>decide (b.1=k)).map (·.2)
abbrev dF(kvs:List (κ×V))(k:κ)(v:V):List (κ×V):=
 if (kvs.any λb=>decide (b.1=k))=ac then kvs.map (λb=>if b.1=k then (b.1,v) else b) else kvs++[(k,v)]
def t6{p:κ×V}{r:List (κ×V)}{k:κ}(e:p.1=k):fm (p::r) k=aa p.2:=by simp[fm,og,e]
def t7{p:κ×V}{r:List (κ×V)}{k:κ}(e:¬p.1=k):fm (p::r) k=fm r k:=by simp[fm,og,e]
def t8(k:κ):∀kvs:List (κ×V),(kvs.any λb=>decide (b.1=k))=(fm kvs k).isSome
 | []=>rfl
 |p::r=>by
  rw[iK]
  by_cases e:p.1=k
  .simp only[t6 e,decide_eq_true e,Bool.true_or,Option.isSome_some]
  .rw[t7 e,decide_eq_false e,Bool.false_or];exact t8 k r
def qu(kvs:List (κ×V))(k:κ)(v:V):(dF kvs k v).length<=kvs.length+1:=by
 unfold dF;split
 .rw[au];lia
 .rw[aM,bT,oh];lia
def JL{kvs:List (κ×V)}{k:κ}(v:V)(h:fm kvs k=ab):dF kvs k v=kvs++[(k,v)]:=by
 unfold dF;rw[t8,h];exact if_neg (by decide)
def ig.isSome_eq{o:Option V}{u:Option Value}(r:ig o u):o.isSome=u.isSome:=by
 cases o with
 |none=>cases u with
  |none=>rfl
  |some _=>exact(r).elim
 |some _=>cases u with
  |none=>exact(r).elim
  |some _=>rfl
def ig.getD{o:Option V}{u:Option Value}{d:V}{d':Value}(r:ig o u)(b:aR d d'):aR (o.getD d) (u.getD d'):=by
 cases o with
 |none=>cases u with
  |none=>exact b
  |some _=>exact(r).elim
 |some _=>cases u with
  |none=>exact(r).elim
  |some _=>exact r
def KV.val{kvs:List (κ×V)}{vs:List (κ×Value)}(r:KV kvs vs)(k:κ):ig (fm kvs k) (iN vs k):=by
 induction r with
 |nil=>exact ie
 | @cons p q ps g h t m=>
  obtain⟨i,j⟩:=h
  by_cases e:p.1=k
  .have c:=i.symm.trans e;have b:iN (q::g) k=aa q.2:=by simp[iN,c]
   rw[t6 e,b];exact j
  .have c:¬q.1=k:=λz=>e (i.trans z);have b:iN (q::g) k=iN g k:=by simp[iN,c]
   rw[t7 e,b];exact m
def KV.any{kvs:List (κ×V)}{vs:List (κ×Value)}(r:KV kvs vs)(k:κ):(kvs.any λb=>decide (b.1=k))=vs.any λb=>decide (b.1=k):=by
 induction r with
 |nil=>rfl
 |cons h t c=>rw[iK,iK,c,h.1]
def KV.repl{kvs:List (κ×V)}{vs:List (κ×Value)}(r:KV kvs vs)(k:κ){y:V}{u:Value}(j:aR y u):
  KV (kvs.map λb=>if b.1=k then (b.1,y) else b) (vs.map λb=>if b.1=k then (b.1,u) else b):=by
 induction r with
 |nil=>exact .nil
 | @cons p q ps m h t i=>
  rw[cS,cS];refine .cons ?_ i;obtain⟨c,g⟩:=h
  by_cases e:p.1=k
  .rw[if_pos e,if_pos (c.symm.trans e)];exact⟨c,j⟩
  .rw[if_neg e,if_neg (λz=>e (c.trans z))];exact⟨c,g⟩
def KV.put{kvs:List (κ×V)}{vs:List (κ×Value)}(r:KV kvs vs)(k:κ){y:V}{u:Value}(b:aR y u):KV (dF kvs k y) (iO vs k u):=by
 unfold dF iO;rw[r.any k]
 by_cases e:(vs.any λc=>decide (c.1=k))=ac
 .rw[if_pos e,if_pos e];exact r.repl k b
 .rw[if_neg e,if_neg e];exact ia.snoc r ⟨rfl,b⟩
def KV.length{kvs:List (κ×V)}{vs:List (κ×Value)}(r:KV kvs vs):kvs.length=vs.length:=tL r
end
variable{u:Value}
def m5{k:Key}(r:aR (kV k) u):(cX P w).is k u=ac:=by
 cases k with
 |inl i=>obtain⟨t,e⟩:=(r);subst e;exact BY P w i t
 |inr x=>obtain⟨t,e⟩:=(r);subst e;exact BZ P w x t
def CJ{P:dn}{w:World}:∀{ks:List Key} {us:LVa},aX (ks.map kV) us->ItemsAre (cX P w) ks us
 | [],_,r=>by rw[map_nil]at r;cases r;exact .nil
 |k::ks,_,r=>by
  cases r with
  |cons h t=>exact .cons (m5 h) (CJ t)
nonrec abbrev KT(H:Hp):List (List Key×V)->List (List Key×Addr×Value)->Prop:=ia λp q=>p.1=q.1/\H q.2.1=aa (.tup (p.1.map kV))/\aR p.2 q.2.2
variable{kvs:List (List Key×V)}{xs:List (List Key×Addr×Value)}
def KT.val(r:KT H kvs xs)(k:List Key):ig (fm kvs k) ((atKey xs k).map (·.2)):=by
 induction r with
 |nil=>exact ie
 | @cons p q ps g h t m=>
  obtain⟨i,_,j⟩:=h
  by_cases e:p.1=k
  .have c:=i.symm.trans e;have b:atKey (q::g) k=aa q.2:=by simp[atKey,c]
   rw[t6 e,b];exact j
  .have c:¬q.1=k:=λz=>e (i.trans z);have b:atKey (q::g) k=atKey g k:=by simp[atKey,c]
   rw[t7 e,b];exact m
variable{y:V}
def KT.repl(r:KT H kvs xs)(k:List Key)(m:aR y u):
  KT H (kvs.map λc=>if c.1=k then (c.1,y) else c) (xs.map (putAt k u)):=by
 induction r with
 |nil=>exact .nil
 | @cons p q ps o h t j=>
  rw[cS,cS];refine .cons ?_ j;obtain⟨b,g,i⟩:=h;unfold putAt
  by_cases e:p.1=k
  .rw[if_pos e,if_pos (b.symm.trans e)];exact⟨b,g,m⟩
  .rw[if_neg e,if_neg (λz=>e (b.trans z))];exact⟨b,g,i⟩
def KT.put(r:KT H kvs xs)(k:List Key){b:Addr}(g:H b=aa (.tup (k.map kV)))(c:aR y u):
  KT H (dF kvs k y) (storedH xs k b u):=by
 have e:(kvs.any λi=>decide (i.1=k))=(atKey xs k).isSome:=by
  rw[t8,(r.val k).isSome_eq,Option.isSome_map]
 unfold dF storedH;rw[e]
 by_cases q:(atKey xs k).isSome=ac
 .rw[if_pos q,if_pos q];exact r.repl k c
 .rw[if_neg q,if_neg q];exact ia.snoc r ⟨rfl,g,c⟩
def KT.keeps(r:KT H kvs xs)(g:∀b c,H b=aa (.tup c)->H' b=aa (.tup c)):KT H' kvs xs:=
 ia.mapP r λ_ _ z=>⟨z.1,g _ _ z.2.1,z.2.2⟩
def CK{u:HO}(ok:HOk P w H h)(e:Rd H a u):fM P w H h a u:=e.ok ok
def lL{kvs:List (Key×V)}(ok:HOk P w H h)(e:Rd H a (.dK kvs)):kvs.length<=aW/\(a==gE)=ag/\∃vs,KV kvs vs/\h.DictOf (cX P w) a vs:=
 show fM P w H h a (.dK kvs)from CK ok e
def qw{kvs:List (Key×V)}(ok:HOk P w H h)(e:H a=aa (.dK kvs)):kvs.length<=aW/\(a==gE)=ag/\∃vs,KV kvs vs/\h.DictOf (cX P w) a vs:=lL ok (.inl e)
def t9{ks:List Key}(ok:HOk P w H h)(e:H a=aa (.tup (ks.map kV))):(tupleKind (cX P w)).is h ks a:=by
 obtain⟨_,its,r,o,b,c,n,g⟩:=(ok a _ e);exact⟨o,its.toArray,n,b,c,g,by simpa using CJ r⟩
def qx(ok:HOk P w H h)(e:Rd H a (.dT kvs)):kvs.length<=aW/\(a==gE)=ag /\
  ∃xs,KT H kvs xs/\h.DictOfH (tupleKind (cX P w)) a xs:=by
 obtain⟨z,y,xs,r,o,es,g,i,j,s,v,A⟩:=(CK ok e);refine⟨z,y,xs,r,o,es,g,i,j,s,v,λx b=>?_,A⟩
 have all:∀{l:List _} {m:List _},KT H l m->∀x∈m,(tupleKind (cX P w)).is h x.1 x.2.1:=by
  intro l m q
  induction q with
  |nil=>intro x b;exact nomatch b
  | @cons p q ps C c t B=>
   intro x b
   rcases b8.mp b with e |b
   .subst e;exact t9 ok (by rw[<- c.1];exact c.2.1)
   .exact B x b
 exact all r x b
def JM(ok:HOk P w H h)(e:H a=aa (.dT kvs)):kvs.length<=aW/\(a==gE)=ag /\
  ∃xs,KT H kvs xs/\h.DictOfH (tupleKind (cX P w)) a xs:=qx ok (.inl e)
abbrev m6(H:Hp)(a:Addr)(y:V)(r:Option V):Prop:=
 (∃kvs k,Rd H a (.dK kvs)/\y=kV k/\r=fm kvs k)\/∃kvs k b,Rd H a (.dT kvs)/\y=.ref b/\H b=aa (.tup (k.map kV))/\r=fm kvs k
abbrev qy(H:Hp)(a:Addr)(y v:V)(H':Hp):Prop:=
 (∃kvs k,H a=aa (.dK kvs)/\y=kV k/\kvs.length<aW/\H'=upd H a (.dK (dF kvs k v))) \/
 ∃kvs k b,H a=aa (.dT kvs)/\y=.ref b/\H b=aa (.tup (k.map kV))/\kvs.length<aW/\H'=upd H a (.dT (dF kvs k v))
variable{kvs:List (Key×V)}
def m6.k{k:Key}(e:H a=aa (.dK kvs)):m6 H a (kV k) (fm kvs k):=.inl ⟨kvs,k,.inl e,rfl,rfl⟩
variable{v:V}
def qy.k{k:Key}(e:H a=aa (.dK kvs))(b:kvs.length<aW):qy H a (kV k) v (upd H a (.dK (dF kvs k v))):=.inl ⟨kvs,k,e,rfl,b,rfl⟩
variable{pins:PNS}{σ:St}{s:aI}
def Inv.big(I:Inv X pins σ H s):gE<s.heap.objs.size:=by
 exact Nat.lt_trans (by decide) ((I.mod.glob.keeps I.bk).lt)
variable{A:eI}{E:PRS}
def JN{Q:PRS}(J:A.units+1<cLine)(I:Inv X pins σ H s)(g:m6 H a y (aa v))(B:aR y u)(h:∀j s',Inv X pins σ H s'->aR v j->Q j s'):
  wpAny (model X.prog X.w) A (kH (.ref a) u) Q E s:=by
 rcases g with⟨kvs,k,e,o,l⟩ |⟨kvs,k,b,e,o,C,l⟩
 .subst o;obtain⟨z,hd,vs,c,m⟩:=lL I.hok e;obtain⟨j,t,i⟩:=ig.some_of (by rw[l];exact c.val k);exact wpAny_getItem_of (m5 B) m.mapOf t (h j _ (I.tok _) i)
 .subst o;cases (B);obtain⟨z,hd,xs,c,m⟩:=qx I.hok e;obtain⟨j,t,i⟩:=ig.some_of (by rw[l];exact c.val k);obtain⟨p,G,r⟩:=mK.mp t;refine wpAny_getItem_heap (xg J) (t9 I.hok C) m G ?_;rw[r];exact h j _ (I.tok _) i
variable{h':Heap}{t':Nat}
def qz{c:HO}(I:Inv X pins σ H s)(m:Mut (H a))(j:iQ a s.heap h')(i:∃q,h'.get? a=aa q)(new:fM X.prog X.w (upd H a c) h' a c):
  Inv X pins σ (upd H a c) {s with heap:=h',toks:=t'}:=
 I.write m (.inl rfl) (λb q g z=>(j.2 b g).trans z) i new
def qA{vs:List (Key×Value)}(z:kvs.length<=aW)(hd:(a==gE)=ag)(b:KV kvs vs)(c:h'.DictOf (cX P w) a vs):
  fM P w H' h' a (.dK kvs):=⟨z,hd,vs,b,c⟩
variable{r:Value}
def JO{Q:Unit->aI->Prop}(hu:A.units+1<cLine)(I:Inv X pins σ H s)(g:qy H a y v H')(M:aR y u)(L:aR v r)(h:∀s',Inv X pins σ H' s'->Q () s'):
  wpAny (model X.prog X.w) A (setItem (.ref a) u r) Q E s:=by
 rcases g with⟨kvs,k,e,t,l,p⟩ |⟨kvs,k,b,e,t,G,l,p⟩
 .subst t p;obtain⟨z,hd,vs,i,o⟩:=qw I.hok e;have hz:vs.length<=aW:=by rw[<- i.length];exact z
  have B:(dF kvs k v).length<=aW:=by have:=qu kvs k v;lia
  refine wpAny_setItem_pairs (m5 M) o λh' j C=>h _ ?_;have he:∃q,h'.get? a=aa q:=let ⟨q,_,_,m,_⟩:=j;⟨q,m⟩;exact qz I (by rw[e];exact ie) C he (qA B hd (i.put k L) j)
 .subst t p;cases (M);obtain⟨z,hd,xs,i,o⟩:=JM I.hok e;have hz:xs.length<=aW:=by rw[<- tL i];exact z
  have B:(dF kvs k v).length<=aW:=by have:=qu kvs k v;lia
  refine wpAny_setItem_heap (xg hu) (t9 I.hok G) o λh' j C=>h _ ?_;obtain⟨q,es,T,m,U,Y,h4,_,h5⟩:=j;refine qz I (by rw[e];exact ie) C ⟨q,m⟩ ⟨B,hd,_,(i.put k G L).keeps λc ys J=>?_,q,es,T,m,U,Y,h4,h5⟩;rw[bz (HD J e (λz=>nomatch z))];exact J
variable{Q:PRS}
def JP(I:Inv X pins σ H s)(e:Rd H a (.dK kvs))(h:∀t s',Inv X pins σ H s'->Q (.int kvs.length t) s'):wpAny (model X.prog X.w) A (call (.builtin "len") [.ref a]) Q E s:=by
 obtain⟨z,hd,vs,b,c⟩:=lL I.hok e;refine call_len_dict hd c (by rw[<- b.length];rw[cL]at z;lia) ?_;rw[<- b.length];exact h _ _ (I.tok _)
abbrev xS(i:Expr):Prop:=∀ov b,p9 i ag ov b=operate [ov,b] (kH ov b)
variable{prog:dn}{env:Env}{value:Expr}
def JQ{slice:Expr}{pos:Pos}{T id:String}
 (B:lH (.type T) "__getitem__"=pure (aa (.builtin id)))(C:xS slice)
 (h:wpAny (model prog w) A (eval value env) (λo g=>wpAny (model prog w) A (eval slice env) (λi b=>b.TypeIs o T/\wpAny (model prog w) A (kH o i) Q E b) E g) E s):
  wpAny (model prog w) A (eval (.Subscript value slice pos) env) Q E s:=by
 refine Subscript_ (gj h (λo g p=>gj p (λi b c=>?_) λ_ _ x=>x) λ_ _ x=>x);obtain⟨z,c⟩:=c;refine av ?_;refine av (wpAny_specialOf z B ?_)
 have m:wpAny (model prog w) A (p9 slice ag o i) (λr j=>wpAny (model prog w) A (letTemporaryGo value o r >>= λ_=>pure r) Q E j) E b:=by
  rw[C o i];exact wpAny_operating (gj c (λr j t=>av (wpAny_letTemporaryGo (bc t))) λ_ _ x=>x)
 first
  |exact bc (av m)
  |exact av _
  |exact av m
def JR{o:Option V}(I:Inv X pins σ H s)(g:m6 H a y o):s.TypeIs (.ref a) "dict":=by
 rcases g with⟨kvs,k,e,_,_⟩ |⟨kvs,k,b,e,_,_,_⟩
 .obtain⟨_,_,vs,_,c⟩:=lL I.hok e;exact c.typeIs
 .obtain⟨_,_,xs,_,c⟩:=qx I.hok e;exact c.typeIs
abbrev JS(b ty:TE):TE:=λσ H Q=>b σ H λx H1=>ty σ H1 λy H2=>∃a v,x=.ref a/\m6 H2 a y (aa v)/\Q v H2
abbrev CL(g ty i:TE):TS:=λD σ H=>i σ H λv H1=>g σ H1 λx H2=>ty σ H2 λy c=>∃a b,x=.ref a/\qy c a y v b/\D.nx σ b
variable{o i:Expr}{td:TE}
def JT{pos:Pos}{ty:TE}(z:X.A.units+1<cLine)(p:PE X o td)(hi:PE X i ty)(t:xS i):PE X (.Subscript o i pos) (JS td ty):=by
 intro pins s σ H Q I h;refine JQ PySem.F.slot_dict_getitem.lookup t (thn (p pins s σ H _ I h) λu s1 ⟨x,H1,j,J,B⟩=>thn (hi pins s1 σ H1 _ j B) λM s2 G=>?_);obtain⟨y,H2,c,L,a,v,ex,g,C⟩:=G;subst ex;obtain rfl:u=iR a:=J;exact⟨JR c g,JN z c g L λU T m b=>⟨v,H2,m,b,C⟩⟩
variable{b0:Pos}{tv:TE}
def JU{pos:Pos}{ty:TE}(B:X.A.units+1<cLine)(t:PE X o td)(hi:PE X i ty)(C:PE X value tv)(z:fR value (aa (.Subscript o i b0)) pos.line X.env=pure ag):
  PS X (.Assign [.Subscript o i b0] value pos) (CL td ty tv):=by
 intro pins s σ H D I h;refine wpAny_Assign_Subscript (thn (C pins s σ H _ I h) λr s1 ⟨v,H1,c,T,G⟩=>thn (t pins s1 σ H1 _ c G) λu s2 ⟨x,H2,j,U,J⟩=>thn (hi pins s2 σ H2 _ j J) λiv s3 M=>?_) z;obtain⟨y,H3,m,Y,a,b,ex,g,L⟩:=M;subst ex;obtain rfl:u=iR a:=U;exact JO B m g Y T λs4 p=>⟨σ,b,p,L⟩
def CM(h:Heap)(b:gE<h.objs.size):fM P w H (h.push {cls:=.type "dict",data:=.dict #[]}) h.objs.size (.dK []):=
 ⟨gD _,beq_eq_false_iff_ne.mpr (ce (cy b)),[],.nil,xu h⟩
abbrev CN:TE:=λ_ H Q=>∀p,H p=ab->Q (.ref p) (upd H p (.dK []))
def CO{pos:Pos}:PE X (.Dict [] [] pos) CN:=λpins s σ H Q I h=>
 wpAny_Dict_empty ⟨.ref s.heap.objs.size,_,I.laid (λ_ _ q=>bV _ q) (aU _) (CM s.heap I.big),rfl,h _ (I.hok.fresh (aU _))⟩
abbrev ub:List (TE×TE)->St->Hp->(List (V×V)->Hp->Prop)->Prop
 | [],_,H,Q=>Q [] H
 |(tk,tv)::r,σ,H,Q=>tk σ H λx H1=>tv σ H1 λy H2=>ub r σ H2 λps b=>Q ((x,y)::ps) b
nonrec abbrev VV:List (V×V)->List (Value×Value)->Prop:=ia λp q=>aR p.1 q.1/\aR p.2 q.2
abbrev PPs(X:Cx)(pos:Pos)(c:List (Option Expr))(b:LEx)(g:List (TE×TE)):Prop:=
 ∀(pins:PNS) (s:aI) (σ:St) (H:Hp) (Q:List (V×V)->Hp->Prop),Inv X pins σ H s->ub g σ H Q ->
  wpAny (model X.prog X.w) X.A (evalPairs (pairTrees c b X.env pos)) (λvs s'=>∃ps H',Inv X pins σ H' s'/\VV ps vs/\Q ps H') X.xe s
def JV{pos:Pos}:PPs X pos [] [] []:=λpins s σ H Q I h=>pairTrees_nil_walk ⟨[],H,I,.nil,h⟩
variable{trs:List (TE×TE)}
def xT{pos:Pos}{k v:Expr}{ks:List (Option Expr)}{vs:LEx}{c:TE}(t:PE X k c)(B:PE X v tv)(z:PPs X pos ks vs trs):
  PPs X pos (aa k::ks) (v::vs) ((c,tv)::trs):=λpins s σ H Q I h=>
 pairTrees_cons_walk (thn (t pins s σ H _ I h) λu s1 ⟨x,H1,j,L,C⟩=>thn (B pins s1 σ H1 _ j C) λU s2 ⟨y,H2,m,M,G⟩ =>
  thn (z pins s2 σ H2 _ m G) λws T ⟨ps,g,p,b,J⟩=>⟨_::ps,g,p,.cons ⟨L,M⟩ b,J⟩)
abbrev m7(kvs more:List (Key×V)):List (Key×V):=more.foldl (λb c=>dF b c.1 c.2) kvs
def KV.merge:∀{more:List (Key×V)} {rs:List (Key×Value)} {kvs:List (Key×V)} {vs:List (Key×Value)},KV more rs->KV kvs vs->KV (m7 kvs more) (merged vs rs):=by
 intro more rs kvs vs r
 induction r generalizing kvs vs with
 |nil=>intro q;exact q
 | @cons p q ps g h t b=>
  intro c
  have e:KV (dF kvs p.1 p.2) (iO vs q.1 q.2):=by
   have:=c.put p.1 h.2;rw[<- h.1];exact this
  exact b e
def CP:∀(more kvs:List (Key×V)),(m7 kvs more).length<=kvs.length+more.length
 | [],kvs=>by show kvs.length<=kvs.length+0;lia
 |p::r,kvs=>by
  have b:=CP r (dF kvs p.1 p.2);have c:=qu kvs p.1 p.2;show(m7 (dF kvs p.1 p.2) r).length<=_;rw[bT];lia
def CQ{P:dn}{w:World}:∀{kvs:List (Key×V)} {ws:List (Value×Value)},VV (kvs.map λg=>(kV g.1,g.2)) ws->∃rs,Carries (cX P w) ws rs/\KV kvs rs
 | [],_,r=>by rw[map_nil]at r;cases r;exact⟨[],ie,.nil⟩
 |p::kvs,_,r=>by
  cases r with
  | @cons a b m bs h t=>
   obtain⟨rs,c,q⟩:=CQ t;obtain⟨z,j⟩:=b;exact⟨(p.1,j)::rs,⟨m5 h.1,rfl,c⟩,.cons ⟨rfl,h.2⟩ q⟩
abbrev CS(trs:List (TE×TE)):TE:=λσ H Q=>∀p,H p=ab->ub trs σ (upd H p (.dK [])) λps H2=>H2 p=aa (.dK [])/\∃kvs:List (Key×V),ps=kvs.map (λb=>(kV b.1,b.2))/\kvs.length<=15/\Q (.ref p) (upd H2 p (.dK (m7 [] kvs)))
variable{d9:List (Option Expr)}{dm:LEx}
def JW{pos:Pos}(h:PPs X pos d9 dm trs)(g:d9.all (·.isSome)=ac)(L:d9.length=dm.length)(C:d9≠[])
 (j:d9.length<=15):PE X (.Dict d9 dm pos) (CS trs):=by
 intro pins s σ H Q I q;refine wpAny_Dict_walk (knd:=cX X.prog X.w) g L C j (thn (h pins _ σ _ _ (I.laid (λ_ _ q=>bV _ q) (aU _) (CM s.heap I.big)) (q _ (I.hok.fresh (aU s.heap.objs.size)))) λws s2 ⟨ps,H2,p,m,e,kvs,B,lk,T⟩=>?_);subst B;obtain⟨rs,c,Y⟩:=CQ m;obtain⟨z,hd,vs0,U,t⟩:=qw p.hok e;cases U;refine⟨rs,c,t,λh' b M=>⟨.ref s.heap.objs.size,_,?_,rfl,T⟩⟩
 have hz:(m7 [] kvs).length<=aW:=by
  have G:=CP kvs [];rw[oh]at G;rw[cL];lia
 have J:∃q,h'.get? s.heap.objs.size=aa q:=let ⟨q,_,_,hq,_⟩:=b;⟨q,hq⟩;exact qz p (by rw[e];exact ie) M J (qA hz hd (Y.merge .nil) b)
structure M2(X:Cx)(o:Expr)(m:Str)(apos:Pos)(e f:Expr)(cpos:Pos):Prop where
 base:attributeBase o m X.env (eval o X.env)=eval o X.env
 few : ((fT cpos (aY [e,f] X.env)).all (λx=>!x.1) && (backToKw cpos (keywordEach [] X.env)).all (λx=>x.1.isSome)
  && decide (([e,f]:LEx).length+([]:List Keyword).length+(if ([]:List Keyword).isEmpty then 0 else 1)<30))=ac
 line:(apos.endLine==cpos.line)=ac
 trees:fT cpos (aY [e,f] X.env)=[(ag,eval e X.env),(ag,eval f X.env)]
abbrev IsD(H:Hp)(a:Addr):Prop:=(∃kvs,Rd H a (.dK kvs))\/∃kvs,Rd H a (.dT kvs)
def JX(I:Inv X pins σ H s)(d:IsD H a):
  s.TypeIs (.ref a) "dict" /\ (∀b,iR a=.ref b->∃c,s.heap.get? b=aa c/\c.dict=ab)/\(a==gE)=ag:=by
 rcases d with⟨kvs,e⟩ |⟨kvs,e⟩
 .obtain⟨_,hd,vs,_,g⟩:=lL I.hok e;refine⟨g.typeIs,λb q=>?_,hd⟩;cases q;obtain⟨c,_,_,j,m,_⟩:=g;exact⟨c,j,m.2.1⟩
 .obtain⟨_,hd,xs,_,g⟩:=qx I.hok e;refine⟨g.typeIs,λb q=>?_,hd⟩;cases q;obtain⟨c,_,_,j,m,_⟩:=g;exact⟨c,j,m.2.1⟩
variable{d:V}{o:Option V}
def JY(G:A.units+1<cLine)(I:Inv X pins σ H s)(g:m6 H a y o)(t:aR y u)(p:aR d r)(h:∀B s',Inv X pins σ H s'->aR (o.getD d) B->Q B s'):
  wpAny (model X.prog X.w) A (call (.builtin "dict.get") [.ref a,u,r]) Q E s:=by
 rcases g with⟨kvs,k,e,m,l⟩ |⟨kvs,k,b,e,m,C,l⟩
 .subst m;obtain⟨z,hd,vs,c,j⟩:=lL I.hok e;refine call_meetsIn xr j.typeIs PySem.F.entry_dict_get (PySem.F.args_dict_get_3 _ _ _) (meets_dict_get_default _ a (m5 t) hd r) ⟨_,j.mapOf,h _ _ (I.tok _) ?_⟩;rw[l];exact(c.val k).getD p
 .subst m;cases (t);obtain⟨z,hd,xs,c,j⟩:=qx I.hok e;refine call_meetsIn xr j.typeIs PySem.F.entry_dict_get (PySem.F.args_dict_get_3 _ _ _) (meetsH_dict_get_default _ a b hd r) ⟨xg G,k,xs,t9 I.hok C,j,h _ _ (I.tok _) ?_⟩;rw[l];exact(c.val k).getD p
abbrev JZ(td ty tx:TE):TE:=λσ H Q=>td σ H λx H1=>∃a,x=.ref a/\IsD H1 a/\ty σ H1 λy H2=>tx σ H2 λz b=>∃o,m6 b a y o/\Q (o.getD z) b
variable{o e:Expr}{apos cpos:Pos}
def J0{f:Expr}{ty:TE}{tx:TE}(L:X.A.units+1<cLine)(J:PE X o td)(C:PE X e ty)(G:PE X f tx)(m:M2 X o "get" apos e f cpos):PE X (.Call (.Attribute o "get" apos) [e,f] [] cpos) (JZ td ty tx):=by
 intro pins s σ H Q I h;refine wpAny_Call_method m.base m.few m.line tH xr PySem.F.type_dict_get (thn (J pins s σ H _ I h) λu s1 Y=>?_);obtain⟨x,H1,c,rx,a,ex,d,M⟩:=Y;subst ex;obtain rfl:u=iR a:=rx;obtain⟨t1,t2,_⟩:=JX c d;refine⟨t1,t2,?_⟩;rw[m.trees]
 refine Calls.callWith_builtin rfl (Calls.evalArgs_plain (mT (thn (C pins s1 σ H1 _ c M) λiv s2 ⟨y,H2,p,ry,T⟩ =>
  mT (thn (G pins s2 σ H2 _ p T) λfv s3 ⟨z,j,t,rz,ov,g,U⟩=>xl ?_))))
 exact JY L t g ry rz λw' s4 B b=>⟨_,j,B,b,U⟩
def J1(I:Inv X pins σ H s)(e:Rd H a (.dK kvs))(h:∀p s',H p=ab->Inv X pins σ (upd H p (.dK kvs)) s'->Q (.ref p) s'):wpAny (model X.prog X.w) A (call (.type "dict") [.ref a]) Q E s:=by
 obtain⟨z,hd,vs,c,m⟩:=lL I.hok e;refine kt_call_dict hd m (by rw[<- c.length];exact z) λh' g t=>?_;exact h _ _ (I.hok.fresh (aU _)) (I.laid (λb q j=>((t.2 b (cy (bD j))).trans (bV _ j))) (aU _) (qA z (beq_eq_false_iff_ne.mpr (ce (cy I.big))) c g))
section
variable{κ:Type}[DecidableEq κ]
end
end L2
set_option maxHeartbeats 4000000
namespace L2
open List
open PySem
def xU{env:Env}(f:(Str×gF)->List (Str×Addr)->Sem (ForInStep (List (Str×Addr))))
 (p:∀n k r,k≠f9->f (n,k) r=pure (.yield r))
 (q:∀n r c,env.cells.lookup n=aa c->f (n,.free) r=pure (.yield ((n,c)::r))):
  ∀(l:List (Str×gF)) (a:List (Str×Addr)),(∀x∈l,x.2=.free->∃c,env.cells.lookup x.1=aa c) ->
   (∀x c,a.lookup x=aa c->env.cells.lookup x=aa c) ->
   ∃cl,forIn l a f=(pure cl:Sem _)/\(∀x c,cl.lookup x=aa c->env.cells.lookup x=aa c) /\
    (∀x,((∃c,a.lookup x=aa c)\/(x,f9)∈l)->∃c,cl.lookup x=aa c)
 | [],a,_,ha=>⟨a,rfl,ha,λx b=>b.elim id (λz=>nomatch z)⟩
 |(n,k)::l,a,hl,ha=>by
  have i:=λx b=>hl x (cB _ b)
  by_cases t:k=.free
  .subst t;obtain⟨c,u⟩:=hl _ bK rfl;have g:=u
   have s:∀x d,((n,c)::a).lookup x=aa d->env.cells.lookup x=aa d:=λx d b=>by
    rw[gA]at b
    cases e:x==n with
    |true=>
     rw[e]at b;cases b
     rw[eq_of_beq e];exact g
    |false=>
     rw[e]at b;exact ha x d b
   obtain⟨cl,e,j,m⟩:=xU f p q l _ i s;refine⟨cl,?_,j,λx b=>m x ?_⟩
   .rw[forIn_cons,q n a c g,pure_bind];exact e
   .have h:∀d,a.lookup x=aa d->∃o,((n,c)::a).lookup x=aa o:=λd z=>by
     rw[gA]
     cases e:x==n with
     |true=>exact⟨c,rfl⟩
     |false=>exact⟨d,z⟩
    rcases b with⟨d,z⟩ |b
    .exact .inl (h d z)
    .rcases b8.mp b with z |z
     .cases z;refine .inl ⟨c,?_⟩;rw[gA,beq_self_eq_true]
     .exact .inr z
  .obtain⟨cl,e,j,m⟩:=xU f p q l a i ha;refine⟨cl,?_,j,λx b=>m x ?_⟩
   .rw[forIn_cons,p n k a t,pure_bind];exact e
   .rcases b with b |b
    .exact .inl b
    .rcases b8.mp b with z |z
     .cases z;exact absurd rfl t
     .exact .inr z
variable{scope:Scope}{env:Env}
def CT(h:∀x∈scope.names,x.2=.free->∃c,env.cells.lookup x.1=aa c):
  ∃cl,closureFor scope env=pure cl/\(∀x c,cl.lookup x=aa c->env.cells.lookup x=aa c)/\(∀x,(x,f9)∈scope.names->∃c,cl.lookup x=aa c):=by
 obtain ⟨cl,e,b,d⟩:=xU (λx r=>(match x with
   |(name,kind)=>if (kind==f9)=ac then (do let a <- cellOf env name;pure (n6 ((name,a)::r))) else (pure (n6 r):Sem _)))
  (λn k r i=>by
   have:(k==f9)=ag:=by simpa using i
   simp only[this,lw,if_false])
  (λn r c g=>by
   simp only[beq_self_eq_true,if_true,cellOf,g,pure_bind])
  scope.names [] h (λx c z=>by nomatch z)
 refine⟨cl,?_,b,λx j=>d x (.inr j)⟩;refine(congrArg _ ?_).trans ((congrArg (λt=>t >>= pure) e).trans (pure_bind _ _));rfl
nonrec abbrev E00:Value->aI->Prop:=λ_ _=>False
variable{prog:dn}{w:World}{A:eI}{R:Result->aI->Prop}{s:aI}{d8 iter:Expr}{eH:LEx}
def J2{a:Expr}{pos:Pos}{it q:Value}(I:Nat->aI->Prop)
 (z:∀ n s,I n s->wpAny (model prog w) A (jo it) (λr b=>match r with
   |none=>R (.ok .next) b
   | some v=>wpAny (model prog w) A (letOwnedTupleGo a it v) (λ_ d=>wpAny (model prog w) A (h9 a env v) (λ_ j =>
     wpAny (model prog w) A (forIn eH ac λc r=>if r=ac then do let ok <- isTrue c env (eval c env); pure (n6 ok) else pure (n6 r)) (λok e =>
      if ok=ac then wpAny (model prog w) A (eval d8 env) (λx l =>
       wpAny (model prog w) A (call (.builtin "list.append") [q,x]) (λ_ o=>∃m,m<n/\I m o) (notedBy (model prog w) A env λx s'=>R (.error x) s') l) (notedBy (model prog w) A env λx s'=>R (.error x) s') e
      else ∃m,m<n/\I m e) (notedBy (model prog w) A env λx s'=>R (.error x) s') j) (notedBy (model prog w) A env λx s'=>R (.error x) s') d) (notedBy (model prog w) A env λx s'=>R (.error x) s') b) (notedBy (model prog w) A env λx s'=>R (.error x) s') s)
 (n:Nat)(h:I n s):
  gS (model prog w) A (.compLoop (.ListComp d8 [⟨a,iter,eH,0⟩] scope pos) 0 it q env) R s:=by
 refine codeAny_loop rfl I (λn s B=>?_) n h;refine wpAny_noted ?_;refine av (tu (av (gj (z n s B) (λr b g=>?_) λ_ _ h'=>h')))
 cases r with
 |none=>exact bc g
 |some v=>
  refine av (gj g (λ_ d p=>?_) λ_ _ h'=>h');refine av (gj p (λ_ j t=>av (gj t (λok e i=>?_) λ_ _ h'=>h')) λ_ _ h'=>h')
  cases ok with
  |false=>exact bc ⟨rfl,i⟩
  |true=>
   exact av (av (gj i (λx l u=>av (gj u (λ_ o y=>bc (bc ⟨rfl,y⟩)) λ_ _ h'=>h')) λ_ _ h'=>h'))
open PySem.Spec PyProof.Rows
@[reducible]noncomputable def Cx.comp(X:Cx)(scope:Scope)(Nc:LSt)(cl:List (Str×Addr))(C:Addr)(ex:LAd)(b:aI)(a:Hp):Cx:=
 {X with N:=Nc,s₀:=b,H₀:=a,env:=compEnvC scope cl C X.env,outer:=X.stack,ex:=ex,fn:=λ_=>ag,pn:=[],xe:=E00}
def xV{env:Env}:∀{names:List (Str×gF)} {x:Str},names.lookup x=aa .free ->
  (names.map λ(n,k)=>if (k==f9 && env.scope.kind==.function && env.kindOf n==aa .cell) then (n,mV) else (n,k)).lookup x=aa .cell \/
  (names.map λ(n,k)=>if (k==f9 && env.scope.kind==.function && env.kindOf n==aa .cell) then (n,mV) else (n,k)).lookup x=aa .free
 | [],_,h=>by simp at h
 |(n,k)::r,x,h=>by
  have b:=@xV env r x;show List.lookup x ((if _=ac then _ else _)::_)=_\/List.lookup x ((if _=ac then _ else _)::_)=_;rw[gA]at h
  cases a:x==n with
  |true=>
   rw[a]at h;cases h;split
   .left;rw[gA,a]
   .right;rw[gA,a]
  |false=>
   rw[a]at h;split
   .rw[gA,a];exact b h
   .rw[gA,a];exact b h
def xW{env:Env}{a:gF}(b:a=.cell\/a=.free):∀{names:List (Str×gF)} {x:Str},
  (names.map λ(n,k)=>if (k==f9 && env.scope.kind==.function && env.kindOf n==aa .cell) then (n,mV) else (n,k)).lookup x=aa a ->
  (x,f9)∈names\/(x,mV)∈names
 | [],_,h=>by simp at h
 |(n,k)::r,x,h=>by
  have h':List.lookup x ((if _=ac then _ else _)::_)=aa a:=h
  cases c:x==n with
  |true=>
   have e:=eq_of_beq c;subst e;split at h'
   .rename_i d
    have i:k=.free:=by
     rw[di,di]at d;exact eq_of_beq d.1.1
    subst i;exact .inl bK
   .rw[gA,c]at h';have e:=cz h';subst e
    rcases b with z |z
    .subst z;exact .inr bK
    .subst z;exact .inl bK
  |false=>
   have g:(r.map λ(n,k)=>if (k==f9 && env.scope.kind==.function && env.kindOf n==aa .cell) then (n,mV) else (n,k)).lookup x=aa a:=by
    split at h' <;> (rw[gA,c]at h';exact h')
   rcases(@xW env a b r x) g with z |z
   .exact .inl (cB _ z)
   .exact .inr (cB _ z)
abbrev jv(scope:Scope)(outer:List (Str×gF))(N Nc:LSt)(k:Nat)(js:LN):Bool:=
 scope.names.all (λx=>(x.2 != .free || outer.lookup x.1==aa .cell || outer.lookup x.1==aa .free) && x.2 != .cell && (x.2 != .local || scope.names.lookup x.1==aa .local)) &&
 scope.kind==.function && Nc.length==k+js.length &&
 (cp js.length).all (λi=>match Nc[k + i]?,js[i]? with
  |some x,aa j=>N[j]?==aa x && scope.names.lookup x==aa .free
  | _,_=>ag)
structure oF(scope:Scope)(outer:List (Str×gF))(N Nc:LSt)(k:Nat)(js:LN):Prop where
 free:∀x∈scope.names,x.2=.free->outer.lookup x.1=aa .cell\/outer.lookup x.1=aa .free
 nocell:∀x∈scope.names,x.2≠.cell
 loc:∀x∈scope.names,x.2=.local->scope.names.lookup x.1=aa .local
 kind:scope.kind=.function
 len:Nc.length=k+js.length
 at':∀i j,js[i]?=aa j->∃x,Nc[k+i]?=aa x/\N[j]?=aa x/\scope.names.lookup x=aa .free
variable{N Nc:LSt}{k:Nat}{js:LN}
def oF.of{outer:List (Str×gF)}(h:jv scope outer N Nc k js=ac):oF scope outer N Nc k js:=by
 unfold jv at h;rw[di,di,di]at h;obtain⟨⟨⟨b,d⟩,g⟩,c⟩:=h;rw[all_eq_true]at b c;refine⟨λx a e=>?_,λx a e=>?_,λx a e=>?_,eq_of_beq d,eq_of_beq g,λi j e=>?_⟩
 .have:=b x a;simp only[di,kz,bne_iff_ne,beq_iff_eq]at this
  rcases this.1.1 with(z |z) |z
  .exact absurd e z
  .exact .inl z
  .exact .inr z
 .have:=b x a;simp only[di,bne_iff_ne]at this;exact this.1.2 e
 .have:=b x a;simp only[di,kz,bne_iff_ne,beq_iff_eq]at this
  rcases this.2 with z |z
  .exact absurd e z
  .exact z
 .have hi:=(eD.mp e).1;have:=c i (jm.mpr hi);rw[e]at this
  cases q:Nc[k+i]? with
  |none=>rw[q]at this;nomatch this
  |some x=>
   rw[q]at this;simp only[di,beq_iff_eq]at this;exact⟨x,rfl,this.1,this.2⟩
abbrev gU(k:Nat)(js:LN)(σ:St):St:=gz k ab++js.map λj=>(σ[j]?).getD ab
abbrev PTs(X:Cx)(eH:LEx)(t:TT):Prop:=
 ∀(pins:PNS) (s:aI) (σ:St) (H:Hp) (Q:Bool->Hp->Prop),Inv X pins σ H s->t σ H Q ->
  wpAny (model X.prog X.w) X.A (forIn eH ac λc r=>if r=ac then do let ok <- isTrue c X.env (eval c X.env);pure (n6 ok) else pure (n6 r)) (TP X pins σ Q) X.xe s
abbrev J3:TT:=λ_ H Q=>Q ac H
variable{X:Cx}
def J4:PTs X [] J3:=λ_ _ _ H _ I h=>wpAny_tests_nil ⟨H,I,h⟩
def CU{c:Expr}{t:TT}(h:PT X c t):PTs X [c] t:=λpins s σ H Q I q=>wpAny_tests_one (h pins s σ H Q I q)
abbrev xX(J:It)(g:TG)(tt:TT)(te:TE)(j:St)(l:Hp)(Q:VK):Prop:=
 ∃W:Nat->Nat->List V->St->Hp->Prop,(∃m,W 0 m [] j l)/\∀i m c σ' H',W i m c σ' H' ->
  (J.stop i H'/\c.length<=aW/\∀D,l D=ab->H' D=ab->Q (.ref D) (upd H' D (.lst c))) \/
  (J.go i H'/\c.length<=aW/\∃ N : List V->St->Hp->Prop,(∀ e h d,N e h d->∃ o,o < m/\W (i + 1) o e h d) /\
   ∀x d,J.yld i H' x d->g x σ' d λa p=>tt a p λb n=>if b=ac then te a n λy q=>N (c++[y]) a q else N c a n)
abbrev m8(k:Nat)(js:LN)(b:TI)(g:TG)(tt:TT)(te:TE):TE:=λσ H Q=>b σ H λJ a=>xX J g tt te (gU k js σ) a Q
@[reducible]noncomputable def Cx.to(X:Cx)(pn:PNS)(xe:PRS):Cx:={X with pn:=pn,xe:=xe}
variable{Y:Cx}{xe:PRS}{pins:PNS}{σ:St}{H:Hp}
def CV(I:Inv Y pins σ H s):Inv {Y with xe:=xe} pins σ H s:=
 ⟨⟨I.ok.mod,I.ok.kind,I.ok.glob,I.ok.blt,I.ok.above,I.ok.inj,I.ok.has,I.ok.cab,I.ok.hd,I.ok.frames,I.ok.stk,I.ok.exf,I.ok.bs,I.ok.bsz,I.ok.noex,I.ok.exfs,I.ok.funs,I.ok.frf⟩,I.os,I.bare,I.base,I.loc,I.cell,I.free,I.freeC,I.pin,I.hok,I.len⟩
def CW(I:Inv {Y with xe:=xe} pins σ H s):Inv Y pins σ H s:=
 ⟨⟨I.ok.mod,I.ok.kind,I.ok.glob,I.ok.blt,I.ok.above,I.ok.inj,I.ok.has,I.ok.cab,I.ok.hd,I.ok.frames,I.ok.stk,I.ok.exf,I.ok.bs,I.ok.bsz,I.ok.noex,I.ok.exfs,I.ok.funs,I.ok.frf⟩,I.os,I.bare,I.base,I.loc,I.cell,I.free,I.freeC,I.pin,I.hok,I.len⟩
variable{e:Expr}{t:TE}
def PE.to0(h:PE {Y with pn:=[],xe:=E00} e t):PE {Y with pn:=[],xe:=xe} e t:=λpins s σ H Q I q=>
 gj (h pins s σ H Q (CW I) q) (λu s' ⟨v,H',a,r,b⟩=>⟨v,H',CV a,r,b⟩) λ_ _ z=>z.elim
@[reducible]noncomputable def jY(us:LVa)(n:Nat):Obj:={cls:=.type "list",data:=.seq us.toArray n}
variable{tg:Expr}{g:TG}{tt:TT}{te:TE}{H2:Hp}{s2:aI}{it:Addr}{fp:LAd}{tn:Nat->Heap->Prop}{J:It}{cl:List (Str×Addr)}{Q:VK}{RR:Value->Addr->Result->aI->Prop}{E:PRS}
def J5{pos:Pos}{PX:Cx->Prop}
 (hc:X.calm=ac)(ck:oF scope X.env.scope.names X.N Nc k js)
 (hg:∀cl C ex M L,PG (X.comp scope Nc cl C ex M L) tg g)(ht:∀cl C ex M L,PTs (X.comp scope Nc cl C ex M L) eH tt)(he:∀cl C ex M L xe,PX ((X.comp scope Nc cl C ex M L).to [] xe)->PE ((X.comp scope Nc cl C ex M L).to [] xe) d8 te)
 (a1:∀x c,cl.lookup x=aa c->X.env.cells.lookup x=aa c)(a2:∀x,(x,f9)∈scope.names->∃c,cl.lookup x=aa c)
 (I:Inv X pins σ H2 s2)(T:jW X.prog X.w X.K tg J fp it tn)(st2:tn 0 s2.heap)(f2:∀b∈fp,ij X pins H2 b)(hW:xX J g tt te (gU k js σ) H2 Q)
 (hRR:∀(D C:Addr) (s':aI) (H':Hp),Inv X pins σ H' s'->(∃m,s'.heap.Ns C m)->ij X pins H' C->Q (.ref D) H'->RR (.ref D) C (.ok .next) s')
 (hPX:∀D C,s2.heap.objs.size=D->D<C->(∀b∈frs X.stack,b<D)->PX ((X.comp scope Nc cl C fp s2 H2).to [] (notedBy (model X.prog X.w) X.A (compEnvC scope cl C X.env) λx s'=>RR (.ref D) C (.error x) s'))):
  wpAny (model X.prog X.w) X.A (newList []) (λacc s₃=>wpAny (model X.prog X.w) X.A (newFunctionEnv scope X.env.globals cl [] X.env.qual ab .none (aa X.env)) (λcenv s₄ =>
   gS (model X.prog X.w) X.A (.compStart (.ListComp d8 [⟨tg,iter,eH,0⟩] scope pos) 0 (.ref it) acc {cenv with scope:=relabel scope X.env}) (RR acc cenv.locals) s₄) E s₃) E s2:=by
 obtain⟨W,⟨m0,w0⟩,turn⟩:=hW;refine tf (wpAny_newFunctionEnv ck.nocell (by intro y hy;simp at hy) (λgp G B=>?_) ck.kind);dsimp only at G B ⊢;generalize hP:s2.heap.push {cls:=.type "list",dict:=ab,data:=.seq ([]:LVa).toArray}=P at G B ⊢;generalize hD:s2.heap.objs.size=D at hP G B ⊢;have hCs:P.objs.size=D+1:=by rw[<- hP,tJ,hD]
 generalize hC:P.objs.size=C at hCs G B ⊢;have hDC':D<C:=by rw[hCs];exact Nat.lt_succ_self _
 have hDC:D≠C:=cy hDC';have below:∀b o,s2.heap.get? b=aa o->b<D:=λb o e=>hD▸bD e
 have old:∀b o,s2.heap.get? b=aa o->gp.get? b=aa o:=λb o e=>by
  have h:=below b o e;exact B.extBut b o (cy (Nat.lt_trans h hDC')) (bV _ (hP▸bV _ e))
 have hDo:gp.get? D=aa (jY [] 0):=B.extBut _ _ hDC (bV _ (by rw[<- hP,<- hD];exact dS _ rfl));have Hn:∀b,D<=b->H2 b=ab:=λb h=>I.hok.fresh (by lia);have fpo:∀b∈fp,b<D:=λb h=>by obtain⟨o,e,_⟩:=T.obj 0 _ st2 b h;exact below b o e
 have clo:∀x c,cl.lookup x=aa c->c<D:=λx c e=>by
  obtain⟨v,o,ho,_⟩:=I.cell x c (a1 x c e);exact below c o ho
 have stko:∀b∈frs X.stack,b<D:=λb h=>by
  obtain⟨_,o,ho,_⟩:=I.stack.mem h;exact below b o ho
 let Y:Cx:=X.comp scope Nc cl C fp s2 H2
 have yk:Y.Ok:=by
  refine⟨I.ok.mod,ck.kind,I.ok.glob,I.ok.blt,?_,?_,?_,?_,I.ok.hd,I.ok.frames,.inl rfl,?_,I.bs,?_,?_,?_,I.stack,I.stkFree⟩
  .show s2.heap.objs.size<=C;lia
  .exact λx y c h1 h2=>I.ok.inj x y c (a1 x c h1) (a1 y c h2)
  .intro x hx
   have:(x,f9)∈scope.names\/(x,mV)∈scope.names:=by
    rcases hx with hx |hx
    .exact xW (.inl rfl) hx
    .exact xW (.inr rfl) hx
   rcases this with z |z
   .exact a2 x z
   .exact absurd rfl (ck.nocell _ z)
  .exact λx c z=>nomatch z
  .intro b h;refine⟨?_,λx c e=>?_⟩
   .exact cy (Nat.lt_trans (fpo b h) hDC')
   .exact(f2 b h).2.2.2.2.1 x c (a1 x c e)
  .exact cV I.ok.bsz I.sz
  .intro b o e h
   rcases(f2 b h).2.2.2.1 with z |z
   .exact I.ok.noex b o e z
   .exact absurd (f8 (bD e) (cV I.ok.bsz z)) (jR _)
  .intro b h z
   rcases b8.mp (I.stkSub b z)with e |e
   .exact(f2 b h).2.1 e
   .exact(f2 b h).2.2.1 e
 have I4:Inv Y [(D,jY [] 0)] (gU k js σ) H2 {s2 with heap:=gp,toks:=s2.toks+([]:List (Str×Value)).length}:=by
  refine⟨yk,rfl,I.bare,Un.kept old,⟨_,G,λi x v e1 U e3=>?_⟩,λx c e=>?_,Hn C (by lia),λx c e=>I.freeC x c (a1 x c e),λp hp=>?_,I.hok.kept old,?_⟩
  .have e1:Nc[i]?=aa x:=e1;unfold gU at U
   have hik:k<=i:=by
    rcases Nat.lt_or_ge i k with z |z
    .rw[mx (by simpa using z),w4]at U;simp[z]at U
    .exact z
   rw[jO (by simpa using hik),eM]at U;simp only[mz]at U
   cases q:js[i-k]? with
   |none=>rw[q]at U;cases U
   |some j=>
    rw[q]at U;obtain⟨x',q1,q2,q3⟩:=ck.at' _ _ q;rw[show k+(i-k)=i by lia,e1]at q1;cases q1;have U:(σ[j]?).getD ab=aa v:=cz U
    have e2':σ[j]?=aa (aa v):=by
     cases z:σ[j]? with
     |none=>rw[z]at U;nomatch U
     |some y=>rw[z]at U;rw[show y=aa v from U]
    have hmem:(x,f9)∈scope.names:=by
     have:∀l:List (Str×gF),l.lookup x=aa .free->(x,f9)∈l:=by
      intro l
      induction l with
      |nil=>intro z;nomatch z
      |cons a l ih=>
       intro z;obtain⟨n,kk⟩:=a;rw[gA]at z
       cases h:x==n with
       |true=>
        rw[h]at z;cases z
        rw[eq_of_beq h];exact bK
       |false=>rw[h]at z;exact cB _ (ih z)
     exact this _ q3
    have hout:X.env.kindOf x=aa .cell\/X.env.kindOf x=aa .free:=ck.free _ hmem rfl;obtain⟨m,hn,hl⟩:=I.loc
    have vis:Vis X.env.scope x:=by
     rcases hout with z |z
     .exact .inr (.inl z)
     .exact .inr (.inr z)
    obtain⟨u,r,l⟩:=hl j x v q2 e2' vis;refine⟨u,r,.inr ⟨xV q3,?_⟩⟩
    rcases l with⟨z,_⟩ |⟨_,c,hcl,hcell⟩
    .rcases hout with y |y <;> (rw[y]at z;nomatch z)
    .obtain⟨c',hc'⟩:=a2 x hmem;have:=a1 x c' hc';rw[hcl]at this;cases this;exact⟨c,hc',hcell.keeps old⟩
  .obtain⟨v,z⟩:=I.cell x c (a1 x c e);exact⟨v,z.keeps old⟩
  .have hp:p∈[(D,jY [] 0)]:=(cC.mp hp).elim (λz=>nomatch (show p∈([]:PNS)from z)) id;have hp:=ca.mp hp;subst hp;refine⟨hDo,Hn D (aU _),hDC,λz=>?_,λv z=>by nomatch z⟩;exact absurd (stko D z) (jR _)
  .show(gU k js σ).length=Nc.length;rw[ck.len];simp[gU]
 have kT:=T.keep 0 _ _ st2 λb _ o e=>old b o e
 have fpY:∀{H':Hp} {p:PNS},(∀q∈p,q.1=D)->(∀b∈fp,H' b=ab)->∀b∈fp,ij Y p H' b:=λ{H' p} hp hn b h=>by
  refine⟨hn b h,(yk.exf b h).1,yk.exfs b h,.inl h,λx c e=>(yk.exf b h).2 x c e,λq hq=>?_⟩;rw[hp q hq];exact lD (fpo b h)
 let xe:Value->aI->Prop:=notedBy (model X.prog X.w) X.A (compEnvC scope cl C X.env) λx s'=>RR (.ref D) C (.error x) s'
 have hp:=hPX D C hD hDC' stko
 have loop:gS (model X.prog X.w) X.A (.compLoop (.ListComp d8 [⟨tg,iter,eH,0⟩] scope pos) 0 (.ref it) (.ref D) (compEnvC scope cl C X.env)) (RR (.ref D) C) {s2 with heap:=gp,toks:=s2.toks+([]:List (Str×Value)).length}:=by
  refine J2 (λn s'=>∃i ys us nn σ' H',Inv Y [(D,jY us nn)] σ' H' s'/\tn i s'.heap/\(∀b∈fp,H' b=ab)/\aX ys us/\W i n ys σ' H') ?_ m0
   ⟨0,[],[],0,gU k js σ,H2,I4,kT,λb h=>(f2 b h).1,.nil,w0⟩
  rintro n s3 ⟨i,ys,us,nn,h8,H3,I3,n9,fr3,rv,w3⟩
  have one:∀q∈[(D,jY us nn)],q.1=D:=λq hq=>by
   have:q=(D,jY us nn):=by simpa using hq
   rw[this]
  rcases turn i n ys h8 H3 w3 with⟨stop,hz,qn⟩ |⟨go,hz,N,hN,step⟩
  .refine thn (T.done Y rfl rfl rfl hc i _ s3 h8 H3 _ I3 (fpY one fr3) n9 stop) λr s4 ⟨hr,I5⟩=>?_;subst hr;obtain⟨pD,nD,_,_,_⟩:=I5.pin (D,jY us nn) (by simp);have bs:=I5.base;have h2D:∀b o,H2 b=aa o->b≠D:=λb o e z=>by rw[z,Hn D (aU _)]at e;nomatch e
   have I6:Inv X pins σ (upd H3 D (.lst ys)) s4:=by
    refine I.call' (ch:=fp) I5.os ⟨bs.keep,bs.slot,λb o e n hx=>?_,bs.there,λb xs e=>?_,λb o u e=>?_,λb ps e=>?_⟩ (λb u e=>?_) I5.bare λb h=>?_
    .rw[bz (cy (below b o e))];exact bs.free b o e n hx
    .rw[bz (h2D b _ e)];exact bs.tups b xs e
    .rw[bz (h2D b _ e)];exact bs.frzs b o u e
    .rw[bz (h2D b _ e)];exact bs.tbls b ps e
    .by_cases h:b=D
     .subst h;rw[bw]at e;cases e;exact⟨hz,us,nn,rv,pD⟩
     .rw[bz h]at e;exact(I5.hok b u e).stay (λc v _ q=>q) (λc q=>by rw[bz (iT q nD)];exact q) λc xs q=>by rw[bz (iT q nD)];exact q
    .obtain⟨_,f1,_,f3,f4,f5⟩:=f2 b h;exact⟨f3,f1,f4,f5⟩
   obtain⟨m,hn,_⟩:=I5.loc;refine hRR D C s4 _ I6 ⟨m,hn⟩ (I.fpOk (by lia) ?_) (qn D (Hn D (aU _)) nD);rw[bz hDC.symm];exact I5.free
  .refine thn (T.item Y rfl rfl rfl hc i _ s3 h8 H3 _ I3 (fpY one fr3) n9 go) λr s4 q_=>?_;obtain⟨u,hr,h4⟩:=q_;subst hr;refine thn h4 λ_ s5 q_=>?_;obtain⟨x,H5,I5,r5,y5,t3,fr5⟩:=q_;have I5':=I5.pinned (fpY one fr5) (T.obj _ _ t3);refine gj (hg cl C fp s2 H2 _ s5 h8 H5 x u _ I5' r5 (step x H5 y5)) (λ_ s6 ⟨σ6,H6,I6,q6⟩=>?_) λ_ _ z=>z.elim;refine gj (ht cl C fp s2 H2 _ s6 σ6 H6 _ I6 q6) (λb s7 ⟨H7,I7,q7⟩=>?_) λ_ _ z=>z.elim
   have kp:∀{H8:Hp} {s8:aI},Inv Y ([(D,jY us nn)]++tR fp s5.heap) σ6 H8 s8->tn (i+1) s8.heap/\(∀b∈fp,H8 b=ab):=λ{H8 s8} I8=>by
    refine⟨T.keep _ _ _ t3 λb h o e=>(I8.pin (b,o) (eE _ (eE _ (tS h e)))).1,λb h=>?_⟩;obtain⟨o,e,d⟩:=T.obj _ _ t3 b h;exact(I8.pin (b,o) (eE _ (eE _ (tS h e)))).2.1
   cases b with
   |false=>
    obtain⟨m',hm,w7⟩:=hN _ _ _ q7;obtain⟨st7,fr7⟩:=kp I7
    exact⟨m',hm,i+1,ys,us,nn,σ6,H7,I7.unpinned,st7,fr7,rv,w7⟩
   |true=>
    refine thn (he cl C fp s2 H2 xe hp _ s7 σ6 H7 _ (CV I7) q7) λuy s8 q_=>?_;obtain⟨y,H8,I8',r8,q8⟩:=q_;have I8:=CW I8';obtain⟨m',hm,w8⟩:=hN _ _ _ q8;obtain⟨st8,fr8⟩:=kp I8;obtain⟨pD,nD,pC,pF,_⟩:=I8.pin (D,jY us nn) (by simp);have hl:=rv.length
    refine wpAny_list_append_plain (items:=us.toArray) ⟨nn,pD⟩ (λh' hl' sb=>?_) (by simp only[size_toArray] <;> lia)
    obtain⟨n',e'⟩:=hl';have I8n:Inv Y [] σ6 H8 s8:=I8.pins_of (λ_ z=>nomatch z);have I9:=I8n.turned (t':=s8.toks) (it:=D) (λb o h e=>(sb.2 b h).trans e) nD pC (.inr (by show s2.heap.objs.size<=D;lia)) (λx c e=>cy (clo x c e)) (λp hp=>nomatch hp);refine⟨m',hm,i+1,ys++[y],us++[uy],n',σ6,H8,I9.pins_of (λp hp=>?_),?_,fr8,rv.append (.cons r8 .nil),w8⟩
    .have hp:p=(D,jY (us++[uy]) n'):=by simpa using hp
     subst hp;refine⟨?_,nD,pC,pF,λv z=>by nomatch z⟩;have U:=e';rw[U];simp
    .exact T.keep _ _ _ st8 λb h o e=>(sb.2 b (cy (fpo b h))).trans e
 exact codeAny_compStart_list loop (T.self X.A 0 _ _ _ kT loop)
def CY{pos:Pos}
 (y:X.calm=ac)(u:oF scope X.env.scope.names X.N Nc k js)
 (B:∀cl C ex d a,PG (X.comp scope Nc cl C ex d a) tg g)(G:∀cl C ex d a,PTs (X.comp scope Nc cl C ex d a) eH tt)(z:∀cl C ex d a,PE (X.comp scope Nc cl C ex d a) d8 te)
 (q:∀x c,cl.lookup x=aa c->X.env.cells.lookup x=aa c)(r:∀x,(x,f9)∈scope.names->∃c,cl.lookup x=aa c)
 (p:Inv X pins σ H2 s2)(T:jW X.prog X.w X.K tg J fp it tn)(o:tn 0 s2.heap)(f2:∀b∈fp,ij X pins H2 b)(v:xX J g tt te (gU k js σ) H2 Q)
 (n:∀(D C:Addr) (s':aI) (H':Hp),Inv X pins σ H' s'->(∃m,s'.heap.Ns C m)->ij X pins H' C->Q (.ref D) H'->RR (.ref D) C (.ok .next) s'):
  wpAny (model X.prog X.w) X.A (newList []) (λi j=>wpAny (model X.prog X.w) X.A (newFunctionEnv scope X.env.globals cl [] X.env.qual ab .none (aa X.env)) (λh l =>
   gS (model X.prog X.w) X.A (.compStart (.ListComp d8 [⟨tg,iter,eH,0⟩] scope pos) 0 (.ref it) i {h with scope:=relabel scope X.env}) (RR i h.locals) l) E j) E s2:=
 J5 (PX:=λ_=>True) y u B G (λcl C ex d a xe _=>PE.to0 (z cl C ex d a)) q r p T o f2 v n λ_ _ _ _ _=>trivial
variable{wi:TI}
def xY{pos:Pos}(k:Nat)(js:LN)(Nc:LSt)(hc:X.calm=ac)(hi:PI X tg iter wi)
 (hg:∀cl C ex c a,PG (X.comp scope Nc cl C ex c a) tg g)(ht:∀cl C ex c a,PTs (X.comp scope Nc cl C ex c a) eH tt)(he:∀cl C ex c a,PE (X.comp scope Nc cl C ex c a) d8 te)
 (d:jv scope X.env.scope.names X.N Nc k js=ac:=by rfl)(hs:∀x,hV iter X.env x=pure x:=by intro _;rfl):
  PE X (.ListComp d8 [⟨tg,iter,eH,0⟩] scope pos) (m8 k js wi g tt te):=by
 intro pins s σ H Q I h;have d:=oF.of d;obtain⟨cl,i,r,u⟩:=CT λx hx e=>I.ok.has x.1 (d.free x hx e);refine wpAny_comprehension_free rfl hs i d.kind d.loc (thn (hi pins s σ H _ I h) λv s1 M=>thn M λitv s2 U=>?_);obtain⟨it,fp,tn,J,H2,e,p,T,l,f2,hW⟩:=U;subst e;refine CY hc d hg ht he r u p T l f2 hW λD C s' H' n ⟨m,hn⟩ L q=>?_;obtain⟨y,f1,_,z,B,G⟩:=L;exact⟨m,hn,λh' j=>⟨.ref D,H',n.turned (λb o hb e=>(j.2 b hb).trans e) y f1 z B G,rfl,q⟩⟩
variable{i:Nat}{x:Str}{b0 eA:Pos}
def uc{pos:Pos}(k:Nat)(js:LN)(Nc:LSt)(hN:X.N.Nodup)(r:X.N[i]?=aa x)(B:Loc X.env.scope x)(hc:X.calm=ac)(hi:PI X tg iter wi)
 (hg:∀cl C ex d c,PG (X.comp scope Nc cl C ex d c) tg g)(ht:∀cl C ex d c,PTs (X.comp scope Nc cl C ex d c) eH tt)(he:∀cl C ex d c,PE (X.comp scope Nc cl C ex d c) d8 te)
 (y:fR (.ListComp d8 [⟨tg,iter,eH,0⟩] scope pos) (aa (.Name x b0)) eA.line X.env=pure ac:=by rfl)
 (j:jv scope X.env.scope.names X.N Nc k js=ac:=by rfl)(hs:∀x,hV iter X.env x=pure x:=by intro _;rfl)
 (hf:LcF X x:=by first |exact .inl rfl |exact .inr rfl |assumption):
  PS X (.Assign [.Name x b0] (.ListComp d8 [⟨tg,iter,eH,0⟩] scope pos) eA) (kK (m8 k js wi g tt te) (iV i)):=by
 intro pins s σ H D I h;have j:=oF.of j;rw[exec_Assign_Name_used _ _ _ _ y];refine av (tu (av ?_));obtain⟨cl,p,a1,a2⟩:=CT λx B e=>I.ok.has x.1 (j.free x B e)
 refine av (gj (wpAny_comprehension_free rfl hs p j.kind j.loc
  (thn (hi pins s σ H _ I h) λv s1 h1=>thn h1 λitv s2 h2=>?_)) (λ_ s' hq=>bc (bc hq)) λ_ _ e=>e)
 obtain⟨it,fp,tn,J,H2,e,I2,T,G,f2,hW⟩:=h2;subst e;refine CY hc j hg ht he a1 a2 I2 T G f2 hW λM C s' H' U ⟨m,hn⟩ fC q=>?_;obtain⟨f0,f1,f2',f3,L,f5⟩:=fC;refine wpAny_assign_Name (B1 (v:=.ref M) U hN r B rfl (λs'' l ⟨a,sb,ha⟩=>?_) hf)
 have n:C≠a:=by
  rcases ha with z |z
  .rw[z];exact f1
  .exact(L x a z).symm
 exact⟨m,hn.sameBut sb n,λh' u=>⟨_,H',l.turned (λb o hb e=>(u.2 b hb).trans e) f0 f1 f3 L f5,q⟩⟩
def CZ:OpR X (cW .Is) (λx y H Q=>∃b,y=.bl b/\(x=.non\/∃c,x=.bl c)/\Q (.bl (decide (x=.bl b))) H):=by
 intro pins s σ H x y v u Q I a j h;obtain⟨b,rfl,d,q⟩:=h;subst j
 rcases d with rfl |⟨c,rfl⟩
 .subst a
  exact wpAny_is_plain rfl (cF I q (by cases b <;> rfl))
 .subst a
  exact wpAny_is_plain rfl (cF I q (by cases b <;> cases c <;> rfl))
def C0:OpR X (cW .IsNot) (λx y H Q=>∃b,y=.bl b/\(x=.non\/∃c,x=.bl c)/\Q (.bl (!decide (x=.bl b))) H):=by
 intro pins s σ H x y v u Q I a j h;obtain⟨b,rfl,d,q⟩:=h;subst j
 rcases d with rfl |⟨c,rfl⟩
 .subst a
  exact wpAny_isNot_plain rfl (cF I q (by cases b <;> rfl))
 .subst a
  exact wpAny_isNot_plain rfl (cF I q (by cases b <;> cases c <;> rfl))
def J6:ga X (.builtin "isinstance") (λxs H Q=>∃x T t b,xs=[x,.ty T]/\gT X.K H x t/\W.kitOne X.K t (.type T)=aa b/\Q (.bl b) H):=by
 intro pins s σ H xs us Q I r h;obtain⟨x,T,t,b,rfl,ty,e,q⟩:=h;obtain⟨u,j,rfl,c,a⟩:=qj r;cases (a);exact Je I c ty e λd=>⟨.bl b,H,I.tok d,rfl,q⟩
variable{xs:List V}
def aX.at'{us:LVa}{u:Value}(r:aX xs us)(e:us[i]?=aa u):∃x,xs[i]?=aa x/\aR x u:=by
 have c:=r.length;have hi:i<xs.length:=by have:=(eD.mp e).1;lia
 refine⟨xs[i],by simp[hi],?_⟩;obtain⟨d,a,b⟩:=r.get (i:=i) (x:=xs[i]) (by simp[hi]);rw[e]at a;cases a;exact b
def oG{env:Env}{b:gF}(c:b≠.free):∀{names:List (Str×gF)} {x:Str},names.lookup x=aa b ->
  (names.map λ(n,k)=>if (k==f9 && env.scope.kind==.function && env.kindOf n==aa .cell) then (n,mV) else (n,k)).lookup x=aa b
 | [],_,h=>by simp at h
 |(n,k)::r,x,h=>by
  have d:=@oG env b c r x;show List.lookup x ((if _=ac then _ else _)::_)=_;rw[gA]at h
  cases a:x==n with
  |true=>
   rw[a]at h;have e:=cz h;subst e;have j:(k==f9)=ag:=by simpa using c
   rw[j,Bool.false_and,Bool.false_and,if_neg bZ,gA,a]
  |false=>
   rw[a]at h;split
   .rw[gA,a];exact d h
   .rw[gA,a];exact d h
def J7(h:Vis scope x):Vis (relabel scope env) x:=by
 rcases h with h |h |h
 .exact .inl (oG (by decide) h)
 .exact .inr (.inl (oG (by decide) h))
 .rcases xV h with z |z
  .exact .inr (.inl z)
  .exact .inr (.inr z)
variable{C:Addr}{ex:LAd}{a0:aI}{bq:Hp}
def pvc(i:Nat){pos:Pos}(b:Nc[i]?=aa x:=by rfl)(c:Vis scope x:=by first |exact bU rfl |exact br (bU rfl) |exact br (br rfl))(hd:NDb x:=by decide)
 (a:NCd x:=by decide):PE (X.comp scope Nc cl C ex a0 bq) (.Name x pos) (eV i):=jV b (J7 c) hd a
def pgc(i:Nat){pos:Pos}(b:Nc.Nodup:=by decide +kernel)(hi:Nc[i]?=aa x:=by rfl)(a:scope.names.lookup x=aa .local:=by rfl):PG (X.comp scope Nc cl C ex a0 bq) (.Name x pos) (iV i):=
 qd b hi (.inl (oG (by decide) a)) (.inr (oG (by decide) a))
def glc(h:scope.names.lookup x=aa .globalImplicit):Gl (X.comp scope Nc cl C ex a0 bq) x:=oG (by decide) h
variable{p:Addr}{o:HO}
def cu(h:H p=ab):aH H (upd H p o):=λb u e=>by rw[bz (iT e h)];exact e
variable{K:bm}{H':Hp}
def aH.tup{a:Addr}(e:aH H H')(h:SqT K H a xs):SqT K H' a xs:=by
 rcases h with(h |⟨o,h⟩) |h
 .exact .inl (.inl (e _ _ h))
 .exact .inl (.inr ⟨o,e _ _ h⟩)
 .exact .inr h
abbrev oH(p:Addr)(H H':Hp):Prop:=∀b o,H b=aa o->b≠p->H' b=aa o
def oH.refl(p:Addr)(H:Hp):oH p H H:=λ_ _ h _=>h
variable{H1:Hp}
def oH.trans(a:oH p H H1)(b:oH p H1 H2):oH p H H2:=λc o h n=>b c o (a c o h n) n
abbrev C1(p:Option Bool->Bool)(es:List (Option Bool))(its:List (Int×Int)):Int:=((its.filter λz=>p (es.getD z.1.toNat ab)).map (·.2)).sum
inductive Prt where
 |inn (t:Int) |out (t:Int) |least (k:Int) (its:List (Int×Int)) |most (k:Int) (its:List (Int×Int))
abbrev bs(l:List Bool):List (Option Bool):=l.map aa
abbrev Prt.holds(rs ws:List Bool):Prt->Bool
 |.inn t=>(rs.getD t.toNat ag)
 |.out t=>!(ws.getD t.toNat ag)
 |.least k its=>decide (k<=C1 (·==aa ac) (bs rs) its)
 |.most k its=>decide (C1 (·==aa ac) (bs ws) its<=k)
variable{h':Heap}
def Inv.turnedMany{t':Nat}{ch:LAd}(I:Inv X pins σ H s)(k:∀b o,b∉ch->s.heap.get? b=aa o->h'.get? b=aa o)(d:∀b∈ch,ij X pins H b):Inv X pins σ H {s with heap:=h',toks:=t'}:=by
 refine I.step (λb G=>?_) (λb o _ _ a e _=>k b o a e) (λb o _ _ a e _=>⟨o.slots,k b o a e⟩) (λ_ _ _ _ n=>n)
  (λb o a e=>⟨o,k b o a e⟩) (λ_ _ e=>e) (λ_ _ _ e=>e) (λb ps e=>⟨#[],by rw[e];simp⟩) (λm hm=>?_) (λb u e=>?_) I.bare
 .obtain⟨_,f1,_,j,l,B⟩:=d b G;exact⟨j,f1,l,B⟩
 .obtain⟨o,es,h,L,r⟩:=hm;exact⟨o,es,h,k _ o (λz=>(d _ z).2.1 rfl) L,r⟩
 .refine(I.hok b u e).stay (λc v a q=>k c v (λz=>?_) q) (λ_ q=>q) λ_ _ q=>q;have hn:=(d c z).1
  rcases a with y |y
  .rw[y,e]at hn;nomatch hn
  .rw[hn]at y;nomatch y
def Inv.track(I:Inv X pins σ H s)(f:ij X pins H p)(y:fM X.prog X.w (upd H p o) s.heap p o):Inv X pins σ (upd H p o) s:=by
 obtain⟨h,f1,f2,j,l,r⟩:=f;have ne:∀b u,H b=aa u->b≠p:=λb u e=>iT e h;have one:∀b:Addr,b∉[p]->b≠p:=λb a z=>a (by rw[z];simp)
 refine I.step (ch:=[p]) (λb a=>?_) (λb o _ _ d e _=>e) (λb o _ _ d e _=>⟨o.slots,e⟩) (λb o d e n=>?_)
  (λb o d e=>⟨o,e⟩) (λb xs e=>?_) (λb o u e=>?_) (λb ps e=>⟨#[],?_⟩) (λm hm=>hm) (λb u e=>?_) I.bare
 .have e:b=p:=by simpa using a
  subst e;exact⟨j,f1,l,r⟩
 .rw[bz (one b d)];exact n
 .rw[bz (ne b _ e)];exact e
 .rw[bz (ne b _ e)];exact e
 .rw[bz (ne b _ e),e];simp
 .by_cases a:b=p
  .subst a;rw[bw]at e;cases e;exact y
  .rw[bz a]at e;exact(I.hok b u e).stay (λc v _ q=>q) (λc q=>by rw[bz (ne c _ q)];exact q) λc xs q=>by rw[bz (ne c _ q)];exact q
abbrev Itz(K:bm)(b c:Addr):It:=
  ⟨λi H=> ∃xs a x y, SqL K H b xs/\SqL K H c a/\xs[i]? = aa x/\a[i]? = aa y,
   λi H v H'=> ∃p x y, v = .ref p/\H p = ab/\H' = upd H p (.tup [x, y])/\(∀xs, SqL K H b xs->xs[i]? = aa x)/\(∀a, SqL K H c a->a[i]? = aa y),
   λi H=> ∃xs a, SqL K H b xs/\SqL K H c a/\(xs.length<=i\/a.length<=i)⟩
variable{P:dn}{eN:LEx}{kx:Nat}
def J8{pos:Pos}(z TI TO i1 i2 l1 l2:Addr)(D:ZipApart z TI TO i1 i2 l1 l2):
  jW P w K (.Tuple eN kx pos) (Itz K l1 l2) [z,TI,TO,i1,i2] z (λi h=>IsZip h z TI TO .none/\jq h TI (.ref i1) (.ref i2)/\(∃a b,jq h TO a b)/\h.IsListIter i1 l1 i/\h.IsListIter i2 l2 i) where
 mem:=by simp
 obj:=λi h st b hb=>by
  obtain⟨hz,kF,⟨a,c,hB⟩,⟨o1,e1,_,d1⟩,⟨o2,e2,_,d2⟩⟩:=st;simp only[b8,b6,or_false]at hb
  rcases hb with rfl |rfl |rfl |rfl |rfl
  .exact⟨_,hz,λv q=>by nomatch q⟩
  .exact⟨_,kF,λv q=>by nomatch q⟩
  .exact⟨_,hB,λv q=>by nomatch q⟩
  .exact⟨o1,e1,λv q=>by rw[d1]at q;nomatch q⟩
  .exact⟨o2,e2,λv q=>by rw[d2]at q;nomatch q⟩
 keep:=λi h h' st k=>by
  obtain⟨hz,kF,⟨a,c,hB⟩,h1,h2⟩:=st;exact⟨k z (by simp) _ hz,k TI (by simp) _ kF,⟨a,c,k TO (by simp) _ hB⟩,h1.at λo e=>k i1 (by simp) o e,h2.at λo e=>k i2 (by simp) o e⟩
 item:=by
  intro X hP hw hK hc i pins s σ H E I hf st hg;subst hP hw hK;obtain⟨hz,kF,⟨a,c,hB⟩,h1,h2⟩:=st;obtain⟨xs,ys,x,y,q1,q2,hx,hy⟩:=hg;obtain⟨sg,r1,p1,z1⟩:=I.list q1;obtain⟨its2,r2,p2,z2⟩:=I.list q2;obtain⟨u1,e1,ru1⟩:=r1.get hx;obtain⟨u2,e2,ru2⟩:=r2.get hy;refine wpAny_pyNext_zip_item D hz kF hB h1 h2 p1.isList p2.isList (by simpa using e1) (by simpa using e2) λh' a1 a2 a3 a4 a5 a6 a7=>⟨_,rfl,?_⟩;refine wpAny_letOwnedTupleGo_zip a1 λh'' b1 b2=>?_
  have lt:∀b∈[z,TI,TO,i1,i2],b<s.heap.objs.size:=λb hb=>by
   simp only[b8,b6,or_false]at hb
   rcases hb with rfl |rfl |rfl |rfl |rfl
   .exact bD hz
   .exact bD kF
   .exact bD hB
   .obtain⟨o,e,_⟩:=h1;exact bD e
   .obtain⟨o,e,_⟩:=h2;exact bD e
  have kk:∀b o,b∉[z,TI,TO,i1,i2]->s.heap.get? b=aa o->h''.get? b=aa o:=λb o hb e=>by
   simp only[b8,b6,or_false,not_or]at hb;obtain⟨n1,n2,n3,n4,n5⟩:=hb;exact(b2.2 b n1).trans (a7 b o n1 n3 n4 n5 e)
  have fr:=I.hok.fresh (aU _)
  have I2:Inv X pins σ (upd H s.heap.objs.size (.tup _)) {s with heap:=h''}:=
   (I.turnedMany kk hf).track (I.fpOk (aU _) fr) ⟨(by show 2<=aW;decide),_,.cons ru1 (.cons ru2 .nil),⟨_,((b2.2 _ (lD (lt z (by simp)))).trans a5),rfl,_,rfl⟩⟩
  refine⟨.ref s.heap.objs.size,_,I2,rfl,⟨_,x,y,rfl,fr,rfl,λdf h=>by rw[I.list_inj h q1];exact hx,λou h=>by rw[I.list_inj h q2];exact hy⟩,⟨b1,((b2.2 TI D.TIz).trans (a7 TI _ D.TIz D.TITO D.TIi1 D.TIi2 kF)),⟨u1,u2,((b2.2 TO D.TOz).trans a2)⟩,(a3.at λo e=>(b2.2 i1 D.i1z).trans e),(a4.at λo e=>(b2.2 i2 D.i2z).trans e)⟩,λb hb=>?_⟩;rw[bz (cy (lt b hb))];exact(hf b hb).1
 done:=by
  intro X hP hw hK hc i pins s σ H E I hf st hg;subst hP hw hK;obtain⟨hz,kF,⟨a,c,hB⟩,h1,h2⟩:=st;obtain⟨xs,ys,q1,q2,hend⟩:=hg;obtain⟨sg,r1,p1,z1⟩:=I.list q1;obtain⟨its2,r2,p2,z2⟩:=I.list q2;have l1':=r1.length;have l2':=r2.length;refine wpAny_pyNext_zip_end (I.ok.hd hc) D hz kF hB h1 h2 p1.isList p2.isList ?_ λh' kk=>⟨rfl,I.turnedMany (λb o hb e=>?_) hf⟩
  .rcases hend with q |q
   .exact .inl (by simp;lia)
   .exact .inr (by simp;lia)
  .simp only[b8,b6,or_false,not_or]at hb;obtain⟨n1,n2,n3,n4,n5⟩:=hb;exact kk b o n1 n3 n4 n5 e
 self:=λ_ _ _ _ _ st h=>wpAny_pyIter_zip st.1 h
abbrev J9(K:bm)(c:TA):TI:=λσ H R=>c σ H λvs H1=>∃a b,vs=[.ref a,.ref b]/\(∃xs,SqL K H1 a xs)/\(∃d,SqL K H1 b d)/\R (Itz K a b) H1
variable{tpos:Pos}{b:Expr}{ta:TA}
def Ka{a:Expr}{p pos:Pos}(hg:Gl X "zip")(hm:X.mg "zip"=ab)(ha:PA X [a,b] ta)(hs:aY [a,b] X.env=[(ag,eval a X.env),(ag,eval b X.env)]:=by rfl)(j:aY [b] X.env=[(ag,eval b X.env)]:=by rfl):
  PI X (.Tuple eN kx tpos) (.Call (.Name "zip" p) [a,b] [] pos) (J9 X.K ta):=by
 intro pins s σ H R I h;refine Call_ (iU I hg hm boot_zip (kE (thn (ha pos pins s σ H _ I h) λus s1 ⟨vs,H1,c,B,q1⟩=>?_) (by rw[hs,j]) (by rw[j];rfl)));obtain⟨l1,l2,e,⟨xs,h1⟩,⟨ys,h2⟩,q⟩:=q1;subst e;obtain⟨u,v,rfl,ru,rv⟩:=qj B;subst ru;subst rv;obtain⟨n,B,y,z1⟩:=c.list h1;obtain⟨r,r2,z,z2⟩:=c.list h2;refine call_zip_2 y.isList z.isList λh' l G L M T a6 U=>?_;refine wpAny_pyIter_zip l ?_;refine⟨_,_,_,_,H1,rfl,(c.kept U),J8 _ _ _ _ _ _ _ (zipApart_new y.lt z.lt),⟨l,G,⟨_,_,L⟩,M,T⟩,λb m=>?_,q⟩;simp only[b8,b6,or_false]at m
 have d:s1.heap.objs.size<=b:=by
  rcases m with rfl |rfl |rfl |rfl |rfl
  .exact mJ _ _
  .exact mJ _ _
  .exact mJ _ _
  .exact aU _
  .exact mJ _ _
 exact c.fpOk d (c.hok.fresh d)
inductive D where
 |non
 |bl (b:Bool)
 |int (i:Int)
 |str (x:Str)
 |lst (xs:List D)
 |tup (xs:List D)
 |kl (xs:List D)
 |kt (xs:List D)
 |dic (ks:List Key) (xs:List D)
 |ins (c:Str) (ns:LSt) (xs:List D)
 |kd (ks:List Key) (xs:List D)
 |dT (ks:List (List Key)) (xs:List D)
 deriving Inhabited
nonrec abbrev OD:=Option D
nonrec abbrev LD:=List D
nonrec abbrev OLD:=Option LD
set_option genInjectivity false in
structure Gc where
 K:bm
 cl:Str->Addr
mutual
def Rep(G:Gc)(H:Hp):D->V->Prop
 |.non,v=>v=.non
 |.bl b,v=>v=.bl b
 |.int i,v=>v=.int i
 |.str x,v=>v=.str x
 |.lst ds,v=>∃a vs,v=.ref a/\H a=aa (.lst vs)/\aB G H ds vs
 |.tup ds,v=>∃a vs,v=.ref a/\H a=aa (.tup vs)/\aB G H ds vs
 |.kl ds,v=>∃a vs,v=.ref a/\SqL G.K H a vs/\aB G H ds vs
 |.kt ds,v=>∃a vs,v=.ref a/\SqT G.K H a vs/\aB G H ds vs
 |.dic ks ds,v=>∃a vs,v=.ref a/\H a=aa (.dK (ks.zip vs))/\ks.length=vs.length/\aB G H ds vs
 |.ins c ns ds,v=>∃a dx vs,v=.ref a/\H a=aa (.ins (G.cl c) dx (ns.zip vs))/\ns.length=vs.length/\aB G H ds vs
 |.kd ks ds,v=>∃a od vs,v=.ref a/\H a=aa (.frz od (.dK (ks.zip vs)))/\ks.length=vs.length/\aB G H ds vs
 |.dT ks ds,v=>∃a vs,v=.ref a/\H a=aa (.dT (ks.zip vs))/\ks.length=vs.length/\aB G H ds vs
def aB(G:Gc)(H:Hp):LD->List V->Prop
 | [],vs=>vs=[]
 |d::ds,vs=>∃v r,vs=v::r/\Rep G H d v/\aB G H ds r
end
mutual
theorem Rep.upM(s:aH H H'):∀(d:D) (v:V),Rep G H d v->Rep G H' d v
 |.non,_,h=>h
 |.bl _,_,h=>h
 |.int _,_,h=>h
 |.str _,_,h=>h
 |.lst ds,_,h_=>by obtain⟨a,vs,e,q,r⟩:=h_;exact⟨a,vs,e,s _ _ q,aB.upM s ds vs r⟩
 |.tup ds,_,h_=>by obtain⟨a,vs,e,q,r⟩:=h_;exact⟨a,vs,e,s _ _ q,aB.upM s ds vs r⟩
 |.kl ds,_,h_=>by obtain⟨a,vs,e,q,r⟩:=h_;exact⟨a,vs,e,s.seq q,aB.upM s ds vs r⟩
 |.kt ds,_,h_=>by obtain⟨a,vs,e,q,r⟩:=h_;exact⟨a,vs,e,s.tup q,aB.upM s ds vs r⟩
 |.dic _ ds,_,h_=>by obtain⟨a,vs,e,q,l,r⟩:=h_;exact⟨a,vs,e,s _ _ q,l,aB.upM s ds vs r⟩
 |.ins _ _ ds,_,h_=>by obtain⟨a,dx,vs,e,q,l,r⟩:=h_;exact⟨a,dx,vs,e,s _ _ q,l,aB.upM s ds vs r⟩
 |.kd _ ds,_,h_=>by obtain⟨a,od,vs,e,q,l,r⟩:=h_;exact⟨a,od,vs,e,s _ _ q,l,aB.upM s ds vs r⟩
 |.dT _ ds,_,h_=>by obtain⟨a,vs,e,q,l,r⟩:=h_;exact⟨a,vs,e,s _ _ q,l,aB.upM s ds vs r⟩
theorem aB.upM(s:aH H H'):∀(ds:LD) (vs:List V),aB G H ds vs->aB G H' ds vs
 | [],_,h=>h
 |d::ds,_,h_=>by obtain⟨v,r,e,a,c⟩:=h_;exact⟨v,r,e,Rep.upM s d v a,aB.upM s ds r c⟩
end
variable{G:Gc}{d:D}{v:V}
def Rep.up(r:Rep G H d v)(s:aH H H'):Rep G H' d v:=Rep.upM s d v r
variable{ds:LD}{vs:List V}
def aB.up(r:aB G H ds vs)(s:aH H H'):aB G H' ds vs:=aB.upM s ds vs r
def aB.nil:aB G H [] []:=rfl
def aB.cons(h:Rep G H d v)(t:aB G H ds vs):aB G H (d::ds) (v::vs):=⟨v,vs,rfl,h,t⟩
def aB.length:∀{ds:LD} {vs:List V},aB G H ds vs->ds.length=vs.length
 | [],_,h=>by cases (h);rfl
 |d::ds,_,⟨v,r,e,_,h⟩=>by subst e;simp[aB.length h]
def aB.append:∀{ds es:LD} {vs us:List V},aB G H ds vs->aB G H es us->aB G H (ds++es) (vs++us)
 | [],_,_,_,h,t=>by cases (h);exact t
 |d::ds,_,_,_,⟨v,r,e,h1,h2⟩,t=>by subst e;exact⟨v,r++_,rfl,h1,aB.append h2 t⟩
def aB.get:∀{ds:LD} {vs:List V} {i:Nat} {d:D},aB G H ds vs->ds[i]?=aa d->∃v,vs[i]?=aa v/\Rep G H d v
 | [],_,_,_,_,e=>by simp at e
 |d::ds,_,0,_,⟨v,r,e,h1,_⟩,e'=>by subst e;simp at e';subst e';exact⟨v,rfl,h1⟩
 |d::ds,_,i+1,d',q4_,e'=>by
  obtain⟨v,r,e,_,c⟩:=q4_;subst e;obtain⟨u,a,b⟩:=aB.get c (by simpa using e');exact⟨u,by simpa using a,b⟩
def aB.get':∀{ds:LD} {vs:List V} {i:Nat} {v:V},aB G H ds vs->vs[i]?=aa v->∃d,ds[i]?=aa d/\Rep G H d v:=λ{ds vs i v} h e=>by
 have c:=h.length;have hi:i<ds.length:=by have:=(eD.mp e).1;lia
 obtain⟨u,a,b⟩:=h.get (i:=i) (d:=ds[i]) (by simp[hi]);rw[e]at a;cases a;exact⟨ds[i],by simp[hi],b⟩
def aB.ints:∀(ns:List Int),aB G H (ns.map D.int) (ns.map V.int)
 | []=>rfl
 |n::ns=>⟨_,_,rfl,rfl,aB.ints ns⟩
def aB.take:∀{ds:LD} {vs:List V} (n:Nat),aB G H ds vs->aB G H (ds.take n) (vs.take n)
 | _,_,0,_=>rfl
 | [],_,n+1,h=>by cases (h);rfl
 |d::ds,_,n+1,⟨v,r,e,h1,h2⟩=>by subst e;exact⟨v,r.take n,rfl,h1,aB.take n h2⟩
def aB.drop:∀{ds:LD} {vs:List V} (n:Nat),aB G H ds vs->aB G H (ds.drop n) (vs.drop n)
 | _,_,0,h=>h
 | [],_,n+1,h=>by cases (h);rfl
 |d::ds,_,n+1,⟨v,r,e,h1,h2⟩=>by subst e;exact aB.drop n h2
def aB.reverse:∀{ds:LD} {vs:List V},aB G H ds vs->aB G H ds.reverse vs.reverse
 | [],_,h=>by cases (h);rfl
 |d::ds,_,q2_=>by
  obtain⟨v,r,e,a,c⟩:=q2_;subst e;rw[gQ,gQ];exact(aB.reverse c).append (.cons a .nil)
def aB.set:∀{ds:LD} {vs:List V} (i:Nat) {d:D} {v:V},aB G H ds vs->Rep G H d v->aB G H (ds.set i d) (vs.set i v)
 | [],_,_,_,_,h,_=>by cases (h);exact .nil
 |e::ds,_,0,_,_,⟨v,r,e',_,h2⟩,q=>by subst e';exact⟨_,r,rfl,q,h2⟩
 |e::ds,_,i+1,_,_,⟨v,r,e',h1,h2⟩,q=>by subst e';exact⟨v,r.set i _,rfl,h1,aB.set i h2 q⟩
abbrev gV:HO->Bool
 |.tup _=>ac
 | _=>ag
structure Ext(Hf H Hf' H':Hp):Prop where
 f:aH Hf Hf'
 h:aH H H'
 s:aH Hf' H'
 n:∀l o,H l=aa o->gV o=ag->Hf' l=Hf l
variable{Hf:Hp}
def Ext.refl(s:aH Hf H):Ext Hf H Hf H:=⟨aH.refl _,aH.refl _,s,λ_ _ _ _=>rfl⟩
variable{al a9:Hp}
def Ext.trans(a:Ext Hf H al H1)(b:Ext al H1 a9 H2):Ext Hf H a9 H2:=⟨a.f.trans b.f,a.h.trans b.h,b.s,λl o e t=>(b.n l o (a.h l o e) t).trans (a.n l o e t)⟩
def Ext.new(s:aH Hf H)(h:H p=ab):Ext Hf H (upd Hf p o) (upd H p o):=
 ⟨cu (s.free h),cu h,λb u e=>by
  by_cases a:b=p
  .subst a;rw[bw]at e ⊢;exact e
  .rw[bz a]at e ⊢;exact s b u e,λl u e _=>by rw[bz (iT e h)]⟩
def Ext.tmp(s:aH Hf H)(h:H p=ab):Ext Hf H Hf (upd H p o):=⟨aH.refl _,cu h,s.trans (cu h),λ_ _ _ _=>rfl⟩
def Ext.grow(s:aH Hf H)(g:aH H H1):Ext Hf H Hf H1:=⟨aH.refl _,g,s.trans g,λ_ _ _ _=>rfl⟩
def Ext.fix(a:Ext Hf H al H1)(hn:H p=ab)(j:al p=ab)(m:H1 p=aa o):Ext Hf H (upd al p o) H1:=
 ⟨a.f.trans (cu j),a.h,λb u e=>by
  by_cases c:b=p
  .subst c;rw[bw]at e;rw[m];exact e
  .rw[bz c]at e;exact a.s b u e,λl u e t=>by rw[bz (iT e hn)];exact a.n l u e t⟩
inductive O where
 |fz (d:D)
 |lst (xs:List O)
 |tup (xs:List O)
 |dic (ks:List Key) (xs:List O)
 |ins (c:Str) (ns:LSt) (xs:List O)
 |jnk (n:Nat)
 |dT (ks:List (List Key)) (xs:List O)
 |at (l:Addr) (o:O)
 |any
 deriving Inhabited
mutual
def OT(G:Gc)(Hf H:Hp):O->V->LAd->Prop
 |.fz d,v,fp=>Rep G Hf d v/\fp=[]
 |.lst os,v,fp=>∃a vs fs,v=.ref a/\H a=aa (.lst vs)/\OTs G Hf H os vs fs/\fp=a::fs
 |.tup os,v,fp=>∃a vs,v=.ref a/\H a=aa (.tup vs)/\OTs G Hf H os vs fp
 |.dic ks os,v,fp=>∃a vs fs,v=.ref a/\H a=aa (.dK (ks.zip vs))/\ks.length=vs.length/\OTs G Hf H os vs fs/\fp=a::fs
 |.ins c ns os,v,fp=>∃a dx vs fs,v=.ref a/\H a=aa (.ins (G.cl c) dx (ns.zip vs))/\ns.length=vs.length/\OTs G Hf H os vs fs/\fp=a::fs
 |.jnk n,v,fp=>∃a vs,v=.ref a/\H a=aa (.lst vs)/\vs.length<=n/\fp=[a]
 |.dT ks os,v,fp=>∃a vs fs,v=.ref a/\H a=aa (.dT (ks.zip vs))/\ks.length=vs.length/\OTs G Hf H os vs fs/\fp=a::fs
 |.at l o,v,fp=>v=.ref l/\OT G Hf H o v fp
 |.any,_,fp=>fp=[]
def OTs(G:Gc)(Hf H:Hp):List O->List V->LAd->Prop
 | [],vs,fp=>vs=[]/\fp=[]
 |o::os,vs,fp=>∃v r f1 f2,vs=v::r/\OT G Hf H o v f1/\OTs G Hf H os r f2/\fp=f1++f2
end
mutual
noncomputable def O.toD:O->D
 |.fz d=>d
 |.lst os=>.lst (O.toDs os)
 |.tup os=>.tup (O.toDs os)
 |.dic ks os=>.dic ks (O.toDs os)
 |.ins c ns os=>.ins c ns (O.toDs os)
 |.at _ o=>o.toD
 |.jnk _=>.non
 |.dT ks os=>.dT ks (O.toDs os)
 |.any=>.non
noncomputable def O.toDs:List O->LD
 | []=>[]
 |o::os=>o.toD::O.toDs os
end
mutual
noncomputable def O.kn:O->Bool
 |.fz _=>ac
 |.lst os=>O.kns os
 |.tup os=>O.kns os
 |.dic _ os=>O.kns os
 |.ins _ _ os=>O.kns os
 |.at _ o=>o.kn
 |.jnk _=>ag
 |.dT _ os=>O.kns os
 |.any=>ag
noncomputable def O.kns:List O->Bool
 | []=>ac
 |o::os=>o.kn && O.kns os
end
mutual
theorem OT.frameM(f:aH Hf Hf'):∀(o:O) (v:V) (fp:LAd),OT G Hf H o v fp->(∀b u,H b=aa u->(gV u=ac\/b∈fp)->H' b=aa u)->OT G Hf' H' o v fp
 |.fz d,_,_,h,_=>⟨h.1.up f,h.2⟩
 |.lst os,_,fp,h_,k=>by obtain⟨a,vs,fs,e,q,r,j⟩:=h_;exact⟨a,vs,fs,e,k _ _ q (.inr (by rw[j];exact bK)),OTs.frameM f os vs fs r (λb u l hm=>k b u l (hm.imp_right λz=>by rw[j];exact cB _ z)),j⟩
 |.tup os,_,fp,h_,k=>by obtain⟨a,vs,e,q,r⟩:=h_;exact⟨a,vs,e,k _ _ q (.inl rfl),OTs.frameM f os vs fp r k⟩
 |.dic ks os,_,fp,h_,k=>by obtain⟨a,vs,fs,e,q,z,r,j⟩:=h_;exact⟨a,vs,fs,e,k _ _ q (.inr (by rw[j];exact bK)),z,OTs.frameM f os vs fs r (λb u l hm=>k b u l (hm.imp_right λz=>by rw[j];exact cB _ z)),j⟩
 |.ins c ns os,_,fp,h_,k=>by obtain⟨a,dx,vs,fs,e,q,z,r,j⟩:=h_;exact⟨a,dx,vs,fs,e,k _ _ q (.inr (by rw[j];exact bK)),z,OTs.frameM f os vs fs r (λb u l hm=>k b u l (hm.imp_right λz=>by rw[j];exact cB _ z)),j⟩
 |.jnk n,_,fp,h_,k=>by obtain⟨a,vs,e,q,z,j⟩:=h_;exact⟨a,vs,e,k _ _ q (.inr (by rw[j];exact bK)),z,j⟩
 |.dT ks os,_,fp,h_,k=>by obtain⟨a,vs,fs,e,q,z,r,j⟩:=h_;exact⟨a,vs,fs,e,k _ _ q (.inr (by rw[j];exact bK)),z,OTs.frameM f os vs fs r (λb u l hm=>k b u l (hm.imp_right λz=>by rw[j];exact cB _ z)),j⟩
 |.at _ o,v,fp,h_,k=>by obtain⟨e,r⟩:=h_;exact⟨e,OT.frameM f o v fp r k⟩
 |.any,_,_,h,_=>h
theorem OTs.frameM(f:aH Hf Hf'):∀(os:List O) (vs:List V) (fp:LAd),OTs G Hf H os vs fp->(∀b u,H b=aa u->(gV u=ac\/b∈fp)->H' b=aa u)->OTs G Hf' H' os vs fp
 | [],_,_,h,_=>h
 |o::os,_,fp,h_,k=>by obtain⟨v,r,f1,f2,e,j,l,a⟩:=h_;exact⟨v,r,f1,f2,e,OT.frameM f o v f1 j (λb u c hm=>k b u c (hm.imp_right λz=>by rw[a];exact f6 _ z)),OTs.frameM f os r f2 l (λb u c hm=>k b u c (hm.imp_right λz=>by rw[a];exact eE _ z)),a⟩
end
variable{Hf':Hp}{o:O}
def OT.frame(h:OT G Hf H o v fp)(f:aH Hf Hf')(k:∀b u,H b=aa u->(gV u=ac\/b∈fp)->H' b=aa u):OT G Hf' H' o v fp:=OT.frameM f o v fp h k
def OT.up(h:OT G Hf H o v fp)(f:aH Hf Hf')(s:aH H H'):OT G Hf' H' o v fp:=h.frame f λb u e _=>s b u e
def ud{a c:Type}:∀{ks:List a} {vs us:List c},ks.length=vs.length->ks.length=us.length->ks.zip vs=ks.zip us->vs=us
 | [],[],[],_,_,_=>rfl
 |k::ks,v::vs,u::us,h1,h2,e=>by
  injection e with e1 e2
  injection e1 with _ e3
  rw[e3,ud (by simpa using h1) (by simpa using h2) e2]
 | [],_::_,_,h,_,_=>by cases h
 | [],[],_::_,_,h,_=>by cases h
 | _::_,[],_,h,_,_=>by cases h
 | _::_,_::_,[],_,h,_=>by cases h
mutual
theorem OT.funM:∀(o:O) (v:V) (f L:LAd),OT G Hf H o v f->OT G Hf' H o v L->f=L
 |.fz d,_,_,_,h,h'=>h.2.trans h'.2.symm
 |.lst os,_,_,_,q4_,q5_=>by
  obtain⟨a,vs,fs,e,q,r,B⟩:=q4_;obtain⟨T,y,l,u,m,I,j⟩:=q5_;subst e B j;cases u;rw[q]at m;cases m
  rw[OTs.funM os vs fs l r I]
 |.tup os,_,f,L,q4_,q5_=>by
  obtain⟨a,vs,e,q,r⟩:=q4_;obtain⟨T,y,u,m,I⟩:=q5_;subst e;cases u;rw[q]at m;cases m
  exact OTs.funM os vs f L r I
 |.dic ks os,_,_,_,q4_,q5_=>by
  obtain⟨a,vs,fs,e,q,z,r,B⟩:=q4_;obtain⟨T,y,l,u,m,M,I,j⟩:=q5_;subst e B j;cases u;rw[q]at m;have:=ud z M (HO.dK.inj (cz m));subst this
  rw[OTs.funM os vs fs l r I]
 |.ins c ns os,_,_,_,q4_,q5_=>by
  obtain⟨a,dx,vs,fs,e,q,z,r,B⟩:=q4_;obtain⟨T,U,y,l,u,m,M,I,j⟩:=q5_;subst e B j;cases u;rw[q]at m;have:=ud z M (HO.ins.inj (cz m)).2.2;subst this
  rw[OTs.funM os vs fs l r I]
 |.jnk n,_,_,_,q4_,q5_=>by
  obtain⟨a,vs,e,q,z,B⟩:=q4_;obtain⟨T,y,u,m,M,j⟩:=q5_;subst e B j;cases u
  rfl
 |.dT ks os,_,_,_,q4_,q5_=>by
  obtain⟨a,vs,fs,e,q,z,r,B⟩:=q4_;obtain⟨T,y,l,u,m,M,I,j⟩:=q5_;subst e B j;cases u;rw[q]at m;have:=ud z M (HO.dT.inj (cz m));subst this
  rw[OTs.funM os vs fs l r I]
 |.at _ o,v,f,L,h,h'=>OT.funM o v f L h.2 h'.2
 |.any,_,_,_,h,h'=>(show _=[]from h).trans (show _=[]from h').symm
theorem OTs.funM:∀(os:List O) (vs:List V) (f n:LAd),OTs G Hf H os vs f->OTs G Hf' H os vs n->f=n
 | [],_,_,_,h,h'=>h.2.trans h'.2.symm
 |o::os,_,_,_,q4_,q5_=>by
  obtain⟨v,r,f1,f2,e,y,z,u⟩:=q4_;obtain⟨I,B,c,j,q,l,m,a⟩:=q5_;subst e u a;cases q;rw[OT.funM o v f1 c y l,OTs.funM os r f2 j z m]
end
mutual
theorem OT.memM:∀(o:O) (v:V) (f:LAd),OT G Hf H o v f->∀a∈f,∃u,H a=aa u/\gV u=ag
 |.fz d,_,_,h,a,ha=>by rw[h.2]at ha;cases ha
 |.lst os,_,_,q3_,b,hb=>by
  obtain⟨a,vs,fs,e,q,r,j⟩:=q3_;subst j
  rcases b8.mp hb with z |z
  .subst z;exact⟨_,q,rfl⟩
  .exact OTs.memM os vs fs r b z
 |.tup os,_,f,⟨a,vs,e,q,r⟩,b,hb=>OTs.memM os vs f r b hb
 |.dic ks os,_,_,q3_,b,hb=>by
  obtain⟨a,vs,fs,e,q,z,r,j⟩:=q3_;subst j
  rcases b8.mp hb with z |z
  .subst z;exact⟨_,q,rfl⟩
  .exact OTs.memM os vs fs r b z
 |.ins c ns os,_,_,q3_,b,hb=>by
  obtain⟨a,dx,vs,fs,e,q,z,r,j⟩:=q3_;subst j
  rcases b8.mp hb with z |z
  .subst z;exact⟨_,q,rfl⟩
  .exact OTs.memM os vs fs r b z
 |.jnk n,_,_,q3_,b,hb=>by
  obtain⟨a,vs,e,q,z,j⟩:=q3_;subst j;rw[ca.mp hb]
  exact⟨_,q,rfl⟩
 |.dT ks os,_,_,q3_,b,hb=>by
  obtain⟨a,vs,fs,e,q,z,r,j⟩:=q3_;subst j
  rcases b8.mp hb with z |z
  .subst z;exact⟨_,q,rfl⟩
  .exact OTs.memM os vs fs r b z
 |.at _ o,v,f,h,a,ha=>OT.memM o v f h.2 a ha
 |.any,_,_,h,a,ha=>by rw[show _=[]from h]at ha;cases ha
theorem OTs.memM:∀(os:List O) (vs:List V) (f:LAd),OTs G Hf H os vs f->∀a∈f,∃u,H a=aa u/\gV u=ag
 | [],_,_,h,a,ha=>by rw[h.2]at ha;cases ha
 |o::os,_,_,q3_,a,ha=>by
  obtain⟨v,r,f1,f2,e,j,l,c⟩:=q3_;subst c
  rcases cC.mp ha with z |z
  .exact OT.memM o v f1 j a z
  .exact OTs.memM os r f2 l a z
end
mutual
theorem OT.repM(s:aH Hf H):∀(o:O) (v:V) (f:LAd),o.kn=ac->OT G Hf H o v f->Rep G H o.toD v
 |.fz d,_,_,_,h=>by rw[O.toD];exact h.1.up s
 |.lst os,_,_,hk,h_=>by obtain⟨a,vs,fs,e,q,r,j⟩:=h_;rw[O.kn]at hk;rw[O.toD];exact⟨a,vs,e,q,OTs.repM s os vs fs hk r⟩
 |.tup os,_,f,hk,h_=>by obtain⟨a,vs,e,q,r⟩:=h_;rw[O.kn]at hk;rw[O.toD];exact⟨a,vs,e,q,OTs.repM s os vs f hk r⟩
 |.dic ks os,_,_,hk,h_=>by obtain⟨a,vs,fs,e,q,z,r,j⟩:=h_;rw[O.kn]at hk;rw[O.toD];exact⟨a,vs,e,q,z,OTs.repM s os vs fs hk r⟩
 |.ins c ns os,_,_,hk,h_=>by obtain⟨a,dx,vs,fs,e,q,z,r,j⟩:=h_;rw[O.kn]at hk;rw[O.toD];exact⟨a,dx,vs,e,q,z,OTs.repM s os vs fs hk r⟩
 |.at _ o,v,f,hk,h=>by rw[O.kn]at hk;rw[O.toD];exact OT.repM s o v f hk h.2
 |.jnk _,_,_,hk,_=>by rw[O.kn]at hk;cases hk
 |.dT ks os,_,_,hk,h_=>by obtain⟨a,vs,fs,e,q,z,r,j⟩:=h_;rw[O.kn]at hk;rw[O.toD];exact⟨a,vs,e,q,z,OTs.repM s os vs fs hk r⟩
 |.any,_,_,hk,_=>by rw[O.kn]at hk;cases hk
theorem OTs.repM(s:aH Hf H):∀(os:List O) (vs:List V) (f:LAd),O.kns os=ac->OTs G Hf H os vs f->aB G H (O.toDs os) vs
 | [],_,_,_,h=>by rw[O.toDs];exact h.1
 |o::os,_,_,hk,h_=>by
  obtain⟨v,r,f1,f2,e,a,c,j⟩:=h_;rw[O.kns,di]at hk;rw[O.toDs];exact⟨v,r,e,OT.repM s o v f1 hk.1 a,OTs.repM s os r f2 hk.2 c⟩
end
def OT.rep{f:LAd}(h:OT G Hf H o v f)(s:aH Hf H)(a:o.kn=ac):Rep G H o.toD v:=OT.repM s o v f a h
def OTs.fz:∀{ds:LD} {vs:List V},aB G Hf ds vs->OTs G Hf H (ds.map .fz) vs []
 | [],_,h=>⟨h,rfl⟩
 |d::ds,_,⟨v,r,e,h1,h2⟩=>⟨v,r,[],[],e,⟨h1,rfl⟩,OTs.fz h2,rfl⟩
def xZ(ds:LD):O.toDs (ds.map .fz)=ds:=by
 induction ds with
 |nil=>rfl
 |cons d ds a=>rw[cS,O.toDs,O.toD,a]
inductive Sl where
 |no
 |im (d:D)
 |own (xs:LD)
 |ownd (ks:List Key) (xs:LD)
 |obj (c:Str) (ns:LSt) (xs:LD)
 |pin (l:Addr) (xs:LD)
 |pind (l:Addr) (ks:List Key) (xs:LD)
 |pino (l:Addr) (c:Str) (ns:LSt) (xs:LD)
 |deep (o:O)
 |val (u:V)
nonrec abbrev LS:=List Sl
@[reducible]noncomputable def nZ{a:Type}:LS->Option (List a):=λ_=>aa []
@[reducible]noncomputable def kY:LS->Option Bool:=λ_=>aa ac
@[reducible]noncomputable def kN:LS->OD:=λ_=>aa .non
@[reducible]noncomputable def kI(i:Int):LS->OD:=λ_=>aa (.int i)
@[reducible]noncomputable def kSt(x:Str):LS->OD:=λ_=>aa (.str x)
@[reducible]noncomputable def kBl(b:Bool):LS->OD:=λ_=>aa (.bl b)
nonrec abbrev MF1:=LS->OD
nonrec abbrev MF2:=LS->OLD
nonrec abbrev MF4:=LS->Option Bool
abbrev Sl.isOwn:Sl->Bool
 |.own _=>ac
 |.ownd _ _=>ac
 |.obj _ _ _=>ac
 |.pin _ _=>ac
 |.pind _ _ _=>ac
 |.pino _ _ _ _=>ac
 | _=>ag
abbrev Sl.calm:Sl->Bool
 |.no=>ac
 |.im _=>ac
 | _=>ag
abbrev iW(G:Gc)(Hf H:Hp)(l:Addr):Sl->Prop
 |.own ds=>∃vs,H l=aa (.lst vs)/\aB G Hf ds vs
 |.ownd ks ds=>∃vs,H l=aa (.dK (ks.zip vs))/\ks.length=vs.length/\aB G Hf ds vs
 |.obj c ns ds=>∃dx vs,H l=aa (.ins (G.cl c) dx (ns.zip vs))/\ns.length=vs.length/\aB G Hf ds vs
 |.pin a ds=>l=a/\∃vs,H l=aa (.lst vs)/\aB G Hf ds vs
 |.pind a ks ds=>l=a/\∃vs,H l=aa (.dK (ks.zip vs))/\ks.length=vs.length/\aB G Hf ds vs
 |.pino a c ns ds=>l=a/\∃dx vs,H l=aa (.ins (G.cl c) dx (ns.zip vs))/\ns.length=vs.length/\aB G Hf ds vs
 | _=>False
variable{l:Addr}{s:Sl}
def iW.there2(h:iW G Hf H l s):∃o,H l=aa o/\gV o=ag:=by
 cases s with
 |own ds=>obtain⟨vs,h,_⟩:=h;exact⟨_,h,rfl⟩
 |ownd ks ds=>obtain⟨vs,h,_⟩:=h;exact⟨_,h,rfl⟩
 |obj c ns ds=>obtain⟨dx,vs,h,_⟩:=h;exact⟨_,h,rfl⟩
 |pin a ds=>obtain⟨_,vs,h,_⟩:=h;exact⟨_,h,rfl⟩
 |pind a ks ds=>obtain⟨_,vs,h,_⟩:=h;exact⟨_,h,rfl⟩
 |pino a c ns ds=>obtain⟨_,dx,vs,h,_⟩:=h;exact⟨_,h,rfl⟩
 | _=>exact h.elim
def iW.up(h:iW G Hf H l s)(f:aH Hf Hf')(e:∀o,H l=aa o->H' l=aa o):iW G Hf' H' l s:=by
 cases s with
 |own ds=>obtain⟨vs,h,r⟩:=h;exact⟨vs,e _ h,r.up f⟩
 |ownd ks ds=>obtain⟨vs,h,z,r⟩:=h;exact⟨vs,e _ h,z,r.up f⟩
 |obj c ns ds=>obtain⟨dx,vs,h,z,r⟩:=h;exact⟨dx,vs,e _ h,z,r.up f⟩
 |pin a ds=>obtain⟨q,vs,h,r⟩:=h;exact⟨q,vs,e _ h,r.up f⟩
 |pind a ks ds=>obtain⟨q,vs,h,z,r⟩:=h;exact⟨q,vs,e _ h,z,r.up f⟩
 |pino a c ns ds=>obtain⟨q,dx,vs,h,z,r⟩:=h;exact⟨q,dx,vs,e _ h,z,r.up f⟩
 | _=>exact h.elim
abbrev gb(G:Gc)(H0 Hf H:Hp)(v:Option V):Sl->Prop
 |.no=>True
 |.im d=>∃u,v=aa u/\Rep G Hf d u
 |.deep o=>∃u fp,v=aa u/\OT G Hf H o u fp/\fp.Nodup/\∀a∈fp,H0 a=ab/\Hf a=ab
 |.val u=>v=aa u
 |s=>∃l,v=aa (.ref l)/\H0 l=ab/\Hf l=ab/\iW G Hf H l s
variable{H0:Hp}
def gb.own{v:Option V}(a:s.isOwn=ac)(h:gb G H0 Hf H v s):∃l,v=aa (.ref l)/\H0 l=ab/\Hf l=ab/\iW G Hf H l s:=by
 cases s <;> first |exact h |cases a
def gb.ofOwn{v:Option V}(a:s.isOwn=ac)(h:∃l,v=aa (.ref l)/\H0 l=ab/\Hf l=ab/\iW G Hf H l s):gb G H0 Hf H v s:=by
 cases s <;> first |exact h |cases a
abbrev Holds(G:Gc)(Hf H:Hp)(s:Sl)(v:V)(a:Addr):Prop:=match s with
 |.deep o=>∃fp,OT G Hf H o v fp/\a∈fp
 |s=>s.isOwn=ac/\v=.ref a
variable{a:Addr}
def Holds.own(c:s.isOwn=ac):Holds G Hf H s v a↔v=.ref a:=by
 cases s <;> first |exact⟨λh=>h.2,λh=>⟨rfl,h⟩⟩ |nomatch c
def Holds.calm(h:Holds G Hf H s v a)(c:s.calm=ac):False:=by
 cases s <;> first |exact mw h.1 |nomatch c
def gb.back(q:gb G H0 Hf H (aa v) s)(k:∀o fp,s=.deep o->OT G Hf H o v fp->OT G Hf' H' o v fp)(h:Holds G Hf' H' s v a):Holds G Hf H s v a:=by
 cases s with
 |deep o=>
  obtain⟨u,fp,e,r,_⟩:=q;cases e;obtain⟨fp',c,ha⟩:=h;have:=OT.funM o v fp fp' (k o fp rfl r) c;subst this
  exact⟨fp,r,ha⟩
 | _=>exact h
def gb.there(q:gb G H0 Hf H (aa v) s)(h:Holds G Hf H s v a):∃o,H a=aa o/\gV o=ag:=by
 cases c:s.isOwn with
 |true=>
  obtain⟨l,e,_,_,j⟩:=q.own c;cases e;cases ((Holds.own c).mp h)
  exact j.there2
 |false=>
  cases s with
  |deep o=>
   obtain⟨fp,r,ha⟩:=h
   exact OT.memM o v fp r a ha
  | _=>first |exact mw h.1 |nomatch c
structure aC(G:Gc)(Hf0 H0 Hf H:Hp)(σ:St)(ρ:LS):Prop where
 ext:Ext Hf0 H0 Hf H
 len:σ.length=ρ.length
 at':∀(i:Nat) (v:Option V) (s:Sl),σ[i]?=aa v->ρ[i]?=aa s->gb G H0 Hf H v s
 dj:∀(i j:Nat) (s t:Sl) (v w:V) (a:Addr),ρ[i]?=aa s->ρ[j]?=aa t->σ[i]?=aa (aa v)->σ[j]?=aa (aa w)->Holds G Hf H s v a->Holds G Hf H t w a->i=j
variable{Hf0:Hp}{ρ:LS}
def aC.sub(h:aC G Hf0 H0 Hf H σ ρ):aH Hf H:=h.ext.s
def aC.inj(h:aC G Hf0 H0 Hf H σ ρ)(i j:Nat)(s t:Sl)(l:Addr)(a:ρ[i]?=aa s)(b:ρ[j]?=aa t)(m:s.isOwn=ac)(n:t.isOwn=ac)(c:σ[i]?=aa (aa (.ref l)))(d:σ[j]?=aa (aa (.ref l))):i=j:=
 h.dj i j s t _ _ l a b c d ((Holds.own m).mpr rfl) ((Holds.own n).mpr rfl)
variable{H0':Hp}{ρ':LS}
def aC.re{m:Hp}(h:aC G Hf0 H0 Hf H σ ρ)(x:Ext m H0' Hf' H')(u:ρ'.length=ρ.length)(ha:∀(i:Nat) (v:Option V) (s:Sl),σ[i]?=aa v->ρ'[i]?=aa s->gb G H0' Hf' H' v s)
 (hd:∀(i:Nat) (s:Sl) (v:V) (a:Addr),ρ'[i]?=aa s->σ[i]?=aa (aa v)->Holds G Hf' H' s v a->∃t,ρ[i]?=aa t/\Holds G Hf H t v a):aC G m H0' Hf' H' σ ρ':=
 ⟨x,h.len.trans u.symm,ha,λi j s t v w a b c e f p q=>by
  obtain⟨B,n,y⟩:=hd i s v a b e p;obtain⟨I,r,z⟩:=hd j t w a c f q;exact h.dj i j B I v w a n r e f y z⟩
def aC.step(h:aC G Hf0 H0 Hf H σ ρ)(e:Ext Hf H Hf' H'):aC G Hf0 H0 Hf' H' σ ρ:=by
 refine h.re (h.ext.trans e) rfl (λi v s a b=>?_) λi s v a b c d=>⟨s,b,(h.at' i _ s c b).back (λo fp _ r=>r.up e.f e.h) d⟩;have q:=h.at' i v s a b
 cases y:s.isOwn with
 |true=>
  obtain⟨l,j,L,M,I⟩:=q.own y;obtain⟨o,m,B⟩:=I.there2
  exact .ofOwn y ⟨l,j,L,by rw[e.n l o m B];exact M,I.up e.f λo m=>e.h _ _ m⟩
 |false=>
  cases s with
  |no=>trivial
  |im d=>obtain⟨u,j,r⟩:=q;exact⟨u,j,r.up e.f⟩
  |val u=>exact q
  |deep o=>
   obtain⟨u,fp,j,r,n,z⟩:=q;refine⟨u,fp,j,r.up e.f e.h,n,λa ha=>⟨(z a ha).1,?_⟩⟩;obtain⟨T,m,B⟩:=OT.memM o u fp r a ha;rw[e.n a T m B]
   exact(z a ha).2
  | _=>nomatch y
def aC.slot(h:aC G Hf0 H0 Hf H σ ρ)(e:ρ[i]?=aa s):∃v,σ[i]?=aa v/\gb G H0 Hf H v s:=by
 have hi:i<σ.length:=by rw[h.len];exact(eD.mp e).1
 exact⟨σ[i],by simp[hi],h.at' i _ s (by simp[hi]) e⟩
def aC.imm(h:aC G Hf0 H0 Hf H σ ρ)(e:ρ[i]?=aa (.im d)):∃v,σ[i]?=aa (aa v)/\Rep G Hf d v:=by
 obtain⟨v,c,u,j,r⟩:=h.slot e;subst j;exact⟨u,c,r⟩
def aC.ownAt(m:s.isOwn=ac)(h:aC G Hf0 H0 Hf H σ ρ)(e:ρ[i]?=aa s):∃l,σ[i]?=aa (aa (.ref l))/\H0 l=ab/\Hf l=ab/\iW G Hf H l s:=by
 obtain⟨v,c,q⟩:=h.slot e;obtain⟨l,j,n⟩:=q.own m;rw[j]at c;exact⟨l,c,n⟩
variable{j:Nat}
def cf{m:Type}{l:List m}{x y:m}(h:(l.set i x)[j]?=aa y):(j=i/\y=x/\i<l.length)\/(j≠i/\l[j]?=aa y):=by
 by_cases c:j=i
 .subst c;left;have hi:j<l.length:=by have:=(eD.mp h).1;simpa using this
  rw[ji hi]at h;exact⟨rfl,(cz h).symm,hi⟩
 .right;rw[fZ (ce c)]at h;exact⟨c,h⟩
def aC.setIm(h:aC G Hf0 H0 Hf H σ ρ)(r:Rep G Hf d v):aC G Hf0 H0 Hf H (σ.set i (aa v)) (ρ.set i (.im d)):=by
 refine⟨h.ext,by simpa using h.len,λj u s a b=>?_,λj k s t u w l a b c d' p q=>?_⟩
 .rcases cf b with⟨e,m,_⟩ |⟨e,b⟩
  .subst e m
   rcases cf a with⟨_,m,_⟩ |⟨e,_⟩
   .subst m;exact⟨v,rfl,r⟩
   .exact absurd rfl e
  .rcases cf a with⟨m,_⟩ |⟨_,a⟩
   .exact absurd m e
   .exact h.at' j u s a b
 .rcases cf a with⟨e,m,_⟩ |⟨e,a⟩
  .subst m;exact(p.calm rfl).elim
  .rcases cf b with⟨n,m,_⟩ |⟨n,b⟩
   .subst m;exact(q.calm rfl).elim
   .rcases cf c with⟨m,_⟩ |⟨_,c⟩
    .exact absurd m e
    .rcases cf d' with⟨m,_⟩ |⟨_,d'⟩
     .exact absurd m n
     .exact h.dj j k s t u w l a b c d' p q
variable{u:V}
def aC.setNew(h:aC G Hf0 H0 Hf H σ ρ)(e:Ext Hf H Hf' H')(B:gb G H0 Hf' H' (aa u) s)(hn:∀a,Holds G Hf' H' s u a->H a=ab):
  aC G Hf0 H0 Hf' H' (σ.set i (aa u)) (ρ.set i s):=by
 have h':=h.step e
 have no:∀j t w a,ρ[j]?=aa t->σ[j]?=aa _->Holds G Hf' H' t w a->Holds G Hf' H' s u a->False:=λj t w a b c p q=>by
  obtain⟨o,B,_⟩:=(h.at' j _ t c b).there ((h.at' j _ t c b).back (λo fp _ r=>r.up e.f e.h) p);rw[hn a q]at B;nomatch B
 refine⟨h'.ext,by simpa using h.len,λj w t a b=>?_,λj k t t' v w l a b c d' p q=>?_⟩
 .rcases cf b with⟨e,m,_⟩ |⟨e,b⟩
  .subst e m
   rcases cf a with⟨_,m,_⟩ |⟨e,_⟩
   .subst m;exact B
   .exact absurd rfl e
  .rcases cf a with⟨m,_⟩ |⟨_,a⟩
   .exact absurd m e
   .exact h'.at' j w t a b
 .rcases cf a with⟨z,I,_⟩ |⟨z,a⟩
  .rcases cf b with⟨n,y,_⟩ |⟨n,b⟩
   .rw[z,n]
   .rcases cf c with⟨_,m,_⟩ |⟨m,_⟩
    .cases m;rw[I]at p
     rcases cf d' with⟨m,_⟩ |⟨_,d'⟩
     .exact absurd m n
     .exact(no k t' w l b d' q p).elim
    .exact absurd z m
  .rcases cf c with⟨m,_⟩ |⟨_,c⟩
   .exact absurd m z
   .rcases cf b with⟨n,y,_⟩ |⟨n,b⟩
    .rcases cf d' with⟨_,m,_⟩ |⟨m,_⟩
     .cases m;rw[y]at q;exact(no j t v l a c p q).elim
     .exact absurd n m
    .rcases cf d' with⟨m,_⟩ |⟨_,d'⟩
     .exact absurd m n
     .exact h'.dj j k t t' v w l a b c d' p q
def aC.setOwn(c:s.isOwn=ac)(h:aC G Hf0 H0 Hf H σ ρ)(e:Ext Hf H Hf' H')(hn:H l=ab)(m:Hf' l=ab)(n:iW G Hf' H' l s):
  aC G Hf0 H0 Hf' H' (σ.set i (aa (.ref l))) (ρ.set i s):=
 h.setNew e (.ofOwn c ⟨l,rfl,h.ext.h.free hn,m,n⟩) λa p=>by cases (Holds.own c).mp p;exact hn
variable{s':Sl}
def aC.chg(h:aC G Hf0 H0 Hf H σ ρ)(e:ρ[i]?=aa s)(U:σ[i]?=aa (aa v))(k:∀b u,H b=aa u->Holds G Hf H s v b\/H' b=aa u)(ho:gb G H0 Hf H' (aa v) s')
 (hh:∀a,Holds G Hf H' s' v a->Holds G Hf H s v a\/∀(j:Nat) (t:Sl) (w:V),ρ[j]?=aa t->σ[j]?=aa (aa w)->Holds G Hf H t w a->False):aC G Hf0 H0 Hf H' σ (ρ.set i s'):=by
 have q:=h.at' i _ s U e
 have gone:∀b,Holds G Hf H s v b->H0 b=ab/\Hf b=ab:=λb p=>by
  cases hs:s.isOwn with
  |true=>
   obtain⟨l,T,h0,hf,_⟩:=q.own hs;have B:=(Holds.own hs).mp p;cases T;cases B
   exact⟨h0,hf⟩
  |false=>
   cases s with
   |deep o=>
    obtain⟨u,fp,T,r,n,z⟩:=q;cases T;obtain⟨fp',r',ha⟩:=p;have:=OT.funM o v fp fp' r r';subst this
    exact z b ha
   | _=>first |exact mw p.1 |nomatch hs
 have fr:∀j t w,j≠i->ρ[j]?=aa t->σ[j]?=aa (aa w)->∀o fp,t=.deep o->OT G Hf H o w fp->OT G Hf H' o w fp:=λj t w hj b c o fp et r=>by
  subst et;refine r.frame (aH.refl _) λx u hx hm=>?_
  rcases k x u hx with z |z
  .rcases hm with hm |hm
   .obtain⟨o',m,ht'⟩:=q.there z;rw[hx]at m;cases m;rw[hm]at ht'
    nomatch ht'
   .exact absurd (h.dj j i _ s w v x b e c U ⟨fp,r,hm⟩ z) hj
  .exact z
 refine⟨⟨h.ext.f,λb u e=>?_,λb u e=>?_,h.ext.n⟩,by simpa using h.len,λj u t a b=>?_,λj j' t t' w w' a b c b' c' p p'=>?_⟩
 .rcases k b u (h.ext.h b u e)with z |z
  .rw[(gone b z).1]at e;nomatch e
  .exact z
 .rcases k b u (h.ext.s b u e)with z |z
  .rw[(gone b z).2]at e;nomatch e
  .exact z
 .rcases cf b with⟨e',B,_⟩ |⟨en,b⟩
  .subst e' B;rw[U]at a;cases a;exact ho
  .have q':=h.at' j u t a b
   cases ht:t.isOwn with
   |false=>
    cases t with
    |no=>trivial
    |im d=>exact q'
    |val u=>exact q'
    |deep o=>
     obtain⟨w,fp,T,r,n,z⟩:=q';subst T
     exact⟨w,fp,rfl,fr j _ w en b a o fp rfl r,n,z⟩
    | _=>nomatch ht
   |true=>
    obtain⟨l2,B,e3,e4,q2⟩:=q'.own ht;subst B;refine .ofOwn ht ⟨l2,rfl,e3,e4,q2.up (aH.refl _) λo' m=>?_⟩
    rcases k l2 o' m with z |z
    .exact absurd (h.dj j i t s _ v l2 b e a U ((Holds.own ht).mpr rfl) z) en
    .exact z
 .have I:∀j t w,_[j]?=aa t->σ[j]?=aa (aa w)->Holds G Hf H' t w a->(j=i/\∀j t w,ρ[j]?=aa t->σ[j]?=aa (aa w)->Holds G Hf H t w a->False)\/∃t0,ρ[j]?=aa t0/\Holds G Hf H t0 w a:=λj t w b y p=>by
   rcases cf b with⟨e',B,_⟩ |⟨en,b⟩
   .rw[B]at p;rw[e',U]at y;cases y;rw[e']
    rcases hh a p with z |z
    .exact .inr ⟨s,e,z⟩
    .exact .inl ⟨rfl,z⟩
   .exact .inr ⟨t,b,(h.at' j _ t y b).back (fr j t w en b y) p⟩
  rcases I j t w b b' p with⟨z1,z2⟩ |⟨t0,z1,z2⟩
  .rcases I j' t' w' c c' p' with⟨L,M⟩ |⟨t1,L,M⟩
   .rw[z1,L]
   .exact(z2 j' t1 w' L c' M).elim
  .rcases I j' t' w' c c' p' with⟨L,M⟩ |⟨t1,L,M⟩
   .exact(M j t0 w z1 b' z2).elim
   .exact h.dj j j' t0 t1 w w' a z1 L b' c' z2 M
def aC.chgX(h:aC G Hf0 H0 Hf H σ ρ)(x:Ext Hf H Hf' H1)(e:ρ[i]?=aa s)(y:σ[i]?=aa (aa v))(k:∀b u,H1 b=aa u->Holds G Hf H s v b\/H' b=aa u)(m:gb G H0 Hf' H' (aa v) s')
 (B:∀a,Holds G Hf' H' s' v a->Holds G Hf H s v a\/H a=ab):aC G Hf0 H0 Hf' H' σ (ρ.set i s'):=by
 have up:∀b,Holds G Hf H s v b->Holds G Hf' H1 s v b:=λb p=>by
  cases s with
  |deep o=>obtain⟨fp,r,n⟩:=p;exact⟨fp,r.up x.f x.h,n⟩
  | _=>exact p
 refine(h.step x).chg e y (λb u n=>(k b u n).imp_left (up b)) m λa p=>?_
 rcases B a p with z |z
 .exact .inl (up a z)
 .refine .inr λj t w b c q=>?_;obtain⟨o,m,_⟩:=(h.at' j _ t c b).there ((h.at' j _ t c b).back (λo fp _ r=>r.up x.f x.h) q);rw[z]at m
  nomatch m
def aC.mutd{o:HO}(m:s.isOwn=ac)(c:s'.isOwn=ac)(h:aC G Hf0 H0 Hf H σ ρ)(e:ρ[i]?=aa s)(r:σ[i]?=aa (aa (.ref l)))(L:iW G Hf (upd H l o) l s'):
  aC G Hf0 H0 Hf (upd H l o) σ (ρ.set i s'):=by
 obtain⟨M,n,z,I,q⟩:=h.ownAt m e;rw[r]at n;cases n;refine h.chg e r (λb u B=>?_) (.ofOwn c ⟨l,rfl,z,I,L⟩) λa p=>.inl ((Holds.own m).mpr ((Holds.own c).mp p))
 by_cases y:b=l
 .subst y;exact .inl ((Holds.own m).mpr rfl)
 .exact .inr (by rw[bz y];exact B)
def aC.fixd{o:HO}(U:s.isOwn=ac)(h:aC G Hf0 H0 Hf H σ ρ)(e:ρ[i]?=aa s)(I:σ[i]?=aa (aa (.ref l)))(ho:H l=aa o)(hr:Rep G (upd Hf l o) d (.ref l)):
  aC G Hf0 H0 (upd Hf l o) H σ (ρ.set i (.im d)):=by
 obtain⟨l',m,h0,B,q⟩:=h.ownAt U e;rw[I]at m;cases m;refine h.re (h.ext.fix h0 B ho) (by simp) (λj u t a b=>?_) λj t v a b c p=>?_
 .rcases cf b with⟨e,M,_⟩ |⟨en,b⟩
  .subst e M;rw[I]at a;cases a;exact⟨_,rfl,hr⟩
  .have q:=h.at' j u t a b
   cases L:t.isOwn with
   |false=>
    cases t with
    |no=>trivial
    |im d=>obtain⟨u',m,r⟩:=q;exact⟨u',m,r.up (cu B)⟩
    |val u'=>exact q
    |deep o=>
     obtain⟨w,fp,m,r,n,z⟩:=q;subst m;refine⟨w,fp,rfl,r.up (cu B) (aH.refl _),n,λx hx=>⟨(z x hx).1,?_⟩⟩;rw[bz (λy=>?_)]
     .exact(z x hx).2
     .subst y
      exact en (h.dj j i _ s w _ x b e a I ⟨fp,r,hx⟩ ((Holds.own U).mpr rfl))
    | _=>nomatch L
   |true=>
    obtain⟨l2,e2,e3,e4,q2⟩:=q.own L;subst e2;refine .ofOwn L ⟨l2,rfl,e3,?_,q2.up (cu B) λo' T=>T⟩;rw[bz (λz=>?_)]
    .exact e4
    .subst z;exact en (h.inj j i t s l2 b e L U a I)
 .rcases cf b with⟨_,M,_⟩ |⟨_,b⟩
  .subst M;exact(p.calm rfl).elim
  .exact⟨t,b,(h.at' j _ t c b).back (λo fp _ r=>r.up (cu B) (aH.refl _)) p⟩
def PE.imp{t':TE}(h:PE X e t)(i:∀σ H Q,t' σ H Q->t σ H Q):PE X e t':=λpins s σ H Q I q=>h pins s σ H Q I (i σ H Q q)
variable{t':TT}
def PT.imp{t:TT}(h:PT X e t)(i:∀σ H Q,t' σ H Q->t σ H Q):PT X e t':=λpins s σ H Q I q=>h pins s σ H Q I (i σ H Q q)
def PW.imp{t:TT}(h:PW X e t)(i:∀σ H Q,t' σ H Q->t σ H Q):PW X e t':=λc pins s σ H Q I q=>h c pins s σ H Q I (i σ H Q q)
variable{es:LEx}
def PA.imp{t t':TA}(h:PA X es t)(i:∀σ H Q,t' σ H Q->t σ H Q):PA X es t':=λpos pins s σ H Q I q=>h pos pins s σ H Q I (i σ H Q q)
def PS.imp{st:Stmt}{t t':TS}(h:PS X st t)(i:∀E σ H,t' E σ H->t E σ H):PS X st t':=λpins s σ H E I q=>h pins s σ H E I (i E σ H q)
def PSs.imp{st:List Stmt}{t t':TS}(h:PSs X st t)(i:∀E σ H,t' E σ H->t E σ H):PSs X st t':=λpins s σ H E I q=>h pins s σ H E I (i E σ H q)
def PG.imp{t t':TG}(h:PG X e t)(i:∀v σ H Q,t' v σ H Q->t v σ H Q):PG X e t':=λpins s σ H v u Q I r q=>h pins s σ H v u Q I r (i v σ H Q q)
def PGs.imp{t t':TGs}(h:PGs X es t)(i:∀v σ H Q,t' v σ H Q->t v σ H Q):PGs X es t':=λpins s σ H v u Q I r q=>h pins s σ H v u Q I r (i v σ H Q q)
def PI.imp{t t':TI}(h:PI X tg e t)(i:∀σ H R,t' σ H R->t σ H R):PI X tg e t':=λpins s σ H R I q=>h pins s σ H R I (i σ H R q)
def PTs.imp{t:TT}(h:PTs X eH t)(i:∀σ H Q,t' σ H Q->t σ H Q):PTs X eH t':=λpins s σ H Q I q=>h pins s σ H Q I (i σ H Q q)
def OpR.imp{f:Value->Value->Sem Value}{r c:R2}(h:OpR X f r)(i:∀x y H Q,c x y H Q->r x y H Q):OpR X f c:=λpins s σ H x y v u Q I m n q=>h pins s σ H x y v u Q I m n (i x y H Q q)
def ga.imp{f:Value}{r c:List V->Hp->VK->Prop}(h:ga X f r)(i:∀xs H Q,c xs H Q->r xs H Q):ga X f c:=λpins s σ H xs us Q I m q=>h pins s σ H xs us Q I m (i xs H Q q)
@[reducible]noncomputable def Gx(c:Str->Addr)(X:Cx):Gc:=⟨X.K,c⟩
inductive tD(G:Gc)(f:MF1)(σ:St)(H:Hp)(Q:VK):Prop
 |mk:∀Hf0 H0 Hf ρ d,aC G Hf0 H0 Hf H σ ρ->f ρ=aa d->(∀v Hf' H',Ext Hf H Hf' H'->Rep G Hf' d v->Q v H')->tD G f σ H Q
inductive tDB(G:Gc)(f:MF1)(σ:St)(H:Hp)(Q:VK):Prop
 |mk:∀Hf0 H0 Hf ρ d,aC G Hf0 H0 Hf H σ ρ->f ρ=aa d->(∀v Hf' H',Ext Hf H Hf' H'->Rep G H' d v->Q v H')->tDB G f σ H Q
inductive tDC(G:Gc)(f:MF2)(σ:St)(H:Hp)(Q:VK):Prop
 |mk:∀Hf0 H0 Hf ρ ds,aC G Hf0 H0 Hf H σ ρ->f ρ=aa ds->(∀a vs Hf' H',Ext Hf H Hf' H'->(SqL G.K H' a vs\/SqT G.K H' a vs)->aB G Hf' ds vs->Q (.ref a) H')->tDC G f σ H Q
inductive tDO(G:Gc)(f:MF2)(σ:St)(H:Hp)(Q:VK):Prop
 |mk:∀Hf0 H0 Hf ρ ds,aC G Hf0 H0 Hf H σ ρ->f ρ=aa ds->(∀l vs Hf' H',Ext Hf H Hf' H'->H l=ab->Hf' l=ab->H' l=aa (.lst vs)->aB G Hf' ds vs->Q (.ref l) H')->tDO G f σ H Q
inductive tDA(G:Gc)(f:MF2)(σ:St)(H:Hp)(Q:List V->Hp->Prop):Prop
 |mk:∀Hf0 H0 Hf ρ ds,aC G Hf0 H0 Hf H σ ρ->f ρ=aa ds->(∀vs Hf' H',Ext Hf H Hf' H'->aB G Hf' ds vs->Q vs H')->tDA G f σ H Q
inductive C2(G:Gc)(f:MF2)(σ:St)(H:Hp)(Q:List V->Hp->Prop):Prop
 |mk:∀Hf0 H0 Hf ρ ds,aC G Hf0 H0 Hf H σ ρ->f ρ=aa ds->(∀vs Hf' H',Ext Hf H Hf' H'->aB G H' ds vs->Q vs H')->C2 G f σ H Q
inductive tDT(G:Gc)(f:MF4)(σ:St)(H:Hp)(Q:Bool->Hp->Prop):Prop
 |mk:∀Hf0 H0 Hf ρ b,aC G Hf0 H0 Hf H σ ρ->f ρ=aa b->(∀Hf' H',Ext Hf H Hf' H'->Q b H')->tDT G f σ H Q
abbrev DE(c:Str->Addr)(X:Cx)(e:Expr)(f:MF1):Prop:=PE X e (tD (Gx c X) f)
abbrev DB(c:Str->Addr)(X:Cx)(e:Expr)(f:MF1):Prop:=PE X e (tDB (Gx c X) f)
abbrev DC(c:Str->Addr)(X:Cx)(e:Expr)(f:MF2):Prop:=PE X e (tDC (Gx c X) f)
abbrev DO(c:Str->Addr)(X:Cx)(e:Expr)(f:MF2):Prop:=PE X e (tDO (Gx c X) f)
structure DA(c:Str->Addr)(X:Cx)(es:LEx)(f:MF2):Prop where
 pa:PA X es (tDA (Gx c X) f)
 len:∀ρ ds,f ρ=aa ds->ds.length=es.length
structure DAB(c:Str->Addr)(X:Cx)(es:LEx)(f:MF2):Prop where
 pa:PA X es (C2 (Gx c X) f)
 len:∀ρ ds,f ρ=aa ds->ds.length=es.length
abbrev DT(c:Str->Addr)(X:Cx)(e:Expr)(f:MF4):Prop:=PT X e (tDT (Gx c X) f)
abbrev DW(c:Str->Addr)(X:Cx)(e:Expr)(f:MF4):Prop:=PW X e (tDT (Gx c X) f)
abbrev D.scalar:D->Bool
 |.non=>ac
 |.bl _=>ac
 |.int _=>ac
 |.str _=>ac
 | _=>ag
def Rep.sc(c:d.scalar=ac)(r:Rep G H d v):Rep G H' d v:=by
 cases d <;> first |exact r |cases c
abbrev ik:D->OLD
 |.lst xs=>aa xs
 |.tup xs=>aa xs
 |.kl xs=>aa xs
 |.kt xs=>aa xs
 | _=>ab
def ue(e:ik d=aa ds)(r:Rep G H d v):∃a vs,v=.ref a/\(SqL G.K H a vs\/SqT G.K H a vs)/\aB G H ds vs:=by
 cases d with
 |lst xs=>cases e;obtain⟨a,vs,c,q,r⟩:=r;exact⟨a,vs,c,.inl (SqL.of q),r⟩
 |tup xs=>cases e;obtain⟨a,vs,c,q,r⟩:=r;exact⟨a,vs,c,.inr (SqT.of q),r⟩
 |kl xs=>cases e;obtain⟨a,vs,c,q,r⟩:=r;exact⟨a,vs,c,.inl q,r⟩
 |kt xs=>cases e;obtain⟨a,vs,c,q,r⟩:=r;exact⟨a,vs,c,.inr q,r⟩
 | _=>nomatch e
def x0(s:aH H H')(h:SqL K H a vs\/SqT K H a vs):SqL K H' a vs\/SqT K H' a vs:=h.imp s.seq s.tup
abbrev bf(f:MF2)(ρ:LS):OD:=(f ρ).map .lst
abbrev cg(f:MF2)(ρ:LS):OD:=(f ρ).map .tup
abbrev bh(f:MF1)(ρ:LS):OLD:=(f ρ).bind ik
abbrev oI(f g:MF1)(ρ:LS):OD:=(f ρ).or (g ρ)
variable{c:Str->Addr}
def DE.db{f:MF1}(h:DE c X e f):DB c X e f:=PE.imp h λσ H Q n=>by
 obtain⟨Hf0,H0,Hf,ρ,d,st,m,k⟩:=n;exact(⟨Hf0,H0,Hf,ρ,d,st,m,λv Hf' H' x r=>k v Hf' H' x (r.up x.s)⟩)
def DE.dc{f:MF1}(h:DE c X e f):DC c X e (bh f):=PE.imp h λσ H Q z=>by
 obtain⟨Hf0,H0,Hf,ρ,ds,st,m,k⟩:=z;unfold bh at m
 cases n:f ρ with
 |none=>rw[n]at m;nomatch m
 |some d=>
  rw[n]at m;refine⟨Hf0,H0,Hf,ρ,d,st,n,λv Hf' H' x r=>?_⟩;obtain⟨a,vs,y,q,rs⟩:=ue m r;subst y;exact k a vs Hf' H' x (x0 x.s q) rs
def DO.de{f:MF2}(h:DO c X e f):DE c X e (bf f):=PE.imp h λσ H Q z=>by
 obtain⟨Hf0,H0,Hf,ρ,d,st,m,k⟩:=z;unfold bf at m
 cases n:f ρ with
 |none=>rw[n]at m;nomatch m
 |some ds=>
  rw[n]at m;have m:=cz m;subst m;exact⟨Hf0,H0,Hf,ρ,ds,st,n,λl vs Hf' H' x hn q y r=>k _ _ H' (x.fix hn q y) ⟨l,vs,rfl,bw,r.up (cu q)⟩⟩
def DO.dc{f:MF2}(h:DO c X e f):DC c X e f:=PE.imp h λσ H Q q=>by
 obtain ⟨Hf0,H0,Hf,ρ,ds,st,m,k⟩:=q;exact (
 ⟨Hf0,H0,Hf,ρ,ds,st,m,λl vs Hf' H' x hn y n r=>k l vs Hf' H' x (.inl (SqL.of n)) r⟩)
def DE.orE{f g:MF1}(h:DE c X e f)(h':DE c X e g):DE c X e (oI f g):=λpins s σ H Q I q=>by
 obtain⟨Hf0,H0,Hf,ρ,d,st,m,k⟩:=q;unfold oI at m
 cases n:f ρ with
 |some d'=>
  rw[n]at m;cases m
  exact h pins s σ H Q I ⟨Hf0,H0,Hf,ρ,_,st,n,k⟩
 |none=>
  rw[n]at m;exact h' pins s σ H Q I ⟨Hf0,H0,Hf,ρ,d,st,m,k⟩
abbrev ae(i:Nat)(ρ:LS):OD:=match ρ[i]? with
 |some (.im d)=>aa d
 | _=>ab
abbrev fo(i:Nat)(ρ:LS):OD:=match ρ[i]? with
 |some (.im d)=>aa d
 |some (.own xs)=>aa (.lst xs)
 |some (.ownd ks xs)=>aa (.dic ks xs)
 |some (.deep o)=>if o.kn then aa o.toD else ab
 | _=>ab
abbrev ak(i:Nat)(ρ:LS):OLD:=match ρ[i]? with
 |some (.im d)=>ik d
 |some (.own xs)=>aa xs
 | _=>ab
def Kb(h:ae i ρ=aa d):ρ[i]?=aa (.im d):=by
 unfold ae at h
 cases e:ρ[i]? with
 |none=>rw[e]at h;nomatch h
 |some s=>rw[e]at h;cases s <;> cases h;rfl
def x6(h:PE X e (eV i)):DE c X e (ae i):=PE.imp h λσ H Q q=>by
 obtain⟨Hf0,H0,Hf,ρ,d,st,n,k⟩:=q;obtain⟨v,m,r⟩:=st.imm (Kb n);exact⟨v,m,k v Hf H (Ext.refl st.sub) r⟩
def C3(h:PE X e (eV i)):DC c X e (ak i):=PE.imp h λσ H Q z=>by
 obtain⟨Hf0,H0,Hf,ρ,ds,st,m,k⟩:=z;unfold ak at m
 cases es:ρ[i]? with
 |none=>rw[es]at m;nomatch m
 |some s=>
  rw[es]at m
  cases s with
  |im d=>
   obtain⟨v,n,r⟩:=st.imm es;obtain⟨a,vs,y,q,rs⟩:=ue m r;subst y
   exact⟨_,n,k a vs Hf H (Ext.refl st.sub) (x0 st.sub q) rs⟩
  |own xs=>
   cases m;obtain⟨l,n,_,_,vs,q,r⟩:=st.ownAt rfl es
   exact⟨_,n,k l vs Hf H (Ext.refl st.sub) (.inl (SqL.of q)) r⟩
  | _=>nomatch m
def Kc(h:PE X e (eV i)):DB c X e (fo i):=PE.imp h λσ H Q I=>by
 obtain⟨Hf0,H0,Hf,ρ,d,st,m,k⟩:=I;unfold fo at m
 cases es:ρ[i]? with
 |none=>rw[es]at m;nomatch m
 |some s=>
  rw[es]at m
  cases s with
  |im d=>
   cases m;obtain⟨v,n,r⟩:=st.imm es
   exact⟨_,n,k v Hf H (Ext.refl st.sub) (r.up st.sub)⟩
  |own xs=>
   cases m;obtain⟨l,n,_,_,vs,q,r⟩:=st.ownAt rfl es
   exact⟨_,n,k _ Hf H (Ext.refl st.sub) ⟨l,vs,rfl,q,r.up st.sub⟩⟩
  |ownd ks xs=>
   cases m;obtain⟨l,n,_,_,vs,q,z,r⟩:=st.ownAt rfl es
   exact⟨_,n,k _ Hf H (Ext.refl st.sub) ⟨l,vs,rfl,q,z,r.up st.sub⟩⟩
  |deep o=>
   replace m:(if o.kn=ac then aa o.toD else ab)=aa d:=m;split at m
   .rename_i B;cases m;obtain⟨v,n,u,fp,y,r,_⟩:=st.slot es;subst y;exact⟨_,n,k _ Hf H (Ext.refl st.sub) (r.rep st.sub B)⟩
   .nomatch m
  | _=>nomatch m
def uf(h:PE X e (tC v))(r:∀G H,Rep G H d v):DE c X e (λ_=>aa d):=PE.imp h λσ H Q n=>by
 obtain⟨Hf0,H0,Hf,ρ,d',st,m,k⟩:=n;cases m;exact k v Hf H (Ext.refl st.sub) (r _ _)
def aj{pos:Pos}{i:Int}{j}:DE c X (.Constant (.int i) j pos) (λ_=>aa (.int i)):=uf HJ λ_ _=>rfl
def eW{pos:Pos}{i:Bool}{j}:DE c X (.Constant (.bool i) j pos) (λ_=>aa (.bl i)):=uf HK λ_ _=>rfl
def lM{pos:Pos}{j}:DE c X (.Constant .none j pos) kN:=uf HL λ_ _=>rfl
def aS{pos:Pos}{i:Str}{j}:DE c X (.Constant (.str i) j pos) (λ_=>aa (.str i)):=uf mY λ_ _=>rfl
def dv{pos:Pos}(i:Nat)(m:X.N[i]?=aa x:=by rfl)(n:Vis X.env.scope x:=by first |exact bU rfl |exact br (bU rfl) |exact br (br rfl))(hd:NDb x:=by decide)
 (h:NCd x:=by decide):DE c X (.Name x pos) (ae i):=x6 (jV m n hd h)
def dvC{pos:Pos}(i:Nat)(m:X.N[i]?=aa x:=by rfl)(n:Vis X.env.scope x:=by first |exact bU rfl |exact br (bU rfl) |exact br (br rfl))(hd:NDb x:=by decide)
 (h:NCd x:=by decide):DC c X (.Name x pos) (ak i):=C3 (jV m n hd h)
def dvB{pos:Pos}(i:Nat)(m:X.N[i]?=aa x:=by rfl)(n:Vis X.env.scope x:=by first |exact bU rfl |exact br (bU rfl) |exact br (br rfl))(hd:NDb x:=by decide)
 (h:NCd x:=by decide):DB c X (.Name x pos) (fo i):=Kc (jV m n hd h)
abbrev af(f:MF1)(g:MF2)(ρ:LS):OLD:=(f ρ).bind λd=>(g ρ).map λds=>d::ds
variable{g:MF2}
def oJ{f:MF1}(h:af f g ρ=aa ds):∃d r,f ρ=aa d/\g ρ=aa r/\ds=d::r:=by
 unfold af at h
 cases m:f ρ with
 |none=>rw[m]at h;nomatch h
 |some d=>
  cases n:g ρ with
  |none=>rw[m,n]at h;nomatch h
  |some r=>rw[m,n]at h;cases h;exact⟨d,r,rfl,rfl,rfl⟩
def aA:DA c X [] nZ:=⟨PA.imp cs λσ H Q n=>by obtain⟨Hf0,H0,Hf,ρ,ds,st,m,k⟩:=n;cases m;exact k [] Hf H (Ext.refl st.sub) rfl,λρ ds h=>by cases h;rfl⟩
def ai{f:MF1}(ha:DE c X e f)(q:DA c X es g)(I:StE X e es:=by rfl):DA c X (e::es) (af f g):=by
 refine⟨PA.imp (bW ha q.pa I) λσ H Q L=>?_,λρ ds h=>?_⟩
 .obtain⟨Hf0,H0,Hf,ρ,ds,st,B,k⟩:=L;obtain⟨d,r,n,m,rfl⟩:=oJ B;exact⟨Hf0,H0,Hf,ρ,d,st,n,λv al H1 y M=>⟨Hf0,H0,al,ρ,r,st.step y,m,λvs a9 H2 z T=>k _ a9 H2 (y.trans z) (.cons (M.up z.f) T)⟩⟩
 .obtain⟨d,r,n,m,rfl⟩:=oJ h;simp[q.len ρ r m]
def bO:DAB c X [] nZ:=⟨PA.imp cs λσ H Q n=>by obtain⟨Hf0,H0,Hf,ρ,ds,st,m,k⟩:=n;cases m;exact k [] Hf H (Ext.refl st.sub) rfl,λρ ds h=>by cases h;rfl⟩
def bi{f:MF1}(ha:DB c X e f)(q:DAB c X es g)(I:StE X e es:=by rfl):DAB c X (e::es) (af f g):=by
 refine⟨PA.imp (bW ha q.pa I) λσ H Q L=>?_,λρ ds h=>?_⟩
 .obtain⟨Hf0,H0,Hf,ρ,ds,st,B,k⟩:=L;obtain⟨d,r,n,m,rfl⟩:=oJ B;exact⟨Hf0,H0,Hf,ρ,d,st,n,λv al H1 y M=>⟨Hf0,H0,al,ρ,r,st.step y,m,λvs a9 H2 z T=>k _ a9 H2 (y.trans z) (.cons (M.up z.h) T)⟩⟩
 .obtain⟨d,r,n,m,rfl⟩:=oJ h;simp[q.len ρ r m]
def b9{pos:Pos}{f:MF2}(h:DA c X es f)(hz:es.length<=1000:=by exact mI rfl):DO c X (.List es pos) f:=PE.imp (xK h.pa) λσ H Q q=>by
 obtain ⟨Hf0,H0,Hf,ρ,ds,st,n,k⟩:=q;exact (
 ⟨Hf0,H0,Hf,ρ,ds,st,n,λvs Hf' H' x r=>⟨by
  rw[<- r.length,h.len ρ ds n];exact jS (m4 hz),λp m=>k p vs Hf' _ (x.trans (Ext.tmp x.s m)) (x.h.free m) (x.s.free m) bw r⟩⟩)
variable{k':Nat}
def cO{pos:Pos}{f:MF2}(h:DA c X es f)(hz:es.length<=1000:=by exact mI rfl):DE c X (.Tuple es k' pos) (cg f):=PE.imp (tX h.pa) λσ H Q y=>by
 obtain⟨Hf0,H0,Hf,ρ,d,st,m,k⟩:=y;unfold cg at m
 cases n:f ρ with
 |none=>rw[n]at m;nomatch m
 |some ds=>
  rw[n]at m;have m:=cz m;subst m
  exact⟨Hf0,H0,Hf,ρ,ds,st,n,λvs Hf' H' x r=>⟨by
   rw[<- r.length,h.len ρ ds n];exact jS (m4 hz),λp q=>k _ _ _ (x.trans (Ext.new x.s q)) ⟨p,vs,rfl,bw,r.up (cu (x.s.free q))⟩⟩⟩
abbrev rD(G:Gc)(m:D->D->OD):R2:=λh n H Q=>∃Hf x y d,aH Hf H/\Rep G Hf x h/\Rep G Hf y n/\m x y=aa d/\∀v Hf' H',Ext Hf H Hf' H'->Rep G Hf' d v->Q v H'
nonrec abbrev OpD(c:Str->Addr)(X:Cx)(f:Value->Value->Sem Value)(m:D->D->OD):Prop:=OpR X f (rD (Gx c X) m)
abbrev m2(m:D->D->OD)(f g:MF1)(ρ:LS):OD:=(f ρ).bind λx=>(g ρ).bind λy=>m x y
variable{m:D->D->OD}
def ug{f g:MF1}(h:m2 m f g ρ=aa d):∃x y,f ρ=aa x/\g ρ=aa y/\m x y=aa d:=by
 unfold m2 at h
 cases n:f ρ with
 |none=>rw[n]at h;nomatch h
 |some x=>
  cases q:g ρ with
  |none=>rw[n,q]at h;nomatch h
  |some y=>rw[n,q]at h;exact⟨x,y,rfl,rfl,h⟩
variable{r:R2}
def two{f g:MF1}(U:∀x y H Q,rD (Gx c X) m x y H Q->r x y H Q)(h:tD (Gx c X) (m2 m f g) σ H Q):tOp r (tD (Gx c X) f) (tD (Gx c X) g) σ H Q:=by
 obtain⟨Hf0,H0,Hf,ρ,d,st,T,k⟩:=h;obtain⟨x,y,I,L,M⟩:=ug T;exact⟨Hf0,H0,Hf,ρ,x,st,I,λv al H1 z r1=>⟨Hf0,H0,al,ρ,y,st.step z,L,λu a9 H2 q r2=>U _ _ _ _ ⟨a9,x,y,d,q.s,r1.up q.f,r2,M,λw n B x3 r3=>k w n B ((z.trans q).trans x3) r3⟩⟩⟩
def C4{f g:MF1}(U:∀x y H Q,rD (Gx c X) m x y H Q->r x y H Q)(hs:∀x y d,m x y=aa d->d.scalar=ac)(h:tD (Gx c X) (m2 m f g) σ H Q):tOp r (tDB (Gx c X) f) (tDB (Gx c X) g) σ H Q:=by
 obtain⟨Hf0,H0,Hf,ρ,d,st,T,k⟩:=h;obtain⟨x,y,L,M,q⟩:=ug T
 exact⟨Hf0,H0,Hf,ρ,x,st,L,λv al H1 z r1=>⟨Hf0,H0,al,ρ,y,st.step z,M,λu a9 H2 n r2=>U _ _ _ _ ⟨H2,x,y,d,aH.refl _,r1.up n.h,r2,q,λw I B x3 r3=>
  k w a9 B ((z.trans n).trans (Ext.grow n.s x3.h)) (r3.sc (hs _ _ _ q))⟩⟩⟩
variable{a:Expr}
def ci{pos:Pos}{n:Operator}{f g:MF1}(y:OpD c X (fS n) m)(ha:DE c X a f)(q:DE c X b g):DE c X (.BinOp a n b pos) (m2 m f g):=
 PE.imp (xC y ha q) λ_ _ _ h=>two (λ_ _ _ _ h=>h) h
variable{op:CmpOp}
def gW{pos:Pos}{f g:MF1}(q:OpD c X (cW op) m)(z:∀x y d,m x y=aa d->d.scalar=ac)(ha:DB c X a f)(n:DB c X b g)(hm:mP op b=ag:=by first |exact xG _ |rfl):
  DE c X (.Compare a [op] [b] pos) (m2 m f g):=PE.imp (IT q ha n hm) λ_ _ _ h=>C4 (λ_ _ _ _ h=>h) z h
abbrev mB(f:MF1)(ρ:LS):Option Bool:=(f ρ).bind λd=>match d with
 |.bl b=>aa b
 | _=>ab
def uh{f:MF1}{b:Bool}(h:mB f ρ=aa b):f ρ=aa (.bl b):=by
 unfold mB at h
 cases e:f ρ with
 |none=>rw[e]at h;nomatch h
 |some d=>rw[e]at h;cases d <;> cases h;rfl
def bn{pos:Pos}{f g:MF1}(z:OpD c X (cW op) m)(B:∀x y d,m x y=aa d->d.scalar=ac)(ha:DB c X a f)(q:DB c X b g)(hm:mP op b=ag:=by first |exact xG _ |rfl):
  DT c X (.Compare a [op] [b] pos) (mB (m2 m f g)):=PT.imp (Ci z ha q hm) λσ H Q I=>by
 obtain ⟨Hf0,H0,Hf,ρ,b,st,n,k⟩:=I;exact (
 C4 (λ_ _ _ _ h=>h) B ⟨Hf0,H0,Hf,ρ,.bl b,st,uh n,λv Hf' H' x r=>⟨b,r,k Hf' H' x⟩⟩)
abbrev ui:D->Option Bool
 |.non=>aa ag
 |.bl b=>aa b
 |.int i=>aa (i != 0)
 |.str x=>if x.length<=16777216 then aa ((x.length:Int) != 0) else ab
 |.lst xs=>aa (!xs.isEmpty)
 |.tup xs=>aa (!xs.isEmpty)
 |.kl xs=>aa (!xs.isEmpty)
 |.kt xs=>aa (!xs.isEmpty)
 |.dic ks _=>aa (!ks.isEmpty)
 | _=>ab
def aB.empty(r:aB G H ds vs):ds.isEmpty=vs.isEmpty:=by
 cases ds with
 |nil=>cases (r);rfl
 |cons d ds=>obtain⟨v,h,e,_⟩:=r;subst e;rfl
def Ke{n q:Type}{ks:List n}{vs:List q}(h:ks.length=vs.length):(ks.zip vs).isEmpty=ks.isEmpty:=by
 cases ks <;> cases vs <;> first |rfl |cases h
def Kf{b:Bool}(e:ui d=aa b)(r:Rep G H d v):xH G.K v H b:=by
 cases d with
 |non=>cases e;subst r;rfl
 |bl x=>cases e;subst r;rfl
 |int i=>cases e;subst r;rfl
 |str x=>
  subst r;replace e:(if x.length<=16777216 then aa _ else ab)=aa b:=e;split at e
  .rename_i n;cases e;exact⟨by rw[cL];exact n,rfl⟩
  .nomatch e
 |lst xs=>cases e;obtain⟨a,vs,h,q,r⟩:=r;subst h;exact .inl ⟨vs,SqL.of q,by rw[r.empty]⟩
 |tup xs=>cases e;obtain⟨a,vs,h,q,r⟩:=r;subst h;exact .inr (.inl ⟨vs,SqT.of q,by rw[r.empty]⟩)
 |kl xs=>cases e;obtain⟨a,vs,h,q,r⟩:=r;subst h;exact .inl ⟨vs,q,by rw[r.empty]⟩
 |kt xs=>cases e;obtain⟨a,vs,h,q,r⟩:=r;subst h;exact .inr (.inl ⟨vs,q,by rw[r.empty]⟩)
 |dic ks xs=>cases e;obtain⟨a,vs,h,q,l,r⟩:=r;subst h;exact .inr (.inr ⟨_,q,by rw[Ke l]⟩)
 |ins _ _ _=>nomatch e
 |kd _ _=>nomatch e
 |dT _ _=>nomatch e
abbrev dz(f:MF1)(ρ:LS):Option Bool:=(f ρ).bind ui
def eX{f:MF1}(ha:DB c X a f)(y:∀h,isTrue a X.env h=(do let v <- h;standAt a.pos;hZ [v] (truthy v)):=by intro _;rfl):DT c X a (dz f):=
 PT.imp (IZ ha y) λσ H Q z=>by
  obtain⟨Hf0,H0,Hf,ρ,b,st,n,k⟩:=z;unfold dz at n
  cases q:f ρ with
  |none=>rw[q]at n;nomatch n
  |some d=>
   rw[q]at n;exact⟨Hf0,H0,Hf,ρ,d,st,q,λv Hf' H' x r=>⟨b,Kf n r,k Hf' H' x⟩⟩
abbrev il(f g:MF4)(ρ:LS):Option Bool:=(f ρ).bind λb=>if b then g ρ else aa ag
abbrev mOr(f g:MF4)(ρ:LS):Option Bool:=(f ρ).bind λb=>if b then aa ac else g ρ
abbrev dW(f:MF4)(ρ:LS):Option Bool:=(f ρ).map not
def DW.dt{f:MF4}(h:DW c X e f):DT c X e f:=PW.pt h
def uj{pos:Pos}{f:MF4}(h:DT c X a f):DW c X (.BoolOp .And [a] pos) f:=B4 h
def io{pos:Pos}{f:MF4}(h:DT c X a f):DW c X (.BoolOp .Or [a] pos) f:=HQ h
def uk{pos:Pos}{f g:MF4}{bv:LEx}(h:DT c X a f)(h':DW c X (.BoolOp .And (b::bv) pos) g):DW c X (.BoolOp .And (a::b::bv) pos) (il f g):=PW.imp (B5 h h') λσ H Q z=>by
 obtain⟨Hf0,H0,Hf,ρ,b,st,n,k⟩:=z;unfold il at n
 cases q:f ρ with
 |none=>rw[q]at n;nomatch n
 |some x=>
  rw[q]at n;refine⟨Hf0,H0,Hf,ρ,x,st,q,λal H1 y=>?_⟩
  cases x with
  |true=>rw[if_pos rfl];exact⟨Hf0,H0,al,ρ,b,st.step y,n,λa9 H2 B=>k a9 H2 (y.trans B)⟩
  |false=>cases n;rw[if_neg bZ];exact k al H1 y
def fU{pos:Pos}{f g:MF4}{bv:LEx}(h:DT c X a f)(h':DW c X (.BoolOp .Or (b::bv) pos) g):DW c X (.BoolOp .Or (a::b::bv) pos) (mOr f g):=PW.imp (HR h h') λσ H Q z=>by
 obtain⟨Hf0,H0,Hf,ρ,b,st,n,k⟩:=z;unfold mOr at n
 cases q:f ρ with
 |none=>rw[q]at n;nomatch n
 |some x=>
  rw[q]at n;refine⟨Hf0,H0,Hf,ρ,x,st,q,λal H1 y=>?_⟩
  cases x with
  |false=>rw[if_neg bZ];exact⟨Hf0,H0,al,ρ,b,st.step y,n,λa9 H2 B=>k a9 H2 (y.trans B)⟩
  |true=>cases n;rw[if_pos rfl];exact k al H1 y
def fD{pos:Pos}{f:MF4}(h:DT c X a f):DT c X (.UnaryOp .Not a pos) (dW f):=PT.imp (HS h) λσ H Q y=>by
 obtain⟨Hf0,H0,Hf,ρ,b,st,n,k⟩:=y;unfold dW at n
 cases q:f ρ with
 |none=>rw[q]at n;nomatch n
 |some x=>
  rw[q]at n;cases n;exact⟨Hf0,H0,Hf,ρ,x,st,q,λal H1 z=>k al H1 z⟩
abbrev jw(f g:MF1)(ρ:LS):OD:=(mB f ρ).bind λb=>if b then g ρ else aa (.bl ag)
abbrev vOr(f g:MF1)(ρ:LS):OD:=(mB f ρ).bind λb=>if b then aa (.bl ac) else g ρ
abbrev qB(f:MF1)(ρ:LS):OD:=(mB f ρ).map λb=>.bl (!b)
def m9{pos:Pos}{f:MF1}{op}(h:DE c X a f):DE c X (.BoolOp op [a] pos) f:=HX h
def na{pos:Pos}{f g:MF1}{bv:LEx}(h:DE c X a f)(h':DE c X (.BoolOp .And (b::bv) pos) g):DE c X (.BoolOp .And (a::b::bv) pos) (jw f g):=PE.imp (HY h h') λσ H Q z=>by
 obtain⟨Hf0,H0,Hf,ρ,d,st,n,k⟩:=z;unfold jw at n
 cases q:mB f ρ with
 |none=>rw[q]at n;nomatch n
 |some x=>
  rw[q]at n;refine⟨Hf0,H0,Hf,ρ,.bl x,st,uh q,λv al H1 y B=>⟨x,B,?_⟩⟩
  cases x with
  |true=>rw[if_pos rfl];exact⟨Hf0,H0,al,ρ,d,st.step y,n,λv a9 H2 L I=>k v a9 H2 (y.trans L) I⟩
  |false=>cases n;rw[if_neg bZ];exact k _ al H1 y rfl
def Kg{pos:Pos}{f g:MF1}{bv:LEx}(h:DE c X a f)(h':DE c X (.BoolOp .Or (b::bv) pos) g):DE c X (.BoolOp .Or (a::b::bv) pos) (vOr f g):=PE.imp (HZ h h') λσ H Q z=>by
 obtain⟨Hf0,H0,Hf,ρ,d,st,n,k⟩:=z;unfold vOr at n
 cases q:mB f ρ with
 |none=>rw[q]at n;nomatch n
 |some x=>
  rw[q]at n;refine⟨Hf0,H0,Hf,ρ,.bl x,st,uh q,λv al H1 y B=>⟨x,B,?_⟩⟩
  cases x with
  |false=>rw[if_neg bZ];exact⟨Hf0,H0,al,ρ,d,st.step y,n,λv a9 H2 L I=>k v a9 H2 (y.trans L) I⟩
  |true=>cases n;rw[if_pos rfl];exact k _ al H1 y rfl
def Kh{pos:Pos}{f:MF1}(h:DE c X a f):DE c X (.UnaryOp .Not a pos) (qB f):=PE.imp (Ia h) λσ H Q y=>by
 obtain⟨Hf0,H0,Hf,ρ,d,st,n,k⟩:=y;unfold qB at n
 cases q:mB f ρ with
 |none=>rw[q]at n;nomatch n
 |some x=>
  rw[q]at n;cases n;exact⟨Hf0,H0,Hf,ρ,.bl x,st,uh q,λv al H1 B z=>⟨x,z,k _ al H1 B rfl⟩⟩
abbrev vIf(t:MF4)(f g:MF1)(ρ:LS):OD:=(t ρ).bind λb=>if b then f ρ else g ρ
variable{cd:Expr}
def x8{pos:Pos}{t:MF4}{f g:MF1}(B:DT c X cd t)(ha:DE c X a f)(z:DE c X b g):DE c X (.IfExp cd a b pos) (vIf t f g):=PE.imp (B6 B ha z) λσ H Q I=>by
 obtain⟨Hf0,H0,Hf,ρ,d,st,h,k⟩:=I;unfold vIf at h
 cases q:t ρ with
 |none=>rw[q]at h;nomatch h
 |some x=>
  rw[q]at h;refine⟨Hf0,H0,Hf,ρ,x,st,q,λal H1 n=>?_⟩
  cases x with
  |true=>rw[if_pos rfl];exact⟨Hf0,H0,al,ρ,d,st.step n,h,λv a9 H2 y r=>k v a9 H2 (n.trans y) r⟩
  |false=>rw[if_neg bZ];exact⟨Hf0,H0,al,ρ,d,st.step n,h,λv a9 H2 y r=>k v a9 H2 (n.trans y) r⟩
noncomputable instance {i j:Int}:Decidable (oE i j):=by unfold oE;infer_instance
noncomputable instance {i j:Int}:Decidable (qf i j):=by unfold qf;infer_instance
noncomputable instance {i j:Int}:Decidable (qg i j):=by unfold qg;infer_instance
abbrev dI(C:Int->Int->Prop)[∀i j,Decidable (C i j)](g:Int->Int->D):D->D->OD
 |.int i,.int j=>if C i j then aa (g i j) else ab
 | _,_=>ab
abbrev dI0(g:Int->Int->D):D->D->OD
 |.int i,.int j=>aa (g i j)
 | _,_=>ab
abbrev cT:D->D->OD
 |.int i,.int j=>aa (.int (i+j))
 |.str a,.str b=>if a.length+b.length<=16777216 then aa (.str (a++b)) else ab
 |.lst a,.lst b=>if a.length+b.length<=16777216 then aa (.lst (a++b)) else ab
 | _,_=>ab
@[reducible]noncomputable def kR:D->D->OD:=dI0 λi j=>.int (i-j)
@[reducible]noncomputable def qC:D->D->OD:=dI oE λi j=>.int (i / j)
@[reducible]noncomputable def jx:D->D->OD:=dI (λ_ j=>0<j) λi j=>.int (i % j)
@[reducible]noncomputable def nc:D->D->OD:=dI qf λi j=>.int (i ^ j.toNat)
@[reducible]noncomputable def dLt:D->D->OD:=dI0 λi j=>.bl (decide (i<j))
@[reducible]noncomputable def dLe:D->D->OD:=dI0 λi j=>.bl (decide (i<=j))
@[reducible]noncomputable def dGt:D->D->OD:=dI0 λi j=>.bl (decide (j<i))
@[reducible]noncomputable def dGe:D->D->OD:=dI0 λi j=>.bl (decide (j<=i))
variable{gd:Int->Int->D}
def ul{f:Value->Value->Sem Value}{C:Int->Int->Prop}[∀i j,Decidable (C i j)]{g:Int->Int->V}(h:OpR X f (rI C g))(q:∀G H i j,Rep G H (gd i j) (g i j)):OpD c X f (dI C gd):=by
 rintro pins s σ H U vy v u Q I L M ⟨Hf,x,y,d,T,z,B,e,k⟩;unfold dI at e;split at e
 .split at e
  .rename_i n;cases e;exact h pins s σ H U vy v u Q I L M ⟨_,_,z,B,n,k _ Hf H (Ext.refl T) (q _ _ _ _)⟩
  .nomatch e
 .nomatch e
def qE{f:Value->Value->Sem Value}{g:Int->Int->V}(h:OpR X f (rI0 g))(n:∀G H i j,Rep G H (gd i j) (g i j)):OpD c X f (dI0 gd):=by
 rintro pins s σ H T U v u Q I B L ⟨Hf,x,y,d,M,q,z,e,k⟩;unfold dI0 at e;split at e
 .cases e;exact h pins s σ H T U v u Q I B L ⟨_,_,q,z,k _ Hf H (Ext.refl M) (n _ _ _ _)⟩
 .nomatch e
def eO:OpD c X (fS .Add) cT:=by
 rintro pins s σ H M T v u Q I B L ⟨Hf,x,y,d,q,h,n,e,k⟩;unfold cT at e;split at e
 .cases e;exact IE pins s σ H M T v u Q I B L ⟨_,_,h,n,k _ Hf H (Ext.refl q) rfl⟩
 .split at e
  .rename_i z;cases e;exact I0 pins s σ H M T v u Q I B L ⟨_,_,h,n,by rw[cL];exact z,k _ Hf H (Ext.refl q) rfl⟩
  .nomatch e
 .split at e
  .rename_i z;cases e;obtain⟨a,vs,e1,q1,h⟩:=h;obtain⟨b,us,e2,q2,n⟩:=n
   exact CF pins s σ H M T v u Q I B L ⟨a,b,vs,us,e1,e2,q _ _ q1,q _ _ q2,by rw[cL,<- h.length,<- n.length];exact z,
    λp U=>k _ _ _ (Ext.new q U) ⟨p,_,rfl,bw,(h.append n).up (cu (q.free U))⟩⟩
  .nomatch e
 .nomatch e
def nh:OpD c X (fS .Sub) kR:=qE IF λ_ _ _ _=>rfl
def C5:OpD c X (fS .FloorDiv) qC:=ul IG λ_ _ _ _=>rfl
def lN:OpD c X (fS .Mod) jx:=ul IH λ_ _ _ _=>rfl
def qF:OpD c X (fS .Pow) nc:=ul II λ_ _ _ _=>rfl
def x9:OpD c X (cW .Lt) dLt:=qE IM λ_ _ _ _=>rfl
def ya:OpD c X (cW .LtE) dLe:=qE IN λ_ _ _ _=>rfl
def iX:OpD c X (cW .Gt) dGt:=qE IP λ_ _ _ _=>rfl
def C6:OpD c X (cW .GtE) dGe:=qE IQ λ_ _ _ _=>rfl
def um{g:Int->Int->D}(h:∀i j,(g i j).scalar=ac):∀x y d,dI0 g x y=aa d->d.scalar=ac:=by
 intro x y d e;unfold dI0 at e;split at e
 .cases e;exact h _ _
 .nomatch e
def yb:∀x y d,dLt x y=aa d->d.scalar=ac:=um λ_ _=>rfl
def yc:∀x y d,dLe x y=aa d->d.scalar=ac:=um λ_ _=>rfl
def kS:∀x y d,dGt x y=aa d->d.scalar=ac:=um λ_ _=>rfl
def C7:∀x y d,dGe x y=aa d->d.scalar=ac:=um λ_ _=>rfl
abbrev fO:D->OD
 |.int i=>aa (.int (-i))
 | _=>ab
abbrev m1(m:D->OD)(f:MF1)(ρ:LS):OD:=(f ρ).bind m
def iY{f:MF1}{pos:Pos}(ha:DE c X a f):DE c X (.UnaryOp .USub a pos) (m1 fO f):=PE.imp (ID IJ ha) λσ H Q q=>by
 obtain⟨Hf0,H0,Hf,ρ,d,st,h,k⟩:=q;unfold m1 at h
 cases n:f ρ with
 |none=>rw[n]at h;nomatch h
 |some y=>
  rw[n]at h
  cases y with
  |int i=>cases h;exact⟨Hf0,H0,Hf,ρ,.int i,st,n,λv Hf' H' x r=>⟨i,r,k _ Hf' H' x rfl⟩⟩
  | _=>nomatch h
abbrev C8:D->Bool
 |.non=>ac
 | _=>ag
def C9{x:D}(r:Rep G H x v):decide (v=.non)=C8 x:=by
 cases x with
 |non=>subst r;rfl
 |bl b=>subst r;rfl
 |int i=>subst r;rfl
 |str x=>subst r;rfl
 |lst _=>obtain⟨a,_,e,_⟩:=r;subst e;rfl
 |tup _=>obtain⟨a,_,e,_⟩:=r;subst e;rfl
 |kl _=>obtain⟨a,_,e,_⟩:=r;subst e;rfl
 |kt _=>obtain⟨a,_,e,_⟩:=r;subst e;rfl
 |dic _ _=>obtain⟨a,_,e,_⟩:=r;subst e;rfl
 |ins _ _ _=>obtain⟨a,_,_,e,_⟩:=r;subst e;rfl
 |kd _ _=>obtain⟨a,_,_,e,_⟩:=r;subst e;rfl
 |dT _ _=>obtain⟨a,_,e,_⟩:=r;subst e;rfl
abbrev isD(x y:D):Option Bool:=match y with
 |.non=>aa (C8 x)
 |.bl b=>match x with
  |.non=>aa ag
  |.bl a=>aa (a==b)
  | _=>ab
 | _=>ab
abbrev dIs(x y:D):OD:=(isD x y).map .bl
abbrev qG(x y:D):OD:=(isD x y).map λb=>.bl (!b)
def Da:OpD c X (cW .Is) dIs:=by
 rintro pins s σ H M L v u Q I q z ⟨Hf,x,y,d,B,h,n,e,k⟩
 cases y with
 |non=>
  cases e
  exact IR pins s σ H M L v u Q I q z ⟨n,by rw[C9 h];exact k _ Hf H (Ext.refl B) rfl⟩
 |bl b=>
  cases x with
  |non=>cases e;subst h;exact CZ pins s σ H _ L v u Q I q z ⟨b,n,.inl rfl,k _ Hf H (Ext.refl B) rfl⟩
  |bl a=>cases e;subst h;exact CZ pins s σ H _ L v u Q I q z ⟨b,n,.inr ⟨a,rfl⟩,by rw[qh];exact k _ Hf H (Ext.refl B) rfl⟩
  | _=>nomatch e
 | _=>nomatch e
def Db:OpD c X (cW .IsNot) qG:=by
 rintro pins s σ H M L v u Q I q z ⟨Hf,x,y,d,B,h,n,e,k⟩
 cases y with
 |non=>
  cases e
  exact IS pins s σ H M L v u Q I q z ⟨n,by rw[C9 h];exact k _ Hf H (Ext.refl B) rfl⟩
 |bl b=>
  cases x with
  |non=>cases e;subst h;exact C0 pins s σ H _ L v u Q I q z ⟨b,n,.inl rfl,k _ Hf H (Ext.refl B) rfl⟩
  |bl a=>cases e;subst h;exact C0 pins s σ H _ L v u Q I q z ⟨b,n,.inr ⟨a,rfl⟩,by rw[qh];exact k _ Hf H (Ext.refl B) rfl⟩
  | _=>nomatch e
 | _=>nomatch e
def oK{x:Option Bool}{g:Bool->Bool}:∀d,x.map (λb=>D.bl (g b))=aa d->d.scalar=ac:=by
 intro d e
 cases x with
 |none=>nomatch e
 |some b=>cases e;rfl
def Dc:∀x y d,dIs x y=aa d->d.scalar=ac:=λ_ _ d e=>oK d e
def Dd:∀x y d,qG x y=aa d->d.scalar=ac:=λ_ _ d e=>oK d e
abbrev eqF:D->D->Bool
 |.non,.non=>ac
 |.bl a,.bl b=>a==b
 |.int a,.int b=>a==b
 |.str a,.str b=>a==b
 | _,_=>ag
abbrev fq(f:D->D->Option Bool):LD->LD->Option Bool
 | [],[]=>aa ac
 |x::xs,y::ys=>(f x y).bind λb=>(fq f xs ys).map λr=>b && r
 | _,_=>aa ag
abbrev yd:D->D->Bool
 |.bl _,.int _=>ac
 |.int _,.bl _=>ac
 | _,_=>ag
abbrev ye(f:D->D->Option Bool):D->D->Option Bool
 |.lst xs,.lst ys=>if xs.length=ys.length then fq f xs ys else aa ag
 |.tup xs,.tup ys=>if xs.length=ys.length then fq f xs ys else ab
 |x,y=>if x.scalar && y.scalar && !yd x y then aa (eqF x y) else ab
abbrev deq:Nat->D->D->Option Bool
 | 0,_,_=>ab
 |n+1,x,y=>ye (deq n) x y
abbrev dEq(x y:D):OD:=(deq 20 x y).map .bl
abbrev dNe(x y:D):OD:=(deq 20 x y).map λb=>.bl (!b)
def dA:∀x y d,dEq x y=aa d->d.scalar=ac:=λ_ _ d e=>oK d e
def fE:∀x y d,dNe x y=aa d->d.scalar=ac:=λ_ _ d e=>oK d e
variable{x y:D}{xs ys:LD}{b:Bool}
def De{f:D->D->Option Bool}(h:fq f (x::xs) (y::ys)=aa b):∃n q,f x y=aa n/\fq f xs ys=aa q/\b=(n && q):=by
 unfold fq at h
 cases z:f x y with
 |none=>rw[z]at h;nomatch h
 |some n=>
  cases B:fq f xs ys with
  |none=>rw[z,B]at h;nomatch h
  |some q=>rw[z,B]at h;cases h;exact⟨n,q,rfl,rfl,rfl⟩
def ni{f:D->D->Option Bool}:∀{xs ys:LD} {b:Bool},xs.length=ys.length->fq f xs ys=aa b->∃e:Nat->Bool,(∀j x y,xs[j]?=aa x->ys[j]?=aa y->f x y=aa (e j))/\(cp xs.length).all e=b
 | [],[],b,_,h=>by cases h;exact⟨λ_=>ac,λj x y e=>by simp at e,rfl⟩
 |x::xs,y::ys,b,hl,h=>by
  obtain⟨q,T,z,B,rfl⟩:=De h;obtain⟨e,I,ha⟩:=ni (by simpa using hl) B
  refine⟨λj=>match j with | 0=>q |j+1=>e j,λj L M ex n=>?_,?_⟩
  .cases j with
   |zero=>simp at ex n;subst ex n;exact z
   |succ j=>exact I j L M (by simpa using ex) (by simpa using n)
  .rw[bT,range_succ_eq_map,mH,all_map,<- ha]
   rfl
 | [],_::_,_,hl,_=>by cases hl
 | _::_,[],_,hl,_=>by cases hl
def uq(s:d.scalar=ac):d=.non\/(∃b,d=.bl b)\/(∃i,d=.int i)\/∃z,d=.str z:=by
 cases d with
 |non=>exact .inl rfl
 |bl b=>exact .inr (.inl ⟨b,rfl⟩)
 |int i=>exact .inr (.inr (.inl ⟨i,rfl⟩))
 |str z=>exact .inr (.inr (.inr ⟨z,rfl⟩))
 | _=>nomatch s
def ur(h:(x.scalar && y.scalar && !yd x y)=ac)(n:Rep G H x v)(q:Rep G H y u):gn v=ac/\gn u=ac/\eqV v u=eqF x y/\xD v u=ac/\decide (v=u)=eqF x y:=by
 rw[di,di]at h
 rcases uq h.1.1 with rfl |⟨a,rfl⟩ |⟨a,rfl⟩ |⟨a,rfl⟩ <;> rcases uq h.1.2 with rfl |⟨b,rfl⟩ |⟨b,rfl⟩ |⟨b,rfl⟩ <;> first
  |(cases h.2;done)
  |(subst n;subst q;refine⟨rfl,rfl,rfl,rfl,?_⟩;first |exact qh |exact xE |exact xF |rfl)
variable{n:Nat}
def uu(q:¬(∃xs ys,x=.lst xs/\y=.lst ys)/\¬(∃xs ys,x=.tup xs/\y=.tup ys))(h:deq (n+1) x y=aa b):(x.scalar && y.scalar && !yd x y)=ac/\b=eqF x y:=by
 replace h:ye _ x y=aa b:=h;unfold ye at h;split at h
 .exact absurd ⟨_,_,rfl,rfl⟩ q.1
 .exact absurd ⟨_,_,rfl,rfl⟩ q.2
 .split at h
  .rename_i z;cases h;exact⟨z,rfl⟩
  .nomatch h
def Dg:∀(n:Nat) {x y:D} {b:Bool} {v:V},deq n x y=aa b->Rep G H x v->Rep G H y v->b=ac:=by
 intro n
 induction n with
 |zero=>intro x y b v h;nomatch h
 |succ n ih=>
  have all:∀(xs ys:LD) vs b,aB G H xs vs->aB G H ys vs->fq (deq n) xs ys=aa b->b=ac:=by
   intro xs
   induction xs with
   |nil=>
    intro ys vs b B z h;cases (B);have:ys=[]:=pS.mp z.length;subst this
    cases h;rfl
   |cons x xs ihx=>
    intro ys vs b B z h;obtain⟨v,r,e,h1,h2⟩:=B;subst e
    cases ys with
    |nil=>cases (z)
    |cons y ys=>
     obtain⟨v',r',e,T,U⟩:=z;cases e;obtain⟨b1,b2,e1,e2,rfl⟩:=De h;rw[ih e1 h1 T,ihx ys _ b2 h2 U e2];rfl
  intro x y b v h B z
  by_cases hl:∃xs ys,x=.lst xs/\y=.lst ys
  .obtain⟨xs,ys,rfl,rfl⟩:=hl;obtain⟨a,vs,e,q,B⟩:=B;obtain⟨a',vs',M,L,z⟩:=z;subst e;cases M;rw[q]at L;cases L;have I:=B.length.trans z.length.symm;replace h:(if xs.length=ys.length then fq _ xs ys else aa ag)=aa b:=h;rw[if_pos I]at h;exact all xs ys vs b B z h
  .by_cases ht:∃xs ys,x=.tup xs/\y=.tup ys
   .obtain⟨xs,ys,rfl,rfl⟩:=ht;obtain⟨a,vs,e,q,B⟩:=B;obtain⟨a',vs',M,L,z⟩:=z;subst e;cases M;rw[q]at L;cases L;replace h:(if xs.length=ys.length then fq _ xs ys else ab)=aa b:=h;rw[if_pos (B.length.trans z.length.symm)]at h;exact all xs ys vs b B z h
   .obtain⟨hs,rfl⟩:=uu ⟨hl,ht⟩ h;obtain⟨_,_,_,_,e⟩:=ur hs B z;rw[<- e];exact decide_eq_true rfl
variable{s:aI}{us:List V}
def oM{its h:LVa}{e:Nat->Bool}(r1:aB G H xs vs)(r2:aB G H ys us)(r:aX vs its)(r':aX us h)
 (he:∀j x y,xs[j]?=aa x->ys[j]?=aa y->deq n x y=aa (e j))
 (ih:∀{x y:D} {b:Bool} {v u:V} {w L:Value},deq n x y=aa b->Rep G H x v->Rep G H y u->aR v w->aR u L->dE A s w L b):
  ∀j (B:j<its.toArray.size) (I:j<h.toArray.size),dE A s its.toArray[j] h.toArray[j] (e j):=λj B I=>by
 have q:j<its.length:=by simpa using B
 have z:j<h.length:=by simpa using I
 obtain⟨v,T,rv⟩:=r.at' (i:=j) (u:=its[j]) (by simp[q]);obtain⟨u,M,ru⟩:=r'.at' (i:=j) (u:=h[j]) (by simp[z]);obtain⟨x,ex,rx⟩:=r1.get' T;obtain⟨y,U,ry⟩:=r2.get' M;exact ih (he j x y ex U) rx ry rv ru
def Dh(I:Inv X pins σ H s):∀(n:Nat) {A:eI} {x y:D} {b:Bool} {v u:V} {w w':Value},A.units+n<cLine->deq n x y=aa b->Rep (Gx c X) H x v->Rep (Gx c X) H y u->aR v w->aR u w'->dE A s w w' b:=by
 intro n
 induction n with
 |zero=>intro A x y b v u w w' _ h;nomatch h
 |succ n ih=>
  intro A x y b v u w w' hu h r1 r2 rv ru;have ll:∀{x y:D} {b:Bool} {v u:V} {w w':Value},deq n x y=aa b->Rep _ H x v->Rep _ H y u->aR v w->aR u w'->dE A.in1 s w w' b:=λh a b c d=>ih (by rw[xh];lia) h a b c d
  by_cases hl:∃xs ys,x=.lst xs/\y=.lst ys
  .obtain⟨xs,ys,rfl,rfl⟩:=hl;obtain⟨a,vs,e,q,z⟩:=id r1;obtain⟨a',vs',e',q',B⟩:=id r2;subst e e';cases rv;subst ru
   by_cases M:a=a'
   .subst M;have:=Dg _ h (⟨a,vs,rfl,q,z⟩) ⟨a,vs',rfl,q',B⟩;subst this;exact xv _
   .refine dE.of_refs M ?_;obtain⟨its,rr,pl,hz⟩:=I.list (SqL.of q);obtain⟨its2,T,U,hz2⟩:=I.list (SqL.of q');have l1:=rr.length;have l2:=T.length;have l3:=z.length;have l4:=B.length;replace h:(if xs.length=ys.length then fq _ xs ys else aa ag)=aa b:=h;split at h
    .rename_i L;obtain⟨ee,he,ha⟩:=ni L h;have:=SeqAt.RcAt.lists pl.isList U.isList (by simp only[size_toArray];lia) (by lia) (oM z B rr T he ll);rw[size_toArray,<- l1,<- l3,ha]at this;exact this
    .rename_i L;cases h;exact SeqAt.RcAt.lists_lengths pl.isList U.isList (by simp only[size_toArray,bne_iff_ne];lia) (by lia)
  .by_cases ht:∃xs ys,x=.tup xs/\y=.tup ys
   .obtain⟨xs,ys,rfl,rfl⟩:=ht;obtain⟨a,vs,e,q,z⟩:=id r1;obtain⟨a',vs',e',q',B⟩:=id r2;subst e e';cases rv;subst ru
    by_cases M:a=a'
    .subst M;have:=Dg _ h (⟨a,vs,rfl,q,z⟩) ⟨a,vs',rfl,q',B⟩;subst this;exact xv _
    .refine dE.of_refs M ?_;obtain⟨its,rr,pl,hz⟩:=I.tuple (SqT.of q);obtain⟨its2,T,U,hz2⟩:=I.tuple (SqT.of q');have l1:=rr.length;have l2:=T.length;have l3:=z.length;have l4:=B.length;replace h:(if xs.length=ys.length then fq _ xs ys else ab)=aa b:=h;split at h
     .rename_i L;obtain⟨ee,he,ha⟩:=ni L h;have:=SeqAt.RcAt.tuples (pl) (U) (by lia) (oM z B rr T he ll);have hsz:its.toArray.size=its2.toArray.size:=by simp only[size_toArray];lia
      rw[<- hsz,pX,beq_self_eq_true,Bool.and_true,size_toArray,<- l1,<- l3,ha]at this;exact this
     .nomatch h
   .obtain⟨hs,rfl⟩:=uu ⟨hl,ht⟩ h;obtain⟨f1,f2,e,_,_⟩:=ur hs r1 r2;rw[<- e];exact CA rv ru f1 f2
def c7(hu:X.A.units+64<cLine):OpD c X (cW .Eq) dEq:=by
 rintro pins s σ H v u w w' Q I rv ru ⟨Hf,x,y,d,s0,r1,r2,e,k⟩;unfold dEq at e
 cases h:deq 20 x y with
 |none=>rw[h]at e;nomatch e
 |some b=>
  rw[h]at e;cases e;have q0:=k _ Hf H (Ext.refl s0) rfl;have fin:EP X pins σ Q _ s:=⟨.bl b,H,I,rfl,q0⟩;have r1:=r1.up s0;have r2:=r2.up s0;have ll:∀{x y:D} {b:Bool} {v u:V} {w w':Value},deq 19 x y=aa b->Rep _ H x v->Rep (Gx c X) H y u->aR v w->aR u w'->dE X.A.in1 s w w' b:=λh a b c d=>Dh I 19 (by rw[xh];lia) h a b c d
  by_cases hl:∃xs ys,x=.lst xs/\y=.lst ys
  .obtain⟨xs,ys,rfl,rfl⟩:=hl;obtain⟨a,vs,e,q,L⟩:=id r1;obtain⟨a',vs',e',q',M⟩:=id r2;subst e e';cases rv;subst ru;obtain⟨its,rr,pl,hz⟩:=I.list (SqL.of q);obtain⟨U,B,T,hz2⟩:=I.list (SqL.of q');have l1:=rr.length;have l2:=B.length;have l3:=L.length;have l4:=M.length;replace h:(if xs.length=ys.length then fq _ xs ys else aa ag)=aa b:=h;split at h
   .rename_i z;obtain⟨ee,he,ha⟩:=ni z h;refine SeqAt.eq_listAt pl.isList T.isList (by simp only[size_toArray];lia) (by lia) (oM L M rr B he ll) ?_;rw[size_toArray,<- l1,<- l3,ha];exact fin
   .rename_i z;cases h;exact SeqAt.eq_list_lengthsAt pl.isList T.isList (by simp only[size_toArray,bne_iff_ne];lia) (by lia) fin
  .by_cases ht:∃xs ys,x=.tup xs/\y=.tup ys
   .obtain⟨xs,ys,rfl,rfl⟩:=ht;obtain⟨a,vs,e,q,L⟩:=id r1;obtain⟨a',vs',e',q',M⟩:=id r2;subst e e';cases rv;subst ru;obtain⟨its,rr,pl,hz⟩:=I.tuple (SqT.of q);obtain⟨U,B,T,hz2⟩:=I.tuple (SqT.of q');have l1:=rr.length;have l2:=B.length;have l3:=L.length;have l4:=M.length;replace h:(if xs.length=ys.length then fq _ xs ys else ab)=aa b:=h;split at h
    .rename_i z;obtain⟨ee,he,ha⟩:=ni z h;refine SeqAt.eq_tupleAt (pl) (T) (by lia) (oM L M rr B he ll) ?_;have hsz:its.toArray.size=U.toArray.size:=by simp only[size_toArray];lia
     rw[<- hsz,pX,beq_self_eq_true,Bool.and_true,size_toArray,<- l1,<- l3,ha];exact fin
    .nomatch h
   .obtain⟨hs,rfl⟩:=uu ⟨hl,ht⟩ h;obtain⟨_,_,_,hsc,e⟩:=ur hs r1 r2;exact IK pins s σ H v u w w' Q I rv ru ⟨hsc,by rw[e];exact q0⟩
def fF(hu:X.A.units+64<cLine):OpD c X (cW .NotEq) dNe:=by
 rintro pins s σ H v u w w' Q I rv ru ⟨Hf,x,y,d,s0,r1,r2,e,k⟩;unfold dNe at e
 cases h:deq 20 x y with
 |none=>rw[h]at e;nomatch e
 |some b=>
  rw[h]at e;cases e;have q0:=k _ Hf H (Ext.refl s0) rfl;have fin:EP X pins σ Q _ s:=⟨.bl (!b),H,I,rfl,q0⟩;have r1:=r1.up s0;have r2:=r2.up s0;have ll:∀{x y:D} {b:Bool} {v u:V} {w w':Value},deq 19 x y=aa b->Rep _ H x v->Rep (Gx c X) H y u->aR v w->aR u w'->dE X.A.in1 s w w' b:=λh a b c d=>Dh I 19 (by rw[xh];lia) h a b c d
  by_cases hl:∃xs ys,x=.lst xs/\y=.lst ys
  .obtain⟨xs,ys,rfl,rfl⟩:=hl;obtain⟨a,vs,e,q,L⟩:=id r1;obtain⟨a',vs',e',q',M⟩:=id r2;subst e e';cases rv;subst ru;obtain⟨its,rr,pl,hz⟩:=I.list (SqL.of q);obtain⟨U,B,T,hz2⟩:=I.list (SqL.of q');have l1:=rr.length;have l2:=B.length;have l3:=L.length;have l4:=M.length;replace h:(if xs.length=ys.length then fq _ xs ys else aa ag)=aa b:=h;split at h
   .rename_i z;obtain⟨ee,he,ha⟩:=ni z h;refine SeqAt.RcNeAt.lists pl.isList T.isList (by simp only[size_toArray];lia) (by lia) (oM L M rr B he ll) X.prog X.w X.xe _ ?_;rw[size_toArray,<- l1,<- l3,ha];exact fin
   .rename_i z;cases h;exact SeqAt.RcNeAt.lists_lengths pl.isList T.isList (by simp only[size_toArray,bne_iff_ne];lia) (by lia) X.prog X.w X.xe _ fin
  .by_cases ht:∃xs ys,x=.tup xs/\y=.tup ys
   .obtain⟨xs,ys,rfl,rfl⟩:=ht;obtain⟨a,vs,e,q,L⟩:=id r1;obtain⟨a',vs',e',q',M⟩:=id r2;subst e e';cases rv;subst ru;obtain⟨its,rr,pl,hz⟩:=I.tuple (SqT.of q);obtain⟨U,B,T,hz2⟩:=I.tuple (SqT.of q');have l1:=rr.length;have l2:=B.length;have l3:=L.length;have l4:=M.length;replace h:(if xs.length=ys.length then fq _ xs ys else ab)=aa b:=h;split at h
    .rename_i z;obtain⟨ee,he,ha⟩:=ni z h;refine SeqAt.RcNeAt.tuples (pl) (T) (by lia) (oM L M rr B he ll) X.prog X.w X.xe _ ?_;have hsz:its.toArray.size=U.toArray.size:=by simp only[size_toArray];lia
     rw[<- hsz,pX,beq_self_eq_true,Bool.and_true,size_toArray,<- l1,<- l3,ha];exact fin
    .nomatch h
   .obtain⟨hs,rfl⟩:=uu ⟨hl,ht⟩ h;obtain⟨_,_,_,hsc,e⟩:=ur hs r1 r2;exact IL pins s σ H v u w w' Q I rv ru ⟨hsc,by rw[e];exact q0⟩
abbrev eqX:D->D->Bool
 |.non,.non=>ac
 |.bl a,.bl b=>a==b
 |.bl a,.int b=>(if a then 1 else 0)==b
 |.int a,.bl b=>a==(if b then 1 else 0)
 |.int a,.int b=>a==b
 |.str a,.str b=>a==b
 | _,_=>ag
abbrev inD(x y:D):Option Bool:=(ik y).bind λds=>if x.scalar && ds.all D.scalar then aa (ds.any λd=>eqX d x) else ab
abbrev dIn(x y:D):OD:=(inD x y).map .bl
abbrev jZ(x y:D):OD:=(inD x y).map λb=>.bl (!b)
def qH:∀x y d,dIn x y=aa d->d.scalar=ac:=λ_ _ d e=>oK d e
def qI:∀x y d,jZ x y=aa d->d.scalar=ac:=λ_ _ d e=>oK d e
def Ki(h:x.scalar=ac)(q:y.scalar=ac)(z:Rep G H x v)(B:Rep G H y u):gn v=ac/\gn u=ac/\eqV v u=eqX x y:=by
 rcases uq h with rfl |⟨a,rfl⟩ |⟨a,rfl⟩ |⟨a,rfl⟩ <;> rcases uq q with rfl |⟨b,rfl⟩ |⟨b,rfl⟩ |⟨b,rfl⟩ <;> (subst z;subst B;exact⟨rfl,rfl,rfl⟩)
def Di{G:Gc}{H:Hp}{x:D}{v:V}(z:x.scalar=ac)(r:Rep G H x v):∀{ds:LD} {vs:List V},ds.all D.scalar=ac->aB G H ds vs->vs.all gn=ac/\inV v vs=ds.any λd=>eqX d x
 | [],_,_,h=>by cases (h);exact⟨rfl,rfl⟩
 |d::ds,_,ha,q3_=>by
  obtain⟨u,M,e,I,L⟩:=q3_;subst e;rw[mH,di]at ha;obtain⟨f1,f2,e⟩:=Ki ha.1 z I r;obtain⟨B,q⟩:=Di z r ha.2 L;refine⟨by rw[mH,f1,B];rfl,?_⟩;unfold inV at q ⊢;rw[iK,iK,e,q]
def Dj(e:inD x y=aa b)(z:Rep G H x v)(M:Rep G H y u):∃p vs,u=.ref p/\(SqL G.K H p vs\/SqT G.K H p vs)/\gn v=ac/\vs.all gn=ac/\inV v vs=b:=by
 unfold inD at e
 cases es:ik y with
 |none=>rw[es]at e;nomatch e
 |some ds=>
  rw[es]at e;replace e:(if _=ac then aa _ else ab)=aa b:=e;split at e
  .rename_i h;cases e;rw[di]at h;obtain⟨a,vs,B,q,r⟩:=ue es M;obtain⟨I,L⟩:=Di h.1 z h.2 r
   have f:gn v=ac:=by cases x <;> first |(subst z;rfl) |(cases h.1)
   exact⟨a,vs,B,q,f,I,L⟩
  .nomatch e
def qJ:OpD c X (cW .In) dIn:=by
 rintro pins s σ H v u w w' Q I rv U ⟨Hf,x,y,d,z,M,T,e,k⟩;unfold dIn at e
 cases h:inD x y with
 |none=>rw[h]at e;nomatch e
 |some b=>
  rw[h]at e;cases e;obtain⟨p,vs,B,q,f1,f2,L⟩:=Dj h (M.up z) (T.up z);refine Jz pins s σ H v u w w' Q I rv U ⟨p,vs,B,q,f1,f2,?_⟩;rw[if_neg bZ,L];exact k _ Hf H (Ext.refl z) rfl
def qK:OpD c X (cW .NotIn) jZ:=by
 rintro pins s σ H v u w w' Q I rv U ⟨Hf,x,y,d,z,M,T,e,k⟩;unfold jZ at e
 cases h:inD x y with
 |none=>rw[h]at e;nomatch e
 |some b=>
  rw[h]at e;cases e;obtain⟨p,vs,B,q,f1,f2,L⟩:=Dj h (M.up z) (T.up z);refine JA pins s σ H v u w w' Q I rv U ⟨p,vs,B,q,f1,f2,?_⟩;rw[if_pos rfl,L];exact k _ Hf H (Ext.refl z) rfl
def yf{i:Int}(h:atI ds i=aa d)(r:aB G H ds vs):∃v,atI vs i=aa v/\Rep G H d v:=by
 unfold atI at h ⊢;rw[<- r.length]
 cases e:ixN ds.length i with
 |none=>rw[e]at h;nomatch h
 |some j=>
  rw[e]at h;exact r.get h
abbrev ixD(ds:LD):D->OD
 |.int k=>atI ds k
 | _=>ab
abbrev mIx(f:MF2)(g:MF1)(ρ:LS):OD:=(f ρ).bind λds=>(g ρ).bind λi=>ixD ds i
variable{b:Expr}
def ay{pos:Pos}{f:MF2}{g:MF1}(ha:DC c X a f)(hb:DE c X b g)(hs:t4 b:=by exact λ_ _=>rfl):DE c X (.Subscript a b pos) (mIx f g):=
 PE.imp (xO (xP.or xQ) ha hb hs) λσ H Q q_=>by
  obtain⟨Hf0,H0,Hf,ρ,d,st,z,k⟩:=q_;unfold mIx at z
  cases I:f ρ with
  |none=>rw[I]at z;nomatch z
  |some ds=>
   cases M:g ρ with
   |none=>rw[I,M]at z;nomatch z
   |some i=>
    rw[I,M]at z
    cases i with
    |int n=>
     refine⟨Hf0,H0,Hf,ρ,ds,st,I,λl vs al H1 U q r=>⟨Hf0,H0,al,ρ,.int n,st.step U,M,λu a9 H2 L r2=>?_⟩⟩;cases (r2);obtain⟨v,T,rv⟩:=yf z r;have B:=k v a9 H2 (U.trans L) (rv.up L.f)
     rcases q with q |q
     .exact .inl ⟨l,vs,n,v,rfl,rfl,L.h.seq q,T,B⟩
     .exact .inr ⟨l,vs,n,v,rfl,rfl,L.h.tup q,T,B⟩
    | _=>nomatch z
abbrev oN(xs:LD)(lo hi:Option Int):LD:=(xs.drop (HT.sIx xs.length 0 lo)).take (HT.sIx xs.length xs.length hi-HT.sIx xs.length 0 lo)
abbrev lsD:D->OLD
 |.lst xs=>aa xs
 |.kl xs=>aa xs
 | _=>ab
def gH(e:lsD d=aa ds)(r:Rep G H d v):∃a vs,v=.ref a/\SqL G.K H a vs/\aB G H ds vs:=by
 cases d with
 |lst xs=>cases e;obtain⟨a,vs,h,q,r⟩:=r;exact⟨a,vs,h,SqL.of q,r⟩
 |kl xs=>cases e;obtain⟨a,vs,h,q,r⟩:=r;exact⟨a,vs,h,q,r⟩
 | _=>nomatch e
inductive Dk(G:Gc)(f:LS->Option (Option Int))(σ:St)(H:Hp)(Q:Option Int->Hp->Prop):Prop
 |mk:∀Hf0 H0 Hf ρ i,aC G Hf0 H0 Hf H σ ρ->f ρ=aa i->(∀Hf' H',Ext Hf H Hf' H'->Q i H')->Dk G f σ H Q
abbrev DPt(c:Str->Addr)(X:Cx)(e:Option Expr)(f:LS->Option (Option Int)):Prop:=PO X e (Dk (Gx c X) f)
def qN:DPt c X ab (λ_=>aa ab):=λpins s σ H Q I q=>by
 obtain⟨Hf0,H0,Hf,ρ,i,st,h,k⟩:=q;exact(xM pins s σ H Q I (by cases h;exact k Hf H (Ext.refl st.sub)))
abbrev mPt(f:MF1)(ρ:LS):Option (Option Int):=(f ρ).bind λd=>match d with
 |.int i=>aa (aa i)
 | _=>ab
def nj{f:MF1}(h:DE c X e f):DPt c X (aa e) (mPt f):=λpins s σ H Q I B=>by
 obtain⟨Hf0,H0,Hf,ρ,i,st,q,k⟩:=B
 exact (Ct h pins s σ H Q I (by
 unfold mPt at q
 cases z:f ρ with
 |none=>rw[z]at q;nomatch q
 |some d=>
  rw[z]at q
  cases d with
  |int n=>cases q;exact⟨Hf0,H0,Hf,ρ,.int n,st,z,λv Hf' H' x r=>⟨n,r,k Hf' H' x⟩⟩
  | _=>nomatch q))
abbrev mSl(f:MF1)(l h:LS->Option (Option Int))(ρ:LS):OLD:=(f ρ).bind λd=>(lsD d).bind λds=>(l ρ).bind λlo=>(h ρ).map λhi=>oN ds lo hi
def Dl(r:aB G H ds vs)(lo hi:Option Int):aB G H (oN ds lo hi) (m3 vs lo hi):=by
 unfold oN m3;rw[r.length];exact(r.drop _).take _
variable{p2:Pos}
def yg{pos:Pos}{f:MF1}{l h:LS->Option (Option Int)}{lo hi:Option Expr}(ha:DE c X e f)(hl:DPt c X lo l)(hh:DPt c X hi h):DO c X (.Subscript e (.Slice lo hi ab p2) pos) (mSl f l h):=
 PE.imp (xN Jy ha hl hh) λσ H Q q_=>by
  obtain⟨Hf0,H0,Hf,ρ,rs,st,z,k⟩:=q_;unfold mSl at z
  cases B:f ρ with
  |none=>rw[B]at z;nomatch z
  |some d=>
   cases I:lsD d with
   |none=>rw[B]at z;replace z:(lsD d).bind _=_:=z;rw[I]at z;nomatch z
   |some ds=>
    cases L:l ρ with
    |none=>rw[B]at z;replace z:(lsD d).bind _=_:=z;rw[I,L]at z;nomatch z
    |some lo'=>
     cases U:h ρ with
     |none=>rw[B]at z;replace z:(lsD d).bind _=_:=z;rw[I,L,U]at z;nomatch z
     |some hi'=>
      rw[B]at z;replace z:(lsD d).bind _=_:=z;rw[I,L,U]at z;cases z;refine⟨Hf0,H0,Hf,ρ,d,st,B,λv al H1 M r1=>⟨Hf0,H0,al,ρ,lo',st.step M,L,λa9 H2 x2=>⟨Hf0,H0,a9,ρ,hi',(st.step M).step x2,U,λT H3 x3=>?_⟩⟩⟩;obtain⟨a,vs,ea,q,r⟩:=gH I r1;subst ea;have x:=(M.trans x2).trans x3;have y:=(x2.trans x3);exact⟨a,vs,rfl,(M.s.trans y.h).seq q,λp hp=>(k p _ T _ (x.trans (Ext.tmp x.s hp)) (x.h.free hp) (x.s.free hp) bw (Dl (r.up y.f) _ _))⟩
abbrev rCD(G:Gc)(m:LD->OD):List V->Hp->VK->Prop:=λvs H Q=>∃Hf ds d,aH Hf H/\aB G Hf ds vs/\m ds=aa d/\∀v Hf' H',Ext Hf H Hf' H'->Rep G Hf' d v->Q v H'
nonrec abbrev nt(c:Str->Addr)(X:Cx)(f:Value)(m:LD->OD):Prop:=ga X f (rCD (Gx c X) m)
abbrev aJ(m:LD->OD)(f:MF2)(ρ:LS):OD:=(f ρ).bind m
variable{m:LD->OD}
def uv{f:MF2}(h:aJ m f ρ=aa d):∃ds,f ρ=aa ds/\m ds=aa d:=by
 unfold aJ at h
 cases e:f ρ with
 |none=>rw[e]at h;nomatch h
 |some ds=>rw[e]at h;exact⟨ds,rfl,h⟩
variable{p:Pos}{x:Str}
def cv{pos:Pos}{f:MF2}{id:String}(M:nt c X (.builtin id) m)(hs:∀ds d,m ds=aa d->d.scalar=ac)(U:Gl X x)(hm:X.mg x=ab)(hv:gR x=aa (.builtin id))(ha:DAB c X (e::es) f)(hn:x ≠ "__name__":=by decide)(q:NDb x:=by decide)
 (T:StE X e es:=by rfl)(z:BkE X pos es:=by rfl):
  DE c X (.Call (.Name x p) (e::es) [] pos) (aJ m f):=PE.imp (qk M U hm hv ha.pa hn q T z) λσ H Q q_=>by
 obtain⟨Hf0,H0,Hf,ρ,d,st,L,k⟩:=q_;obtain⟨ds,I,B⟩:=uv L;exact⟨Hf0,H0,Hf,ρ,ds,st,I,λvs Hf' H' x r=>⟨H',ds,d,aH.refl _,r,B,λv a9 H2 x2 r2=>k v Hf' H2 (x.trans (Ext.grow x.s x2.h)) (r2.sc (hs _ _ B))⟩⟩
abbrev bE:LD->OD
 | [.lst xs]=>aa (.int xs.length)
 | [.tup xs]=>aa (.int xs.length)
 | [.kl xs]=>aa (.int xs.length)
 | [.kt xs]=>aa (.int xs.length)
 | [.str x]=>if x.length<=16777216 then aa (.int x.length) else ab
 | _=>ab
def aB.one(r:aB G H [d] vs):∃v,vs=[v]/\Rep G H d v:=by
 obtain⟨v,z,e,h,q⟩:=r;cases (q);exact⟨v,e,h⟩
def aB.two{d':D}(r:aB G H [d,d'] vs):∃v z,vs=[v,z]/\Rep G H d v/\Rep G H d' z:=by
 obtain⟨v,I,e,h,q⟩:=r;obtain⟨z,B,h'⟩:=q.one;subst B;exact⟨v,z,e,h,h'⟩
def Dm(e:bE ds=aa d):∃q,ds=[q]/\((∃xs,ik q=aa xs/\d=.int xs.length)\/∃x,q=.str x/\x.length<=16777216/\d=.int x.length):=by
 cases ds with
 |nil=>nomatch e
 |cons q ds=>
  cases ds with
  |cons _ _=>cases q <;> nomatch e
  |nil=>
   refine⟨q,rfl,?_⟩
   cases q with
   |lst xs=>cases e;exact .inl ⟨xs,rfl,rfl⟩
   |tup xs=>cases e;exact .inl ⟨xs,rfl,rfl⟩
   |kl xs=>cases e;exact .inl ⟨xs,rfl,rfl⟩
   |kt xs=>cases e;exact .inl ⟨xs,rfl,rfl⟩
   |str x=>
    replace e:(if x.length<=16777216 then aa _ else ab)=aa d:=e
    by_cases h:x.length<=16777216
    .rw[if_pos h]at e;cases e;exact .inr ⟨x,rfl,h,rfl⟩
    .rw[if_neg h]at e;nomatch e
   | _=>nomatch e
def cG:nt c X (.builtin "len") bE:=by
 rintro pins s σ H vs us Q I U ⟨Hf,ds,d,T,r,e,k⟩
 have sq:∀h xs,ds=[h]->ik h=aa xs->d=.int xs.length->wpAny _ X.A _ _ X.xe s:=λh xs B es e0=>by
  subst B e0;obtain⟨v,z,M⟩:=r.one;subst z;obtain⟨a,ws,L,q,rs⟩:=ue es M;subst L;refine JB pins s σ H _ us Q I U ⟨a,ws,rfl,x0 T q,?_⟩;rw[<- rs.length];exact k _ Hf H (Ext.refl T) rfl
 obtain⟨h,B,⟨xs,z,L⟩ |⟨x,rfl,hl,rfl⟩⟩:=Dm e
 .exact sq h xs B z L
 .subst B;obtain⟨v,z,M⟩:=r.one;subst z;exact JC pins s σ H _ us Q I U ⟨_,by rw[show v=V.str _ from M],by rw[cL];exact hl,k _ Hf H (Ext.refl T) rfl⟩
def cH:∀ds d,bE ds=aa d->d.scalar=ac:=by
 intro ds d e
 obtain⟨h,z,⟨xs,q,rfl⟩ |⟨x,rfl,B,rfl⟩⟩:=Dm e <;> rfl
def Dn{pos:Pos}{f:MF2}(U:gR x=aa (.type "list"))(T:Gl X x)(hm:X.mg x=ab)(ha:DC c X e f)(L:aY [e] X.env=(ag,eval e X.env)::aY [] X.env:=by rfl)(hn:x ≠ "__name__":=by decide)(z:NDb x:=by decide)
 (I:(fT pos (aY [] X.env)).any (·.1)=ag:=by rfl):DO c X (.Call (.Name x p) [e] [] pos) f:=
 PE.imp (tZ JD T hm U (bW ha cs L) hn z L I) λσ H Q q_=>by
 obtain⟨Hf0,H0,Hf,ρ,ds,st,M,k⟩:=q_
 exact (
  ⟨Hf0,H0,Hf,ρ,ds,st,M,λa vs Hf' H' x q r=>⟨a,vs,rfl,q,λl B=>k l vs Hf' _ (x.trans (Ext.tmp x.s B)) (x.h.free B) (x.s.free B) bw r⟩⟩)
abbrev tyN:D->Option String
 |.non=>aa "NoneType"
 |.bl _=>aa "bool"
 |.int _=>aa "int"
 |.str _=>aa "str"
 |.lst _=>aa "list"
 |.tup _=>aa "tuple"
 |.dic _ _=>aa "dict"
 | _=>ab
abbrev uw(T:String)(d:D):OD:=(tyN d).map λt=>.bl (t==T || (t == "bool" && T == "int"))
def Kj{t:String}(e:tyN d=aa t)(r:Rep G H d v):gT G.K H v (.type t):=by
 cases d with
 |non=>cases e;subst r;exact .non
 |bl b=>cases e;subst r;exact .bl b
 |int i=>cases e;subst r;exact .int i
 |str x=>cases e;subst r;exact .str x
 |lst xs=>cases e;obtain⟨a,vs,h,q,r⟩:=r;subst h;exact .lst q
 |tup xs=>cases e;obtain⟨a,vs,h,q,r⟩:=r;subst h;exact .tup q
 |dic ks xs=>cases e;obtain⟨a,vs,h,q,l,r⟩:=r;subst h;exact .dK q
 | _=>nomatch e
abbrev jy(K:bm)(T:String):Prop:=∀t∈["NoneType","bool","int","str","list","tuple","dict"],W.kitOne K (.type t) (.type T)=aa (t==T || (t == "bool" && T == "int"))
def Kk{t:String}(e:tyN d=aa t):t∈["NoneType","bool","int","str","list","tuple","dict"]:=by
 cases d <;> first |(cases e;decide) |cases e
abbrev fP(T:String)(f:MF1)(ρ:LS):OD:=(f ρ).bind (uw T)
variable{T:String}
def iZ{pos:Pos}{f:MF1}{q:Pos}{y:Str}(hk:jy X.K T)(hg:Gl X "isinstance")(hm:X.mg "isinstance"=ab)(hy:gR y=aa (.type T))(L:Gl X y)(M:X.mg y=ab)(ha:DB c X e f)
 (hs:aY [e,.Name y q] X.env=(ag,eval e X.env)::aY [.Name y q] X.env:=by rfl)(hs2:aY [.Name y q] X.env=(ag,eval (.Name y q) X.env)::aY [] X.env:=by rfl)
 (hn:y ≠ "__name__":=by decide)(I:(y==("__debug__":Str))=ag:=by decide)(U:(fT pos (aY [.Name y q] X.env)).any (·.1)=ag:=by rfl):
  DE c X (.Call (.Name "isinstance" p) [e,.Name y q] [] pos) (fP T f):=
 PE.imp (qk J6 hg hm boot_isinstance (bW ha (bW (HM (v:=.ty T) L M hy rfl hn I) cs hs2) hs) (by decide) (by decide) hs U) λσ H Q q_=>by
  obtain⟨Hf0,H0,Hf,ρ,d,st,h,k⟩:=q_;unfold fP at h
  cases B:f ρ with
  |none=>rw[B]at h;nomatch h
  |some x=>
   rw[B]at h;replace h:uw T x=aa d:=h;unfold uw at h
   cases z:tyN x with
   |none=>rw[z]at h;nomatch h
   |some t=>
    rw[z]at h;cases h;exact⟨Hf0,H0,Hf,ρ,x,st,B,λv Hf' H' x1 r=>⟨v,T,.type t,_,rfl,Kj z r,hk t (Kk z),k _ Hf' H' x1 rfl⟩⟩
inductive tDG(G:Gc)(g:D->LS->Option LS)(v:V)(σ:St)(H:Hp)(Q:St->Hp->Prop):Prop
 |mk:∀Hf0 H0 Hf ρ d ρ',aC G Hf0 H0 Hf H σ ρ->Rep G Hf d v->g d ρ=aa ρ'->(∀σ',aC G Hf0 H0 Hf H σ' ρ'->Q σ' H)->tDG G g v σ H Q
inductive Do(G:Gc)(g:LD->LS->Option LS)(vs:List V)(σ:St)(H:Hp)(Q:St->Hp->Prop):Prop
 |mk:∀Hf0 H0 Hf ρ ds ρ',aC G Hf0 H0 Hf H σ ρ->aB G Hf ds vs->g ds ρ=aa ρ'->(∀σ',aC G Hf0 H0 Hf H σ' ρ'->Q σ' H)->Do G g vs σ H Q
structure DG(c:Str->Addr)(X:Cx)(tg:Expr)(k:Nat)(g:D->LS->Option LS):Prop where
 pg:PG X tg (tDG (Gx c X) g)
 len:∀d ρ ρ',g d ρ=aa ρ'->ρ'.length=ρ.length
 keep:∀d ρ ρ' i,g d ρ=aa ρ'->k<=i->ρ'[i]?=ρ[i]?
structure DGs(c:Str->Addr)(X:Cx)(tg:LEx)(k:Nat)(g:LD->LS->Option LS):Prop where
 pg:PGs X tg (Do (Gx c X) g)
 len:∀d ρ ρ',g d ρ=aa ρ'->ρ'.length=ρ.length
 keep:∀d ρ ρ' i,g d ρ=aa ρ'->k<=i->ρ'[i]?=ρ[i]?
 many:∀ds ρ ρ',g ds ρ=aa ρ'->ds.length=tg.length
abbrev aF(i:Nat)(d:D)(ρ:LS):Option LS:=aa (ρ.set i (.im d))
def Dp(h:PG X e (iV i))(L:i<k):DG c X e k (aF i):=
 ⟨PG.imp h λv σ H Q B=>by obtain⟨Hf0,H0,Hf,ρ,d,ρ',st,r,z,q⟩:=B;cases z;exact q _ (st.setIm r),λd ρ ρ' h=>by cases h;simp,λd ρ ρ' j h I=>by
  cases h;rw[fZ (by lia)]⟩
def bB{pos:Pos}(i k:Nat)(h:X.N.Nodup)(z:i<k:=by decide)(hi:X.N[i]?=aa x:=by rfl)(B:Loc X.env.scope x:=by first |exact bU rfl |exact br rfl)(q:LcF X x:=by first |exact .inl rfl |exact .inr rfl):DG c X (.Name x pos) k (aF i):=
 Dp (qd h hi B q) z
abbrev da(ds:LD)(ρ:LS):Option LS:=match ds with
 | []=>aa ρ
 | _=>ab
abbrev bu(g:D->LS->Option LS)(h:LD->LS->Option LS)(ds:LD)(ρ:LS):Option LS:=match ds with
 |d::ds=>(g d ρ).bind λρ1=>h ds ρ1
 | []=>ab
def dX:DGs c X [] k da:=by
 refine⟨PGs.imp Ca λvs σ H Q B=>?_,λd ρ ρ' h=>?_,λd ρ ρ' i h _=>?_,λd ρ ρ' h=>?_⟩
 .obtain⟨Hf0,H0,Hf,ρ,ds,ρ',st,r,z,q⟩:=B
  cases ds with
  |nil=>cases z;exact⟨r,q _ st⟩
  |cons d ds=>nomatch z
 .cases d with
  |nil=>cases h;rfl
  |cons a b=>nomatch h
 .cases d with
  |nil=>cases h;rfl
  |cons a b=>nomatch h
 .cases d with
  |nil=>cases h;rfl
  |cons a b=>nomatch h
variable{h:LD->LS->Option LS}
def ux{g:D->LS->Option LS}(e:bu g h ds ρ=aa ρ'):∃d r ρ1,ds=d::r/\g d ρ=aa ρ1/\h r ρ1=aa ρ':=by
 cases ds with
 |nil=>nomatch e
 |cons d r=>
  replace e:(g d ρ).bind _=_:=e
  cases q:g d ρ with
  |none=>rw[q]at e;nomatch e
  |some ρ1=>rw[q]at e;exact⟨d,r,ρ1,rfl,q,e⟩
def bL{g:D->LS->Option LS}(L:DG c X e k g)(I:DGs c X es k h)(hs:(fj (e::es) X.env).map (·.2)=h9 e X.env::(fj es X.env).map (·.2):=by rfl):DGs c X (e::es) k (bu g h):=by
 refine⟨PGs.imp (tO L.pg I.pg hs) λvs σ H Q q_=>?_,λd ρ ρ' h=>?_,λd ρ ρ' i h hi=>?_,λd ρ ρ' h=>?_⟩
 .obtain⟨Hf0,H0,Hf,ρ,ds,ρ',st,r,U,q⟩:=q_;obtain⟨d,dr,ρ1,rfl,B,z⟩:=ux U;obtain⟨v,vr,ev,rv,rr⟩:=r;exact⟨v,vr,ev,Hf0,H0,Hf,ρ,d,ρ1,st,rv,B,λσ1 M=>⟨Hf0,H0,Hf,ρ1,dr,ρ',M,rr,z,q⟩⟩
 .obtain⟨d,dr,ρ1,rfl,B,z⟩:=ux h;rw[I.len _ _ _ z,L.len _ _ _ B]
 .obtain⟨d,dr,ρ1,rfl,B,z⟩:=ux h;rw[I.keep _ _ _ _ z hi,L.keep _ _ _ _ B hi]
 .obtain⟨d,dr,ρ1,rfl,B,z⟩:=ux h;rw[bT,bT,I.many _ _ _ z]
abbrev tpD:D->OLD
 |.tup xs=>aa xs
 |.kt xs=>aa xs
 | _=>ab
def Dr(e:tpD d=aa ds)(r:Rep G H d v):∃a vs,v=.ref a/\SqT G.K H a vs/\aB G H ds vs:=by
 cases d with
 |tup xs=>cases e;obtain⟨a,vs,z,q,r⟩:=r;exact⟨a,vs,z,SqT.of q,r⟩
 |kt xs=>cases e;obtain⟨a,vs,z,q,r⟩:=r;exact⟨a,vs,z,q,r⟩
 | _=>nomatch e
abbrev dg(g:LD->LS->Option LS)(d:D)(ρ:LS):Option LS:=(tpD d).bind λds=>g ds ρ
def yh{g:LD->LS->Option LS}(h:dg g d ρ=aa ρ'):∃ds,tpD d=aa ds/\g ds ρ=aa ρ':=by
 unfold dg at h
 cases e:tpD d with
 |none=>rw[e]at h;nomatch h
 |some ds=>rw[e]at h;exact⟨ds,rfl,h⟩
variable{kk:Nat}
def eL{pos:Pos}{g:LD->LS->Option LS}(hc:X.calm=ac)(h:DGs c X es k g)(hn:(fj es X.env).length=es.length:=by rfl)(I:(fj es X.env).findIdx? (·.1)=ab:=by rfl):DG c X (.Tuple es kk pos) k (dg g):=by
 refine⟨PG.imp (Cc hc h.pg hn I) λv σ H Q q_=>?_,λd ρ ρ' h'=>?_,λd ρ ρ' i h' hi=>?_⟩
 .obtain⟨Hf0,H0,Hf,ρ,d,ρ',st,r,U,q⟩:=q_;obtain⟨ds,B,z⟩:=yh U;obtain⟨a,vs,M,qa,L⟩:=Dr B r;exact⟨a,vs,M,st.sub.tup qa,by rw[<- L.length];exact h.many _ _ _ z,Hf0,H0,Hf,ρ,ds,ρ',st,L,z,q⟩
 .obtain⟨ds,B,z⟩:=yh h';exact h.len _ _ _ z
 .obtain⟨ds,B,z⟩:=yh h';exact h.keep _ _ _ _ z hi
abbrev nu(G:Gc)(Hf:Hp)(J:It)(ds:LD):Prop:=∀Hf' H',aH Hf Hf'->aH Hf' H'->∀i:Nat,
 (∀d,ds[i]?=aa d->J.go i H'/\∀x H2,J.yld i H' x H2->∃a9,Ext Hf' H' a9 H2/\Rep G a9 d x)/\(i=ds.length->J.stop i H')
abbrev uz(G:Gc)(Hf H:Hp)(J:It)(ds:LD):Prop:=∀Hf' H',Ext Hf H Hf' H'->∀i:Nat,
 (∀d,ds[i]?=aa d->J.go i H'/\∀x H2,J.yld i H' x H2->∃a9,Ext Hf' H' a9 H2/\Rep G a9 d x)/\(i=ds.length->J.stop i H')
def nu.toE(h:nu G Hf J ds):uz G Hf H J ds:=λHf' H' x i=>h Hf' H' x.f x.s i
inductive tDI(G:Gc)(f:MF2)(σ:St)(H:Hp)(R:It->Hp->Prop):Prop
 |mk:∀Hf0 H0 Hf ρ ds,aC G Hf0 H0 Hf H σ ρ->f ρ=aa ds->(∀J Hf' H',Ext Hf H Hf' H'->nu G Hf' J ds->R J H')->tDI G f σ H R
inductive uA(G:Gc)(f:MF2)(σ:St)(H:Hp)(R:It->Hp->Prop):Prop
 |mk:∀Hf0 H0 Hf ρ ds,aC G Hf0 H0 Hf H σ ρ->f ρ=aa ds->(∀J Hf' H',Ext Hf H Hf' H'->uz G Hf' H' J ds->R J H')->uA G f σ H R
abbrev DI(c:Str->Addr)(X:Cx)(tg iter:Expr)(f:MF2):Prop:=PI X tg iter (tDI (Gx c X) f)
abbrev DIe(c:Str->Addr)(X:Cx)(tg iter:Expr)(f:MF2):Prop:=PI X tg iter (uA (Gx c X) f)
def DI.de{f:MF2}(h:DI c X tg e f):DIe c X tg e f:=PI.imp h λσ H R z=>by
 obtain⟨Hf0,H0,Hf,ρ,ds,st,q,k⟩:=z;exact(⟨Hf0,H0,Hf,ρ,ds,st,q,λJ Hf' H' x i=>k J Hf' H' x i.toE⟩)
def Kl(q:SqL G.K H l vs)(r:aB G Hf ds vs):uz G Hf H (Itl G.K l) ds:=λHf' H' B i=>by
 have z:=B.h.seq q;refine⟨λd M=>?_,λU=>⟨vs,z,by rw[<- r.length,U];exact aU _⟩⟩;obtain⟨v,I,rv⟩:=r.get M;refine⟨⟨vs,v,z,I⟩,λx H2 ⟨L,y⟩=>?_⟩;subst L;have:=y vs z;rw[I]at this;cases this;exact⟨Hf',Ext.refl B.s,rv.up B.f⟩
def Km(q:SqT G.K Hf l vs)(r:aB G Hf ds vs):nu G Hf (Itt G.K l) ds:=λHf' H' f s i=>by
 have z:=(f.trans s).tup q;refine⟨λd L=>?_,λM=>⟨vs,z,by rw[<- r.length,M];exact aU _⟩⟩;obtain⟨v,B,U⟩:=r.get L;refine⟨⟨vs,v,z,B⟩,λx H2 ⟨I,y⟩=>?_⟩;subst I;have:=y vs z;rw[B]at this;cases this;exact⟨Hf',Ext.refl s,U.up f⟩
def bX{f:MF1}(h:DE c X e f):DI c X tg e (bh f):=λpins s σ H R I q_=>by
 obtain⟨Hf0,H0,Hf,ρ,ds,st,z,k⟩:=q_;unfold bh at z
 cases B:f ρ with
 |none=>rw[B]at z;nomatch z
 |some d=>
  rw[B]at z
  cases L:lsD d with
  |some M=>
   have:M=ds:=by cases d <;> first |(cases L;done) |(cases L;cases z;rfl)
   subst this;refine tQ h pins s σ H R I ⟨Hf0,H0,Hf,ρ,d,st,B,λv Hf' H' x r=>?_⟩;obtain⟨a,vs,ea,q,rs⟩:=gH L r
   exact⟨a,ea,⟨vs,x.s.seq q⟩,k _ Hf' H' x λa9 H2 f2 s2 i=>by
    have q':=(f2.trans s2).seq q;refine⟨λd ed=>?_,λei=>⟨vs,q',by rw[<- rs.length,ei];exact aU _⟩⟩;obtain⟨v,ev,rv⟩:=rs.get ed;refine⟨⟨vs,v,q',ev⟩,λx H3 ⟨U,y⟩=>?_⟩;subst U;have:=y vs q';rw[ev]at this;cases this
    exact⟨a9,Ext.refl s2,rv.up f2⟩⟩
  |none=>
   have U:tpD d=aa ds:=by cases d <;> first |(cases L;done) |(cases z;done) |(cases z;rfl)
   refine Ix h pins s σ H R I ⟨Hf0,H0,Hf,ρ,d,st,B,λv Hf' H' x r=>?_⟩;obtain⟨a,vs,ea,q,rs⟩:=Dr U r;exact⟨a,ea,⟨vs,x.s.tup q⟩,k _ Hf' H' x (Km q rs)⟩
def Kn(h:PE X e (eV i)):DIe c X tg e (ak i):=λpins s σ H R I L=>by
 obtain⟨Hf0,H0,Hf,ρ,ds,st,z,k⟩:=L
 cases es:ρ[i]? with
 |none=>unfold ak at z;rw[es]at z;nomatch z
 |some sl=>
  cases sl with
  |im d=>
   refine DI.de (bX (x6 h)) pins s σ H R I ⟨Hf0,H0,Hf,ρ,ds,st,?_,k⟩;unfold ak at z;rw[es]at z;unfold bh ae;rw[es]
   exact z
  |own xs=>
   unfold ak at z;rw[es]at z;cases z;obtain⟨l,B,_,_,vs,q,r⟩:=st.ownAt rfl es
   exact tQ h pins s σ H R I ⟨_,B,l,rfl,⟨vs,SqL.of q⟩,k _ Hf H (Ext.refl st.sub) (Kl (SqL.of q) r)⟩
  | _=>unfold ak at z;rw[es]at z;nomatch z
def yi{pos:Pos}(i:Nat)(z:X.N[i]?=aa x:=by rfl)(B:Vis X.env.scope x:=by first |exact bU rfl |exact br (bU rfl) |exact br (br rfl))(hd:NDb x:=by decide)
 (q:NCd x:=by decide):DIe c X tg (.Name x pos) (ak i):=Kn (jV z B hd q)
abbrev rng(lo:Int)(n:Nat):LD:=(cp n).map λ(i:Nat)=>.int (lo+i)
def Ds{lo:Int}:nu G Hf (Itr lo n) (rng lo n):=λHf' H' f s i=>by
 refine⟨λd q=>?_,λz=>?_⟩
 .unfold rng at q;rw[eM]at q
  cases e:(cp n)[i]? with
  |none=>rw[e]at q;nomatch q
  |some j=>
   rw[e]at q;obtain⟨hi,B⟩:=eD.mp e;rw[dH]at hi;rw[List.getElem_range]at B;subst B;cases q;exact⟨hi,λx H2 ⟨I,y⟩=>by subst I;exact⟨Hf',Ext.refl s,y⟩⟩
 .unfold rng at z;rw[au,dH]at z;exact Nat.le_of_eq z.symm
abbrev lO:LD->OLD
 | [.int j]=>if -(2 ^ 62)<=j/\j<2 ^ 62 then aa (rng 0 j.toNat) else ab
 | [.int i,.int j]=>if -(2 ^ 62)<=i/\i<2 ^ 62/\-(2 ^ 62)<=j/\j<2 ^ 62 then aa (rng i (j-i).toNat) else ab
 | _=>ab
abbrev gX(f:MF2)(ρ:LS):OLD:=(f ρ).bind lO
def oO{pos:Pos}{f:MF2}(M:Gl X "range")(hm:X.mg "range"=ab)(ha:DA c X [a] f)(hs:aY [a] X.env=[(ag,eval a X.env)]:=by rfl):DI c X tg (.Call (.Name "range" p) [a] [] pos) (gX f):=
 PI.imp (Cf M hm ha.pa hs) λσ H R q_=>by
  obtain⟨Hf0,H0,Hf,ρ,ds,st,q,k⟩:=q_;unfold gX at q
  cases z:f ρ with
  |none=>rw[z]at q;nomatch q
  |some B=>
   rw[z]at q;replace q:lO B=aa ds:=q;have U:=ha.len ρ B z;refine⟨Hf0,H0,Hf,ρ,B,st,z,λvs Hf' H' x r=>?_⟩;unfold lO at q;split at q
   .split at q
    .rename_i j I;cases q;obtain⟨v,L,rv⟩:=r.one;cases (rv);exact⟨j,L,I.1,I.2,k _ Hf' H' x Ds⟩
    .nomatch q
   .nomatch U
   .nomatch q
abbrev yj:LD->OLD
 | [x,y]=>(lsD x).bind λxs=>(lsD y).map λys=>n8 (λa b=>.tup [a,b]) xs ys
 | _=>ab
abbrev qO(f:MF2)(ρ:LS):OLD:=(f ρ).bind yj
def Ko{pos:Pos}{f:MF2}(hg:Gl X "zip")(hm:X.mg "zip"=ab)(ha:DA c X [a,b] f)(hs:aY [a,b] X.env=[(ag,eval a X.env),(ag,eval b X.env)]:=by rfl)(hs2:aY [b] X.env=[(ag,eval b X.env)]:=by rfl):
  DI c X (.Tuple eN kx tpos) (.Call (.Name "zip" p) [a,b] [] pos) (qO f):=
 PI.imp (Ka hg hm ha.pa hs hs2) λσ H R q_=>by
  obtain⟨Hf0,H0,Hf,ρ,ds,st,q,k⟩:=q_;unfold qO at q
  cases e1:f ρ with
  |none=>rw[e1]at q;nomatch q
  |some as=>
   rw[e1]at q;replace q:yj as=aa ds:=q;refine⟨Hf0,H0,Hf,ρ,as,st,e1,λvs Hf' H' x r=>?_⟩;unfold yj at q;split at q
   .rename_i dx dy
    cases ex:lsD dx with
    |none=>rw[ex]at q;nomatch q
    |some xs=>
     rw[ex]at q
     cases ey:lsD dy with
     |none=>rw[ey]at q;nomatch q
     |some ys=>
      rw[ey]at q;cases q;obtain⟨v,v',ev,rv,rv'⟩:=r.two;obtain⟨l1,U,el1,q1,r1⟩:=gH ex rv;obtain⟨l2,w2,el2,q2,r2⟩:=gH ey rv';subst el1 el2;refine⟨l1,l2,ev,⟨U,x.s.seq q1⟩,⟨w2,x.s.seq q2⟩,k _ Hf' H' x λa9 H2 f2 s2 i=>?_⟩;have g1:=(f2.trans s2).seq q1;have g2:=(f2.trans s2).seq q2;have h1:=r1.length;have h2:=r2.length;refine⟨λd B=>?_,λei=>⟨U,w2,g1,g2,?_⟩⟩
      .rw[List.getElem?_zipWith]at B
       cases M:xs[i]? with
       |none=>rw[M]at B;nomatch B
       |some x'=>
        cases hy:ys[i]? with
        |none=>rw[M,hy]at B;nomatch B
        |some y'=>
         rw[M,hy]at B;cases B;obtain⟨u1,I,ru1⟩:=r1.get M;obtain⟨u2,L,ru2⟩:=r2.get hy;refine⟨⟨U,w2,u1,u2,g1,g2,I,L⟩,λz H3 ⟨pp,z1,z2,ez,hp,eh,y1,y2⟩=>?_⟩;subst ez eh;have a1:=y1 U g1;have a2:=y2 w2 g2;rw[I]at a1;cases a1;rw[L]at a2;cases a2;exact⟨upd a9 pp _,Ext.new s2 hp,pp,_,rfl,bw,.cons (ru1.up (f2.trans (cu (s2.free hp)))) (.cons (ru2.up (f2.trans (cu (s2.free hp)))) .nil)⟩
      .rw[length_zipWith]at ei
       by_cases hh:xs.length<=ys.length
       .exact .inl (by lia)
       .exact .inr (by lia)
   .nomatch q
abbrev cU(k:Nat)(js:LN)(ρ:LS):LS:=gz k .no++js.map λj=>(ρ[j]?).getD .no
def aC.weak(h:aC G Hf0 H0 Hf H σ ρ)(z:ρ'.length=ρ.length)(q:∀(i:Nat) (s:Sl),ρ'[i]?=aa s->s=.no\/ρ[i]?=aa s):aC G Hf0 H0 Hf H σ ρ':=by
 refine h.re h.ext z (λi v s a b=>?_) λi s v a b c p=>?_
 .rcases q i s b with e |e
  .subst e;trivial
  .exact h.at' i v s a e
 .rcases q i s b with e |e
  .subst e;exact(p.calm rfl).elim
  .exact⟨s,e,p⟩
def kU{q:Type}{x:q}{l:List q}{y:q}(h:(gz k x++l)[i]?=aa y):(i<k/\y=x)\/(k<=i/\l[i-k]?=aa y):=by
 by_cases hi:i<k
 .left;rw[mx (by simpa using hi),w4,if_pos hi]at h;exact⟨hi,(cz h).symm⟩
 .right;rw[jO (by simpa using sX hi),mz]at h;exact⟨sX hi,h⟩
def nv{q z:Type}{f:q->z}{l:List q}{y:z}(h:(l.map f)[i]?=aa y):∃x,l[i]?=aa x/\y=f x:=by
 rw[eM]at h
 cases e:l[i]? with
 |none=>rw[e]at h;nomatch h
 |some x=>rw[e]at h;exact⟨x,rfl,(cz h).symm⟩
def Kp(h:js.Nodup){x:Nat}(a:js[i]?=aa x)(b:js[j]?=aa x):i=j:=by
 obtain⟨B,q⟩:=eD.mp a;obtain⟨I,z⟩:=eD.mp b;exact(List.getElem_inj h).mp (q.trans z.symm)
def aC.comp(k:Nat)(h:aC G Hf0 H0 Hf H σ ρ)(hj:js.Nodup):aC G Hf0 H0 Hf H (gU k js σ) (cU k js ρ):=by
 have own:∀i s,(cU k js ρ)[i]?=aa s->s.calm=ag->∃j,k<=i/\js[i-k]?=aa j/\ρ[j]?=aa s:=λi s a U=>by
  rcases kU a with⟨_,e⟩ |⟨hi,a⟩
  .subst e;nomatch U
  .obtain⟨j,B,es⟩:=nv a
   cases e:ρ[j]? with
   |none=>rw[e]at es;subst es;nomatch U
   |some t=>rw[e]at es;replace es:s=t:=es;subst es;exact⟨j,hi,B,e⟩
 have val:∀i v j,(gU k js σ)[i]?=aa v->k<=i->js[i-k]?=aa j->v=(σ[j]?).getD ab:=λi v j a hi B=>by
  rcases kU a with⟨hi',_⟩ |⟨_,a⟩
  .omega
  .obtain⟨j',I,es⟩:=nv a;rw[B]at I;cases I;exact es
 refine⟨h.ext,by simp[gU,cU],λi v s a b=>?_,λi j s t y z l a b c d p q=>?_⟩
 .rcases kU b with⟨_,e⟩ |⟨hi,b⟩
  .subst e;trivial
  .obtain⟨j,B,es⟩:=nv b;have ev:=val i v j a hi B
   cases e:ρ[j]? with
   |none=>rw[e]at es;subst es;trivial
   |some t=>
    rw[e]at es;subst es;obtain⟨u,eu,q⟩:=h.slot e;rw[eu]at ev;subst ev;exact q
 .have U:s.calm=ag:=by
   cases hc:s.calm with
   |true=>exact(p.calm hc).elim
   |false=>rfl
  have ht:t.calm=ag:=by
   cases hc:t.calm with
   |true=>exact(q.calm hc).elim
   |false=>rfl
  obtain⟨i',hi,ei,e1⟩:=own i s a U;obtain⟨j',hj',B,e2⟩:=own j t b ht;have v1:=val i _ i' c hi ei;have v2:=val j _ j' d hj' B;obtain⟨u1,L,_⟩:=h.slot e1;obtain⟨u2,M,_⟩:=h.slot e2;rw[L]at v1;rw[M]at v2;subst v1 v2;have:=h.dj i' j' s t y z l e1 e2 L M p q;subst this;have:=Kp hj ei B;lia
abbrev iq(h:D->Option OD):LD->OLD
 | []=>aa []
 |d::ds=>(h d).bind λo=>(iq h ds).map λr=>match o with
  |some y=>y::r
  |none=>r
def Kq{h:D->Option OD}{r:LD}(e:iq h (d::ds)=aa r):∃o q,h d=aa o/\iq h ds=aa q/\r=(match o with |some y=>y::q |none=>q):=by
 unfold iq at e
 cases z:h d with
 |none=>rw[z]at e;nomatch e
 |some o=>
  cases B:iq h ds with
  |none=>rw[z,B]at e;nomatch e
  |some q=>
   rw[z,B]at e;cases e;refine⟨o,q,rfl,rfl,?_⟩
   cases o <;> rfl
abbrev lP(g:D->LS->Option LS)(ft:MF4)(fe:MF1)(ρ:LS)(d:D):Option OD:=(g d ρ).bind λρ1=>(ft ρ1).bind λb=>if b then (fe ρ1).map aa else aa ab
abbrev bQ(k:Nat)(js:LN)(fi:MF2)(g:D->LS->Option LS)(ft:MF4)(fe:MF1)(ρ:LS):OLD:=
 (fi ρ).bind λds=>if ds.length<=16777216 then iq (lP g ft fe (cU k js ρ)) ds else ab
def lQ{q:Type}{l:List q}(h:i<l.length):∃x,l[i]?=aa x/\l.drop i=x::l.drop (i+1):=⟨l[i],by simp[h],(sM h)⟩
abbrev DTs(c:Str->Addr)(X:Cx)(eH:LEx)(f:MF4):Prop:=PTs X eH (tDT (Gx c X) f)
def dY:DTs c X [] kY:=PTs.imp J4 λσ H Q z=>by
 obtain⟨Hf0,H0,Hf,ρ,b,st,q,k⟩:=z;exact(by cases q;exact k Hf H (Ext.refl st.sub))
def uB{f:MF4}(h:DT c X e f):DTs c X [e] f:=CU h
variable{g:D->LS->Option LS}{ft:MF4}{fe:MF1}{rs:LD}
def Kr(hj:js.Nodup)(hk:∀d ρ ρ' i,g d ρ=aa ρ'->k<=i->ρ'[i]?=ρ[i]?)(eR:∀d ρ ρ',g d ρ=aa ρ'->ρ'.length=ρ.length){ti:TI}(st:aC G Hf0 H0 Hf H σ ρ)
 (hti:∀R:It->Hp->Prop,(∀J al H1,Ext Hf H al H1->uz G al H1 J ds->R J H1)->ti σ H R)(hz:ds.length<=16777216)(ef:iq (lP g ft fe (cU k js ρ)) ds=aa rs)
 (kq:∀l vs Hf' H',Ext Hf H Hf' H'->H l=ab->Hf' l=ab->H' l=aa (.lst vs)->aB G Hf' rs vs->Q (.ref l) H'):m8 k js ti (tDG G g) (tDT G ft) (tD G fe) σ H Q:=by
 refine hti _ λJ al H1 x1 it=>?_
 refine⟨λi m ys σ' H'=>m=ds.length-i/\i<=ds.length/\∃Hf' I bv,Ext al H1 Hf' H'/\aC G Hf0 H0 Hf' H' σ' _/\aB G Hf' I ys/\iq _ (ds.drop i)=aa bv/\rs=I++bv/\I.length<=i,
  ⟨ds.length,rfl,gD _,al,[],rs,Ext.refl x1.s,(st.step x1).comp k hj,rfl,ef,rfl,aU _⟩,?_⟩
 rintro i m ys σ' H' ⟨rfl,hi,Hf',I,bv,x2,st2,ra,ec,er,hal⟩;have q5:ys.length<=aW:=by rw[cL,<- ra.length];lia
 obtain⟨mu,ri⟩:=it Hf' H' x2 i
 by_cases M:i<ds.length
 .obtain⟨d,ed,ir⟩:=lQ M;obtain⟨go,yl⟩:=mu d ed
  refine .inr ⟨go,q5,λou fx H2=>ds.length-_=ds.length-_/\i+1<=ds.length/\∃Hf' I bv,Ext al H1 Hf' H2/\aC G Hf0 H0 Hf' H2 fx _/\aB G Hf' I ou/\iq _ _=aa bv/\rs=I++bv/\I.length<=i+1,
   λou fx H2 w=>⟨ds.length-(i+1),by lia,w⟩,λx H2 y=>?_⟩
  obtain⟨a9,x3,rx⟩:=yl x H2 y;rw[ir]at ec;obtain⟨o,r',q,ec',B⟩:=Kq ec;unfold lP at q
  cases eg:g d _ with
  |none=>rw[eg]at q;nomatch q
  |some ρ1=>
   rw[eg]at q;replace q:(ft ρ1).bind _=_:=q
   cases et:ft ρ1 with
   |none=>rw[et]at q;nomatch q
   |some b=>
    rw[et]at q;refine⟨Hf0,H0,a9,cU k js ρ,d,ρ1,st2.step x3,rx,eg,λh8 L=>⟨Hf0,H0,a9,ρ1,b,L,et,λU H4 x4=>?_⟩⟩
    have back:∀{z H5:Hp},aC G Hf0 H0 z H5 h8 ρ1->aC G Hf0 H0 z H5 h8 _:=λ{z H5} s5=>s5.weak (eR _ _ _ eg).symm λj s hs=>by
     rcases kU hs with⟨_,e⟩ |⟨hj',_⟩
     .exact .inl e
     .exact .inr (by rw[hk _ _ _ _ eg hj'];exact hs)
    cases b with
    |true=>
     cases ee:fe ρ1 with
     |none=>rw[ee]at q;nomatch q
     |some y'=>
      rw[ee]at q;cases q;refine⟨Hf0,H0,U,ρ1,y',L.step x4,ee,λv z H5 x5 r5=>?_⟩;have x:=(x3.trans x4).trans x5;refine⟨rfl,M,z,I++[y'],r',x2.trans x,back ((L.step x4).step x5),(ra.up x.f).append (.cons r5 .nil),ec',?_,by rw[aM,dR];lia⟩;rw[er,B,eU]
      rfl
    |false=>
     cases q;have x:=x3.trans x4;exact⟨rfl,M,U,I,r',x2.trans x,back (L.step x4),ra.up x.f,ec',by rw[er,B],by lia⟩
 .have ei:i=ds.length:=by lia
  subst ei;refine .inl ⟨ri rfl,q5,λl h1 h2=>?_⟩;rw[my (aU _)]at ec;cases ec;rw[cx]at er;subst er;have x:=x1.trans x2;exact kq l ys Hf' _ (x.trans (Ext.tmp x.s h2)) (x.h.free h2) (x.s.free h2) bw ra
variable{fi:MF2}
def ym(L:js.Nodup)(M:∀d ρ ρ' i,g d ρ=aa ρ'->k<=i->ρ'[i]?=ρ[i]?)(B:∀d ρ ρ',g d ρ=aa ρ'->ρ'.length=ρ.length)(h:tDO G (bQ k js fi g ft fe) σ H Q):
  m8 k js (uA G fi) (tDG G g) (tDT G ft) (tD G fe) σ H Q:=by
 obtain⟨Hf0,H0,Hf,ρ,rs,st,z,U⟩:=h;unfold bQ at z
 cases I:fi ρ with
 |none=>rw[I]at z;nomatch z
 |some ds=>
  rw[I]at z;replace z:(if ds.length<=16777216 then iq _ ds else ab)=aa rs:=z
  by_cases hz:ds.length<=16777216
  .rw[if_pos hz]at z;exact Kr L M B st (λR q=>⟨Hf0,H0,Hf,ρ,ds,st,I,λJ al H1 x1 it=>q J al H1 x1 it⟩) hz z U
  .rw[if_neg hz]at z
   nomatch z
def gr{pos:Pos}(k:Nat)(js:LN)(Nc:LSt)(B:X.calm=ac)(hi:DIe c X tg iter fi)(q:∀cl C ex a0 bq,DG c (X.comp scope Nc cl C ex a0 bq) tg k g)(U:∀cl C ex a0 bq,DTs c (X.comp scope Nc cl C ex a0 bq) eH ft)
 (I:∀cl C ex a0 bq,DE c (X.comp scope Nc cl C ex a0 bq) d8 fe)(z:jv scope X.env.scope.names X.N Nc k js=ac:=by rfl)(M:∀x,hV iter X.env x=pure x:=by intro _;rfl)(L:js.Nodup:=by decide):
  DO c X (.ListComp d8 [⟨tg,iter,eH,0⟩] scope pos) (bQ k js fi g ft fe):=
 PE.imp (xY (tt:=tDT (Gx c X) ft) (te:=tD (Gx c X) fe) k js Nc B hi (λcl C ex a0 bq=>(q cl C ex a0 bq).pg) U I z M) λσ H Q h=>
  ym L (q [] 0 [] X.s₀ X.H₀).keep (q [] 0 [] X.s₀ X.H₀).len h
def dvc(i:Nat){pos:Pos}(z:Nc[i]?=aa x:=by rfl)(B:Vis scope x:=by first |exact bU rfl |exact br (bU rfl) |exact br (br rfl))(hd:NDb x:=by decide)
 (q:NCd x:=by decide):DE c (X.comp scope Nc cl C ex a0 bq) (.Name x pos) (ae i):=x6 (pvc i z B hd q)
def kW(i:Nat){pos:Pos}(z:Nc[i]?=aa x:=by rfl)(B:Vis scope x:=by first |exact bU rfl |exact br (bU rfl) |exact br (br rfl))(hd:NDb x:=by decide)
 (q:NCd x:=by decide):DC c (X.comp scope Nc cl C ex a0 bq) (.Name x pos) (ak i):=C3 (pvc i z B hd q)
def dgc(i k:Nat){pos:Pos}(z:i<k:=by decide)(q:Nc.Nodup:=by decide +kernel)(hi:Nc[i]?=aa x:=by rfl)(B:scope.names.lookup x=aa .local:=by rfl):DG c (X.comp scope Nc cl C ex a0 bq) (.Name x pos) k (aF i):=
 Dp (pgc i q hi B) z
inductive Fl where
 |nx (ρ:LS)
 |bk (ρ:LS)
 |ct (ρ:LS)
 |rt (d:D)
 |rtO (ds:LD)
 |rtS (d:D) (ρ:LS)
 |rtT (o:O)
nonrec abbrev MF3:=LS->Option Fl
abbrev uC(G:Gc)(Hf0 H0 Hf:Hp)(E:jU):Fl->Prop
 |.nx ρ'=>∀σ' Hf' H',aH Hf Hf'->aC G Hf0 H0 Hf' H' σ' ρ'->E.nx σ' H'
 |.bk ρ'=>∀σ' Hf' H',aH Hf Hf'->aC G Hf0 H0 Hf' H' σ' ρ'->E.bk σ' H'
 |.ct ρ'=>∀σ' Hf' H',aH Hf Hf'->aC G Hf0 H0 Hf' H' σ' ρ'->E.ct σ' H'
 |.rt d=>∀v Hf' H',Ext Hf0 H0 Hf' H'->Rep G Hf' d v->E.rt v H'
 |.rtO ds=>∀l vs Hf' H',Ext Hf0 H0 Hf' H'->H0 l=ab->Hf' l=ab->H' l=aa (.lst vs)->aB G Hf' ds vs->E.rt (.ref l) H'
 |.rtS d ρ=>∀v σ' Hf' H',aC G Hf0 H0 Hf' H' σ' ρ->Rep G Hf' d v->E.rt v H'
 |.rtT o=>∀u fp Hf' H',Ext Hf0 H0 Hf' H'->OT G Hf' H' o u fp->fp.Nodup->(∀a∈fp,H0 a=ab/\Hf' a=ab)->E.rt u H'
inductive tDS(G:Gc)(F:MF3)(E:jU)(σ:St)(H:Hp):Prop
 |mk:∀Hf0 H0 Hf ρ o,aC G Hf0 H0 Hf H σ ρ->F ρ=aa o->uC G Hf0 H0 Hf E o->tDS G F E σ H
abbrev DS(c:Str->Addr)(X:Cx)(st:Stmt)(F:MF3):Prop:=PS X st (tDS (Gx c X) F)
abbrev DSs(c:Str->Addr)(X:Cx)(st:List Stmt)(F:MF3):Prop:=PSs X st (tDS (Gx c X) F)
abbrev bF(ρ:LS):Option Fl:=aa (.nx ρ)
abbrev aq(F q:MF3)(ρ:LS):Option Fl:=(F ρ).bind λo=>match o with
 |.nx ρ'=>q ρ'
 |o=>aa o
abbrev bx(t:MF4)(F q:MF3)(ρ:LS):Option Fl:=(t ρ).bind λb=>if b then F ρ else q ρ
abbrev cb(i:Nat)(f:MF1)(ρ:LS):Option Fl:=(f ρ).map λd=>.nx (ρ.set i (.im d))
abbrev dJ(i:Nat)(f:MF2)(ρ:LS):Option Fl:=(f ρ).map λd=>.nx (ρ.set i (.own d))
abbrev bH(f:MF1)(ρ:LS):Option Fl:=(f ρ).map .rt
abbrev nw(f:MF2)(ρ:LS):Option Fl:=(f ρ).map .rtO
abbrev fG(i:Nat)(ρ:LS):Option Fl:=match ρ[i]? with
 |some (.im d)=>aa (.rt d)
 |some (.own xs)=>aa (.rtO xs)
 | _=>ab
abbrev gc(f:MF1)(ρ:LS):Option Fl:=(f ρ).map λ_=>.nx ρ
abbrev i0(g:D->LS->Option LS)(F:MF3):LD->MF3
 | [],ρ=>aa (.nx ρ)
 |d::ds,ρ=>(g d ρ).bind λρ1=>(F ρ1).bind λo=>match o with
  |.nx q=>i0 g F ds q
  |.ct q=>i0 g F ds q
  |.bk q=>aa (.nx q)
  |.rt d=>aa (.rt d)
  |.rtO d=>aa (.rtO d)
  |.rtS d q=>aa (.rtS d q)
  |.rtT o=>aa (.rtT o)
abbrev cI(fi:MF2)(g:D->LS->Option LS)(F:MF3)(ρ:LS):Option Fl:=(fi ρ).bind λds=>i0 g F ds ρ
abbrev yn(i:Nat)(ρ:LS):LS:=match ρ[i]? with
 |some (.own xs)=>ρ.set i (.im (.lst xs))
 |some (.ownd ks xs)=>ρ.set i (.im (.dic ks xs))
 |some (.obj c ns xs)=>ρ.set i (.im (.ins c ns xs))
 | _=>ρ
abbrev gI(i:Nat)(F:MF3)(ρ:LS):Option Fl:=F (yn i ρ)
abbrev ge(i:Nat)(f:MF1)(ρ:LS):Option Fl:=(f ρ).bind λd=>match ρ[i]? with
 |some (.own xs)=>if xs.length<16777216 then aa (.nx (ρ.set i (.own (xs++[d])))) else ab
 | _=>ab
abbrev j0(f:MF1)(ρ:LS):OLD:=(f ρ).bind λd=>match d with
 |.lst xs=>aa xs
 | _=>ab
abbrev j1(i:Nat)(f:MF2)(ρ:LS):Option Fl:=(f ρ).bind λds=>match ρ[i]? with
 |some (.own xs)=>if xs.length+ds.length<=16777216 then aa (.nx (ρ.set i (.own (xs++ds)))) else ab
 | _=>ab
def bM:DSs c X [] bF:=PSs.imp Ig λE σ H z=>by
 obtain⟨Hf0,H0,Hf,ρ,o,B,q,k⟩:=z;exact(by cases q;exact k σ Hf H (aH.refl _) B)
def uC.up{E:jU}{o:Fl}(h:uC G Hf0 H0 Hf E o)(s:aH Hf Hf'):uC G Hf0 H0 Hf' E o:=by
 cases o with
 |nx ρ=>exact λσ' a9 H2 s2 q=>h σ' a9 H2 (s.trans s2) q
 |bk ρ=>exact λσ' a9 H2 s2 q=>h σ' a9 H2 (s.trans s2) q
 |ct ρ=>exact λσ' a9 H2 s2 q=>h σ' a9 H2 (s.trans s2) q
 |rt d=>exact h
 |rtO d=>exact h
 |rtS d ρ=>exact h
 |rtT o=>exact h
variable{st:Stmt}{sts:List Stmt}{F F':MF3}
def ar(I:DS c X st F)(L:DSs c X sts F'):DSs c X (st::sts) (aq F F'):=PSs.imp (Ih I L) λE σ H M=>by
 obtain⟨Hf0,H0,Hf,ρ,o,U,q,k⟩:=M;unfold aq at q
 cases z:F ρ with
 |none=>rw[z]at q;nomatch q
 |some o1=>
  rw[z]at q;refine⟨Hf0,H0,Hf,ρ,o1,U,z,?_⟩
  cases o1 with
  |nx ρ1=>exact λσ1 al H1 s1 B=>⟨Hf0,H0,al,ρ1,o,B,q,k.up s1⟩
  |bk ρ1=>cases q;exact k
  |ct ρ1=>cases q;exact k
  |rt d=>cases q;exact k
  |rtO d=>cases q;exact k
  |rtS d ρ1=>cases q;exact k
  |rtT o'=>cases q;exact k
def aw(q:DS c X st F):DSs c X [st] F:=Ii q
variable{a b:List Stmt}
def bI{pos:Pos}{t:MF4}(M:DT c X cd t)(ha:DSs c X a F)(L:DSs c X b F'):DS c X (.If cd a b pos) (bx t F F'):=PS.imp (B7 M ha L) λE σ H U=>by
 obtain⟨Hf0,H0,Hf,ρ,o,I,q,k⟩:=U;unfold bx at q
 cases B:t ρ with
 |none=>rw[B]at q;nomatch q
 |some x=>
  rw[B]at q;refine⟨Hf0,H0,Hf,ρ,x,I,B,λal H1 z=>?_⟩
  cases x with
  |true=>rw[if_pos rfl];exact⟨Hf0,H0,al,ρ,o,I.step z,q,k.up z.f⟩
  |false=>rw[if_neg bZ];exact⟨Hf0,H0,al,ρ,o,I.step z,q,k.up z.f⟩
def Dt{pos:Pos}:DS c X (.Continue pos) (λρ=>aa (.ct ρ)):=PS.imp Ik λE σ H z=>by
 obtain⟨Hf0,H0,Hf,ρ,o,B,q,k⟩:=z;exact(by cases q;exact k σ Hf H (aH.refl _) B)
def Du{f:MF1}(I:PS X st (kK te (iV i)))(hi:∀σ H Q,tD (Gx c X) f σ H Q->te σ H Q):DS c X st (cb i f):=PS.imp I λE σ H L=>by
 obtain⟨Hf0,H0,Hf,ρ,o,B,q,k⟩:=L;unfold cb at q
 cases z:f ρ with
 |none=>rw[z]at q;nomatch q
 |some d=>
  rw[z]at q;cases q;exact hi _ _ _ ⟨Hf0,H0,Hf,ρ,d,B,z,λv Hf' H' x r=>k _ Hf' H' x.f ((B.step x).setIm r)⟩
def Dv{f:MF2}(M:PS X st (kK te (iV i)))(hi:∀σ H Q,tDO (Gx c X) f σ H Q->te σ H Q):DS c X st (dJ i f):=PS.imp M λE σ H U=>by
 obtain⟨Hf0,H0,Hf,ρ,o,B,q,k⟩:=U;unfold dJ at q
 cases z:f ρ with
 |none=>rw[z]at q;nomatch q
 |some d=>
  rw[z]at q;cases q;exact hi _ _ _ ⟨Hf0,H0,Hf,ρ,d,B,z,λl vs Hf' H' x hn I L r=>k _ Hf' H' x.f (B.setOwn rfl x hn I ⟨vs,L,r⟩)⟩
def dB{pos:Pos}(i:Nat){f:MF1}(q:X.N.Nodup)(z:DE c X e f)(hi:X.N[i]?=aa x:=by rfl)(L:Loc X.env.scope x:=by first |exact bU rfl |exact br rfl)(I:fR e (aa (.Name x b0)) pos.line X.env=pure ag:=by rfl)(B:LcF X x:=by first |exact .inl rfl |exact .inr rfl):
  DS c X (.Assign [.Name x b0] e pos) (cb i f):=Du (lK q hi L z I B) λ_ _ _ h=>h
def gt{pos:Pos}(i:Nat){f:MF2}(q:X.N.Nodup)(z:DO c X e f)(hi:X.N[i]?=aa x:=by rfl)(L:Loc X.env.scope x:=by first |exact bU rfl |exact br rfl)(I:fR e (aa (.Name x b0)) pos.line X.env=pure ag:=by rfl)(B:LcF X x:=by first |exact .inl rfl |exact .inr rfl):
  DS c X (.Assign [.Name x b0] e pos) (dJ i f):=Dv (lK q hi L z I B) λ_ _ _ h=>h
def Ks{f:MF2}(h:tD G (bf f) σ H Q):tDO G f σ H Q:=by
 obtain⟨Hf0,H0,Hf,ρ,d,st,q,k⟩:=h;unfold bf at q
 cases z:f ρ with
 |none=>rw[z]at q;nomatch q
 |some ds=>
  rw[z]at q;have q:=cz q;subst q;exact⟨Hf0,H0,Hf,ρ,ds,st,z,λl vs Hf' H' x hn B I r=>k _ _ H' (x.fix hn B I) ⟨l,vs,rfl,bw,r.up (cu B)⟩⟩
def yo{pos:Pos}(i:Nat)(k:Nat)(js:LN)(Nc:LSt)(L:X.N.Nodup)(M:X.calm=ac)(hi:DIe c X tg iter fi)
 (q:∀cl C ex a0 bq,DG c (X.comp scope Nc cl C ex a0 bq) tg k g)(ht:∀cl C ex a0 bq,DTs c (X.comp scope Nc cl C ex a0 bq) eH ft)(U:∀cl C ex a0 bq,DE c (X.comp scope Nc cl C ex a0 bq) d8 fe)
 (z:X.N[i]?=aa x:=by rfl)(hx:Loc X.env.scope x:=by first |exact bU rfl |exact br rfl)
 (B:fR (.ListComp d8 [⟨tg,iter,eH,0⟩] scope pos) (aa (.Name x b0)) eA.line X.env=pure ac:=by rfl)
 (I:jv scope X.env.scope.names X.N Nc k js=ac:=by rfl)(hs:∀x,hV iter X.env x=pure x:=by intro _;rfl)(hj:js.Nodup:=by decide)
 (hf:LcF X x:=by first |exact .inl rfl |exact .inr rfl):
  DS c X (.Assign [.Name x b0] (.ListComp d8 [⟨tg,iter,eH,0⟩] scope pos) eA) (dJ i (bQ k js fi g ft fe)):=
 Dv (uc (tt:=tDT (Gx c X) ft) (te:=tD (Gx c X) fe) k js Nc L z hx M hi (λcl C ex a0 bq=>(q cl C ex a0 bq).pg) ht U B I hs hf) λσ H Q h=>ym hj (q [] 0 [] X.s₀ X.H₀).keep (q [] 0 [] X.s₀ X.H₀).len h
def ny{pos:Pos}(i:Nat)(k:Nat)(js:LN)(Nc:LSt)(L:X.N.Nodup)(M:X.calm=ac)(hi:DIe c X tg iter fi)
 (q:∀cl C ex a0 bq,DG c (X.comp scope Nc cl C ex a0 bq) tg k g)(ht:∀cl C ex a0 bq,DTs c (X.comp scope Nc cl C ex a0 bq) eH ft)(U:∀cl C ex a0 bq,DE c (X.comp scope Nc cl C ex a0 bq) d8 fe)
 (z:X.N[i]?=aa x:=by rfl)(hx:Loc X.env.scope x:=by first |exact bU rfl |exact br rfl)
 (B:fR (.ListComp d8 [⟨tg,iter,eH,0⟩] scope pos) (aa (.Name x b0)) eA.line X.env=pure ac:=by rfl)
 (I:jv scope X.env.scope.names X.N Nc k js=ac:=by rfl)(hs:∀x,hV iter X.env x=pure x:=by intro _;rfl)(hj:js.Nodup:=by decide)
 (hf:LcF X x:=by first |exact .inl rfl |exact .inr rfl):
  DS c X (.Assign [.Name x b0] (.ListComp d8 [⟨tg,iter,eH,0⟩] scope pos) eA) (cb i (bf (bQ k js fi g ft fe))):=
 Du (uc (tt:=tDT (Gx c X) ft) (te:=tD (Gx c X) fe) k js Nc L z hx M hi (λcl C ex a0 bq=>(q cl C ex a0 bq).pg) ht U B I hs hf) λσ H Q h=>ym hj (q [] 0 [] X.s₀ X.H₀).keep (q [] 0 [] X.s₀ X.H₀).len (Ks h)
def bS{pos:Pos}{f:MF1}(I:DE c X e f):DS c X (.Return (aa e) pos) (bH f):=PS.imp (oD I) λE σ H L=>by
 obtain⟨Hf0,H0,Hf,ρ,o,B,q,k⟩:=L;unfold bH at q
 cases z:f ρ with
 |none=>rw[z]at q;nomatch q
 |some d=>
  rw[z]at q;cases q;exact⟨Hf0,H0,Hf,ρ,d,B,z,λv Hf' H' x r=>k v Hf' H' (B.ext.trans x) r⟩
abbrev gJ(f:MF1)(ρ:LS):Option Fl:=(f ρ).map λd=>.rtS d ρ
def jz{pos:Pos}{f:MF1}(I:DE c X e f):DS c X (.Return (aa e) pos) (gJ f):=PS.imp (oD I) λE σ H L=>by
 obtain⟨Hf0,H0,Hf,ρ,o,B,q,k⟩:=L;unfold gJ at q
 cases z:f ρ with
 |none=>rw[z]at q;nomatch q
 |some d=>
  rw[z]at q;cases q;exact⟨Hf0,H0,Hf,ρ,d,B,z,λv Hf' H' x r=>k v σ Hf' H' (B.step x) r⟩
def yp{pos:Pos}{f:MF2}(I:DO c X e f):DS c X (.Return (aa e) pos) (nw f):=PS.imp (oD I) λE σ H U=>by
 obtain⟨Hf0,H0,Hf,ρ,o,B,q,k⟩:=U;unfold nw at q
 cases z:f ρ with
 |none=>rw[z]at q;nomatch q
 |some d=>
  rw[z]at q;cases q;exact⟨Hf0,H0,Hf,ρ,d,B,z,λl vs Hf' H' x hn L M r=>k l vs Hf' H' (B.ext.trans x) (B.ext.h.free hn) L M r⟩
def Kt{pos:Pos}(M:PE X e (eV i)):DS c X (.Return (aa e) pos) (fG i):=PS.imp (oD M) λE σ H q_=>by
 obtain⟨Hf0,H0,Hf,ρ,o,B,z,k⟩:=q_;unfold fG at z
 cases es:ρ[i]? with
 |none=>rw[es]at z;nomatch z
 |some s=>
  rw[es]at z
  cases s with
  |im d=>
   cases z;obtain⟨v,I,r⟩:=B.imm es
   exact⟨_,I,k v Hf H B.ext r⟩
  |own xs=>
   cases z;obtain⟨l,I,L,U,vs,q,r⟩:=B.ownAt rfl es
   exact⟨_,I,k l vs Hf H B.ext L U q r⟩
  | _=>nomatch z
def iw{pos:Pos}(i:Nat)(z:X.N[i]?=aa x:=by rfl)(B:Vis X.env.scope x:=by first |exact bU rfl |exact br (bU rfl) |exact br (br rfl))(hd:NDb x:=by decide)
 (q:NCd x:=by decide):DS c X (.Return (aa (.Name x p)) pos) (fG i):=Kt (jV z B hd q)
def j2{pos:Pos}{f:MF1}(I:DE c X e f)(L:fR e ab pos.line X.env=pure ag:=by rfl):DS c X (.Expr e pos) (gc f):=PS.imp (du I L) λE σ H M=>by
 obtain⟨Hf0,H0,Hf,ρ,o,B,q,k⟩:=M;unfold gc at q
 cases z:f ρ with
 |none=>rw[z]at q;nomatch q
 |some d=>
  rw[z]at q;cases q;exact⟨Hf0,H0,Hf,ρ,d,B,z,λv Hf' H' x r=>k σ Hf' H' x.f (B.step x)⟩
def cZ{pos:Pos}(hp:PassesOwn (model X.prog X.w) X.A X.env X.xe)(hc:X.calm=ac)(hi:DI c X tg iter fi)(hg:DG c X tg kk g)(hb:DSs c X a F)(hs:∀x,hV iter X.env x=pure x:=by intro _;rfl):
  DS c X (.For tg iter a [] pos) (cI fi g F):=PS.imp (xB hp hc hi hg.pg hb hs) λE σ H q_=>by
 obtain⟨Hf0,H0,Hf,ρ,o,so,U,k⟩:=q_;unfold cI at U
 cases e1:fi ρ with
 |none=>rw[e1]at U;nomatch U
 |some ds=>
  rw[e1]at U;refine⟨Hf0,H0,Hf,ρ,ds,so,e1,λJ al H1 x1 it=>?_⟩;refine⟨λi m σ' H'=>m=ds.length-i/\i<=ds.length/\∃Hf' ρ',aC _ Hf0 H0 Hf' H' σ' ρ'/\aH al Hf'/\i0 g F (ds.drop i) ρ'=aa o,⟨ds.length,rfl,gD _,al,ρ,so.step x1,aH.refl _,U⟩,?_⟩;rintro i m σ' H' ⟨rfl,hi',Hf',ρ',L,s1,em⟩;obtain⟨mu,ri⟩:=it Hf' H' s1 L.sub i
  by_cases I:i<ds.length
  .obtain⟨d,ed,ir⟩:=lQ I;obtain⟨go,yl⟩:=mu d ed;rw[ir]at em;unfold i0 at em;refine .inr ⟨go,λfx H2=>ds.length-_=ds.length-_/\i+1<=ds.length/\∃Hf' ρ',aC _ Hf0 H0 Hf' H2 fx ρ'/\aH al Hf'/\i0 g F _ ρ'=aa o,λfx H2 w=>⟨ds.length-(i+1),by lia,w⟩,λx H2 y=>?_⟩;obtain⟨a9,x2,rx⟩:=yl x H2 y
   cases eg:g d ρ' with
   |none=>rw[eg]at em;nomatch em
   |some ρ1=>
    rw[eg]at em;replace em:(F ρ1).bind _=_:=em
    cases eF:F ρ1 with
    |none=>rw[eF]at em;nomatch em
    |some o1=>
     rw[eF]at em;refine⟨Hf0,H0,a9,ρ',d,ρ1,L.step x2,rx,eg,λh8 so3=>⟨Hf0,H0,a9,ρ1,o1,so3,eF,?_⟩⟩;have sf:=s1.trans x2.f
     cases o1 with
     |nx B=>exact λM q H4 s4 z=>⟨rfl,I,q,B,z,sf.trans s4,em⟩
     |ct B=>exact λM q H4 s4 z=>⟨rfl,I,q,B,z,sf.trans s4,em⟩
     |bk B=>cases em;exact λM q H4 s4 z=>k M q H4 ((x1.f.trans sf).trans s4) z
     |rt d=>cases em;exact k
     |rtO d=>cases em;exact k
     |rtS d B=>cases em;exact k
     |rtT o'=>cases em;exact k
  .have ei:i=ds.length:=by lia
   subst ei;rw[my (aU _)]at em;cases em;exact .inl ⟨ri rfl,k σ' Hf' H' (x1.f.trans s1) L⟩
def Ku{E:jU}(h:tDS G (gI i F) E σ H):tDS G F E σ H:=by
 obtain⟨Hf0,H0,Hf,ρ,o,I,L,k⟩:=h;unfold gI yn at L;split at L
 .rename_i xs es;obtain⟨l,M,U,B,vs,q,r⟩:=I.ownAt rfl es;exact⟨Hf0,H0,_,_,o,I.fixd (d:=.lst xs) rfl es M q ⟨l,vs,rfl,bw,r.up (cu B)⟩,L,k.up (cu B)⟩
 .rename_i ks xs es;obtain⟨l,M,U,B,vs,q,z,r⟩:=I.ownAt rfl es;exact⟨Hf0,H0,_,_,o,I.fixd (d:=.dic ks xs) rfl es M q ⟨l,vs,rfl,bw,z,r.up (cu B)⟩,L,k.up (cu B)⟩
 .rename_i c' ns xs es;obtain⟨l,M,U,B,dx,vs,q,z,r⟩:=I.ownAt rfl es;exact⟨Hf0,H0,_,_,o,I.fixd (d:=.ins c' ns xs) rfl es M q ⟨l,dx,vs,rfl,bw,z,r.up (cu B)⟩,L,k.up (cu B)⟩
 .exact⟨Hf0,H0,Hf,ρ,o,I,L,k⟩
def jA(i:Nat)(h:DS c X st F):DS c X st (gI i F):=PS.imp h λ_ _ _=>Ku
def jB{f:MF1}(h:PS X st (lJ (tBM X.K "list" qp (eV i) (jX (tD (Gx c X) f) kL)))):DS c X st (ge i f):=PS.imp h λE σ H U=>by
 obtain⟨Hf0,H0,Hf,ρ,o,I,z,k⟩:=U;unfold ge at z
 cases B:f ρ with
 |none=>rw[B]at z;nomatch z
 |some d=>
  rw[B]at z;split at z
  .rename_i xs es;split at z
   .rename_i M;cases z;obtain⟨l,L,h0,hf,vs,q,r⟩:=I.ownAt rfl es;refine⟨_,L,.inl ⟨rfl,_,SqL.of q⟩,Hf0,H0,Hf,ρ,d,I,B,λv Hf' H' x r'=>?_⟩;refine⟨l,vs,v,rfl,rfl,(x.h _ _ q),by rw[cL,<- r.length];exact M,k σ Hf' _ x.f ((I.step x).mutd rfl rfl es L ⟨vs++[v],bw,(r.up x.f).append (.cons r' .nil)⟩)⟩
   .nomatch z
  .nomatch z
def qP{f:MF1}(h:PS X st (lJ (tBM X.K "list" CD (eV i) (jX (tD (Gx c X) f) kL)))):DS c X st (j1 i (j0 f)):=PS.imp h λE σ H q_=>by
 obtain⟨Hf0,H0,Hf,ρ,o,I,z,k⟩:=q_;unfold j1 j0 at z
 cases B:f ρ with
 |none=>rw[B]at z;nomatch z
 |some d=>
  rw[B]at z
  cases d with
  |lst ds=>
   replace z:(match ρ[i]? with |some (.own xs)=>if xs.length+ds.length<=16777216 then aa _ else ab | _=>ab)=aa o:=z
   split at z
   .rename_i xs es;split at z
    .rename_i hl;cases z;obtain⟨l,L,h0,hf,vs,q,r⟩:=I.ownAt rfl es;refine⟨_,L,.inl ⟨rfl,_,SqL.of q⟩,Hf0,H0,Hf,ρ,.lst ds,I,B,λv Hf' H' x r'=>?_⟩;obtain⟨a,us,U,qa,M⟩:=r';subst U;refine⟨l,a,vs,us,rfl,rfl,(x.h _ _ q),x.s _ _ qa,by rw[cL,<- r.length,<- M.length];exact hl,k σ Hf' _ x.f ((I.step x).mutd rfl rfl es L ⟨vs++us,bw,(r.up x.f).append M⟩)⟩
    .nomatch z
   .nomatch z
  | _=>nomatch z
abbrev Dw:Fl->OD
 |.rt d=>aa d
 |.rtO ds=>aa (.lst ds)
 |.rtS d _=>aa d
 |.nx _=>aa .non
 | _=>ab
abbrev jC(n:Nat)(ds:LD):LS:=ds.map .im++gz (n-ds.length) .no
abbrev bY(n:Nat)(F:MF3)(ds:LD):OD:=(F (jC n ds)).bind Dw
abbrev spD(G:Gc)(n:Nat)(m:LD->OD):Sp:=λvs H Q _=>∃Hf ds d,aH Hf H/\aB G Hf ds vs/\ds.length=n/\m ds=aa d/\∀v Hf' H',Ext Hf H Hf' H'->Rep G Hf' d v->Q v H'
def aC.start(L:aH Hf H)(r:aB G Hf ds vs):aC G Hf H Hf H (start N vs) (jC N.length ds):=by
 have im:∀i (s:Sl),(jC N.length ds)[i]?=aa s->s=.no\/∃d,ds[i]?=aa d/\s=.im d:=λi s b=>by
  unfold jC at b
  by_cases hi:i<ds.length
  .rw[mx (by simpa using hi)]at b;obtain⟨d,z,es⟩:=nv b;exact .inr ⟨d,z,es⟩
  .rw[jO (by simpa using sX hi)]at b;obtain⟨_,e⟩:=eD.mp b;rw[List.getElem_replicate]at e;exact .inl e.symm
 refine⟨Ext.refl L,by simp[L2.start,jC,r.length],λi v s a b=>?_,λi j s t v w l a b c d p q=>?_⟩
 .rcases im i s b with e |⟨d,z,es⟩
  .subst e;trivial
  .subst es;obtain⟨u,B,I⟩:=r.get z;refine⟨u,?_,I⟩;unfold L2.start at a;rw[mx (by simpa using ((eD.mp B).1)),eM,B]at a;exact(cz a).symm
 .rcases im i s a with e |⟨d,z,es⟩
  .subst e;exact(p.calm rfl).elim
  .subst es;exact(p.calm rfl).elim
variable{mg:MGT}{base:Heap}{n_:Nat}{qual:Str}{fd:gl}{ps:LSt}
def cj{f:Addr}(Fn:Fun K x qual st f fd)(S:bo N ps (aZ st))
 (h:∀(cdv:Value) (A:eI) (outer:List Env) (s:aI) (H:Hp) (E:XK),c6 k (A.deeper (iL qual (aZ st) s.heap.objs.size f cdv))->DSs c (kO CX0 P w K mg base N qual (aZ st) f cdv A outer s H E).nox (kP st) F)(I:N.length=n_:=by rfl):
  gm P w K mg base CX0 (k+1) f fd ps (spD ⟨K,c⟩ ps.length (bY n_ F)):=by
 subst I;refine Fn.ok S (λvs H Q E L=>by obtain⟨Hf,ds,d,s0,r,q,_⟩:=L;rw[<- r.length];exact q) λcdv A outer s H vs Q E hr L=>?_;obtain⟨Hf,ds,d,s0,r,q,e,z⟩:=L;refine⟨_,h cdv A outer s H E hr,?_⟩;unfold bY at e
 cases B:F _ with
 |none=>rw[B]at e;nomatch e
 |some o=>
  rw[B]at e;refine⟨Hf,H,Hf,_,o,aC.start s0 r,B,?_⟩
  cases o with
  |nx ρ=>cases e;exact λσ' Hf' H' _ M=>z _ Hf' H' M.ext rfl
  |bk ρ=>nomatch e
  |ct ρ=>nomatch e
  |rt d=>cases e;exact z
  |rtO rs=>cases e;exact λl vs Hf' H' x hn U q r=>z _ _ H' (x.fix hn U q) ⟨l,vs,rfl,bw,r.up (cu U)⟩
  |rtS d ρ=>cases e;exact λv σ' Hf' H' M r=>z v Hf' H' M.ext r
  |rtT o=>nomatch e
variable{fa:MF2}{k0:Nat}
def bN{f:Addr}{pos:Pos}(pk:Pk X.prog X.w X.K X.mg X.base CX0 k x (f,fd) ps (spD (Gx c X) ps.length m))(I:c6 k0 X.A)(ha:DA c X (e::es) fa)(hl:(e::es).length=ps.length:=by rfl)(q:NDb x:=by decide)(he:StE X e es:=by rfl)(B:BkE X pos es:=by rfl)(z:k<=k0:=by decide)(hg:Gl X x:=by first |rfl |exact glc rfl):
  DE c X (.Call (.Name x p) (e::es) [] pos) (aJ m fa):=PE.imp (kM pk.ok (I.mono z) hg pk.g pk.kp pk.b .nil kQ ha.pa q he B) λσ H Q q_=>by
 obtain⟨Hf0,H0,Hf,ρ,d,st,U,kq⟩:=q_;obtain⟨ds,L,M⟩:=uv U;refine⟨Hf0,H0,Hf,ρ,ds,st,L,λvs Hf' H' x r=>?_⟩;rw[cx];exact⟨Hf',ds,d,x.s,r,(ha.len ρ ds L).trans hl,M,λv a9 H2 x2 r2=>kq v a9 H2 (x.trans x2) r2⟩
abbrev kX(m:LD->OD)(f:MF2)(ρ:LS):OD:=(f ρ).bind λds=>(m ds).bind λd=>if d.scalar then aa d else ab
def qQ{f:Addr}{pos:Pos}(pk:Pk X.prog X.w X.K X.mg X.base CX0 k x (f,fd) ps (spD (Gx c X) ps.length m))(U:c6 k0 X.A)(ha:DAB c X (e::es) fa)(hl:(e::es).length=ps.length:=by rfl)(I:NDb x:=by decide)(he:StE X e es:=by rfl)(M:BkE X pos es:=by rfl)(L:k<=k0:=by decide)(hg:Gl X x:=by first |rfl |exact glc rfl):
  DE c X (.Call (.Name x p) (e::es) [] pos) (kX m fa):=PE.imp (kM pk.ok (U.mono L) hg pk.g pk.kp pk.b .nil kQ ha.pa I he M) λσ H Q q_=>by
 obtain⟨Hf0,H0,Hf,ρ,d,st,q,kq⟩:=q_;unfold kX at q
 cases z:fa ρ with
 |none=>rw[z]at q;nomatch q
 |some ds=>
  rw[z]at q;replace q:(m ds).bind _=_:=q
  cases B:m ds with
  |none=>rw[B]at q;nomatch q
  |some d'=>
   rw[B]at q;replace q:(if d'.scalar=ac then aa d' else ab)=aa d:=q;split at q
   .rename_i hs;cases q;refine⟨Hf0,H0,Hf,ρ,ds,st,z,λvs Hf' H' x r=>?_⟩;rw[cx];exact⟨H',ds,_,aH.refl _,r,(ha.len ρ ds z).trans hl,B,λv a9 H2 x2 r2=>kq v Hf' H2 (x.trans (Ext.grow x.s x2.h)) (r2.sc hs)⟩
   .nomatch q
def Kv{f:MF1}(h:f ρ=aa d):cb i f ρ=aa (.nx (ρ.set i (.im d))):=by
 unfold cb;rw[h];rfl
def Kw{f:MF2}{d:LD}(h:f ρ=aa d):dJ i f ρ=aa (.nx (ρ.set i (.own d))):=by
 unfold dJ;rw[h];rfl
def Kx{f:MF1}(h:f ρ=aa d):bH f ρ=aa (.rt d):=by
 unfold bH;rw[h];rfl
def aN{f:MF2}(h:f ρ=aa ds)(h':m ds=aa d):aJ m f ρ=aa d:=by
 unfold aJ;rw[h];exact h'
def yq{z:Type}{h:D->Option OD}(f:z->D)(p:z->Bool)(q:z->D):∀(xs:List z),(∀x∈xs,h (f x)=aa (if p x then aa (q x) else ab))->iq h (xs.map f)=aa ((xs.filter p).map q)
 | [],_=>rfl
 |x::xs,hh=>by
  rw[cS];unfold iq;rw[hh x bK,yq f p q xs λy I=>hh y (cB _ I)]
  cases B:p x with
  |true=>rw[sN B];rfl
  |false=>rw[lx (by rw[B];exact bZ)];rfl
def Ky{z:Type}{h:D->Option OD}(f:z->D)(q:z->D)(xs:List z)(B:∀x∈xs,h (f x)=aa (aa (q x))):iq h (xs.map f)=aa (xs.map q):=by
 have:=yq f (λ_=>ac) q xs λx I=>(B x I).trans rfl;rw[this,filter_eq_self.mpr λ_ _=>rfl]
def uD{z:Type}(xs:List z)(f:z->D)(p:z->Bool)(q:z->D)
 (hi:fi ρ=aa (xs.map f))(hz:xs.length<=16777216)(B:∀x∈xs,lP g ft fe (cU k js ρ) (f x)=aa (if p x then aa (q x) else ab)):bQ k js fi g ft fe ρ=aa ((xs.filter p).map q):=by
 unfold bQ;rw[hi];show(if (xs.map f).length<=16777216 then _ else ab)=_;rw[au,if_pos hz];exact yq f p q xs B
def gY{z:Type}(xs:List z)(f:z->D)(q:z->D)
 (hi:fi ρ=aa (xs.map f))(hz:xs.length<=16777216)(B:∀x∈xs,lP g ft fe (cU k js ρ) (f x)=aa (aa (q x))):bQ k js fi g ft fe ρ=aa (xs.map q):=by
 unfold bQ;rw[hi];show(if (xs.map f).length<=16777216 then _ else ab)=_;rw[au,if_pos hz];exact Ky f q xs B
def Dx(lo:Int)(n:Nat):rng lo n=(cp n).map λ(i:Nat)=>D.int (lo+i):=rfl
abbrev fH:Nat->D->Prop
 | 0,_=>False
 |n+1,d=>match d with
  |.lst xs=>∀x∈xs,fH n x
  |.tup xs=>∀x∈xs,fH n x
  |d=>d.scalar=ac
def yr{f:D->D->Option Bool}:∀(xs:LD),(∀x∈xs,f x x=aa ac)->fq f xs xs=aa ac
 | [],_=>rfl
 |x::xs,h=>by
  unfold fq;rw[h x bK,yr xs λy q=>h y (cB _ q)];rfl
def uE:∀(n:Nat) (d:D),fH n d->deq n d d=aa ac
 | 0,_,h=>h.elim
 |n+1,d,h=>by
  cases d with
  |lst xs=>
   show(if xs.length=xs.length then fq _ xs xs else aa ag)=_;rw[if_pos rfl]
   exact yr xs λx q=>uE n x (h x q)
  |tup xs=>
   show(if xs.length=xs.length then fq _ xs xs else ab)=_;rw[if_pos rfl]
   exact yr xs λx q=>uE n x (h x q)
  |non=>rfl
  |bl b=>show aa (b==b)=_;rw[beq_self_eq_true]
  |int b=>show aa (b==b)=_;rw[beq_self_eq_true]
  |str b=>show aa (b==b)=_;rw[beq_self_eq_true]
  | _=>cases h
def Dy(h:fH 20 d):dEq d d=aa (.bl ac):=by
 unfold dEq;rw[uE 20 d h];rfl
def qR(h:fH 20 d):dNe d d=aa (.bl ag):=by
 unfold dNe;rw[uE 20 d h];rfl
def j3(i j:Int):dEq (.int i) (.int j)=aa (.bl (i==j)):=rfl
def uF(i j:Int):dNe (.int i) (.int j)=aa (.bl (!(i==j))):=rfl
def ap{m:D->D->OD}{f g:MF1}{x:D}(q:f ρ=aa x)(z:g ρ=aa y)(B:m x y=aa d):m2 m f g ρ=aa d:=by
 unfold m2;rw[q,z];exact B
variable{b:Bool}
def aL{f:MF1}(h:f ρ=aa (.bl b)):mB f ρ=aa b:=by
 unfold mB;rw[h];rfl
def dZ{f:MF1}(h:f ρ=aa d)(h':ui d=aa b):dz f ρ=aa b:=by
 unfold dz;rw[h];exact h'
def eQ{f:MF4}(h:f ρ=aa b):dW f ρ=aa (!b):=by
 unfold dW;rw[h];rfl
def Kz{f g:MF4}{r:Option Bool}(h:f ρ=aa ac)(h':g ρ=r):il f g ρ=r:=by
 unfold il;rw[h];exact h'
def yt{f g:MF4}(h:f ρ=aa ag):il f g ρ=aa ag:=by
 unfold il;rw[h];rfl
def KA{f g:MF4}(h:f ρ=aa ac):mOr f g ρ=aa ac:=by
 unfold mOr;rw[h];rfl
def KB{f g:MF4}{r:Option Bool}(h:f ρ=aa ag)(h':g ρ=r):mOr f g ρ=r:=by
 unfold mOr;rw[h];exact h'
variable{a:Bool}
def qS{f g:MF4}(h:f ρ=aa a)(h':g ρ=aa b):il f g ρ=aa (a && b):=by
 cases a with
 |true=>exact Kz h h'
 |false=>exact yt h
def eY{f g:MF4}(h:f ρ=aa a)(h':g ρ=aa b):mOr f g ρ=aa (a || b):=by
 cases a with
 |true=>exact KA h
 |false=>exact KB h h'
def lR{f g:MF1}(h:f ρ=aa (.bl a))(h':g ρ=aa (.bl b)):jw f g ρ=aa (.bl (a && b)):=by
 unfold jw;rw[aL h]
 cases a with
 |true=>exact h'
 |false=>rfl
def DD{f g:MF1}(h:f ρ=aa (.bl a))(h':g ρ=aa (.bl b)):vOr f g ρ=aa (.bl (a || b)):=by
 unfold vOr;rw[aL h]
 cases a with
 |true=>rfl
 |false=>exact h'
def DF{f:MF1}(h:f ρ=aa (.bl a)):qB f ρ=aa (.bl (!a)):=by
 unfold qB;rw[aL h];rfl
def ah{f:MF1}{g:MF2}(h:f ρ=aa d)(h':g ρ=aa ds):af f g ρ=aa (d::ds):=by
 unfold af;rw[h,h'];rfl
def dG{f:MF2}(h:f ρ=aa ds):cg f ρ=aa (.tup ds):=by
 unfold cg;rw[h];rfl
def cY{f:MF2}(h:f ρ=aa ds):bf f ρ=aa (.lst ds):=by
 unfold bf;rw[h];rfl
def am{f:MF2}{g:MF1}{i:Int}{r:OD}(h:f ρ=aa ds)(h':g ρ=aa (.int i))(q:atI ds i=r):mIx f g ρ=r:=by
 unfold mIx;rw[h,h'];exact q
variable{j:Int}
def uG{C:Int->Int->Prop}[∀i j,Decidable (C i j)]{g:Int->Int->D}{i:Int}(h:C i j):dI C g (.int i) (.int j)=aa (g i j):=by
 show(if C i j then aa _ else ab)=_;rw[if_pos h]
def KC{f:MF1}(h:f ρ=aa d)(h':ρ[i]?=aa (.own xs))(q:xs.length<16777216):ge i f ρ=aa (.nx (ρ.set i (.own (xs++[d])))):=by
 unfold ge;rw[h,h'];show(if xs.length<16777216 then _ else ab)=_;rw[if_pos q]
def KD{f:MF1}(h:f ρ=aa d):gc f ρ=aa (.nx ρ):=by
 unfold gc;rw[h];rfl
variable{ρ1:LS}
def nz(q:g d ρ=aa ρ1)(z:ft ρ1=aa b)(B:b=ac->fe ρ1=aa y):lP g ft fe ρ d=aa (if b then aa y else ab):=by
 unfold lP;rw[q];show(ft ρ1).bind _=_;rw[z]
 cases b with
 |true=>rw[B rfl];rfl
 |false=>rfl
def gu(q:g d ρ=aa ρ1)(z:ft ρ1=aa ac)(B:fe ρ1=aa y):lP g ft fe ρ d=aa (aa y):=nz q z λ_=>B
def bA{f:MF1}(h:f ρ=aa d)(h':ik d=aa ds):bh f ρ=aa ds:=by
 unfold bh;rw[h];exact h'
def yu{f:MF2}{n:Int}(h:f ρ=aa [.int n])(z:0<=n)(q:n<2 ^ 62):gX f ρ=aa ((cp n.toNat).map λ(i:Nat)=>D.int i):=by
 unfold gX;rw[h];show(if -_<=n/\n<2 ^ 62 then aa _ else ab)=_;rw[if_pos ⟨by lia,q⟩,Dx]
 congr 1
 refine pW λi _=>?_;rw[Int.zero_add]
def yv:∀{bs:List Bool} {us:LVa},aX (bs.map V.bl) us->us=bs.map gG
 | [],_,.nil=>rfl
 |b::bs,_,.cons r t=>by
  rw[yv t];cases (r);rfl
def KE(bs:List Bool):((cp bs.length).all λi=>(bs[i]?).getD ac)=bs.all id:=by
 rw[jh,all_eq_true,all_eq_true];constructor
 .intro h b z;obtain⟨i,hi,e⟩:=List.getElem_of_mem z;have:=h i (jm.mpr hi);simp only[cR hi,e]at this;exact this
 .intro h i hi;have q:=jm.mp hi;simp only[cR q];exact h _ (ly q)
def KF(bs:List Bool):((cp bs.length).any λi=>(bs[i]?).getD ag)=bs.any id:=by
 rw[jh,any_eq_true,any_eq_true];constructor
 .rintro⟨i,hi,e⟩;have q:=jm.mp hi;simp only[cR q]at e;exact⟨_,ly q,e⟩
 .rintro⟨b,z,e⟩;obtain⟨i,hi,rfl⟩:=List.getElem_of_mem z;exact⟨i,jm.mpr hi,by simp only[cR hi];exact e⟩
def DH{h:Heap}{o:Obj}(q:∀b x,b∉[h.objs.size]->(h.push o).get? b=aa x->h'.get? b=aa x):∀b x,h.get? b=aa x->h'.get? b=aa x:=
 λb x e=>q b x (λhm=>by rw[ca.mp hm]at e;exact jR _ (bD e)) (bV _ e)
def KG(hc:X.calm=ac):ga X (.builtin "all") (λxs H Q=>∃(p:Addr) (bs:List Bool),xs=[.ref p]/\SqL X.K H p (bs.map V.bl)/\Q (.bl (bs.all id)) H):=by
 intro pins s σ H xs us Q I r h;obtain⟨l,bs,rfl,hq,q⟩:=h;obtain⟨u,rfl,rx⟩:=ju r;subst rx;obtain⟨its,r',pl,hz⟩:=I.list hq;have e:=yv r';subst e;have B:=pl.isList;have L:l<s.heap.objs.size:=by obtain⟨_,e,_⟩:=B;exact bD e
 refine call_all_walk (om B ?_)
 refine⟨s.heap.objs.size,_,_,(bs.map gG).toArray.size,_,_,λi=>(bs[i]?).getD ac,rfl,Walks.list (A:=X.A.in1) (I.ok.hd hc) _ l (cy L) (bs.map gG).toArray,
  ⟨⟨_,dS _ rfl,rfl,rfl⟩,B.push _⟩,λi v s' Q' E' U M=>?_,λh' tk hk=>?_⟩
 .have z:(bs.map gG)[i]?=aa v:=by simpa using U
  obtain⟨b,e,rfl⟩:=nv z;simp only[e]at M;exact lE M
 .have e:((cp (bs.map gG).toArray.size).all λi=>(bs[i]?).getD ac)=bs.all id:=by
   rw[size_toArray,au];exact KE bs
  rw[e];exact⟨.bl _,H,I.kept (DH hk),rfl,q⟩
def KH(hc:X.calm=ac):ga X (.builtin "any") (λxs H Q=>∃(p:Addr) (bs:List Bool),xs=[.ref p]/\SqL X.K H p (bs.map V.bl)/\Q (.bl (bs.any id)) H):=by
 intro pins s σ H xs us Q I r h;obtain⟨l,bs,rfl,hq,q⟩:=h;obtain⟨u,rfl,rx⟩:=ju r;subst rx;obtain⟨its,r',pl,hz⟩:=I.list hq;have e:=yv r';subst e;have B:=pl.isList;have L:l<s.heap.objs.size:=by obtain⟨_,e,_⟩:=B;exact bD e
 refine call_any_walk (om B ?_)
 refine⟨s.heap.objs.size,_,_,(bs.map gG).toArray.size,_,_,λi=>(bs[i]?).getD ag,rfl,Walks.list (A:=X.A.in1) (I.ok.hd hc) _ l (cy L) (bs.map gG).toArray,
  ⟨⟨_,dS _ rfl,rfl,rfl⟩,B.push _⟩,λi v s' Q' E' U M=>?_,λh' tk hk=>?_⟩
 .have z:(bs.map gG)[i]?=aa v:=by simpa using U
  obtain⟨b,e,rfl⟩:=nv z;simp only[e]at M;exact lE M
 .have e:((cp (bs.map gG).toArray.size).any λi=>(bs[i]?).getD ag)=bs.any id:=by
   rw[size_toArray,au];exact KF bs
  rw[e];exact⟨.bl _,H,I.kept (DH hk),rfl,q⟩
abbrev gK:LD->Option (List Bool)
 | []=>aa []
 |.bl b::ds=>(gK ds).map λr=>b::r
 | _=>ab
def DJ:∀{ds:LD} {bs:List Bool},gK ds=aa bs->ds=bs.map D.bl
 | [],_,e=>by cases e;rfl
 |.bl b::ds,_,e=>by
  unfold gK at e
  cases es:gK ds with
  |none=>rw[es]at e;cases e
  |some r=>rw[es]at e;cases e;rw[DJ es];rfl
 |.int _::_,_,e=>by cases e
 |.non::_,_,e=>by cases e
 |.str _::_,_,e=>by cases e
 |.lst _::_,_,e=>by cases e
 |.tup _::_,_,e=>by cases e
 |.kl _::_,_,e=>by cases e
 |.kt _::_,_,e=>by cases e
 |.dic _ _::_,_,e=>by cases e
 |.ins _ _ _::_,_,e=>by cases e
def aB.bls{G:Gc}{H:Hp}:∀{bs:List Bool} {vs:List V},aB G H (bs.map D.bl) vs->vs=bs.map V.bl
 | [],_,h=>h
 |b::bs,_,q2_=>by
  obtain⟨v,r,e,q,z⟩:=q2_;subst e;rw[aB.bls z,show v=V.bl b from q];rfl
abbrev qT:LD->OD
 | [d]=>(lsD d).bind λds=>(gK ds).map λbs=>.bl (bs.all id)
 | _=>ab
abbrev uH:LD->OD
 | [d]=>(lsD d).bind λds=>(gK ds).map λbs=>.bl (bs.any id)
 | _=>ab
def uI{f:List Bool->D}(e:(match ds with | [d]=>(lsD d).bind λds=>(gK ds).map f | _=>ab)=aa d):∃q xs bs,ds=[q]/\lsD q=aa xs/\xs=bs.map D.bl/\d=f bs:=by
 split at e
 .rename_i q
  cases z:lsD q with
  |none=>rw[z]at e;nomatch e
  |some xs=>
   rw[z]at e;replace e:(gK xs).map f=aa d:=e
   cases B:gK xs with
   |none=>rw[B]at e;nomatch e
   |some bs=>rw[B]at e;cases e;exact⟨q,xs,bs,rfl,z,DJ B,rfl⟩
 .nomatch e
def DK(U:X.calm=ac):nt c X (.builtin "all") qT:=by
 rintro pins s σ H vs us Q I rv ⟨Hf,ds,d,z,r,e,k⟩;obtain⟨d0,xs,bs,rfl,B,rfl,rfl⟩:=uI e;obtain⟨v,M,r1⟩:=r.one;subst M;obtain⟨a,ws,L,q,rs⟩:=gH B r1;subst L;refine KG U pins s σ H _ us Q I rv ⟨a,bs,rfl,?_,k _ Hf H (Ext.refl z) rfl⟩;rw[<- rs.bls];exact z.seq q
def KI(U:X.calm=ac):nt c X (.builtin "any") uH:=by
 rintro pins s σ H vs us Q I rv ⟨Hf,ds,d,z,r,e,k⟩;obtain⟨d0,xs,bs,rfl,B,rfl,rfl⟩:=uI e;obtain⟨v,M,r1⟩:=r.one;subst M;obtain⟨a,ws,L,q,rs⟩:=gH B r1;subst L;refine KH U pins s σ H _ us Q I rv ⟨a,bs,rfl,?_,k _ Hf H (Ext.refl z) rfl⟩;rw[<- rs.bls];exact z.seq q
def DL:∀ds d,qT ds=aa d->d.scalar=ac:=λds d e=>by
 obtain⟨q,xs,bs,rfl,z,rfl,rfl⟩:=uI e;rfl
def KJ:∀ds d,uH ds=aa d->d.scalar=ac:=λds d e=>by
 obtain⟨q,xs,bs,rfl,z,rfl,rfl⟩:=uI e;rfl
abbrev Ite(K:bm)(l:Addr):It:=
  ⟨λi H=> ∃xs x, SqL K H l xs/\xs[i]? = aa x,
   λi H v H'=> ∃p x, v = .ref p/\H p = ab/\H' = upd H p (.tup [.int i, x])/\(∀xs, SqL K H l xs->xs[i]? = aa x),
   λi H=> ∃xs, SqL K H l xs/\xs.length<=i⟩
def KL{pos:Pos}(e it l:Addr)(ne:e≠it):
  jW P w K (.Tuple eN kx pos) (Ite K l) [e,it] e (λi h=>(∃old,IsEnum h e it (i:Int) old)/\h.IsListIter it l i) where
 mem:=by simp
 obj:=λi h st b hb=>by
  obtain⟨⟨old,he⟩,⟨o1,e1,_,d1⟩⟩:=st;simp only[b8,b6,or_false]at hb
  rcases hb with rfl |rfl
  .exact⟨_,he,λv q=>by nomatch q⟩
  .exact⟨o1,e1,λv q=>by rw[d1]at q;nomatch q⟩
 keep:=λi h h' st k=>by
  obtain⟨⟨old,he⟩,h1⟩:=st;exact⟨⟨old,k e (by simp) _ he⟩,h1.at λo q=>k it (by simp) o q⟩
 item:=by
  intro X hP hw hK hc i pins s σ H E I hf st hg;subst hP hw hK;obtain⟨⟨old,he⟩,h1⟩:=st;obtain⟨xs,x,q1,hx⟩:=hg;obtain⟨sg,r1,p1,z1⟩:=I.list q1;obtain⟨u1,e1,ru1⟩:=r1.get hx;refine wpAny_pyNext_enum_item he h1 p1.isList (by simpa using e1) ne λh' a1 a3 a5 a6 a7=>⟨_,rfl,?_⟩;refine wpAny_letOwnedTupleGo_enum a1 λh'' b1 b2=>?_
  have lt:∀b∈[e,it],b<s.heap.objs.size:=λb hb=>by
   simp only[b8,b6,or_false]at hb
   rcases hb with rfl |rfl
   .exact bD he
   .obtain⟨o,e,_⟩:=h1;exact bD e
  have kk:∀b o,b∉[e,it]->s.heap.get? b=aa o->h''.get? b=aa o:=λb o hb e=>by
   simp only[b8,b6,or_false,not_or]at hb;obtain⟨n1,n2⟩:=hb;exact(b2.2 b n1).trans (a7 b o n1 n2 e)
  have fr:=I.hok.fresh (aU _)
  have I2:Inv X pins σ (upd H s.heap.objs.size (.tup [.int i,x])) {s with heap:=h'',toks:=s.toks+1}:=
   (I.turnedMany kk hf).track (I.fpOk (aU _) fr) ⟨(by show 2<=aW;decide),_,.cons ⟨s.toks,rfl⟩ (.cons ru1 .nil),⟨_,((b2.2 _ (lD (lt e (by simp)))).trans a5),rfl,_,rfl⟩⟩
  refine⟨.ref s.heap.objs.size,_,I2,rfl,⟨_,x,rfl,fr,rfl,λdf h=>by rw[I.list_inj h q1];exact hx⟩,⟨⟨u1,?_⟩,(a3.at λo q=>(b2.2 it (ce ne)).trans q)⟩,λb hb=>?_⟩
  .have:((i+1:Nat):Int)=i+1:=by push_cast;rfl
   rw[this];exact b1
  .rw[bz (cy (lt b hb))];exact(hf b hb).1
 done:=by
  intro X hP hw hK hc i pins s σ H E I hf st hg;subst hP hw hK;obtain⟨⟨old,he⟩,h1⟩:=st;obtain⟨xs,q1,hend⟩:=hg;obtain⟨sg,r1,p1,z1⟩:=I.list q1;have l1':=r1.length;refine wpAny_pyNext_enum_end (I.ok.hd hc) he h1 p1.isList (by simp;lia) λh' kk=>⟨rfl,I.turnedMany (λb o hb q=>?_) hf⟩;simp only[b8,b6,or_false,not_or]at hb;exact kk b o hb.2 q
 self:=λ_ _ _ _ _ st h=>by obtain⟨⟨old,he⟩,_⟩:=st;exact wpAny_pyIter_enum he h
abbrev KM(K:bm)(ta:TA):TI:=λσ H R=>ta σ H λvs H1=>∃l,vs=[.ref l]/\(∃xs,SqL K H1 l xs)/\R (Ite K l) H1
variable{a:Expr}
def KN{p pos:Pos}(hg:Gl X "enumerate")(hm:X.mg "enumerate"=ab)(ha:PA X [a] ta)(hs:aY [a] X.env=[(ag,eval a X.env)]:=by rfl):
  PI X (.Tuple eN kx tpos) (.Call (.Name "enumerate" p) [a] [] pos) (KM X.K ta):=by
 intro pins s σ H R I h;refine Call_ (iU I hg hm boot_enumerate (kE (thn (ha pos pins s σ H _ I h) λus s1 ⟨vs,H1,B,r1,q1⟩=>?_) (by rw[hs];rfl) (by rfl)));obtain⟨l,e,⟨xs,h1⟩,q⟩:=q1;subst e;obtain⟨u,rfl,ru⟩:=ju r1;subst ru;obtain⟨U,r1,p1,z1⟩:=B.list h1;refine call_enumerate_list p1.isList λh' L a4 a6 a7=>?_;refine wpAny_pyIter_enum L ?_;refine⟨_,_,_,_,H1,rfl,(B.kept a7),KL _ _ _ (Nat.succ_ne_self _),⟨⟨_,L⟩,a4⟩,λb M=>?_,q⟩;simp only[b8,b6,or_false]at M
 have z:s1.heap.objs.size<=b:=by
  rcases M with rfl |rfl
  .exact mJ _ _
  .exact aU _
 exact B.fpOk z (B.hok.fresh z)
abbrev nB:Nat->LD->LD
 | _,[]=>[]
 |i,x::xs=>.tup [.int i,x]::nB (i+1) xs
def DM:∀(i:Nat) (xs:LD),(nB i xs).length=xs.length
 | _,[]=>rfl
 |i,x::xs=>by rw[nB,bT,bT,DM]
def yw:∀(k:Nat) (xs:LD) (i:Nat),(nB k xs)[i]?=(xs[i]?).map λx=>.tup [.int (k+i:Nat),x]
 | _,[],_=>rfl
 |k,x::xs,0=>rfl
 |k,x::xs,i+1=>by rw[nB,sI,sI,yw _ xs i,show k+1+i=k+(i+1) by lia]
abbrev yx:LD->OLD
 | [x]=>(lsD x).map (nB 0)
 | _=>ab
abbrev lS(f:MF2)(ρ:LS):OLD:=(f ρ).bind yx
def DN{pos:Pos}{f:MF2}(hg:Gl X "enumerate")(hm:X.mg "enumerate"=ab)(ha:DA c X [a] f)(hs:aY [a] X.env=[(ag,eval a X.env)]:=by rfl):
  DI c X (.Tuple eN kx tpos) (.Call (.Name "enumerate" p) [a] [] pos) (lS f):=
 PI.imp (KN hg hm ha.pa hs) λσ H R q_=>by
  obtain⟨Hf0,H0,Hf,ρ,ds,st,q,k⟩:=q_;unfold lS at q
  cases M:f ρ with
  |none=>rw[M]at q;nomatch q
  |some as=>
   rw[M]at q;replace q:yx as=aa ds:=q;refine⟨Hf0,H0,Hf,ρ,as,st,M,λvs Hf' H' x r=>?_⟩;unfold yx at q;split at q
   .rename_i dx
    cases ex:lsD dx with
    |none=>rw[ex]at q;nomatch q
    |some xs=>
     rw[ex]at q;cases q;obtain⟨v,ev,rv⟩:=r.one;obtain⟨l1,L,U,q1,r1⟩:=gH ex rv;subst U;refine⟨l1,ev,⟨L,x.s.seq q1⟩,k _ Hf' H' x λa9 H2 f2 s2 i=>?_⟩;have g1:=(f2.trans s2).seq q1;have h1:=r1.length;refine⟨λd B=>?_,λei=>⟨L,g1,by rw[DM]at ei;lia⟩⟩;rw[yw]at B
     cases hx:xs[i]? with
     |none=>rw[hx]at B;nomatch B
     |some x'=>
      rw[hx]at B;cases B;obtain⟨u1,I,ru1⟩:=r1.get hx;refine⟨⟨L,u1,g1,I⟩,λz H3 ⟨pp,z1,ez,hp,eh,y1⟩=>?_⟩;subst ez eh;have a1:=y1 L g1;rw[I]at a1;cases a1;exact⟨upd a9 pp _,Ext.new s2 hp,pp,_,rfl,bw,.cons (by rw[sY];rfl) (.cons (ru1.up (f2.trans (cu (s2.free hp)))) .nil)⟩
   .nomatch q
abbrev i3:D->Option Key
 |.int i=>aa (.inl i)
 |.str x=>aa (.inr x)
 | _=>ab
variable{k:Key}
def oP(e:i3 d=aa k)(r:Rep G H d v):v=kV k:=by
 cases d <;> first |(cases e;done) |(cases e;exact r)
abbrev fV(ks:List Key)(k:Key):Bool:=ks.any λj=>decide (j=k)
abbrev iy{q:Type}(ks:List Key)(xs:List q)(k:Key)(x:q):List q:=if fV ks k=ac then n8 (λj y=>if j=k then x else y) ks xs else xs++[x]
abbrev kZ(ks:List Key)(k:Key):List Key:=if fV ks k=ac then ks else ks++[k]
def DP{ks:List Key}{k:Key}{v:V}:∀{ks:List Key} {vs:List V},(ks.zip vs).map (λq=>if q.1=k then (q.1,v) else q)=ks.zip (n8 (λj y=>if j=k then v else y) ks vs)
 | [],_=>rfl
 | _::_,[]=>rfl
 |j::ks,y::vs=>by
  rw[mC,cS,zipWith_cons_cons,mC,DP (ks:=ks)]
  by_cases h:j=k
  .subst h;simp
  .simp[h]
def yy{k:Key}:∀{ks:List Key} {vs:List V},ks.length=vs.length->((ks.zip vs).any λq=>decide (q.1=k))=fV ks k
 | [],[],_=>rfl
 | [],_::_,h=>by cases h
 | _::_,[],h=>by cases h
 |j::ks,y::vs,h=>by
  unfold fV;rw[mC,iK,iK,yy (by simpa using h)];rfl
variable{ks:List Key}
def KO(h:ks.length=vs.length):dF (ks.zip vs) k v=(kZ ks k).zip (iy ks vs k v):=by
 unfold dF kZ iy;rw[yy h]
 by_cases e:fV ks k=ac
 .rw[if_pos e,if_pos e,if_pos e,DP (ks:=ks)]
 .rw[if_neg e,if_neg e,if_neg e,zip_append h];rfl
def KP{q:Type}{vs:List q}{v:q}(h:ks.length=vs.length):(kZ ks k).length=(iy ks vs k v).length:=by
 unfold kZ iy
 by_cases e:fV ks k=ac
 .rw[if_pos e,if_pos e,length_zipWith];lia
 .rw[if_neg e,if_neg e,aM,aM,h];rfl
def aB.zipW{G:Gc}{H:Hp}{k:Key}{d:D}{v:V}(q:Rep G H d v):∀{ks:List Key} {ds:LD} {vs:List V},aB G H ds vs->aB G H (n8 (λj y=>if j=k then d else y) ks ds) (n8 (λj y=>if j=k then v else y) ks vs)
 | [],_,_,_=>.nil
 | _::_,[],_,h=>by cases (h);exact .nil
 |j::ks,x::ds,_,q3_=>by
  obtain⟨u,r,e,z,B⟩:=q3_;subst e;rw[zipWith_cons_cons,zipWith_cons_cons];refine .cons ?_ (aB.zipW q B)
  by_cases e:j=k
  .rw[if_pos e,if_pos e];exact q
  .rw[if_neg e,if_neg e];exact z
def aB.put(r:aB G H ds vs)(q:Rep G H d v):aB G H (iy ks ds k d) (iy ks vs k v):=by
 unfold iy
 by_cases e:fV ks k=ac
 .rw[if_pos e,if_pos e];exact r.zipW q
 .rw[if_neg e,if_neg e];exact r.append (.cons q .nil)
abbrev qU(i:Nat)(ρ:LS):Option Fl:=aa (.nx (ρ.set i (.ownd [] [])))
abbrev nC(i:Nat)(q z:MF1)(ρ:LS):Option Fl:=(z ρ).bind λd=>(q ρ).bind λx=>(i3 x).bind λk=>match ρ[i]? with
 |some (.ownd ks xs)=>if ks.length<16777216 then aa (.nx (ρ.set i (.ownd (kZ ks k) (iy ks xs k d)))) else ab
 | _=>ab
def KQ(L:PS X st (kK CN (iV i))):DS c X st (qU i):=PS.imp L λE σ H M=>by
 obtain⟨Hf0,H0,Hf,ρ,o,B,I,k⟩:=M;cases I;intro q z;have x:Ext Hf H Hf (upd H q (.dK [])):=Ext.tmp B.sub z;exact k _ Hf _ x.f (B.setOwn rfl x z (B.sub.free z) ⟨[],bw,rfl,.nil⟩)
variable{p':Pos}
def yz{pos:Pos}(i:Nat)(q:X.N.Nodup)(hi:X.N[i]?=aa x:=by rfl)(I:Loc X.env.scope x:=by first |exact bU rfl |exact br rfl)(B:fR (.Dict [] [] pos) (aa (.Name x b0)) p'.line X.env=pure ag:=by rfl)(z:LcF X x:=by first |exact .inl rfl |exact .inr rfl):
  DS c X (.Assign [.Name x b0] (.Dict [] [] pos) p') (qU i):=KQ (lK q hi I CO B z)
variable{fk fv:MF1}
def KR(hp:PS X st (CL (eV i) (tD (Gx c X) fk) (tD (Gx c X) fv))):DS c X st (nC i fk fv):=PS.imp hp λE σ H q_=>by
 obtain⟨Hf0,H0,Hf,ρ,o,so,B,k⟩:=q_;unfold nC at B
 cases M:fv ρ with
 |none=>rw[M]at B;nomatch B
 |some d=>
  rw[M]at B
  cases U:fk ρ with
  |none=>rw[U]at B;nomatch B
  |some x=>
   rw[U]at B
   cases e3:i3 x with
   |none=>rw[ax,ax,e3]at B;nomatch B
   |some ky=>
    rw[ax,ax,e3]at B;split at B
    .rename_i ks xs es;split at B
     .rename_i hl;cases B;refine⟨Hf0,H0,Hf,ρ,d,so,M,λv al H1 x1 r1=>?_⟩;have I:=so.step x1;obtain⟨l,el,h0,hf,vs,q,z,r⟩:=I.ownAt rfl es;refine⟨_,el,Hf0,H0,al,ρ,x,I,U,λy a9 H2 L r2=>?_⟩;have ey:=oP e3 r2;subst ey;refine⟨l,_,rfl,qy.k (L.h _ _ q) (by rw[cL,jQ];lia),?_⟩;refine k σ a9 _ (x1.f.trans L.f) ((I.step L).mutd rfl rfl es el ⟨iy ks vs ky v,?_,KP z,(r.up L.f).put (r1.up L.f)⟩);rw[bw,KO z]
     .nomatch B
    .nomatch B
variable{i' value:Expr}
def DR{pos:Pos}(L:X.A.units+64<cLine)(z:PE X e (eV i))(q:DE c X i' fk)(I:DE c X value fv)(B:fR value (aa (.Subscript e i' b0)) pos.line X.env=pure ag:=by rfl):
  DS c X (.Assign [.Subscript e i' b0] value pos) (nC i fk fv):=KR (JU (by lia) z q I B)
def KS:∀{ks:List Key} {vs:List V},ks.length=vs.length->(fm (ks.zip vs) k).isSome=fV ks k:=λ{ks vs} h=>by
 rw[<- t8,yy h]
abbrev nE(i:Nat)(fk fv:MF1)(ρ:LS):Option Fl:=(fv ρ).bind λd=>(fk ρ).bind λx=>match x with
 | .int k=>(match ρ[i]? with
  |some (.own xs)=>(ixN xs.length k).map λj=>.nx (ρ.set i (.own (xs.set j d)))
  | _=>ab)
 | _=>ab
def KU(hp:PS X st (kK (tD (Gx c X) fv) (xA (eV i) (tD (Gx c X) fk) xR))):DS c X st (nE i fk fv):=PS.imp hp λE σ H q_=>by
 obtain⟨Hf0,H0,Hf,ρ,o,so,z,k⟩:=q_;unfold nE at z
 cases M:fv ρ with
 |none=>rw[M]at z;nomatch z
 |some d=>
  rw[M]at z
  cases U:fk ρ with
  |none=>rw[U]at z;nomatch z
  |some x=>
   rw[U]at z
   obtain⟨I,rfl⟩:∃I,x=.int I:=by cases x <;> first |exact⟨_,rfl⟩ |nomatch z
   replace z:(match ρ[i]? with |some (.own xs)=>(ixN xs.length I).map λj=>Fl.nx _ | _=>ab)=aa o:=z
   split at z
   .rename_i xs es
    cases ej:ixN xs.length I with
    |none=>rw[ej]at z;nomatch z
    |some j=>
     rw[ej]at z;cases z;refine⟨Hf0,H0,Hf,ρ,d,so,M,λv al H1 x1 r1=>?_⟩;have B:=so.step x1;obtain⟨l,el,h0,hf,vs,q,r⟩:=B.ownAt rfl es;refine⟨_,el,Hf0,H0,al,ρ,.int I,B,U,λy a9 H2 L r2=>?_⟩;exact⟨l,vs,I,j,rfl,r2,(L.h _ _ q),by rw[<- r.length];exact ej,(k σ a9 _ (x1.f.trans L.f) ((B.step L).mutd rfl rfl es el ⟨vs.set j v,bw,(r.up L.f).set j (r1.up L.f)⟩))⟩
   .nomatch z
def KW{pos:Pos}(B:PE X e (eV i))(z:DE c X i' fk)(L:DE c X value fv)(I:p7 [.Subscript e i' b0] value pos.line X.env=pure ag:=by rfl)(M:p8 [.Subscript e i' b0] value X.env=pure ab:=by rfl)
 (q:(fj [.Subscript e i' b0] X.env).map (·.2)=[h9 (.Subscript e i' b0) X.env]:=by rfl)
 (ha:∀ v,h9 (.Subscript e i' b0) X.env v=(do
   let ov <- hZ [v] (eval e X.env)
   let iv <- hZ [v,ov] (eval i' X.env)
   standAt b0
   hZ [v,ov,iv] (setItem ov iv v)
   release [v,ov,iv] []):=by intro _;rfl):
  DS c X (.Assign [.Subscript e i' b0] value pos) (nE i fk fv):=KU (tP L (Cd B z Cy ha) I M q)
abbrev gw(f g:MF1)(ρ:LS):OLD:=(f ρ).bind λx=>(g ρ).bind λy=>match x,y with
 |.lst a,.lst b=>if a.length+b.length<=16777216 then aa (a++b) else ab
 | _,_=>ab
def KY{f g:MF1}(h:gw f g ρ=aa ds):∃a b,f ρ=aa (.lst a)/\g ρ=aa (.lst b)/\a.length+b.length<=16777216/\ds=a++b:=by
 unfold gw at h
 cases q:f ρ with
 |none=>rw[q]at h;nomatch h
 |some x=>
  cases z:g ρ with
  |none=>rw[q,z]at h;nomatch h
  |some y=>
   rw[q,z,ax,ax]at h;split at h
   .split at h
    .rename_i a b B;cases h;exact⟨a,b,rfl,rfl,B,rfl⟩
    .nomatch h
   .nomatch h
def qV{pos:Pos}{b:Expr}{f g:MF1}(ha:DE c X a f)(hb:DE c X b g):DO c X (.BinOp a .Add b pos) (gw f g):=PE.imp (xC CF ha hb) λσ H Q q_=>by
 obtain⟨Hf0,H0,Hf,ρ,ds,st,M,k⟩:=q_;obtain⟨xs,ys,I,L,hl,rfl⟩:=KY M;refine⟨Hf0,H0,Hf,ρ,_,st,I,λv al H1 B r1=>⟨Hf0,H0,al,ρ,_,st.step B,L,λu a9 H2 q r2=>?_⟩⟩;obtain⟨l,vs,U,q1,s1⟩:=r1.up q.f;obtain⟨m,us,em,q2,s2⟩:=r2;subst U em;have x:=B.trans q;exact⟨l,m,vs,us,rfl,rfl,q.s _ _ q1,q.s _ _ q2,by rw[cL,<- s1.length,<- s2.length];exact hl,λp z=>k p _ a9 _ (x.trans (Ext.tmp x.s z)) (x.h.free z) (x.s.free z) bw (s1.append s2)⟩
abbrev wp(F:MF3)(ρ:LS)(K:Fl->Prop):Prop:=∃o,F ρ=aa o/\K o
abbrev DU(F:MF3)(K:Fl->Prop):Fl->Prop
 |.nx ρ=>wp F ρ K
 |o=>K o
abbrev DV(J:LS->Prop)(K:Fl->Prop):Fl->Prop
 |.nx ρ=>J ρ
 |.ct ρ=>J ρ
 |.bk ρ=>K (.nx ρ)
 |o=>K o
abbrev qW(Q:D->Prop)(o:Fl):Prop:=∃d,Dw o=aa d/\Q d
variable{K:Fl->Prop}
def ao(h:wp F ρ (DU F' K)):wp (aq F F') ρ K:=by
 obtain⟨o,e,k⟩:=h;unfold wp aq;rw[e]
 cases o with
 |nx ρ'=>exact k
 | _=>exact⟨_,rfl,k⟩
def bj(h:K (.nx ρ)):wp bF ρ K:=⟨_,rfl,h⟩
def cw{f:MF1}(h:f ρ=aa d)(k:K (.nx (ρ.set i (.im d)))):wp (cb i f) ρ K:=⟨_,Kv h,k⟩
def e7{f:MF2}{d:LD}(h:f ρ=aa d)(k:K (.nx (ρ.set i (.own d)))):wp (dJ i f) ρ K:=⟨_,Kw h,k⟩
def c8{f:MF1}(h:f ρ=aa d)(k:K (.rt d)):wp (bH f) ρ K:=⟨_,Kx h,k⟩
def yA{f:MF2}{d:LD}(h:f ρ=aa d)(k:K (.rtO d)):wp (nw f) ρ K:=⟨_,by unfold nw;rw[h];rfl,k⟩
def nF{o:Fl}(h:F ρ=aa o)(k:K o):wp F ρ K:=⟨_,h,k⟩
def aT{t:MF4}(h:t ρ=aa b)(z:b=ac->wp F ρ K)(q:b=ag->wp F' ρ K):wp (bx t F F') ρ K:=by
 unfold wp bx;rw[h]
 cases b with
 |true=>exact z rfl
 |false=>exact q rfl
def jD(e:yn i ρ=ρ')(h:wp F ρ' K):wp (gI i F) ρ K:=by
 subst e;exact h
def iz{f:MF1}(h:f ρ=aa d)(h':ρ[i]?=aa (.own xs))(q:xs.length<16777216)(k:K (.nx (ρ.set i (.own (xs++[d]))))):wp (ge i f) ρ K:=⟨_,KC h h' q,k⟩
def j4{f:MF1}(h:f ρ=aa d)(k:K (.nx ρ)):wp (gc f) ρ K:=⟨_,KD h,k⟩
def KZ{k:Int}(I:fv ρ=aa d)(B:fk ρ=aa (.int k))(h':ρ[i]?=aa (.own xs))(q:0<=k)(z:k<xs.length):nE i fk fv ρ=aa (.nx (ρ.set i (.own (xs.set k.toNat d)))):=by
 have e:ixN xs.length k=aa k.toNat:=by
  unfold ixN;rw[if_pos q,if_pos z]
 unfold nE;rw[I,ax,B,ax,h'];show(ixN xs.length k).map _=_;rw[e];rfl
def K0{k:Int}(L:fv ρ=aa d)(I:fk ρ=aa (.int k))(h':ρ[i]?=aa (.own xs))(z:0<=k)(B:k<xs.length)(q:K (.nx (ρ.set i (.own (xs.set k.toNat d))))):wp (nE i fk fv) ρ K:=⟨_,KZ L I h' z B,q⟩
def DY{M:Type}{g:D->LS->Option LS}{F:MF3}{K:Fl->Prop}(f:M->D)(I:List M->LS->Prop):∀(post pre:List M) (ρ:LS),I pre ρ ->
  (∀z x L ρ,pre++post=z++x::L->I z ρ->∃ρ1,g (f x) ρ=aa ρ1/\wp F ρ1 (DV (I (z++[x])) K))->(∀ρ',I (pre++post) ρ'->K (.nx ρ'))->wp (i0 g F (post.map f)) ρ K
 | [],pre,ρ,h,_,hk=>⟨_,rfl,hk ρ (by rw[cx];exact h)⟩
 |x::post,pre,ρ,h,hs,hk=>by
  obtain⟨ρ1,U,o,e2,B⟩:=hs pre x post ρ rfl h;unfold wp;rw[cS];unfold i0;rw[U,ax,e2,ax]
  have go:=λq h2=>
   DY f I post (pre++[x]) q h2 (by rw[eU];exact hs) (by rw[eU];exact hk)
  cases o with
  |nx q=>exact go q B
  |ct q=>exact go q B
  |bk q=>exact⟨_,rfl,B⟩
  |rt d=>exact⟨_,rfl,B⟩
  |rtO d=>exact⟨_,rfl,B⟩
  |rtS d q=>exact⟨_,rfl,B⟩
  |rtT o=>exact⟨_,rfl,B⟩
def cM{q:Type}(xs:List q)(f:q->D)(I:List q->LS->Prop)(hi:fi ρ=aa (xs.map f))(z:I [] ρ)
 (L:∀pre x post ρ,xs=pre++x::post->I pre ρ->∃ρ1,g (f x) ρ=aa ρ1/\wp F ρ1 (DV (I (pre++[x])) K))(B:∀ρ',I xs ρ'->K (.nx ρ')):wp (cI fi g F) ρ K:=by
 obtain⟨o,e,k⟩:=DY f I xs [] ρ z L B;refine⟨o,?_,k⟩;unfold cI;rw[hi];exact e
variable{Q:D->Prop}
def D0(h:wp F (jC n ds) (qW Q)):∃d,bY n F ds=aa d/\Q d:=by
 obtain⟨o,e,d,z,q⟩:=h;refine⟨d,?_,q⟩;unfold bY;rw[e];exact z
def cn{r:D}(h:wp F (jC n ds) (qW λd=>d=r)):bY n F ds=aa r:=by
 obtain⟨d,e,q⟩:=D0 h;rw[e,q]
def cP(h:Q d):qW Q (.rt d):=⟨d,rfl,h⟩
def j5{d:LD}(h:Q (.lst d)):qW Q (.rtO d):=⟨.lst d,rfl,h⟩
def oQ{f:MF2}(h:f ρ=aa ds)(h':m ds=aa d)(q:d.scalar=ac):kX m f ρ=aa d:=by
 unfold kX;rw[h,ax,h',ax,if_pos q]
variable{i:Int}
def lT(h:0<j):jx (.int i) (.int j)=aa (.int (i % j)):=uG h
def yB(h:oE i j):qC (.int i) (.int j)=aa (.int (i / j)):=uG h
def uJ(h:qf i j):nc (.int i) (.int j)=aa (.int (i ^ j.toNat)):=uG h
def gZ:cT (.int i) (.int j)=aa (.int (i+j)):=rfl
def k6:kR (.int i) (.int j)=aa (.int (i-j)):=rfl
def uK:dLt (.int i) (.int j)=aa (.bl (decide (i<j))):=rfl
def uL:dLe (.int i) (.int j)=aa (.bl (decide (i<=j))):=rfl
def i4:dGt (.int i) (.int j)=aa (.bl (decide (j<i))):=rfl
def yC:dGe (.int i) (.int j)=aa (.bl (decide (j<=i))):=rfl
def dL{q:Type}(xs:List q)(f:q->D):bE [.lst (xs.map f)]=aa (.int xs.length):=by
 show aa _=_;rw[au]
def D3{q:Type}(xs:List q)(f:q->D):bE [.kl (xs.map f)]=aa (.int xs.length):=by
 show aa _=_;rw[au]
def K1{q:Type}(f:q->D)(xs:List q)(lo hi:Option Int):oN (xs.map f) lo hi=((xs.drop (HT.sIx xs.length 0 lo)).take (HT.sIx xs.length xs.length hi-HT.sIx xs.length 0 lo)).map f:=by
 unfold oN;rw[au,map_take,map_drop]
variable{lo hi:Option Int}
def qX{q:Type}{f:MF1}{l h:LS->Option (Option Int)}{g:q->D}{xs:List q}(e:f ρ=aa (.lst (xs.map g)))(z:l ρ=aa lo)(B:h ρ=aa hi):mSl f l h ρ=aa (((xs.drop (HT.sIx xs.length 0 lo)).take (HT.sIx xs.length xs.length hi-HT.sIx xs.length 0 lo)).map g):=by
 unfold mSl;rw[e,ax];show(l ρ).bind _=_;rw[z,ax,B,<- K1];rfl
def D4{q:Type}(g:q->D)(d:q):∀(xs:List q),nB 0 (xs.map g)=(cp xs.length).map λi=>D.tup [.int (i:Nat),g (xs.getD i d)]:=λxs=>by
 refine lA λi=>?_;rw[yw,eM,eM]
 by_cases h:i<xs.length
 .rw[cR h,pR h,sY];simp[h]
 .rw[sJ (by lia),sJ (by rw[dH];lia)];rfl
def K2{q:Type}{f:MF2}{g:q->D}{xs:List q}(d:q)(e:f ρ=aa [.lst (xs.map g)]):lS f ρ=aa ((cp xs.length).map λi=>D.tup [.int (i:Nat),g (xs.getD i d)]):=by
 unfold lS;rw[e,<- D4];rfl
abbrev kJ(J:LS->Prop)(o:Fl):Prop:=∃ρ',o=.nx ρ'/\J ρ'
def k_J{J:LS->Prop}(h:J ρ):kJ J (.nx ρ):=⟨ρ,rfl,h⟩
def k7{S:MF3}(J:LS->Prop)(h:wp S ρ (kJ J))(k:∀ρ',J ρ'->wp F ρ' K):wp (aq S F) ρ K:=by
 apply ao;obtain⟨o,e,ρ',rfl,j⟩:=h;exact⟨_,e,k ρ' j⟩
def uM{i:Nat}(h:ρ[i]?=aa (.im d))(k:K (.rt d)):wp (fG i) ρ K:=⟨_,by unfold fG;rw[h],k⟩
def nG{i:Nat}{d:LD}(h:ρ[i]?=aa (.own d))(k:K (.rtO d)):wp (fG i) ρ K:=⟨_,by unfold fG;rw[h],k⟩
abbrev D.flat:D->Bool
 |.tup xs=>xs.all D.scalar
 |d=>d.scalar
abbrev lU(Hf H:Hp):Hp:=λa=>match H a with
 |some (.tup vs)=>aa (.tup vs)
 | _=>Hf a
def yD{a:Addr}(h:H a=aa (.tup vs)):lU Hf H a=aa (.tup vs):=by
 unfold lU;rw[h]
def uN{a:Addr}(h:∀vs,H a≠aa (.tup vs)):lU Hf H a=Hf a:=by
 unfold lU;split
 .rename_i vs e;exact absurd e (h vs)
 .rfl
def D5(s:aH Hf H)(g:aH H H'):Ext Hf H (lU Hf H') H':=by
 refine⟨λb u e=>?_,g,λb u e=>?_,λl o e t=>uN λvs q=>?_⟩
 .have z:=g b u (s b u e)
  cases u with
  |tup vs=>exact yD z
  | _=>
   rw[uN (λvs q=>by rw[z]at q;nomatch q)];exact e
 .by_cases h:∃vs,H' b=aa (.tup vs)
  .obtain⟨vs,h⟩:=h;rw[yD h]at e;rw[h];exact e
  .rw[uN (λvs q=>h ⟨vs,q⟩)]at e;exact g b u (s b u e)
 .rw[g l o e]at q;cases q
  nomatch t
def aB.sc{G:Gc}{H H':Hp}:∀{ds:LD} {vs:List V},ds.all D.scalar=ac->aB G H ds vs->aB G H' ds vs
 | [],_,_,h=>h
 |d::ds,_,hs,q3_=>by
  obtain⟨v,r,e,q,z⟩:=q3_;rw[mH,di]at hs;exact⟨v,r,e,q.sc hs.1,aB.sc hs.2 z⟩
def Rep.flat(z:d.flat=ac)(r:Rep G H d v):Rep G (lU Hf H) d v:=by
 cases d with
 |tup xs=>
  obtain⟨a,vs,e,h,q⟩:=r
  exact⟨a,vs,e,yD h,q.sc z⟩
 |non=>exact r.sc z
 |bl _=>exact r.sc z
 |int _=>exact r.sc z
 |str _=>exact r.sc z
 |lst _=>nomatch z
 |kl _=>nomatch z
 |kt _=>nomatch z
 |dic _ _=>nomatch z
 |ins _ _ _=>nomatch z
 |kd _ _=>nomatch z
 |dT _ _=>nomatch z
abbrev i5(m:LD->OD)(f:MF2)(ρ:LS):OD:=(f ρ).bind λds=>(m ds).bind λd=>if d.flat then aa d else ab
variable{k:Nat}
def uO{pos:Pos}{f:Addr}(pk:Pk X.prog X.w X.K X.mg X.base CX0 k x (f,fd) ps (spD (Gx c X) ps.length m))(U:c6 k0 X.A)(ha:DAB c X (e::es) fa)(hl:(e::es).length=ps.length:=by rfl)(I:NDb x:=by decide)(he:StE X e es:=by rfl)(M:BkE X pos es:=by rfl)(L:k<=k0:=by decide)(hg:Gl X x:=by first |rfl |exact glc rfl):
  DE c X (.Call (.Name x p) (e::es) [] pos) (i5 m fa):=PE.imp (kM pk.ok (U.mono L) hg pk.g pk.kp pk.b .nil kQ ha.pa I he M) λσ H Q q_=>by
 obtain⟨Hf0,H0,Hf,ρ,d,st,q,kq⟩:=q_;unfold i5 at q
 cases z:fa ρ with
 |none=>rw[z]at q;nomatch q
 |some ds=>
  rw[z]at q;replace q:(m ds).bind _=_:=q
  cases B:m ds with
  |none=>rw[B]at q;nomatch q
  |some d'=>
   rw[B]at q;replace q:(if d'.flat=ac then aa d' else ab)=aa d:=q;split at q
   .rename_i hs;cases q;refine⟨Hf0,H0,Hf,ρ,ds,st,z,λvs Hf' H' x r=>?_⟩;rw[cx];exact⟨H',ds,_,aH.refl _,r,(ha.len ρ ds z).trans hl,B,λv a9 H2 x2 r2=>kq v _ H2 (x.trans (D5 x.s x2.h)) ((r2.up x2.s).flat hs)⟩
   .nomatch q
def K3{pos:Pos}{f:Addr}(pk:Pk X.prog X.w X.K X.mg X.base CX0 k x (f,fd) ps (spD (Gx c X) ps.length m))(I:c6 k0 X.A)(ha:DAB c X (e::es) fa)(hl:(e::es).length=ps.length:=by rfl)(q:NDb x:=by decide)(he:StE X e es:=by rfl)(B:BkE X pos es:=by rfl)(z:k<=k0:=by decide)(hg:Gl X x:=by first |rfl |exact glc rfl):
  DB c X (.Call (.Name x p) (e::es) [] pos) (aJ m fa):=PE.imp (kM pk.ok (I.mono z) hg pk.g pk.kp pk.b .nil kQ ha.pa q he B) λσ H Q q_=>by
 obtain⟨Hf0,H0,Hf,ρ,d,st,ef,kq⟩:=q_;obtain⟨ds,L,U⟩:=uv ef;refine⟨Hf0,H0,Hf,ρ,ds,st,L,λvs Hf' H' x r=>?_⟩;rw[cx];exact⟨H',ds,d,aH.refl _,r,(ha.len ρ ds L).trans hl,U,λv a9 H2 M r2=>kq v Hf' H2 (x.trans (Ext.grow x.s M.h)) (r2.up M.s)⟩
abbrev nH(m q:D->D->OD)(f g h:MF1)(ρ:LS):OD:=(f ρ).bind λx=>(g ρ).bind λy=>(m x y).bind λz=>match z with
 |.bl ac=>(h ρ).bind λw=>q y w
 |.bl ag=>aa (.bl ag)
 | _=>ab
variable{m':D->D->OD}
def K4{m:D->D->OD}{f g h:MF1}(e:nH m m' f g h ρ=aa d):∃x y b,f ρ=aa x/\g ρ=aa y/\m x y=aa (.bl b)/\(b=ag->d=.bl ag)/\(b=ac->∃w,h ρ=aa w/\m' y w=aa d):=by
 unfold nH at e
 cases I:f ρ with
 |none=>rw[I]at e;nomatch e
 |some x=>
  cases L:g ρ with
  |none=>rw[I,L]at e;nomatch e
  |some y=>
   rw[I,L,ax,ax]at e
   cases B:m x y with
   |none=>rw[B]at e;nomatch e
   |some z=>
    rw[B,ax]at e
    cases z with
    |bl b=>
     cases b with
     |false=>
      exact⟨x,y,ag,rfl,rfl,B,λ_=>(cz e).symm,λq=>by nomatch q⟩
     |true=>
      cases M:h ρ with
      |none=>rw[M]at e;nomatch e
      |some w=>rw[M]at e;exact⟨x,y,ac,rfl,rfl,B,λq=>(by nomatch q),λ_=>⟨w,rfl,e⟩⟩
    | _=>nomatch e
def D6{pos:Pos}{b c':Expr}{B:CmpOp}{m:D->D->OD}{f g h:MF1}(ho:OpD c X (cW op) m)(hs:∀x y d,m x y=aa d->d.scalar=ac)(ho':OpD c X (cW B) m')(hs':∀x y d,m' x y=aa d->d.scalar=ac)(ha:DB c X a f)(hb:DB c X b g)(hc:DB c X c' h)
 (hm:lastMarks [op,B] [b,c']=ag:=by with_unfolding_all rfl):DE c X (.Compare a [op,B] [b,c'] pos) (nH m m' f g h):=PE.imp (IW ho ho' ha hb hc hm) λσ H Q q_=>by
 obtain⟨Hf0,H0,Hf,ρ,d,st,ef,k⟩:=q_;obtain⟨x,y,b',e1,e2,e3,eF,eT⟩:=K4 ef;refine⟨Hf0,H0,Hf,ρ,x,st,e1,λv al H1 M r1=>⟨Hf0,H0,al,ρ,y,st.step M,e2,λu a9 H2 L r2=>⟨H2,x,y,.bl b',aH.refl _,r1.up L.h,r2,e3,λz Hf3 H3 x3 r3=>⟨b',r3,?_⟩⟩⟩⟩;have I:=Ext.grow L.s x3.h
 cases b' with
 |false=>
  exact k _ a9 H3 ((M.trans L).trans I) (by rw[eF rfl];rfl)
 |true=>
  obtain⟨w,e4,e5⟩:=eT rfl;exact⟨Hf0,H0,a9,ρ,w,((st.step (M.trans L)).step I),e4,λw' U H4 x4 r4=>⟨H4,y,w,d,aH.refl _,r2.up (x3.h.trans x4.h),r4,e5,λq Hf5 H5 x5 r5=>k _ U H5 (((M.trans L).trans I).trans (x4.trans (Ext.grow x4.s x5.h))) (r5.sc (hs' _ _ _ e5))⟩⟩
def K5{f:MF2}(h:f ρ=aa ds)(h':m ds=aa d)(q:d.flat=ac):i5 m f ρ=aa d:=by
 unfold i5;rw[h,ax,h',ax,if_pos q]
def D7{m:D->D->OD}{f g h:MF1}{x w:D}{q:Bool}(z:f ρ=aa x)(B:g ρ=aa y)(I:m x y=aa (.bl b))(L:h ρ=aa w)(M:m' y w=aa (.bl q)):nH m m' f g h ρ=aa (.bl (b && q)):=by
 unfold nH;rw[z,ax,B,ax,I,ax]
 cases b with
 |false=>rfl
 |true=>
  rw[L];exact M
def D8{k:Int}(h:k.natAbs<2 ^ n):tE k<=n:=by
 unfold tE;split
 .exact gD _
 .rename_i q;have:k.natAbs≠0:=λz=>q (by rw[Int.natAbs_eq_zero.mp z];rfl);exact(Nat.log2_lt this).mpr h
abbrev lV(i j:Int):Prop:=qg i j\/(i.natAbs<2 ^ 200/\j.natAbs<2 ^ 200)
def lV.ok(h:lV i j):IntMulOk i j:=by
 rcases h with h |⟨h1,h2⟩
 .exact h.ok
 .have a:=D8 h1;have b:=D8 h2;unfold IntMulOk
  have:c9.Int.intTooBig (tE i+tE j)=ag:=by
   have c:400<=bitsLine:=by decide
   exact decide_eq_false (by lia)
  rw[this,Bool.and_false];exact bZ
noncomputable instance {i j:Int}:Decidable (lV i j):=by unfold lV;infer_instance
@[reducible]noncomputable def jE:D->D->OD:=dI lV λi j=>.int (i*j)
def K6:OpR X (fS .Mult) (rI lV λi j=>.int (i*j)):=opI λ_ _ _ _ _ _ _ z q=>mul_int q z.ok
def nI:OpD c X (fS .Mult) jE:=ul K6 λ_ _ _ _=>rfl
def lW(h:lV i j):jE (.int i) (.int j)=aa (.int (i*j)):=uG h
abbrev qY(g:D->LS->Option LS)(f:MF1)(ρ:LS):Option Fl:=(f ρ).bind λd=>(g d ρ).map .nx
def K7{pos:Pos}{f:MF1}(U:DE c X e f)(hg:DG c X tg k g)(hs:p7 [tg] e pos.line X.env=pure ag:=by rfl)(hw:p8 [tg] e X.env=pure ab:=by rfl)
 (M:(fj [tg] X.env).map (·.2)=[h9 tg X.env]:=by rfl):DS c X (.Assign [tg] e pos) (qY g f):=PS.imp (tP U hg.pg hs hw M) λE σ H q_=>by
 obtain⟨Hf0,H0,Hf,ρ,o,L,q,kq⟩:=q_;unfold qY at q
 cases z:f ρ with
 |none=>rw[z]at q;cases q
 |some d=>
  rw[z,ax]at q
  cases B:g d ρ with
  |none=>rw[B]at q;cases q
  |some ρ'=>
   rw[B]at q;cases q;exact⟨Hf0,H0,Hf,ρ,d,L,z,λv Hf' H' x r=>⟨Hf0,H0,Hf',ρ,d,ρ',L.step x,r,B,λσ' I=>kq σ' Hf' H' x.f I⟩⟩
def K8{f:MF1}(h:f ρ=aa d)(h':g d ρ=aa ρ')(k:K (.nx ρ')):wp (qY g f) ρ K:=⟨_,by unfold qY;rw[h,ax,h'];rfl,k⟩
set_option maxRecDepth 100000
def qZ:Slot "list_reverseiterator" "__next__" "list_reverseiterator.__next__":=Slot.of (n:="__next__") (owner:="list_reverseiterator")
 (by rw[mO,mM];kernel_rfl) (by decide +kernel) (by decide +kernel) (by decide +kernel) (by first |exact bU (by decide +kernel) |exact br (by decide +kernel)) (by rw[p6];kernel_rfl)
def D9:Slot "list_reverseiterator" "__iter__" "list_reverseiterator.__iter__":=Slot.of (n:="__iter__") (owner:="list_reverseiterator")
 (by rw[mO,mM];kernel_rfl) (by decide +kernel) (by decide +kernel) (by decide +kernel) (by first |exact bU (by decide +kernel) |exact br (by decide +kernel)) (by rw[p6];kernel_rfl)
def Ea:entryFor table "list_reverseiterator.__next__"=aa c9.«list_reverseiterator.__next__»:=by exact entryFor_of_fast (by kernel_rfl)
def K9:entryFor table "list_reverseiterator.__iter__"=aa c9.«dict_keyiterator.__iter__»:=by exact entryFor_alias (id':="dict_keyiterator.__iter__") (by kernel_rfl) rfl (by decide +kernel) (by kernel_rfl)
def Eb(v:Value):argsOk "list_reverseiterator.__next__" ⟨[v],[]⟩:=by(unfold argsOk;kernel_rfl)
def La(v:Value):argsOk "list_reverseiterator.__iter__" ⟨[v],[]⟩:=by(unfold argsOk;kernel_rfl)
abbrev i6(h:Heap)(it l:Addr)(j:Int):Prop:=∃o,h.get? it=aa o/\o.cls=.type "list_reverseiterator" /\ o.data=.fields #[.ref l,iP j]
def i6.ty(h:i6 s.heap it l j):s.TypeIs (.ref it) "list_reverseiterator":=by
 obtain⟨o,e,c,_⟩:=h;exact⟨o,e,c⟩
def Ec{Q:PRS}(q:i6 s.heap it l j)(h:Q (.ref it) s):wpAny (model P w) A (pyIter (.ref it)) Q E s:=by
 exact wpAny_pyIter_slot q.ty D9 (on D9 q.ty K9 (bc ⟨iR it,rfl,"list_reverseiterator",_,q.ty,qZ.lookup,h⟩) (La _))
def Lb{j:Nat}{its:Array Value}{x:Value}{Q:Option Value->aI->Prop}(z:i6 s.heap it l j)(U:s.heap.IsList l its)(hx:its[j]?=aa x)
 (L:∀h',i6 h' it l ((j:Int)-1)->iQ it s.heap h'->Q (aa x) {s with heap:=h'}):wpAny (model P w) A (jo (.ref it)) Q E s:=by
 obtain⟨o,q,M,hd⟩:=id z;obtain⟨o2,I,_,n2,B⟩:=U;refine av (tw (pY z.ty qZ (on qZ z.ty Ea ?_ (Eb _))));show wpAny _ _ (field _ 1 >>= _) _ _ s;refine av (iM q hd rfl ?_);refine av (iM q hd rfl ?_);refine av (ow I B ?_);simp only[gP,hx];refine av (wpAny_setField q hd (by simp) (bc ⟨x,rfl,bc (L _ ?_ (iQ.update ..))⟩));refine⟨_,oy _ q (Obj.isFreed_of_fields (Obj.data_mapFields hd _)),(Obj.cls_mapFields ..).trans M,?_⟩;rw[Obj.data_mapFields hd];simp[iP]
def Lc(I:j<0){Q:Option Value->aI->Prop}(B:A.handled=ab)(q:i6 s.heap it l j)
 (z:∀h',Heap.ExtBut it s.heap h'->Q ab {s with heap:=h'}):wpAny (model P w) A (jo (.ref it)) Q E s:=by
 obtain⟨o,L,U,hd⟩:=id q;refine av (tw (pY q.ty qZ (on qZ q.ty Ea ?_ (Eb _))));show wpAny _ _ (field _ 1 >>= _) _ _ s;refine av (iM L hd rfl ?_);show wpAny _ _ (if j<0 then _ else _) _ _ s;rw[if_pos I];refine av (mS ?_);refine av ?_;show wpAny _ _ _ _ _ _;refine av ?_;simp only[newTuple]
 refine av (tf ?_ (by size_fits));refine av (wpAny_of_eq (by first |rfl |(simp only[firstArgMember];rfl)) ?_)
 refine tf ?_ (by size_fits);simp only[raiseNew];refine av (wpAny_handled ?_);rw[show A.in1.handled=ab from B];refine av (bc (wpAny_throw ?_));refine av (wpAny_isInstance ⟨_,dS _ rfl,rfl⟩ isSubtype_stop ?_);exact bc (z _ λb u M e=>(bV _ (bV _ e)))
def Ld{U q:String}{Bn:c9}{args:LVa}{S:Hu}{Q:PRS}{c:Value}{tl:LVa}
 (n1:(jr T==jr "type")=ag)(n2:((Manifest.find? T).bind (·.mro.findSome? λt=>(Manifest.find? t).bind λb=>if b.noNew then aa ac else if b.attrs.any (·.1 == "__new__") then aa ag else ab)).getD ag=ag)
 (hmro:mroOf (.type T)=pure (c::tl))(M:Bind.madeBy (.type T)=pure (aa q))(B:plainId q=ac)(hsub:isSubtype (.type U) (.type T)=pure ag)
 (hct:checkTypeCall T ⟨args,[]⟩=pure ())(L:checkBuiltinCall q ⟨.type T::args,[]⟩=pure ())(z:entryFor table q=aa Bn)(g:Meets (Bn ⟨.type T::args,[]⟩) S)
 (h:S A.in1 (wants (λobj I=>I.TypeIs obj U/\Q obj I) E) s):wpAny (model P w) A (call (.type T) args) Q E s:=by
 refine wpAny_call (codeAny_of_tree ?_);show wpAny _ _ _ _ _ _;refine bc ⟨Code.quiet_builtin _ (by decide +kernel),lF F.entry_type_call ?_⟩;rw[eI.under_plain (weight_type_call_type T args []) (units_type_call_type T args [])]
 repeat (any_goals (first |assumption |wp_step))
 refine mQ (xf B z (wpAny_of_eq L (g P w A.in1 _ s h))) λr s1 hr=>?_
 cases r with
 |error e=>exact hr
 |ok fl=>
  cases fl with
  |ret obj=>
   obtain⟨hT,hq⟩:=hr
   repeat (any_goals (first |assumption |wp_step))
  | _=>exact hr.elim
def Ed:mroOf (.type "reversed")=pure [.type "reversed",.type "object"]:=by(rw[mroOf_type];kernel_rfl)
def Le:lH (.type "reversed") "__new__"=pure (aa (.builtin "reversed.__new__")):=by(rw[mO,mM];kernel_rfl)
def Lf:Bind.madeBy (.type "reversed")=pure (aa "reversed.__new__"):=madeBy_type Ed Le (by decide +kernel)
def Lg:isSubtype (.type "list_reverseiterator") (.type "reversed")=pure ag:=by(rw[p6];kernel_rfl)
def Lh:entryFor table "reversed.__new__"=aa c9.«reversed.__new__»:=by exact entryFor_of_tree (by kernel_rfl)
def Li:gR "reversed"=aa (.type "reversed"):=by kernel_rfl
def Lj:lH (.type "list") "__reversed__"=pure (aa (.builtin "list.__reversed__")):=by(rw[mO,mM];kernel_rfl)
def Lk(l:Addr)(its:Array Value)(n:Nat)(dc:Option Addr)(sl:Array (Option Value)):Meets (c9.«list.__reversed__» ⟨[.ref l],[]⟩) (λ_ R s=>s.heap.get? l=aa {cls:=.type "list",dict:=dc,data:=.seq its n,slots:=sl}/\R (.ok (.ret (.ref s.heap.objs.size))) {s with heap:=s.heap.push {cls:=.type "list_reverseiterator",data:=.fields #[.ref l,iP (((its.size:Nat):Int)-1)]}}):=
 .of_wp λprog w A R s h=>by
  obtain⟨q,h⟩:=h
  wp_walk
  exact⟨_,rfl,h⟩
def Ll(l:Addr)(its:Array Value)(n:Nat)(dc:Option Addr)(sl:Array (Option Value)):Meets (c9.«reversed.__new__» ⟨[.type "reversed",.ref l],[]⟩) (λ_ R s=>s.heap.get? l=aa {cls:=.type "list",dict:=dc,data:=.seq its n,slots:=sl}/\R (.ok (.ret (.ref s.heap.objs.size))) {s with heap:=s.heap.push {cls:=.type "list_reverseiterator",data:=.fields #[.ref l,iP (((its.size:Nat):Int)-1)]}}):=
 .of_wp λprog w A R s h=>by
  obtain⟨q,g,d,z,os⟩:=s;obtain⟨B,h⟩:=h;have U:=Lj;have I:isSubtype (.type "reversed") (.type "reversed")=pure ac:=by(rw[p6];kernel_rfl)
  have L:aI.TypeIs ⟨q,g,d,z,os⟩ (.ref l) "list":=⟨_,B,rfl⟩;have hb:=xp.bind (iR l)
  repeat (any_goals (first |assumption |wp_step))
  have step:gS _ A.in1 _ (λr s'=>r=.ok _/\s'=⟨q.push {cls:=.type "list_reverseiterator",data:=.fields #[.ref l,iP _]},g,d,z,os⟩) ⟨q,g,d,z,os⟩:=
   xf xp.plain PySem.F.entry_list_reversed (xp.check _ _ _ _ _ _ _ _ L (PySem.F.args_list_reversed_1 _) (Lk l its n dc sl prog w A.in1 (λr s'=>r=.ok (.ret (.ref q.objs.size))/\s'=⟨q.push {cls:=.type "list_reverseiterator",data:=.fields #[.ref l,iP (((its.size:Nat):Int)-1)]},g,d,z,os⟩) ⟨q,g,d,z,os⟩ ⟨B,rfl,rfl⟩))
  refine mQ step λr s1 M=>?_;obtain⟨rfl,rfl⟩:=M;exact bc ⟨_,rfl,h⟩
def Lm{its:Array Value}{Q:PRS}(z:s.heap.IsList l its)
 (h:∀h',i6 h' s.heap.objs.size l (((its.size:Nat):Int)-1)->(∀b o,s.heap.get? b=aa o->h'.get? b=aa o)->Q (.ref s.heap.objs.size) {s with heap:=h'}):wpAny (model P w) A (call (.type "reversed") [.ref l]) Q E s:=by
 obtain⟨⟨c,q,dt,sl⟩,I,B,n,hd⟩:=z;subst B hd;have L:i6 (s.heap.push {cls:=.type "list_reverseiterator",data:=.fields #[.ref l,iP _]}) s.heap.objs.size l ((its.size:Int)-1):=⟨_,dS _ rfl,rfl,rfl⟩;exact Ld (by decide) (by decide +kernel) Ed Lf (by decide +kernel) Lg (by kernel_rfl) (by kernel_rfl) Lh (Ll l its n q sl) ⟨I,⟨⟨_,dS _ rfl,rfl⟩,h _ L λb o e=>bV _ e⟩⟩
abbrev Itv(K:bm)(l:Addr)(n:Nat):It:=
  ⟨λi H=> ∃xs x, SqL K H l xs/\xs.length = n/\xs.reverse[i]? = aa x,
   λi H v H'=> H' = H/\∀xs, SqL K H l xs->xs.reverse[i]? = aa v,
   λi H=> n<=i⟩
def i6.stay{h:Heap}(q:i6 h it l j)(k:∀o,h.get? it=aa o->h'.get? it=aa o):i6 h' it l j:=by
 obtain⟨o,e,c,d⟩:=q;exact⟨o,k o e,c,d⟩
def Ln{K:bm}(l it:Addr)(n:Nat):jW P w K tg (Itv K l n) [it] it (λi h=>i6 h it l ((n:Int)-1-(i:Int))) where
 mem:=by simp
 obj:=λi h st b hb=>by
  have e:b=it:=by simpa using hb
  rw[e];obtain⟨o,e1,c,d⟩:=st;exact⟨o,e1,λv z=>by rw[d]at z;nomatch z⟩
 keep:=λi h h' st k=>st.stay λo e=>k it (by simp) o e
 item:=by
  intro X hP hw hK hc i pins s σ H E I hf st hg;subst hP hw hK;obtain⟨xs,x,hq,hn,hx⟩:=hg;obtain⟨its,rv,p,hz⟩:=I.list hq
  have hi:i<xs.length:=by
   have:=(eD.mp hx).1
   simpa using this
  have hx':xs[n-1-i]?=aa x:=by
   rw[List.getElem?_reverse hi]at hx;rw[<- hn];exact hx
  obtain⟨u,hu,ru⟩:=rv.get hx';obtain⟨f0,f1,f2,f3,f4,f5⟩:=hf it (by simp);have ej:(n-1-i)=((n-1-i:Nat):Int):=by lia
  rw[ej]at st;refine Lb st p.isList (by simpa using hu) λh' h6 sb=>?_;have e2:((n-1-i:Nat):Int)-1=n-1-((i+1:Nat):Int):=by lia
  rw[e2]at h6;obtain⟨o,e,c,d⟩:=id h6;exact⟨u,rfl,qe e c d (by decide) ⟨x,H,(I.turned (λb o hb e=>(sb.2 b hb).trans e) f0 f1 f3 f4 f5),ru,⟨rfl,λys hy=>by rw[I.list_inj hy hq];exact hx⟩,h6,λb hb=>(hf b hb).1⟩⟩
 done:=by
  intro X hP hw hK hc i pins s σ H E I hf st hg;have hg:n<=i:=hg;obtain⟨f0,f1,f2,f3,f4,f5⟩:=hf it (by simp);exact Lc (by lia) (I.ok.hd hc) st λh' eb=>⟨rfl,I.turned (λb o hb e=>eb b o hb e) f0 f1 f3 f4 f5⟩
 self:=λ_ _ _ _ _ st h=>Ec st h
abbrev Lo(K:bm)(ta:TA):TI:=λσ H R=>ta σ H λvs H1=>∃l xs,vs=[.ref l]/\SqL K H1 l xs/\R (Itv K l xs.length) H1
def Lp{p pos:Pos}(hg:Gl X "reversed")(hm:X.mg "reversed"=ab)(ha:PA X [a] ta)(hs:aY [a] X.env=[(ag,eval a X.env)]:=by rfl):PI X tg (.Call (.Name "reversed" p) [a] [] pos) (Lo X.K ta):=by
 intro pins s σ H R I h;refine Call_ (iU I hg hm Li (kE (thn (ha pos pins s σ H _ I h) λus s1 q_=>?_) (by rw[hs];rfl) (by rfl)));obtain⟨vs,H1,B,M,l,xs,e,h1,q⟩:=q_;subst e;obtain⟨u,rfl,ru⟩:=ju M;subst ru;obtain⟨z,M,p1,z1⟩:=B.list h1;have hl:=M.length;refine Lm p1.isList λh' L U=>?_;refine Ec L ?_;refine⟨_,_,_,_,H1,rfl,B.kept U,Ln l _ xs.length,?_,λb hb=>?_,q⟩
 .have e:((z.toArray.size:Int)-1)=xs.length-1-(0:Int):=by rw[size_toArray];lia
  rw[e]at L;exact L
 .have e:b=s1.heap.objs.size:=by simpa using hb
  rw[e];exact B.fpOk (aU _) (B.hok.fresh (aU _))
abbrev yE:LD->OLD
 | [x]=>(lsD x).map List.reverse
 | _=>ab
abbrev q9(f:MF2)(ρ:LS):OLD:=(f ρ).bind yE
def Lq{pos:Pos}{f:MF2}(hg:Gl X "reversed")(hm:X.mg "reversed"=ab)(ha:DA c X [a] f)(hs:aY [a] X.env=[(ag,eval a X.env)]:=by rfl):DI c X tg (.Call (.Name "reversed" p) [a] [] pos) (q9 f):=
 PI.imp (Lp hg hm ha.pa hs) λσ H R q_=>by
  obtain⟨Hf0,H0,Hf,ρ,ds,st,B,k⟩:=q_;unfold q9 at B
  cases L:f ρ with
  |none=>rw[L]at B;nomatch B
  |some as=>
   rw[L]at B;replace B:yE as=aa ds:=B;refine⟨Hf0,H0,Hf,ρ,as,st,L,λvs Hf' H' x r=>?_⟩;unfold yE at B;split at B
   .rename_i dx
    cases ex:lsD dx with
    |none=>rw[ex]at B;nomatch B
    |some xs=>
     rw[ex]at B;cases B;obtain⟨v,ev,rv⟩:=r.one;obtain⟨l1,I,M,q1,r1⟩:=gH ex rv;subst M;refine⟨l1,I,ev,x.s.seq q1,k _ Hf' H' x λa9 H2 f2 s2 i=>?_⟩;have g1:=(f2.trans s2).seq q1;have h1:=r1.length;refine⟨λd ed=>?_,λei=>?_⟩
     .obtain⟨u,eu,ru⟩:=r1.reverse.get ed;refine⟨⟨I,u,g1,rfl,eu⟩,λz H3 q=>?_⟩;obtain⟨rfl,y1⟩:=q;have U:=y1 I g1;rw[eu]at U;cases U;exact⟨a9,Ext.refl s2,ru.up f2⟩
     .rw[jP]at ei;show I.length<=i;lia
   .nomatch B
def Lr{f:MF2}{q:Type}{g:q->D}{xs:List q}(h:f ρ=aa [.lst (xs.map g)]):q9 f ρ=aa (xs.reverse.map g):=by
 unfold q9;rw[h];show aa (xs.map g).reverse=_;rw[mE]
abbrev e8(H:Hp)(l:Addr):Hp:=λa=>if a=l then ab else H a
def uP:e8 H l l=ab:=by unfold e8;rw[if_pos rfl]
def rf{a:Addr}(h:a≠l):e8 H l a=H a:=by unfold e8;rw[if_neg h]
def Ee:aH (e8 H l) H:=λa o e=>by
 by_cases h:a=l
 .subst h;rw[uP]at e;nomatch e
 .rw[rf h]at e;exact e
def yF{F:Hp}(s:aH F H)(h:F l=ab):aH F (e8 H l):=λa o e=>by
 rw[rf (iT e h)];exact s a o e
inductive tDX(G:Gc)(f:LS->Option (D×LS))(σ:St)(H:Hp)(Q:VK):Prop
 |mk:∀Hf0 H0 Hf ρ d ρ',aC G Hf0 H0 Hf H σ ρ->f ρ=aa (d,ρ')->(∀v Hf' H',aH Hf Hf'->aC G Hf0 H0 Hf' H' σ ρ'->Rep G Hf' d v->Q v H')->tDX G f σ H Q
abbrev DX(c:Str->Addr)(X:Cx)(e:Expr)(f:LS->Option (D×LS)):Prop:=PE X e (tDX (Gx c X) f)
inductive uQ(G:Gc)(f:LS->Option (LD×LS))(σ:St)(H:Hp)(R:It->Hp->Prop):Prop
 |mk:∀Hf0 H0 Hf ρ ds ρ',aC G Hf0 H0 Hf H σ ρ->f ρ=aa (ds,ρ')->(∀J Hf' H',aH Hf Hf'->aC G Hf0 H0 Hf' H' σ ρ'->nu G Hf' J ds->R J H')->uQ G f σ H R
abbrev DXi(c:Str->Addr)(X:Cx)(tg iter:Expr)(f:LS->Option (LD×LS)):Prop:=PI X tg iter (uQ (Gx c X) f)
abbrev oR(f:LS->Option (D×LS))(ρ:LS):Option (LD×LS):=(f ρ).bind λp=>match p.1 with
 |.lst xs=>aa (xs,p.2)
 | _=>ab
abbrev lX(fi:LS->Option (LD×LS))(g:D->LS->Option LS)(F:MF3)(ρ:LS):Option Fl:=(fi ρ).bind λp=>i0 g F p.1 p.2
def Ef{f:LS->Option (D×LS)}(h:DX c X e f):DXi c X tg e (oR f):=λpins s σ H R I q_=>by
 obtain⟨Hf0,H0,Hf,ρ,ds,ρ',st,z,k⟩:=q_;unfold oR at z
 cases L:f ρ with
 |none=>rw[L]at z;nomatch z
 |some p=>
  obtain⟨d,ρ1⟩:=p;rw[L,ax]at z;split at z
  .rename_i xs hd;cases z;subst hd;refine tQ h pins s σ H R I ⟨Hf0,H0,Hf,ρ,_,_,st,L,λv Hf' H' f1 B r=>?_⟩;obtain⟨a,vs,ea,q,rs⟩:=r;refine⟨a,ea,⟨vs,SqL.of (B.sub _ _ q)⟩,k _ Hf' H' f1 B λa9 H2 f2 s2 i=>?_⟩;have M:SqL X.K H2 a vs:=SqL.of (s2 _ _ (f2 _ _ q));refine⟨λd ed=>?_,λei=>⟨vs,M,by rw[<- rs.length,ei];exact aU _⟩⟩;obtain⟨v,U,rv⟩:=rs.get ed;refine⟨⟨vs,v,M,U⟩,λx H3 ⟨e3,y⟩=>?_⟩;subst e3;have:=y vs M;rw[U]at this;cases this;exact⟨a9,Ext.refl s2,rv.up f2⟩
  .nomatch z
def uR{pos:Pos}{fi:LS->Option (LD×LS)}{a:List Stmt}(hp:PassesOwn (model X.prog X.w) X.A X.env X.xe)(hc:X.calm=ac)(hi:DXi c X tg iter fi)(hg:DG c X tg kk g)(hb:DSs c X a F)(hs:∀x,hV iter X.env x=pure x:=by intro _;rfl):
  DS c X (.For tg iter a [] pos) (lX fi g F):=PS.imp (xB hp hc hi hg.pg hb hs) λE σ H q_=>by
 obtain⟨Hf0,H0,Hf,ρ,o,so,U,k⟩:=q_;unfold lX at U
 cases e1:fi ρ with
 |none=>rw[e1]at U;nomatch U
 |some pp=>
  obtain⟨ds,ρn⟩:=pp;rw[e1]at U;refine⟨Hf0,H0,Hf,ρ,ds,ρn,so,e1,λJ al H1 f1 so1 it=>?_⟩;refine⟨λi m σ' H'=>m=ds.length-i/\i<=ds.length/\∃Hf' ρ',aC _ Hf0 H0 Hf' H' σ' ρ'/\aH al Hf'/\i0 g F (ds.drop i) ρ'=aa o,⟨ds.length,rfl,gD _,al,ρn,so1,aH.refl _,U⟩,?_⟩;rintro i m σ' H' ⟨rfl,hi',Hf',ρ',L,s1,em⟩;obtain⟨mu,ri⟩:=it Hf' H' s1 L.sub i
  by_cases I:i<ds.length
  .obtain⟨d,ed,ir⟩:=lQ I;obtain⟨go,yl⟩:=mu d ed;rw[ir]at em;unfold i0 at em;refine .inr ⟨go,λfx H2=>ds.length-_=ds.length-_/\i+1<=ds.length/\∃Hf' ρ',aC _ Hf0 H0 Hf' H2 fx ρ'/\aH al Hf'/\i0 g F _ ρ'=aa o,λfx H2 w=>⟨ds.length-(i+1),by lia,w⟩,λx H2 y=>?_⟩;obtain⟨a9,x2,rx⟩:=yl x H2 y
   cases eg:g d ρ' with
   |none=>rw[eg]at em;nomatch em
   |some ρ1=>
    rw[eg]at em;replace em:(F ρ1).bind _=_:=em
    cases eF:F ρ1 with
    |none=>rw[eF]at em;nomatch em
    |some o1=>
     rw[eF]at em;refine⟨Hf0,H0,a9,ρ',d,ρ1,L.step x2,rx,eg,λh8 so3=>⟨Hf0,H0,a9,ρ1,o1,so3,eF,?_⟩⟩;have sf:=s1.trans x2.f
     cases o1 with
     |nx B=>exact λM q H4 s4 z=>⟨rfl,I,q,B,z,sf.trans s4,em⟩
     |ct B=>exact λM q H4 s4 z=>⟨rfl,I,q,B,z,sf.trans s4,em⟩
     |bk B=>cases em;exact λM q H4 s4 z=>k M q H4 ((f1.trans sf).trans s4) z
     |rt d=>cases em;exact k
     |rtO d=>cases em;exact k
     |rtS d B=>cases em;exact k
     |rtT o'=>cases em;exact k
  .have ei:i=ds.length:=by lia
   subst ei;rw[my (aU _)]at em;cases em;exact .inl ⟨ri rfl,k σ' Hf' H' (f1.trans s1) L⟩
def uS{fi:LS->Option (LD×LS)}(h:fi ρ=aa (ds,ρ'))(k:wp (cI (λ_=>aa ds) g F) ρ' K):wp (lX fi g F) ρ K:=by
 obtain⟨o,e,q⟩:=k;exact⟨o,by unfold lX;rw[h];exact e,q⟩
abbrev rg:LD->OD
 | [.int a,.int b]=>aa (.int (if b<a then b else a))
 | _=>ab
def Eg(hc:X.calm=ac):nt c X (.builtin "min") rg:=by
 rintro pins s σ H vs us Q I rv ⟨Hf,ds,d,s0,r,e,k⟩;unfold rg at e;split at e
 .rename_i a b;cases e;obtain⟨v1,np,rfl,L,v2,vs2,rfl,M,U⟩:=r;cases (U);cases (L);cases (M)
  cases rv with
  |cons r1 B=>
   cases B with
   |cons r2 B=>
    cases B;obtain⟨t,rfl⟩:=r1;obtain⟨u,rfl⟩:=r2;refine PySem.min_two_ints (I.ok.hd hc) λh' tk z=>?_;refine⟨.int _,H,I.kept z,?_,k _ Hf H (Ext.refl s0) rfl⟩
    by_cases q:b<a
    .rw[if_pos q,if_pos q];exact⟨u,rfl⟩
    .rw[if_neg q,if_neg q];exact⟨t,rfl⟩
 .nomatch e
abbrev spM(G:Gc)(M n:Nat)(m:Addr->LD->LD->LD->Option (LD×D)):Sp:=λvs H Q _=>∃Hf q z xs ys d l us I L,vs=I++.ref l::L/\aH Hf H/\Hf l=ab/\H l=aa (.lst us)/\aB G Hf q I/\aB G Hf z L/\aB G Hf xs us/\q.length=M/\q.length+1+z.length=n/\m l q z xs=aa (ys,d) /\
 ∀v Hf' H' B,Ext Hf (e8 H l) Hf' H'->Hf' l=ab->H' l=aa (.lst B)->aB G Hf' ys B->Rep G Hf' d v->Q v H'
abbrev yG(N:Nat)(l:Addr)(q z xs:LD):LS:=(jC N (q++.non::z)).set q.length (.pin l xs)
open Classical in
abbrev jF(l:Addr)(i:Nat)(ρ:LS):OLD:=match ρ[i]? with
 |some (.pin l' ys)=>if l'=l then aa ys else ab
 | _=>ab
variable{i:Nat}
def Eh(h:jF l i ρ=aa ys):ρ[i]?=aa (.pin l ys):=by
 unfold jF at h;split at h
 .rename_i z B e;split at h
  .rename_i q;cases h;rw[e,q]
  .nomatch h
 .nomatch h
abbrev gx(N:Nat)(F:MF3)(l:Addr)(q z xs:LD):Option (LD×D):=(F (yG N l q z xs)).bind λo=>match o with
 |.nx ρ=>(jF l q.length ρ).map λys=>(ys,.non)
 |.rtS d ρ=>(jF l q.length ρ).map λys=>(ys,d)
 | _=>ab
variable{vs0 np:List V}
def Ls:(L2.start N (vs0++.non::np)).set vs0.length (aa (.ref l))=L2.start N (vs0++.ref l::np):=by
 unfold L2.start;simp[set_append]
variable{k4 ds1:LD}
def aC.startM(B:aH Hf H)(q:Hf l=ab)(I:H l=aa (.lst us))(z:aB G Hf k4 vs0)(L:aB G Hf ds1 np)(M:aB G Hf xs us):
  aC G Hf (e8 H l) Hf H (L2.start N (vs0++.ref l::np)) (yG N.length l k4 ds1 xs):=by
 have:=(aC.start (N:=N) (yF B q) (z.append (.cons (d:=.non) rfl L))).setOwn (i:=k4.length) (s:=.pin l xs) rfl (Ext.grow (yF B q) Ee) uP q ⟨rfl,us,I,M⟩;rw[z.length,Ls,<- z.length]at this;exact this
variable{K:bm}
def i7{f:Addr}{n0:Nat}(Fn:Fun K x qual st f fd)(S:bo N ps (aZ st))
 (h:∀(cdv:Value) (A:eI) (outer:List Env) (s:aI) (H:Hp) (E:XK),c6 k (A.deeper (iL qual (aZ st) s.heap.objs.size f cdv))->DSs c (kO CX0 P w K mg base N qual (aZ st) f cdv A outer s H E).nox (kP st) F)(hn_:N.length=n_:=by rfl):
  gm P w K mg base CX0 (k+1) f fd ps (spM ⟨K,c⟩ n0 ps.length (gx n_ F)):=by
 subst hn_;refine Fn.ok S (λvs H Q E q_=>by obtain⟨Hf,k4,ds1,xs,ys,d,l,us,vs0,np,ev,s0,hf,hu,r0,r1,rx,hn,hl,_⟩:=q_;rw[ev,aM,bT,<- r0.length,<- r1.length];lia) λcdv A outer s H vs Q E hr q_=>?_;obtain⟨Hf,k4,ds1,xs,ys,d,l,us,vs0,np,ev,s0,hf,hu,r0,r1,rx,hn,hl,e,kq⟩:=q_;refine⟨_,h cdv A outer s H E hr,?_⟩;subst ev;unfold gx at e
 cases eF:F _ with
 |none=>rw[eF]at e;nomatch e
 |some o=>
  rw[eF,ax]at e;refine⟨Hf,e8 H l,Hf,_,o,aC.startM s0 hf hu r0 r1 rx,eF,?_⟩
  cases o with
  |nx ρ=>
   replace e:(jF l k4.length ρ).map _=aa _:=e
   cases q:jF l k4.length ρ with
   |none=>rw[q]at e;nomatch e
   |some zs=>
    rw[q]at e;cases e;intro σ' Hf' H' _ M;obtain⟨l',e1,h0,z,U,L,B,I⟩:=M.ownAt rfl (Eh q);subst U
    exact kq .non Hf' H' L M.ext z B I rfl
  |rtS d' ρ=>
   replace e:(jF l k4.length ρ).map _=aa _:=e
   cases q:jF l k4.length ρ with
   |none=>rw[q]at e;nomatch e
   |some zs=>
    rw[q]at e;cases e;intro v σ' Hf' H' M r;obtain⟨l',e1,h0,z,U,L,B,I⟩:=M.ownAt rfl (Eh q);subst U
    exact kq v Hf' H' L M.ext z B I r
  | _=>nomatch e
variable{s:Sl}
def aC.giveS(I:s.isOwn=ac)(h:aC G Hf0 H0 Hf H σ ρ)(e:ρ[i]?=aa s)(z:σ[i]?=aa (aa (.ref l))):aC G Hf0 H0 Hf (e8 H l) σ (ρ.set i .no):=by
 refine h.chg e z (λb u B=>?_) trivial λa p=>(p.calm rfl).elim
 by_cases q:b=l
 .subst q;exact .inl ((Holds.own I).mpr rfl)
 .exact .inr (by rw[rf q];exact B)
def aC.back(U:s.isOwn=ac)(z:s'.isOwn=ac)(h:aC G Hf0 H0 Hf H σ ρ)(e:ρ[i]?=aa s)(q:σ[i]?=aa (aa (.ref l)))(x:Ext Hf (e8 H l) Hf' H')(L:Hf' l=ab)(M:iW G Hf' H' l s'):aC G Hf0 H0 Hf' H' σ (ρ.set i s'):=by
 have:=(h.giveS U e q).setOwn (i:=i) z x uP L M;rw[set_set]at this
 have I:σ.set i (aa (.ref l))=σ:=by
  apply lA;intro j
  by_cases B:i=j
  .subst B;rw[ji (eD.mp q).1,q]
  .rw[fZ B]
 rw[I]at this;exact this
open Classical in
abbrev uT(i:Nat)(ρ:LS):OLD:=match ρ[i]? with
 |some (.pin _ xs)=>aa xs
 | _=>ab
def Ei{pos:Pos}(i:Nat)(L:X.N[i]?=aa x:=by rfl)(M:Vis X.env.scope x:=by first |exact bU rfl |exact br (bU rfl) |exact br (br rfl))(hd:NDb x:=by decide)
 (B:NCd x:=by decide):DC c X (.Name x pos) (uT i):=PE.imp (jV L M hd B) λσ H Q q_=>by
 obtain⟨Hf0,H0,Hf,ρ,d,st,z,k⟩:=q_;unfold uT at z;split at z
 .rename_i l xs es;cases z;obtain⟨U,I,_,_,_,vs,q,r⟩:=st.ownAt rfl es;exact⟨_,I,k U vs Hf H (Ext.refl st.sub) (.inl (SqL.of q)) r⟩
 .nomatch z
def jG{f:MF1}{K:Fl->Prop}(h:f ρ=aa d)(k:K (.rtS d ρ)):wp (gJ f) ρ K:=⟨_,by unfold gJ;rw[h];rfl,k⟩
def Lu(h:ρ[i]?=aa (.pin l ys)):jF l i ρ=aa ys:=by
 unfold jF;rw[h];exact if_pos rfl
def i8{N:Nat}(h:F (yG N l k4 ds1 xs)=aa (.rtS d ρ))(h':ρ[k4.length]?=aa (.pin l ys)):gx N F l k4 ds1 xs=aa (ys,d):=by
 unfold gx;rw[h,ax];show(jF l k4.length ρ).map _=_;rw[Lu h'];rfl
abbrev Fre(B Hf:Hp)(fp:LAd):Prop:=fp.Nodup/\∀a∈fp,B a=ab/\Hf a=ab
variable{B:Hp}
def Fre.nil:Fre B Hf []:=⟨.nil,λ_ h=>nomatch h⟩
def Fre.one(h:B l=ab)(h':Hf l=ab):Fre B Hf [l]:=⟨gC.mpr ⟨b6,f7⟩,λa ha=>by rw[ca.mp ha];exact⟨h,h'⟩⟩
def Fre.imp{q:Hp}(h:Fre B Hf fp)(k:∀a,B a=ab->q a=ab):Fre q Hf fp:=⟨h.1,λa ha=>⟨k a (h.2 a ha).1,(h.2 a ha).2⟩⟩
abbrev bsH(b:Bool)(H0 H:Hp):Hp:=bif b then H else H0
variable{a:Addr}
def Lv(s:aH H H')(h:bsH b H0 H' a=ab):bsH b H0 H a=ab:=by
 cases b with
 |true=>exact s.free h
 |false=>exact h
def oS(s:aH H0 H)(h:H a=ab):bsH b H0 H a=ab:=by
 cases b with
 |true=>exact h
 |false=>exact s.free h
inductive tDZ(G:Gc)(b:Bool)(f:LS->Option O)(σ:St)(H:Hp)(Q:VK):Prop
 |mk:∀Hf0 H0 Hf ρ o,aC G Hf0 H0 Hf H σ ρ->f ρ=aa o->(∀u fp Hf' H',Ext Hf H Hf' H'->OT G Hf' H' o u fp->Fre (bsH b H0 H) Hf' fp->Q u H')->tDZ G b f σ H Q
abbrev DZ(c:Str->Addr)(X:Cx)(b:Bool)(e:Expr)(f:LS->Option O):Prop:=PE X e (tDZ (Gx c X) b f)
inductive Ej(G:Gc)(b:Bool)(f:MF2)(g:LS->Option O)(σ:St)(H:Hp)(Q:List V->Hp->Prop):Prop
 |mk:∀Hf0 H0 Hf ρ ds o,aC G Hf0 H0 Hf H σ ρ->f ρ=aa ds->g ρ=aa o->(∀vs u fp Hf' H',Ext Hf H Hf' H'->aB G Hf' ds vs->OT G Hf' H' o u fp->Fre (bsH b H0 H) Hf' fp->Q (vs++[u]) H')->Ej G b f g σ H Q
structure DAZ(c:Str->Addr)(X:Cx)(b:Bool)(es:LEx)(f:MF2)(g:LS->Option O):Prop where
 pa:PA X es (Ej (Gx c X) b f g)
 len:∀ρ ds,f ρ=aa ds->ds.length+1=es.length
abbrev oT(f:MF1)(ρ:LS):Option O:=(f ρ).map .fz
abbrev nJ(f:MF2)(ρ:LS):Option O:=(f ρ).map λds=>.lst (ds.map .fz)
abbrev rh(f:MF2)(g:LS->Option O)(ρ:LS):Option O:=(f ρ).bind λds=>(g ρ).map λo=>.tup (ds.map .fz++[o])
def OTs.snoc{G:Gc}{Hf H:Hp}{o:O}{u:V}{fp:LAd}(h:OT G Hf H o u fp):∀{ds:LD} {vs:List V},aB G Hf ds vs->OTs G Hf H (ds.map .fz++[o]) (vs++[u]) fp
 | [],_,r=>by cases (r);exact⟨u,[],fp,[],rfl,h,⟨rfl,rfl⟩,(cx _).symm⟩
 |d::ds,_,⟨v,r,e,h1,h2⟩=>by subst e;exact⟨v,r++[u],[],fp,rfl,⟨h1,rfl⟩,OTs.snoc h h2,rfl⟩
def Ek{f:MF1}(h:DE c X e f):DZ c X b e (oT f):=PE.imp h λσ H Q I=>by
 obtain⟨Hf0,H0,Hf,ρ,t,st,q,k⟩:=I;unfold oT at q
 cases z:f ρ with
 |none=>rw[z]at q;nomatch q
 |some d=>
  rw[z]at q;cases q;exact⟨Hf0,H0,Hf,ρ,d,st,z,λv Hf' H' x r=>k v [] Hf' H' x ⟨r,rfl⟩ .nil⟩
def El{f:MF2}(h:DO c X e f):DZ c X b e (nJ f):=PE.imp h λσ H Q M=>by
 obtain⟨Hf0,H0,Hf,ρ,t,st,q,k⟩:=M;unfold nJ at q
 cases z:f ρ with
 |none=>rw[z]at q;nomatch q
 |some ds=>
  rw[z]at q;cases q;exact⟨Hf0,H0,Hf,ρ,ds,st,z,λl vs Hf' H' x hn I L r=>k _ [l] Hf' H' x ⟨l,vs,[],rfl,L,OTs.fz r,rfl⟩ (.one (oS st.ext.h hn) I)⟩
variable{g:LS->Option O}
def Lw(h:DZ c X b e g)(L:aY [e] X.env=[(ag,eval e X.env)]:=by rfl):DAZ c X b [e] nZ g:=
 ⟨PA.imp (bW h cs L) λσ H Q M=>by
  obtain⟨Hf0,H0,Hf,ρ,ds,o,st,q,I,k⟩:=M;cases q;exact⟨Hf0,H0,Hf,ρ,o,st,I,λu fp Hf' H' x r z=>k [] u fp Hf' H' x rfl r z⟩,λρ ds h=>by cases h;rfl⟩
def Em{f:MF1}{fs:MF2}(h:DE c X e f)(M:DAZ c X b es fs g)(hs:StE X e es:=by rfl):DAZ c X b (e::es) (af f fs) g:=by
 refine⟨PA.imp (bW h M.pa hs) λσ H Q q_=>?_,λρ ds h=>?_⟩
 .obtain⟨Hf0,H0,Hf,ρ,ds,o,st,ef,eg,k⟩:=q_;obtain⟨d,r,L,q,rfl⟩:=oJ ef;exact⟨Hf0,H0,Hf,ρ,d,st,L,λv al H1 I r1=>⟨Hf0,H0,al,ρ,r,o,st.step I,q,eg,λvs u fp a9 H2 U r2 r3 z=>k _ u fp a9 H2 (I.trans U) (.cons (r1.up U.f) r2) r3 (z.imp λa ha=>Lv I.h ha)⟩⟩
 .obtain⟨d,r,L,q,rfl⟩:=oJ h;simp[<- M.len ρ r q]
def Lx{pos:Pos}{f:MF2}(h:DAZ c X b es f g)(hz:es.length<=1000:=by exact mI rfl):DZ c X b (.Tuple es k' pos) (rh f g):=PE.imp (tX h.pa) λσ H Q U=>by
 obtain⟨Hf0,H0,Hf,ρ,t,st,q,k⟩:=U;unfold rh at q
 cases I:f ρ with
 |none=>rw[I]at q;nomatch q
 |some ds=>
  rw[I,ax]at q
  cases L:g ρ with
  |none=>rw[L]at q;nomatch q
  |some o=>
   rw[L]at q;cases q;refine⟨Hf0,H0,Hf,ρ,ds,o,st,I,L,λvs u fp Hf' H' x r ro z=>⟨?_,λp M=>(k _ fp Hf' _ (x.trans (Ext.tmp x.s M)) ⟨p,_,rfl,bw,OTs.snoc (ro.up (aH.refl _) (cu M)) r⟩ z)⟩⟩;rw[aM,<- r.length,dR,h.len ρ ds I];exact jS (m4 hz)
variable{o:Expr}
abbrev zB(f:LS->Option O)(ρ:LS):OD:=(f ρ).bind λo=>if o.kn then aa o.toD else ab
def DZ.db{f:LS->Option O}(h:DZ c X ac e f):DB c X e (zB f):=PE.imp h λσ H Q L=>by
 obtain⟨Hf0,H0,Hf,ρ,d,st,q,k⟩:=L;unfold zB at q
 cases z:f ρ with
 |none=>rw[z]at q;nomatch q
 |some o=>
  rw[z,ax]at q;split at q
  .rename_i I;cases q;exact⟨Hf0,H0,Hf,ρ,o,st,z,λu fp Hf' H' x r _=>k u Hf' H' x (r.rep x.s I)⟩
  .nomatch q
abbrev En:Fl->Option O
 |.rt d=>aa (.fz d)
 |.rtO ds=>aa (.lst (ds.map .fz))
 |.rtT o=>aa o
 | _=>ab
abbrev lY(n:Nat)(F:MF3)(ds:LD):Option O:=(F (jC n ds)).bind En
abbrev spT(G:Gc)(n:Nat)(m:LD->Option O):Sp:=λvs H Q _=>∃Hf ds o,aH Hf H/\aB G Hf ds vs/\ds.length=n/\m ds=aa o/\∀u fp Hf' H',Ext Hf H Hf' H'->OT G Hf' H' o u fp->Fre H Hf' fp->Q u H'
def yH{f:Addr}(Fn:Fun K x qual st f fd)(S:bo N ps (aZ st))
 (h:∀(cdv:Value) (A:eI) (outer:List Env) (s:aI) (H:Hp) (E:XK),c6 k (A.deeper (iL qual (aZ st) s.heap.objs.size f cdv))->DSs c (kO CX0 P w K mg base N qual (aZ st) f cdv A outer s H E).nox (kP st) F)(L:N.length=n_:=by rfl):
  gm P w K mg base CX0 (k+1) f fd ps (spT ⟨K,c⟩ ps.length (lY n_ F)):=by
 subst L;refine Fn.ok S (λvs H Q E U=>by obtain⟨Hf,ds,d,s0,r,q,_⟩:=U;rw[<- r.length];exact q) λcdv A outer s H vs Q E hr U=>?_;obtain⟨Hf,ds,t,s0,r,q,e,M⟩:=U;refine⟨_,h cdv A outer s H E hr,?_⟩;unfold lY at e
 cases I:F _ with
 |none=>rw[I]at e;nomatch e
 |some o=>
  rw[I]at e;refine⟨Hf,H,Hf,_,o,aC.start s0 r,I,?_⟩
  cases o with
  |rt d=>cases e;exact λv Hf' H' x r=>M v [] Hf' H' x ⟨r,rfl⟩ .nil
  |rtO rs=>cases e;exact λl vs Hf' H' x hn hf q r=>M _ [l] Hf' H' x ⟨l,vs,[],rfl,q,OTs.fz r,rfl⟩ (.one hn hf)
  |rtT o=>cases e;exact λu fp Hf' H' x r n z=>M u fp Hf' H' x r ⟨n,z⟩
  | _=>nomatch e
mutual
noncomputable def O.flat:O->Bool
 |.fz d=>d.flat
 |.lst os=>O.flats os
 |.tup os=>O.flats os
 |.dic _ os=>O.flats os
 |.ins _ _ os=>O.flats os
 |.dT _ os=>O.flats os
 |.at _ o=>o.flat
 |.jnk _=>ac
 |.any=>ac
noncomputable def O.flats:List O->Bool
 | []=>ac
 |o::os=>o.flat && O.flats os
end
mutual
theorem OT.flatM(s:aH Hf' H):∀(o:O) (v:V) (fp:LAd),o.flat=ac->OT G Hf' H o v fp->OT G (lU Hf H) H o v fp
 |.fz d,_,_,hs,h=>by rw[O.flat]at hs;exact⟨(h.1.up s).flat hs,h.2⟩
 |.lst os,_,_,hs,⟨a,vs,fs,e,q,r,ef⟩=>by rw[O.flat]at hs;exact⟨a,vs,fs,e,q,OTs.flatM s os vs fs hs r,ef⟩
 |.tup os,_,fp,hs,⟨a,vs,e,q,r⟩=>by rw[O.flat]at hs;exact⟨a,vs,e,q,OTs.flatM s os vs fp hs r⟩
 |.dic ks os,_,_,hs,⟨a,vs,fs,e,q,z,r,ef⟩=>by rw[O.flat]at hs;exact⟨a,vs,fs,e,q,z,OTs.flatM s os vs fs hs r,ef⟩
 |.ins c ns os,_,_,hs,⟨a,dx,vs,fs,e,q,z,r,ef⟩=>by rw[O.flat]at hs;exact⟨a,dx,vs,fs,e,q,z,OTs.flatM s os vs fs hs r,ef⟩
 |.jnk n,_,_,_,h=>h
 |.any,_,_,_,h=>h
 |.at _ o,v,fp,hs,h=>by rw[O.flat]at hs;exact⟨h.1,OT.flatM s o v fp hs h.2⟩
 |.dT ks os,_,_,hs,⟨a,vs,fs,e,q,z,r,ef⟩=>by rw[O.flat]at hs;exact⟨a,vs,fs,e,q,z,OTs.flatM s os vs fs hs r,ef⟩
theorem OTs.flatM(s:aH Hf' H):∀(os:List O) (vs:List V) (fp:LAd),O.flats os=ac->OTs G Hf' H os vs fp->OTs G (lU Hf H) H os vs fp
 | [],_,_,_,h=>h
 |o::os,_,_,hs,q4_=>by
  obtain⟨v,r,f1,f2,e,z,I,q⟩:=q4_;rw[O.flats,di]at hs;exact⟨v,r,f1,f2,e,OT.flatM s o v f1 hs.1 z,OTs.flatM s os r f2 hs.2 I,q⟩
end
abbrev i9(m:LD->Option O)(f:MF2)(ρ:LS):Option O:=(f ρ).bind m
def rj{f:Addr}{pos:Pos}{m:LD->Option O}(pk:Pk X.prog X.w X.K X.mg X.base CX0 k x (f,fd) ps (spT (Gx c X) ps.length m))(hr0:c6 k0 X.A)(ha:DA c X (e::es) fa)(hl:(e::es).length=ps.length:=by rfl)(L:NDb x:=by decide)(he:StE X e es:=by rfl)(U:BkE X pos es:=by rfl)(M:k<=k0:=by decide)(hg:Gl X x:=by first |rfl |exact glc rfl):
  DZ c X b (.Call (.Name x p) (e::es) [] pos) (i9 m fa):=PE.imp (kM pk.ok (hr0.mono M) hg pk.g pk.kp pk.b .nil kQ ha.pa L he U) λσ H Q q_=>by
 obtain⟨Hf0,H0,Hf,ρ,o,st,q,kq⟩:=q_;unfold i9 at q
 cases I:fa ρ with
 |none=>rw[I]at q;nomatch q
 |some ds=>
  rw[I,ax]at q;refine⟨Hf0,H0,Hf,ρ,ds,st,I,λvs Hf' H' x r=>?_⟩;rw[cx];exact⟨Hf',ds,o,x.s,r,(ha.len ρ ds I).trans hl,q,λu fp a9 H2 x2 r2 z=>kq u fp a9 H2 (x.trans x2) r2 (z.imp λa h=>oS st.ext.h (x.h.free h))⟩
abbrev rm(m:LD->Option O)(f:MF2)(ρ:LS):Option O:=(f ρ).bind λds=>(m ds).bind λo=>if o.flat then aa o else ab
def Ly{f:Addr}{pos:Pos}{m:LD->Option O}(pk:Pk X.prog X.w X.K X.mg X.base CX0 k x (f,fd) ps (spT (Gx c X) ps.length m))(hr0:c6 k0 X.A)(ha:DAB c X (e::es) fa)(hl:(e::es).length=ps.length:=by rfl)(U:NDb x:=by decide)(he:StE X e es:=by rfl)(hY:BkE X pos es:=by rfl)(hk0:k<=k0:=by decide)(hg:Gl X x:=by first |rfl |exact glc rfl):
  DZ c X b (.Call (.Name x p) (e::es) [] pos) (rm m fa):=PE.imp (kM pk.ok (hr0.mono hk0) hg pk.g pk.kp pk.b .nil kQ ha.pa U he hY) λσ H Q q_=>by
 obtain⟨Hf0,H0,Hf,ρ,o,st,I,kq⟩:=q_;unfold rm at I
 cases L:fa ρ with
 |none=>rw[L]at I;nomatch I
 |some ds=>
  rw[L,ax]at I
  cases M:m ds with
  |none=>rw[M]at I;nomatch I
  |some o'=>
   rw[M,ax]at I;split at I
   .rename_i hs;cases I;refine⟨Hf0,H0,Hf,ρ,ds,st,L,λvs Hf' H' x r=>?_⟩;rw[cx];refine⟨H',ds,o,aH.refl _,r,(ha.len ρ ds L).trans hl,M,λu fp a9 H2 x2 r2 z=>?_⟩;refine kq u fp _ H2 (x.trans (D5 x.s x2.h)) (OT.flatM x2.s o u fp hs r2) ⟨z.1,λa ha=>⟨oS st.ext.h (x.h.free (z.2 a ha).1),?_⟩⟩;obtain⟨oo,ho,ht⟩:=OT.memM o u fp r2 a ha;rw[uN (λvs q=>by rw[ho]at q;cases q;nomatch ht)];exact x.s.free (z.2 a ha).1
   .nomatch I
abbrev oU(i:Nat)(f:LS->Option O)(ρ:LS):Option Fl:=(f ρ).map λo=>.nx (ρ.set i (.deep o))
def Eo{pos:Pos}(i:Nat){f:LS->Option O}(M:X.N.Nodup)(U:DZ c X ac e f)(hi:X.N[i]?=aa x:=by rfl)(hx:Loc X.env.scope x:=by first |exact bU rfl |exact br rfl)(hs:fR e (aa (.Name x b0)) pos.line X.env=pure ag:=by rfl)(hf:LcF X x:=by first |exact .inl rfl |exact .inr rfl):
  DS c X (.Assign [.Name x b0] e pos) (oU i f):=PS.imp (lK M hi hx U hs hf) λE σ H q_=>by
 obtain⟨Hf0,H0,Hf,ρ,o,L,q,k⟩:=q_;unfold oU at q
 cases I:f ρ with
 |none=>rw[I]at q;nomatch q
 |some t=>
  rw[I]at q;cases q;refine⟨Hf0,H0,Hf,ρ,t,L,I,λu fp Hf' H' x r z=>k _ Hf' H' x.f (L.setNew x ⟨u,fp,rfl,r,z.1,λa ha=>⟨L.ext.h.free (z.2 a ha).1,(z.2 a ha).2⟩⟩ λa p=>?_)⟩;obtain⟨fp',r',ha⟩:=p;have:=OT.funM t u fp fp' r r';subst this;exact(z.2 a ha).1
abbrev nK(f:LS->Option O)(ρ:LS):Option Fl:=(f ρ).map .rtT
def yI{pos:Pos}{f:LS->Option O}(M:DZ c X ag e f):DS c X (.Return (aa e) pos) (nK f):=PS.imp (oD M) λE σ H U=>by
 obtain⟨Hf0,H0,Hf,ρ,o,L,q,k⟩:=U;unfold nK at q
 cases I:f ρ with
 |none=>rw[I]at q;nomatch q
 |some t=>
  rw[I]at q;cases q;exact⟨Hf0,H0,Hf,ρ,t,L,I,λu fp Hf' H' x r z=>k u fp Hf' H' (L.ext.trans x) r z.1 z.2⟩
variable{o:O}{K:Fl->Prop}
def Ep{f:LS->Option O}(h:f ρ=aa o)(k:K (.nx (ρ.set i (.deep o)))):wp (oU i f) ρ K:=⟨_,by unfold oU;rw[h];rfl,k⟩
def yJ{f:LS->Option O}(h:f ρ=aa o)(k:K (.rtT o)):wp (nK f) ρ K:=⟨_,by unfold nK;rw[h];rfl,k⟩
abbrev yK(Q:O->Prop)(o:Fl):Prop:=∃t,En o=aa t/\Q t
def Lz{Q:O->Prop}(h:wp F (jC n ds) (yK Q)):∃o,lY n F ds=aa o/\Q o:=by
 obtain⟨o,e,d,z,q⟩:=h;refine⟨d,?_,q⟩;unfold lY;rw[e];exact z
def yL{Q:O->Prop}(h:Q o):yK Q (.rtT o):=⟨o,rfl,h⟩
def OTs.length{G:Gc}{Hf H:Hp}:∀{os:List O} {vs:List V} {fp:LAd},OTs G Hf H os vs fp->os.length=vs.length
 | [],_,_,h=>by rw[h.1];rfl
 |o::os,_,_,⟨v,r,f1,f2,e,h1,h2,ef⟩=>by subst e;simp[OTs.length h2]
def OTs.append{G:Gc}{Hf H:Hp}:∀{os ps:List O} {vs us:List V} {f g:LAd},OTs G Hf H os vs f->OTs G Hf H ps us g->OTs G Hf H (os++ps) (vs++us) (f++g)
 | [],_,_,_,_,_,h,t=>by obtain⟨a,b⟩:=h;subst a b;exact t
 |o::os,_,_,_,_,_,⟨v,r,f1,f2,e,h1,h2,ef⟩,t=>by subst e ef;exact⟨v,r++_,f1,f2++_,rfl,h1,OTs.append h2 t,eU _ _ _⟩
def OTs.one{f:LAd}(h:OT G Hf H o v f):OTs G Hf H [o] [v] f:=⟨v,[],f,[],rfl,h,⟨rfl,rfl⟩,(cx _).symm⟩
variable{os:List O}
def OTs.up(h:OTs G Hf H os vs fp)(f:aH Hf Hf')(s:aH H H'):OTs G Hf' H' os vs fp:=OTs.frameM f os vs fp h λb u e _=>s b u e
variable{fs:LAd}
def Fre.step(z:Fre B Hf fs)(m:∀a∈fs,∃u,H a=aa u/\gV u=ag)(x:Ext Hf H Hf' H'):Fre B Hf' fs:=⟨z.1,λa ha=>⟨(z.2 a ha).1,by
 obtain⟨u,I,q⟩:=m a ha;rw[x.n a u I q];exact(z.2 a ha).2⟩⟩
def Fre.app(z:Fre B Hf fs)(y:Fre B Hf fp)(d:∀a∈fs,a∈fp->False):Fre B Hf (fs++fp):=
 ⟨eG.mpr ⟨z.1,y.1,λa ha b q e=>by subst e;exact d a ha q⟩,λa ha=>(cC.mp ha).elim (z.2 a) (y.2 a)⟩
abbrev jH(h:D->Option (Option O)):LD->Option (List O)
 | []=>aa []
 |d::ds=>(h d).bind λo=>(jH h ds).map λr=>match o with
  |some y=>y::r
  |none=>r
def LA{h:D->Option (Option O)}{r:List O}(e:jH h (d::ds)=aa r):∃o q,h d=aa o/\jH h ds=aa q/\r=(match o with |some y=>y::q |none=>q):=by
 unfold jH at e
 cases z:h d with
 |none=>rw[z]at e;nomatch e
 |some o=>
  cases I:jH h ds with
  |none=>rw[z,I]at e;nomatch e
  |some q=>
   rw[z,I]at e;cases e;refine⟨o,q,rfl,rfl,?_⟩
   cases o <;> rfl
def Er{q:Type}{h:D->Option (Option O)}(f:q->D)(φ:q->O):∀{xs:List q},(∀x∈xs,h (f x)=aa (aa (φ x)))->jH h (xs.map f)=aa (xs.map φ)
 | [],_=>rfl
 |x::xs,hh=>by
  rw[cS];unfold jH;rw[hh x bK,Er f φ λy z=>hh y (cB _ z)];rfl
abbrev rp(g:D->LS->Option LS)(ft:MF4)(fe:LS->Option O)(ρ:LS)(d:D):Option (Option O):=(g d ρ).bind λρ1=>(ft ρ1).bind λb=>if b then (fe ρ1).map aa else aa ab
abbrev oV(k:Nat)(js:LN)(fi:MF2)(g:D->LS->Option LS)(ft:MF4)(fe:LS->Option O)(ρ:LS):Option O:=
 (fi ρ).bind λds=>if ds.length<=16777216 then (jH (rp g ft fe (cU k js ρ)) ds).map .lst else ab
variable{g:D->LS->Option LS}{fe:LS->Option O}
def LB(hj:js.Nodup)(hk:∀d ρ ρ' i,g d ρ=aa ρ'->k<=i->ρ'[i]?=ρ[i]?)(eR:∀d ρ ρ',g d ρ=aa ρ'->ρ'.length=ρ.length){Q:VK}(h:tDZ G b (oV k js fi g ft fe) σ H Q):
  m8 k js (uA G fi) (tDG G g) (tDT G ft) (tDZ G ac fe) σ H Q:=by
 obtain⟨Hf0,H0,Hf,ρ,t,st,L,kq⟩:=h;unfold oV at L
 cases e1:fi ρ with
 |none=>rw[e1]at L;nomatch L
 |some ds=>
  rw[e1,ax]at L
  by_cases hz:ds.length<=16777216
  .rw[if_pos hz]at L
   cases e2:jH _ ds with
   |none=>rw[e2]at L;nomatch L
   |some rs=>
    rw[e2]at L;cases L;refine⟨Hf0,H0,Hf,ρ,ds,st,e1,λJ al H1 x1 it=>?_⟩
    refine⟨λi m ys σ' H'=>m=ds.length-i/\i<=ds.length/\∃Hf' I bv fs,Ext al H1 Hf' H'/\aC G Hf0 H0 Hf' H' σ' _/\OTs G Hf' H' I ys fs/\Fre H1 Hf' fs/\jH _ (ds.drop i)=aa bv/\rs=I++bv/\I.length<=i,
     ⟨ds.length,rfl,gD _,al,[],rs,[],Ext.refl x1.s,(st.step x1).comp k hj,⟨rfl,rfl⟩,.nil,e2,rfl,aU _⟩,?_⟩
    rintro i m ys σ' H' ⟨rfl,hi,Hf',I,bv,fs,x2,st2,ra,za,ec,er,hal⟩;have q5:ys.length<=aW:=by rw[cL,<- ra.length];lia
    obtain⟨mu,ri⟩:=it Hf' H' x2 i
    by_cases eZ:i<ds.length
    .obtain⟨d,ed,ir⟩:=lQ eZ;obtain⟨go,yl⟩:=mu d ed
     refine .inr ⟨go,q5,λou fx H2=>ds.length-_=ds.length-_/\i+1<=ds.length/\∃Hf' I bv fs,Ext al H1 Hf' H2/\aC G Hf0 H0 Hf' H2 fx _/\OTs G Hf' H2 I ou fs/\Fre H1 Hf' fs/\jH _ _=aa bv/\rs=I++bv/\I.length<=i+1,
      λou fx H2 w=>⟨ds.length-(i+1),by lia,w⟩,λx H2 y=>?_⟩
     obtain⟨a9,x3,rx⟩:=yl x H2 y;rw[ir]at ec;obtain⟨o,r',q,ec',M⟩:=LA ec;unfold rp at q
     cases eg:g d _ with
     |none=>rw[eg]at q;nomatch q
     |some ρ1=>
      rw[eg]at q;replace q:(ft ρ1).bind _=_:=q
      cases et:ft ρ1 with
      |none=>rw[et]at q;nomatch q
      |some b'=>
       rw[et]at q;refine⟨Hf0,H0,a9,cU k js ρ,d,ρ1,st2.step x3,rx,eg,λh8 U=>⟨Hf0,H0,a9,ρ1,b',U,et,λHf4 H4 x4=>?_⟩⟩
       have back:∀{z H5:Hp},aC G Hf0 H0 z H5 h8 ρ1->aC G Hf0 H0 z H5 h8 _:=λ{z H5} s5=>s5.weak (eR _ _ _ eg).symm λj s hs=>by
        rcases kU hs with⟨_,e⟩ |⟨hj',_⟩
        .exact .inl e
        .exact .inr (by rw[hk _ _ _ _ eg hj'];exact hs)
       have mem:=OTs.memM I ys fs ra
       cases b' with
       |true=>
        cases ee:fe ρ1 with
        |none=>rw[ee]at q;nomatch q
        |some y'=>
         rw[ee]at q;cases q;refine⟨Hf0,H0,Hf4,ρ1,y',U.step x4,ee,λv fp z H5 x5 r5 z5=>?_⟩;have z5:Fre H4 z fp:=z5;have x34:=x3.trans x4;have x:=x34.trans x5;refine⟨rfl,eZ,z,I++[y'],r',fs++fp,x2.trans x,back ((U.step x4).step x5),(ra.up x.f x.h).append (.one r5),(za.step mem x).app (z5.imp λa h=>x2.h.free (x34.h.free h)) λa ha hb=>?_,ec',?_,by rw[aM,dR];lia⟩
         .obtain⟨u,hu,_⟩:=mem a ha;have:=x34.h a u hu;rw[(z5.2 a hb).1]at this
          nomatch this
         .rw[er,M,eU]
          rfl
       |false=>
        cases q;have x:=x3.trans x4;exact⟨rfl,eZ,Hf4,I,r',fs,x2.trans x,back (U.step x4),ra.up x.f x.h,za.step mem x,ec',by rw[er,M],by lia⟩
    .have ei:i=ds.length:=by lia
     subst ei;refine .inl ⟨ri rfl,q5,λl h1 h2=>?_⟩;rw[my (aU _)]at ec;cases ec;rw[cx]at er;subst er;have x:=x1.trans x2;refine kq _ _ Hf' _ (x.trans (Ext.tmp x.s h2)) ⟨l,ys,fs,rfl,bw,ra.up (aH.refl _) (cu h2),rfl⟩ ⟨gC.mpr ⟨λhl=>?_,za.1⟩,λa ha=>?_⟩
     .obtain⟨u,hu,_⟩:=OTs.memM _ ys fs ra l hl;rw[h2]at hu
      nomatch hu
     .rcases b8.mp ha with e |e
      .subst e;exact⟨oS st.ext.h (x.h.free h2),x.s.free h2⟩
      .exact⟨oS st.ext.h (x1.h.free (za.2 a e).1),(za.2 a e).2⟩
  .rw[if_neg hz]at L
   nomatch L
def LC{pos:Pos}(k:Nat)(js:LN)(Nc:LSt)(I:X.calm=ac)(hi:DIe c X tg iter fi)(q:∀cl C ex a0 bq,DG c (X.comp scope Nc cl C ex a0 bq) tg k g)(ht:∀cl C ex a0 bq,DTs c (X.comp scope Nc cl C ex a0 bq) eH ft)
 (L:∀cl C ex a0 bq,DZ c (X.comp scope Nc cl C ex a0 bq) ac d8 fe)(z:jv scope X.env.scope.names X.N Nc k js=ac:=by rfl)(U:∀x,hV iter X.env x=pure x:=by intro _;rfl)(M:js.Nodup:=by decide):
  DZ c X b (.ListComp d8 [⟨tg,iter,eH,0⟩] scope pos) (oV k js fi g ft fe):=
 PE.imp (xY (tt:=tDT (Gx c X) ft) (te:=tDZ (Gx c X) ac fe) k js Nc I hi (λcl C ex a0 bq=>(q cl C ex a0 bq).pg) ht L z U) λσ H Q h=>
  LB M (q [] 0 [] X.s₀ X.H₀).keep (q [] 0 [] X.s₀ X.H₀).len h
abbrev rq(i:Nat)(f:LS->Option O)(ρ:LS):Option Fl:=(f ρ).bind λo=>match ρ[i]? with
 |some (.deep (.lst os))=>if os.length<16777216 then aa (.nx (ρ.set i (.deep (.lst (os++[o]))))) else ab
 | _=>ab
def LF{f:LS->Option O}(h:PS X st (lJ (tBM X.K "list" qp (eV i) (jX (tDZ (Gx c X) ac f) kL)))):DS c X st (rq i f):=PS.imp h λE σ H q_=>by
 obtain⟨Hf0,H0,Hf,ρ,o,so,L,k⟩:=q_;unfold rq at L
 cases e1:f ρ with
 |none=>rw[e1]at L;nomatch L
 |some t=>
  rw[e1,ax]at L;split at L
  .rename_i os es;split at L
   .rename_i hl;cases L;obtain⟨v,e2,u,fp,e3,r,n,z⟩:=so.slot es;subst e3;obtain⟨l,vs,fs,el,q,rs,efp⟩:=id r;subst el efp;refine⟨_,e2,.inl ⟨rfl,_,SqL.of q⟩,Hf0,H0,Hf,ρ,t,so,e1,λw M Hf' H' x r' y=>?_⟩;have y:Fre H Hf' M:=y;have q':=x.h _ _ q
    have lg:l∉M:=λhg=>by
     have:=(y.2 l hg).1;rw[q]at this
     nomatch this
    have lf:=(gC.mp n).1;have mem:=OTs.memM os vs fs rs
    have dis:∀a∈fs,a∈M->False:=λa ha hg=>by
     obtain⟨u,hu,_⟩:=mem a ha;rw[(y.2 a hg).1]at hu
     nomatch hu
    have o1:OTs _ Hf' (upd H' l (.lst (vs++[w]))) os vs fs:=OTs.frameM x.f os vs fs rs λb u I hm=>by
     rw[bz]
     .exact x.h b u I
     .intro e;subst e;rw[q]at I;cases I
      rcases hm with hm |hm
      .nomatch hm
      .exact lf hm
    have o2:OT _ Hf' (upd H' l (.lst (vs++[w]))) t w M:=r'.frame (aH.refl _) λb u I hm=>by
     rw[bz]
     .exact I
     .intro e;subst e;rw[q']at I;cases I
      rcases hm with hm |hm
      .nomatch hm
      .exact lg hm
    have zz:=Fre.step ⟨n,z⟩ (λa ha=>by
     rcases b8.mp ha with e |e
     .subst e;exact⟨_,q,rfl⟩
     .exact mem a e) x
    refine⟨l,vs,w,rfl,rfl,q',by rw[cL,<- rs.length];exact hl,k σ Hf' _ x.f (so.chgX x es e2 (λb u I=>?_) ⟨.ref l,l::_,rfl,⟨l,vs++[w],fs++M,rfl,bw,o1.append (.one o2),rfl⟩,?_,?_⟩ λa p=>?_)⟩
    .by_cases U:b=l
     .subst U;exact .inl ⟨_,r,bK⟩
     .exact .inr (by rw[bz U];exact I)
    .refine gC.mpr ⟨λhm=>(cC.mp hm).elim lf lg,eG.mpr ⟨(gC.mp n).2,y.1,λa ha b I e=>by subst e;exact dis a ha I⟩⟩
    .intro a ha
     rcases b8.mp ha with e |e
     .subst e;exact zz.2 a bK
     .rcases cC.mp e with e |e
      .exact zz.2 a (cB _ e)
      .exact⟨so.ext.h.free (y.2 a e).1,(y.2 a e).2⟩
    .obtain⟨fp',r2,ha⟩:=p;obtain⟨l2,vs2,fs2,el2,q2,rs2,ef2⟩:=r2;cases el2;rw[bw]at q2;cases q2;have:=OTs.funM _ _ _ _ (o1.append (.one o2)) rs2;subst ef2;subst this
     rcases b8.mp ha with e |e
     .subst e;exact .inl ⟨_,r,bK⟩
     .rcases cC.mp e with e |e
      .exact .inl ⟨_,r,cB _ e⟩
      .exact .inr (y.2 a e).1
   .nomatch L
  .nomatch L
def LG{f:LS->Option O}(h:f ρ=aa o)(h':ρ[i]?=aa (.deep (.lst os)))(q:os.length<16777216)(k:K (.nx (ρ.set i (.deep (.lst (os++[o])))))):wp (rq i f) ρ K:=⟨_,by unfold rq;rw[h,ax,h'];exact if_pos q,k⟩
abbrev O.appd(o:O)(d:D):Option O:=match o with
 |.lst xs=>if xs.length<16777216 then aa (.lst (xs++[.fz d])) else ab
 |.jnk n=>if n<16777216 then aa (.jnk (n+1)) else ab
 | _=>ab
def LH{o':O}{fk:LAd}(h:o.appd d=aa o')(r:OT G Hf H o v fk):∃l us,v=.ref l/\H l=aa (.lst us)/\us.length<16777216/\l∈fk /\
  ∀Hf' H' w,fk.Nodup->aH Hf Hf'->(∀b u,b≠l->H b=aa u->H' b=aa u)->H' l=aa (.lst (us++[w]))->Rep G Hf' d w->OT G Hf' H' o' v fk:=by
 cases o with
 |lst xs=>
  replace h:(if xs.length<16777216 then aa _ else ab)=aa o':=h;split at h
  .rename_i hl;cases h;obtain⟨l,us,fs,e,q,rs,L⟩:=r;subst e L;refine⟨l,us,rfl,q,by rw[<- rs.length];exact hl,bK,λHf' H' w n f k2 U I=>?_⟩
   have o1:=OTs.frameM f xs us fs rs λb u M hm=>k2 b u (λz=>by
    subst z;rw[q]at M;cases M
    rcases hm with hm |hm
    .nomatch hm
    .exact(gC.mp n).1 hm) M
   have o2:=o1.append (.one (o:=.fz d) ⟨I,rfl⟩);rw[cx]at o2;exact⟨l,us++[w],fs,rfl,U,o2,rfl⟩
  .nomatch h
 |jnk n=>
  replace h:(if n<16777216 then aa _ else ab)=aa o':=h;split at h
  .rename_i hl;cases h;obtain⟨l,us,e,q,z,L⟩:=r;subst e L;exact⟨l,us,rfl,q,by lia,bK,λHf' H' w _ f k2 U I=>⟨l,us++[w],rfl,U,by rw[aM,dR];lia,rfl⟩⟩
  .nomatch h
 | _=>nomatch h
def gb.gone(q:gb G H0 Hf H (aa v) s)(p:Holds G Hf H s v a):H0 a=ab/\Hf a=ab:=by
 cases L:s.isOwn with
 |true=>
  obtain⟨l,I,M,U,_⟩:=q.own L;cases I;cases ((Holds.own L).mp p)
  exact⟨M,U⟩
 |false=>
  cases s with
  |deep o=>
   obtain⟨u,fp,I,r,n,z⟩:=q;cases I;obtain⟨fp',r',ha⟩:=p;have:=OT.funM o v fp fp' r r';subst this
   exact z a ha
  | _=>first |exact mw p.1 |nomatch L
abbrev j6(G:Gc)(Hf H:Hp)(σ:St)(ρ:LS)(a:Addr):Prop:=∀(k:Nat) (t:Sl) (w:V),ρ[k]?=aa t->σ[k]?=aa (aa w)->Holds G Hf H t w a->False
abbrev prom(H0 H:Hp)(S:LAd):Hp:=λa=>if a∈S then H a else match H a with
 |some (.tup vs)=>aa (.tup vs)
 | _=>H0 a
variable{S:LAd}
def Es(h:a∈S):prom H0 H S a=H a:=by unfold prom;rw[if_pos h]
def uU(h:H a=aa (.tup vs)):prom H0 H S a=aa (.tup vs):=by
 unfold prom;split
 .exact h
 .rw[h]
def uV(h:a∉S)(h':∀vs,H a≠aa (.tup vs)):prom H0 H S a=H0 a:=by
 unfold prom;rw[if_neg h];split
 .rename_i vs e;exact absurd e (h' vs)
 .rfl
def Et(s:aH H0 H)(S:LAd):aH (prom H0 H S) H:=λa o e=>by
 unfold prom at e;split at e
 .exact e
 .split at e
  .rename_i vs h;rw[h];exact e
  .exact s a o e
def Eu(s:aH H0 H)(S:LAd):aH H0 (prom H0 H S):=λa o e=>by
 have q:=s a o e;unfold prom;split
 .exact q
 .split
  .rename_i vs h;rw[h]at q;exact q
  .exact e
def Ext.less(x:Ext Hf0 H0' Hf' H')(s:aH H0 H0'):Ext Hf0 H0 Hf' H':=⟨x.f,s.trans x.h,x.s,λl o e t=>x.n l o (s l o e) t⟩
def aC.less(h:aC G Hf0 H0' Hf H σ ρ)(s:aH H0 H0'):aC G Hf0 H0 Hf H σ ρ:=by
 refine h.re (h.ext.less s) rfl (λi v t a b=>?_) λi t v a b c p=>⟨t,b,p⟩;have q:=h.at' i v t a b
 cases L:t.isOwn with
 |true=>
  obtain⟨l,I,M,U,e4⟩:=q.own L
  exact .ofOwn L ⟨l,I,s.free M,U,e4⟩
 |false=>
  cases t with
  |no=>trivial
  |im d=>exact q
  |val u=>exact q
  |deep o=>
   obtain⟨u,fp,I,r,n,z⟩:=q
   exact⟨u,fp,I,r,n,λa ha=>⟨s.free (z a ha).1,(z a ha).2⟩⟩
  | _=>nomatch L
def aC.prom(h:aC G Hf0 H0 Hf H σ ρ)(S:LAd)(M:∀a∈S,Hf a=ab/\j6 G Hf H σ ρ a):aC G Hf0 (prom H0 H S) Hf H σ ρ:=by
 have up:∀a o,H a=aa o->gV o=ag->(a∈S->False)->H0 a=ab->L2.prom H0 H S a=ab:=λa o e t ns e0=>by
  rw[uV (λz=>ns z) (λvs q=>by rw[e]at q;cases q;nomatch t)];exact e0
 refine h.re ⟨h.ext.f,Et h.ext.h S,h.ext.s,λl o e t=>?_⟩ rfl (λi v t a b=>?_) λi t v a b c p=>⟨t,b,p⟩
 .by_cases I:l∈S
  .rw[(M l I).1];exact(h.ext.f.free (M l I).1).symm
  .rw[uV I (λvs q=>by rw[uU q]at e;cases e;nomatch t)]at e;exact h.ext.n l o e t
 .have q:=h.at' i v t a b
  cases U:t.isOwn with
  |true=>
   obtain⟨l,e1,e2,e3,e4⟩:=q.own U;obtain⟨o,ho,L⟩:=e4.there2;subst e1
   exact .ofOwn U ⟨l,rfl,up l o ho L (λI=>(M l I).2 i t _ b a ((Holds.own U).mpr rfl)) e2,e3,e4⟩
  |false=>
   cases t with
   |no=>trivial
   |im d=>exact q
   |val u=>exact q
   |deep o=>
    obtain⟨u,fp,e1,r,n,z⟩:=q;subst e1;refine⟨u,fp,rfl,r,n,λx hx=>⟨?_,(z x hx).2⟩⟩;obtain⟨oo,ho,L⟩:=OT.memM o u fp r x hx
    exact up x oo ho L (λI=>(M x I).2 i _ u b a ⟨fp,r,hx⟩) (z x hx).1
   | _=>nomatch U
def aC.free(h:aC G Hf0 H0 Hf H σ ρ){o:HO}(e:H0 a=aa o):j6 G Hf H σ ρ a:=λk t w b c p=>by
 rw[((h.at' k _ t c b).gone p).1]at e
 nomatch e
variable{j:Nat}
def aC.hand(h:aC G Hf0 H0 Hf H σ ρ)(ho:gb G H0 Hf H (aa u) s)(hn:∀a,Holds G Hf H s u a->j6 G Hf H σ ρ a):aC G Hf0 H0 Hf H (σ.set j (aa u)) (ρ.set j s):=by
 refine⟨h.ext,by simpa using h.len,λi w t a b=>?_,λi k t t' v w l a b c d' p q=>?_⟩
 .rcases cf b with⟨e,z,_⟩ |⟨e,b⟩
  .subst e z
   rcases cf a with⟨_,z,_⟩ |⟨e,_⟩
   .subst z;exact ho
   .exact absurd rfl e
  .rcases cf a with⟨z,_⟩ |⟨_,a⟩
   .exact absurd z e
   .exact h.at' i w t a b
 .rcases cf a with⟨M,U,_⟩ |⟨M,a⟩
  .rcases cf b with⟨I,L,_⟩ |⟨I,b⟩
   .rw[M,I]
   .rcases cf c with⟨_,z,_⟩ |⟨z,_⟩
    .cases z;rw[U]at p
     rcases cf d' with⟨z,_⟩ |⟨_,d'⟩
     .exact absurd z I
     .exact(hn l p k t' w b d' q).elim
    .exact absurd M z
  .rcases cf c with⟨z,_⟩ |⟨_,c⟩
   .exact absurd z M
   .rcases cf b with⟨I,L,_⟩ |⟨I,b⟩
    .rcases cf d' with⟨_,z,_⟩ |⟨z,_⟩
     .cases z;rw[L]at q;exact(hn l q i t v a c p).elim
     .exact absurd I z
    .rcases cf d' with⟨z,_⟩ |⟨_,d'⟩
     .exact absurd z I
     .exact h.dj i k t t' v w l a b c d' p q
def aC.take(h:aC G Hf0 H0 Hf H σ ρ)(z:σ[i]?=aa (aa u)):aC G Hf0 H0 Hf H σ (ρ.set i (.val u)):=by
 refine h.re h.ext (by simp) (λj w s a b=>?_) λj s v a b c d=>?_
 .rcases cf b with⟨e,q,_⟩ |⟨e,b⟩
  .subst e q;rw[z]at a;cases a;rfl
  .exact h.at' j w s a b
 .rcases cf b with⟨e,q,_⟩ |⟨e,b⟩
  .subst q;exact mw d.1
  .exact⟨s,b,d⟩
abbrev rA(ks:LN)(ρ:LS):LS:=ks.foldl (λr k=>r.set k .no) ρ
def Ev:∀(ks:LN) (ρ:LS),(rA ks ρ).length=ρ.length
 | [],_=>rfl
 |k::ks,ρ=>by
  show(rA ks _).length=_;rw[Ev ks,hU]
def Ew:∀(ks:LN) (ρ:LS) (m:Nat) (s:Sl),(rA ks ρ)[m]?=aa s->s=.no\/(m∉ks/\ρ[m]?=aa s)
 | [],_,_,_,h=>.inr ⟨b6,h⟩
 |k::ks,ρ,m,s,h=>by
  rcases Ew ks _ m s h with e |⟨a,e⟩
  .exact .inl e
  .rcases cf e with⟨_,q,_⟩ |⟨ne,e⟩
   .exact .inl q
   .exact .inr ⟨λz=>(b8.mp z).elim ne a,e⟩
abbrev j7(ks:LN)(a b:LS):Prop:=a.length=b.length/\∀m,m∉ks->a[m]?=b[m]?
def j7.refl(ks:LN)(a:LS):j7 ks a a:=⟨rfl,λ_ _=>rfl⟩
inductive Ey(G:Gc)(f:LS->Option (List O))(σ:St)(H:Hp)(Q:List V->Hp->Prop):Prop
 |mk:∀Hf0 H0 Hf ρ os,aC G Hf0 H0 Hf H σ ρ->f ρ=aa os->(∀vs gs Hf' H',Ext Hf H Hf' H'->OTs G Hf' H' os vs gs->Fre H Hf' gs->Q vs H')->Ey G f σ H Q
structure DAT(c:Str->Addr)(X:Cx)(es:LEx)(f:LS->Option (List O)):Prop where
 pa:PA X es (Ey (Gx c X) f)
 len:∀ρ os,f ρ=aa os->os.length=es.length
abbrev k8(f:LS->Option O)(g:LS->Option (List O))(ρ:LS):Option (List O):=(f ρ).bind λo=>(g ρ).map λos=>o::os
def Ez:DAT c X [] nZ:=⟨PA.imp cs λσ H Q z=>by obtain⟨Hf0,H0,Hf,ρ,os,st,q,k⟩:=z;cases q;exact k [] [] Hf H (Ext.refl st.sub) ⟨rfl,rfl⟩ .nil,λρ os h=>by cases h;rfl⟩
def EA{f:LS->Option O}{g:LS->Option (List O)}(h:k8 f g ρ=aa os):∃o r,f ρ=aa o/\g ρ=aa r/\os=o::r:=by
 unfold k8 at h
 cases q:f ρ with
 |none=>rw[q]at h;cases h
 |some d=>
  cases z:g ρ with
  |none=>rw[q,z]at h;cases h
  |some r=>rw[q,z]at h;cases h;exact⟨d,r,rfl,rfl,rfl⟩
def uW{f:LS->Option O}{g:LS->Option (List O)}(h:DZ c X ac e f)(U:DAT c X es g)(hs:StE X e es:=by rfl):DAT c X (e::es) (k8 f g):=by
 refine⟨PA.imp (bW h U.pa hs) λσ H Q q_=>?_,λρ os h=>?_⟩
 .obtain⟨Hf0,H0,Hf,ρ,os,st,ef,k⟩:=q_;obtain⟨o,r,M,z,rfl⟩:=EA ef;refine⟨Hf0,H0,Hf,ρ,o,st,M,λu fp al H1 I r1 L=>⟨Hf0,H0,al,ρ,r,st.step I,z,λvs gs a9 H2 q r2 z2=>?_⟩⟩;have L:Fre H al fp:=L;have mem:=OT.memM o u fp r1;refine k (u::vs) (fp++gs) a9 H2 (I.trans q) ⟨u,vs,fp,gs,rfl,r1.up q.f q.h,r2,rfl⟩ ((L.step mem q).app (z2.imp λa h=>I.h.free h) λa ha hb=>?_);obtain⟨w,hw,_⟩:=mem a ha;rw[(z2.2 a hb).1]at hw;cases hw
 .obtain⟨o,r,M,z,rfl⟩:=EA h;simp[U.len ρ r z]
variable{s:aI}{kvs:List (Key×V)}
def Inv.freeze(I:Inv X pins σ H s)(e:H l=aa (.dK kvs)):∃od,Inv X pins σ (upd H l (.frz od (.dK kvs))) s:=by
 obtain⟨z,ns,vs,U,od,es,ep,ho,r⟩:=qw I.hok e;refine⟨od,?_⟩
 have M:∀b u,H b=aa u->(∀w,u≠.dK w)->upd H l (.frz od (.dK kvs)) b=aa u:=λb u L hu=>by
  rw[bz (λq=>by subst q;rw[e]at L;cases L;exact hu _ rfl)];exact L
 have:=I.step (t':=s.toks) (d':=s.drawn) (ch:=[]) (λb L=>nomatch L) (λb o _ _ _ e _=>e) (λb o _ _ _ e _=>⟨o.slots,e⟩) (λb o _ _ n=>by rw[bz (λq=>by subst q;rw[e]at n;nomatch n)];exact n)
  (λb o _ e=>⟨o,e⟩) (λb xs L=>M b _ L (λw q=>by nomatch q)) (λb o u L=>M b _ L (λw q=>by nomatch q)) (λb ps L=>⟨#[],by rw[M b _ L (λw q=>by nomatch q)];simp⟩) (λm hm=>hm) (λb u L=>?_) I.bare
 .exact this
 .by_cases q:b=l
  .subst q;rw[bw]at L;cases L;exact⟨ho,z,ns,vs,U,od,es,ep,ho,r⟩
  .rw[bz q]at L;exact(I.hok b u L).stay (λc v _ h=>h) (λc h=>M c _ h (λw q=>by nomatch q)) (λc xs h=>M c _ h (λw q=>by nomatch q))
def KV.get:∀{xs:List (Key×V)} {us:List (Key×Value)} {i:Nat} {x:Key×V},KV xs us->xs[i]?=aa x->∃u,us[i]?=aa u/\x.1=u.1/\aR x.2 u.2
 | _,_,_,_,.nil,e=>by simp at e
 | _,_,0,_,.cons r _,e=>by simp at e;subst e;exact⟨_,rfl,r⟩
 | _,_,i+1,x,.cons _ t,e=>by
  obtain⟨u,q,z⟩:=KV.get t (by simpa using e);exact⟨u,by simpa using q,z⟩
def LI{k:Key}{v:Value}(h:mW k v=ac):aR (kV k) v:=by
 rcases jT h with⟨i,t,rfl,rfl⟩ |⟨x,t,rfl,rfl⟩
 .exact⟨t,rfl⟩
 .exact⟨t,rfl⟩
abbrev kD:Key->D
 |.inl i=>.int i
 |.inr x=>.str x
def LJ(k:Key):Rep G H (kD k) (kV k):=by cases k <;> rfl
abbrev LK:D->OLD
 |.kd ks _=>aa (ks.map kD)
 | _=>ab
abbrev iA(ks:List Key)(xs:LD)(k:Key):OD:=((ks.zip xs).find? λq=>decide (q.1=k)).map (·.2)
def yM{G:Gc}{H:Hp}{k:Key}:∀{ks:List Key} {xs:LD} {vs:List V},ks.length=vs.length->aB G H xs vs->(∀d,iA ks xs k=aa d->∃v,fm (ks.zip vs) k=aa v/\Rep G H d v)/\(iA ks xs k=ab->fm (ks.zip vs) k=ab)
 | [],_,_,_,_=>⟨λd h=>(by cases h),λ_=>rfl⟩
 | _::_,_,[],h,_=>by cases h
 |j::ks,[],v::vs,_,r=>by cases (r)
 |j::ks,x::xs,v::vs,h,q4_=>by
  obtain⟨u,L,e,z,I⟩:=q4_
  injection e with e1 e2
  subst e1 e2;obtain⟨a,b⟩:=yM (by simpa using h) I;unfold iA;rw[mC,mC]
  by_cases q:j=k
  .subst q;refine⟨λd hd=>⟨v,t6 rfl,?_⟩,λhd=>?_⟩
   .rw[find?_cons_of_pos (by simp)]at hd;cases hd;exact z
   .rw[find?_cons_of_pos (by simp)]at hd;cases hd
  .rw[find?_cons_of_neg (by simpa using q),t7 q];exact⟨a,b⟩
abbrev j8:D->Option (List Key×LD)
 |.dic ks xs=>aa (ks,xs)
 |.kd ks xs=>aa (ks,xs)
 | _=>ab
variable{a:Expr}
def uX{p:List Key×LD}(e:j8 d=aa p)(r:Rep G H d v):∃a vs,v=.ref a/\Rd H a (.dK (p.1.zip vs))/\p.1.length=vs.length/\aB G H p.2 vs:=by
 cases d with
 |dic ks xs=>cases e;obtain⟨a,vs,I,q,z,r⟩:=r;exact⟨a,vs,I,.inl q,z,r⟩
 |kd ks xs=>cases e;obtain⟨a,od,vs,I,q,z,r⟩:=r;exact⟨a,vs,I,.inr ⟨od,q⟩,z,r⟩
 | _=>nomatch e
def Rd.up{a:Addr}{u:HO}(h:Rd H a u)(s:aH H H'):Rd H' a u:=h.imp (s _ _) λq=>by
 obtain⟨o,e⟩:=q;exact(⟨o,s _ _ e⟩)
abbrev gf(x y:D):OD:=(j8 x).bind λp=>(i3 y).bind λk=>iA p.1 p.2 k
variable{b:Expr}
def lZ{pos:Pos}(hu:X.A.units+64<cLine){f g:MF1}(ha:DE c X a f)(hb:DE c X b g)(hs:xS b:=by exact λ_ _=>rfl):DE c X (.Subscript a b pos) (m2 gf f g):=
 PE.imp (JT (by lia) ha hb hs) λσ H Q q_=>by
  obtain⟨Hf0,H0,Hf,ρ,d,st,ef,k⟩:=q_;obtain⟨x,y,e1,e2,I⟩:=ug ef;refine⟨Hf0,H0,Hf,ρ,x,st,e1,λv al H1 x1 r1=>⟨Hf0,H0,al,ρ,y,st.step x1,e2,λu a9 H2 x2 r2=>?_⟩⟩;unfold gf at I
  cases L:j8 x with
  |none=>rw[L]at I;nomatch I
  |some p=>
   rw[L,ax]at I
   cases M:i3 y with
   |none=>rw[M]at I;nomatch I
   |some ky=>
    rw[M,ax]at I;obtain⟨l,vs,el,q,z,r⟩:=uX L (r1.up x2.f);have ev:=oP M r2;subst ev el;obtain⟨w,hw,U⟩:=(yM z r).1 d I;exact⟨l,w,rfl,.inl ⟨_,ky,q.up x2.s,rfl,hw.symm⟩,k _ a9 H2 (x1.trans x2) U⟩
abbrev k9(i:Nat)(F:MF3)(ρ:LS):Option Fl:=match ρ[i]? with
 |some (.ownd ks xs)=>F (ρ.set i (.im (.kd ks xs)))
 | _=>F ρ
def LL{E:jU}(I:Inv X pins σ H s)(h:tDS (Gx c X) (k9 i F) E σ H):∃H',Inv X pins σ H' s/\tDS (Gx c X) F E σ H':=by
 obtain⟨Hf0,H0,Hf,ρ,o,so,ef,k⟩:=h;unfold k9 at ef;split at ef
 .rename_i ks xs es;obtain⟨l,e1,h0,hf,vs,q,z,r⟩:=so.ownAt rfl es;obtain⟨od,I'⟩:=I.freeze q;refine⟨_,I',Hf0,H0,upd Hf l (.frz od (.dK (ks.zip vs))),ρ.set i _,o,?_,ef,k.up (cu hf)⟩
  have s1 : aC _ Hf0 H0 Hf (upd H l (.frz od (.dK (ks.zip vs)))) σ (ρ.set i .no):=so.chg es e1 (λb u hb=>by
   by_cases L:b=l
   .subst L;exact .inl ((Holds.own rfl).mpr rfl)
   .exact .inr (by rw[bz L];exact hb)) trivial λa p=>(p.calm rfl).elim
  have s2:aC (Gx c X) Hf0 H0 (upd Hf l (.frz od (.dK (ks.zip vs)))) (upd H l (.frz od (.dK (ks.zip vs)))) σ (ρ.set i .no):=by
   have fr:j6 (Gx c X) Hf H σ (ρ.set i .no) l:=λm t w b U p=>by
    rcases cf b with⟨_,e',_⟩ |⟨ne,b⟩
    .subst e';exact p.calm rfl
    .exact ne (so.dj m i t _ w _ l b es U e1 p ((Holds.own rfl).mpr rfl))
   have fr':j6 (Gx c X) Hf (upd H l (.frz od (.dK (ks.zip vs)))) σ _ l:=λm t w b U p=>by
    cases ht:t.isOwn with
    |true=>
     exact fr m t w b U ((Holds.own ht).mpr ((Holds.own ht).mp p))
    |false=>
     cases t with
     |deep o'=>
      obtain⟨fp,rr,ha⟩:=p
      obtain ⟨u,fp',eu,r2,_⟩:=so.at' m _ _ U (by
       rcases cf b with⟨_,e',_⟩ |⟨ne,b⟩
       .nomatch e'
       .exact b)
      cases eu
      have r3:OT _ Hf (upd H l (.frz od (.dK (ks.zip vs)))) o' w fp':=r2.frame (aH.refl _) λb' u' L M=>by
       rw[bz (λqq=>?_)]
       .exact L
       .subst qq
        rcases M with M |M
        .rw[q]at L;cases L;nomatch M
        .exact fr m _ w b U ⟨fp',r2,M⟩
      have:=OT.funM o' w _ _ r3 rr;subst this
      exact fr m _ w b U ⟨fp',r2,ha⟩
     | _=>first |exact mw p.1 |nomatch ht
   refine s1.re ⟨s1.ext.f.trans (cu hf),s1.ext.h,λb u e=>?_,λb u e t=>?_⟩ rfl (λm v t a b=>?_) λm t v a b U p=>⟨t,b,(s1.at' m _ t U b).back (λo' fp _ r=>r.up (cu hf) (aH.refl _)) p⟩
   .by_cases hb:b=l
    .subst hb;rw[bw]at e ⊢;exact e
    .rw[bz hb]at e;exact s1.ext.s b u e
   .rw[bz (λz=>by subst z;rw[h0]at e;nomatch e)];exact s1.ext.n b u e t
   .have qq:=s1.at' m v t a b
    cases ht:t.isOwn with
    |true=>
     obtain⟨l2,e2,e3,e4,q2⟩:=qq.own ht;subst e2;refine .ofOwn ht ⟨l2,rfl,e3,?_,q2.up (cu hf) λo' ho'=>ho'⟩;rw[bz (λz=>by subst z;exact fr' m t _ b a ((Holds.own ht).mpr rfl))]
     exact e4
    |false=>
     cases t with
     |no=>trivial
     |im d=>obtain⟨u',e1,r⟩:=qq;exact⟨u',e1,r.up (cu hf)⟩
     |val u'=>exact qq
     |deep o'=>
      obtain⟨w,fp,e1,r,n,zz⟩:=qq;subst e1;refine⟨w,fp,rfl,r.up (cu hf) (aH.refl _),n,λy hy=>⟨(zz y hy).1,?_⟩⟩;rw[bz (λz=>by subst z;exact fr' m _ w b a ⟨fp,r,hy⟩)]
      exact(zz y hy).2
     | _=>nomatch ht
  have res:=s2.setIm (i:=i) (d:=.kd ks xs) ⟨l,od,vs,rfl,bw,z,r.up (cu hf)⟩
  have e3:σ.set i (aa (.ref l))=σ:=by
   apply lA;intro jj
   by_cases hj:i=jj
   .subst hj;rw[ji (eD.mp e1).1,e1]
   .rw[fZ hj]
  rw[e3,set_set]at res;exact res
 .exact⟨H,I,Hf0,H0,Hf,ρ,o,so,ef,k⟩
def uY(i:Nat)(h:DS c X st F):DS c X st (k9 i F):=λpins s σ H E I q=>by
 obtain⟨H',z,L⟩:=LL I q;exact h pins s σ H' E z L
def yN(h:ρ[i]?=aa (.ownd ks xs))(k:wp F (ρ.set i (.im (.kd ks xs))) K):wp (k9 i F) ρ K:=by
 obtain⟨o,e,q⟩:=k;exact⟨o,by unfold k9;rw[h];exact e,q⟩
abbrev EB:D->OD
 |.bl b=>aa (.int (if b then 1 else 0))
 | _=>ab
abbrev gg(f:MF1)(ρ:LS):OD:=(f ρ).bind EB
abbrev LM(te:TE):TE:=λσ H Q=>te σ H λx H1=>∃b,x=.bl b/\Q (.int (if b then 1 else 0)) H1
def LO:gR "int"=aa (.type "int"):=by decide +kernel
def LP{pos:Pos}(hg:Gl X "int")(hm:X.mg "int"=ab)(he:PE X e te)(L:aY [e] X.env=(ag,eval e X.env)::aY [] X.env:=by rfl)(z:(fT pos (aY [] X.env)).any (·.1)=ag:=by rfl):
  PE X (.Call (.Name "int" p) [e] [] pos) (LM te):=by
 intro pins s σ H Q I h;refine mN (iU I hg hm LO ?_);refine kE ?_ L z;rw[L];refine mT (thn (he pins s σ H _ I h) λu s1 q_=>?_);obtain⟨x,H1,M,r1,b,U,q⟩:=q_;subst U;subst r1;exact bc (call_int_bool ⟨.int _,H1,M.tok _,⟨_,rfl⟩,q⟩)
def oW{pos:Pos}{f:MF1}(M:Gl X "int")(hm:X.mg "int"=ab)(ha:DE c X e f)(L:aY [e] X.env=(ag,eval e X.env)::aY [] X.env:=by rfl)(I:(fT pos (aY [] X.env)).any (·.1)=ag:=by rfl):DE c X (.Call (.Name "int" p) [e] [] pos) (gg f):=
 PE.imp (LP M hm ha L I) λσ H Q U=>by
  obtain⟨Hf0,H0,Hf,ρ,d0,st,q,k⟩:=U;unfold gg at q
  cases z:f ρ with
  |none=>rw[z]at q;nomatch q
  |some d=>
   rw[z,ax]at q;unfold EB at q;split at q
   .rename_i b;cases q;refine⟨Hf0,H0,Hf,ρ,_,st,z,λv Hf' H' x r=>⟨b,r,k _ Hf' H' x rfl⟩⟩
   .nomatch q
abbrev oX(i:Nat)(fk fv:MF1)(ρ:LS):Option Fl:=(fv ρ).bind λd=>(fk ρ).bind λx=>match x with
 | .int k=>(match ρ[i]? with
  |some (.pin l xs)=>(ixN xs.length k).map λj=>.nx (ρ.set i (.pin l (xs.set j d)))
  | _=>ab)
 | _=>ab
def LQ(hp:PS X st (kK (tD (Gx c X) fv) (xA (eV i) (tD (Gx c X) fk) xR))):DS c X st (oX i fk fv):=PS.imp hp λE σ H q_=>by
 obtain⟨Hf0,H0,Hf,ρ,o,so,z,k⟩:=q_;unfold oX at z
 cases U:fv ρ with
 |none=>rw[U]at z;nomatch z
 |some d=>
  rw[U]at z
  cases e2:fk ρ with
  |none=>rw[e2]at z;nomatch z
  |some x=>
   rw[e2]at z
   obtain⟨L,rfl⟩:∃L,x=.int L:=by cases x <;> first |exact⟨_,rfl⟩ |nomatch z
   replace z:(match ρ[i]? with |some (.pin l xs)=>(ixN xs.length L).map λj=>Fl.nx _ | _=>ab)=aa o:=z
   split at z
   .rename_i l0 xs es
    cases ej:ixN xs.length L with
    |none=>rw[ej]at z;nomatch z
    |some j=>
     rw[ej]at z;cases z;refine⟨Hf0,H0,Hf,ρ,d,so,U,λv al H1 x1 r1=>?_⟩;have I:=so.step x1;obtain⟨l,el,h0,hf,eq,vs,q,r⟩:=I.ownAt rfl es;subst eq;refine⟨_,el,Hf0,H0,al,ρ,.int L,I,e2,λy a9 H2 M r2=>?_⟩;exact⟨l,vs,L,j,rfl,r2,(M.h _ _ q),by rw[<- r.length];exact ej,(k σ a9 _ (x1.f.trans M.f) ((I.step M).mutd rfl rfl es el ⟨rfl,vs.set j v,bw,(r.up M.f).set j (r1.up M.f)⟩))⟩
   .nomatch z
def LR{pos:Pos}(I:PE X e (eV i))(z:DE c X i' fk)(M:DE c X value fv)(L:p7 [.Subscript e i' b0] value pos.line X.env=pure ag:=by rfl)(U:p8 [.Subscript e i' b0] value X.env=pure ab:=by rfl)
 (q:(fj [.Subscript e i' b0] X.env).map (·.2)=[h9 (.Subscript e i' b0) X.env]:=by rfl)
 (ha:∀ v,h9 (.Subscript e i' b0) X.env v=(do
   let ov <- hZ [v] (eval e X.env)
   let iv <- hZ [v,ov] (eval i' X.env)
   standAt b0
   hZ [v,ov,iv] (setItem ov iv v)
   release [v,ov,iv] []):=by intro _;rfl):
  DS c X (.Assign [.Subscript e i' b0] value pos) (oX i fk fv):=LQ (tP M (Cd I z Cy ha) L U q)
def LU{k:Int}(M:fv ρ=aa d)(L:fk ρ=aa (.int k))(h':ρ[i]?=aa (.pin l xs))(z:0<=k)(I:k<xs.length)(q:K (.nx (ρ.set i (.pin l (xs.set k.toNat d))))):wp (oX i fk fv) ρ K:=⟨_,by
 unfold oX;rw[M,ax,L,ax,h'];show(ixN xs.length k).map _=_;unfold ixN;rw[if_pos z,if_pos I];rfl,q⟩
@[reducible]noncomputable def Xe:=LS->Option (D×LS)
@[reducible]noncomputable def Xa:=LS->Option (LD×LS)
@[reducible]noncomputable def Xt:=LS->Option (Bool×LS)
abbrev mX(f:MF1):Xe:=λρ=>(f ρ).map λd=>(d,ρ)
abbrev mX2(m:D->D->OD)(f g:Xe):Xe:=λρ=>(f ρ).bind λp=>(g p.2).bind λq=>(m p.1 q.1).map λd=>(d,q.2)
abbrev aP:Xa:=λρ=>aa ([],ρ)
abbrev aE(f:Xe)(g:Xa):Xa:=λρ=>(f ρ).bind λp=>(g p.2).map λq=>(p.1::q.1,q.2)
abbrev g6(f:Xa):Xe:=λρ=>(f ρ).map λp=>(.tup p.1,p.2)
abbrev oY(f:Xa):Xe:=λρ=>(f ρ).map λp=>(.lst p.1,p.2)
abbrev l5(m:LD->OD)(f:Xa):Xe:=λρ=>(f ρ).bind λp=>(m p.1).map λd=>(d,p.2)
def LV{f:MF1}(h:mX f ρ=aa (d,ρ')):f ρ=aa d/\ρ'=ρ:=by
 unfold mX at h
 cases e:f ρ with
 |none=>rw[e]at h;nomatch h
 |some d'=>rw[e]at h;cases h;exact⟨rfl,rfl⟩
def uZ{m:D->D->OD}{f g:Xe}(h:mX2 m f g ρ=aa (d,ρ')):∃x y ρ1,f ρ=aa (x,ρ1)/\g ρ1=aa (y,ρ')/\m x y=aa d:=by
 unfold mX2 at h
 cases M:f ρ with
 |none=>rw[M]at h;nomatch h
 |some p=>
  rw[M,ax]at h
  cases I:g p.2 with
  |none=>rw[I]at h;nomatch h
  |some q=>
   rw[I,ax]at h
   cases L:m p.1 q.1 with
   |none=>rw[L]at h;nomatch h
   |some z=>rw[L]at h;cases h;exact⟨p.1,q.1,p.2,rfl,I,L⟩
variable{g:Xa}
def EC{f:Xe}(h:aE f g ρ=aa (ds,ρ')):∃d r ρ1,f ρ=aa (d,ρ1)/\g ρ1=aa (r,ρ')/\ds=d::r:=by
 unfold aE at h
 cases I:f ρ with
 |none=>rw[I]at h;nomatch h
 |some p=>
  rw[I,ax]at h
  cases z:g p.2 with
  |none=>rw[z]at h;nomatch h
  |some q=>rw[z]at h;cases h;exact⟨p.1,q.1,p.2,rfl,z,rfl⟩
inductive ED(G:Gc)(f:Xa)(σ:St)(H:Hp)(Q:List V->Hp->Prop):Prop
 |mk:∀Hf0 H0 Hf ρ ds ρ',aC G Hf0 H0 Hf H σ ρ->f ρ=aa (ds,ρ')->(∀vs Hf' H',aH Hf Hf'->aC G Hf0 H0 Hf' H' σ ρ'->aB G Hf' ds vs->Q vs H')->ED G f σ H Q
structure DAX(c:Str->Addr)(X:Cx)(es:LEx)(f:Xa):Prop where
 pa:PA X es (ED (Gx c X) f)
 len:∀ρ ds ρ',f ρ=aa (ds,ρ')->ds.length=es.length
inductive rB(G:Gc)(f:Xt)(σ:St)(H:Hp)(Q:Bool->Hp->Prop):Prop
 |mk:∀Hf0 H0 Hf ρ b ρ',aC G Hf0 H0 Hf H σ ρ->f ρ=aa (b,ρ')->(∀Hf' H',aH Hf Hf'->aC G Hf0 H0 Hf' H' σ ρ'->Q b H')->rB G f σ H Q
abbrev DTX(c:Str->Addr)(X:Cx)(e:Expr)(f:Xt):Prop:=PT X e (rB (Gx c X) f)
def DE.dx{f:MF1}(h:DE c X e f):DX c X e (mX f):=PE.imp h λσ H Q I=>by
 obtain⟨Hf0,H0,Hf,ρ,d,ρ',st,z,k⟩:=I;obtain⟨q,rfl⟩:=LV z;exact⟨Hf0,H0,Hf,_,d,st,q,λv Hf' H' x r=>k v Hf' H' x.f (st.step x) r⟩
def jd{pos:Pos}{op:Operator}{m:D->D->OD}{f g:Xe}(ho:OpD c X (fS op) m)(ha:DX c X a f)(hb:DX c X b g):DX c X (.BinOp a op b pos) (mX2 m f g):=PE.imp (xC ho ha hb) λσ H Q q_=>by
 obtain⟨Hf0,H0,Hf,ρ,d,ρ',st,ef,k⟩:=q_;obtain⟨x,y,ρ1,U,e2,e3⟩:=uZ ef;exact⟨Hf0,H0,Hf,ρ,x,ρ1,st,U,λv al H1 f1 I r1=>⟨Hf0,H0,al,ρ1,y,ρ',I,e2,λu a9 H2 f2 q r2=>⟨a9,x,y,d,q.sub,r1.up f2,r2,e3,λw z M L r3=>k w z M ((f1.trans f2).trans L.f) (q.step L) r3⟩⟩⟩
def ba:DAX c X [] aP:=⟨PA.imp cs λσ H Q z=>by obtain⟨Hf0,H0,Hf,ρ,ds,ρ',st,q,k⟩:=z;cases q;exact k [] Hf H (aH.refl _) st rfl,λρ ds ρ' h=>by cases h;rfl⟩
def aO{f:Xe}(ha:DX c X e f)(M:DAX c X es g)(hs:StE X e es:=by rfl):DAX c X (e::es) (aE f g):=by
 refine⟨PA.imp (bW ha M.pa hs) λσ H Q q_=>?_,λρ ds ρ' h=>?_⟩
 .obtain⟨Hf0,H0,Hf,ρ,ds,ρ',st,U,k⟩:=q_;obtain⟨d,r,ρ1,L,q,rfl⟩:=EC U;exact⟨Hf0,H0,Hf,ρ,d,ρ1,st,L,λv al H1 f1 z r1=>⟨Hf0,H0,al,ρ1,r,ρ',z,q,λvs a9 H2 f2 I r2=>k _ a9 H2 (f1.trans f2) I (.cons (r1.up f2) r2)⟩⟩
 .obtain⟨d,r,ρ1,L,q,rfl⟩:=EC h;simp[M.len ρ1 r ρ' q]
def lb{pos:Pos}{f:Xa}(h:DAX c X es f)(hz:es.length<=1000:=by exact mI rfl):DX c X (.Tuple es k' pos) (g6 f):=PE.imp (tX h.pa) λσ H Q U=>by
 obtain⟨Hf0,H0,Hf,ρ,d,ρ',st,I,k⟩:=U;unfold g6 at I
 cases L:f ρ with
 |none=>rw[L]at I;nomatch I
 |some q=>
  obtain⟨ds,ρ1⟩:=q;rw[L]at I;cases I;refine⟨Hf0,H0,Hf,ρ,ds,_,st,L,λvs Hf' H' f1 z r=>⟨?_,λq M=>(k _ _ _ (f1.trans (cu (z.sub.free M))) (z.step (Ext.new z.sub M)) ⟨q,vs,rfl,bw,r.up (cu (z.sub.free M))⟩)⟩⟩;rw[<- r.length,h.len ρ ds _ L];exact jS (m4 hz)
def EE{pos:Pos}{f:Xa}(h:DAX c X es f)(hz:es.length<=1000:=by exact mI rfl):DX c X (.List es pos) (oY f):=PE.imp (xK h.pa) λσ H Q U=>by
 obtain⟨Hf0,H0,Hf,ρ,d,ρ',st,I,k⟩:=U;unfold oY at I
 cases L:f ρ with
 |none=>rw[L]at I;nomatch I
 |some q=>
  obtain⟨ds,ρ1⟩:=q;rw[L]at I;cases I;refine⟨Hf0,H0,Hf,ρ,ds,_,st,L,λvs Hf' H' f1 z r=>⟨?_,λq M=>(k _ _ _ (f1.trans (cu (z.sub.free M))) (z.step (Ext.new z.sub M)) ⟨q,vs,rfl,bw,r.up (cu (z.sub.free M))⟩)⟩⟩;rw[<- r.length,h.len ρ ds _ L];exact jS (m4 hz)
inductive tMX(G:Gc)(i:Nat)(f:Xa)(σ:St)(H:Hp)(Q:List V->Hp->Prop):Prop
 |mk:∀Hf0 H0 Hf ρ ds ρ' l,aC G Hf0 H0 Hf H σ ρ->σ[i]?=aa (aa (.ref l))->f ρ=aa (ds,ρ')->(∀vs Hf' H',aH Hf Hf'->aC G Hf0 H0 Hf' H' σ ρ'->aB G Hf' ds vs->Q (.ref l::vs) H')->tMX G i f σ H Q
structure DMX(c:Str->Addr)(X:Cx)(es:LEx)(i:Nat)(f:Xa):Prop where
 pa:PA X es (tMX (Gx c X) i f)
 len:∀ρ ds ρ',f ρ=aa (ds,ρ')->ds.length+1=es.length
abbrev be(i:Nat)(m:Addr->LD->LD->LD->Option (LD×D))(f:Xa):Xe:=λρ=>match ρ[i]? with
 |some (.pin _ _)=>(f ρ).bind λp=>match p.2[i]? with
  |some (.pin l xs)=>(m l [] p.1 xs).map λq=>(q.2,p.2.set i (.pin l q.1))
  | _=>ab
 | _=>ab
open Classical in
abbrev oZ(i:Nat)(m:Addr->LD->LD->LD->Option (LD×D))(f:Xa):Xe:=λρ=>match ρ[i]? with
 |some (.own _)=>(f ρ).bind λp=>match p.2[i]? with
  |some (.own xs)=>if h:∃q,∀l,m l [] p.1 xs=aa q then aa (h.choose.2,p.2.set i (.own h.choose.1)) else ab
  | _=>ab
 | _=>ab
def bR{pos:Pos}(i:Nat)(I:DAX c X es g)(U:X.N[i]?=aa x:=by rfl)(hv:Vis X.env.scope x:=by first |exact bU rfl |exact br (bU rfl) |exact br (br rfl))(hd:NDb x:=by decide)
 (q:NCd x:=by decide)(hs:aY (.Name x pos::es) X.env=(ag,eval (.Name x pos) X.env)::aY es X.env:=by rfl):DMX c X (.Name x pos::es) i g:=
 ⟨PA.imp (bW (jV U hv hd q) I.pa hs) λσ H Q ⟨Hf0,H0,Hf,ρ,ds,ρ',l,st,M,L,k⟩=>⟨_,M,Hf0,H0,Hf,ρ,ds,ρ',st,L,λvs Hf' H' f1 z r=>k vs Hf' H' f1 z r⟩,λρ ds ρ' h=>by
  rw[bT,I.len ρ ds ρ' h]⟩
variable{fa:Xa}
def bP{f:Addr}{pos:Pos}{m:Addr->LD->LD->LD->Option (LD×D)}(pk:Pk X.prog X.w X.K X.mg X.base CX0 k x (f,fd) ps (spM (Gx c X) 0 ps.length m))(hr0:c6 k0 X.A)(ha:DMX c X (e::es) i fa)(hl:(e::es).length=ps.length:=by rfl)(hdb:NDb x:=by decide)(he:StE X e es:=by rfl)(hY:BkE X pos es:=by rfl)(hk0:k<=k0:=by decide)(hg:Gl X x:=by first |rfl |exact glc rfl):
  DX c X (.Call (.Name x p) (e::es) [] pos) (be i m fa):=PE.imp (kM pk.ok (hr0.mono hk0) hg pk.g pk.kp pk.b .nil kQ ha.pa hdb he hY) λσ H Q q_=>by
 obtain⟨Hf0,H0,Hf,ρ,d,ρ',st,z,kq⟩:=q_;unfold be at z;split at z
 .rename_i l0 xs0 eo0
  cases M:fa ρ with
  |none=>rw[M]at z;nomatch z
  |some pp=>
   obtain⟨ds,ρ1⟩:=pp;rw[M,ax]at z;split at z
   .rename_i l xs eo
    cases e2:m l [] ds xs with
    |none=>rw[e2]at z;nomatch z
    |some q=>
     rw[e2]at z;cases z;obtain⟨l1,el,_,_,_,_,_,_⟩:=st.ownAt rfl eo0;refine⟨Hf0,H0,Hf,ρ,ds,ρ1,l1,st,el,M,λvs Hf' H' f1 I r=>?_⟩;rw[cx];obtain⟨l2,L,h02,hf2,eq2,us2,hu2,rx2⟩:=I.ownAt rfl eo;subst eq2;rw[el]at L;cases L
     have hn:0+1+ds.length=ps.length:=by
      have:=(ha.len ρ ds _ M).trans hl;lia
     exact⟨Hf',[],ds,xs,q.1,q.2,l1,us2,[],vs,rfl,I.sub,hf2,hu2,rfl,r,rx2,rfl,hn,e2,λv U H3 us3 x3 hf3 hu3 rx3 r3=>kq v U H3 (f1.trans x3.f) (I.back rfl rfl eo el x3 hf3 ⟨rfl,us3,hu3,rx3⟩) r3⟩
   .nomatch z
 .nomatch z
def EF{f:Addr}{pos:Pos}{m:Addr->LD->LD->LD->Option (LD×D)}(pk:Pk X.prog X.w X.K X.mg X.base CX0 k x (f,fd) ps (spM (Gx c X) 0 ps.length m))(hr0:c6 k0 X.A)(ha:DMX c X (e::es) i fa)(hl:(e::es).length=ps.length:=by rfl)(hdb:NDb x:=by decide)(he:StE X e es:=by rfl)(hY:BkE X pos es:=by rfl)(hk0:k<=k0:=by decide)(hg:Gl X x:=by first |rfl |exact glc rfl):
  DX c X (.Call (.Name x p) (e::es) [] pos) (oZ i m fa):=PE.imp (kM pk.ok (hr0.mono hk0) hg pk.g pk.kp pk.b .nil kQ ha.pa hdb he hY) λσ H Q q_=>by
 obtain⟨Hf0,H0,Hf,ρ,d,ρ',st,z,kq⟩:=q_;unfold oZ at z;split at z
 .rename_i xs0 eo0
  cases M:fa ρ with
  |none=>rw[M]at z;nomatch z
  |some pp=>
   obtain⟨ds,ρ1⟩:=pp;rw[M,ax]at z;split at z
   .rename_i xs eo;split at z
    .rename_i hq;have e2:=hq.choose_spec;generalize hq.choose=q at z e2;cases z;obtain⟨l1,el,_,_,_,_,_⟩:=st.ownAt rfl eo0;refine⟨Hf0,H0,Hf,ρ,ds,ρ1,l1,st,el,M,λvs Hf' H' f1 I r=>?_⟩;rw[cx];obtain⟨l2,L,h02,hf2,us2,hu2,rx2⟩:=I.ownAt rfl eo;rw[el]at L;cases L
     have hn:0+1+ds.length=ps.length:=by
      have:=(ha.len ρ ds _ M).trans hl;lia
     exact⟨Hf',[],ds,xs,q.1,q.2,l1,us2,[],vs,rfl,I.sub,hf2,hu2,rfl,r,rx2,rfl,hn,e2 l1,λv U H3 us3 x3 hf3 hu3 rx3 r3=>kq v U H3 (f1.trans x3.f) (I.back rfl rfl eo el x3 hf3 ⟨us3,hu3,rx3⟩) r3⟩
    .nomatch z
   .nomatch z
 .nomatch z
abbrev dC(i:Nat)(f:Xe)(ρ:LS):Option Fl:=(f ρ).map λp=>.nx (p.2.set i (.im p.1))
abbrev jI(f:Xe)(ρ:LS):Option Fl:=(f ρ).map λp=>.rtS p.1 p.2
abbrev j9(i:Nat)(f:Xe)(ρ:LS):Option Fl:=match ρ[i]? with
 |some (.own _)=>(f ρ).bind λp=>match p.2[i]? with
  |some (.own xs)=>if xs.length<16777216 then aa (.nx (p.2.set i (.own (xs++[p.1])))) else ab
  | _=>ab
 | _=>ab
abbrev rC:D->D->OD
 |.int i,.int j=>aa (.int (i+j))
 |.str a,.str b=>if a.length+b.length<=16777216 then aa (.str (a++b)) else ab
 | _,_=>ab
abbrev lc(i:Nat)(f:Xe)(ρ:LS):Option Fl:=match ρ[i]? with
 |some (.im x)=>(f ρ).bind λp=>(rC x p.1).map λz=>.nx (p.2.set i (.im z))
 | _=>ab
abbrev l6(t:Xt)(F F':MF3)(ρ:LS):Option Fl:=(t ρ).bind λp=>if p.1 then F p.2 else F' p.2
def fW{pos:Pos}(i:Nat){f:Xe}(L:X.N.Nodup)(M:DX c X e f)(hi:X.N[i]?=aa x:=by rfl)(hx:Loc X.env.scope x:=by first |exact bU rfl |exact br rfl)(hs:fR e (aa (.Name x b0)) pos.line X.env=pure ag:=by rfl)(U:LcF X x:=by first |exact .inl rfl |exact .inr rfl):
  DS c X (.Assign [.Name x b0] e pos) (dC i f):=PS.imp (lK L hi hx M hs U) λE σ H q_=>by
 obtain⟨Hf0,H0,Hf,ρ,o,so,q,k⟩:=q_;unfold dC at q
 cases z:f ρ with
 |none=>rw[z]at q;nomatch q
 |some p=>
  rw[z]at q;cases q;exact⟨Hf0,H0,Hf,ρ,p.1,p.2,so,z,λv Hf' H' s I r=>k _ Hf' H' s (I.setIm r)⟩
def nM{pos:Pos}{f:Xe}(L:DX c X e f):DS c X (.Return (aa e) pos) (jI f):=PS.imp (oD L) λE σ H M=>by
 obtain⟨Hf0,H0,Hf,ρ,o,U,q,k⟩:=M;unfold jI at q
 cases z:f ρ with
 |none=>rw[z]at q;nomatch q
 |some p=>
  rw[z]at q;cases q;exact⟨Hf0,H0,Hf,ρ,p.1,p.2,U,z,λv Hf' H' s I r=>k v σ Hf' H' I r⟩
def rE{f:Xe}(h:PS X st (lJ (tBM X.K "list" qp (eV i) (jX (tDX (Gx c X) f) kL)))):DS c X st (j9 i f):=PS.imp h λE σ H q_=>by
 obtain⟨Hf0,H0,Hf,ρ,o,so,z,k⟩:=q_;unfold j9 at z;split at z
 .rename_i xs0 U
  cases L:f ρ with
  |none=>rw[L]at z;nomatch z
  |some p=>
   rw[L,ax]at z;split at z
   .rename_i xs es;split at z
    .rename_i hl;cases z;obtain⟨l,M,h0,hf,vs0,q0,r0⟩:=so.ownAt rfl U;refine⟨_,M,.inl ⟨rfl,_,SqL.of q0⟩,Hf0,H0,Hf,ρ,p.1,p.2,so,L,λv Hf' H' s I r'=>?_⟩;obtain⟨l2,e3,h02,hf2,vs,q,r⟩:=I.ownAt rfl es;rw[M]at e3;cases e3;exact⟨l,vs,v,rfl,rfl,q,by rw[cL,<- r.length];exact hl,k σ Hf' _ s (I.mutd rfl rfl es M ⟨vs++[v],bw,r.append (.cons r' .nil)⟩)⟩
    .nomatch z
   .nomatch z
 .nomatch z
def LW:PIp X .Add (rD (Gx c X) rC):=λpins s σ H x y v u Q I M U q_=>by
 obtain⟨Hf,dx,q,d,s0,z,L,e,k⟩:=q_
 exact (by
 cases dx with
 |int i=>
  cases q with
  |int j=>
   subst z;subst L;cases e
   exact Ip pins s σ H _ _ v u Q I M U ⟨_,_,rfl,rfl,k _ Hf H (Ext.refl s0) rfl⟩
  | _=>nomatch e
 |str a=>
  cases q with
  |str b=>
   subst z;subst L;replace e:(if _ then aa _ else ab)=aa d:=e;split at e
   .rename_i hl;cases e;exact Ja pins s σ H _ _ v u Q I M U ⟨_,_,rfl,rfl,by rw[cL];exact hl,k _ Hf H (Ext.refl s0) rfl⟩
   .nomatch e
  | _=>nomatch e
 | _=>nomatch e)
def rF{pos:Pos}(i:Nat){f:Xe}(hN:X.N.Nodup)(he:DX c X e f)(hi:X.N[i]?=aa x:=by rfl)(hx:Loc X.env.scope x:=by first |exact bU rfl |exact br rfl)(hf:LcF X x:=by first |exact .inl rfl |exact .inr rfl):
  DS c X (.AugAssign (.Name x b0) .Add e pos) (lc i f):=PS.imp (Ce hN hi hx he (LW) hf) λE σ H q_=>by
 obtain⟨Hf0,H0,Hf,ρ,o,so,q,k⟩:=q_;unfold lc at q;split at q
 .rename_i d es
  cases L:f ρ with
  |none=>rw[L]at q;nomatch q
  |some p=>
   rw[L,ax]at q
   cases M:rC d p.1 with
   |none=>rw[M]at q;nomatch q
   |some z=>
    rw[M]at q;cases q;obtain⟨v,ev,w,ew,U⟩:=so.slot es;subst ew;exact⟨_,ev,Hf0,H0,Hf,ρ,p.1,p.2,so,L,λu Hf' H' s I r=>⟨Hf',d,p.1,z,I.sub,U.up s,r,M,λy a9 H2 x2 r2=>k _ a9 H2 (s.trans x2.f) ((I.step x2).setIm r2)⟩⟩
 .nomatch q
variable{as:List Stmt}
def u0{pos:Pos}{bs:List Stmt}{t:Xt}(M:DTX c X e t)(ha:DSs c X as F)(L:DSs c X bs F'):DS c X (.If e as bs pos) (l6 t F F'):=PS.imp (B7 M ha L) λE σ H U=>by
 obtain⟨Hf0,H0,Hf,ρ,o,so,q,k⟩:=U;unfold l6 at q
 cases I:t ρ with
 |none=>rw[I]at q;nomatch q
 |some x=>
  obtain⟨b,ρ1⟩:=x;rw[I,ax]at q;refine⟨Hf0,H0,Hf,ρ,b,ρ1,so,I,λal H1 s1 z=>?_⟩
  cases b with
  |true=>rw[if_pos rfl];exact⟨Hf0,H0,al,ρ1,o,z,q,k.up s1⟩
  |false=>rw[if_neg bZ];exact⟨Hf0,H0,al,ρ1,o,z,q,k.up s1⟩
abbrev mBX(f:Xe):Xt:=λρ=>(f ρ).bind λp=>match p.1 with
 |.bl b=>aa (b,p.2)
 | _=>ab
abbrev mTX(f:MF4):Xt:=λρ=>(f ρ).map λb=>(b,ρ)
abbrev l7(f g:Xt):Xt:=λρ=>(f ρ).bind λp=>if p.1 then g p.2 else aa (ag,p.2)
abbrev DWX(c:Str->Addr)(X:Cx)(e:Expr)(f:Xt):Prop:=PW X e (rB (Gx c X) f)
abbrev lh:D->D->OD
 |.str z,.int i=>if 0<=i/\i<2 ^ 63/\i<(z.length:Int) then (z.cps[i.toNat]?).map λch=>.str ⟨#[ch]⟩ else ab
 | _,_=>ab
abbrev fu(x y:D):OD:=match x with
 |.lst ds=>ixD ds y
 |.tup ds=>ixD ds y
 | _=>ab
abbrev ka(f:Xa):Xa:=λρ=>(f ρ).bind λp=>(lO p.1).map λds=>(ds,p.2)
def DT.dtx{f:MF4}(h:DT c X e f):DTX c X e (mTX f):=PT.imp h λσ H Q I=>by
 obtain⟨Hf0,H0,Hf,ρ,L,ρ',st,q,k⟩:=I;unfold mTX at q
 cases z:f ρ with
 |none=>rw[z]at q;nomatch q
 |some x=>
  rw[z]at q;cases q;exact⟨Hf0,H0,Hf,ρ,_,st,z,λHf' H' x=>k Hf' H' x.f (st.step x)⟩
def rG{pos:Pos}{m:D->D->OD}{f g:Xe}(ho:OpD c X (cW op) m)(ha:DX c X a f)(hb:DX c X b g)(hm:mP op b=ag:=by first |exact xG _ |rfl):
  DTX c X (.Compare a [op] [b] pos) (mBX (mX2 m f g)):=PT.imp (Ci ho ha hb hm) λσ H Q q_=>by
 obtain⟨Hf0,H0,Hf,ρ,bb,ρ',st,z,k⟩:=q_;unfold mBX at z
 cases M:mX2 m f g ρ with
 |none=>rw[M]at z;nomatch z
 |some q=>
  obtain⟨d,c0⟩:=q;rw[M,ax]at z;obtain⟨x,y,ρ1,e1,e2,e3⟩:=uZ M
  cases d <;> first |(cases z;done) |skip
  cases z;exact⟨Hf0,H0,Hf,ρ,x,ρ1,st,e1,λv al H1 f1 U r1=>⟨Hf0,H0,al,ρ1,y,_,U,e2,λu a9 H2 f2 I r2=>⟨a9,x,y,_,I.sub,r1.up f2,r2,e3,λw L H3 x3 r3=>⟨_,r3,k L H3 ((f1.trans f2).trans x3.f) (I.step x3)⟩⟩⟩⟩
def DWX.dtx{f:Xt}(h:DWX c X e f):DTX c X e f:=PW.pt h
def EG{pos:Pos}{f:Xt}(h:DTX c X a f):DWX c X (.BoolOp .And [a] pos) f:=B4 h
def EH{pos:Pos}{f g:Xt}{bv:LEx}(h:DTX c X a f)(h':DWX c X (.BoolOp .And (b::bv) pos) g):DWX c X (.BoolOp .And (a::b::bv) pos) (l7 f g):=PW.imp (B5 h h') λσ H Q U=>by
 obtain⟨Hf0,H0,Hf,ρ,M,ρ',st,q,k⟩:=U;unfold l7 at q
 cases I:f ρ with
 |none=>rw[I]at q;nomatch q
 |some x=>
  obtain⟨x,ρ1⟩:=x;rw[I,ax]at q;refine⟨Hf0,H0,Hf,ρ,x,ρ1,st,I,λal H1 s1 z=>?_⟩
  cases x with
  |true=>rw[if_pos rfl];exact⟨Hf0,H0,al,ρ1,M,ρ',z,q,λa9 H2 s2 L=>k a9 H2 (s1.trans s2) L⟩
  |false=>cases q;rw[if_neg bZ];exact k al H1 s1 z
def EI{x:D}(h:lh x y=aa d):∃z i ch,x=.str z/\y=.int i/\0<=i/\i<2 ^ 63/\i<(z.length:Int)/\z.cps[i.toNat]?=aa ch/\d=.str ⟨#[ch]⟩:=by
 unfold lh at h;split at h
 .rename_i z i;split at h
  .rename_i q
   cases e:z.cps[i.toNat]? with
   |none=>rw[e]at h;nomatch h
   |some ch=>rw[e]at h;cases h;exact⟨z,i,ch,rfl,rfl,q.1,q.2.1,q.2.2,e,rfl⟩
  .nomatch h
 .nomatch h
def LX{pos:Pos}{f g:MF1}(ha:DE c X a f)(hb:DE c X b g)(hs:xI b:=by exact λ_ _=>rfl):DE c X (.Subscript a b pos) (m2 lh f g):=PE.imp (Ck ha hb hs) λσ H Q q_=>two (λvx vy H Q q=>by
 obtain⟨Hf,x,y,d,s0,r1,r2,e,k⟩:=q;obtain⟨z,i,ch,rfl,rfl,I,L,M,U,rfl⟩:=EI e;exact⟨z,i,ch,r1,r2,I,L,M,U,k _ Hf H (Ext.refl s0) rfl⟩) q_
def EJ{pos:Pos}{f g:Xe}(ha:DX c X a f)(hb:DX c X b g)(hs:xI b:=by exact λ_ _=>rfl):DX c X (.Subscript a b pos) (mX2 lh f g):=PE.imp (Ck ha hb hs) λσ H Q q_=>by
 obtain⟨Hf0,H0,Hf,ρ,d,ρ',st,ef,k⟩:=q_;obtain⟨x,y,ρ1,L,M,U⟩:=uZ ef;obtain⟨z,i,ch,rfl,rfl,h0,h1,h2,h3,rfl⟩:=EI U;exact⟨Hf0,H0,Hf,ρ,_,ρ1,st,L,λv al H1 f1 q r1=>⟨Hf0,H0,al,ρ1,_,ρ',q,M,λu a9 H2 f2 I r2=>⟨z,i,ch,r1,r2,h0,h1,h2,h3,k _ a9 H2 (f1.trans f2) I rfl⟩⟩⟩
def iB{pos:Pos}{f g:Xe}(ha:DX c X a f)(hb:DX c X b g)(hs:t4 b:=by exact λ_ _=>rfl):DX c X (.Subscript a b pos) (mX2 fu f g):=PE.imp (xO (xP.or xQ) ha hb hs) λσ H Q q_=>by
 obtain⟨Hf0,H0,Hf,ρ,d,ρ',st,ef,k⟩:=q_;obtain⟨x,y,ρ1,e1,e2,I⟩:=uZ ef;refine⟨Hf0,H0,Hf,ρ,x,ρ1,st,e1,λv al H1 f1 kT L=>⟨Hf0,H0,al,ρ1,y,ρ',kT,e2,λu a9 H2 f2 z r2=>?_⟩⟩;have L:=L.up f2;unfold fu at I;split at I
 .rename_i ds
  cases y <;> first |(cases I;done) |skip
  rename_i n;cases (r2);obtain⟨l,vs,M,q,r⟩:=L;subst M;obtain⟨v,U,rv⟩:=yf I r;exact .inl ⟨l,vs,n,v,rfl,rfl,SqL.of (z.sub _ _ q),U,k v a9 H2 (f1.trans f2) z rv⟩
 .rename_i ds
  cases y <;> first |(cases I;done) |skip
  rename_i n;cases (r2);obtain⟨l,vs,M,q,r⟩:=L;subst M;obtain⟨v,U,rv⟩:=yf I r;exact .inr ⟨l,vs,n,v,rfl,rfl,SqT.of (z.sub _ _ q),U,k v a9 H2 (f1.trans f2) z rv⟩
 .nomatch I
def rH{pos:Pos}{f:Xa}(hg:Gl X "range")(hm:X.mg "range"=ab)(ha:DAX c X [a] f)(hs:aY [a] X.env=[(ag,eval a X.env)]:=by rfl):DXi c X tg (.Call (.Name "range" p) [a] [] pos) (ka f):=
 PI.imp (Cf hg hm ha.pa hs) λσ H R q_=>by
  obtain⟨Hf0,H0,Hf,ρ,ds,ρ',st,I,k⟩:=q_;unfold ka at I
  cases L:f ρ with
  |none=>rw[L]at I;nomatch I
  |some q=>
   obtain⟨as,ρ1⟩:=q;rw[L,ax]at I
   cases z:lO as with
   |none=>rw[z]at I;nomatch I
   |some ds'=>
    rw[z]at I;cases I;have hl:=ha.len ρ as _ L;refine⟨Hf0,H0,Hf,ρ,as,_,st,L,λvs Hf' H' s1 M r=>?_⟩;unfold lO at z;split at z
    .split at z
     .rename_i j U;cases z;obtain⟨v,ev,rv⟩:=r.one;cases (rv);exact⟨j,ev,U.1,U.2,k _ Hf' H' s1 M Ds⟩
     .nomatch z
    .nomatch hl
    .nomatch z
open PySem.Builtin PySem.Builtin.Str in
abbrev yO(x y:D):OD:=match x,y with
 |.str a,.int n=>if a.length=1/\0<=n/\n<=1000 then aa (.str ⟨(gz n.toNat (a.cps.getD 0 0)).toArray⟩) else ab
 | _,_=>ab
def EK(z:Str)(n:Nat)(h:z.length=1):(gz n z.cps).foldl (·++·) #[]=(gz n (z.cps.getD 0 0)).toArray:=by
 have hz:z.cps=#[z.cps.getD 0 0]:=by
  obtain⟨⟨l⟩⟩:=z
  match l,h with
  | [c],_=>rfl
 induction n with
 |zero=>rfl
 |succ n q=>
  rw[replicate_succ',mD,q,replicate_succ',hz];apply Array.toList_inj.mp;simp
def LY:OpD c X (fS .Mult) yO:=by
 rintro pins s σ H vx vy v u Q I rx ry ⟨Hf,x,y,d,s0,r1,r2,e,k⟩;unfold yO at e;split at e
 .rename_i a n;split at e
  .rename_i z;cases e;cases (r1);cases (r2);obtain⟨t,rfl⟩:=rx;obtain⟨t',rfl⟩:=ry
   have q:∀U t2,EP X pins σ Q _ {s with toks:=U}:=λU t2=>⟨.str _,H,I.tok U,⟨t2,rfl⟩,k _ Hf H (Ext.refl s0) rfl⟩
   refine P.mul_str ?_ ?_ ?_ ?_
   .rw[decide_eq_false (by lia),decide_eq_false (by lia)];rfl
   .intro L _;have:(2 ^ 63-1:Int) / n≥1:=Int.le_ediv_of_mul_le (by lia) (by lia);lia
   .intro _ _;rw[z.1];unfold BO.Str.tooLong aW;exact decide_eq_false (show ¬_ by lia)
   .by_cases L:n<1
    .rw[if_pos L];have e0:n.toNat=0:=by lia
     refine⟨by decide,?_⟩;rw[e0]at q;exact q _ _
    .rw[if_neg L]
     by_cases M:n=1
     .rw[if_pos (by simp[M])]
      have e1:(⟨(gz n.toNat (a.cps.getD 0 0)).toArray⟩:Str)=a:=by
       have:=EK a n.toNat z.1;rw[<- this,M];show(⟨#[]++a.cps⟩:Str)=a;rw[Array.empty_append]
      rw[e1]at q;exact q s.toks t
     .rw[if_neg (by simp[M,z.1]),EK a _ z.1];refine⟨?_,q _ _⟩;show(gz n.toNat _).toArray.size<=_;rw[size_toArray,mz,cL];lia
  .nomatch e
 .nomatch e
def EL{g:Str}{pos:Pos}(z:Gl X x)(hm:∃t,X.mg x=aa (.str g t))(hd:NDb x:=by decide):DE c X (.Name x pos) (λ_=>aa (.str g)):=by
 obtain⟨t,hm⟩:=hm
 exact PE.imp (B3 z hm (v:=.str g) ⟨t,rfl⟩ hd) λσ H Q I=>by
  obtain⟨Hf0,H0,Hf,ρ,d,st,q,k⟩:=I;cases q;exact k _ Hf H (Ext.refl st.sub) rfl
abbrev Its(x:Str):It:=⟨λi _=>i<x.length,λi H v H'=>H'=H/\∃ch,x.cps[i]?=aa ch/\v=.str ⟨#[ch]⟩,λi _=>x.length<=i⟩
def LZ{K:bm}(it:Addr)(x:Str)(t:Tok):jW P w K tg (Its x) [it] it (λi h=>h.IsStrIter it "str_ascii_iterator" x t i) where
 mem:=ca.mpr rfl
 obj:=λi h ⟨o,e,oc,od⟩ b hb=>by
  cases ca.mp hb;exact⟨o,e,λv z=>by rw[od]at z;nomatch z⟩
 keep:=λi h h' ⟨o,e,r⟩ k=>⟨o,k it (ca.mpr rfl) o e,r⟩
 item:=by
  intro X eP ew eK cm i pins s σ H E I hf st hg;obtain⟨f0,f1,f2,f3,f4,f5⟩:=hf it (ca.mpr rfl);have hx:=Array.getElem?_eq_getElem hg;refine wpAny_pyNext_ascii_item st hx λh' h6 sb=>?_
  have I1:Inv X pins σ H {s with heap:=h',toks:=s.toks+1}:=I.turned (λb o hb e=>(sb.2 b hb).trans e) f0 f1 f3 f4 f5
  obtain⟨o,e,oc,od⟩:=id h6;exact⟨_,rfl,qe e oc od (by decide) ⟨.str ⟨#[x.cps[i]]⟩,H,I1,⟨_,rfl⟩,⟨rfl,_,hx,rfl⟩,h6,λb hb=>(hf b hb).1⟩⟩
 done:=by
  intro X eP ew eK cm i pins s σ H E I hf st hg;obtain⟨f0,f1,f2,f3,f4,f5⟩:=hf it (ca.mpr rfl);exact wpAny_pyNext_ascii_end (I.ok.hd cm) st (wW hg) λh' eb=>⟨rfl,I.turned (λb o hb e=>eb b o hb e) f0 f1 f3 f4 f5⟩
 self:=λ_ _ _ _ _ st h=>wpAny_pyIter_striter_ascii st h
abbrev o0(f:MF1)(ρ:LS):OLD:=(f ρ).bind λd=>match d with
 |.str x=>if x.cps.all (· < 128)=ac then aa (x.cps.toList.map λch=>.str ⟨#[ch]⟩) else ab
 | _=>ab
def L0:nu G Hf (Its x) (x.cps.toList.map λch=>D.str ⟨#[ch]⟩):=λHf' H' f s i=>by
 refine⟨λd q=>?_,λz=>?_⟩
 .rw[eM]at q
  cases e:x.cps.toList[i]? with
  |none=>rw[e]at q;nomatch q
  |some ch=>
   rw[e]at q;cases q;have hi:i<x.cps.size:=by simpa using (eD.mp e).1
   refine⟨hi,λv H2 ⟨L,U,I,M⟩=>?_⟩;subst L M;rw[<- wX,e]at I;cases I;exact⟨Hf',Ext.refl s,rfl⟩
 .rw[au,pP]at z;exact Nat.le_of_eq z.symm
def L1{l:Expr}{M:TE}(hl:PE X l M):PI X tg l (λσ H R=>M σ H λx H1=>∃z,x=.str z/\z.cps.all (· < 128)=ac/\R (Its z) H1):=by
 intro pins s σ H R I h;refine thn (hl pins s σ H _ I h) λv s1 q_=>?_;obtain⟨x,H1,L,r1,z,U,as,q⟩:=q_;subst U;obtain⟨t,rfl⟩:=r1;refine wpAny_pyIter_ascii as ?_;refine⟨s1.heap.objs.size,_,_,_,H1,rfl,L.kept λb o e=>bV _ e,LZ _ z t,⟨_,dS _ rfl,rfl,rfl⟩,λb hb=>?_,q⟩;cases ca.mp hb;exact L.fpOk Nat.le.refl (L.hok.fresh Nat.le.refl)
def L3{f:MF1}(h:DE c X e f):DI c X tg e (o0 f):=PI.imp (L1 h) λσ H R I=>by
 obtain⟨Hf0,H0,Hf,ρ,ds,st,q,k⟩:=I;unfold o0 at q
 cases z:f ρ with
 |none=>rw[z]at q;nomatch q
 |some d=>
  rw[z,ax]at q
  cases d <;> first |(cases q;done) |skip
  rename_i x;replace q:(if x.cps.all (· < 128)=ac then aa _ else ab)=aa ds:=q;split at q
  .rename_i as;cases q;exact⟨Hf0,H0,Hf,ρ,_,st,z,λv al H1 M L=>⟨x,L,as,k _ al H1 M L0⟩⟩
  .nomatch q
abbrev inS(y x:Str):Bool:=!(BO.Str.occurrences x y 0 x.length 1).isEmpty
abbrev o4(y x:D):OD:=match y,x with
 |.str y,.str x=>aa (.bl (inS y x))
 | _,_=>ab
def L4:∀x y d,o4 x y=aa d->d.scalar=ac:=λx y d e=>by
 unfold o4 at e;split at e
 .cases e;rfl
 .nomatch e
def L5:OpD c X (cW .In) o4:=by
 rintro pins s σ H vx vy v u Q I L M ⟨Hf,x,y,d,U,q,z,e,k⟩;unfold o4 at e;split at e
 .rename_i y x;cases e;cases (q);cases (z);obtain⟨t,rfl⟩:=L;obtain⟨t',rfl⟩:=M;exact PyProof.Rows.in_str ⟨.bl _,H,I,rfl,k _ Hf H (Ext.refl U) rfl⟩
 .nomatch e
abbrev L6:V->Option Int->Option Int->Hp->VK->Prop:=λx lo hi H Q=>∃z,x=.str z/\z.length<=aW/\Q (.str (ic z lo hi)) H
def L7:SlR X L6:=by
 rintro pins s σ H x v vl vu lo hi sl Q I rx hs pl pu ⟨z,rfl,hz,q⟩;obtain⟨t,rfl⟩:=rx;refine⟨"str",_,F.slot_str_getitem.lookup,typeIs_str _ _ _,?_⟩
 have L:∀t' k,EP X pins σ Q _ {s with toks:=k}:=λt' k=>⟨.str _,H,I.tok k,⟨t',rfl⟩,q⟩
 obtain⟨o,U,M,hd⟩:=hs
 cases pl with
 |none=>
  cases pu with
  |none=>exact sZ (l:=ab) (u:=ab) (st:=ab) ⟨o,U,M,hd⟩ rfl (tm ⟨cV (tM z _ _) hz,L⟩)
  |int i ti=>exact sZ (l:=ab) (u:=aa (i,ti)) (st:=ab) ⟨o,U,M,hd⟩ rfl (tm ⟨cV (tM z _ _) hz,L⟩)
 |int j tj=>
  cases pu with
  |none=>exact sZ (l:=aa (j,tj)) (u:=ab) (st:=ab) ⟨o,U,M,hd⟩ rfl (tm ⟨cV (tM z _ _) hz,L⟩)
  |int i ti=>exact sZ (l:=aa (j,tj)) (u:=aa (i,ti)) (st:=ab) ⟨o,U,M,hd⟩ rfl (tm ⟨cV (tM z _ _) hz,L⟩)
abbrev u4(d:D)(lo hi:Option Int):OD:=match d with
 |.str z=>if z.length<=16777216 then aa (.str (ic z lo hi)) else ab
 | _=>ab
def L8{r:D}(h:u4 d lo hi=aa r):∃z,d=.str z/\z.length<=aW/\r=.str (ic z lo hi):=by
 unfold u4 at h;split at h
 .split at h
  .rename_i hz;cases h;exact⟨_,rfl,by rw[cL];exact hz,rfl⟩
  .nomatch h
 .nomatch h
abbrev o5(f:MF1)(l h:LS->Option (Option Int))(ρ:LS):OD:=(f ρ).bind λd=>(l ρ).bind λlo=>(h ρ).bind λhi=>u4 d lo hi
def EM{pos:Pos}{f:MF1}{l h:LS->Option (Option Int)}{lo hi:Option Expr}(ha:DE c X e f)(hl:DPt c X lo l)(hh:DPt c X hi h):DE c X (.Subscript e (.Slice lo hi ab p2) pos) (o5 f l h):=
 PE.imp (xN L7 ha hl hh) λσ H Q q_=>by
  obtain⟨Hf0,H0,Hf,ρ,r,st,q,k⟩:=q_;unfold o5 at q
  cases L:f ρ with
  |none=>rw[L]at q;nomatch q
  |some d=>
   rw[L,ax]at q
   cases M:l ρ with
   |none=>rw[M]at q;nomatch q
   |some lo'=>
    rw[M,ax]at q
    cases U:h ρ with
    |none=>rw[U]at q;nomatch q
    |some hi'=>
     rw[U,ax]at q;obtain⟨z,rfl,hz,rfl⟩:=L8 q;exact⟨Hf0,H0,Hf,ρ,_,st,L,λv al H1 x1 r1=>⟨Hf0,H0,al,ρ,lo',st.step x1,M,λa9 H2 x2=>⟨Hf0,H0,a9,ρ,hi',(st.step x1).step x2,U,λI H3 x3=>⟨z,r1,hz,k _ I H3 ((x1.trans x2).trans x3) rfl⟩⟩⟩⟩
def rJ:DS c X st (λ_=>ab):=λpins s σ H E I z=>by
 obtain⟨Hf0,H0,Hf,ρ,o,L,q,k⟩:=z
 nomatch q
def u5:entryFor table "dict.update.loop"=aa c9.«dict.update.loop»:=entryFor_of_tree (by kernel_rfl)
def l8:plainId "dict.update.loop"=ac:=by decide +kernel
def L9:lH (.type "list") "keys"=pure ab:=by rw[mO,mM];kernel_rfl
abbrev Ma(P:dn)(w:World)(h:Heap)(D it:Addr)(items:Array Value)(ps:List (Key×Value)):Prop:=items.size=ps.length/\∀(i:Nat) (p:Key×Value),ps[i]?=aa p->∃t key,items[i]?=aa (.ref t)/\t≠D/\t≠it/\h.IsTuple t #[key,p.2]/\(cX P w).is p.1 key=ac
def Mb(hh:A.handled=ab)(D it l:Addr)(items:Array Value)(ps:List (Key×Value))(U:D≠it)(hDl:D≠l)(hil:it≠l)(nd:(ps.map (·.1)).Nodup)(hz:ps.length<=1000):
  ∀(n i:Nat) (s:aI),i+n=ps.length->Ma prog w s.heap D it items ps->s.heap.IsList l items->s.heap.IsListIter it l i->s.heap.DictOf (cX prog w) D (ps.take i) ->
   (∀h' tk,h'.DictOf (cX prog w) D ps->(∀b o,b≠D->b≠it->s.heap.get? b=aa o->h'.get? b=aa o)->R (.ok (.ret .none)) {s with heap:=h',toks:=tk}) ->
   gS (model prog w) A (.builtin "dict.update.loop" ⟨[.ref D,.ref it,.int i 0,.none],[]⟩) R s:=by
 intro n
 induction n with
 |zero=>
  intro i s hi pa hl ms hd k;refine lF u5 ?_;rw[tz l8];unfold c9.«dict.update.loop»;dsimp only;have hx:items[i]?=ab:=wW (by rw[pa.1];lia);refine av (xb (A:=A.in1) hh ms hl hx λh' eb=>?_);dsimp only;refine av (bc (bc ?_));have e:ps.take i=ps:=jk (by lia);rw[e]at hd;obtain⟨od,es,ep,ho,r⟩:=hd
  exact k h' s.toks ⟨od,es,ep,eb D od U ho,r⟩ λb o _ hb I=>eb b o hb I
 |succ n ih=>
  intro i s hi pa hl ms hd k;refine lF u5 ?_;rw[tz l8];unfold c9.«dict.update.loop»;dsimp only;obtain⟨p,hp⟩:∃p,ps[i]?=aa p:=⟨_,cR (by lia)⟩;obtain⟨t,key,e1,tD,tit,ht,hk⟩:=pa.2 i p hp;refine av (xa ms hl e1 λh1 mu sb1=>?_);dsimp only
  have ht1:h1.IsTuple t #[key,p.2]:=by
   obtain⟨o,I,r⟩:=ht;exact⟨o,(sb1.2 t tit).trans I,r⟩
  have hd1:h1.DictOf (cX prog w) D (ps.take i):=by
   obtain⟨od,es,ep,ho,r⟩:=hd;exact⟨od,es,ep,(sb1.2 D U).trans ho,r⟩
  refine av (fh (av (wpAny_tryCatch ?_)));unfold BQ
  refine av (lG (s:={s with heap:=h1}) ht1.typeIs ?_)
  rw[if_pos (by decide)];obtain⟨o,I,oc,nn,od⟩:=id ht1;refine av (ow I od ?_);refine bc ?_;show wpAny _ _ (hZ [key,p.2] (dictSet D key p.2)) _ _ _;refine fh (wpAny_dictSet_pairs (kvs:=ps.take i) hk hd1 (λh2 d2 sb2=>?_) (by rw[hJ,cL];lia))
  have M:ps=ps.take i++p::ps.drop (i+1):=by
   have h0:i<ps.length:=by lia
   have:ps[i]=p:=by rw[cR h0]at hp;exact cz hp
   rw[<- this,<- sM h0,pU]
  have hst:iO (ps.take i) p.1 p.2=ps.take (i+1):=by
   unfold iO
   have hno:((ps.take i).any λkv=>decide (kv.1=p.1))=ag:=by
    rw[any_eq_false];intro kv hkv hc;rw[M,bp,cS]at nd;have:=(eG.mp nd).2.2 kv.1 (cq.mpr ⟨kv,hkv,rfl⟩) p.1 bK;exact this (of_decide_eq_true hc)
   rw[if_neg (by rw[hno];exact bZ),take_add_one,hp];rfl
  rw[hst]at d2;have ke:∀b o,b≠D->b≠it->s.heap.get? b=aa o->h2.get? b=aa o:=λb o hb L I=>(sb2.2 b hb).trans ((sb1.2 b L).trans I);refine bc ⟨ox l8 _,?_⟩
  refine ih (i+1) {s with heap:=h2,toks:=s.toks+1} (by lia) ⟨pa.1,λj q hq=>?_⟩ ?_ ?_ d2 λh' tk hd' kp=>k h' tk hd' λb o hb L I=>kp b o hb L (ke b o hb L I)
  .obtain⟨t',key',f1,f2,f3,⟨o',z,r'⟩,f5⟩:=pa.2 j q hq;exact⟨t',key',f1,f2,f3,⟨o',ke t' o' f2 f3 z,r'⟩,f5⟩
  .obtain⟨o',z,r'⟩:=hl;exact⟨o',ke l o' (ce hDl) (ce hil) z,r'⟩
  .obtain⟨o',z,r'⟩:=mu;exact⟨o',(sb2.2 it (ce U)).trans z,r'⟩
variable{items:Array Value}
def Mc{Q:Option Value->aI->Prop}(hh:A.handled=ab)(hl:PlainL s.heap l items)
 (h:∀h' tk,(∀b o,s.heap.get? b=aa o->h'.get? b=aa o)->Q ab {s with heap:=h',toks:=tk}):wpAny (model prog w) A (getAttr? (.ref l) "keys") Q E s:=by
 obtain⟨⟨c,dct,dat,sl⟩,k,hx,U,hd,q⟩:=hl;simp only at U q hd;subst U q hd;obtain⟨hq,gq,dq,tq,oq⟩:=s;have M:∀I,(⟨hq,gq,dq,I,oq⟩:aI).TypeIs (.ref l) "list":=λ_=>⟨_,hx,rfl⟩;have f1:=sub_AttributeError;have f3:=xm.lookup;have f4:=xm.bind (.ref l);have L:=am_list_getattr_none;unfold getAttr?;unfold getAttrBy?;unfold getAttrBy
 repeat (any_goals (first |assumption |exact M _ |((with_reducible show wpAny _ _ (call (Value.builtin "list.__getattribute__") _ _) _ _ _);refine call_meets xm (M _) am_entry_list_getattribute (PySem.F.args_list_getattribute_2 _ _) (meets_getattribute_miss_list l items k sl "keys" _ L9 (by decide)) ⟨hx,hh,λh' I e z=>?_⟩) |wp_step))
 obtain⟨ta,ua,hea⟩:=z.there
 show wpAny _ _ (s9 _ _ _ _ _ _ _) _ _ _;unfold s9;repeat any_goals (first |assumption |wp_step)
 exact h _ _ z.keeps
def Md{ps:List (Key×Value)}{Q:PRS}(hh:A.handled=ab)(hl:PlainL s.heap l items)
 (nd:(ps.map (·.1)).Nodup)(hz:ps.length<=1000)(pa:items.size=ps.length/\∀(i:Nat) (p:Key×Value),ps[i]?=aa p->∃t key,items[i]?=aa (.ref t)/\s.heap.IsTuple t #[key,p.2]/\(cX prog w).is p.1 key=ac)
 (h:∀h' tk,h'.DictOf (cX prog w) s.heap.objs.size ps->(∀b o,s.heap.get? b=aa o->h'.get? b=aa o)->Q (.ref s.heap.objs.size) {s with heap:=h',toks:=tk}):
  wpAny (model prog w) A (call (.type "dict") [.ref l]) Q E s:=by
 refine callType_codes (Q₁:=λobj I=>obj=.ref s.heap.objs.size/\I={s with heap:=s.heap.push {cls:=.type "dict",data:=.dict #[]}}) PySem.F.kt_called_dict (BW _) PySem.F.entry_dict_init (kt_code_dict_new _ ⟨rfl,rfl⟩) ?_
 rintro obj I ⟨rfl,rfl⟩;have q:(s.heap.push {cls:=.type "dict",data:=.dict #[]}).DictOf (cX prog w) s.heap.objs.size []:=xu s.heap;have L:PlainL (s.heap.push {cls:=.type "dict",data:=.dict #[]}) l items:=hl.keeps λb o e=>bV _ e;refine⟨q.typeIs,PySem.F.args_dict_init_2 _ _,?_⟩;unfold c9.«dict.__init__»;refine av ?_;unfold BP;refine av (xc q.typeIs ?_);show wpAny _ _ (pure (s.heap.objs.size,[iR l])) _ _ _;refine bc ?_;show wpAny _ _ (tB "dict.__init__" s.heap.objs.size (.ref l) [] .none) _ _ _;unfold tB;refine av (lG L.isList.typeIs ?_);rw[if_pos (by decide)];refine av (Mc hh L λM tk2 k2=>?_);simp only[Option.isNone_none,if_true];refine av (mS ?_);have U:PlainL M l items:=L.keeps k2
 refine av (om (s:={s with heap:=M,toks:=tk2}) U.isList ?_)
 have up:∀b o,s.heap.get? b=aa o->M.get? b=aa o:=λb o e=>k2 b o (bV _ e);have z:∀{b:Addr} {o:Obj},s.heap.get? b=aa o->b≠s.heap.objs.size/\b≠M.objs.size:=λ{b o} e=>⟨cy (bD e),cy (bD (up b o e))⟩
 have hD:s.heap.objs.size≠M.objs.size:=by
  obtain⟨od,es,ep,ho,r⟩:=q;exact cy (bD (k2 _ _ ho))
 obtain⟨ol,nl,el,rl⟩:=id hl;refine bc ⟨ox l8 _,?_⟩;refine Mb (A:=A.in1) hh s.heap.objs.size M.objs.size l items ps hD (ce (z el).1) (ce (z el).2) nd hz ps.length 0 _ (sY _) ⟨pa.1,λi p hp=>?_⟩ ?_ ?_ ?_ λh' tk hd kp=>?_
 .obtain⟨t,key,e1,⟨ot,et,rt⟩,hk⟩:=pa.2 i p hp;exact⟨t,key,e1,(z et).1,(z et).2,⟨ot,bV _ (up _ _ et),rt⟩,hk⟩
 .exact(U.keeps λb o e=>bV _ e).isList
 .exact⟨_,dS _ rfl,rfl,rfl⟩
 .obtain⟨od,es,ep,ho,r⟩:=q;exact⟨od,es,ep,bV _ (k2 _ _ ho),r⟩
 .exact⟨rfl,h h' tk hd λb o e=>kp b o (z e).1 (z e).2 (bV _ (up b o e))⟩
abbrev iC(K:bm)(H:Hp):List V->List Key->List V->Prop
 | [],[],[]=>True
 |v::vs,k::ks,u::us=>(∃t,v=.ref t/\SqT K H t [kV k,u])/\iC K H vs ks us
 | _,_,_=>False
def iC.len{K:bm}{H:Hp}:∀{vs:List V} {ks:List Key} {us:List V},iC K H vs ks us->vs.length=ks.length/\us.length=ks.length
 | [],[],[],_=>⟨rfl,rfl⟩
 | _::_,_::_,_::_,h=>by
  obtain⟨a,b⟩:=iC.len h.2
  exact⟨by rw[bT,bT,a],by rw[bT,bT,b]⟩
 | [],[],_::_,h=>h.elim
 | [],_::_,_,h=>h.elim
 | _::_,[],_,h=>h.elim
 | _::_,_::_,[],h=>h.elim
def Me{K:bm}{a:Addr}{xs:List V}(s:aH H H')(h:SqT K H a xs):SqT K H' a xs:=by
 rcases h with h |h
 .refine .inl ?_
  rcases h with h |⟨od,h⟩
  .exact .inl (s _ _ h)
  .exact .inr ⟨od,s _ _ h⟩
 .exact .inr h
def iC.up{K:bm}{H H':Hp}(s:aH H H'):∀{vs:List V} {ks:List Key} {us:List V},iC K H vs ks us->iC K H' vs ks us
 | [],[],[],_=>trivial
 | _::_,_::_,_::_,⟨⟨t,e,q⟩,h⟩=>⟨⟨t,e,Me s q⟩,iC.up s h⟩
 | [],[],_::_,h=>h.elim
 | [],_::_,_,h=>h.elim
 | _::_,[],_,h=>h.elim
 | _::_,_::_,[],h=>h.elim
def iC.at{X:Cx}{pins:PNS}{σ:St}{H:Hp}{s:aI}(I:Inv X pins σ H s):∀{vs:List V} {ks:List Key} {us:List V} {ws:LVa},iC X.K H vs ks us->aX vs ws ->
  ∃ps:List (Key×Value),ps.map (·.1)=ks/\KV (ks.zip us) ps/\ws.length=ps.length/\∀(i:Nat) (p:Key×Value),ps[i]?=aa p->∃t key,ws[i]?=aa (.ref t)/\s.heap.IsTuple t #[key,p.2]/\(cX X.prog X.w).is p.1 key=ac
 | [],[],[],ws,_,r=>by
  cases r
  exact⟨[],rfl,.nil,rfl,λi p h=>by simp at h⟩
 |v::vs,k::ks,u::us,ws,h,r=>by
  cases r with
  |cons r1 rr=>
   rename_i w1 wr;obtain⟨⟨t,rfl,sq⟩,U⟩:=h;obtain⟨ps,p1,p2,p3,p4⟩:=iC.at I U rr;obtain⟨its,rv,tp,_⟩:=I.tuple sq;obtain⟨key,val,rfl,M,q⟩:=rv.two;cases (show w1=iR t from r1);refine⟨(k,val)::ps,by rw[cS,p1],.cons ⟨rfl,q⟩ p2,by rw[bT,bT,p3],λi p L=>?_⟩
   cases i with
   |zero=>
    cases L;refine⟨t,key,rfl,tp,?_⟩
    cases k with
    |inl i=>obtain⟨z,rfl⟩:=M;exact BY _ _ i z
    |inr x=>obtain⟨z,rfl⟩:=M;exact BZ _ _ x z
   |succ i=>exact p4 i p L
 | [],[],_::_,_,h,_=>h.elim
 | [],_::_,_,_,h,_=>h.elim
 | _::_,[],_,_,h,_=>h.elim
 | _::_,_::_,[],_,h,_=>h.elim
def Mf(L:X.calm=ac):ga X (.type "dict") (λxs H Q=>∃a vs ks us,xs=[.ref a]/\SqL X.K H a vs/\iC X.K H vs ks us/\ks.Nodup/\ks.length<=1000/\∀p,H p=ab->Q (.ref p) (upd H p (.dK (ks.zip us)))):=by
 rintro pins s σ H xs ws Q I r ⟨a,vs,ks,us,rfl,sq,pv,nd,hl,q⟩;obtain⟨_,rfl,r1⟩:=ju r;cases r1;obtain⟨its,rv,pl,hz⟩:=I.list sq;obtain⟨ps,z,p2,p3,p4⟩:=pv.at I rv;have M:ps.length=ks.length:=by rw[<- z,au]
 refine Md (I.ok.hd L) pl (by rw[z];exact nd) (by lia) ⟨by rw[size_toArray];exact p3,λi p U=>by obtain⟨t,key,e,r⟩:=p4 i p U;exact⟨t,key,by rw[sK];exact e,r⟩⟩ λh' tk hd kp=>?_;refine⟨.ref _,_,I.laid (t':=tk) kp (aU _) (o:=.dK (ks.zip us)) ⟨?_,?_,ps,p2,hd⟩,rfl,q _ I.fresh⟩
 .rw[jQ,cL];lia
 .exact beq_eq_false_iff_ne.mpr (ce (cy I.big))
def yP:gR "dict"=aa (.type "dict"):=by decide +kernel
abbrev li:LD->Option (List Key×LD)
 | []=>aa ([],[])
 |.tup [x,y]::ds=>(i3 x).bind λk=>(li ds).map λr=>(k::r.1,y::r.2)
 | _=>ab
def EN{G:Gc}{H:Hp}:∀{ds:LD} {vs:List V} {r:List Key×LD},li ds=aa r->aB G H ds vs->∃us,iC G.K H vs r.1 us/\aB G H r.2 us
 | [],vs,r,e,rs=>by
  cases e;cases (show vs=[]from rs)
  exact⟨[],trivial,rfl⟩
 |d::ds,vs,r,e,rs=>by
  obtain⟨v,vr,rfl,rv,rr⟩:=rs;unfold li at e;split at e
  .rename_i h;cases h
  .rename_i x y U h;cases h
   cases z:i3 x with
   |none=>rw[z]at e;cases e
   |some k=>
    rw[z,ax]at e
    cases I:li ds with
    |none=>rw[I]at e;cases e
    |some q=>
     rw[I]at e;cases e;obtain⟨us,h1,h2⟩:=EN I rr;obtain⟨t,ws,rfl,M,L⟩:=rv;obtain⟨a,_,rfl,ra,b,_,rfl,rb,rn⟩:=L;cases (show _=[]from rn);rw[oP z ra]at M;exact⟨b::us,⟨⟨t,rfl,SqT.of M⟩,h1⟩,.cons rb h2⟩
  .cases e
abbrev u6(i:Nat)(f:MF1)(ρ:LS):Option Fl:=(f ρ).bind λd=>(lsD d).bind λds=>(li ds).bind λr=>if r.1.Nodup/\r.1.length<=1000 then aa (.nx (ρ.set i (.ownd r.1 r.2))) else ab
def Mg{pos:Pos}(i:Nat){f:MF1}(hc:X.calm=ac)(hN:X.N.Nodup)(hg:Gl X "dict")(hm:X.mg "dict"=ab)(he:DE c X e f)(hi:X.N[i]?=aa x:=by rfl)(hx:Loc X.env.scope x:=by first |exact bU rfl |exact br rfl)(M:aY [e] X.env=(ag,eval e X.env)::aY [] X.env:=by rfl)
 (hs:fR (.Call (.Name "dict" p) [e] [] pos) (aa (.Name x b0)) eA.line X.env=pure ag:=by rfl)(hf:LcF X x:=by first |exact .inl rfl |exact .inr rfl):
  DS c X (.Assign [.Name x b0] (.Call (.Name "dict" p) [e] [] pos) eA) (u6 i f):=PS.imp (lK hN hi hx (tZ (Mf hc) hg hm yP (bW he cs M) (by decide) (by decide) M rfl) hs hf) λE σ H q_=>by
 obtain⟨Hf0,H0,Hf,ρ,o,so,z,k⟩:=q_;unfold u6 at z
 cases e1:f ρ with
 |none=>rw[e1]at z;cases z
 |some d=>
  rw[e1,ax]at z
  cases e2:lsD d with
  |none=>rw[e2]at z;cases z
  |some ds=>
   rw[e2,ax]at z
   cases e3:li ds with
   |none=>rw[e3]at z;cases z
   |some r=>
    rw[e3,ax]at z;split at z
    .rename_i I;cases z;refine⟨Hf0,H0,Hf,ρ,d,so,e1,λv Hf' H' U rv=>?_⟩;obtain⟨a,vs,rfl,sq,rs⟩:=gH e2 rv;obtain⟨us,pv,ru⟩:=EN e3 rs;refine⟨a,vs,r.1,us,rfl,U.s.seq sq,pv.up U.s,I.1,I.2,λq hq=>?_⟩;have L:=so.step U;exact k _ Hf' _ U.f (L.setOwn (i:=i) (l:=q) (s:=.ownd r.1 r.2) rfl (Ext.grow L.sub (cu hq)) hq (L.sub.free hq) ⟨us,bw,pv.len.2.symm,ru⟩)
    .cases z
abbrev yQ:LD->OD
 | [.int i,.int j]=>if 0<j/\j<1073741824 then aa (.tup [.int (i / j),.int (i % j)]) else ab
 | _=>ab
def Mh:gR "divmod"=aa (.builtin "divmod"):=by decide +kernel
def Mi{fa:MF2}{p pos:Pos}(hg:Gl X "divmod")(hm:X.mg "divmod"=ab)(ha:DA c X [a,b] fa)(he:aY [a,b] X.env=(ag,eval a X.env)::aY [b] X.env:=by rfl)(I:(fT pos (aY [b] X.env)).any (·.1)=ag:=by rfl):
  DE c X (.Call (.Name "divmod" p) [a,b] [] pos) (aJ yQ fa):=PE.imp (qk Jb hg hm Mh ha.pa (by decide) (by decide) he I) λσ H Q q_=>by
 obtain⟨Hf0,H0,Hf,ρ,d,st,M,k⟩:=q_;obtain⟨ds,L,z⟩:=uv M;refine⟨Hf0,H0,Hf,ρ,ds,st,L,λvs Hf' H' x r=>?_⟩;unfold yQ at z;split at z
 .rename_i i j;split at z
  .rename_i U;cases z;obtain⟨v1,_,rfl,r1,v2,_,rfl,r2,rn⟩:=r;cases (show _=[]from rn);cases (show v1=V.int i from r1);cases (show v2=V.int j from r2);exact⟨i,j,rfl,U,λq hq=>k _ (upd Hf' q (.tup _)) _ (x.trans (Ext.new x.s hq)) ⟨q,_,rfl,bw,.cons rfl (.cons rfl .nil)⟩⟩
  .cases z
 .cases z
variable{t:Nat}
def EO{s:Sl}(z:js[t]?=aa j)(q:ρ[j]?=aa s):(cU k js ρ)[k+t]?=aa s:=by
 unfold cU;rw[jO (by rw[mz];exact mJ _ _),mz,w6,eM,z];show aa ((ρ[j]?).getD .no)=_;rw[q];rfl
variable{jp:Nat}
def aC.compP(k:Nat)(h:aC G Hf0 H0 Hf H σ ρ)(hj:js.Nodup)(I:ρ[jp]?=aa (.pin l xs))(hc:∀j∈js,j=jp\/((ρ[j]?).getD .no).calm=ac):
  aC G Hf (e8 H l) Hf H (gU k js σ) (cU k js ρ):=by
 obtain⟨l',el,h0,hf,M,us,hu,rx⟩:=h.ownAt rfl I;subst M;have st:=h.comp k hj;refine st.re (Ext.grow (yF h.sub hf) Ee) rfl (λi v s a b=>?_) λi s v a b c d=>⟨s,b,d⟩;have q:=st.at' i v s a b
 rcases kU b with⟨_,e⟩ |⟨_,b⟩
 .subst e;trivial
 .obtain⟨j,ej,es⟩:=nv b
  rcases hc j (sO ej)with e |e
  .subst e;rw[I]at es;subst es;obtain⟨l2,L,_,z,U,w⟩:=q;subst U;exact⟨_,L,uP,z,rfl,w⟩
  .rw[<- es]at e
   cases s with
   |no=>trivial
   |im d=>exact q
   | _=>nomatch e
section
variable(k:Nat)(js:LN)(jp t:Nat)(g:D->LS->Option LS)(fe:Xe)(ρ:LS)(l:Addr)
open Classical in
abbrev lj(d:D)(xs:LD):Option (D×LD):=(g d (cU k js (ρ.set jp (.pin l xs)))).bind λρ1=>(fe ρ1).bind λq=>match q.2[k+t]? with
 |some (.pin _ df)=>if ∀i,k<=i->q.2[i]?=(cU k js (ρ.set jp (.pin l df)))[i]? then aa (q.1,df) else ab
 | _=>ab
abbrev gL:LD->LD->Option (LD×LD)
 | [],xs=>aa ([],xs)
 |d::ds,xs=>(lj k js jp t g fe ρ l d xs).bind λy=>(gL ds y.2).map λr=>(y.1::r.1,r.2)
end
abbrev kc(k:Nat)(js:LN)(jp t:Nat)(fi:Xa)(g:D->LS->Option LS)(fe:Xe):Xe:=λρ=>(fi ρ).bind λp=>match p.2[jp]? with
 |some (.pin l xs)=>if p.1.length<=16777216/\js[t]?=aa jp/\(js.all λj=>j==jp || ((p.2[j]?).getD .no).calm)=ac then (gL k js jp t g fe p.2 l p.1 xs).map λq=>(.lst q.1,p.2.set jp (.pin l q.2)) else ab
 | _=>ab
variable{g:D->LS->Option LS}{fe:Xe}{df:LD}
def Mj(h:lj k js jp t g fe ρ l d xs=aa (y,df)):∃ρ1 z,g d (cU k js (ρ.set jp (.pin l xs)))=aa ρ1/\fe ρ1=aa (y,z)/\(∃L,z[k+t]?=aa (.pin L df))/\∀i,k<=i->z[i]?=(cU k js (ρ.set jp (.pin l df)))[i]?:=by
 unfold lj at h
 cases M:g d _ with
 |none=>rw[M]at h;nomatch h
 |some ρ1=>
  rw[M,ax]at h
  cases I:fe ρ1 with
  |none=>rw[I]at h;nomatch h
  |some q=>
   rw[I,ax]at h;split at h
   .rename_i L zs U;split at h
    .rename_i hi;cases h;exact⟨ρ1,q.2,rfl,I,⟨L,U⟩,hi⟩
    .nomatch h
   .nomatch h
def Mk(h:gL k js jp t g fe ρ l (d::ds) xs=aa (rs,ys)):∃y df r,lj k js jp t g fe ρ l d xs=aa (y,df)/\gL k js jp t g fe ρ l ds df=aa (r,ys)/\rs=y::r:=by
 unfold gL at h
 cases z:lj k js jp t g fe ρ l d xs with
 |none=>rw[z]at h;nomatch h
 |some y=>
  rw[z,ax]at h
  cases q:gL k js jp t g fe ρ l ds y.2 with
  |none=>rw[q]at h;nomatch h
  |some r=>rw[q]at h;cases h;exact⟨y.1,y.2,r.1,rfl,q,rfl⟩
def u7{s:Sl}(h:ρ[jp]?=aa s):(ρ.set jp s')[jp]?=aa s':=ji (eD.mp h).1
variable{fi:Xa}
def EQ(hj:js.Nodup)(hk:∀d ρ ρ' i,g d ρ=aa ρ'->k<=i->ρ'[i]?=ρ[i]?)(eR:∀d ρ ρ',g d ρ=aa ρ'->ρ'.length=ρ.length){Q:VK}(h:tDX G (kc k js jp t fi g fe) σ H Q):
  m8 k js (uQ G fi) (tDG G g) (tDT G λ_=>aa ac) (tDX G fe) σ H Q:=by
 obtain⟨Hf0,H0,Hf,ρ0,d0,ρ',st,I,kq⟩:=h;unfold kc at I
 cases e1:fi ρ0 with
 |none=>rw[e1]at I;nomatch I
 |some p=>
  obtain⟨ds,ρ⟩:=p;rw[e1,ax]at I;dsimp only at I;split at I
  .rename_i l xs ep;split at I
   .rename_i hz;obtain⟨hz,ht,hcm⟩:=hz
    cases e2:gL k js jp t g fe ρ l ds xs with
    |none=>rw[e2]at I;nomatch I
    |some q=>
     obtain⟨rs,zs⟩:=q;rw[e2]at I;cases I;refine⟨Hf0,H0,Hf,ρ0,ds,ρ,st,e1,λJ al H1 f1 kT it=>?_⟩
     have hcm':=λj U=>by
      have:=all_eq_true.mp hcm j U;rw[kz]at this;exact this.imp beq_iff_eq.mp id
     have M:ρ.set jp (.pin l xs)=ρ:=by
      apply lA;intro i
      by_cases hi:jp=i
      .subst hi;rw[u7 ep,ep]
      .rw[fZ hi]
     have st0:aC G al (e8 H1 l) al H1 (gU k js σ) (cU k js (ρ.set jp (.pin l xs))):=by rw[M];exact kT.compP k hj ep hcm'
     obtain⟨l9,el9,_,hf9,e9,_⟩:=kT.ownAt rfl ep;subst e9
     refine⟨λi m ys σ' H'=>m=ds.length-i/\i<=ds.length/\∃Hf' as df bv,aC G al _ Hf' H' σ' (cU k js (ρ.set jp (.pin l9 df)))/\aB G Hf' as ys/\gL k js jp t g fe ρ l9 (ds.drop i) df=aa (bv,zs)/\rs=as++bv/\as.length<=i,
      ⟨ds.length,rfl,gD _,al,[],xs,rs,st0,rfl,e2,rfl,aU _⟩,?_⟩
     rintro i m ys σ' H' ⟨rfl,hi,Hf',as,df,bv,z,ra,ec,er,hal⟩;have q5:ys.length<=aW:=by rw[cL,<- ra.length];lia
     obtain⟨mu,ri⟩:=it Hf' H' z.ext.f z.sub i
     by_cases eZ:i<ds.length
     .obtain⟨d,ed,ir⟩:=lQ eZ;obtain⟨go,yl⟩:=mu d ed
      refine .inr ⟨go,q5,λou fx H2=>ds.length-_=ds.length-_/\i+1<=ds.length/\∃Hf' as df bv,aC G al _ Hf' H2 fx _/\aB G Hf' as ou/\gL k js jp t g fe ρ l9 _ df=aa _/\rs=as++bv/\as.length<=i+1,
       λou fx H2 w=>⟨ds.length-(i+1),by lia,w⟩,λx H2 y=>?_⟩
      obtain⟨a9,x3,rx⟩:=yl x H2 y;rw[ir]at ec;obtain⟨y',xs2,r',et,ec',L⟩:=Mk ec;obtain⟨ρ1,c0,eg,ee,⟨l',ex⟩,hag⟩:=Mj et;refine⟨al,e8 H1 l9,a9,_,d,ρ1,z.step x3,rx,eg,λh8 n9=>⟨al,e8 H1 l9,a9,ρ1,ac,n9,rfl,λHf4 H4 x4=>CI ⟨al,e8 H1 l9,Hf4,ρ1,y',c0,n9.step x4,ee,λv Hf5 H5 f5 t3 r5=>?_⟩⟩⟩
      have hO:(cU k js (ρ.set jp (.pin l9 xs2))).length=c0.length:=by
       rw[<- t3.len,n9.len,eR _ _ _ eg];unfold cU;rw[aM,aM,au,au]
      refine⟨rfl,eZ,Hf5,as++[y'],xs2,r',t3.weak hO λj s hs=>?_,(ra.up ((x3.f.trans x4.f).trans f5)).append (.cons r5 .nil),ec',by rw[er,L,eU];rfl,by rw[aM,dR];lia⟩
      rcases kU hs with⟨_,e⟩ |⟨U,_⟩
      .exact .inl e
      .exact .inr (by rw[hag j U];exact hs)
     .have ei:i=ds.length:=by lia
      subst ei;refine .inl ⟨ri rfl,q5,λD h1 h2=>?_⟩;rw[my (aU _)]at ec;cases ec;rw[cx]at er;subst er;obtain⟨l3,el3,h03,hf3,e3,us3,hu3,rx3⟩:=z.ownAt rfl (EO ht (u7 ep));subst e3;have xn:=Ext.new (o:=.lst ys) z.sub h2;exact kq _ _ _ (f1.trans (z.ext.f.trans xn.f)) ((kT.back (s':=.pin l3 zs) rfl rfl ep el9 z.ext hf3 ⟨rfl,us3,hu3,rx3⟩).step xn) ⟨D,ys,rfl,bw,ra.up xn.f⟩
   .nomatch I
  .nomatch I
def Ml{pos:Pos}(k:Nat)(js:LN)(jp t:Nat)(Nc:LSt)(I:X.calm=ac)(hi:DXi c X tg iter fi)(q:∀cl C ex a0 bq,DG c (X.comp scope Nc cl C ex a0 bq) tg k g)
 (L:∀cl C ex a0 bq,DX c (X.comp scope Nc cl C ex a0 bq) d8 fe)(z:jv scope X.env.scope.names X.N Nc k js=ac:=by rfl)(U:∀x,hV iter X.env x=pure x:=by intro _;rfl)(M:js.Nodup:=by decide):
  DX c X (.ListComp d8 [⟨tg,iter,[],0⟩] scope pos) (kc k js jp t fi g fe):=
 PE.imp (xY (tt:=tDT (Gx c X) λ_=>aa ac) (te:=tDX (Gx c X) fe) k js Nc I hi (λcl C ex a0 bq=>(q cl C ex a0 bq).pg) (λcl C ex a0 bq=>dY) L z U) λσ H Q h=>
  EQ M (q [] 0 [] X.s₀ X.H₀).keep (q [] 0 [] X.s₀ X.H₀).len h
abbrev u8:LD->OD
 | [.int a]=>aa (.int (if a<0 then -a else a))
 | _=>ab
abbrev iD:LD->Option LSt
 | []=>aa []
 |.str x::ds=>(iD ds).map (x::·)
 | _=>ab
def yR:∀{ds:LD} {q:LSt},iD ds=aa q->ds=q.map D.str
 | [],q,h=>by cases h;rfl
 |d::ds,q,h=>by
  cases d with
  |str x=>
   have h:(iD ds).map _=aa q:=h
   cases e:iD ds with
   |none=>rw[e]at h;cases h
   |some ys=>rw[e]at h;cases h;rw[yR e];rfl
  | _=>cases h
def ER:∀q:LSt,iD (q.map D.str)=aa q
 | []=>rfl
 |z::q=>by
  show(iD _).map _=_;rw[ER q];rfl
abbrev u9(x y:D):OD:=match x with
 |.str a=>(lsD y).bind λds=>(iD ds).bind λq=>if PySem.JoinOk a q=ac then aa (.str (xw a q)) else ab
 | _=>ab
def ES{G:Gc}{H:Hp}:∀(q:LSt) (vs:List V),aB G H (q.map D.str) vs->vs=q.map V.str
 | [],_,h=>h
 |z::q,_,⟨v,r,e,h1,h2⟩=>by rw[e,ES q r h2,show v=V.str z from h1];rfl
def yS{pos:Pos}{f:Xa}{id:String}(hc:nt c X (.builtin id) m)(hg:Gl X x)(hm:X.mg x=ab)(hv:gR x=aa (.builtin id))(ha:DAX c X (e::es) f)(hn:x ≠ "__name__":=by decide)(hdb:NDb x:=by decide)
 (he:StE X e es:=by rfl)(hY:BkE X pos es:=by rfl):
  DX c X (.Call (.Name x p) (e::es) [] pos) (l5 m f):=PE.imp (qk hc hg hm hv ha.pa hn hdb he hY) λσ H Q q_=>by
 obtain⟨Hf0,H0,Hf,ρ,d,ρ',st,I,kq⟩:=q_;unfold l5 at I
 cases M:f ρ with
 |none=>rw[M]at I;nomatch I
 |some q=>
  obtain⟨ds,ρ1⟩:=q;rw[M,ax]at I
  cases U:m ds with
  |none=>rw[U]at I;nomatch I
  |some z=>
   rw[U]at I;cases I;exact⟨Hf0,H0,Hf,ρ,ds,_,st,M,λvs Hf' H' f1 L r=>⟨Hf',ds,_,L.sub,r,U,λv a9 H2 x2 r2=>kq v a9 H2 (f1.trans x2.f) (L.step x2) r2⟩⟩
def Mm:nt c X (.builtin "abs") u8:=by
 rintro pins s σ H vs us Q I U ⟨Hf,ds,d,s0,r,e,k⟩;unfold u8 at e;split at e
 .rename_i a;cases e;obtain⟨v1,np,rfl,q,z⟩:=r;cases (z);cases (q)
  cases U with
  |cons L M=>
   cases M;obtain⟨t,rfl⟩:=L;exact call_abs_int λu tk=>⟨.int _,H,I.tok tk,⟨u,rfl⟩,k _ Hf H (Ext.refl s0) rfl⟩
 .nomatch e
abbrev ET(K:bm):V->List V->Hp->VK->Prop:=λx vs H Q=>∃a l q,x=.str a/\vs=[.ref l]/\SqL K H l (q.map V.str)/\PySem.JoinOk a q=ac/\Q (.str (xw a q)) H
def EU:∀(q:LSt) (its:LVa),aX (q.map V.str) its->∃l:List (Str×Tok),its=strValues l/\l.map (·.1)=q
 | [],_,r=>by cases r;exact⟨[],rfl,rfl⟩
 |z::q,_,r=>by
  cases r with
  |cons a b=>
   obtain⟨t,rfl⟩:=a;obtain⟨l,I,L⟩:=EU q _ b;exact⟨(z,t)::l,by rw[I];rfl,by rw[cS,L]⟩
def Mn:MtR X "str.join" (ET X.K):=by
 rintro pins s σ H x xs v us Q I rx rv ⟨a,l,zs,rfl,rfl,M,L,q⟩;obtain⟨t,rfl⟩:=rx;obtain⟨u,rfl,ru⟩:=rv.one;subst ru;obtain⟨its,U,pl,_⟩:=I.list M;obtain⟨ls,rfl,z⟩:=EU zs its U;exact SC.join pl.isList z L λt' k=>⟨.str _,H,I.tok k,⟨t',rfl⟩,q⟩
def Mp{f g:MF1}(h:PE X e (tBM X.K "str" (ET X.K) (tD (Gx c X) f) (jX (tD (Gx c X) g) kL))):DE c X e (m2 u9 f g):=PE.imp h λσ H Q q_=>by
 obtain⟨Hf0,H0,Hf,ρ,d,st,ef,k⟩:=q_;obtain⟨x,y,e1,e2,z⟩:=ug ef;unfold u9 at z;split at z
 .rename_i a
  cases I:lsD y with
  |none=>rw[I]at z;nomatch z
  |some ds=>
   rw[I,ax]at z
   cases L:iD ds with
   |none=>rw[L]at z;nomatch z
   |some zs=>
    rw[L,ax]at z;split at z
    .rename_i hj;cases z;refine⟨Hf0,H0,Hf,ρ,_,st,e1,λv al H1 M r1=>?_⟩;cases (r1);refine⟨rfl,Hf0,H0,al,ρ,_,st.step M,e2,λu a9 H2 U r2=>?_⟩;obtain⟨l,vs,el,q,rs⟩:=gH I r2;rw[yR L]at rs;rw[ES zs vs rs]at q;exact⟨a,l,zs,rfl,by rw[el],U.s.seq q,hj,k _ a9 H2 (M.trans U) rfl⟩
    .nomatch z
 .nomatch z
abbrev yT:D->Option Str
 |.str z=>if z.length<=16777216 then aa z else ab
 |.int i=>if i.natAbs.log2<1920 then aa (ToString.toString i) else ab
 | _=>ab
abbrev jJ(out:Str)(q:LSt):Str:=q.foldl (·++·) out
def yU:∀(q:LSt) (out:Str),out.length<=(jJ out q).length
 | [],_=>aU _
 |z::q,out=>by
  have:=yU q (out++z);rw[Str.length_append]at this;show out.length<=(jJ (out++z) q).length;lia
abbrev DFs(c:Str->Addr)(X:Cx)(es:LEx)(f:LS->Option LSt):Prop:=∀(pins:PNS) (s:aI) (σ:St) (H:Hp) (Q:VK) (out:Str),Inv X pins σ H s ->
 (∃Hf0 H0 Hf ρ q,aC (Gx c X) Hf0 H0 Hf H σ ρ/\f ρ=aa q/\(jJ out q).length<=16777216/\∀Hf' H',Ext Hf H Hf' H'->Q (.str (jJ out q)) H')->wpAny (model X.prog X.w) X.A (joinParts out (evalEach es X.env)) (EP X pins σ Q) X.xe s
abbrev mFc(x:Str)(g:LS->Option LSt)(ρ:LS):Option LSt:=(g ρ).map (x::·)
abbrev mFv(f:MF1)(g:LS->Option LSt)(ρ:LS):Option LSt:=(f ρ).bind λd=>(yT d).bind λz=>(g ρ).map (z::·)
abbrev mFs(f:LS->Option LSt)(ρ:LS):OD:=(f ρ).bind λq=>if (jJ oz q).length<=16777216 then aa (.str (jJ oz q)) else ab
def Mq:DFs c X [] nZ:=λpins s σ H Q out I z=>by
 obtain⟨Hf0,H0,Hf,ρ,L,st,q,hz,k⟩:=z
 exact (by
 cases q;exact joinParts_nil ⟨.str out,H,I.tok _,⟨_,rfl⟩,k Hf H (Ext.refl st.sub)⟩ (by rw[cL];exact hz))
variable{g:LS->Option LSt}
def EV{pos:Pos}(M:DFs c X es g):DFs c X (.Constant (.str x) j pos::es) (mFc x g):=λpins s σ H Q out I U=>by
 obtain⟨Hf0,H0,Hf,ρ,zs,st,q,hz,k⟩:=U
 exact (by
 unfold mFc at q
 cases z:g ρ with
 |none=>rw[z]at q;nomatch q
 |some ys=>
  rw[z]at q;cases q;have h1:=yU ys (out++x);have L:(jJ (out++x) ys).length<=16777216:=hz;exact joinParts_cons (Calls.Constant_str ⟨by rw[cL];lia,(M pins _ σ H Q _ (I.tok _) ⟨Hf0,H0,Hf,ρ,ys,st,z,L,k⟩)⟩))
variable{Q:PRS}
def Mr{z:Str}{u:Value}(e:yT d=aa z)(r:Rep G Hf d v)(L:aR v u)(k:∀t U,Q (.str z t) {s with toks:=U}):wpAny (model prog w) A (formatField u oz) Q E s:=by
 cases d with
 |str y=>
  replace e:(if y.length<=16777216 then aa y else ab)=aa z:=e;split at e
  .rename_i M;have I:=cz e;subst I;subst r;obtain⟨t,q⟩:=L;subst q;exact formatField_str k (by rw[cL];exact M)
  .nomatch e
 |int n=>
  replace e:(if n.natAbs.log2<1920 then aa _ else ab)=aa z:=e;split at e
  .rename_i hn;have I:=cz e;subst I;subst r;obtain⟨t,q⟩:=L;subst q;exact formatField_int_small hn (k _ _)
  .nomatch e
 | _=>nomatch e
def EW{pos:Pos}{f:MF1}(he:DE c X e f)(hr:DFs c X es g):DFs c X (.FormattedValue e (-1) ab pos::es) (mFv f g):=λpins s σ H Q out I q_=>by
 obtain⟨Hf0,H0,Hf,ρ,zs,st,q,hz,k⟩:=q_
 exact (by
 unfold mFv at q
 cases L:f ρ with
 |none=>rw[L]at q;nomatch q
 |some d=>
  rw[L,ax]at q
  cases M:yT d with
  |none=>rw[M]at q;nomatch q
  |some z=>
   rw[M,ax]at q
   cases U:g ρ with
   |none=>rw[U]at q;nomatch q
   |some ys=>
    rw[U]at q;cases q;have h1:=yU ys (out++z);have h2:(jJ (out++z) ys).length<=16777216:=hz;have h3:(out++z).length<=aW:=by rw[cL];lia
    refine joinParts_cons (FormattedValue_plain ?_);exact thn (he pins s σ H (λv H'=>∃Hf',Ext Hf H Hf' H'/\Rep _ Hf' d v) I ⟨Hf0,H0,Hf,ρ,d,st,L,λv Hf' H' x r=>⟨Hf',x,r⟩⟩) λu s1 ⟨v,H1,I1,r1,al,x1,rd⟩=>(Mr M rd r1 λt tk=>⟨h3,hr pins _ σ H1 Q _ (I1.tok tk) ⟨Hf0,H0,al,ρ,ys,st.step x1,U,h2,λHf' H' x=>k Hf' H' (x1.trans x)⟩⟩))
def Ms{pos:Pos}{f:LS->Option LSt}(h:DFs c X (a::b::es) f):DE c X (.JoinedStr (a::b::es) pos) (mFs f):=λpins s σ H Q I L=>by
 obtain⟨Hf0,H0,Hf,ρ,d,st,q,k⟩:=L
 exact (by
 unfold mFs at q
 cases z:f ρ with
 |none=>rw[z]at q;nomatch q
 |some M=>
  rw[z,ax]at q;split at q
  .rename_i hz;cases q;exact JoinedStr_many (h pins s σ H Q oz I ⟨Hf0,H0,Hf,ρ,M,st,z,hz,λHf' H' x=>k _ Hf' H' x rfl⟩)
  .nomatch q)
def va{pos:Pos}(i:Nat){g:Xa}(I:DAX c (X.comp scope Nc cl C ex a0 bq) es g)(U:Nc[i]?=aa x:=by rfl)(hv:Vis scope x:=by first |exact bU rfl |exact br (bU rfl) |exact br (br rfl))(hd:NDb x:=by decide)
 (q:NCd x:=by decide)(hs:aY (.Name x pos::es) (X.comp scope Nc cl C ex a0 bq).env=(ag,eval (.Name x pos) (X.comp scope Nc cl C ex a0 bq).env)::aY es (X.comp scope Nc cl C ex a0 bq).env:=by rfl):DMX c (X.comp scope Nc cl C ex a0 bq) (.Name x pos::es) i g:=
 ⟨PA.imp (bW (pvc i U hv hd q) I.pa hs) λσ H Q ⟨Hf0,H0,Hf,ρ,ds,ρ',l,st,M,L,k⟩=>⟨_,M,Hf0,H0,Hf,ρ,ds,ρ',st,L,λvs Hf' H' f1 z r=>k vs Hf' H' f1 z r⟩,λρ ds ρ' h=>by
  rw[bT,I.len ρ ds ρ' h]⟩
def Mt{I:Model}{q:eI}{z:PRS}{st:aI}{x y:Value}{T id:String}(L:st.TypeIs x T)(U:st.TypeIs y T)(sl:Slot T (dunderI "add") id)(M:isSeqSlot (aa (.builtin id))=ac)
 (nf:fillsNumberSlot (.type T) "add"=pure ag)(go:wpAny I q (call (.builtin id) [x,y]) Q z st):wpAny I q (inplaceOp .Add x y) Q z st:=by
 have no:fillsInplaceSlot (.type T) "add" ac=pure ag:=by
  simp only[fillsInplaceSlot,sl.lookup,pure_bind,M];rfl
 apply fh;exact av (lG L (av (wpAny_of_eq no ((av (wpAny_binaryOp1_none L U nf (av (wpAny_of_eq (PySem.seqSlot_of sl.lookup M) (av (mS go)))))):wpAny I q _ Q z st))))
abbrev Mu:TIp:=λx y H Q=>∃l b xs q,x=.ref l/\y=.ref b/\H l=aa (.lst xs)/\H b=aa (.lst q)/\xs.length+q.length<=aW/\Q (.ref l) (upd H l (.lst (xs++q)))
def Mv:PIp X .Add Mu:=by
 rintro pins s σ H _ _ v u Q I rx ry ⟨l,b,xs,zs,rfl,rfl,M,U,hz,q⟩;subst rx;subst ry;obtain⟨_,its,n,r,hl,e⟩:=I.lstM M;obtain⟨_,z,n2,r2,hO,L⟩:=I.lstM U;have hsz:its.toArray.size+z.toArray.size<=aW:=by simp only[size_toArray];lia
 refine Mt ⟨_,e,rfl⟩ ⟨_,L,rfl⟩ F.slot_list_iadd (by decide +kernel) noFill_list_add (call_meets F.slot_list_iadd ⟨_,e,rfl⟩ F.entry_list_iadd (F.args_list_iadd_2 _ _)
  (AutoSeq1.list___iadd___list_list_0 l its.toArray n b z.toArray n2 (by rw[CC hsz];simp) (by simp only[size_toArray];lia) (by lia)) ⟨e,L,.ref l,_,I.lset M e (by simp) (r.append r2) (by rw[aM];lia),rfl,q⟩)
abbrev o6(i:Nat)(f:Xe)(ρ:LS):Option Fl:=match ρ[i]? with
 |some (.own _)=>(f ρ).bind λp=>match p.2[i]?,p.1 with
  |some (.own xs),.lst ys=>if xs.length+ys.length<=16777216 then aa (.nx (p.2.set i (.own (xs++ys)))) else ab
  | _,_=>ab
 | _=>ab
def EX{pos:Pos}(i:Nat){f:Xe}(hN:X.N.Nodup)(he:DX c X e f)(hi:X.N[i]?=aa x:=by rfl)(hx:Loc X.env.scope x:=by first |exact bU rfl |exact br rfl)(hf:LcF X x:=by first |exact .inl rfl |exact .inr rfl):
  DS c X (.AugAssign (.Name x b0) .Add e pos) (o6 i f):=PS.imp (Ce hN hi hx he Mv hf) λE σ H q_=>by
 obtain⟨Hf0,H0,Hf,ρ,o,so,z,k⟩:=q_;unfold o6 at z;split at z
 .rename_i xs0 es0
  cases M:f ρ with
  |none=>rw[M]at z;nomatch z
  |some p=>
   rw[M,ax]at z;split at z
   .rename_i xs ys es ed;split at z
    .rename_i hl;cases z;obtain⟨l,L,h0,hf,vs0,q0,r0⟩:=so.ownAt rfl es0;obtain⟨d,ρ1⟩:=p;subst ed;refine⟨_,L,Hf0,H0,Hf,ρ,_,ρ1,so,M,λv Hf' H' s I r'=>?_⟩;obtain⟨l2,e3,h02,hf2,vs,q,r⟩:=I.ownAt rfl es;rw[L]at e3;cases e3;obtain⟨b,zs,rfl,hb,rz⟩:=r';refine⟨l,b,vs,zs,rfl,rfl,q,I.sub _ _ hb,by rw[cL,<- r.length,<- rz.length];exact hl,?_⟩
     have U:σ.set i (aa (.ref l))=σ:=by
      apply lA;intro j
      by_cases hj:j=i
      .subst hj;rw[ji ((eD.mp L).1),L]
      .rw[fZ (ce hj)]
     show E.nx _ _;rw[U];exact k σ Hf' _ s (I.mutd rfl rfl es L ⟨vs++zs,bw,r.append rz⟩)
    .nomatch z
   .nomatch z
 .nomatch z
variable{g:D->LS->Option LS}
def Mw{pos:Pos}(i:Nat)(k:Nat)(js:LN)(jp t:Nat)(Nc:LSt)(hN:X.N.Nodup)(hc:X.calm=ac)(hi:DXi c X tg iter fi)(I:∀cl C ex a0 bq,DG c (X.comp scope Nc cl C ex a0 bq) tg k g)
 (he:∀cl C ex a0 bq,DX c (X.comp scope Nc cl C ex a0 bq) d8 fe)(L:X.N[i]?=aa x:=by rfl)(hx:Loc X.env.scope x:=by first |exact bU rfl |exact br rfl)
 (M:fR (.ListComp d8 [⟨tg,iter,[],0⟩] scope pos) (aa (.Name x b0)) eA.line X.env=pure ac:=by rfl)(ck:jv scope X.env.scope.names X.N Nc k js=ac:=by rfl)(hs:∀x,hV iter X.env x=pure x:=by intro _;rfl)
 (hf:LcF X x:=by first |exact .inl rfl |exact .inr rfl)(hj:js.Nodup:=by decide):
  DS c X (.Assign [.Name x b0] (.ListComp d8 [⟨tg,iter,[],0⟩] scope pos) eA) (dC i (kc k js jp t fi g fe)):=
 PS.imp (uc (tt:=tDT (Gx c X) λ_=>aa ac) (te:=tDX (Gx c X) fe) k js Nc hN L hx hc hi (λcl C ex a0 bq=>(I cl C ex a0 bq).pg) (λcl C ex a0 bq=>dY) he M ck hs hf) λE σ H q_=>by
  obtain⟨Hf0,H0,Hf,ρ,o,so,q,kk⟩:=q_;unfold dC at q
  cases z:kc k js jp t fi g fe ρ with
  |none=>rw[z]at q;nomatch q
  |some p=>
   rw[z]at q;cases q;exact EQ hj (I [] 0 [] X.s₀ X.H₀).keep (I [] 0 [] X.s₀ X.H₀).len ⟨Hf0,H0,Hf,ρ,p.1,p.2,so,z,λv Hf' H' s U r=>kk _ Hf' H' s (U.setIm r)⟩
set_option maxRecDepth 100000
abbrev ln(σ:LSt)(x:Str):LSt:=if σ.any (·==x) then σ else σ++[x]
abbrev fc(val:Nat->Str):Nat->LSt
 | 0=>[]
 |i+1=>ln (fc val i) (val i)
def vb(val:Nat->Str):∀i,(fc val i).length<=i
 | 0=>aU _
 |i+1=>by
  have q:=vb val i;show(ln (fc val i) (val i)).length<=_;unfold ln;split
  .omega
  .rw[aM,dR];lia
def EY(σ:LSt)(v k:Str):(ln σ v).any (·==k)=(σ.any (·==k) || decide (k=v)):=by
 unfold ln;rw[jh];split
 .rename_i h;rw[kz,decide_eq_true_eq];exact⟨.inl,λz=>z.elim id λe=>e▸h⟩
 .rw[any_append,kz,kz,decide_eq_true_eq,iK,any_nil,Bool.or_false,beq_iff_eq];exact or_congr_right eq_comm
def EZ(σ:LSt)(v:Str):(ln σ v).length=if σ.any (·==v) then σ.length else σ.length+1:=by
 unfold ln
 split <;> simp
def Mx{h:Heap}{a:Addr}{S z:Str->Bool}{I:Nat}(q:h.SetOf (strKind P w) a S n)(e:∀k,S k=z k)(L:n=I):h.SetOf (strKind P w) a z I:=by
 obtain rfl:=funext e;subst L;exact q
variable{I:Addr}{wr:LAd}{G:Array GenState->Array GenState->Prop}{Pv:Nat->Value->Prop}
def My{St:Nat->aI->Prop}(W:WalksS P w A.in1 I fp wr G n Pv St)(S:Addr)(hS:S∉fp)(val:Nat->Str)(hv:∀i v,Pv i v->∃t,v=.str (val i) t)(hb:n+1<scanBound):
  ∀(k i:Nat) (s:aI),n-i=k->i<=n->St i s->s.heap.SetOf (strKind P w) S (λj=>(fc val i).any (·==j)) (fc val i).length ->
   (∀s',Moved (S::wr) G s s'->s'.heap.SetOf (strKind P w) S (λj=>(fc val n).any (·==j)) (fc val n).length->R (.ok (.ret .none)) s') ->
   gS (model P w) A (.builtin "set.update.loop" ⟨[.ref S,.ref I],[]⟩) R s:=by
 have hw:=λh=>hS (W.sub _ h);have sub:∀b∈wr,b∈S::wr:=λb h=>cB _ h;have stay:∀{s s':aI} {Z:Str->Bool} {m:Nat},Moved wr G s s'->s.heap.SetOf (strKind P w) S Z m->s'.heap.SetOf (strKind P w) S Z m:=λm ⟨o,es,ep,t,ho,r⟩=>⟨o,es,ep,t,m.heap S o hw ho,r⟩;intro k
 induction k with
 |zero=>
  intro i s hk hi st q z;obtain rfl:i=n:=by lia
  refine lF F.entry_set_update_loop ?_
  exact av (W.done s _ _ st λs' m=>(bc (z s' (m.mono sub) (stay m q))))
 |succ k ih=>
  intro i s hk hi st q z;have lt:i<n:=by lia
  refine lF F.entry_set_update_loop ?_;refine av (W.item i s _ _ lt st λv s' hP U m=>?_);obtain⟨t,rfl⟩:=hv i v hP;have is:(strKind P w).is (val i) (.str (val i) t)=ac:=PySem.W.isStrOf_self (val i) t;refine av (fh ?_);refine fh (av ((strKind P w).pyHash is ?_));have M:(fc val i).length+1<scanBound:=by have:=vb val i;lia
  have q1:=stay m q
  refine wpAny_setAddHashed_of (knd:=strKind P w) (s:={s' with toks:=s'.toks+1}) is rfl q1 M λh' sb q2=>?_
  have q3:h'.SetOf (strKind P w) S (λj=>(fc val (i+1)).any (·==j)) (fc val (i+1)).length:=Mx q2 (λj=>(EY _ _ _).symm) (EZ _ _).symm;refine bc ⟨ox F.plain_set_update_loop _,ih _ _ (by lia) lt (W.frame _ s' _ _ U (Nat.le_succ _) λb L o e=>?_) q3 λs2 m2 q4=>?_⟩
  .rw[sb.2 b λh=>hS (by rw[<- h];exact L)];exact e
  .refine z s2 (Moved.trans W.gtrans ((m.mono sub).then_heap (Nat.le_succ _) λb o L e=>?_) m2) q4;rw[sb.2 b λh=>L (by rw[h];exact bK)];exact e
abbrev yV(vs:LVa)(xs:LSt):Prop:=vs.length=xs.length/\∀(i:Nat) (v:Value),vs[i]?=aa v->∃t,v=.str (xs.getD i "") t
@[reducible]noncomputable def kf(q:Bool):Obj:={cls:=.type "set",dict:=ab,data:=.set #[] 0 (.fresh 0 0 q)}
def Mz(h:Heap)(q:Bool):(h.push (kf q)).SetOf (strKind P w) h.objs.size (λ_=>ag) 0:=
 ⟨_,#[],0,_,dS _ rfl,⟨rfl,rfl,rfl⟩,rfl,λe z=>by simp at z,λk=>by simp,by decide,rfl,rfl⟩
set_option maxHeartbeats 8000000 in
def MA{xs:LSt}(hh:A.handled=ab)(hl:s.heap.IsList l items)(hi:yV items.toList xs)(hb:items.size+1<scanBound)
 (h:∀ (h':Heap) (tk:Nat),h'.SetOf (strKind P w) s.heap.objs.size (λj=>(fc (λi=>xs.getD i "") items.size).any (·==j)) (fc (λi=>xs.getD i "") items.size).length ->
   (∀b o,b<s.heap.objs.size->s.heap.get? b=aa o->h'.get? b=aa o)->Q (.ref s.heap.objs.size) {s with heap:=h',toks:=tk}):
  wpAny (model P w) A (call (.type "set") [.ref l]) Q E s:=by
 obtain⟨c,tl,hmro⟩:=lI.mro;have hmade:=lI.made;have hsub:=lI.sub;refine wpAny_call (codeAny_of_tree (bc ⟨Code.quiet_builtin _ (by decide +kernel),lF F.entry_type_call ?_⟩));rw[eI.under_plain (weight_type_call_type "set" [.ref l] []) rfl];have h1:=lI.notType;have h2:=lI.canCreate;have hct:=F.typeCall_set_1 (.ref l)
 repeat (any_goals (first |assumption |wp_step))
 refine mQ (code_set_new_1 (.ref l) (E:=E) (Q₁:=λob L=>∃q,ob=.ref s.heap.objs.size/\L={s with heap:=s.heap.push (kf q)}) λq=>⟨q,rfl,rfl⟩) λr L hr=>?_
 cases r with
 |error e=>exact hr
 |ok fl=>
  cases fl with
  |ret ob=>
   obtain⟨q,rfl,rfl⟩:=hr;have g0:(s.heap.push (kf q)).get? s.heap.objs.size=aa (kf q):=dS _ rfl
   have hT:aI.TypeIs {s with heap:=s.heap.push (kf q)} (.ref s.heap.objs.size) "set":=⟨_,g0,rfl⟩
   have hli:=lI.init.lookup;have hbi:=lI.init.bind (.ref s.heap.objs.size)
   repeat (any_goals (first |assumption |wp_step))
   refine mQ (xf (R:=wants (λr a0=>r=.none/\∃ h' tk,a0={ s with heap:=h',toks:=tk } /\
     h'.SetOf (strKind P w) s.heap.objs.size (λj=>(fc (λi=>xs.getD i "") items.size).any (·==j)) (fc (λi=>xs.getD i "") items.size).length /\
     (∀b o,b<s.heap.objs.size->s.heap.get? b=aa o->h'.get? b=aa o)) E) lI.init.plain F.entry_set_init (check_set_init_1 hT ?_)) λr₂ a0 z=>?_
   .obtain⟨⟨oc,od,odt,os⟩,hol,hcl,nl,hdl⟩:=hl;simp only at hcl hdl;subst hcl hdl;have hol':(s.heap.push (kf q)).get? l=aa {cls:=.type "list",dict:=od,data:=.seq items nl,slots:=os}:=bV _ hol;have k1:=F.sub_list_set;have k2:=F.sub_list_frozenset;have k3:(jr "list" == jr "dict")=ag:=by decide
    have pA:(s.heap.push (kf q)).IsList l items:=⟨_,hol',rfl,nl,rfl⟩;unfold c9.«set.__init__» noKeywords c9.Frozenset.updateFrom;generalize hPI:pyIter=PI
    wp_walk
    subst hPI;refine om pA (av (wpAny_runValue ?_));have lt:l<s.heap.objs.size:=bD hol;have hh3:A.in1.in1.in1.handled=ab:=by simp[hh]
    have ne1:l≠(s.heap.push (kf q)).objs.size:=by rw[tJ];exact cy (Nat.lt_succ_of_lt lt)
    have nin:s.heap.objs.size∉[(s.heap.push (kf q)).objs.size,l]:=by
     rw[tJ];simp only[b8,b6,or_false,not_or];exact⟨cy (Nat.lt_succ_self _),lD lt⟩
    have hv:∀(i:Nat) (v:Value),items[i]?=aa v->∃t,v=.str ((λi=>xs.getD i "") i) t:=λi v hv=>hi.2 i v (by rw[wX];exact hv);refine My ((Walks.list hh3 _ l ne1 items).toS) s.heap.objs.size nin (λi=>xs.getD i "") hv hb (items.size-0) 0 _ (by lia) (gD _) ⟨⟨_,dS _ rfl,rfl,rfl⟩,(pA.push _)⟩ ?hS0 ?hR
    case hS0=>
     obtain⟨o,es,ep,t,ho,r⟩:=Mz (P:=P) (w:=w) s.heap q;exact⟨o,es,ep,t,bV _ ho,r⟩
    case hR=>
     intro s' hm hS';obtain⟨h',g',d',tk',os'⟩:=s';have eg:g'=s.gens:=hm.gens;have ed:d'=s.drawn:=hm.drawn;have eo:os'=s.os:=hm.os;subst eg ed eo;show wpAny _ _ _ _ _ _;refine bc ?_;show wpAny _ _ (ret oA) _ _ _;refine bc ⟨rfl,h',tk',rfl,hS',λb o U e=>?_⟩;have n2:b≠(s.heap.push (kf q)).objs.size:=by rw[tJ];exact cy (Nat.lt_succ_of_lt U)
     refine hm.heap b o ?_ (bV _ (bV _ e));simp only[b8,b6,or_false,not_or];exact⟨cy U,n2⟩
   .cases r₂ with
    |error e=>exact z
    |ok M=>
     cases M with
     |ret r=>
      obtain⟨rfl,h',tk,rfl,q',kk⟩:=z
      repeat (any_goals (first |assumption |wp_step))
      exact h _ _ q' kk
     | _=>exact z.elim
  | _=>exact hr.elim
abbrev iE(xs:LSt):Nat:=(fc (λi=>xs.getD i "") xs.length).length
def E1:∀{xs:LSt} {vs:LVa},aX (xs.map V.str) vs->yV vs xs
 | [],_,.nil=>⟨rfl,λi v h=>by simp at h⟩
 |x::xs,_,.cons r h=>by
  obtain⟨q,z⟩:=E1 h;refine⟨by simp[q],λi v e=>?_⟩
  cases i with
  |zero=>
   obtain⟨t,rfl⟩:=r;cases e
   exact⟨t,rfl⟩
  |succ i=>exact z i v e
abbrev MB(K:bm)(te:TE):TE:=λσ H Q=>te σ H λx H1=>∃l xs,x=.ref l/\SqL K H1 l (xs.map V.str)/\xs.length<4000/\Q (.int (iE xs:Nat)) H1
variable{hI:Pos}
def MC{pos:Pos}(hc:X.calm=ac)(M:Gl X "len")(hms:X.mg "len"=ab)(U:Gl X "set")(hmt:X.mg "set"=ab)(he:PE X e te)
 (h1:aY [.Call (.Name "set" p2) [e] [] hI] X.env=(ag,eval (.Call (.Name "set" p2) [e] [] hI) X.env)::aY [] X.env:=by rfl)(h2:aY [e] X.env=(ag,eval e X.env)::aY [] X.env:=by rfl)
 (hY:(fT pos (aY [] X.env)).any (·.1)=ag:=by rfl)(z:(fT hI (aY [] X.env)).any (·.1)=ag:=by rfl):
  PE X (.Call (.Name "len" p) [.Call (.Name "set" p2) [e] [] hI] [] pos) (MB X.K te):=by
 intro pins s σ H Q I h;refine mN (iU I M hms cA ?_);refine BN ?_ h1 hY;rw[h1];refine mT (mN (iU I U hmt boot_set ?_));refine kE ?_ h2 z;rw[h2];refine mT (thn (he pins s σ H _ I h) λu s1 q_=>?_);obtain⟨x,H1,L,r1,l,xs,rfl,hq,hb,q⟩:=q_;cases r1;refine bc ?_;obtain⟨its,rr,pl,hz⟩:=L.list hq;have ii:yV its xs:=E1 rr;have zz:its.toArray.size=xs.length:=by rw[size_toArray,ii.1]
 refine MA (items:=its.toArray) (xs:=xs) (L.ok.hd hc) pl.isList (by simpa using ii) (by rw[zz];unfold scanBound;lia) λh' tk qs keep=>?_;rw[zz]at qs;refine bc ?_;obtain⟨o,ents,ep,tb,ho,hex,hd,_,_,hsb,hf,hn⟩:=qs
 refine call_len_set (s:={s1 with heap:=h',toks:=tk}) ho hex hd hf (by unfold scanBound at hsb;lia) ?_
 refine⟨.int (iE xs:Nat),H1,L.kept λb u g=>keep b u (bD g) g,?_,q⟩;rw[hn];exact⟨_,rfl⟩
def E2:∀(xs:LSt),iD (xs.map D.str)=aa xs
 | []=>rfl
 |x::xs=>by show(iD _).map _=_;rw[E2 xs];rfl
def E3{G:Gc}{H:Hp}:∀{xs:LSt} {vs:List V},aB G H (xs.map D.str) vs->vs=xs.map V.str
 | [],_,r=>r
 |x::xs,_,r=>by
  obtain⟨v,vs,rfl,q,z⟩:=r;rw[E3 z,show v=V.str x from q];rfl
abbrev ma(f:MF1)(ρ:LS):OD:=(f ρ).bind λd=>(lsD d).bind λds=>(iD ds).bind λxs=>if xs.length<4000 then aa (.int (iE xs:Nat)) else ab
def MD{f:MF1}{xs:LSt}(h:f ρ=aa (.lst (xs.map D.str)))(q:xs.length<4000):ma f ρ=aa (.int (iE xs:Nat)):=by
 unfold ma;rw[h];show((iD (xs.map D.str)).bind λxs=>if xs.length<4000 then aa (D.int (iE xs:Nat)) else ab)=_;rw[E2];exact if_pos q
def E4{pos:Pos}{f:MF1}(hc:X.calm=ac)(M:Gl X "len")(hms:X.mg "len"=ab)(U:Gl X "set")(hmt:X.mg "set"=ab)(ha:DE c X e f)
 (h1:aY [.Call (.Name "set" p2) [e] [] hI] X.env=(ag,eval (.Call (.Name "set" p2) [e] [] hI) X.env)::aY [] X.env:=by rfl)(h2:aY [e] X.env=(ag,eval e X.env)::aY [] X.env:=by rfl)
 (hY:(fT pos (aY [] X.env)).any (·.1)=ag:=by rfl)(L:(fT hI (aY [] X.env)).any (·.1)=ag:=by rfl):DE c X (.Call (.Name "len" p) [.Call (.Name "set" p2) [e] [] hI] [] pos) (ma f):=
 PE.imp (MC hc M hms U hmt ha h1 h2 hY L) λσ H Q q_=>by
  obtain⟨Hf0,H0,Hf,ρ,ds,st,z,k⟩:=q_;unfold ma at z;obtain⟨d,e1,z⟩:=cr.mp z;obtain⟨xs,e2,z⟩:=cr.mp z;obtain⟨ts,e3,z⟩:=cr.mp z;split at z
  .rename_i hl;cases z;refine⟨Hf0,H0,Hf,ρ,d,st,e1,λv Hf' H' x r=>?_⟩;obtain⟨l,vs,rfl,q,rs⟩:=gH e2 r;rw[yR e3]at rs;obtain rfl:=E3 rs;exact⟨l,ts,rfl,x.s.seq q,hl,k _ Hf' _ x rfl⟩
  .nomatch z
def E5(val:Nat->Str):∀i k,k∈fc val i↔∃j,j<i/\val j=k
 | 0,k=>⟨(λh=>nomatch h),λ⟨j,h,_⟩=>absurd h (Nat.not_lt_zero _)⟩
 |i+1,k=>by
  have L:=E5 val i k;have e:=EY (fc val i) (val i) k;have any:∀(σ:LSt),σ.any (·==k)=ac↔k∈σ:=λσ=>by simp[any_eq_true]
  rw[<- any];show(ln (fc val i) (val i)).any (·==k)=ac↔_;rw[e,kz,any,L,decide_eq_true_eq];constructor
  .rintro(⟨j,z,q⟩ |rfl)
   .exact⟨j,by lia,q⟩
   .exact⟨i,by lia,rfl⟩
  .rintro⟨j,z,q⟩
   rcases Nat.lt_or_ge j i with h |h
   .exact .inl ⟨j,h,q⟩
   .obtain rfl:j=i:=by lia
    exact .inr q.symm
def E6(val:Nat->Str):∀i,(fc val i).length=i↔∀j k,j<k->k<i->val j≠val k
 | 0=>⟨λ_ j k _ h=>by lia,λ_=>rfl⟩
 |i+1=>by
  have M:=E6 val i;have U:=vb val i;show(ln (fc val i) (val i)).length=i+1↔_;rw[EZ];have any:(fc val i).any (·==val i)=ac↔∃j,j<i/\val j=val i:=by rw[<- E5];simp[any_eq_true]
  by_cases h:(fc val i).any (·==val i)=ac
  .rw[if_pos h];obtain⟨j,q,z⟩:=any.mp h;exact⟨λe=>by lia,λg=>absurd z (g j i q (by lia))⟩
  .rw[if_neg h];constructor
   .intro e j k q z L
    rcases Nat.lt_or_ge k i with h4 |h4
    .exact M.mp (by lia) j k q h4 L
    .obtain rfl:k=i:=by lia
     exact h (any.mpr ⟨j,q,L⟩)
   .intro g;rw[M.mpr λj k q z=>g j k q (by lia)]
def E7(xs:LSt):iE xs<=xs.length:=vb _ _
def ME(xs:LSt):iE xs=xs.length↔xs.Nodup:=by
 unfold iE;rw[E6,pQ,pairwise_iff_getElem];constructor
 .intro h i j hi L q e;refine h i j q L ?_;show xs.getD i ""=xs.getD j "";rw[gy,gy,cR hi,cR L];exact congrArg (λz=>(aa z).getD ("":Str)) e
 .intro h i j q L e;have hi:i<xs.length:=by lia
  refine h i j hi L q ?_;have e:xs.getD i ""=xs.getD j "":=e;rw[gy,gy,cR hi,cR L]at e;exact e
variable{G:Gc}
open Classical in
def E8{a:Addr}(h:j6 G Hf H σ ρ a):j6 G Hf H (σ.set j (aa v)) (ρ.set j (.im d)) a:=λk t w b c p=>by
 rcases cf b with⟨_,q,_⟩ |⟨ne,b⟩
 .subst q;exact(p.calm rfl).elim
 .rw[fZ (ce ne)]at c;exact h k t w b c p
abbrev yW(K:bm):V->Option Int->Hp->VK->Prop:=λx st H Q=>∃a xs,x=.ref a/\SqL K H a xs/\(st=aa 1\/st=aa (-1))/\∀p,H p=ab->Q (.ref p) (upd H p (.lst (if st=aa 1 then xs else xs.reverse)))
def MF(items:Array Value):slicePick items ab ab (aa 1)=slicePick items ab ab ab:=rfl
variable{tb:TO}
def MG{pos:Pos}(he:PE X a te)(hb:PO X (aa b) tb):PE X (.Subscript a (.Slice ab ab (aa b) p2) pos) (λσ H Q=>te σ H λx H1=>tb σ H1 λst H2=>yW X.K x st H2 Q):=by
 intro pins s σ H Q I h;refine Subscript_ (thn (he pins s σ H _ I h) λv s1 L=>?_);obtain⟨x,H1,I1,r1,q1⟩:=L;refine wpAny_Slice (thn (xM pins s1 σ H1 (λo H'=>o=ab/\tb σ H' λst H2=>yW X.K x st H2 Q) I1 ⟨rfl,q1⟩) λvl s2 ⟨l,H2,I2,pl,el,q2⟩=>thn (xM pins s2 σ H2 (λo H'=>o=ab/\tb σ H' λst H2=>yW X.K x st H2 Q) I2 ⟨rfl,q2⟩) λvu s3 ⟨u,H3,I3,pu,eu,q3⟩=>thn (hb pins s3 σ H3 _ I3 q3) λvt s4 L=>?_);obtain⟨t,H4,I4,pt,q4⟩:=L;subst el eu
 have z:Inv X pins σ H4 {s4 with heap:=s4.heap.push {cls:=.type "slice",data:=.fields #[vl,vu,vt]}}:=I4.kept λb ob q=>bV _ q
 obtain⟨a,xs,rfl,hx,ht,q⟩:=q4;cases r1;obtain⟨its,r,M,hz⟩:=z.list hx;have U:=r.length;refine tail_any M.isList.typeIs slot_list_getitem.lookup ?_ (by with_unfolding_all rfl)
 refine wpAny_getItem_list_slice M.isList (BX ..) pl pu pt (by rcases ht with rfl |rfl <;> decide) ?_ (by rw[size_toArray];lia)
 refine⟨.ref _,_,z.laid (λb ob q=>bV _ q) (aU _) ?_,rfl,q _ (z.hok.fresh (aU _))⟩
 rcases ht with rfl |rfl
 .rw[if_pos rfl,MF,Cz,HT.sIx_none,HT.sIx_none,drop_zero,Nat.sub_zero,take_length];exact⟨hz,its,0,r,dS _ rfl⟩
 .rw[if_neg (by decide),W.krv_pick];exact⟨by rw[jP];exact hz,its.reverse,0,r.reverse,dS _ rfl⟩
abbrev vc(f g:Xe):Xe:=λρ=>(f ρ).bind λp=>(g p.2).bind λq=>(lsD p.1).bind λds=>match q.1 with
 |.int i=>if i=1\/i=-1 then aa (.lst (if i=1 then ds else ds.reverse),q.2) else ab
 | _=>ab
variable{g:Xe}
def MH{f:Xe}{pos:Pos}(ha:DX c X a f)(hb:DX c X b g):DX c X (.Subscript a (.Slice ab ab (aa b) p2) pos) (vc f g):=
 PE.imp (MG ha (Ct hb)) λσ H Q q_=>by
  obtain⟨Hf0,H0,Hf,ρ,r,ρ',st,ef,k⟩:=q_;unfold vc at ef;obtain⟨⟨d,ρ1⟩,e1,U⟩:=cr.mp ef;obtain⟨⟨y,c0⟩,e2,ef2⟩:=cr.mp U;obtain⟨ds,e3,L⟩:=cr.mp ef2;clear ef U ef2;dsimp only at e2 e3 L;split at L
  .rename_i i;split at L
   .rename_i hi;cases L;refine⟨Hf0,H0,Hf,ρ,_,ρ1,st,e1,λv al H1 f1 kT r1=>⟨Hf0,H0,al,ρ1,_,_,kT,e2,λu a9 H2 f2 M r2=>⟨i,r2,?_⟩⟩⟩;obtain⟨a,vs,rfl,q,r⟩:=gH e3 r1;refine⟨a,vs,rfl,(f2.trans M.sub).seq q,hi.imp (congrArg aa) (congrArg aa),λp hp=>?_⟩;have x:=(Ext.tmp (o:=.lst (if aa i=aa 1 then vs else vs.reverse)) M.sub hp).fix hp (M.sub.free hp) bw;refine k _ _ _ ((f1.trans f2).trans x.f) (M.step x) ⟨p,_,rfl,bw,?_⟩;have r3:=(r.up f2).up x.f
    by_cases h1:i=1
    .subst h1;rw[if_pos rfl,if_pos rfl];exact r3
    .have h2:¬aa i=aa 1:=λz=>h1 (cz z);rw[if_neg h2]at r3;rw[if_neg h1,if_neg h2];exact r3.reverse
   .nomatch L
  .nomatch L
section
variable(k:Nat)(js:LN)(jp t:Nat)(g:D->LS->Option LS)(tt:Xt)(fe:Xe)(ρ:LS)(l:Addr)
open Classical in
abbrev o7(q:LS)(y:OD):Option (OD×LD):=match q[k+t]? with
 |some (.pin _ df)=>if ∀i,k<=i->q[i]?=(cU k js (ρ.set jp (.pin l df)))[i]? then aa (y,df) else ab
 | _=>ab
abbrev o8(d:D)(xs:LD):Option (OD×LD):=(g d (cU k js (ρ.set jp (.pin l xs)))).bind λρ1=>(tt ρ1).bind λb=>match b.1 with
 |true=>(fe b.2).bind λq=>o7 k js jp t ρ l q.2 (aa q.1)
 |false=>o7 k js jp t ρ l b.2 ab
abbrev je:LD->LD->Option (LD×LD)
 | [],xs=>aa ([],xs)
 |d::ds,xs=>(o8 k js jp t g tt fe ρ l d xs).bind λy=>(je ds y.2).map λr=>(y.1.toList++r.1,r.2)
end
abbrev nN(k:Nat)(js:LN)(jp t:Nat)(fi:Xa)(g:D->LS->Option LS)(tt:Xt)(fe:Xe):Xe:=λρ=>(fi ρ).bind λp=>match p.2[jp]? with
 |some (.pin l xs)=>if p.1.length<=16777216/\js[t]?=aa jp/\(js.all λj=>j==jp || ((p.2[j]?).getD .no).calm)=ac then (je k js jp t g tt fe p.2 l p.1 xs).map λq=>(.lst q.1,p.2.set jp (.pin l q.2)) else ab
 | _=>ab
variable{c0:LS}
def E9{y z:OD}(h:o7 k js jp t ρ l c0 y=aa (z,df)):z=y/\(∃q,c0[k+t]?=aa (.pin q df))/\∀i,k<=i->c0[i]?=(cU k js (ρ.set jp (.pin l df)))[i]?:=by
 unfold o7 at h;split at h
 .rename_i q M L;split at h
  .rename_i hi;cases h;exact⟨rfl,⟨q,L⟩,hi⟩
  .nomatch h
 .nomatch h
variable{g:D->LS->Option LS}{tt:Xt}
def MI{y:OD}(h:o8 k js jp t g tt fe ρ l d xs = aa (y, df)):∃ρ1 b c0, g d (cU k js (ρ.set jp (.pin l xs))) = aa ρ1/\tt ρ1 = aa (b, c0) /\
    ((b = ac/\∃ z q, fe c0 = aa (z, q)/\y = aa z/\(∃ l', q[k + t]? = aa (.pin l' df))/\∀ i, k<=i->q[i]? = (cU k js (ρ.set jp (.pin l df)))[i]?) \/
     (b = ag/\y = ab/\(∃l', c0[k+t]? = aa (.pin l' df))/\∀i, k<=i->c0[i]? = (cU k js (ρ.set jp (.pin l df)))[i]?)):= by
  unfold o8 at h;obtain⟨ρ1, e1, h⟩:= cr.mp h;obtain⟨⟨b, c0⟩, e2, h⟩:= cr.mp h;refine⟨ρ1, b, c0, e1, e2, ?_⟩
  cases b with
  |true=>
    obtain⟨⟨z, q⟩, e3, h⟩:= cr.mp h;obtain⟨L, M, U⟩:= E9 h
    exact .inl ⟨rfl, z, q, e3, L, M, U⟩
  |false=>
    obtain⟨L, M, U⟩:= E9 h;exact .inr ⟨rfl, L, M, U⟩
def MJ(h:je k js jp t g tt fe ρ l (d::ds) xs=aa (rs,ys)):∃y df r,o8 k js jp t g tt fe ρ l d xs=aa (y,df)/\je k js jp t g tt fe ρ l ds df=aa (r,ys)/\rs=y.toList++r:=by
 unfold je at h;obtain⟨⟨y,df⟩,q,h⟩:=cr.mp h;obtain⟨⟨r,L⟩,z,h⟩:=mK.mp h;cases h;exact⟨y,df,r,q,z,rfl⟩
def MK(hj:js.Nodup)(hk:∀d ρ ρ' i,g d ρ=aa ρ'->k<=i->ρ'[i]?=ρ[i]?)(eR:∀d ρ ρ',g d ρ=aa ρ'->ρ'.length=ρ.length){Q:VK}(h:tDX G (nN k js jp t fi g tt fe) σ H Q):
  m8 k js (uQ G fi) (tDG G g) (rB G tt) (tDX G fe) σ H Q:=by
 obtain⟨Hf0,H0,Hf,ρ0,d0,ρ',st,z,kq⟩:=h;unfold nN at z
 cases e1:fi ρ0 with
 |none=>rw[e1]at z;nomatch z
 |some p=>
  obtain⟨ds,ρ⟩:=p;rw[e1,ax]at z;dsimp only at z;split at z
  .rename_i l xs ep;split at z
   .rename_i hz;obtain⟨hz,ht,hcm⟩:=hz
    cases e2:je k js jp t g tt fe ρ l ds xs with
    |none=>rw[e2]at z;nomatch z
    |some q=>
     obtain⟨rs,zs⟩:=q;rw[e2]at z;cases z;refine⟨Hf0,H0,Hf,ρ0,ds,ρ,st,e1,λJ al H1 f1 kT it=>?_⟩
     have hcm':=λj U=>by
      have:=all_eq_true.mp hcm j U;rw[kz]at this;exact this.imp beq_iff_eq.mp id
     have eself:ρ.set jp (.pin l xs)=ρ:=by
      apply lA;intro i
      by_cases hi:jp=i
      .subst hi;rw[u7 ep,ep]
      .rw[fZ hi]
     have st0:aC G al (e8 H1 l) al H1 (gU k js σ) (cU k js (ρ.set jp (.pin l xs))):=by rw[eself];exact kT.compP k hj ep hcm'
     obtain⟨l9,el9,_,hf9,e9,_⟩:=kT.ownAt rfl ep;subst e9
     refine⟨λi m ys σ' H'=>m=ds.length-i/\i<=ds.length/\∃Hf' as df bv,aC G al _ Hf' H' σ' (cU k js (ρ.set jp (.pin l9 df)))/\aB G Hf' as ys/\je k js jp t g tt fe ρ l9 (ds.drop i) df=aa (bv,zs)/\rs=as++bv/\as.length<=i,
      ⟨ds.length,rfl,gD _,al,[],xs,rs,st0,rfl,e2,rfl,aU _⟩,?_⟩
     rintro i m ys σ' H' ⟨rfl,hi,Hf',as,df,bv,L,ra,ec,er,hal⟩;have q5:ys.length<=aW:=by rw[cL,<- ra.length];lia
     obtain⟨mu,ri⟩:=it Hf' H' L.ext.f L.sub i
     by_cases eZ:i<ds.length
     .obtain⟨d,ed,ir⟩:=lQ eZ;obtain⟨go,yl⟩:=mu d ed
      refine .inr ⟨go,q5,λou fx H2=>ds.length-_=ds.length-_/\i+1<=ds.length/\∃Hf' as df bv,aC G al _ Hf' H2 fx _/\aB G Hf' as ou/\je k js jp t g tt fe ρ l9 _ df=aa _/\rs=as++bv/\as.length<=i+1,
       λou fx H2 w=>⟨ds.length-(i+1),by lia,w⟩,λx H2 y=>?_⟩
      obtain⟨a9,x3,rx⟩:=yl x H2 y;rw[ir]at ec;obtain⟨y',xs2,r',et,ec',M⟩:=MJ ec;obtain⟨ρ1,b,c0,eg,et,z⟩:=MI et;refine⟨al,e8 H1 l9,a9,_,d,ρ1,L.step x3,rx,eg,λh8 n9=>⟨al,e8 H1 l9,a9,ρ1,b,c0,n9,et,λHf4 H4 f4 st4=>?_⟩⟩
      have hO:∀{ρ9:LS} {Hf9 H9:Hp},aC G al (e8 H1 l9) Hf9 H9 h8 ρ9->(cU k js (ρ.set jp (.pin l9 xs2))).length=ρ9.length:=λt3=>by
       rw[<- t3.len,n9.len,eR _ _ _ eg];unfold cU;rw[aM,aM,au,au]
      rcases z with⟨rfl,y2,ρ3,ee,rfl,⟨l',ex⟩,hag⟩ |⟨rfl,rfl,⟨l',ex⟩,hag⟩
      .refine CI ⟨al,e8 H1 l9,Hf4,c0,y2,ρ3,st4,ee,λv Hf5 H5 f5 t3 r5=>?_⟩;refine⟨rfl,eZ,Hf5,as++[y2],xs2,r',t3.weak (hO t3) λj s hs=>?_,(ra.up ((x3.f.trans f4).trans f5)).append (.cons r5 .nil),ec',by rw[er,M,eU];rfl,by rw[aM,dR];lia⟩
       rcases kU hs with⟨_,e⟩ |⟨U,_⟩
       .exact .inl e
       .exact .inr (by rw[hag j U];exact hs)
      .rw[if_neg (by decide)];refine⟨rfl,eZ,Hf4,as,xs2,r',st4.weak (hO st4) λj s hs=>?_,ra.up (x3.f.trans f4),ec',by rw[er,M];rfl,by lia⟩
       rcases kU hs with⟨_,e⟩ |⟨U,_⟩
       .exact .inl e
       .exact .inr (by rw[hag j U];exact hs)
     .have ei:i=ds.length:=by lia
      subst ei;refine .inl ⟨ri rfl,q5,λD h1 h2=>?_⟩;rw[my (aU _)]at ec;cases ec;rw[cx]at er;subst er;obtain⟨l3,el3,h03,hf3,e3,us3,hu3,rx3⟩:=L.ownAt rfl (EO ht (u7 ep));subst e3;have xn:=Ext.new (o:=.lst ys) L.sub h2;exact kq _ _ _ (f1.trans (L.ext.f.trans xn.f)) ((kT.back (s':=.pin l3 zs) rfl rfl ep el9 L.ext hf3 ⟨rfl,us3,hu3,rx3⟩).step xn) ⟨D,ys,rfl,bw,ra.up xn.f⟩
   .nomatch z
  .nomatch z
abbrev o9(g:D->LS->Option LS)(f:Xe)(ρ:LS):Option Fl:=(f ρ).bind λp=>(g p.1 p.2).map .nx
def Fa{pos:Pos}{f:Xe}(he:DX c X e f)(hg:DG c X tg k g)(hs:p7 [tg] e pos.line X.env=pure ag:=by rfl)(hw:p8 [tg] e X.env=pure ab:=by rfl)
 (U:(fj [tg] X.env).map (·.2)=[h9 tg X.env]:=by rfl):DS c X (.Assign [tg] e pos) (o9 g f):=PS.imp (tP he hg.pg hs hw U) λE σ H q_=>by
 obtain⟨Hf0,H0,Hf,ρ,o,so,q,kq⟩:=q_;unfold o9 at q;obtain⟨p,L,q⟩:=cr.mp q;obtain⟨ρ',M,q⟩:=mK.mp q;subst q;exact⟨Hf0,H0,Hf,ρ,p.1,p.2,so,L,λv Hf' H' f1 st r=>⟨Hf0,H0,Hf',p.2,p.1,ρ',st,r,M,λσ' z=>kq σ' Hf' H' f1 z⟩⟩
def Fb{f:Xe}(h:f ρ=aa (d,ρ1))(h':g d ρ1=aa ρ')(k:K (.nx ρ')):wp (o9 g f) ρ K:=⟨_,by unfold o9;rw[h,ax,h'];rfl,k⟩
open Classical in
abbrev rK(m:Addr->LD->LD->LD->Option (LD×D))(f g:MF2)(ρ:LS):OD:=(f ρ).bind λxs=>(g ρ).bind λds=>if h:∃q,∀l,m l [] ds xs=aa q then aa h.choose.2 else ab
def ML{m:Addr->LD->LD->LD->Option (LD×D)}{f g:MF2}{q:LD×D}(L:f ρ=aa xs)(M:g ρ=aa ds)(h:∀l,m l [] ds xs=aa q):rK m f g ρ=aa q.2:=by
 unfold rK;have z:∃q,∀l,m l [] ds xs=aa q:=⟨q,h⟩;rw[L,ax,M,ax,dif_pos z];have:=z.choose_spec 0;rw[h 0]at this;rw[<- cz this]
def MM{o:HO}(L:H1 l=ab)(x:Ext al (upd H1 l o) a9 H2)(q:a9 l=ab):Ext al H1 a9 (e8 H2 l):=by
 have ne:∀{a u},H1 a=aa u->a≠l:=λe z=>by rw[z,L]at e;nomatch e
 refine⟨x.f,λa u e=>?_,λa u e=>?_,λa u e t=>x.n a u (by rw[bz (ne e)];exact e) t⟩
 .rw[rf (ne e)];exact x.h a u (by rw[bz (ne e)];exact e)
 .rw[rf λz=>by rw[z,q]at e;nomatch e];exact x.s a u e
variable{as:LEx}{lp:Pos}{fa fb:MF2}
def MN{f:Addr}{pos:Pos}{m:Addr->LD->LD->LD->Option (LD×D)}(pk:Pk X.prog X.w X.K X.mg X.base CX0 k x (f,fd) ps (spM (Gx c X) 0 ps.length m))(hr0:c6 k0 X.A)(ha:DA c X es fa)(M:DA c X (a::as) fb)(hl:2+as.length=ps.length:=by rfl)(hz:es.length<=1000:=by exact mI rfl)(hdb:NDb x:=by decide)(he:aY (.List es lp::a::as) X.env=(ag,eval (.List es lp) X.env)::aY (a::as) X.env:=by rfl)(hY:(fT pos (aY (a::as) X.env)).any (·.1)=ag:=by rfl)(hk0:k<=k0:=by decide)(hg:Gl X x:=by first |rfl |exact glc rfl):
  DE c X (.Call (.Name x p) (.List es lp::a::as) [] pos) (rK m fa fb):=PE.imp (kM pk.ok (hr0.mono hk0) hg pk.g pk.kp pk.b .nil kQ (bW (xK ha.pa) M.pa he) hdb he hY) λσ H Q q_=>by
 obtain⟨Hf0,H0,Hf,ρ,d,st,z,kq⟩:=q_;unfold rK at z;obtain⟨xs,e1,z⟩:=cr.mp z;obtain⟨ds,e2,z⟩:=cr.mp z;split at z
 .rename_i hq;cases z;have hs:=hq.choose_spec;generalize hq.choose=q at hs kq;refine⟨Hf0,H0,Hf,ρ,xs,st,e1,λvs al H1 x1 r1=>⟨?_,λl L=>?_⟩⟩
  .rw[<- r1.length,ha.len ρ xs e1];exact jS (m4 hz)
  .refine⟨Hf0,H0,al,ρ,ds,(st.step x1).step (Ext.tmp (o:=.lst vs) x1.s L),e2,λvs2 a9 H2 x2 r2=>?_⟩;have U:a9 l=ab:=(x2.n l _ bw rfl).trans (x1.s.free L);have hn:0+1+ds.length=ps.length:=by rw[M.len ρ ds e2,bT,<- hl];lia
   dsimp only;rw[cx];exact⟨a9,[],ds,xs,q.1,q.2,l,vs,[],vs2,rfl,x2.s,U,x2.h l _ bw,rfl,r2,r1.up x2.f,rfl,hn,hs l,λv Hf3 H3 us3 x3 hf3 hu3 rx3 r3=>kq v Hf3 H3 ((x1.trans (MM L x2 U)).trans x3) r3⟩
 .nomatch z
def MO{pos:Pos}(i:Nat)(k:Nat)(js:LN)(jp t:Nat)(Nc:LSt)(hN:X.N.Nodup)(hc:X.calm=ac)(hi:DXi c X tg iter fi)(L:∀cl C ex a0 bq,DG c (X.comp scope Nc cl C ex a0 bq) tg k g)
 (ht:∀cl C ex a0 bq,DTX c (X.comp scope Nc cl C ex a0 bq) cd tt)(he:∀cl C ex a0 bq,DX c (X.comp scope Nc cl C ex a0 bq) d8 fe)(M:X.N[i]?=aa x:=by rfl)(hx:Loc X.env.scope x:=by first |exact bU rfl |exact br rfl)
 (U:fR (.ListComp d8 [⟨tg,iter,[cd],0⟩] scope pos) (aa (.Name x b0)) eA.line X.env=pure ac:=by rfl)(ck:jv scope X.env.scope.names X.N Nc k js=ac:=by rfl)(hs:∀x,hV iter X.env x=pure x:=by intro _;rfl)
 (hf:LcF X x:=by first |exact .inl rfl |exact .inr rfl)(hj:js.Nodup:=by decide):
  DS c X (.Assign [.Name x b0] (.ListComp d8 [⟨tg,iter,[cd],0⟩] scope pos) eA) (dC i (nN k js jp t fi g tt fe)):=
 PS.imp (uc (tt:=rB (Gx c X) tt) (te:=tDX (Gx c X) fe) k js Nc hN M hx hc hi (λcl C ex a0 bq=>(L cl C ex a0 bq).pg) (λcl C ex a0 bq=>CU (ht cl C ex a0 bq)) he U ck hs hf) λE σ H q_=>by
  obtain⟨Hf0,H0,Hf,ρ,o,so,q,kk⟩:=q_;unfold dC at q
  cases z:nN k js jp t fi g tt fe ρ with
  |none=>rw[z]at q;nomatch q
  |some p=>
   rw[z]at q;cases q;exact MK hj (L [] 0 [] X.s₀ X.H₀).keep (L [] 0 [] X.s₀ X.H₀).len ⟨Hf0,H0,Hf,ρ,p.1,p.2,so,z,λv Hf' H' s so' r=>kk _ Hf' H' s (so'.setIm r)⟩
def DE.pe{f:MF1}(h:DE c X e f):PE X e (tD (Gx c X) f):=h
def DX.pe{f:Xe}(h:DX c X e f):PE X e (tDX (Gx c X) f):=h
section
variable{prog:dn}{w:World}{K:Type}[DecidableEq K]{knd:KeyKind prog w K}{A:eI}{E:PRS}{s:aI}
def MP{d:Addr}{kvs:List (K×Value)}{k:K}{key dv:Value}{Q:PRS}(q:knd.is k key=ac)(hm:s.heap.DictOf knd d kvs)(hz:kvs.length<=aW)
 (h1:∀v,iN kvs k=aa v->Q v {s with toks:=s.toks+1})
 (h2:iN kvs k=ab->∀h',h'.DictOf knd d (iO kvs k dv)->iQ d s.heap h'->Q dv {s with heap:=h',toks:=s.toks+1}):
  wpAny (model prog w) A (dictSetDefault d key dv) Q E s:=by
 have hmm:=hm.mapOf;obtain⟨o,es,ep,ho,hc,hd,hk,hp,hn⟩:=hm
 have hes:es.size<=aW:=by
  have e1:=hp.length;have e2:es.toList.length=es.size:=by simp
  lia
 obtain⟨o',es',ep',ho',hc',U,hk',hf⟩:=hmm;rw[ho]at ho';cases ho';rw[hd]at U;cases U
 have hidx:(es.findIdx? λe=>knd.is k e.key)=kvs.findIdx? λkv=>decide (kv.1=k):=by
  rw[<- hp.findIdx k];obtain⟨l⟩:=es;simp
 unfold dictSetDefault
 try with_reducible refine fh ?_
 refine av (knd.pyHash q ?_)
 refine av (wpAny_dictFind_of (s:={s with toks:=s.toks+1}) q ho hd hk ?_)
 cases hi:es.findIdx? λe=>knd.is k e.key with
 |some i=>
  have z:iN kvs k=(es[i]?).map (·.val):=by rw[<- hf k,findBy_of_findIdx?,hi]
  refine av (wpAny_dictEntries (s:={s with toks:=s.toks+1}) ho hd ?_)
  cases he:es[i]? with
  |none=>
   exfalso;have:=Array.findIdx?_eq_some_iff_findIdx_eq.mp hi;have eZ:i<es.size:=this.1;rw[Array.getElem?_eq_getElem eZ]at he
   exact nomatch he
  |some e=>
   rw[he]at z
   exact av (mS (bc (h1 e.val z)))
 |none=>
  have z:iN kvs k=ab:=by rw[<- hf k,findBy_of_findIdx?,hi]
  have M:k∉kvs.map (·.1):=not_mem_of_findIdx_none (hidx▸hi)
  have L:¬(kvs.any λkv=>decide (kv.1=k))=ac:=by
   rw[any_eq_true];rintro⟨kv,hkv,he⟩;exact M (cq.mpr ⟨kv,hkv,of_decide_eq_true he⟩)
  refine av (mS (av (wpAny_updateDictKeys (hz:=hes) (s:={ s with toks:=s.toks + 1 }) ho hd (bc (h2 z _ ⟨_,_,ep + 1,oy _ ho (Obj.isFreed_of_dict (Obj.data_mapDictKeys hd _)),
   hc.mapDictKeys _,Obj.data_mapDictKeys hd _,hk.push q _,?_,?_⟩ (iQ.update ..))))))
  .rw[iO,if_neg L];have:=hp.append q (knd.hash k) dv;obtain⟨l⟩:=es
   simpa using this
  .rw[iO,if_neg L,bp,eG];refine⟨hn,by simp,?_⟩;intro a ha b hb;simp only[cS,map_nil,ca]at hb;subst hb;exact λe=>M (e▸ha)
def MQ(knd:KeyKind prog w K)(d:Addr)(key:Value)(hd:(d==gE)=ag)(dv:Value):
  MeetsIn prog w (c9.«dict.setdefault» ⟨[.ref d,key,dv],[]⟩) (λ_ R s=>∃ k kvs,knd.is k key=ac/\s.heap.DictOf knd d kvs/\kvs.length<=aW /\
   (∀v,iN kvs k=aa v->R (.ok (.ret v)) {s with toks:=s.toks+1}) /\
   (iN kvs k=ab->∀h',h'.DictOf knd d (iO kvs k dv)->iQ d s.heap h'->R (.ok (.ret dv)) {s with heap:=h',toks:=s.toks+1})):=
 .of_wp λA R s q_=>by
  obtain⟨k,kvs,hk,hm,hz,M,U⟩:=q_;refine av ?_;refine av (xc hm.typeIs ?_);refine bc ?_;show wpAny _ _ (if _=ac then _ else _) _ _ s;rw[hd,if_neg (λz=>nomatch z)];exact av (MP hk hm hz (λv hv=>bc ⟨v,rfl,M v hv⟩) λhn h' q L=>bc ⟨dv,rfl,U hn h' q L⟩)
end
abbrev nP(kvs more:List (Key×V)):List (Key×V):=more.foldl (λq z=>dF q z.1 z.2) kvs
def KV.mergeL{more:List (Key×V)}{L:List (Key×Value)}(z:KV more L):∀{kvs:List (Key×V)} {vs:List (Key×Value)},KV kvs vs->KV (nP kvs more) (merged vs L):=by
 unfold KV at z
 induction z with
 |nil=>exact λh=>h
 | @cons p q ps qs r _ U=>
  intro kvs vs h;obtain⟨M,r2⟩:=r;have:=U (h.put q.1 r2);rw[<- M]at this;show KV (nP (dF kvs p.1 p.2) ps) (merged (iO vs q.1 q.2) qs);rw[<- M];exact this
def MR(more:List (Key×V)):∀kvs:List (Key×V),(nP kvs more).length<=kvs.length+more.length:=by
 induction more with
 |nil=>exact λ_=>aU _
 |cons p more q=>
  intro kvs;have z:=q (dF kvs p.1 p.2);have L:=qu kvs p.1 p.2;show(nP (dF kvs p.1 p.2) more).length<=_;rw[bT];lia
def Fc(more:List (Key×V)):∀kvs:List (Key×V),((kvs++more).map (·.1)).Nodup->nP kvs more=kvs++more:=by
 induction more with
 |nil=>exact λkvs _=>(cx kvs).symm
 |cons p more L=>
  intro kvs nd
  have q:dF kvs p.1 p.2=kvs++[p]:=by
   unfold dF;rw[if_neg];rw[any_eq_true];rintro⟨x,z,e⟩;rw[bp,cS,eG]at nd;exact nd.2.2 x.1 (cq.mpr ⟨x,z,rfl⟩) p.1 bK (of_decide_eq_true e)
  show nP (dF kvs p.1 p.2) more=_;rw[q,L (kvs++[p]) (by simpa using nd)];simp
abbrev Fe:V->List V->Hp->VK->Prop:=λx vs H Q=>∃d b kvs more,x=.ref d/\vs=[.ref b]/\d≠b/\H d=aa (.dK kvs)/\Rd H b (.dK more)/\kvs.length+more.length<=aW/\Q .non (upd H d (.dK (nP kvs more)))
def Ff:MtR X "dict.update" Fe:=by
 rintro pins s σ H x vs v us Q I rx rv ⟨d,b,kvs,more,rfl,rfl,hdb,hd,hb,hz,q⟩;cases rx;obtain⟨u,rfl,ru⟩:=rv.one;cases ru;obtain⟨z1,n1,np,z,U⟩:=qw I.hok hd;obtain⟨z2,n2,vs2,L,dd2⟩:=lL I.hok hb;refine call_meetsIn xq U.typeIs PySem.F.entry_dict_update (PySem.F.args_dict_update_2 _ _) (meets_dict_update _ d b hdb n2) ⟨np,vs2,U,dd2,by rw[<- z.length,<- L.length];exact hz,λh' M _ hs=>?_⟩;have he:∃q,h'.get? d=aa q:=let ⟨q,_,_,hq,_⟩:=M;⟨q,hq⟩;exact⟨.non,_,qz (t':=s.toks) I (by rw[hd];exact ie) hs he (qA (cV (MR more kvs) hz) n1 (L.mergeL z) M),rfl,q⟩
abbrev Fg:V->List V->Hp->VK->Prop:=λx vs H Q=>∃d kvs k v,x=.ref d/\vs=[kV k,v]/\H d=aa (.dK kvs)/\(∀u,fm kvs k=aa u->Q u H)/\(fm kvs k=ab->kvs.length<aW/\Q v (upd H d (.dK (dF kvs k v))))
def MS:MtR X "dict.setdefault" Fg:=by
 rintro pins s σ H x vs v us Q I rx L ⟨d,kvs,k,v',rfl,rfl,hd,q1,q2⟩;cases rx;obtain⟨u1,u2,rfl,r1,r2⟩:=qj L;obtain⟨z,hS,np,M,dd⟩:=qw I.hok hd;refine call_meetsIn BV dd.typeIs PySem.F.entry_dict_setdefault (PySem.F.args_dict_setdefault_3 _ _ _) (MQ _ d u1 hS u2) ⟨k,np,m5 r1,dd,by rw[<- M.length];exact z,λw hw=>?_,λhn h' dd' hs=>?_⟩
 .have L:=M.val k;rw[hw]at L
  cases U:fm kvs k with
  |none=>rw[U]at L;exact L.elim
  |some v=>rw[U]at L;exact⟨v,H,I.tok _,L,q1 v U⟩
 .have U:fm kvs k=ab:=by
   have L:=M.val k;rw[hn]at L
   cases U:fm kvs k with
   |none=>rfl
   |some v=>rw[U]at L;exact L.elim
  obtain⟨hl,q⟩:=q2 U;have he:∃q,h'.get? d=aa q:=let ⟨q,_,_,hq,_⟩:=dd';⟨q,hq⟩;have:=qu kvs k v';exact⟨v',_,qz I (by rw[hd];exact ie) hs he (qA (by lia) hS (M.put k r2) dd'),r2,q⟩
def MT:ga X (.type "dict") (λxs H Q=>∃a kvs,xs=[.ref a]/\Rd H a (.dK kvs)/\∀p,H p=ab->Q (.ref p) (upd H p (.dK kvs))):=by
 rintro pins s σ H xs ws Q I r ⟨a,kvs,rfl,U,q⟩;obtain⟨_,rfl,M⟩:=ju r;cases M;exact J1 I U λp s' L z=>⟨.ref p,_,z,rfl,q p L⟩
def MU:ga X (.builtin "len") (λxs H Q=>∃a kvs,xs=[V.ref a]/\Rd H a (.dK kvs)/\Q (.int kvs.length) H):=by
 rintro pins s σ H xs ws Q I r ⟨a,kvs,rfl,M,q⟩;obtain⟨_,rfl,L⟩:=ju r;cases L;exact JP I M λt s' z=>⟨.int kvs.length,H,z,⟨t,rfl⟩,q⟩
def yX{pos:Pos}{i:Int}(z:Gl X x)(hm:∃t,X.mg x=aa (.int i t))(hd:NDb x:=by decide):DE c X (.Name x pos) (λ_=>aa (.int i)):=by
 obtain⟨t,hm⟩:=hm
 exact PE.imp (B3 z hm (v:=.int i) ⟨t,rfl⟩ hd) λσ H Q L=>by
  obtain⟨Hf0,H0,Hf,ρ,d,st,q,k⟩:=L;cases q;exact k _ Hf H (Ext.refl st.sub) rfl
def MV{pos:Pos}:DE c X (.Dict [] [] pos) (λ_=>aa (.dic [] [])):=PE.imp CO λσ H Q M=>by
 obtain⟨Hf0,H0,Hf,ρ,d,st,z,k⟩:=M;cases z;intro q L;exact k _ _ _ (Ext.new st.sub L) ⟨q,[],rfl,bw,rfl,.nil⟩
abbrev pb(i:Nat)(f:MF1)(ρ:LS):Option Fl:=(f ρ).bind λd=>(j8 d).map λr=>.nx (ρ.set i (.ownd r.1 r.2))
def Fh{pos:Pos}(i:Nat){f:MF1}(hN:X.N.Nodup)(hg:Gl X "dict")(hm:X.mg "dict"=ab)(he:DE c X e f)(hi:X.N[i]?=aa x:=by rfl)(hx:Loc X.env.scope x:=by first |exact bU rfl |exact br rfl)(U:aY [e] X.env=(ag,eval e X.env)::aY [] X.env:=by rfl)
 (hs:fR (.Call (.Name "dict" p) [e] [] pos) (aa (.Name x b0)) eA.line X.env=pure ag:=by rfl)(hf:LcF X x:=by first |exact .inl rfl |exact .inr rfl):
  DS c X (.Assign [.Name x b0] (.Call (.Name "dict" p) [e] [] pos) eA) (pb i f):=PS.imp (lK hN hi hx (tZ MT hg hm yP (bW he cs U) (by decide) (by decide) U rfl) hs hf) λE σ H q_=>by
 obtain⟨Hf0,H0,Hf,ρ,o,so,M,k⟩:=q_;unfold pb at M;obtain⟨d,e1,M⟩:=cr.mp M;obtain⟨r,e2,M⟩:=mK.mp M;subst M;refine⟨Hf0,H0,Hf,ρ,d,so,e1,λv Hf' H' x1 rv=>?_⟩;obtain⟨a,vs,rfl,rd,z,rs⟩:=uX e2 rv;refine⟨a,r.1.zip vs,rfl,rd.up x1.s,λq hq=>?_⟩;have L:=so.step x1;exact k _ Hf' _ x1.f (L.setOwn (i:=i) (l:=q) (s:=.ownd r.1 r.2) rfl (Ext.grow L.sub (cu hq)) hq (L.sub.free hq) ⟨vs,bw,z,rs⟩)
def Fi{f:MF1}{r:List Key×LD}(h:f ρ=aa d)(h':j8 d=aa r)(q:K (.nx (ρ.set i (.ownd r.1 r.2)))):wp (pb i f) ρ K:=⟨_,by unfold pb;rw[h,ax,h'];rfl,q⟩
abbrev pc(i:Nat)(f:MF1)(ρ:LS):Option Fl:=match ρ[i]? with
 |some (.ownd ks xs)=>(f ρ).bind λd=>(j8 d).bind λr=>if (ks++r.1).Nodup/\ks.length+r.1.length<=16777216 then aa (.nx (ρ.set i (.ownd (ks++r.1) (xs++r.2)))) else ab
 | _=>ab
def Fj(h:ks.length=vs.length):(ks.zip vs).map (·.1)=ks:=by
 rw[mF (by lia)]
def Fk{f:MF1}(h:PS X st (lJ (tBM X.K "dict" Fe (eV i) (jX (tD (Gx c X) f) kL)))):DS c X st (pc i f):=PS.imp h λE σ H q_=>by
 obtain⟨Hf0,H0,Hf,ρ,o,so,L,k⟩:=q_;unfold pc at L;split at L
 .rename_i ks xs es;obtain⟨d,e1,L⟩:=cr.mp L;obtain⟨r,e2,L⟩:=cr.mp L;split at L
  .rename_i hc;have L:=cz L;subst L;obtain⟨l,el,h0,hf,vs,q,z,rr⟩:=so.ownAt rfl es;refine⟨_,el,.inr (.inr (.inl ⟨rfl,.inl ⟨_,q⟩⟩)),Hf0,H0,Hf,ρ,d,so,e1,λw Hf' H' x r'=>?_⟩;obtain⟨b,us,eb,M,z2,r2⟩:=uX e2 r';subst eb;have U:Hf' l=ab:=(x.n l _ q rfl).trans hf;have hz:(ks.zip vs).length+(r.1.zip us).length<=aW:=by rw[jQ,jQ,cL];lia
   refine⟨l,b,_,_,rfl,rfl,λe=>?_,x.h _ _ q,M.up x.s,hz,?_⟩
   .subst e
    rcases M with M |⟨_,M⟩ <;> (rw[U]at M;nomatch M)
   refine k σ Hf' _ x.f ((so.step x).mutd rfl rfl es el ⟨vs++us,?_,by rw[aM,aM,z,z2],(rr.up x.f).append r2⟩);rw[bw,Fc _ _ (by rw[bp,Fj z,Fj z2];exact hc.1),zip_append z]
  .nomatch L
 .nomatch L
def Fm{f:MF1}{r:List Key×LD}(z:ρ[i]?=aa (.ownd ks xs))(h:f ρ=aa d)(h':j8 d=aa r)(hn:(ks++r.1).Nodup)(L:ks.length+r.1.length<=16777216)(q:K (.nx (ρ.set i (.ownd (ks++r.1) (xs++r.2))))):wp (pc i f) ρ K:=⟨_,by
 unfold pc;rw[z];dsimp only;rw[h,ax,h',ax,if_pos ⟨hn,L⟩],q⟩
abbrev rL(i:Nat)(fk fv:MF1)(ρ:LS):Option Fl:=match ρ[i]? with
 |some (.ownd ks xs)=>(fk ρ).bind λy=>(i3 y).bind λk=>(fv ρ).bind λd=>if fV ks k=ac then aa (.nx ρ) else if ks.length<16777216 then aa (.nx (ρ.set i (.ownd (ks++[k]) (xs++[d])))) else ab
 | _=>ab
def MW(h:PS X st (lJ (tBM X.K "dict" Fg (eV i) (jX (tD (Gx c X) fk) (jX (tD (Gx c X) fv) kL))))):DS c X st (rL i fk fv):=PS.imp h λE σ H q_=>by
 obtain⟨Hf0,H0,Hf,ρ,o,M,L,k⟩:=q_;unfold rL at L;split at L
 .rename_i ks xs es;obtain⟨y,e1,L⟩:=cr.mp L;obtain⟨ky,e2,L⟩:=cr.mp L;obtain⟨d,e3,L⟩:=cr.mp L;obtain⟨l,el,h0,hf,vs,q,z,rr⟩:=M.ownAt rfl es;refine⟨_,el,.inr (.inr (.inl ⟨rfl,.inl ⟨_,q⟩⟩)),Hf0,H0,Hf,ρ,y,M,e1,λw al H1 x1 r1=>⟨Hf0,H0,al,ρ,d,M.step x1,e3,λv a9 H2 x2 r2=>?_⟩⟩;have ev:=oP e2 r1;subst ev;have x:=x1.trans x2;have U:=KS (k:=ky) z;refine⟨l,_,ky,v,rfl,rfl,x.h _ _ q,λu hu=>?_,λhn=>?_⟩
  .rw[hu]at U;rw[if_pos (show fV ks ky=ac from U.symm)]at L;have L:=cz L;subst L;exact k σ a9 _ x.f (M.step x)
  .rw[hn]at U;rw[if_neg (λe=>by rw[<- U]at e;nomatch e)]at L;split at L
   .rename_i hl;have L:=cz L;subst L;refine⟨by rw[jQ,cL];lia,k σ a9 _ x.f ((M.step x).mutd rfl rfl es el ⟨vs++[v],?_,by rw[aM,aM,z];rfl,(rr.up x.f).append (.cons r2 .nil)⟩)⟩;rw[bw,JL v hn,zip_append z];rfl
   .nomatch L
 .nomatch L
abbrev Fo:D->OD
 |.dic ks _=>aa (.int (ks.length:Nat))
 |.kd ks _=>aa (.int (ks.length:Nat))
 | _=>ab
def MX(e:Fo d=aa y)(r:Rep G H d v):∃a kvs,v=.ref a/\Rd H a (.dK kvs)/\y=.int (kvs.length:Nat):=by
 cases d with
 |dic ks xs=>
  cases e;obtain⟨a,vs,rfl,q,z,_⟩:=r
  exact⟨a,_,rfl,.inl q,by rw[jQ,<- z,pX]⟩
 |kd ks xs=>
  cases e;obtain⟨a,od,vs,rfl,q,z,_⟩:=r
  exact⟨a,_,rfl,.inr ⟨od,q⟩,by rw[jQ,<- z,pX]⟩
 | _=>nomatch e
abbrev lq(f:MF1)(ρ:LS):OD:=(f ρ).bind Fo
def yY{pos:Pos}{f:MF1}(hg:Gl X "len")(hm:X.mg "len"=ab)(U:DB c X e f)(q:aY [e] X.env=(ag,eval e X.env)::aY [] X.env:=by rfl):DE c X (.Call (.Name "len" p) [e] [] pos) (lq f):=
 PE.imp (qk MU hg hm cA (bW U cs q) (by decide) (by decide) q rfl) λσ H Q q_=>by
  obtain⟨Hf0,H0,Hf,ρ,d,so,z,k⟩:=q_;unfold lq at z;obtain⟨y,L,M⟩:=cr.mp z;refine⟨Hf0,H0,Hf,ρ,y,so,L,λv Hf' H' x r=>?_⟩;obtain⟨a,kvs,rfl,rd,rfl⟩:=MX M r;exact⟨a,kvs,rfl,rd,k _ Hf' H' x rfl⟩
nonrec abbrev ZpO(h:Heap)(z TI TO a:Addr)(f:Bool):Prop:=
 h.get? z=aa {cls:=.type "zip",dict:=ab,data:=.fields #[iP a,.bool f,.bool ag,.ref TI,.ref TO],slots:=#[]}
variable{oa:Obj}
def Fp{z TI TO a:Addr}{f:Bool}{Q:Bool->aI->Prop}(hz:ZpO s.heap z TI TO a f)(ha:s.heap.get? a=aa oa)(h:∀h',ZpO h' z TI TO a ac->iQ z s.heap h'->Q ag {s with heap:=h'}):wpAny (model P w) A (tG (.ref z)) Q E s:=by
 unfold tG;refine av (iM hz rfl (x:=iP a) rfl ?_)
 change wpAny (model P w) _ (loadIfAlive ((a:Int).toNat) >>= _) _ _ _
 rw[gP];refine av (W.kdx_alive ha ?_);simp only[Option.isNone_some,lw,if_false];refine av (iM hz rfl (x:=.bool f) rfl ?_)
 cases f with
 |true=>
  rw[if_neg (show ¬((gG ac != gG ac)=ac)from bZ)]
  exact bc (h _ hz (iQ.refl _ _))
 |false=>
  rw[if_pos (show(gG ag != gG ac)=ac from rfl)];exact av (wpAny_setField_rec hz (by simp) λM q L=>bc (h M q L))
variable{k1:Nat}{xs ys:Array Value}{Q:Option Value->aI->Prop}
def MY{z TI TO a i1 i2 l1 l2:Addr}{f:Bool}{k2:Nat}{x y:Value}(D:ZipApart z TI TO i1 i2 l1 l2)
 (hz:ZpO s.heap z TI TO a f)(ha:s.heap.get? a=aa oa)(kF:jq s.heap TI (.ref i1) (.ref i2))
 (h1:s.heap.IsListIter i1 l1 k1)(h2:s.heap.IsListIter i2 l2 k2)(pA:s.heap.IsList l1 xs)(hO:s.heap.IsList l2 ys)(hx:xs[k1]?=aa x)(hy:ys[k2]?=aa y)
 (hQ:∀ h',ZpO h' z TI TO a ac->h'.IsListIter i1 l1 (k1 + 1)->h'.IsListIter i2 l2 (k2 + 1)->jq h' s.heap.objs.size x y ->
   (∀c o,c≠z->c≠i1->c≠i2->s.heap.get? c=aa o->h'.get? c=aa o)->Q (aa (.ref s.heap.objs.size)) {s with heap:=h'}):
  wpAny (model P w) A (jo (.ref z)) Q E s:=by
 have hT:s.TypeIs (.ref z) "zip":=⟨_,hz,rfl⟩;unfold jo;refine av (tw (pY (name:=Str.ofString "__next__") hT tI (on tI hT F.entry_zip_next ?_ (F.args_zip_next_1 _))));show wpAny _ _ (field (.ref z) 2 >>= _) _ _ _;refine av (iM hz rfl (x:=.bool ag) rfl ?_);show wpAny _ _ (field (.ref z) 3 >>= _) _ _ _;refine av (iM hz rfl (x:=.ref TI) rfl ?_);refine av (ow kF rfl ?_);show wpAny _ _ (tG (.ref z) >>= _) _ _ _;refine av (Fp hz ha λgp hz₁ q=>?_);simp only[lw,if_false];rw[<- Array.forIn_toList];simp only[forIn_cons,forIn_nil];refine av (av (av (fh ?_)));show wpAny _ _ (xj (.ref i1) >>= _) _ _ _;refine av (wpAny_nextOf_list_item (h1.extBut q.extBut D.i1z) (pA.extBut q.extBut D.l1z) hx λrc h1₂ L=>bc (bc ?_));refine av (av (fh ?_));show wpAny _ _ (xj (.ref i2) >>= _) _ _ _;refine av (wpAny_nextOf_list_item ((h2.extBut q.extBut D.i2z).extBut L.extBut D.i12.symm) ((hO.extBut q.extBut D.l2z).extBut L.extBut D.l2i1) hy λU h2₄ M=>bc (bc (bc ?_)));refine av (wpAny_newTuple (hsz:=by show 2<=aW;rw[cL];decide) ?_);have hsz:U.objs.size=s.heap.objs.size:=by rw[M.1,L.1,q.1]
 have hz₄:ZpO U z TI TO a ac:=M.extBut _ _ D.i2z.symm (L.extBut _ _ D.i1z.symm hz₁);refine bc ⟨_,rfl,bc ?_⟩;show Q (aa (.ref U.objs.size)) _;rw[hsz];have h1₄:=h1₂.extBut M.extBut D.i12;refine hQ (U.push {cls:=.type "tuple",data:=.seq #[x,y]}) (bV _ hz₄) (h1₄.at λo e=>bV _ e) (h2₄.at λo e=>bV _ e) ?_ λc o c1 c3 c4 e=>bV _ (M.extBut _ _ c4 (L.extBut _ _ c3 (q.extBut _ _ c1 e)));rw[<- hsz];exact dS _ rfl
def MZ{z TI TO a M i2 l1 l2:Addr}{f:Bool}(hh:A.handled=ab)(D:ZipApart z TI TO M i2 l1 l2)
 (hz:ZpO s.heap z TI TO a f)(ha:s.heap.get? a=aa oa)(U:jq s.heap TI (.ref M) (.ref i2))(h1:s.heap.IsListIter M l1 k1)(pA:s.heap.IsList l1 xs)(hx:xs[k1]?=ab)
 (hQ:∀h',(∀c o,c≠z->c≠M->c≠i2->s.heap.get? c=aa o->h'.get? c=aa o)->Q ab {s with heap:=h'}):wpAny (model P w) A (jo (.ref z)) Q E s:=by
 have hT:s.TypeIs (.ref z) "zip":=⟨_,hz,rfl⟩;unfold jo;refine av (tw (pY (name:=Str.ofString "__next__") hT tI (on tI hT F.entry_zip_next ?_ (F.args_zip_next_1 _))));show wpAny _ _ (field (.ref z) 2 >>= _) _ _ _;refine av (iM hz rfl (x:=.bool ag) rfl ?_);show wpAny _ _ (field (.ref z) 3 >>= _) _ _ _;refine av (iM hz rfl (x:=.ref TI) rfl ?_);refine av (ow U rfl ?_);show wpAny _ _ (tG (.ref z) >>= _) _ _ _;refine av (Fp hz ha λgp hz₁ q=>?_);simp only[lw,if_false];rw[<- Array.forIn_toList];simp only[forIn_cons,forIn_nil];refine av (av (av (fh ?_)));show wpAny _ _ (xj (.ref M) >>= _) _ _ _;refine av (wpAny_nextOf_list_end hh (h1.extBut q.extBut D.i1z) (pA.extBut q.extBut D.l1z) hx λrc e L he=>?_);obtain⟨o,ho,hc⟩:=he;refine av (wpAny_isInstance (T:="StopIteration") (b:=ac) ⟨o,ho,hc⟩ isSubtype_stop ?_);exact bc (hQ _ λc o c1 c3 _ x=>L _ _ c3 (q.extBut _ _ c1 x))
abbrev ZSt(h:Heap)(D z TI TO q L:Addr):Prop:=(IsZip h z TI TO .none/\∃a b,jq h TO a b)\/∃a oa f,ZpO h z TI TO a f/\h.get? a=aa oa/\a≠D/\a≠z/\a≠q/\a≠L
def M0{D z TI TO q L l1 l2:Addr}{x y:Value}(Z:ZipApart z TI TO q L l1 l2)(hD:D<s.heap.objs.size)
 (hz:ZSt s.heap D z TI TO q L)(M:jq s.heap TI (.ref q) (.ref L))(h1:s.heap.IsListIter q l1 k)(h2:s.heap.IsListIter L l2 k)(U:s.heap.IsList l1 xs)(hO:s.heap.IsList l2 ys)(hx:xs[k]?=aa x)(hy:ys[k]?=aa y)
 (hQ:∀h' t,ZSt h' D z TI TO q L->h'.IsListIter q l1 (k+1)->h'.IsListIter L l2 (k+1)->jq h' t x y->(∀c o,c≠z->c≠TO->c≠q->c≠L->s.heap.get? c=aa o->h'.get? c=aa o)->Q (aa (.ref t)) {s with heap:=h'}):
  wpAny (model P w) A (jo (.ref z)) Q E s:=by
 have lt:∀{c:Addr} {o:Obj},s.heap.get? c=aa o->s.heap.objs.size≠c:=λe=>lD (bD e);have e1:s.heap.objs.size≠q:=by obtain⟨o,e,_⟩:=h1;exact lt e
 have e2:s.heap.objs.size≠L:=by obtain⟨o,e,_⟩:=h2;exact lt e
 rcases hz with⟨hz,a,b,hB⟩ |⟨a,oa,f,hz,ha,aD,az,a1,a2⟩
 .exact wpAny_pyNext_zip_item Z hz M hB h1 h2 U hO hx hy λh' b1 b2 b3 b4 b5 _ b7=>hQ h' _ (.inr ⟨_,_,ag,b1,b5,lD hD,lt hz,e1,e2⟩) b3 b4 b5 b7
 .exact MY Z hz ha M h1 h2 U hO hx hy λh' b1 b3 b4 b5 b7=>hQ h' _ (.inr ⟨a,oa,ac,b1,b7 a oa az a1 a2 ha,aD,az,a1,a2⟩) b3 b4 b5 λc o c1 _ c3 c4 e=>b7 c o c1 c3 c4 e
def M1(hh:A.handled=ab)(D z TI TO i1 i2 l1 l2:Addr)(Z:ZipApart z TI TO i1 i2 l1 l2)(Dz:D≠z)(DTI:D≠TI)(DTO:D≠TO)(D1:D≠i1)(D2:D≠i2)(Dl1:D≠l1)(Dl2:D≠l2)(xs ys:Array Value)(ps:List (Key×Value))(nd:(ps.map (·.1)).Nodup)(hz:ps.length<=1000)
 (hsz:xs.size=ps.length)(pa:∀(i:Nat) (p:Key×Value),ps[i]?=aa p->∃key,xs[i]?=aa key/\ys[i]?=aa p.2/\(cX P w).is p.1 key=ac):
  ∀(n i:Nat) (s:aI),i+n=ps.length->ZSt s.heap D z TI TO i1 i2->jq s.heap TI (.ref i1) (.ref i2)->s.heap.IsList l1 xs->s.heap.IsList l2 ys->s.heap.IsListIter i1 l1 i->s.heap.IsListIter i2 l2 i->s.heap.DictOf (cX P w) D (ps.take i) ->
   (∀h' tk,h'.DictOf (cX P w) D ps->(∀b o,b≠D->b≠z->b≠TO->b≠i1->b≠i2->s.heap.get? b=aa o->h'.get? b=aa o)->R (.ok (.ret .none)) {s with heap:=h',toks:=tk}) ->
   gS (model P w) A (.builtin "dict.update.loop" ⟨[.ref D,.ref z,.int i 0,.none],[]⟩) R s:=by
 intro n
 induction n with
 |zero=>
  intro i s hi zs L M U h1 h2 hd k;refine lF u5 ?_;rw[tz l8];unfold c9.«dict.update.loop»;dsimp only;have hx:xs[i]?=ab:=wW (by lia)
  have fin:∀h',(∀c o,c≠z->c≠TO->c≠i1->c≠i2->s.heap.get? c=aa o->h'.get? c=aa o)->R (.ok (.ret .none)) {s with heap:=h'}:=λh' kk=>by
   have e:ps.take i=ps:=jk (by lia);rw[e]at hd;obtain⟨od,es,ep,ho,r⟩:=hd;exact k h' s.toks ⟨od,es,ep,kk D od Dz DTO D1 D2 ho,r⟩ λb o _ b1 b2 b3 b4 eo=>kk b o b1 b2 b3 b4 eo
  rcases zs with⟨hz,a,b,hB⟩ |⟨a,oa,f,hz,ha,aD,az,a1,a2⟩
  .refine av (wpAny_pyNext_zip_end (A:=A.in1) hh Z hz L hB h1 h2 M U (.inl hx) λh' kk=>?_);dsimp only;exact av (bc (bc (fin h' kk)))
  .refine av (MZ (A:=A.in1) hh Z hz ha L h1 M hx λh' kk=>?_);dsimp only
   exact av (bc (bc (fin h' λc o c1 _ c3 c4 e=>kk c o c1 c3 c4 e)))
 |succ n ih=>
  intro i s hi zs L M U h1 h2 hd k;refine lF u5 ?_;rw[tz l8];unfold c9.«dict.update.loop»;dsimp only;obtain⟨p,hp⟩:∃p,ps[i]?=aa p:=⟨_,cR (by lia)⟩;obtain⟨key,e1,e2,hk⟩:=pa i p hp;have hDlt:D<s.heap.objs.size:=by obtain⟨od,es,ep,ho,r⟩:=hd;exact bD ho
  refine av (M0 Z hDlt zs L h1 h2 M U e1 e2 λha t zs1 i11 i21 ht kk=>?_);dsimp only
  have hd1:ha.DictOf (cX P w) D (ps.take i):=by
   obtain⟨od,es,ep,ho,r⟩:=hd;exact⟨od,es,ep,kk D od Dz DTO D1 D2 ho,r⟩
  have ht1:ha.IsTuple t #[key,p.2]:=⟨_,ht,rfl,_,rfl⟩;refine av (fh (av (wpAny_tryCatch ?_)));unfold BQ
  refine av (lG (s:={s with heap:=ha}) ht1.typeIs ?_)
  rw[if_pos (by decide)];obtain⟨o,eo,oc,nn,od⟩:=id ht1;refine av (ow eo od ?_);refine bc ?_;show wpAny _ _ (hZ [key,p.2] (dictSet D key p.2)) _ _ _;refine fh (wpAny_dictSet_pairs (kvs:=ps.take i) hk hd1 (λh2 d2 q=>?_) (by rw[hJ,cL];lia))
  have hsplit:ps=ps.take i++p::ps.drop (i+1):=by
   have h0:i<ps.length:=by lia
   have:ps[i]=p:=by rw[cR h0]at hp;exact cz hp
   rw[<- this,<- sM h0,pU]
  have hst:iO (ps.take i) p.1 p.2=ps.take (i+1):=by
   unfold iO
   have hno:((ps.take i).any λkv=>decide (kv.1=p.1))=ag:=by
    rw[any_eq_false];intro kv hkv hc;rw[hsplit,bp,cS]at nd;have:=(eG.mp nd).2.2 kv.1 (cq.mpr ⟨kv,hkv,rfl⟩) p.1 bK;exact this (of_decide_eq_true hc)
   rw[if_neg (by rw[hno];exact bZ),take_add_one,hp];rfl
  rw[hst]at d2;have ke:∀b o,b≠D->b≠z->b≠TO->b≠i1->b≠i2->s.heap.get? b=aa o->h2.get? b=aa o:=λb o hb b1 b2 b3 b4 eo=>(q.2 b hb).trans (kk b o b1 b2 b3 b4 eo);refine bc ⟨ox l8 _,?_⟩
  refine ih (i+1) {s with heap:=h2,toks:=s.toks+1} (by lia) ?_ ?_ ?_ ?_ ?_ ?_ d2 λh' tk hd' kp=>k h' tk hd' λb o hb b1 b2 b3 b4 eo=>kp b o hb b1 b2 b3 b4 (ke b o hb b1 b2 b3 b4 eo)
  .rcases zs1 with⟨hz,a,b,hB⟩ |⟨a,oa,f,hz,ha,aD,az,a1,a2⟩
   .exact .inl ⟨(q.2 z (ce Dz)).trans hz,a,b,(q.2 TO (ce DTO)).trans hB⟩
   .exact .inr ⟨a,oa,f,(q.2 z (ce Dz)).trans hz,(q.2 a aD).trans ha,aD,az,a1,a2⟩
  .exact ke TI _ (ce DTI) Z.TIz Z.TITO Z.TIi1 Z.TIi2 L
  .obtain⟨o',eo',r'⟩:=M;exact⟨o',ke l1 o' (ce Dl1) Z.l1z Z.l1TO Z.l1i1 Z.l1i2 eo',r'⟩
  .obtain⟨o',eo',r'⟩:=U;exact⟨o',ke l2 o' (ce Dl2) Z.l2z Z.l2TO Z.l2i1 Z.l2i2 eo',r'⟩
  .exact i11.at λo e=>(q.2 i1 (ce D1)).trans e
  .exact i21.at λo e=>(q.2 i2 (ce D2)).trans e
def M3:lH (.type "zip") "keys"=pure ab:=by rw[mO,mM];kernel_rfl
def M4:lH (.type "zip") "__getattr__"=pure ab:=by rw[mO,mM];kernel_rfl
def M5:entryFor table "zip.__getattribute__"=aa c9.«object.__getattribute__»:=
 entryFor_alias (id':="object.__getattribute__") (by kernel_rfl) (by decide +kernel) (by decide +kernel) (by kernel_rfl)
def M6(a TI TO:Addr)(name:Str)(u:Tok)(L:lH (.type "zip") name=pure ab)(q:(["__module__","__name__","__qualname__","__doc__","__annotations__"]:LSt).contains name=ag)(hsz:name.length+100<=aW:=by size_fits):
  Meets (c9.«object.__getattribute__» ⟨[.ref a,.str name u],[]⟩) (λA R s=>IsZip s.heap a TI TO .none/\raisesAttr (.ref a) name A R s):=
 Meets.of_wp λprog w A R s z=>by
  obtain⟨M,g,d,tk,os⟩:=s;obtain⟨U,z⟩:=z;have hT:(⟨M,g,d,tk,os⟩:aI).TypeIs (.ref a) "zip":=⟨_,U,rfl⟩;unfold c9.«object.__getattribute__»
  repeat (any_goals (first |assumption |wp_step))
  simp only[q,lw,if_false]
  repeat (any_goals (first |assumption |wp_step))
  exact wpAny_raiseAttrError z.1 z.2 (attrMsg_fits (by decide +kernel) hsz)
def M7{z TI TO:Addr}(hh:A.handled=ab)(hx:IsZip s.heap z TI TO .none)
 (h:∀h' tk,(∀b o,s.heap.get? b=aa o->h'.get? b=aa o)->Q ab {s with heap:=h',toks:=tk}):wpAny (model P w) A (getAttr? (.ref z) "keys") Q E s:=by
 obtain⟨hq,gq,dq,tq,oq⟩:=s;have U:∀L,(⟨hq,gq,dq,L,oq⟩:aI).TypeIs (.ref z) "zip":=λ_=>⟨_,hx,rfl⟩;have f1:=sub_AttributeError;have f3:=xo.lookup;have f4:=xo.bind (.ref z);have M:=M4;unfold getAttr?;unfold getAttrBy?;unfold getAttrBy
 repeat (any_goals (first |assumption |exact U _ |((with_reducible show wpAny _ _ (call (Value.builtin "zip.__getattribute__") _ _) _ _ _);refine call_meets xo (U _) M5 (PySem.F.args_zip_getattribute_2 _ _) (M6 z TI TO "keys" _ M3 (by decide)) ⟨hx,hh,λh' L e q=>?_⟩) |wp_step))
 obtain⟨ta,ua,hea⟩:=q.there
 show wpAny _ _ (s9 _ _ _ _ _ _ _) _ _ _;unfold s9;repeat any_goals (first |assumption |wp_step)
 exact h _ _ q.keeps
def M8{z TI TO i1 i2 l1 l2:Addr}{ps:List (Key×Value)}{a b:Value}{Q:PRS}(hh:A.handled=ab)(Z:ZipApart z TI TO i1 i2 l1 l2)
 (hz:IsZip s.heap z TI TO .none)(kF:jq s.heap TI (.ref i1) (.ref i2))(hB:jq s.heap TO a b)(h1:s.heap.IsListIter i1 l1 0)(h2:s.heap.IsListIter i2 l2 0)(pA:s.heap.IsList l1 xs)(hO:s.heap.IsList l2 ys)
 (nd:(ps.map (·.1)).Nodup)(hsz:ps.length<=1000)(hxs:xs.size=ps.length)(pa:∀(i:Nat) (p:Key×Value),ps[i]?=aa p->∃key,xs[i]?=aa key/\ys[i]?=aa p.2/\(cX P w).is p.1 key=ac)
 (h:∀h' tk,h'.DictOf (cX P w) s.heap.objs.size ps->(∀b o,b≠z->b≠TO->b≠i1->b≠i2->s.heap.get? b=aa o->h'.get? b=aa o)->Q (.ref s.heap.objs.size) {s with heap:=h',toks:=tk}):
  wpAny (model P w) A (call (.type "dict") [.ref z]) Q E s:=by
 refine callType_codes (Q₁:=λobj L=>obj=.ref s.heap.objs.size/\L={s with heap:=s.heap.push {cls:=.type "dict",data:=.dict #[]}}) PySem.F.kt_called_dict (BW _) PySem.F.entry_dict_init (kt_code_dict_new _ ⟨rfl,rfl⟩) ?_
 rintro obj L ⟨rfl,rfl⟩;have q:(s.heap.push {cls:=.type "dict",data:=.dict #[]}).DictOf (cX P w) s.heap.objs.size []:=xu s.heap;have M:∀b o,s.heap.get? b=aa o->(s.heap.push {cls:=.type "dict",data:=.dict #[]}).get? b=aa o:=λb o e=>bV _ e;refine⟨q.typeIs,PySem.F.args_dict_init_2 _ _,?_⟩;unfold c9.«dict.__init__»;refine av ?_;unfold BP;refine av (xc q.typeIs ?_);show wpAny _ _ (pure (s.heap.objs.size,[iR z])) _ _ _;refine bc ?_;show wpAny _ _ (tB "dict.__init__" s.heap.objs.size (.ref z) [] .none) _ _ _
 have hzT:({s with heap:=s.heap.push {cls:=.type "dict",data:=.dict #[]}}:aI).TypeIs (.ref z) "zip":=⟨_,M _ _ hz,rfl⟩
 unfold tB;refine av (lG hzT ?_);rw[if_pos (by decide)];refine av (M7 hh (M _ _ hz) λU tk2 k2=>?_);simp only[Option.isNone_none,if_true];refine av (mS ?_);have up:∀b o,s.heap.get? b=aa o->U.get? b=aa o:=λb o e=>k2 b o (M b o e)
 refine av (wpAny_pyIter_zip (s:={s with heap:=U,toks:=tk2}) (up _ _ hz) ?_)
 have ne:∀{b:Addr} {o:Obj},s.heap.get? b=aa o->s.heap.objs.size≠b:=λe=>lD (bD e);refine bc ⟨ox l8 _,?_⟩;refine M1 (A:=A.in1) hh s.heap.objs.size z TI TO i1 i2 l1 l2 Z (ne hz) (ne kF) (ne hB) ?_ ?_ ?_ ?_ xs ys ps nd hsz hxs pa ps.length 0 _ (sY _) (.inl ⟨up _ _ hz,a,b,up _ _ hB⟩) (up _ _ kF) ?_ ?_ (h1.at λo e=>up _ _ e) (h2.at λo e=>up _ _ e) ?_ λh' tk hd kp=>?_
 .obtain⟨o,e,_⟩:=h1;exact ne e
 .obtain⟨o,e,_⟩:=h2;exact ne e
 .obtain⟨o,e,_⟩:=pA;exact ne e
 .obtain⟨o,e,_⟩:=hO;exact ne e
 .obtain⟨o,e,r⟩:=pA;exact⟨o,up _ _ e,r⟩
 .obtain⟨o,e,r⟩:=hO;exact⟨o,up _ _ e,r⟩
 .obtain⟨od,es,ep,ho,r⟩:=q;exact⟨od,es,ep,k2 _ _ ho,r⟩
 .exact⟨rfl,h h' tk hd λb o c1 c2 c3 c4 e=>kp b o (ce (ne e)) c1 c2 c3 c4 (up b o e)⟩
def KV.zip:∀{ks:List Key} {us:List V} {ws:LVa},aX us ws->KV (ks.zip us) (ks.zip ws)
 | [],_,_,_=>.nil
 | _::_,_,_,.nil=>.nil
 | _::_,_,_,.cons r t=>.cons ⟨rfl,r⟩ (KV.zip t)
abbrev M9(K:bm)(ta:TA):TE:=λσ H Q=>ta σ H λvs H1=>∃(q z:Addr) (ks:List Key) (us:List V),vs=[.ref q,.ref z]/\SqL K H1 q (ks.map kV)/\SqL K H1 z us/\ks.length=us.length/\ks.Nodup/\ks.length<=1000/\∀p,H1 p=ab->Q (.ref p) (upd H1 p (.dK (ks.zip us)))
variable{p0 pos0:Pos}
def Na{pos:Pos}(hc:X.calm=ac)(hgd:Gl X "dict")(hmd:X.mg "dict"=ab)(hg:Gl X "zip")(hm:X.mg "zip"=ab)(ha:PA X [a,b] ta)(hs:aY [a,b] X.env=[(ag,eval a X.env),(ag,eval b X.env)]:=by rfl)(U:aY [b] X.env=[(ag,eval b X.env)]:=by rfl)
 (hst:aY [.Call (.Name "zip" p) [a,b] [] pos] X.env=(ag,eval (.Call (.Name "zip" p) [a,b] [] pos) X.env)::aY [] X.env:=by rfl):
  PE X (.Call (.Name "dict" p0) [.Call (.Name "zip" p) [a,b] [] pos] [] pos0) (M9 X.K ta):=by
 intro pins s σ H Q I h;refine mN (iU I hgd hmd yP (kE ?_ hst rfl) (by decide) (by decide));rw[hst];show wpAny _ _ (spliced ((ag,eval (.Call (.Name "zip" p) [a,b] [] pos) X.env)::fT pos0 (aY [] X.env))) _ _ s;refine mT ?_;refine Call_ (iU I hg hm boot_zip (kE (thn (ha pos pins s σ H _ I h) λus s1 ⟨vs,H1,M,r1,q1⟩=>?_) (by rw[hs,U]) (by rw[U];rfl)));obtain⟨l1,l2,ks,ws,e,q1,q2,hl,nd,hz,q⟩:=q1;subst e;obtain⟨u,v,rfl,ru,rv⟩:=qj r1;subst ru;subst rv;obtain⟨sg,r1,p1,z1⟩:=M.list q1;obtain⟨z,r2,p2,z2⟩:=M.list q2;have e1:=r1.length;have e2:=r2.length;rw[au]at e1;refine call_zip_2 p1.isList p2.isList λh' a1 a2 a3 a4 a5 a6 a7=>xl ?_;have hps:(ks.zip z).length=ks.length:=by rw[jQ];lia
 have lt:∀{c:Addr} {o:Obj},s1.heap.get? c=aa o->c<s1.heap.objs.size:=λe=>bD e;have pA:h'.IsList l1 sg.toArray:=by obtain⟨o,e,r⟩:=p1.isList;exact⟨o,a7 _ _ e,r⟩
 have hO:h'.IsList l2 z.toArray:=by obtain⟨o,e,r⟩:=p2.isList;exact⟨o,a7 _ _ e,r⟩
 refine M8 (s:={s1 with heap:=h'}) (ps:=ks.zip z) (M.ok.hd hc) (zipApart_new p1.lt p2.lt) a1 a2 a3 a4 a5 pA hO (by rw[mF (by lia)];exact nd) (by lia) (by rw[size_toArray];lia) (λi pr hp=>?_) λh'' tk hd kp=>?_
 .obtain⟨i1,i2⟩:=List.getElem?_zip_eq_some.mp hp;obtain⟨u,eu,rk⟩:=r1.get (x:=kV pr.1) (i:=i) (by rw[eM,i1];rfl);exact⟨u,by rw[sK];exact eu,by rw[sK];exact i2,m5 rk⟩
 .have hd':h''.DictOf (cX X.prog X.w) h'.objs.size (ks.zip z):=hd;have L:s1.heap.objs.size<=h'.objs.size:=by lia
  refine⟨.ref _,_,M.laid (t':=tk) (a:=h'.objs.size) (λb o e=>?_) L (o:=.dK (ks.zip ws)) ⟨?_,?_,ks.zip z,KV.zip r2,hd'⟩,rfl,q _ (M.hok.fresh L)⟩
  .have l4:∀n,b≠s1.heap.objs.size+n:=λn=>cy (f8 (lt e) (mJ _ _));exact kp b o (l4 4) (l4 3) (l4 0) (l4 1) (a7 b o e)
  .rw[jQ,cL];lia
  .exact beq_eq_false_iff_ne.mpr (ce (cy (f8 M.big L)))
abbrev pd:LD->Option (List Key)
 | []=>aa []
 |d::ds=>(i3 d).bind λk=>(pd ds).map λr=>k::r
def Fs{G:Gc}{H:Hp}:∀{ds:LD} {vs:List V} {ks:List Key},pd ds=aa ks->aB G H ds vs->vs=ks.map kV
 | [],vs,ks,e,r=>by
  cases e
  exact r
 |d::ds,vs,ks,e,r=>by
  obtain⟨v,vr,rfl,U,M⟩:=r;obtain⟨k,z,e⟩:=cr.mp e;obtain⟨q,L,e⟩:=mK.mp e;subst e;rw[oP z U,Fs L M];rfl
abbrev yZ:LD->OD
 | [x,y]=>(lsD x).bind λxs=>(lsD y).bind λys=>(pd xs).bind λks=>if ks.Nodup/\ks.length=ys.length/\ks.length<=1000 then aa (.dic ks ys) else ab
 | _=>ab
abbrev vd(f:MF2)(ρ:LS):OD:=(f ρ).bind yZ
def Nb{pos:Pos}{f:MF2}(hc:X.calm=ac)(U:Gl X "dict")(hmd:X.mg "dict"=ab)(hg:Gl X "zip")(hm:X.mg "zip"=ab)(ha:DA c X [a,b] f)(hs:aY [a,b] X.env=[(ag,eval a X.env),(ag,eval b X.env)]:=by rfl)(hs2:aY [b] X.env=[(ag,eval b X.env)]:=by rfl)
 (hst:aY [.Call (.Name "zip" p) [a,b] [] pos] X.env=(ag,eval (.Call (.Name "zip" p) [a,b] [] pos) X.env)::aY [] X.env:=by rfl):DE c X (.Call (.Name "dict" p0) [.Call (.Name "zip" p) [a,b] [] pos] [] pos0) (vd f):=
 PE.imp (Na hc U hmd hg hm ha.pa hs hs2 hst) λσ H Q q_=>by
  obtain⟨Hf0,H0,Hf,ρ,d,st,z,k⟩:=q_;unfold vd at z;obtain⟨ds,e1,z⟩:=cr.mp z;refine⟨Hf0,H0,Hf,ρ,ds,st,e1,λvs Hf' H' x r=>?_⟩;unfold yZ at z;split at z
  .rename_i x1 y1;obtain⟨xs,e2,z⟩:=cr.mp z;obtain⟨ys,e3,z⟩:=cr.mp z;obtain⟨ks,e4,z⟩:=cr.mp z;split at z
   .rename_i hq;have z:=cz z;subst z;obtain⟨v1,v2,rfl,r1,r2⟩:=r.two;obtain⟨l1,np,rfl,q1,rs1⟩:=gH e2 r1;obtain⟨l2,L,rfl,q2,M⟩:=gH e3 r2;have:=Fs e4 rs1;subst this;have hl:=M.length;refine⟨l1,l2,ks,L,rfl,x.s.seq q1,x.s.seq q2,by lia,hq.1,hq.2.2,λq hq'=>?_⟩;have x2:=Ext.new (o:=.dK (ks.zip L)) x.s hq';exact k _ _ _ (x.trans x2) ⟨q,L,rfl,bw,by lia,M.up x2.f⟩
   .nomatch z
  .nomatch z
section
variable{prog:dn}{w:World}{K:Type}[DecidableEq K]{knd:KeyKind prog w K}{A:eI}{E:PRS}{s:aI}
nonrec abbrev y0(knd:KeyKind prog w K)(kvs:List (K×Value))(i:Nat)(v:Value):Prop:=∃k x,kvs[i]?=aa (k,x)/\knd.is k v=ac
def Nd{R:Result->aI->Prop}(hh:A.handled=ab){d:Addr}{kvs:List (K×Value)}{ep:Nat}(hd:(d==gE)=ag)(hm:s.heap.DictAt knd d kvs ep)(S:Addr)(res:Value)(c₀:Nat)(hS:s.heap.get? S=aa {cls:=.type "list",data:=.seq #[] c₀})
 (hR:∀ h' tk q c',(∀ b o,b≠S->s.heap.get? b=aa o->h'.get? b=aa o)->h'.get? S=aa { cls:=.type "list",dict:=ab,data:=.seq q c',slots:=#[] } ->
   ItemsOf (y0 knd kvs) q kvs.length->R (.ok (.ret res)) {s with heap:=h',toks:=tk})(hn:kvs.length<=aW):
  wpAny (model prog w) A.in1 (tF (.ref S) (.ref d) res)
   (λfin s'=>match fin with |.done f=>R (.ok f) s' |.again c'=>c'.quiet=ac/\gS (model prog w) A c' R s') (λe s'=>R (.error e) s') s:=by
 obtain⟨od,es,ho,hr⟩:=id hm;have hof:s.heap.DictOf knd d kvs:=⟨od,es,ep,ho,hr⟩;have hT:s.TypeIs (.ref d) "dict":=hof.typeIs
 have hSd:S≠d:=λz=>by
  subst z;obtain⟨o,e,c⟩:=hT;rw[hS]at e;cases e;exact absurd (show jr "list"=jr "dict" from c) (by decide)
 have hSI:S≠s.heap.objs.size:=cy (bD hS);have hdI:d≠s.heap.objs.size:=cy (bD ho)
 have hSf:S∉[s.heap.objs.size,d]:=λh=>by
  rcases b8.mp h with e |e
  .exact hSI e
  .exact hSd (ca.mp e)
 unfold tF;refine av (lG hT ?_)
 have h1:c9.List.listSameRef (.ref S) (.ref d)=ag:=by
  show(S==d)=ag;exact beq_eq_false_iff_ne.mpr hSd
 have h2:(jr "dict" == jr "list")=ag:=by decide
 have h3:(jr "dict" == jr "tuple")=ag:=by decide
 simp only[h1,h2,h3,Bool.or_false,lw,if_false];refine av (wpAny_pyIter_dict hd hm ?_)
 have hT':({s with heap:=s.heap.push {cls:=.type "dict_keyiterator",data:=.fields #[.ref d,iP 0,iP kvs.length,iP ep]}}:aI).TypeIs (.ref d) "dict":=by
  obtain⟨o,e,c⟩:=hT;exact⟨o,bV _ e,c⟩
 refine av (fh ?_);unfold c9.List.listLengthHint;refine av (wpAny_specialOf hT' PySem.F.slot_dict_len.lookup ?_)
 wp_delta
 refine av (wpAny_isInstance hT' (b:=ac) (by rw[p6];kernel_rfl) ?_);show wpAny _ _ (typeOf (iR d) >>= _) _ _ _;refine av (lG hT' ?_);refine bc ?_;rw[if_pos (by decide)];refine av (mS ?_);refine av ?_;show wpAny _ _ (updateSeq S (·.push .none) >>= λ_=>updateSeq S (·.pop)) _ _ _;have L:=bV {cls:=.type "dict_keyiterator",data:=.fields #[.ref d,.int 0 0,.int kvs.length 0,.int ep 0]} hS;refine av (wpAny_updateSeq L rfl ?_);have M:=oy (ib (·.push oA)) L rfl;refine wpAny_updateSeq (hz:=by seq_fits) M rfl ?_;have hS₃:=oy (ib (·.pop)) M rfl
 have oth:∀b o,b≠S->s.heap.get? b=aa o->(((s.heap.push {cls:=.type "dict_keyiterator",data:=.fields #[.ref d,.int 0 0,.int kvs.length 0,.int ep 0]}).update S (ib (·.push oA))).update S (ib (·.pop))).get? b=aa o:=λb o hb e=>
  (mU _ _ (ce hb)).trans ((mU _ _ (ce hb)).trans (bV _ e))
 have ms:(((s.heap.push {cls:=.type "dict_keyiterator",data:=.fields #[.ref d,.int 0 0,.int kvs.length 0,.int ep 0]}).update S (ib (·.push oA))).update S (ib (·.pop))).IsKeyIter s.heap.objs.size d 0 kvs.length ep:=
  ⟨_,(mU _ _ hSI).trans ((mU _ _ hSI).trans (dS _ rfl)),rfl,rfl⟩
 have hm3:(((s.heap.push {cls:=.type "dict_keyiterator",data:=.fields #[.ref d,.int 0 0,.int kvs.length 0,.int ep 0]}).update S (ib (·.push oA))).update S (ib (·.pop))).DictAt knd d kvs ep:=hm.at' λo e=>oth d o (ce hSd) e;refine bc ⟨ox F.plain_extend_loop _,codeAny_extend_loopS (Walks.dictKeys (A:=A.in1) hh s.heap.objs.size d hdI kvs ep).toS hn _ hSf _ kvs.length 0 _ _ _ rfl (gD _) ⟨ms,hm3⟩ hS₃ (ItemsOf.nil _) λs' q c' hmv hS' hacc=>?_⟩;rw[Moved.eq_with hmv];refine hR s'.heap s'.toks q c' (λb ob hb e=>hmv.heap b ob (λU=>?_) (oth b ob hb e)) hS' hacc
 rcases b8.mp U with e' |U
 .exact hb e'
 .exact absurd (bD e) (by rw[ca.mp U];exact jR _)
def Nf{R:Result->aI->Prop}(hh:A.handled=ab){d:Addr}{kvs:List (K×Value)}{ep:Nat}(hd:(d==gE)=ag)(hm:s.heap.DictAt knd d kvs ep)(S:Addr)(hSd:d≠S)(hS:s.heap.get? S=aa {cls:=.type "list",data:=.seq #[]})
 (hR:∀ h' tk q L,(∀ b o,b≠S->s.heap.get? b=aa o->h'.get? b=aa o)->h'.get? S=aa { cls:=.type "list",dict:=ab,data:=.seq q L,slots:=#[] } ->
   ItemsOf (y0 knd kvs) q kvs.length->R (.ok (.ret .none)) {s with heap:=h',toks:=tk})(hn:kvs.length<=aW):
  wpAny (model prog w) A.in1 (c9.«list.__init__» ⟨[.ref S,.ref d],[]⟩)
   (λfin s'=>match fin with |.done f=>R (.ok f) s' |.again L=>L.quiet=ac/\gS (model prog w) A L R s') (λe s'=>R (.error e) s') s:=by
 show wpAny _ _ (do let old <- BS (.ref S);c9.List.listUpdate (.ref S) (λ_=>#[]);letGo old.toList.reverse;tF (.ref S) (.ref d) .none) _ _ s
 refine av ?_;unfold BS;refine av (ow hS rfl (bc ?_));show wpAny _ _ (updateSeq S (λ_=>#[]) >>= λ_=>letGo (#[]:Array Value).toList.reverse >>= λ_=>tF (.ref S) (.ref d) .none) _ _ s;refine av (wpAny_updateSeq hS rfl ?_);have z:=oy (ib (λ_=>(#[]:Array Value))) hS rfl
 have U:∀b o,b≠S->s.heap.get? b=aa o->(s.heap.update S (ib (λ_=>(#[]:Array Value)))).get? b=aa o:=
  λb o hb e=>(mU _ _ (ce hb)).trans e
 refine av (wpAny_letGo ?_);refine Nd hh hd (hm.at' λo e=>U d o hSd e) S .none _ z (λh' tk q L hk hS' M=>?_) hn;exact hR h' tk q L (λb o hb e=>hk b o hb (U b o hb e)) hS' M
def Ng{Q:PRS}(hh:A.handled=ab){d:Addr}{kvs:List (K×Value)}{ep:Nat}(hd:(d==gE)=ag)(hm:s.heap.DictAt knd d kvs ep)
 (hQ:∀ h' tk q U,(∀ b o,s.heap.get? b=aa o->h'.get? b=aa o) ->
   h'.get? s.heap.objs.size=aa {cls:=.type "list",dict:=ab,data:=.seq q U,slots:=#[]}->ItemsOf (y0 knd kvs) q kvs.length->Q (.ref s.heap.objs.size) {s with heap:=h',toks:=tk})(hn:kvs.length<=aW):
  wpAny (model prog w) A (call (.type "list") [.ref d]) Q E s:=by
 have hds:d≠s.heap.objs.size:=by obtain⟨o,es,ho,_⟩:=hm;exact cy (bD ho)
 refine callType_codes (Q₁:=λobj z=>obj=.ref s.heap.objs.size/\z={s with heap:=s.heap.push {cls:=.type "list",data:=.seq #[]}}) F.called_list (F.typeCall_list_1 _) F.entry_list_init
  (code_list_new _ ⟨rfl,rfl⟩) λobj z M=>?_
 obtain⟨rfl,rfl⟩:=M;have hS:(s.heap.push {cls:=.type "list",data:=.seq #[]}).get? s.heap.objs.size=aa {cls:=.type "list",data:=.seq #[]}:=dS _ rfl;refine⟨⟨_,hS,rfl⟩,F.args_list_init_2 _ _,Nf (A:=A.in1) hh hd (hm.at' λo e=>bV _ e) _ hds hS (λh' tk q U hk hS' L=>?_) hn⟩;exact⟨rfl,hQ h' tk q U (λb o e=>hk b o (cy (bD e)) (bV _ e)) hS' L⟩
end
def Ft:∀{xs:List V} {its:LVa},xs.length=its.length->(∀(i:Nat) x u,xs[i]?=aa x->its[i]?=aa u->aR x u)->aX xs its
 | [],[],_,_=>.nil
 |x::xs,u::its,hl,h=>.cons (h 0 x u rfl rfl) (Ft (Nat.succ.inj hl) λi y w q z=>h (i+1) y w q z)
 | [],_::_,hl,_=>nomatch hl
 | _::_,[],hl,_=>nomatch hl
def Nh(hc:X.calm=ac):ga X (.type "list") (λxs H Q=>∃a od kvs,xs=[.ref a]/\H a=aa (.frz od (.dK kvs))/\∀p,H p=ab->Q (.ref p) (upd H p (.lst (kvs.map λkv=>kV kv.1)))):=by
 rintro pins s σ H xs ws Q I r ⟨a,od,kvs,rfl,hH,q⟩;obtain⟨_,rfl,r1⟩:=ju r;cases r1;obtain⟨ho,z,ns,vs,U,od',es,ep,ho',exd,hd',kk,pp,nd⟩:=I.hok a _ hH;have hm:s.heap.DictAt _ a vs ep:=⟨od',es,ho',exd,hd',kk,pp,nd⟩;have hl:=U.length;refine Ng (I.ok.hd hc) ns hm (λh' tk L c' kp hS M=>?_) (by lia);obtain⟨hsz,ms⟩:=M;have hal:L.toList.length=kvs.length:=by rw[pP,hsz,hl]
 refine⟨.ref _,_,I.laid (t':=tk) kp (aU _) (o:=.lst (kvs.map λkv=>kV kv.1)) ⟨by rw[au];exact z,L.toList,c',Ft (by rw[au,hal]) λi x u e1 e2=>?_,by rw[Array.toArray_toList];exact hS⟩,rfl,q _ I.fresh⟩;rw[eM]at e1;obtain⟨kv,ek,rfl⟩:=mK.mp e1;obtain⟨k,y,ev,hk⟩:=ms i u (by rw[<- wX];exact e2);obtain⟨w',ew,e3,_⟩:=KV.get U ek;rw[ev]at ew;cases ew;rw[e3];exact LI hk
abbrev ve(f:MF1)(ρ:LS):OLD:=(f ρ).bind LK
def Ni{pos:Pos}{f:MF1}(hc:X.calm=ac)(hg:Gl X "list")(hm:X.mg "list"=ab)(he:DE c X e f)(L:aY [e] X.env=(ag,eval e X.env)::aY [] X.env:=by rfl):DO c X (.Call (.Name "list" p) [e] [] pos) (ve f):=
 PE.imp (tZ (Nh hc) hg hm mL (bW he cs L) (by decide) (by decide) L rfl) λσ H Q q_=>by
  obtain⟨Hf0,H0,Hf,ρ,ds,so,ef,k⟩:=q_;unfold ve at ef;obtain⟨d,e1,U⟩:=cr.mp ef;refine⟨Hf0,H0,Hf,ρ,d,so,e1,λv Hf' H' x r=>?_⟩
  cases d with
  |kd ks xs=>
   cases U;obtain⟨a,od,vs,rfl,q,z,_⟩:=r;refine⟨a,od,_,rfl,x.s _ _ q,λl M=>?_⟩;have hf:Hf' l=ab:=x.s.free M;refine k l _ Hf' _ (x.trans (Ext.tmp x.s M)) (aH.free x.h M) hf bw ?_
   have ez:(ks.zip vs).map (λkv=>kV kv.1)=ks.map kV:=by
    have:=map_map (g:=kV) (f:=Prod.fst) (l:=ks.zip vs);rw[mF (by lia)]at this;exact this.symm
   rw[ez]
   have go:∀ks:List Key,aB (Gx c X) Hf' (ks.map kD) (ks.map kV):=λks=>by
    induction ks with
    |nil=>exact rfl
    |cons k ks ih=>exact .cons (LJ k) ih
   exact go ks
  | _=>nomatch U
abbrev vf(x y z:D):OD:=(j8 x).bind λp=>(i3 y).map λk=>(iA p.1 p.2 k).getD z
abbrev md(f g h:MF1)(ρ:LS):OD:=(f ρ).bind λx=>(g ρ).bind λy=>(h ρ).bind λz=>vf x y z
variable{o:Expr}{apos cpos:Pos}
def vg(hu:X.A.units+64<cLine){f g h:MF1}(ho:DE c X o f)(hk:DE c X a g)(hx:DE c X b h)(m:M2 X o "get" apos a b cpos):DE c X (.Call (.Attribute o "get" apos) [a,b] [] cpos) (md f g h):=
 PE.imp (J0 (by lia) ho hk hx m) λσ H Q q_=>by
  obtain⟨Hf0,H0,Hf,ρ,d,st,q,k⟩:=q_;unfold md at q;obtain⟨x,e1,q⟩:=cr.mp q;obtain⟨y,e2,q⟩:=cr.mp q;obtain⟨z,e3,q⟩:=cr.mp q;unfold vf at q;obtain⟨p,e4,q⟩:=cr.mp q;obtain⟨U,e5,q⟩:=mK.mp q;refine⟨Hf0,H0,Hf,ρ,x,st,e1,λv al H1 M r1=>?_⟩;obtain⟨l,vs,ev,rd,z0,r⟩:=uX e4 r1;subst ev;refine⟨l,rfl,.inl ⟨_,rd.up M.s⟩,Hf0,H0,al,ρ,y,st.step M,e2,λu a9 H2 x2 r2=>⟨Hf0,H0,a9,ρ,z,(st.step M).step x2,e3,λw Hf3 H3 x3 r3=>?_⟩⟩;have eu:=oP e5 r2;subst eu;have L:=x2.trans x3;refine⟨fm (p.1.zip vs) U,.inl ⟨_,U,(rd.up M.s).up L.h,rfl,rfl⟩,k _ Hf3 H3 (M.trans L) ?_⟩;obtain⟨h1,h2⟩:=yM (k:=U) z0 (r.up L.f);subst q
  cases hv:iA p.1 p.2 U with
  |none=>rw[h2 hv];exact r3
  |some d=>
   obtain⟨w',hw,rw'⟩:=h1 d hv;rw[hw];exact rw'
abbrev Nj:D->OLD
 |.tup xs=>aa xs
 | _=>ab
abbrev y3(f:MF1)(l h:LS->Option (Option Int))(ρ:LS):OD:=(f ρ).bind λd=>(Nj d).bind λds=>(l ρ).bind λlo=>(h ρ).bind λhi=>if HT.sIx ds.length 0 lo=0/\HT.sIx ds.length ds.length hi=ds.length then ab else aa (.tup (oN ds lo hi))
variable{h:LS->Option (Option Int)}
def Nk{pos:Pos}{f:MF1}{l:LS->Option (Option Int)}{lo hi:Option Expr}(ha:DE c X e f)(hl:DPt c X lo l)(hh:DPt c X hi h):DE c X (.Subscript e (.Slice lo hi ab p2) pos) (y3 f l h):=
 PE.imp (xN Js ha hl hh) λσ H Q q_=>by
  obtain⟨Hf0,H0,Hf,ρ,rs,st,z,k⟩:=q_;unfold y3 at z;obtain⟨d,e1,z⟩:=cr.mp z;obtain⟨ds,e2,z⟩:=cr.mp z;obtain⟨U,e3,z⟩:=cr.mp z;obtain⟨L,e4,z⟩:=cr.mp z;split at z
  .nomatch z
  .rename_i hn;have z:=cz z;subst z;refine⟨Hf0,H0,Hf,ρ,d,st,e1,λv al H1 x1 r1=>⟨Hf0,H0,al,ρ,U,st.step x1,e3,λa9 H2 x2=>⟨Hf0,H0,a9,ρ,L,(st.step x1).step x2,e4,λHf3 H3 x3=>?_⟩⟩⟩
   cases d with
   |tup xs=>
    cases e2;obtain⟨a,vs,ea,q,r⟩:=r1;subst ea;have x:=(x1.trans x2).trans x3;have y:=x2.trans x3;have M:=r.length;refine⟨a,vs,rfl,SqT.of (y.h _ _ (x1.s _ _ q)),by rw[<- M];exact hn,λp hp=>?_⟩;have x4:=Ext.new (o:=.tup (m3 vs U L)) x3.s hp
    exact k _ _ _ (x.trans x4) ⟨p,_,rfl,bw,(Dl (r.up y.f) _ _).up x4.f⟩
   | _=>nomatch e2
abbrev rM(t:MF4)(f g:MF2)(ρ:LS):OLD:=(t ρ).bind λb=>if b then f ρ else g ρ
def Nl{pos:Pos}{t:MF4}{f g:MF2}(hc:DT c X cd t)(ha:DO c X a f)(U:DO c X b g):DO c X (.IfExp cd a b pos) (rM t f g):=PE.imp (B6 hc ha U) λσ H Q q_=>by
 obtain⟨Hf0,H0,Hf,ρ,d,st,q,k⟩:=q_;unfold rM at q;obtain⟨x,M,q⟩:=cr.mp q;refine⟨Hf0,H0,Hf,ρ,x,st,M,λal H1 z=>?_⟩
 cases x with
 |true=>rw[if_pos rfl]at q ⊢;exact⟨Hf0,H0,al,ρ,d,st.step z,q,λl vs a9 H2 L hn=>k l vs a9 H2 (z.trans L) (z.h.free hn)⟩
 |false=>rw[if_neg bZ]at q ⊢;exact⟨Hf0,H0,al,ρ,d,st.step z,q,λl vs a9 H2 L hn=>k l vs a9 H2 (z.trans L) (z.h.free hn)⟩
def Fu{it t:Addr}{items:Array Value}(hne:t≠it):∀(n i:Nat) (s:aI) (Q:LVa->aI->Prop),s.heap.IsListIter it t i->s.heap.IsList t items->i+n<=items.size ->
  (∀h',h'.IsListIter it t (i+n)->iQ it s.heap h'->Q ((items.toList.drop i).take n) {s with heap:=h'})->wpAny (model prog w) A (draw (.ref it) n) Q E s
 | 0,i,s,Q,ms,_,_,hQ=>by
  show wpAny _ _ (pure []) Q E s
  exact bc (by simpa using hQ s.heap ms (iQ.refl ..))
 |n+1,i,s,Q,ms,ht,hle,hQ=>by
  have U:i<items.size:=by lia
  show wpAny _ _ (jo (.ref it) >>= _) Q E s;refine av (xa ms ht (x:=items[i]) (by simp[U]) λgp z q=>?_);refine av (fh (Fu hne n (i+1) _ _ z (ht.extBut q.extBut hne) (by lia) λrc L M=>bc ?_));have hd:items.toList.drop i=items[i]::items.toList.drop (i+1):=by simp[sM,U]
  have:=hQ rc (by rw[show i+(n+1)=i+1+n by lia];exact L) (q.trans M);rw[hd,take_succ_cons]at this;exact this
def Nm{t:Addr}{Q:LVa->aI->Prop}(hh:A.handled=ab)(ht:s.heap.IsList t items)
 (hQ:∀h',Heap.ExtBut s.heap.objs.size s.heap h'->Q items.toList {s with heap:=h'}):wpAny (model prog w) A (unpackItems (.ref t) items.size ab) Q E s:=by
 have eZ:t≠s.heap.objs.size:=by obtain⟨o,ho,_⟩:=ht;exact cy (bD ho)
 unfold unpackItems;refine av ?_;unfold notIterableAtAll;refine av (wpAny_specialOf ht.typeIs PySem.F.slot_list_iter.lookup ?_);refine bc ?_;simp only[lw,if_false];refine av (fh (om ht ?_));refine av (fh (Fu eZ items.size 0 _ _ ⟨_,dS _ rfl,rfl,rfl⟩ (ht.push _) (by lia) λgp z q=>?_))
 have U:List.take items.size (List.drop 0 items.toList)=items.toList:=by
  rw[drop_zero];exact jk (by simp)
 rw[U];rw[if_neg (by simp)];have M:gp.IsList t items:=(ht.push _).extBut q.extBut eZ;refine av (fh (xb hh z M (by simp) λrc L=>?_));simp only[Option.isSome_none,lw,if_false];exact bc (hQ rc λb o hb e=>L b o hb (q.extBut b o hb (bV _ e)))
def Nn{x1}{pos:Pos}{t:Addr}{Q:Unit->aI->Prop}(z:A.handled=ab)(L:s.heap.IsList t items)
 (hn:(fj eN env).length=items.size)(q:(fj eN env).findIdx? (·.1)=ab)
 (h:∀h',Heap.ExtBut s.heap.objs.size s.heap h'->wpAny (model prog w) A (assignInOrder ((fj eN env).map (·.2)) items.toList) Q E {s with heap:=h'}):
  wpAny (model prog w) A (h9 (.Tuple eN x1 pos) env (.ref t)) Q E s:=by
 rw[arm_assign_Tuple];refine av (tu ?_);unfold unpack;rw[hn,q];exact av (fh (Nm z L h))
abbrev No(K:bm)(n:Nat)(t:TGs):TG:=λv σ H Q=>∃a xs,v=.ref a/\SqL K H a xs/\xs.length=n/\t xs σ H Q
def Np{pos:Pos}{t:TGs}(hc:X.calm=ac)(h:PGs X es t)
 (hn:(fj es X.env).length=n:=by rfl)(q:(fj es X.env).findIdx? (·.1)=ab:=by rfl):PG X (.Tuple es k pos) (No X.K n t):=by
 intro pins s σ H v u Q I r z;obtain⟨a,xs,U,hq,hl,z⟩:=z;subst U;cases r;obtain⟨its,L,ht,hz⟩:=I.list hq;refine Nn (I.ok.hd hc) ht.isList (by simp[hn,<- hl,L.length]) q λh' hx=>?_
 have M:Inv X pins σ H {s with heap:=h'}:=I.kept (t':=s.toks) λb o e=>hx b o (cy (bD e)) e
 exact h pins _ σ H xs _ Q M (by simpa using L) z
abbrev y4(g:LD->LS->Option LS)(d:D)(ρ:LS):Option LS:=(lsD d).bind λds=>g ds ρ
def Nq{pos:Pos}{g:LD->LS->Option LS}(hc:X.calm=ac)(h:DGs c X es k g)(hn:(fj es X.env).length=es.length:=by rfl)(M:(fj es X.env).findIdx? (·.1)=ab:=by rfl):DG c X (.Tuple es kk pos) k (y4 g):=by
 refine⟨PG.imp (Np hc h.pg hn M) λv σ H Q q_=>?_,λd ρ ρ' h'=>?_,λd ρ ρ' i h' hi=>?_⟩
 .obtain⟨Hf0,H0,Hf,ρ,d,ρ',st,r,eg,q⟩:=q_;obtain⟨ds,L,z⟩:=cr.mp eg;obtain⟨a,vs,ea,qa,U⟩:=gH L r;exact⟨a,vs,ea,st.sub.seq qa,by rw[<- U.length];exact h.many _ _ _ z,Hf0,H0,Hf,ρ,ds,ρ',st,U,z,q⟩
 .obtain⟨ds,L,z⟩:=cr.mp h';exact h.len _ _ _ z
 .obtain⟨ds,L,z⟩:=cr.mp h';exact h.keep _ _ _ _ z hi
structure Foq(G:Gc)(Hf H:Hp)(o:O)(v:V)(fp:LAd)(o1:O)(v1:V)(f1:LAd)(R:O->O):Prop where
 r:OT G Hf H o1 v1 f1
 n:f1.Nodup
 sub:∀a∈f1,a∈fp
 back:∀(Hf' H':Hp) (o2:O) (f2:LAd),aH Hf Hf'->(∀b u,H b=aa u->(gV u=ac\/b∈fp)->b∉f1->H' b=aa u)->OT G Hf' H' o2 v1 f2 ->
  ∃fp',OT G Hf' H' (R o2) v fp'/\(∀a∈fp',a∈f2\/(a∈fp/\a∉f1))/\(f2.Nodup->(∀a∈f2,a∈fp->a∈f1)->fp'.Nodup)
variable{o:O}
def Foq.refl(h:OT G Hf H o v fp)(n:fp.Nodup):Foq G Hf H o v fp o v fp id:=
 ⟨h,n,λ_ h=>h,λ_ _ _ f2 _ _ q=>⟨f2,q,λ_ h=>.inl h,λn _=>n⟩⟩
variable{o1 o2:O}{v1:V}{f1 f2:LAd}{R R':O->O}
def Foq.trans{U:V}(F:Foq G Hf H o v fp o1 v1 f1 R)(F':Foq G Hf H o1 v1 f1 o2 U f2 R'):Foq G Hf H o v fp o2 U f2 (λx=>R (R' x)):=by
 refine⟨F'.r,F'.n,λa h=>F.sub a (F'.sub a h),λHf' H' o3 f3 s k h=>?_⟩;obtain⟨L,r1,m1,n1⟩:=F'.back Hf' H' o3 f3 s (λb u e hm q=>k b u e (hm.imp_right (F.sub b)) q) h;obtain⟨fp',r2,m2,n2⟩:=F.back Hf' H' _ L s (λb u e hm q=>k b u e hm λz=>q (F'.sub b z)) r1;refine⟨fp',r2,λa ha=>?_,λnf M=>n2 (n1 nf λa ha q=>M a ha (F.sub a q)) λa ha q=>?_⟩
 .rcases m2 a ha with z |⟨z,z'⟩
  .rcases m1 a z with y |⟨y,y'⟩
   .exact .inl y
   .exact .inr ⟨F.sub a y,y'⟩
  .exact .inr ⟨z,λy=>z' (F'.sub a y)⟩
 .rcases m1 a ha with y |⟨y,_⟩
  .exact F'.sub a (M a y q)
  .exact y
def y6{f:LAd}(h:OT G Hf H o v f){b:Addr}{u:HO}(e:H b=aa u)(t:gV u=ac):b∉f:=λz=>by
 obtain⟨M,L,q⟩:=OT.memM o v f h b z;rw[e]at L;cases L;rw[t]at q
 nomatch q
def OTs.foq:∀{os:List O} {vs:List V} {fp:LAd} {k:Nat} {o1:O},OTs G Hf H os vs fp->fp.Nodup->os[k]?=aa o1->∃v1 f1,vs[k]?=aa v1/\OT G Hf H o1 v1 f1/\f1.Nodup/\(∀a∈f1,a∈fp) /\
  ∀(Hf' H':Hp) (o2:O) (M:V) (f2:LAd),aH Hf Hf'->(∀b u,H b=aa u->(gV u=ac\/b∈fp)->b∉f1->H' b=aa u)->OT G Hf' H' o2 M f2 ->
  ∃fp',OTs G Hf' H' (os.set k o2) (vs.set k M) fp'/\(∀a∈fp',a∈f2\/(a∈fp/\a∉f1))/\(f2.Nodup->(∀a∈f2,a∈fp->a∈f1)->fp'.Nodup)
 | [],_,_,_,_,_,_,e=>by simp at e
 |o::os,_,_,0,o1,q5_,n,e'=>by
  obtain⟨v,r,f1,g,e,U,h2,ef⟩:=q5_;cases e';subst e ef;obtain⟨n1,n2,dj⟩:=eG.mp n;refine⟨v,f1,rfl,U,n1,λa ha=>f6 _ ha,λHf' H' o2 M f2 s k h=>⟨f2++g,?_,λa ha=>?_,λnf hf=>(eG.mpr ⟨nf,n2,λa ha b L z=>by subst z;exact dj a (hf a ha (eE _ L)) a L rfl⟩)⟩⟩
  .rw[set_cons_zero,set_cons_zero];refine⟨M,r,f2,g,rfl,h,OTs.frameM s os r g h2 λb u L hm=>k b u L (hm.imp_right λy=>eE _ y) λz=>?_,rfl⟩
   rcases hm with t |t
   .exact y6 U L t z
   .exact dj b z b t rfl
  .rcases cC.mp ha with z |z
   .exact .inl z
   .exact .inr ⟨eE _ z,λy=>dj a y a z rfl⟩
 |o::os,_,_,k+1,o1,q5_,n,e'=>by
  obtain⟨v,r,f,g,e,U,h2,ef⟩:=q5_;subst e ef;obtain⟨n1,n2,dj⟩:=eG.mp n;obtain⟨v1,f1,ev,q,nq,sb,bk⟩:=OTs.foq h2 n2 e';refine⟨v1,f1,by rw[sI];exact ev,q,nq,λa ha=>eE _ (sb a ha),λHf' H' o2 M f2 s k h=>?_⟩;obtain⟨g',r',m',n'⟩:=bk Hf' H' o2 M f2 s (λb u L hm=>k b u L (hm.imp_right λy=>eE _ y)) h;refine⟨f++g',?_,λa ha=>?_,λnf hf=>?_⟩
  .rw[sQ,sQ];refine⟨v,_,f,g',rfl,U.frame s λb u L hm=>k b u L (hm.imp_right λy=>f6 _ y) λz=>?_,r',rfl⟩
   rcases hm with t |t
   .exact y6 q L t z
   .exact dj b t b (sb b z) rfl
  .rcases cC.mp ha with z |z
   .exact .inr ⟨f6 _ z,λy=>dj a z a (sb a y) rfl⟩
   .rcases m' a z with y |⟨y,y'⟩
    .exact .inl y
    .exact .inr ⟨eE _ y,y'⟩
  .refine eG.mpr ⟨n1,n' nf λa ha L=>hf a ha (eE _ L),λa ha b L z=>?_⟩;subst z
   rcases m' a L with y |⟨y,_⟩
   .exact dj a ha a (sb a (hf a y (f6 _ ha))) rfl
   .exact dj a ha a y rfl
def Fv{q:Type}:∀{l:List q} {k:Nat} {x:q},l[k]?=aa x->l.set k x=l
 | [],_,_,e=>by simp at e
 | _::_,0,_,e=>by simp at e;subst e;rfl
 |a::l,k+1,x,e=>by rw[sI]at e;rw[sQ,Fv e]
def aC.foq(so:aC G Hf0 H0 Hf H σ ρ)(es:ρ[i]?=aa (.deep o))(e2:σ[i]?=aa (aa v))(r:OT G Hf' H1 o v fp)(x:Ext Hf H Hf' H1)(F:Foq G Hf' H1 o v fp o1 v1 f1 R)
 (kk:∀b u,H1 b=aa u->b∉f1->H2 b=aa u)(new:OT G Hf' H2 o2 v1 f2)(n2:f2.Nodup)(h2:∀a∈f2,a∈f1\/(H a=ab/\Hf' a=ab)):aC G Hf0 H0 Hf' H2 σ (ρ.set i (.deep (R o2))):=by
 obtain⟨v',U,e3,L,n,z⟩:=(so.at' i _ _ e2 es);cases e3;have:=OT.funM o v fp U r (L.up x.f x.h);subst this;obtain⟨fp',r',mem,nd⟩:=F.back Hf' H2 o2 f2 (aH.refl _) (λb u e _ h=>kk b u e h) new
 have q:∀a∈fp',a∈fp\/_:=λa ha=>by
  rcases mem a ha with y |⟨y,_⟩
  .rcases h2 a y with w |w
   .exact .inl (F.sub a w)
   .exact .inr w
  .exact .inl y
 refine so.chgX x es e2 (λb u hb=>?_) ⟨v,fp',rfl,r',nd n2 λa ha hb=>?_,λa ha=>?_⟩ λa p=>?_
 .by_cases h:b∈f1
  .exact .inl ⟨fp,L,F.sub b h⟩
  .exact .inr (kk b u hb h)
 .rcases h2 a ha with y |y
  .exact y
  .obtain⟨u,M,_⟩:=OT.memM o v fp L a hb;rw[y.1]at M
   nomatch M
 .rcases q a ha with y |y
  .obtain⟨u,M,ht⟩:=OT.memM o v fp L a y;refine⟨(z a y).1,?_⟩;rw[x.n a u M ht];exact(z a y).2
  .exact⟨so.ext.h.free y.1,y.2⟩
 .obtain⟨fp'',r'',ha⟩:=p;have:=OT.funM _ _ _ _ r' r'';subst this
  rcases q a ha with y |y
  .exact .inl ⟨fp,L,y⟩
  .exact .inr y.1
def Foq.up(F:Foq G Hf H o v fp o1 v1 f1 R)(f:aH Hf Hf')(s:aH H H'):Foq G Hf' H' o v fp o1 v1 f1 R:=
 ⟨F.r.up f s,F.n,F.sub,λa9 H2 o2 f2 s2 k h=>F.back a9 H2 o2 f2 (f.trans s2) (λb u e hm q=>k b u (s b u e) hm q) h⟩
abbrev O.ixQ(k:Nat):O->Option (O×(O->O))
 |.tup os=>(os[k]?).map λo=>(o,λx=>.tup (os.set k x))
 | _=>ab
def Nr(h:o1.ixQ k=aa (o2,R)):∃os,o1=.tup os/\os[k]?=aa o2/\R=λx=>.tup (os.set k x):=by
 unfold O.ixQ at h;split at h
 .rename_i os
  cases e:os[k]? with
  |none=>rw[e]at h;nomatch h
  |some x=>rw[e]at h;cases h;exact⟨os,rfl,e,rfl⟩
 .nomatch h
def Foq.ix(F:Foq G Hf H o v fp o1 v1 f1 R)(h:o1.ixQ k=aa (o2,R')):∃a vs z f2,v1=.ref a/\H a=aa (.tup vs)/\vs[k]?=aa z/\Foq G Hf H o v fp o2 z f2 (λx=>R (R' x)):=by
 obtain⟨os,rfl,e,rfl⟩:=Nr h;obtain⟨a,vs,ea,ha,rs⟩:=id F.r;subst ea;obtain⟨z,f2,M,q,nq,sb,bk⟩:=rs.foq F.n e;refine⟨a,vs,z,f2,rfl,ha,M,F.trans ⟨q,nq,sb,λHf' H' o3 f3 s k' h=>?_⟩⟩;obtain⟨L,U,m',n'⟩:=bk Hf' H' o3 z f3 s k' h;rw[Fv M]at U;exact⟨L,⟨a,vs,rfl,k' a _ ha (.inl rfl) (y6 q ha rfl),U⟩,m',n'⟩
@[reducible]noncomputable def Xq:=LS->Option (O×(O->O))
inductive tDQ(G:Gc)(i:Nat)(f:Xq)(σ:St)(H:Hp)(Q:VK):Prop
 |mk:∀Hf0 H0 Hf ρ o1 R,aC G Hf0 H0 Hf H σ ρ->f ρ=aa (o1,R)->(∀o v fp v1 f1 Hf' H',ρ[i]?=aa (.deep o)->σ[i]?=aa (aa v)->Ext Hf H Hf' H'->OT G Hf' H' o v fp->Foq G Hf' H' o v fp o1 v1 f1 R->Q v1 H')->tDQ G i f σ H Q
abbrev DQ(c:Str->Addr)(X:Cx)(e:Expr)(i:Nat)(f:Xq):Prop:=PE X e (tDQ (Gx c X) i f)
abbrev rN(i:Nat):Xq:=λρ=>match ρ[i]? with
 |some (.deep o)=>aa (o,id)
 | _=>ab
abbrev qIx(p:Xq)(k:Nat):Xq:=λρ=>(p ρ).bind λq=>(q.1.ixQ k).map λr=>(r.1,λx=>q.2 (r.2 x))
abbrev y7(i:Nat)(p:Xq)(f:MF1)(ρ:LS):Option Fl:=(p ρ).bind λq=>(f ρ).bind λd=>(q.1.appd d).map λo2=>.nx (ρ.set i (.deep (q.2 o2)))
def vh{q z:Type}{a:Option q}{f:q->Option z}{b:z}(h:a.bind f=aa b):∃x,a=aa x/\f x=aa b:=by
 cases a with
 |none=>nomatch h
 |some x=>exact⟨x,rfl,h⟩
def y8{q z:Type}{a:Option q}{f:q->z}{b:z}(h:a.map f=aa b):∃x,a=aa x/\f x=b:=by
 cases a with
 |none=>nomatch h
 |some x=>cases h;exact⟨x,rfl,rfl⟩
def y9(h:PE X e (eV i)):DQ c X e i (rN i):=PE.imp h λσ H Q q_=>by
 obtain⟨Hf0,H0,Hf,ρ,o1,R,M,q,kq⟩:=q_;unfold rN at q;split at q
 .rename_i o es;cases q;obtain⟨v,L,u,fp,U,r,n,z⟩:=M.slot es;subst U;exact⟨u,L,kq _ u fp u fp Hf H es L (Ext.refl M.sub) r (Foq.refl r n)⟩
 .nomatch q
variable{e' o:Expr}{p:Xq}
def rO{pos:Pos}(ho:DQ c X o i p)(U:DE c X e' (λ_=>aa (.int k)))(hs:t4 e':=by exact λ_ _=>rfl):DQ c X (.Subscript o e' pos) i (qIx p k):=PE.imp (xO (xP.or xQ) ho U hs) λσ H Q q_=>by
 obtain⟨Hf0,H0,Hf,ρ,o2,R,so,L,kq⟩:=q_;obtain⟨q,e1,L⟩:=vh L;obtain⟨r,e3,L⟩:=y8 L;cases L;refine⟨Hf0,H0,Hf,ρ,q.1,q.2,so,e1,λt v fp v1 f1 al H1 es ev x rt F=>?_⟩;obtain⟨a,vs,M,f2,el,ha,hv,F2⟩:=F.ix e3;subst el;refine⟨Hf0,H0,al,ρ,.int k,so.step x,rfl,λu a9 H2 z r2=>?_⟩;cases (r2)
 have hi:atI vs (k:Int)=aa M:=by
  have U:=(eD.mp hv).1;unfold atI ixN;rw[if_pos (Int.natCast_nonneg k),if_pos (by lia)]
  simpa using hv
 exact .inr ⟨a,vs,k,M,rfl,rfl,SqT.of (z.h _ _ ha),hi,kq t v fp M f2 a9 H2 es ev (x.trans z) (rt.up z.f z.h) (F2.up z.f z.h)⟩
def Fw{f:MF1}(h:PS X st (lJ (tBM X.K "list" qp (tDQ (Gx c X) i p) (jX (tD (Gx c X) f) kL)))):DS c X st (y7 i p f):=PS.imp h λE σ H q_=>by
 obtain⟨Hf0,H0,Hf,ρ,o,so,M,kq⟩:=q_;obtain⟨q,e1,M⟩:=vh M;obtain⟨d,e2,M⟩:=vh M;obtain⟨o2,e3,M⟩:=y8 M;subst M;refine⟨Hf0,H0,Hf,ρ,q.1,q.2,so,e1,λt v fp v1 f1 al H1 es ev x rt F=>?_⟩;obtain⟨l,us,el,ql,hz,lm,next⟩:=LH e3 F.r;subst el;refine⟨.inl ⟨rfl,_,SqL.of ql⟩,Hf0,H0,al,ρ,d,so.step x,e2,λw a9 H2 L r2=>?_⟩;refine⟨l,us,w,rfl,rfl,L.h _ _ ql,by rw[cL];exact hz,kq σ a9 _ (x.trans L).f ?_⟩
 exact so.foq es ev (rt.up L.f L.h) (x.trans L) (F.up L.f L.h) (λb u U hn=>by rw[bz (λz=>hn (by rw[z];exact lm))];exact U)
  (next a9 _ w F.n L.f (λb u U e=>by rw[bz U];exact L.h b u e) bw r2) F.n λa ha=>.inl ha
abbrev pf(q z L:Nat)(o:O)(ρ:LS):Option LS:=match o with
 |.tup [.fz d,.fz d',o2]=>aa (((ρ.set q (.im d)).set z (.im d')).set L (.deep o2))
 | _=>ab
variable{ja jb jc:Nat}{o:O}
def Nt(h:pf ja jb jc o ρ=aa ρ'):∃d d' o2,o=.tup [.fz d,.fz d',o2]/\ρ'=((ρ.set ja (.im d)).set jb (.im d')).set jc (.deep o2):=by
 unfold pf at h;split at h
 .exact⟨_,_,_,rfl,(cz h).symm⟩
 .nomatch h
abbrev nQ(ja jb jc:Nat)(F:MF3):List O->MF3
 | [],ρ=>aa (.nx ρ)
 |o::os,ρ=>(pf ja jb jc o ρ).bind λρ1=>(F ρ1).bind λx=>match x with
  |.nx c0=>nQ ja jb jc F os c0
  | _=>ab
open Classical in
abbrev vi(i:Nat)(p:Xq)(ja jb jc:Nat)(ks:LN)(F:MF3)(ρ:LS):Option Fl:=(p ρ).bind λz=>match z.1 with
 |.lst os=>if (∀u,∃c0,nQ ja jb jc F os (ρ.set i (.val u))=aa (.nx c0)/\j7 ks c0 (ρ.set i (.val u)))/\i∉ks then aa (.nx ((rA ks ρ).set i (.deep (z.2 (.jnk os.length))))) else ab
 | _=>ab
def Fx{ja jb jc:Nat}{ks:LN}{F:MF3}{q:LS}:∀{os:List O} (_:∀o∈os,∀ρ1,j7 ks ρ1 q->∃z c0,pf ja jb jc o ρ1=aa z/\F z=aa (.nx c0)/\j7 ks c0 q) (ρ1:LS),j7 ks ρ1 q->∃c0,nQ ja jb jc F os ρ1=aa (.nx c0)/\j7 ks c0 q
 | [],_,ρ1,l=>⟨ρ1,rfl,l⟩
 |o::os,h,ρ1,l=>by
  obtain⟨z,c0,U,e,l2⟩:=h o bK ρ1 l;obtain⟨L,M,l3⟩:=Fx (λo' ho=>h o' (cB _ ho)) c0 l2;refine⟨L,?_,l3⟩;unfold nQ;rw[U,ax,e];exact M
def Nu{ks:LN}(h:p ρ=aa (.lst os,R))(hi:i∉ks)
 (z:∀u,∀o∈os,∀ρ1,j7 ks ρ1 (ρ.set i (.val u))->∃q c0,pf ja jb jc o ρ1=aa q/\F q=aa (.nx c0)/\j7 ks c0 (ρ.set i (.val u)))(k:K (.nx ((rA ks ρ).set i (.deep (R (.jnk os.length)))))):wp (vi i p ja jb jc ks F) ρ K:=by
 refine⟨_,?_,k⟩;unfold vi;rw[h,ax];dsimp only;rw[if_pos ⟨λu=>Fx (z u) _ (j7.refl _ _),hi⟩]
variable{body:List Stmt}
def Nv{pos:Pos}(ks:LN)(hp:PassesOwn (model X.prog X.w) X.A X.env X.xe)(hc:X.calm=ac)(hi:DQ c X iter i p)(hg:PG X tg (Cb X.K 3 (tN (iV ja) (tN (iV jb) (tN (iV jc) B9)))))(hb:DSs c X body F)(hs:∀x,hV iter X.env x=pure x:=by intro _;rfl):
  DS c X (.For tg iter body [] pos) (vi i p ja jb jc ks F):=PS.imp (xB hp hc (tQ hi) hg hb hs) λE σ H q_=>by
 obtain⟨Hf0,H0,Hfa,ρ,o,so0,ef,k⟩:=q_;obtain⟨⟨oo,R⟩,e1,ef⟩:=vh ef;refine⟨Hf0,H0,Hfa,ρ,oo,R,so0,e1,λtr u fp v1 f1 Hf H1 es eu xt rt Fq=>?_⟩
 cases oo with
 |lst os=>
  dsimp only at ef;split at ef
  .rename_i hcond;cases ef;have so:=so0.step xt;obtain⟨L,us,fs,el,qL,ro,ef1⟩:=id Fq.r;subst el ef1;obtain⟨v0,fp0,e0,r0,n,z0⟩:=so.at' i _ _ eu es;cases e0;have:=OT.funM _ _ _ _ rt r0;subst this;have eR:=ro.length;have iu:i<ρ.length:=by rw[<- so.len];exact(eD.mp eu).1
   obtain⟨ρe,ez,lk⟩:=hcond.1 u;have hik:=hcond.2;generalize hgs:fp.filter (λa=>decide (a∉L::fs))=gs;have M:∀a,a∈gs↔a∈fp/\a∉L::fs:=λa=>by rw[<- hgs,lC,decide_eq_true_eq]
   have ng:gs.Nodup:=by rw[<- hgs];exact List.Pairwise.filter _ n
   have fr0:∀a∈fp,j6 _ Hf H1 σ (ρ.set i (.val u)) a:=λa ha kk2 t w b cc p=>by
    rcases cf b with⟨_,e',_⟩ |⟨ne,b⟩
    .subst e';exact mw p.1
    .exact ne (so.dj kk2 i t _ w u a b es cc eu p ⟨fp,rt,ha⟩)
   have inF:∀a∈(L::fs)++gs,a∈fp:=λa ha=>by
    rcases cC.mp ha with e |e
    .exact Fq.sub a e
    .exact((M a).mp e).1
   have nd0:((L::fs)++gs).Nodup:=eG.mpr ⟨Fq.n,ng,λa ha b hb z=>by subst z;exact((M a).mp hb).2 ha⟩;refine⟨L,rfl,⟨us,SqL.of qL⟩,?_⟩
   refine⟨λt m σ' H'=>m=os.length-t/\t<=os.length/\∃Hf' ρ' fr,aC _ Hf0 H0 Hf' H' σ' ρ'/\aH Hf Hf'/\OTs _ Hf' H' (os.drop t) (us.drop t) fr/\((L::fr)++gs).Nodup/\(∀a∈(L::fr)++gs,H0 a=ab/\Hf' a=ab/\j6 _ Hf' H' σ' ρ' a)/\H' L=aa (.lst us)/\(∀b w,b∈gs->H1 b=aa w->H' b=aa w)/\(∀b vs,H1 b=aa (.tup vs)->H' b=aa (.tup vs))/\nQ ja jb jc F (os.drop t) ρ'=aa (.nx ρe),
    ⟨os.length,rfl,gD _,Hf,ρ.set i _,fs,so.take eu,aH.refl _,ro,nd0,λa ha=>⟨(z0 a (inF a ha)).1,(z0 a (inF a ha)).2,fr0 a (inF a ha)⟩,qL,λ_ _ _ h=>h,λ_ _ h=>h,ez⟩,?_⟩
   rintro t m σ' H' ⟨rfl,ht,Hf',ρ',fr,so',sf,rr,nr,zr,qL',kg,tp,em⟩
   by_cases eZ:t<os.length
   .obtain⟨ot,eo,ir⟩:=lQ eZ;obtain⟨ut,eut,eur⟩:=lQ (l:=us) (i:=t) (by lia)
    refine .inr ⟨⟨us,ut,SqL.of qL',eut⟩,λfx H2=>os.length-(t+1)=os.length-(t+1)/\t+1<=os.length/\∃Hf' ρ' fr,aC _ Hf0 H0 Hf' H2 fx ρ'/\aH Hf Hf'/\OTs _ Hf' H2 (os.drop (t+1)) (us.drop (t+1)) fr/\((L::fr)++gs).Nodup/\(∀a∈(L::fr)++gs,H0 a=ab/\Hf' a=ab/\j6 _ Hf' H2 fx ρ' a)/\H2 L=aa (.lst us)/\(∀b w,b∈gs->H1 b=aa w->H2 b=aa w)/\(∀b vs,H1 b=aa (.tup vs)->H2 b=aa (.tup vs))/\nQ ja jb jc F (os.drop (t+1)) ρ'=aa (.nx ρe),
     λfx H2 w=>⟨os.length-(t+1),by lia,w⟩,λx H2 y=>?_⟩
    obtain⟨e2,y⟩:=y;subst e2;have:=y us (SqL.of qL');rw[eut]at this;cases this;rw[ir,eur]at rr;obtain⟨v,r,f1,f2,ev,h1,h2,efr⟩:=rr
    injection ev with ev1 ev2
    subst ev1 ev2 efr;rw[ir]at em;unfold nQ at em;have nA:=eG.mp nr;have nL:=gC.mp nA.1;have n12:=eG.mp nL.2
    have S2:∀a∈(L::f2)++gs,a∈(L::(f1++f2))++gs:=λa ha=>by
     rcases cC.mp ha with e |e
     .rcases b8.mp e with e |e
      .subst e;exact f6 _ bK
      .exact f6 _ (cB _ (eE _ e))
     .exact eE _ e
    have S1:∀a∈f1,a∈(L::(f1++f2))++gs:=λa ha=>f6 _ (cB _ (f6 _ ha))
    cases eB:pf ja jb jc ot ρ' with
    |none=>rw[eB]at em;nomatch em
    |some ρb=>
    rw[eB,ax]at em;obtain⟨dd,dd',o2,rfl,rfl⟩:=Nt eB;obtain⟨pt,xs2,ep,hpt,rs2⟩:=id h1;obtain⟨x1,r1,g1,g2,e1x,⟨rx1,eg1⟩,⟨x1',r1'',g1',g2',e1x',⟨rx1',eg1'⟩,⟨y1,r1',g3,g4,e2x,hy,⟨er,eg4⟩,eg3⟩,eg'⟩,eg⟩:=rs2;subst ep e1x e1x' e2x er eg1 eg1' eg4;rw[cx]at eg3;subst eg3;rw[jl]at eg';subst eg';rw[jl]at eg;subst eg
    have f1z:∀a∈f1,L2.prom H0 H2 ((L::f2)++gs) a=ab/\Hf' a=ab:=λa ha=>by
     have hz:=zr a (S1 a ha);obtain⟨oo,ho,hto⟩:=(OT.memM o2 _ f1 hy) a ha;rw[uV (λhm=>?_) (λvs q=>by rw[ho]at q;cases q;nomatch hto)]
     .exact⟨hz.1,hz.2.1⟩
     .rcases cC.mp hm with hm |hm
      .rcases b8.mp hm with e |e
       .subst e;exact nL.1 (f6 _ ha)
       .exact n12.2.2 a ha a e rfl
      .exact nA.2.2 a (cB _ (f6 _ ha)) a hm rfl
    have sb:=(((so'.prom _ λa ha=>⟨(zr a (S2 a ha)).2.1,(zr a (S2 a ha)).2.2⟩).setIm (i:=ja) rx1).setIm (i:=jb) rx1').hand (j:=jc) (s:=.deep o2) ⟨_,f1,rfl,hy,n12.1,f1z⟩ λa p=>by
     obtain⟨fp',r2,ha⟩:=p;have:=OT.funM o2 _ _ _ hy r2;subst this;exact E8 (E8 (zr a (S1 a ha)).2.2)
    have pm:=Eu so'.ext.h ((L::f2)++gs)
    cases eF:F _ with
    |none=>rw[eF]at em;nomatch em
    |some o1=>
     rw[eF,ax]at em;refine⟨pt,_,rfl,SqT.of hpt,rfl,_,_,rfl,_,_,rfl,_,_,rfl,rfl,Hf0,_,Hf',_,o1,sb,eF,?_⟩;have inP:∀a u,a∈(L::f2)++gs->H2 a=aa u->L2.prom H0 H2 ((L::f2)++gs) a=aa u:=λa u ha e=>by rw[Es ha];exact e
     cases o1 with
     |nx c0=>
      intro σ4 Hf4 H4 s4 U
      refine ⟨rfl,eZ,Hf4,c0,f2,U.less pm,sf.trans s4,OTs.frameM s4 _ _ f2 h2 (λb w hb hm=>?_),eG.mpr ⟨gC.mpr ⟨λh=>nL.1 (eE _ h),n12.2.1⟩,nA.2.1,λa ha b hb=>nA.2.2 a (by
       rcases b8.mp ha with e |e
       .subst e;exact bK
       .exact cB _ (eE _ e)) b hb⟩,λa ha=>?_,U.ext.h L _ (inP L _ (f6 _ bK) qL'),λb w hb hw=>U.ext.h b w (inP b w (eE _ hb) (kg b w hb hw)),λb vs hb=>U.ext.h b _ (uU (tp b vs hb)),em⟩
      .rcases hm with hm |hm
       .cases w with
        |tup vs=>exact U.ext.h b _ (uU hb)
        | _=>nomatch hm
       .exact U.ext.h b w (inP b w (f6 _ (cB _ hm)) hb)
      .have hz:=zr a (S2 a ha)
       obtain⟨w,hw,htw⟩:∃w,H2 a=aa w/\gV w=ag:=by
        rcases cC.mp ha with e |e
        .rcases b8.mp e with e |e
         .subst e;exact⟨_,qL',rfl⟩
         .exact OTs.memM _ _ f2 h2 a e
        .obtain⟨w,hw,htw⟩:=OT.memM _ _ _ rt a ((M a).mp e).1;exact⟨w,kg a w e hw,htw⟩
       have pw:=inP a w ha hw;refine⟨hz.1,?_,U.free pw⟩;rw[U.ext.n a w pw htw]
       exact so'.ext.f.free hz.2.1
     | _=>nomatch em
   .have et:t=os.length:=by lia
    subst et;rw[my (aU _)]at em
    have em:ρ'=ρe:=by injection em with em;injection em
    subst em;refine .inl ⟨⟨us,SqL.of qL',by rw[<- eR];exact aU _⟩,?_⟩;obtain⟨v',ev',qv⟩:=so'.slot (i:=i) (s:=.val u) (by rw[lk.2 i hik,ji iu]);subst qv;have jn:OT (Gx c X) Hf' H' (.jnk os.length) (.ref L) [L]:=⟨L,us,rfl,qL',by rw[eR];exact aU _,rfl⟩
    obtain ⟨fp',r',m',n'⟩:=Fq.back Hf' H' (.jnk os.length) [L] sf (λb w hb hm hn=>by
     rcases hm with hm |hm
     .cases w with
      |tup vs=>exact tp b vs hb
      | _=>nomatch hm
     .exact kg b w ((M b).mpr ⟨hm,hn⟩) hb) jn
    have zL:∀a∈fp',a∈(L::fr)++gs:=λa ha=>by
     rcases m' a ha with e |e
     .rw[ca.mp e];exact f6 _ bK
     .exact eE _ ((M a).mpr e)
    have res:=so'.hand (j:=i) (s:=.deep (R (.jnk os.length))) (u:=u) ⟨_,fp',rfl,r',n' (gC.mpr ⟨b6,f7⟩) (λa ha _=>by rw[ca.mp ha];exact bK),λa ha=>⟨(zr a (zL a ha)).1,(zr a (zL a ha)).2.1⟩⟩ λa p=>by
     obtain⟨fp'',r2,ha⟩:=p;have:=OT.funM _ _ _ _ r' r2;subst this;exact(zr a (zL a ha)).2.2
    have e3:σ'.set i (aa u)=σ':=by
     apply lA;intro jj
     by_cases hj:i=jj
     .subst hj;rw[ji (eD.mp ev').1,ev']
     .rw[fZ hj]
    rw[e3]at res;refine k σ' Hf' H' (xt.f.trans sf) (res.weak (by rw[hU,hU,Ev,lk.1,hU]) λm s hm=>?_)
    rcases cf hm with⟨e5,e6,_⟩ |⟨ne,hm⟩
    .subst e5 e6;exact .inr (ji (by rw[lk.1,hU];exact iu))
    .rcases Ew ks ρ m s hm with e |⟨nk,e⟩
     .exact .inl e
     .exact .inr (by rw[fZ (ce ne),lk.2 m nk,fZ (ce ne)];exact e)
  .nomatch ef
 | _=>nomatch ef
abbrev zb(i:Nat)(L:List (Str×Str))(ρ:LS):Option Fl:=aa (.nx (ρ.set i (.ownd (L.map λp=>.inr p.1) (L.map λp=>.str p.2))))
abbrev tCs(L:List (Str×Str)):List (TE×TE):=L.map λp=>(tC (.str p.1),tC (.str p.2))
def Fy{σ:St}{H:Hp}:∀(L:List (Str×Str)) {Q:List (V×V)->Hp->Prop},Q (L.map λp=>(V.str p.1,V.str p.2)) H->ub (tCs L) σ H Q
 | [],_,h=>h
 |p::L,Q,h=>Fy (σ:=σ) L (Q:=λps q=>Q ((V.str p.1,V.str p.2)::ps) q) h
def Fz{G:Gc}{H:Hp}:∀L:List (Str×Str),aB G H (L.map λp=>D.str p.2) (L.map λp=>V.str p.2)
 | []=>.nil
 |p::L=>.cons rfl (Fz L)
def Nw{L:List (Str×Str)}(hL:(L.map (·.1)).Nodup)(z:L.length<=15)(hp:PS X st (kK (CS (tCs L)) (iV i))):DS c X st (zb i L):=PS.imp hp λE σ H q_=>by
 obtain⟨Hf0,H0,Hf,ρ,o,U,ef,k⟩:=q_;cases ef;intro q M;refine Fy L ⟨bw,L.map (λp=>(.inr p.1,V.str p.2)),by rw[map_map];rfl,by rw[au];exact z,?_⟩;rw[HC]
 have em:m7 [] (L.map λp=>((.inr p.1:Key),V.str p.2))=(L.map λp=>(.inr p.1:Key)).zip (L.map λp=>V.str p.2):=by
  have h1:=Fc (L.map λp=>((.inr p.1 : Key),V.str p.2)) [] (by
   rw[jl,map_map];rw[pQ,pairwise_map]at hL ⊢;exact hL.imp λh e=>h (oB e))
  rw[jl]at h1;refine(show _=_ from h1).trans ?_;rw[zip_map']
 have x:Ext Hf H Hf (upd H q (.dK (m7 [] (L.map λp=>((.inr p.1:Key),V.str p.2))))):=Ext.tmp U.sub M;exact k _ Hf _ x.f (U.setOwn rfl x M (U.sub.free M) ⟨L.map λp=>V.str p.2,by rw[em];exact bw,by rw[au,au],Fz L⟩)
variable{d9:List (Option Expr)}{dm:LEx}
def Nx{pos:Pos}(i:Nat)(L:List (Str×Str))(hN:X.N.Nodup)(hL:(L.map (·.1)).Nodup)(hd:PPs X pos d9 dm (tCs L))(M:L.length<=15:=by decide)(q:d9.all (·.isSome)=ac:=by rfl)(hl:d9.length=dm.length:=by rfl)(U:d9≠[]:=by exact λz=>nomatch z)(hk:d9.length<=15:=by decide)(hi:X.N[i]?=aa x:=by rfl)(hx:Loc X.env.scope x:=by first |exact bU rfl |exact br rfl)(hs:fR (.Dict d9 dm pos) (aa (.Name x b0)) p'.line X.env=pure ag:=by rfl)(hf:LcF X x:=by first |exact .inl rfl |exact .inr rfl):
  DS c X (.Assign [.Name x b0] (.Dict d9 dm pos) p') (zb i L):=Nw hL M (lK hN hi hx (JW hd q hl U hk) hs hf)
abbrev rP(g:LS->Option (List O))(ρ:LS):Option O:=(g ρ).map .tup
variable{b:Bool}
def FA{pos:Pos}{g:LS->Option (List O)}(h:DAT c X es g)(hz:es.length<=1000:=by exact mI rfl):DZ c X b (.Tuple es k' pos) (rP g):=PE.imp (tX h.pa) λσ H Q U=>by
 obtain⟨Hf0,H0,Hf,ρ,t,st,q,k⟩:=U;obtain⟨os,L,q⟩:=y8 q;subst q;refine⟨Hf0,H0,Hf,ρ,os,st,L,λvs gs Hf' H' x r z=>⟨?_,λp M=>?_⟩⟩
 .rw[<- r.length,h.len ρ os L];exact jS (m4 hz)
 .exact k _ gs Hf' (upd H' p (.tup vs)) (x.trans (Ext.tmp x.s M)) ⟨p,vs,rfl,bw,r.up (aH.refl _) (cu M)⟩ ⟨z.1,λa ha=>⟨oS st.ext.h (z.2 a ha).1,(z.2 a ha).2⟩⟩
abbrev vj(i:Nat)(ρ:LS):Option O:=match ρ[i]? with
 |some (.ownd ks xs)=>aa (.dic ks (xs.map .fz))
 | _=>ab
def OTs.ofReps{G:Gc}{Hf H:Hp}:∀{ds:LD} {vs:List V},aB G Hf ds vs->OTs G Hf H (ds.map .fz) vs []
 | [],_,r=>by cases (r);exact⟨rfl,rfl⟩
 |d::ds,_,⟨v,r,e,h1,h2⟩=>by subst e;exact⟨v,r,[],[],rfl,⟨h1,rfl⟩,OTs.ofReps h2,rfl⟩
def Ny(h:PE X e (eV i)):DZ c X ag e (vj i):=PE.imp h λσ H Q q_=>by
 obtain⟨Hf0,H0,Hf,ρ,o,st,L,k⟩:=q_;unfold vj at L;split at L
 .rename_i ks xs es;cases L;obtain⟨l,M,U,hf,vs,q,z,rr⟩:=st.ownAt rfl es;exact⟨_,M,k _ [l] Hf H (Ext.refl st.sub) ⟨l,vs,[],rfl,q,z,OTs.ofReps rr,rfl⟩ ⟨gC.mpr ⟨b6,f7⟩,λa ha=>by rw[ca.mp ha];exact⟨U,hf⟩⟩⟩
 .nomatch L
def Nz{pos:Pos}(i:Nat)(z:X.N[i]?=aa x:=by rfl)(L:Vis X.env.scope x:=by first |exact bU rfl |exact br (bU rfl) |exact br (br rfl))(hd:NDb x:=by decide)
 (q:NCd x:=by decide):DZ c X ag (.Name x pos) (vj i):=Ny (jV z L hd q)
def DZ.de{f:LS->Option O}(h:DZ c X ac e f):DE c X e (zB f):=PE.imp h λσ H Q q_=>by
 obtain⟨Hf0,H0,Hf,ρ,d,st,L,k⟩:=q_;unfold zB at L;obtain⟨o,ed,L⟩:=cr.mp L;split at L
 .rename_i hk;cases L;refine⟨Hf0,H0,Hf,ρ,o,st,ed,λu fp Hf' H' x r z=>?_⟩;have z:Fre H Hf' fp:=z;have sub:aH (prom Hf' H' fp) H':=Et x.s fp;have more:aH Hf' (prom Hf' H' fp):=Eu x.s fp
  have r2:OT (Gx c X) Hf' (prom Hf' H' fp) o u fp:=r.frame (aH.refl _) λb w U hm=>by
   rcases hm with hm |hm
   .cases w with
    |tup vs=>exact uU U
    | _=>nomatch hm
   .rw[Es hm];exact U
  refine k u (prom Hf' H' fp) H' ⟨x.f.trans more,x.h,sub,λl w M ht=>?_⟩ (OT.repM more o u fp hk r2);rw[uV (λhm=>?_) λvs q=>?_]
  .exact x.n l w M ht
  .have:=(z.2 l hm).1;rw[M]at this
   nomatch this
  .rw[x.h l w M]at q;cases q
   nomatch ht
 .nomatch L
end L2
namespace N_k83
open List
open PySem PySem.Spec PyProof.Rows L2
local macro_rules | `(tactic| walk_at "sc")=>`(tactic| exact ⟨rfl,rfl,rfl,by decide +kernel,rfl,by decide +kernel,by decide +kernel⟩)
abbrev top(i:Nat):Stmt:=PySem.Challenge.pw_standstill_k83_put.main.body.getD i (.Pass ⟨0,0,0,0⟩)
@[reducible]noncomputable def zc:=top 7
@[reducible]noncomputable def zd:=top 8
@[reducible]noncomputable def ze:=top 10
@[reducible]noncomputable def zf:=top 11
@[reducible]noncomputable def zg:=top 12
@[reducible]noncomputable def zh:=top 13
@[reducible]noncomputable def zi:=top 14
@[reducible]noncomputable def zj:=top 15
@[reducible]noncomputable def zk:=top 16
@[reducible]noncomputable def zl:=top 17
@[reducible]noncomputable def zm:=top 18
@[reducible]noncomputable def s_9:=top 19
@[reducible]noncomputable def zn:=top 21
@[reducible]noncomputable def zo:=top 26
@[reducible]noncomputable def zp:=top 27
@[reducible]noncomputable def zq:=top 28
@[reducible]noncomputable def zt:=top 29
@[reducible]noncomputable def zu:=top 30
@[reducible]noncomputable def zw:=top 31
@[reducible]noncomputable def zx:=top 32
@[reducible]noncomputable def zy:=top 33
@[reducible]noncomputable def zA:=top 34
@[reducible]noncomputable def zC:=top 35
@[reducible]noncomputable def zD:=top 36
@[reducible]noncomputable def zE:=top 37
@[reducible]noncomputable def zF:=top 38
@[reducible]noncomputable def zG:=top 39
@[reducible]noncomputable def zH:=top 40
@[reducible]noncomputable def s_0:=top 42
@[reducible]noncomputable def zI:=top 43
@[reducible]noncomputable def zJ:=top 44
@[reducible]noncomputable def s_4:=top 45
@[reducible]noncomputable def zK:=top 46
@[reducible]noncomputable def zM:=top 47
@[reducible]noncomputable def s_6:=top 48
@[reducible]noncomputable def s_2:=top 49
@[reducible]noncomputable def zN:=top 50
@[reducible]noncomputable def zO:=top 51
@[reducible]noncomputable def s_5:=top 52
@[reducible]noncomputable def zP:=top 53
@[reducible]noncomputable def zQ:=top 54
@[reducible]noncomputable def s_3:=top 55
@[reducible]noncomputable def zR:=top 56
@[reducible]noncomputable def zS:=top 57
@[reducible]noncomputable def s_7:=top 58
@[reducible]noncomputable def zU:=top 59
@[reducible]noncomputable def zV:=top 60
@[reducible]noncomputable def zW:=top 61
@[reducible]noncomputable def zX:=top 62
@[reducible]noncomputable def zY:=top 63
@[reducible]noncomputable def zZ:=top 64
@[reducible]noncomputable def z3:=top 65
@[reducible]noncomputable def s_8:=top 66
@[reducible]noncomputable def z4:=top 67
@[reducible]noncomputable def s_1:=top 68
def NA:bo ["word","signs","most"] ["word","signs","most"] (aZ zc):=by walk_at "sc"
def NB:bo ["word"] ["word"] (aZ zd):=by walk_at "sc"
def z6:bo ["rows","kinds","row"] ["rows"] (aZ ze):=by walk_at "sc"
def FB:bo ["row","kinds","name"] ["row","kinds"] (aZ zf):=by walk_at "sc"
def NC:bo ["words"] ["words"] (aZ zg):=by walk_at "sc"
def z7:bo ["row","kinds","args","over"] ["row","kinds"] (aZ zh):=by walk_at "sc"
def vk:bo ["pairs","outer","kinds","variable","kind","told"] ["pairs","outer","kinds"] (aZ zi):=by walk_at "sc"
def z8:bo ["args","pairs","told","arg"] ["args","pairs"] (aZ zj):=by walk_at "sc"
def FC:bo ["row","found"] ["row"] (aZ zk):=by walk_at "sc"
def ND:bo ["part"] ["part"] (aZ zl):=by walk_at "sc"
def vm:bo ["items","args","thing","worth"] ["items"] (aZ zm):=by walk_at "sc"
def me:bo ["pairs","kinds","names_of","found","variable","kind","longer","way"] ["pairs","kinds"] (aZ s_9):=by walk_at "sc"
def z9:bo ["thing","name","args"] ["thing"] (aZ zn):=by walk_at "sc"
def Aa:bo ["rows","rules","places"] ["rows"] (aZ zo):=by walk_at "sc"
def vn:bo ["rows","kinds","rules","row","names"] ["rows","kinds"] (aZ zp):=by walk_at "sc"
def NE:bo ["listed","most","what"] ["listed","most","what"] (aZ zq):=by walk_at "sc"
def rQ:bo ["pairs","kinds","outer","variables","found","way","names"] ["pairs","kinds","outer"] (aZ zt):=by walk_at "sc"
def FD:bo ["body","names","sides"] ["body","names"] (aZ zu):=by walk_at "sc"
def NF:bo ["args","names"] ["args","names"] (aZ zw):=by walk_at "sc"
def NG:bo ["thing","names"] ["thing","names"] (aZ zx):=by walk_at "sc"
def Ab:bo ["row","names","kinds","body","word"] ["row","names","kinds"] (aZ zy):=by walk_at "sc"
def FE:bo ["low","high","items","body","rules"] ["low","high","items","body"] (aZ zA):=by walk_at "sc"
def NH:bo ["part","names","kinds"] ["part","names","kinds"] (aZ zC):=by walk_at "sc"
def vo:bo ["items","over","names","kinds","found","thing","worth"] ["items","over","names","kinds"] (aZ zD):=by walk_at "sc"
def vp:bo ["rules","places","rule","text"] ["rules"] (aZ zE):=by walk_at "sc"
def Ac:bo ["rule","texts","part"] ["rule"] (aZ zF):=by walk_at "sc"
def FF:bo ["rule","places","head"] ["rule","places"] (aZ zG):=by walk_at "sc"
def NI:bo ["part","places"] ["part","places"] (aZ zH):=by walk_at "sc"
def NJ:bo ["_law_state","_law_many"] ["_law_state","_law_many"] (aZ s_0):=by walk_at "sc"
def rR:bo ["_law_script","_law_many","_law_seeds_here","_law_at","_law_cell","_law_seed"] ["_law_script","_law_many"] (aZ zI):=by walk_at "sc"
def vq:bo ["_law_state","_law_many","_law_span","_law_word","_law_k"] ["_law_state","_law_many","_law_span"] (aZ zJ):=by walk_at "sc"
def rS:bo ["_law_state","_law_kept","_law_span","_law_word"] ["_law_state"] (aZ s_4):=by walk_at "sc"
def FG:bo ["_law_state","_law_great"] ["_law_state"] (aZ zK):=by walk_at "sc"
def FH:bo ["_law_state","_law_number_here"] ["_law_state"] (aZ zM):=by walk_at "sc"
def lr:bo ["_law_state","_law_places","_law_k","_law_name_here","_law_heads","_law_kinds","_law_some"] ["_law_state"] (aZ s_6):=by walk_at "sc"
def rT:bo ["_law_state","_law_lay_here","_law_known","_law_name_here","_law_many","_law_args","_law_k"] ["_law_state","_law_lay_here","_law_known"] (aZ s_2):=by walk_at "sc"
def vv:bo ["_law_state","_law_kinds","_law_taken","_law_most","_law_pairs_here","_law_k","_law_variable_here"] ["_law_state","_law_kinds","_law_taken","_law_most"] (aZ zN):=by walk_at "sc"
def ph:bo ["_law_state","_law_lay_here","_law_known","_law_kinds","_law_many","_law_over","_law_inner","_law_some","_law_k","_law_worth"] ["_law_state","_law_lay_here","_law_known","_law_kinds","_law_many"] (aZ zO):=by walk_at "sc"
def mf:bo ["_law_state","_law_lay_here","_law_known","_law_kinds","_law_way","_law_sides","_law_one","_law_other","_law_some","_law_over"] ["_law_state","_law_lay_here","_law_known","_law_kinds"] (aZ s_5):=by walk_at "sc"
def NK:bo ["_law_state","_law_lay_here","_law_known","_law_kinds"] ["_law_state","_law_lay_here","_law_known","_law_kinds"] (aZ zP):=by walk_at "sc"
def rV:bo ["_law_state","_law_lay_here","_law_kinds","_law_pairs_here","_law_known","_law_body_here","_law_way"] ["_law_state","_law_lay_here","_law_kinds"] (aZ zQ):=by walk_at "sc"
def kh:bo ["_law_script","_law_many","_law_seeds_here","_law_state","_law_lay_here","_law_first","_law_rows_here","_law_k","_law_told","_law_name_here","_law_names"] ["_law_script","_law_many"] (aZ s_3):=by walk_at "sc"
def rW:bo ["_law_pairs_here","_law_kinds","_law_total_here","_law_variable_here","_law_kind"] ["_law_pairs_here","_law_kinds"] (aZ zR):=by walk_at "sc"
def pi:bo ["_law_number_here","_law_pairs_here","_law_kinds","_law_chosen","_law_variable_here","_law_kind","_law_at"] ["_law_number_here","_law_pairs_here","_law_kinds"] (aZ zS):=by walk_at "sc"
def rX:bo ["_law_thing_here","_law_chosen","_law_name_here","_law_k","_law_arg"] ["_law_thing_here","_law_chosen"] (aZ s_7):=by walk_at "sc"
def Ad:bo ["_law_body_here","_law_chosen","_law_part_here","_law_one"] ["_law_body_here","_law_chosen"] (aZ zU):=by walk_at "sc"
def NL:bo ["_law_found"] ["_law_found"] (aZ zV):=by walk_at "sc"
def NM:bo ["_law_found","_law_text_here","_law_table"] ["_law_found","_law_text_here","_law_table"] (aZ zW):=by walk_at "sc"
def nR:bo ["_law_found","_law_part_here","_law_kinds","_law_chosen","_law_table","_law_at","_law_thing_here","_law_worth","_law_number_here","_law_inner"] ["_law_found","_law_part_here","_law_kinds","_law_chosen","_law_table"] (aZ zX):=by walk_at "sc"
def FI:bo ["_law_found","_law_part_here","_law_kinds","_law_chosen","_law_table","_law_word"] ["_law_found","_law_part_here","_law_kinds","_law_chosen","_law_table"] (aZ zY):=by walk_at "sc"
def rY:bo ["_law_found","_law_row_here","_law_kinds","_law_chosen","_law_table","_law_words","_law_part_here","_law_parts","_law_one"] ["_law_found","_law_row_here","_law_kinds","_law_chosen","_law_table"] (aZ zZ):=by walk_at "sc"
def nS:bo ["_law_found","_law_rows_here","_law_table","_law_kinds","_law_at","_law_row_here","_law_number_here","_law_chosen"] ["_law_found","_law_rows_here","_law_table"] (aZ z3):=by walk_at "sc"
def ki:bo ["_law_found","_law_seen","_law_word","_law_head","_law_parts","_law_some","_law_part_here","_law_thing_here"] ["_law_found"] (aZ s_8):=by walk_at "sc"
def Ae:bo ["_law_found","_law_rows_here","_law_table","_law_plain"] ["_law_found","_law_rows_here"] (aZ z4):=by walk_at "sc"
def mh:bo ["_law_script","_law_many","_law_rows_here","_law_found","_law_word","_law_head","_law_parts"] ["_law_script"] (aZ s_1):=by walk_at "sc"
set_option genInjectivity false
set_option genSizeOf false
structure Wa where
(e_39 e_53 e_32 e_40 e_41 e_33 e_23 e_42 e_49 e_50 e_24 e_9 e_34 e_51 e_29 e_25 e_12 e_52 e_43 e_17 e_35 e_44 e_45 e_18 e_30 e_36 e_54 e_46 e_0 e_19 e_13 e_4 e_31 e_20 e_6 e_2 e_14 e_10 e_5 e_47 e_21 e_3 e_15 e_37 e_7 e_38 e_22 e_26 e_16 e_48 e_27 e_11 e_8 e_28 e_1:Addr×gl)
 cl:Str->Addr
structure Wd(K:bm)(mg:MGT)(a:Wa):Prop where
 e_39:Df K mg "is_made_of" zc ["word","signs","most"] a.e_39
 e_53:Df K mg "is_variable" zd ["word"] a.e_53
 e_32:Df K mg "kinds_of" ze ["rows"] a.e_32
 e_40:Df K mg "must_be_new" zf ["row","kinds"] a.e_40
 e_41:Df K mg "must_be_unlike" zg ["words"] a.e_41
 e_33:Df K mg "must_be_known" zh ["row","kinds"] a.e_33
 e_23:Df K mg "must_be_pairs" zi ["pairs","outer","kinds"] a.e_23
 e_42:Df K mg "must_be_told" zj ["args","pairs"] a.e_42
 e_49:Df K mg "uses" zk ["row"] a.e_49
 e_50:Df K mg "part_uses" zl ["part"] a.e_50
 e_24:Df K mg "args_of" zm ["items"] a.e_24
 e_9:Df K mg "ways" s_9 ["pairs","kinds"] a.e_9
 e_34:Df K mg "shown_thing" zn ["thing"] a.e_34
 e_51:Df K mg "plain_of" zo ["rows"] a.e_51
 e_29:Df K mg "rules_of" zp ["rows","kinds"] a.e_29
 e_25:Df K mg "must_be_narrow" zq ["listed","most","what"] a.e_25
 e_12:Df K mg "names_by_ways" zt ["pairs","kinds","outer"] a.e_12
 e_52:Df K mg "has_like" zu ["body","names"] a.e_52
 e_43:Df K mg "name_all" zw ["args","names"] a.e_43
 e_17:Df K mg "text_of" zx ["thing","names"] a.e_17
 e_35:Df K mg "rules_by" zy ["row","names","kinds"] a.e_35
 e_44:Df K mg "choice" zA ["low","high","items","body"] a.e_44
 e_45:Df K mg "put_part" zC ["part","names","kinds"] a.e_45
 e_18:Df K mg "put_items" zD ["items","over","names","kinds"] a.e_18
 e_30:Df K mg "places_in" zE ["rules"] a.e_30
 e_36:Df K mg "texts_in" zF ["rule"] a.e_36
 e_54:Df K mg "numbered" zG ["rule","places"] a.e_54
 e_46:Df K mg "numbered_part" zH ["part","places"] a.e_46
 e_0:Df K mg "_law_next" s_0 ["_law_state","_law_many"] a.e_0
 e_19:Df K mg "_law_seeds" zI ["_law_script","_law_many"] a.e_19
 e_13:Df K mg "_law_small" zJ ["_law_state","_law_many","_law_span"] a.e_13
 e_4:Df K mg "_law_name" s_4 ["_law_state"] a.e_4
 e_31:Df K mg "_law_variable" zK ["_law_state"] a.e_31
 e_20:Df K mg "_law_number" zM ["_law_state"] a.e_20
 e_6:Df K mg "_law_lay" s_6 ["_law_state"] a.e_6
 e_2:Df K mg "_law_thing" s_2 ["_law_state","_law_lay_here","_law_known"] a.e_2
 e_14:Df K mg "_law_pairs" zN ["_law_state","_law_kinds","_law_taken","_law_most"] a.e_14
 e_10:Df K mg "_law_items" zO ["_law_state","_law_lay_here","_law_known","_law_kinds","_law_many"] a.e_10
 e_5:Df K mg "_law_part" s_5 ["_law_state","_law_lay_here","_law_known","_law_kinds"] a.e_5
 e_47:Df K mg "_law_body" zP ["_law_state","_law_lay_here","_law_known","_law_kinds"] a.e_47
 e_21:Df K mg "_law_row" zQ ["_law_state","_law_lay_here","_law_kinds"] a.e_21
 e_3:Df K mg "_law_rows" s_3 ["_law_script","_law_many"] a.e_3
 e_15:Df K mg "_law_total" zR ["_law_pairs_here","_law_kinds"] a.e_15
 e_37:Df K mg "_law_choice" zS ["_law_number_here","_law_pairs_here","_law_kinds"] a.e_37
 e_7:Df K mg "_law_text" s_7 ["_law_thing_here","_law_chosen"] a.e_7
 e_38:Df K mg "_law_apart" zU ["_law_body_here","_law_chosen"] a.e_38
 e_22:Df K mg "_law_whole" zV ["_law_found"] a.e_22
 e_26:Df K mg "_law_is" zW ["_law_found","_law_text_here","_law_table"] a.e_26
 e_16:Df K mg "_law_items_right" zX ["_law_found","_law_part_here","_law_kinds","_law_chosen","_law_table"] a.e_16
 e_48:Df K mg "_law_part_right" zY ["_law_found","_law_part_here","_law_kinds","_law_chosen","_law_table"] a.e_48
 e_27:Df K mg "_law_rule_right" zZ ["_law_found","_law_row_here","_law_kinds","_law_chosen","_law_table"] a.e_27
 e_11:Df K mg "_law_rules_right" z3 ["_law_found","_law_rows_here","_law_table"] a.e_11
 e_8:Df K mg "_law_in_order" s_8 ["_law_found"] a.e_8
 e_28:Df K mg "_law_right" z4 ["_law_found","_law_rows_here"] a.e_28
 e_1:Df K mg "law" s_1 ["_law_script"] a.e_1
 g_SMALL:∃t,mg "SMALL"=aa (.str "abcdefghijklmnopqrstuvwxyz" t)
 g_GREAT:∃t,mg "GREAT"=aa (.str "ABCDEFGHIJKLMNOPQRSTUVWXYZ" t)
 g_MOST_RULES:∃t,mg "MOST_RULES"=aa (.int 400 t)
 g_MOST_THINGS:∃t,mg "MOST_THINGS"=aa (.int 60 t)
 g_MOST_ITEMS:∃t,mg "MOST_ITEMS"=aa (.int 60 t)
 z_ValueError:mg "ValueError"=ab
 z_abs:mg "abs"=ab
 z_all:mg "all"=ab
 z_any:mg "any"=ab
 z_bool:mg "bool"=ab
 z_dict:mg "dict"=ab
 z_divmod:mg "divmod"=ab
 z_enumerate:mg "enumerate"=ab
 z_int:mg "int"=ab
 z_isinstance:mg "isinstance"=ab
 z_len:mg "len"=ab
 z_list:mg "list"=ab
 z_min:mg "min"=ab
 z_range:mg "range"=ab
 z_reversed:mg "reversed"=ab
 z_set:mg "set"=ab
 z_str:mg "str"=ab
 z_tuple:mg "tuple"=ab
 z_zip:mg "zip"=ab
 is_bool:jy K "bool"
 is_int:jy K "int"
 is_list:jy K "list"
 is_str:jy K "str"
 is_tuple:jy K "tuple"
set_option genInjectivity true
set_option genSizeOf true
nonrec abbrev qD(P:dn)(w:World)(K:bm)(mg:MGT)(base:Heap)(a:Wa)(k:Nat)(x:Str)(e:Addr×gl)(ps:LSt)(m:LD->OD):Prop:=Pk P w K mg base CX0 k x e ps (spD ⟨K,a.cl⟩ ps.length m)
nonrec abbrev qM(P:dn)(w:World)(K:bm)(mg:MGT)(base:Heap)(a:Wa)(k:Nat)(x:Str)(e:Addr×gl)(ps:LSt)(b:Nat)(m:Addr->LD->LD->LD->Option (LD×D)):Prop:=Pk P w K mg base CX0 k x e ps (spM ⟨K,a.cl⟩ b ps.length m)
abbrev b_8:MF3:=
 (aq (cb 1 (kI 0))
  (aq (cI (bh (ae 0)) (dg (bu (aF 2) (bu (aF 3) (bu (aF 4) da)))) (aq (dJ 5 (mSl (bf (af (ae 3) nZ)) (λ_=>aa ab) (mPt (gg (m2 qG (ae 3) kN)))))
  (aq (cI (bh (ae 4)) (aF 6) (bx (mB (m2 dEq (aJ bE (af (ae 6) nZ)) (kI 2))) (ge 5 (mIx (ak 6) (kI 1))) (o6 5 (mX (bf (bQ 1 [] (bh (mIx (ak 6) (kI 2))) (aF 0) kY (mIx (ak 0) (kI 0))))))))
  (gI 5 (cI (bh (ae 5)) (aF 7) (aq (bx (mB (m2 dGt (ae 7) (ae 1))) (bH (m1 fO (kI 1))) bF)
  (lc 1 (mX (gg (m2 dEq (ae 7) (ae 1)))))))))))
  (fG 1)))
abbrev m_8:=bY 8 b_8
abbrev vw:MF3:=
 (aq (cI (bh (ae 0)) (aF 2) (bx (mB (m2 dEq (mIx (ak 2) (kI 0)) (kSt "unlike"))) (aq (cb 3 (md (ae 1) (mIx (ak 2) (kI 1)) (mIx (ak 2) (kI 1))))
  (bx (mB (m2 dEq (ae 3) (md (ae 1) (mIx (ak 2) (kI 2)) (mIx (ak 2) (kI 2))))) (bH (kBl ag)) bF)) bF))
  (bH (kBl ac)))
abbrev Af:=bY 4 vw
abbrev vz:MF3:=
 (aq (qU 3)
  (aq (cI (q9 (af (ae 1) nZ)) (dg (bu (aF 4) (bu (aF 5) da))) (aq (qY (dg (bu (aF 0) (bu (aF 6) da))) (aJ yQ (af (ae 0) (af (aJ bE (af (m2 gf (ae 2) (ae 5)) nZ)) nZ))))
  (nC 3 (ae 4) (mIx (bh (m2 gf (ae 2) (ae 5))) (ae 6)))))
  (nK (vj 3))))
abbrev vA(a:LD):Option O:=lY 7 vz a
abbrev Ag:MF3:=
 (bH (jw (fP "int" (ae 0)) (qB (fP "bool" (ae 0)))))
abbrev pj:=bY 1 Ag
abbrev Ah:MF3:=
 (bH (jw (aJ pj (af (ae 0) nZ)) (jw (nH dLe dLt (kI 0) (ae 0) (aJ bE (af (ae 2) nZ))) (m2 dEq (mIx (ak 2) (ae 0)) (ae 1)))))
abbrev pq:=bY 3 Ah
abbrev b_7:MF3:=
 (aq (cb 2 (mIx (ak 0) (kI 0)))
  (aq (cI (lS (af (mIx (ak 0) (kI 1)) nZ)) (dg (bu (aF 3) (bu (aF 4) da))) (lc 2 (mX (m2 cT (m2 lh (kSt "(,") (gg (m2 dGt (ae 3) (kI 0)))) (md (ae 1) (ae 4) (ae 4))))))
  (bH (m2 cT (ae 2) (m2 yO (kSt ")") (gg (m2 dGt (aJ bE (af (mIx (ak 0) (kI 1)) nZ)) (kI 0))))))))
abbrev m_7:=bY 5 b_7
abbrev vB:MF3:=
 (aq (cb 2 (kI 1))
  (aq (cI (bh (ae 0)) (dg (bu (aF 3) (bu (aF 4) da))) (cb 2 (m2 jE (ae 2) (aJ bE (af (m2 gf (ae 1) (ae 4)) nZ)))))
  (fG 2)))
abbrev vC:=bY 5 vB
abbrev vD:MF3:=
 (aq (bx (dW (dz (fP "list" (ae 0)))) (bH (kBl ag)) bF)
  (aq (cb 5 (kI 0))
  (aq (cI (bh (mIx (ak 1) (kI 2))) (dg (bu (aF 6) (bu (aF 7) da))) (cI (gX (af (aJ vC (af (mIx (ak 1) (kI 3)) (af (ae 2) nZ))) nZ)) (aF 8) (aq (pb 9 (ae 3))
  (aq (pc 9 (zB (i9 vA (af (ae 8) (af (mIx (ak 1) (kI 3)) (af (ae 2) nZ))))))
  (aq (bx (mOr (mB (m2 dGe (ae 5) (aJ bE (af (ae 0) nZ)))) (mOr (dW (dz (fP "tuple" (mIx (ak 0) (ae 5))))) (mB (m2 dNe (aJ bE (af (mIx (ak 0) (ae 5)) nZ)) (kI 2))))) (bH (kBl ag)) bF)
  (aq (bx (dW (dz (kX pq (af (mIx (bh (mIx (ak 0) (ae 5))) (kI 0)) (af (aJ m_7 (af (ae 6) (af (fo 9) nZ))) (af (ae 4) nZ)))))) (bH (kBl ag)) bF)
  (aq (bx (mOr (dW (dz (aJ pj (af (mIx (bh (mIx (ak 0) (ae 5))) (kI 1)) nZ)))) (mB (m2 dNe (mIx (bh (mIx (ak 0) (ae 5))) (kI 1)) (ae 7)))) (bH (kBl ag)) bF)
  (lc 5 (mX (kI 1))))))))))
  (bH (m2 dEq (ae 5) (aJ bE (af (ae 0) nZ)))))))
abbrev Ai:=bY 10 vD
abbrev vE:MF3:=
 (aq (bx (dW (dz (fP "tuple" (ae 0)))) (bH (kBl ag)) bF)
  (aq (bx (mOr (mB (m2 dEq (mIx (ak 1) (kI 0)) (kSt "is"))) (mB (m2 dEq (mIx (ak 1) (kI 0)) (kSt "not")))) (aq (cb 5 (mIx (af (kSt "out") (af (kSt "in") nZ)) (gg (m2 dEq (mIx (ak 1) (kI 0)) (kSt "is")))))
  (aq (bx (mOr (mB (m2 dNe (aJ bE (af (ae 0) nZ)) (kI 2))) (mB (m2 dNe (mIx (ak 0) (kI 0)) (ae 5)))) (bH (kBl ag)) bF)
  (bH (aJ pq (af (mIx (ak 0) (kI 1)) (af (aJ m_7 (af (mIx (ak 1) (kI 1)) (af (ae 3) nZ))) (af (ae 4) nZ))))))) bF)
  (aq (bx (mOr (mB (m2 dNe (aJ bE (af (ae 0) nZ)) (kI 3))) (mOr (mB (m2 dNe (mIx (ak 0) (kI 0)) (mIx (ak 1) (kI 0)))) (mOr (dW (dz (aJ pj (af (mIx (ak 0) (kI 1)) nZ)))) (mB (m2 dNe (mIx (ak 0) (kI 1)) (mIx (ak 1) (kI 1))))))) (bH (kBl ag)) bF)
  (bH (aJ Ai (af (mIx (ak 0) (kI 2)) (af (ae 1) (af (ae 2) (af (ae 3) (af (ae 4) nZ))))))))))
abbrev Aj:=bY 6 vE
abbrev vF:MF3:=
 (aq (bx (mOr (dW (dz (fP "tuple" (ae 0)))) (mB (m2 dNe (aJ bE (af (ae 0) nZ)) (kI 3)))) (bH (kBl ag)) bF)
  (aq (zb 5 [("rule","make"),("may","may"),("never","never")])
  (aq (k9 5 (bx (mOr (mB (m2 dNe (mIx (ak 0) (kI 0)) (m2 gf (ae 5) (mIx (ak 1) (kI 0))))) (dW (dz (fP "list" (mIx (ak 0) (kI 2)))))) (bH (kBl ag)) bF))
  (aq (bx (il (mB (m2 dEq (mIx (ak 1) (kI 0)) (kSt "never"))) (mB (m2 qG (mIx (ak 0) (kI 1)) kN))) (bH (kBl ag)) bF)
  (aq (bx (il (mB (m2 dNe (mIx (ak 1) (kI 0)) (kSt "never"))) (dW (dz (aJ pq (af (mIx (ak 0) (kI 1)) (af (aJ m_7 (af (mIx (ak 1) (kI 1)) (af (ae 3) nZ))) (af (ae 4) nZ))))))) (bH (kBl ag)) bF)
  (aq (cb 7 (bf (bQ 1 [] (bh (mIx (ak 1) (m1 fO (kI 2)))) (aF 0) (mB (m2 dNe (mIx (ak 0) (kI 0)) (kSt "unlike"))) (ae 0))))
  (aq (bx (mB (m2 dNe (aJ bE (af (mIx (ak 0) (kI 2)) nZ)) (aJ bE (af (ae 7) nZ)))) (bH (kBl ag)) bF)
  (aq (cI (qO (af (mIx (ak 0) (kI 2)) (af (ae 7) nZ))) (dg (bu (aF 8) (bu (aF 6) da))) (bx (dW (dz (aJ Aj (af (ae 8) (af (ae 6) (af (ae 2) (af (ae 3) (af (ae 4) nZ)))))))) (bH (kBl ag)) bF))
  (bH (kBl ac))))))))))
abbrev Ak:=bY 9 vF
abbrev vG:MF3:=
 (aq (qU 3)
  (aq (cb 4 (kI 0))
  (aq (cI (bh (ae 1)) (aF 5) (aq (bx (mB (m2 dEq (mIx (ak 5) (kI 0)) (kSt "kind"))) (aq (nC 3 (mIx (ak 5) (kI 1)) (mIx (ak 5) (kI 2)))
  (λρ=>aa (.ct ρ))) bF)
  (cI (gX (af (i5 vC (af (mIx (ak 5) (m1 fO (kI 1))) (af (fo 3) nZ))) nZ)) (aF 6) (aq (oU 7 (rm vA (af (ae 6) (af (mIx (ak 5) (m1 fO (kI 1))) (af (fo 3) nZ)))))
  (aq (bx (dW (dz (kX Af (af (mIx (ak 5) (m1 fO (kI 2))) (af (fo 7) nZ))))) (λρ=>aa (.ct ρ)) bF)
  (aq (bx (mOr (mB (m2 dGe (ae 4) (aJ bE (af (ae 0) nZ)))) (dW (dz (kX Ak (af (mIx (ak 0) (ae 4)) (af (ae 5) (af (fo 3) (af (fo 7) (af (ae 2) nZ))))))))) (bH (kBl ag)) bF)
  (lc 4 (mX (kI 1)))))))))
  (bH (m2 dEq (ae 4) (aJ bE (af (ae 0) nZ)))))))
abbrev vH:=bY 8 vG
abbrev vI:MF3:=
 (aq (bx (mOr (dW (dz (fP "tuple" (ae 0)))) (mOr (mB (m2 dNe (aJ bE (af (ae 0) nZ)) (kI 2))) (dW (dz (fP "list" (mIx (ak 0) (kI 0))))))) (bH (kBl ag)) bF)
  (aq (cb 2 (mIx (ak 0) (kI 0)))
  (aq (bx (mOr (mB (m2 dNe (ma (ae 2)) (aJ bE (af (ae 2) nZ)))) (dW (dz (aJ qT (af (bf (bQ 1 [] (bh (ae 2)) (aF 0) kY (fP "str" (ae 0)))) nZ))))) (bH (kBl ag)) bF)
  (aq (cb 3 (mIx (ak 0) (kI 1)))
  (aq (bx (mOr (dW (dz (fP "tuple" (ae 3)))) (mOr (mB (m2 dNe (aJ bE (af (ae 3) nZ)) (kI 2))) (dW (dz (aJ pj (af (mIx (ak 3) (kI 0)) nZ)))))) (bH (kBl ag)) bF)
  (aq (bx (mOr (mB (m2 dNe (mIx (ak 3) (kI 0)) (aJ bE (af (ae 2) nZ)))) (dW (dz (fP "list" (mIx (ak 3) (kI 1)))))) (bH (kBl ag)) bF)
  (bH (jw (aJ vH (af (mIx (ak 3) (kI 1)) (af (ae 1) (af (ae 2) nZ)))) (m2 dEq (aJ m_8 (af (mIx (ak 3) (kI 1)) nZ)) (aJ bE (af (ae 2) nZ)))))))))))
abbrev vJ:=bY 4 vI
abbrev b_0:MF3:=
 (aq (oX 0 (kI 0) (m2 jx (m2 cT (m2 jE (mIx (uT 0) (kI 0)) (kI 1181783497276652981)) (kI 12345678910987)) (m2 kR (m2 nc (kI 2) (kI 61)) (kI 1))))
  (gJ (m2 jx (m2 qC (mIx (uT 0) (kI 0)) (kI 65537)) (ae 1))))
abbrev m_0:=gx 2 b_0
abbrev vK:MF3:=
 (aq (cb 3 (kSt ""))
  (aq (cI (gX (af (ae 1) nZ)) (aF 4) (lc 3 (mX2 lh (mX (kSt "abcdefghijklmnopqrstuvwxyz")) (be 0 m_0 (aE (mX (ae 2)) aP)))))
  (gJ (ae 3))))
abbrev rZ:=gx 5 vK
abbrev b_4:MF3:=
 (aq (dJ 1 (af (kSt "kind") (af (kSt "rule") (af (kSt "may") (af (kSt "choose") (af (kSt "never") (af (kSt "if") (af (kSt "and") (af (kSt "not") nZ)))))))))
  (aq (o6 1 (mX (bf (af (kSt "unlike") (af (kSt "least") (af (kSt "most") (af (kSt "of") (af (kSt "to") (af (kSt "over") (af (kSt "in") (af (kSt "for") nZ)))))))))))
  (aq (dC 2 (mX2 fu (mX (bf (af (kI 26) (af (kI 2) nZ)))) (be 0 m_0 (aE (mX (kI 2)) aP))))
  (aq (dC 3 (be 0 rZ (aE (mX2 cT (mX (kI 1)) (be 0 m_0 (aE (mX (kI 8)) aP))) (aE (mX (ae 2)) aP))))
  (aq (gI 1 (bx (mB (m2 dIn (ae 3) (ae 1))) (gJ (m2 cT (kSt "z") (ae 3))) bF))
  (gJ (ae 3)))))))
abbrev m_4:=gx 4 b_4
abbrev b_6:MF3:=
 (aq (dJ 1 nZ)
  (aq (lX (ka (aE (mX2 cT (mX (kI 1)) (be 0 m_0 (aE (mX (kI 3)) aP))) aP)) (aF 2) (aq (dC 3 (be 0 m_4 aP))
  (bx (mB (m2 jZ (ae 3) (fo 1))) (ge 1 (ae 3)) bF)))
  (aq (dC 4 (kc 1 [0] 0 0 (oR (mX (bf (af (kI 3) (af (kI 2) (af (kI 2) (af (kI 1) nZ))))))) (aF 0) (g6 (aE (be 1 m_4 aP) (aE (l5 rg (aE (mX (ae 0)) (aE (be 1 m_0 (aE (mX (kI 4)) aP)) aP))) aP)))))
  (aq (dJ 5 nZ)
  (aq (lX (ka (aE (be 0 m_0 (aE (mX (kI 4)) aP)) aP)) (aF 2) (aq (dC 3 (be 0 m_4 aP))
  (aq (gI 1 (dC 6 (nN 1 [0] 0 0 (oR (mX (ae 1))) (aF 0) (mBX (mX2 dGt (be 1 m_0 (aE (mX (kI 4)) aP)) (mX (kI 0)))) (mX (ae 0)))))
  (bx (il (mB (m2 dGt (aJ bE (af (ae 6) nZ)) (kI 0))) (mB (m2 jZ (ae 3) (bf (bQ 1 [] (ak 5) (aF 0) kY (mIx (ak 0) (kI 0))))))) (j9 5 (g6 (aE (mX (ae 3)) (aE (vc (mX (ae 6)) (mX2 kR (mX (kI 1)) (mX2 jE (mX (kI 2)) (be 0 m_0 (aE (mX (kI 2)) aP))))) aP)))) bF))))
  (gI 5 (gI 1 (gJ (cg (af (ae 4) (af (ae 1) (af (ae 5) nZ))))))))))))
abbrev m_6:=gx 7 b_6
abbrev r6:MF3:=
 (aq (dC 1 (mX2 kR (be 0 m_0 (aE (mX (kI 9)) aP)) (mX (kI 2))))
  (aq (l6 (mBX (mX2 dEq (be 0 m_0 (aE (mX (kI 4)) aP)) (mX (kI 0)))) (jI (mX2 cT (mX (m2 jE (ae 1) (m2 nc (kI 10) (kI 20)))) (be 0 m_0 (aE (mX (m2 nc (kI 10) (kI 10))) aP)))) bF)
  (gJ (ae 1))))
abbrev r9:=gx 2 r6
abbrev sd:MF3:=
 (aq (dC 1 (mX2 lh (mX (kSt "ABCDEFGHIJKLMNOPQRSTUVWXYZ")) (be 0 m_0 (aE (mX2 fu (mX (bf (af (kI 26) (af (kI 2) nZ)))) (be 0 m_0 (aE (mX (kI 2)) aP))) aP))))
  (jI (mX2 cT (mX (ae 1)) (be 0 rZ (aE (be 0 m_0 (aE (mX (kI 8)) aP)) (aE (mX2 fu (mX (bf (af (kI 26) (af (kI 2) nZ)))) (be 0 m_0 (aE (mX (kI 2)) aP))) aP))))))
abbrev vL:=gx 2 sd
abbrev se:MF3:=
 (aq (dJ 4 nZ)
  (aq (lX (ka (aE (mX2 jE (l5 rg (aE (mX (ae 3)) (aE (mX2 cT (mX2 qC (be 0 m_0 (aE (mX (kI 6)) aP)) (mX (kI 2))) (be 0 m_0 (aE (mX (kI 2)) aP))) aP))) (mX (gg (m2 dGt (aJ bE (af (ae 1) nZ)) (kI 0))))) aP)) (aF 5) (aq (dC 6 (be 0 vL aP))
  (bx (mB (m2 jZ (ae 6) (bf (gw (ae 2) (bf (bQ 1 [] (ak 4) (aF 0) kY (mIx (ak 0) (kI 0)))))))) (j9 4 (g6 (aE (mX (ae 6)) (aE (mX2 fu (mX2 fu (mX (ae 1)) (be 0 m_0 (aE (mX (aJ bE (af (ae 1) nZ))) aP))) (mX (kI 0))) aP)))) bF)))
  (gI 4 (gJ (ae 4)))))
abbrev vM:=gx 7 se
abbrev b_2:MF3:=
 (aq (o9 (dg (bu (aF 3) (bu (aF 4) da))) (mX2 fu (mX (mIx (ak 1) (kI 0))) (be 0 m_0 (aE (mX (kI 4)) aP))))
  (aq (dJ 5 nZ)
  (aq (cI (gX (af (ae 4) nZ)) (aF 6) (l6 (l7 (mTX (mB (m2 dGt (aJ bE (af (ae 2) nZ)) (kI 0)))) (mBX (mX2 dGt (be 0 m_0 (aE (mX (kI 4)) aP)) (mX (kI 0))))) (j9 5 (mX2 fu (mX (ae 2)) (be 0 m_0 (aE (mX (aJ bE (af (ae 2) nZ))) aP)))) (j9 5 (mX2 fu (mX (mIx (ak 1) (kI 1))) (be 0 m_0 (aE (mX (aJ bE (af (mIx (ak 1) (kI 1)) nZ))) aP))))))
  (gI 5 (gJ (cg (af (ae 3) (af (ae 5) nZ))))))))
abbrev m_2:=gx 7 b_2
abbrev sh:MF3:=
 (aq (dC 5 (be 0 vM (aE (mX (ae 3)) (aE (mX (ae 2)) (aE (mX (kI 2)) aP)))))
  (aq (cb 6 (bf (gw (ae 2) (bf (bQ 1 [] (bh (ae 5)) (aF 0) kY (mIx (ak 0) (kI 0)))))))
  (aq (dJ 7 nZ)
  (aq (lX (ka (aE (mX2 cT (mX (kI 1)) (be 0 m_0 (aE (mX (ae 4)) aP))) aP)) (aF 8) (aq (dC 9 (mX2 fu (oY (aE (mX (kI 1)) (aE (l5 u8 (aE (be 0 r9 aP) aP)) aP))) (be 0 m_0 (aE (mX (kI 2)) aP))))
  (j9 7 (g6 (aE (be 0 m_2 (aE (mX (ae 1)) (aE (mX (ae 6)) aP))) (aE (mX (ae 9)) aP))))))
  (gI 7 (gJ (cg (af (ae 7) (af (ae 5) nZ)))))))))
abbrev vN:=gx 10 sh
abbrev b_5:MF3:=
 (aq (dC 4 (be 0 m_0 (aE (mX (kI 6)) aP)))
  (aq (bx (mB (m2 dEq (ae 4) (kI 0))) (aq (cb 5 (m2 cT (ae 2) (mIx (ak 1) (kI 1))))
  (aq (dC 6 (mX2 fu (mX (ae 5)) (be 0 m_0 (aE (mX (aJ bE (af (ae 5) nZ))) aP))))
  (aq (l6 (l7 (mTX (mB (m2 dGt (aJ bE (af (ae 2) nZ)) (kI 0)))) (mBX (mX2 dGt (be 0 m_0 (aE (mX (kI 4)) aP)) (mX (kI 0))))) (dC 6 (mX2 fu (mX (ae 2)) (be 0 m_0 (aE (mX (aJ bE (af (ae 2) nZ))) aP)))) bF)
  (aq (dC 7 (mX2 fu (mX (ae 5)) (be 0 m_0 (aE (mX (aJ bE (af (ae 5) nZ))) aP))))
  (aq (l6 (mBX (mX2 dEq (be 0 m_0 (aE (mX (kI 2)) aP)) (mX (kI 0)))) (gJ (cg (af (kSt "unlike") (af (ae 7) (af (ae 6) nZ))))) bF)
  (gJ (cg (af (kSt "unlike") (af (ae 6) (af (ae 7) nZ)))))))))) bF)
  (aq (bx (mB (m2 dLt (ae 4) (kI 3))) (aq (o9 (dg (bu (aF 8) (bu (aF 9) da))) (be 0 vN (aE (mX (ae 1)) (aE (mX (ae 2)) (aE (mX (ae 3)) (aE (mX (kI 2)) aP))))))
  (jI (g6 (aE (mX (mIx (af (kSt "least") (af (kSt "most") nZ)) (m2 jx (ae 4) (kI 2)))) (aE (be 0 r9 aP) (aE (mX (ae 8)) (aE (mX (ae 9)) aP))))))) bF)
  (jI (g6 (aE (mX (mIx (af (kSt "is") (af (kSt "not") (af (kSt "is") nZ))) (m2 kR (ae 4) (kI 3)))) (aE (be 0 m_2 (aE (mX (ae 1)) (aE (mX (ae 2)) aP))) aP)))))))
abbrev m_5:=gx 10 b_5
abbrev si:MF3:=
 (jI (kc 1 [0,1,2,3] 0 0 (ka (aE (be 0 m_0 (aE (mX (kI 4)) aP)) aP)) (aF 0) (be 1 m_5 (aE (mX (ae 2)) (aE (mX (ae 3)) (aE (mX (ae 4)) aP))))))
abbrev Al:=gx 4 si
abbrev sj:MF3:=
 (aq (dC 3 (be 0 vM (aE (mX (ae 2)) (aE (mX (bf nZ)) (aE (mX (kI 3)) aP)))))
  (aq (cb 4 (bf (bQ 1 [] (bh (ae 3)) (aF 0) kY (mIx (ak 0) (kI 0)))))
  (aq (dC 5 (be 0 Al (aE (mX (ae 1)) (aE (mX (ae 4)) (aE (mX (ae 2)) aP)))))
  (aq (dC 6 (be 0 m_0 (aE (mX (kI 3)) aP)))
  (aq (bx (mB (m2 dEq (ae 6) (kI 0))) (jI (g6 (aE (mX (kSt "never")) (aE (mX2 cT (mX (ae 5)) (oY (aE (g6 (aE (mX2 fu (mX (bf (af (kSt "is") (af (kSt "not") nZ)))) (be 0 m_0 (aE (mX (kI 2)) aP))) (aE (be 0 m_2 (aE (mX (ae 1)) (aE (mX (ae 4)) aP))) aP))) aP))) (aE (mX (ae 3)) aP))))) bF)
  (jI (g6 (aE (mX (mIx (af (kSt "may") (af (kSt "rule") nZ)) (m2 kR (ae 6) (kI 1)))) (aE (be 0 m_2 (aE (mX (ae 1)) (aE (mX (ae 4)) aP))) (aE (mX (ae 5)) (aE (mX (ae 3)) aP)))))))))))
abbrev Am:=gx 7 sj
abbrev vO:MF3:=
 (aq (dJ 2 (bQ 1 [] (gX (af (ae 1) nZ)) (aF 0) kY (m2 cT (m2 jE (ae 0) (kI 7368787)) (kI 1000003))))
  (aq (cI (lS (af (ae 0) nZ)) (dg (bu (aF 3) (bu (aF 4) da))) (aq (cb 5 (m2 cT (m2 jE (mIx (ak 2) (m2 jx (ae 3) (ae 1))) (kI 1000003)) (m2 jx (ae 4) (m2 nc (kI 10) (kI 30)))))
  (nE 2 (m2 jx (ae 3) (ae 1)) (m2 jx (m2 cT (ae 5) (ae 3)) (m2 kR (m2 nc (kI 2) (kI 61)) (kI 1))))))
  (fG 2)))
abbrev vP:=bY 6 vO
abbrev b_3:MF3:=
 (aq (cb 2 (aJ vP (af (ae 0) (af (m2 cT (ae 1) (kI 1)) nZ))))
  (aq (dJ 3 (af (mIx (ak 2) (kI 0)) nZ))
  (aq (dC 4 (oZ 3 m_6 aP))
  (aq (dC 5 (oZ 3 m_0 (aE (mX (kI 4)) aP)))
  (aq (dJ 6 nZ)
  (aq (cI (gX (af (ae 1) nZ)) (aF 7) (aq (cb 8 (aJ bE (af (bf (bQ 1 [] (ak 6) (aF 0) (mB (m2 dEq (mIx (ak 0) (kI 0)) (kSt "kind"))) (ae 0))) nZ)))
  (aq (cI (bh (bf (mSl (mIx (ak 4) (kI 2)) (mPt (ae 8)) (mPt (m2 cT (ae 5) (ae 7)))))) (dg (bu (aF 9) (bu (aF 10) da))) (ge 6 (cg (af (kSt "kind") (af (ae 9) (af (bf (ak 10)) nZ))))))
  (ge 6 (rK Am (af (mIx (ak 2) (m2 cT (ae 7) (kI 1))) nZ) (af (ae 4) (af (bf (mSl (mIx (ak 4) (kI 2)) (λ_=>aa ab) (mPt (m2 cT (ae 5) (ae 7))))) nZ)))))))
  (fG 6)))))))
abbrev m_3:=bY 11 b_3
abbrev An:MF3:=
 (bx (mB (m2 dLt (ma (ae 0)) (aJ bE (af (ae 0) nZ)))) (λ_=>ab) bF)
abbrev vQ:=bY 1 An
abbrev Ao:MF3:=
 (aq (gc (aJ vQ (af (bf (bQ 2 [] (bh (m2 cT (ae 1) (ae 0))) (dg (bu (aF 0) (bu (aF 1) da))) kY (ae 0))) nZ)))
  (aq (cb 5 (bf (bQ 2 [] (bh (ae 2)) (dg (bu (aF 0) (bu (aF 1) da))) kY (ae 0))))
  (cI (bh (ae 0)) (dg (bu (aF 3) (bu (aF 4) da))) (bx (mB (m2 jZ (ae 4) (ae 5))) (λ_=>ab) bF))))
abbrev vR:=bY 6 Ao
abbrev Ap:MF3:=
 (bH (jw (nH dLe dLe (kI 1) (aJ bE (af (ae 0) nZ)) (ae 2)) (aJ qT (af (bf (bQ 1 [1] (o0 (ae 0)) (aF 0) kY (m2 o4 (ae 0) (ae 1)))) nZ))))
abbrev vS:=bY 3 Ap
abbrev Aq:MF3:=
 (bH (jw (aJ vS (af (o5 (ae 0) (λ_=>aa ab) (mPt (kI 1))) (af (kSt "ABCDEFGHIJKLMNOPQRSTUVWXYZ") (af (kI 1) nZ)))) (vOr (m2 dEq (aJ bE (af (ae 0) nZ)) (kI 1)) (aJ vS (af (o5 (ae 0) (mPt (kI 1)) (λ_=>aa ab)) (af (kSt "abcdefghijklmnopqrstuvwxyz") (af (kI 7) nZ)))))))
abbrev At:=bY 1 Aq
abbrev Au:MF3:=
 (aq (cb 2 (bf (bQ 2 [] (bh (ae 1)) (dg (bu (aF 0) (bu (aF 1) da))) kY (ae 0))))
  (cI (bh (ae 0)) (aF 3) (bx (il (dz (aJ At (af (ae 3) nZ))) (mB (m2 jZ (ae 3) (ae 2)))) (λ_=>ab) bF)))
abbrev Av:=bY 4 Au
abbrev Aw:MF3:=
 (aq (dJ 1 nZ)
  (aq (cI (bh (ae 0)) (dg (bu (aF 2) (bu (aF 3) da))) (j1 1 (j0 (mIx (ak 2) (kI 1)))))
  (fG 1)))
abbrev vT:=bY 4 Aw
abbrev Ax:MF3:=
 (aq (bx (mB (m2 dEq (mIx (ak 0) (kI 0)) (kSt "unlike"))) (bH (cg (af (bf (af (mIx (ak 0) (kI 1)) (af (mIx (ak 0) (kI 2)) nZ))) (af (bf nZ) nZ)))) bF)
  (aq (bx (mB (m2 dIn (mIx (ak 0) (kI 0)) (cg (af (kSt "least") (af (kSt "most") nZ))))) (bH (cg (af (aJ vT (af (mIx (ak 0) (kI 2)) nZ)) (af (mIx (ak 0) (kI 3)) nZ)))) bF)
  (bH (cg (af (mIx (bh (mIx (ak 0) (kI 1))) (kI 1)) (af (bf nZ) nZ))))))
abbrev vU:=bY 1 Ax
abbrev Ay:MF3:=
 (aq (dJ 1 (bQ 1 [] (bh (mIx (ak 0) (m1 fO (kI 2)))) (aF 0) kY (aJ vU (af (ae 0) nZ))))
  (aq (bx (mB (m2 dEq (mIx (ak 0) (kI 0)) (kSt "choose"))) (ge 1 (cg (af (aJ vT (af (mIx (ak 0) (kI 3)) nZ)) (af (mIx (ak 0) (kI 4)) nZ)))) (bx (mB (m2 dNe (mIx (ak 0) (kI 0)) (kSt "never"))) (ge 1 (cg (af (mIx (bh (mIx (ak 0) (kI 1))) (kI 1)) (af (bf nZ) nZ)))) bF))
  (fG 1)))
abbrev Az:=bY 2 Ay
abbrev AA:MF3:=
 (aq (gc (aJ vR (af (mIx (ak 0) (m1 fO (kI 1))) (af (bf nZ) (af (ae 1) nZ)))))
  (cI (bh (aJ Az (af (ae 0) nZ))) (dg (bu (aF 2) (bu (aF 3) da))) (aq (gc (aJ vR (af (ae 3) (af (mIx (ak 0) (m1 fO (kI 1))) (af (ae 1) nZ)))))
  (gc (aJ Av (af (ae 2) (af (m2 cT (mIx (ak 0) (m1 fO (kI 1))) (ae 3)) nZ)))))))
abbrev vV:=bY 4 AA
abbrev AB:MF3:=
 (aq (cb 2 (mIx (ak 0) (kI 1)))
  (aq (bx (mB (m2 dIn (ae 2) (bf (bQ 2 [] (bh (ae 1)) (dg (bu (aF 0) (bu (aF 1) da))) kY (ae 0))))) (λ_=>ab) bF)
  (gc (aJ vQ (af (mIx (ak 0) (kI 2)) nZ)))))
abbrev vW:=bY 3 AB
abbrev vX:MF3:=
 (aq (dJ 1 nZ)
  (aq (cI (bh (ae 0)) (aF 2) (bx (mB (m2 dEq (mIx (ak 2) (kI 0)) (kSt "kind"))) (aq (gc (i5 vW (af (ae 2) (af (fo 1) nZ))))
  (ge 1 (cg (af (mIx (ak 2) (kI 1)) (af (bf (bh (mIx (ak 2) (kI 2)))) nZ))))) (gc (i5 vV (af (ae 2) (af (fo 1) nZ))))))
  (fG 1)))
abbrev AC:=bY 3 vX
abbrev vY:MF3:=
 (aq (bx (mB (m2 dIn (mIx (ak 0) (kI 0)) (cg (af (kSt "in") (af (kSt "out") nZ))))) (bH (cg (af (mIx (ak 0) (kI 0)) (af (m2 gf (ae 1) (mIx (ak 0) (kI 1))) nZ)))) bF)
  (bH (cg (af (mIx (ak 0) (kI 0)) (af (mIx (ak 0) (kI 1)) (af (bf (bQ 2 [1] (bh (mIx (ak 0) (kI 2))) (dg (bu (aF 0) (bu (aF 1) da))) kY (cg (af (m2 gf (ae 2) (ae 0)) (af (ae 1) nZ))))) nZ))))))
abbrev vZ:=bY 2 vY
abbrev v3:MF3:=
 (aq (cb 2 (vIf (mB (m2 dIs (mIx (ak 0) (kI 1)) kN)) kN (m2 gf (ae 1) (mIx (ak 0) (kI 1)))))
  (nK (rh (af (mIx (ak 0) (kI 0)) (af (ae 2) nZ)) (nJ (bQ 1 [1] (bh (mIx (ak 0) (kI 2))) (aF 0) kY (aJ vZ (af (ae 0) (af (ae 1) nZ))))))))
abbrev v4(a:LD):Option O:=lY 3 v3 a
abbrev AD:MF3:=
 (bx (mB (m2 dGt (oI (aJ bE (af (ae 0) nZ)) (lq (ae 0))) (ae 1))) (λ_=>ab) bF)
abbrev px:=bY 3 AD
abbrev v5:MF3:=
 (aq (dJ 1 (rM (mB (m2 dIs (mIx (ak 0) (kI 1)) kN)) nZ (af (mIx (ak 0) (kI 1)) nZ)))
  (aq (cI (bh (mIx (ak 0) (kI 2))) (aF 2) (bx (mB (m2 dIn (mIx (ak 2) (kI 0)) (cg (af (kSt "in") (af (kSt "out") nZ))))) (ge 1 (mIx (ak 2) (kI 1))) (j1 1 (j0 (bf (bQ 2 [] (bh (mIx (ak 2) (kI 2))) (dg (bu (aF 0) (bu (aF 1) da))) kY (ae 0)))))))
  (fG 1)))
abbrev AE:=bY 3 v5
abbrev v6:MF3:=
 (aq (qU 1)
  (aq (cI (bh (ae 0)) (aF 2) (cI (bh (aJ AE (af (ae 2) nZ))) (aF 3) (rL 1 (ae 3) (lq (fo 1)))))
  (aq (k9 1 (gc (aJ px (af (ae 1) (af (kI 60) (af (kSt "things") nZ))))))
  (k9 1 (bH (ae 1))))))
abbrev AF:=bY 4 v6
abbrev AG:MF3:=
 (nw (bQ 1 [1] (bh (ae 0)) (aF 0) kY (md (ae 1) (ae 0) (ae 0))))
abbrev v7:=bY 2 AG
abbrev AH:MF3:=
 (aq (cb 2 (bf (bQ 1 [1] (bh (ae 0)) (aF 0) (mB (m2 dEq (mIx (ak 0) (kI 0)) (kSt "unlike"))) (aJ v7 (af (y3 (ae 0) (mPt (kI 1)) (λ_=>aa ab)) (af (ae 1) nZ))))))
  (bH (aJ uH (af (bf (bQ 2 [] (bh (ae 2)) (y4 (bu (aF 0) (bu (aF 1) da))) kY (m2 dEq (ae 0) (ae 1)))) nZ))))
abbrev AI:=bY 3 AH
abbrev b_9:MF3:=
 (aq (u6 2 (ae 1))
  (aq (k9 2 (cb 3 (bf (af (bf nZ) nZ))))
  (aq (cI (bh (ae 0)) (dg (bu (aF 4) (bu (aF 5) da))) (aq (dJ 6 nZ)
  (aq (cI (bh (ae 3)) (aF 7) (j1 6 (j0 (bf (bQ 1 [7] (bh (m2 gf (ae 2) (ae 5))) (aF 0) kY (bf (gw (ae 1) (bf (af (ae 0) nZ)))))))))
  (gI 6 (cb 3 (ae 6))))))
  (fG 3))))
abbrev m_9:=bY 8 b_9
abbrev v8:MF3:=
 (aq (cb 3 (bf (bQ 2 [] (bh (ae 0)) (dg (bu (aF 0) (bu (aF 1) da))) kY (ae 0))))
  (aq (dJ 4 nZ)
  (aq (cI (bh (aJ m_9 (af (ae 0) (af (ae 1) nZ)))) (aF 5) (aq (pb 6 (ae 2))
  (aq (pc 6 (vd (af (ae 3) (af (ae 5) nZ))))
  (gI 6 (ge 4 (ae 6))))))
  (fG 4))))
abbrev v9:=bY 7 v8
abbrev wa:MF3:=
 (aq (dJ 4 (bQ 2 [3] (bh (ae 2)) (dg (bu (aF 0) (bu (aF 1) da))) kY (cg (af (kSt "may") (af (ae 0) (af (ae 2) nZ))))))
  (aq (ge 4 (cg (af (kSt "never") (af kN (af (bf (gw (ae 3) (bf (af (cg (af (kSt "most") (af (m2 kR (ae 0) (kI 1)) (af (ae 2) nZ)))) nZ)))) nZ)))))
  (aq (ge 4 (cg (af (kSt "never") (af kN (af (bf (gw (ae 3) (bf (af (cg (af (kSt "least") (af (m2 cT (ae 1) (kI 1)) (af (ae 2) nZ)))) nZ)))) nZ)))))
  (fG 4))))
abbrev AJ:=bY 5 wa
abbrev wb:MF3:=
 (aq (cb 1 (mIx (ak 0) (kI 0)))
  (aq (cb 2 (m2 u9 (kSt ",") (mIx (ak 0) (kI 1))))
  (bH (vIf (dz (ae 2)) (mFs (mFv (ae 1) (mFc "(" (mFv (ae 2) (mFc ")" nZ))))) (ae 1)))))
abbrev AK:=bY 3 wb
abbrev AL:MF3:=
 (bH (aJ AK (af (cg (af (mIx (ak 0) (kI 0)) (af (aJ v7 (af (mIx (ak 0) (kI 1)) (af (ae 1) nZ))) nZ))) nZ)))
abbrev py:=bY 2 AL
abbrev wc:MF3:=
 (aq (dJ 4 nZ)
  (aq (cI (bh (ae 0)) (dg (bu (aF 5) (bu (aF 6) da))) (j1 4 (j0 (bf (bQ 1 [6,5] (bh (aJ v9 (af (ae 1) (af (ae 3) (af (ae 2) nZ))))) (aF 0) kY (cg (af (aJ py (af (ae 2) (af (ae 0) nZ))) (af (ae 1) nZ))))))))
  (aq (gI 4 (gc (aJ px (af (ae 4) (af (kI 60) (af (kSt "items") nZ))))))
  (fG 4))))
abbrev wd:=bY 7 wc
abbrev we:MF3:=
 (aq (bx (mB (m2 dEq (mIx (ak 0) (kI 0)) (kSt "is"))) (bH (cg (af (kSt "in") (af (aJ py (af (mIx (ak 0) (kI 1)) (af (ae 1) nZ))) nZ)))) bF)
  (aq (bx (mB (m2 dEq (mIx (ak 0) (kI 0)) (kSt "not"))) (bH (cg (af (kSt "out") (af (aJ py (af (mIx (ak 0) (kI 1)) (af (ae 1) nZ))) nZ)))) bF)
  (bH (cg (af (mIx (ak 0) (kI 0)) (af (mIx (ak 0) (kI 1)) (af (aJ wd (af (mIx (ak 0) (kI 2)) (af (mIx (ak 0) (kI 3)) (af (ae 1) (af (ae 2) nZ))))) nZ)))))))
abbrev wf:=bY 3 we
abbrev wg:MF3:=
 (aq (cb 3 (bf (bQ 1 [1,2] (bh (mIx (ak 0) (m1 fO (kI 2)))) (aF 0) (mB (m2 dNe (mIx (ak 0) (kI 0)) (kSt "unlike"))) (aJ wf (af (ae 0) (af (ae 1) (af (ae 2) nZ)))))))
  (aq (bx (mB (m2 dEq (mIx (ak 0) (kI 0)) (kSt "never"))) (nw (af (cg (af (kSt "never") (af kN (af (ae 3) nZ)))) nZ)) bF)
  (aq (bx (mB (m2 dEq (mIx (ak 0) (kI 0)) (kSt "choose"))) (bH (aJ AJ (af (mIx (ak 0) (kI 1)) (af (mIx (ak 0) (kI 2)) (af (aJ wd (af (mIx (ak 0) (kI 3)) (af (mIx (ak 0) (kI 4)) (af (ae 1) (af (ae 2) nZ))))) (af (ae 3) nZ)))))) bF)
  (aq (cb 4 (vIf (mB (m2 dEq (mIx (ak 0) (kI 0)) (kSt "rule"))) (kSt "make") (kSt "may")))
  (nw (af (cg (af (ae 4) (af (aJ py (af (mIx (ak 0) (kI 1)) (af (ae 1) nZ))) (af (ae 3) nZ)))) nZ))))))
abbrev AM:=bY 5 wg
abbrev wj:MF3:=
 (aq (dJ 2 nZ)
  (aq (cI (bh (ae 0)) (aF 3) (bx (mB (m2 dNe (mIx (ak 3) (kI 0)) (kSt "kind"))) (cI (bh (aJ v9 (af (mIx (ak 3) (m1 fO (kI 1))) (af (ae 1) (af (λ_=>aa (.dic [] [])) nZ))))) (aF 4) (bx (dW (dz (aJ AI (af (mIx (ak 3) (m1 fO (kI 2))) (af (ae 4) nZ))))) (aq (j1 2 (j0 (aJ AM (af (ae 3) (af (ae 4) (af (ae 1) nZ))))))
  (gc (i5 px (af (fo 2) (af (kI 400) (af (kSt "rules") nZ)))))) bF)) bF))
  (fG 2)))
abbrev AN:=bY 5 wj
abbrev wk:MF3:=
 (aq (cb 1 (aJ AN (af (ae 0) (af (aJ AC (af (ae 0) nZ)) nZ))))
  (aq (cb 2 (aJ AF (af (ae 1) nZ)))
  (nK (rP (k8 (nJ (ve (ae 2))) (k8 (rP (k8 (oT (lq (ae 2))) (k8 (oV 1 [2] (bh (ae 1)) (aF 0) kY (i9 v4 (af (ae 0) (af (ae 1) nZ)))) nZ))) nZ))))))
abbrev mi(a:LD):Option O:=lY 3 wk a
abbrev b_1:MF3:=
 (aq (cb 1 (kI 1))
  (aq (bx (mB (m2 dGt (aJ bE (af (ae 0) nZ)) (kI 0))) (cb 1 (m2 cT (kI 1) (m2 jx (mIx (ak 0) (kI 0)) (kI 3)))) bF)
  (aq (cb 2 (aJ m_3 (af (ae 0) (af (ae 1) nZ))))
  (aq (oU 3 (i9 mi (af (ae 2) nZ)))
  (aq (bx (mOr (dW (dz (kX vJ (af (fo 3) (af (ae 2) nZ))))) (mB (m2 dNe (ae 2) (aJ m_3 (af (ae 0) (af (ae 1) nZ)))))) (bH (kBl ag)) bF)
  (aq (y7 3 (qIx (rN 3) 0) (kSt "x"))
  (aq (vi 3 (qIx (qIx (rN 3) 1) 1) 4 5 6 [4,5,6] (rq 6 (oT (cg (af (kSt "in") (af (kI 0) nZ))))))
  (aq (y7 3 (qIx (qIx (rN 3) 1) 1) (cg (af (kSt "may") (af (kI 0) (af (bf nZ) nZ)))))
  (bH (jw (kX vJ (af (zB (i9 mi (af (ae 2) nZ))) (af (ae 2) nZ))) (m2 dEq (zB (i9 mi (af (bf nZ) nZ))) (cg (af (bf nZ) (af (cg (af (kI 0) (af (bf nZ) nZ))) nZ))))))))))))))
abbrev m_1:=bY 7 b_1
seal DSs DS DX DE DO
variable{P:dn}{w:World}{K:bm}{mg:MGT}{base:Heap}{a:Wa}
def NN(W:Wd K mg a):qD P w K mg base a 1 "_law_in_order" a.e_8 ["_law_found"] m_8:=by
 refine W.e_8.pk (cj (F:=b_8) W.e_8.F ki λ_ _ _ _ _ _ e=>?_);have d:=e.units;unfold b_8;exact (ar (dB 1 ki.nd aj)
 (ar (cZ cE rfl (bX (dv 0)) (eL rfl (bL (bB 2 8 ki.nd) (bL (bB 3 8 ki.nd) (bL (bB 4 8 ki.nd) dX)))) (ar (gt 5 ki.nd (by refine yg ?a ?b ?c; (case a=>exact (DO.de (b9 (ai (dv 3) aA)))); (case b=>exact qN); (case c=>exact (nj (oW rfl W.z_int (gW Db Dd (DE.db (dv 3)) (DE.db lM)))))))
 (ar (cZ cE rfl (bX (dv 4)) (bB 6 8 ki.nd) (aw (bI (bn (c7 d) dA (DE.db (cv cG cH rfl W.z_len cA (bi (DE.db (dv 6)) bO))) (DE.db aj)) (aw (jB (du (dw eJ fJ fK fN (pv 5) (bW (DE.pe (ay (dvC 6) aj)) cs))))) (aw (EX 5 ki.nd (DE.dx (DO.de (gr 1 [] ["_law_item"] rfl (DI.de (bX (ay (dvC 6) aj))) (λ_ _ _ _ _=>(dgc 0 1)) (λ_ _ _ _ _=>dY) (λ_ _ _ _ _=>(ay (kW 0) aj))))))))))
 (aw (jA 5 (cZ cE rfl (bX (dv 5)) (bB 7 8 ki.nd) (ar (bI (bn iX kS (DE.db (dv 7)) (DE.db (dv 1))) (aw (bS (iY aj))) bM)
 (aw (rF 1 ki.nd (DE.dx (oW rfl W.z_int (gW (c7 d) dA (DE.db (dv 7)) (DE.db (dv 1))))))))))))))
 (aw (iw 1))))
def NO(W:Wd K mg a):qD P w K mg base a 1 "_law_apart" a.e_38 ["_law_body_here","_law_chosen"] Af:=by
 refine W.e_38.pk (cj (F:=vw) W.e_38.F Ad λ_ _ _ _ _ _ c=>?_);have b:=c.units;unfold vw;exact (ar (cZ cE rfl (bX (dv 0)) (bB 2 4 Ad.nd) (aw (bI (bn (c7 b) dA (DE.db (ay (dvC 2) aj)) (DE.db aS)) (ar (dB 3 Ad.nd (vg b (dv 1) (ay (dvC 2) aj) (ay (dvC 2) aj) ⟨rfl,rfl,rfl,rfl⟩))
 (aw (bI (bn (c7 b) dA (DE.db (dv 3)) (DE.db (vg b (dv 1) (ay (dvC 2) aj) (ay (dvC 2) aj) ⟨rfl,rfl,rfl,rfl⟩))) (aw (bS eW)) bM))) bM)))
 (aw (bS eW)))
def FJ(W:Wd K mg a):Pk P w K mg base CX0 1 "_law_choice" a.e_37 ["_law_number_here","_law_pairs_here","_law_kinds"] (spT ⟨K,a.cl⟩ ["_law_number_here","_law_pairs_here","_law_kinds"].length vA):=by
 refine W.e_37.pk (yH (F:=vz) W.e_37.F pi λ_ _ _ _ _ _ c=>?_);have b:=c.units;unfold vz;exact (ar (yz 3 pi.nd)
 (ar (cZ cE rfl (Lq rfl W.z_reversed (ai (dv 1) aA)) (eL rfl (bL (bB 4 7 pi.nd) (bL (bB 5 7 pi.nd) dX))) (ar (K7 (Mi rfl W.z_divmod (ai (dv 0) (ai (cv cG cH rfl W.z_len cA (bi (DE.db (lZ b (dv 2) (dv 5))) bO)) aA))) (eL rfl (bL (bB 0 7 pi.nd) (bL (bB 6 7 pi.nd) dX))))
 (aw (DR b (pv 3) (dv 4) (ay (DE.dc (lZ b (dv 2) (dv 5))) (dv 6))))))
 (aw (yI (Nz 3)))))
def wl(W:Wd K mg a):qD P w K mg base a 1 "_law_whole" a.e_22 ["_law_found"] pj:=by
 refine W.e_22.pk (cj (F:=Ag) W.e_22.F NL λ_ _ _ _ _ _ b=>?_);unfold Ag;exact(aw (bS (na (iZ (T:="int") W.is_int rfl W.z_isinstance boot_int rfl W.z_int (DE.db (dv 0))) (m9 (Kh (iZ (T:="bool") W.is_bool rfl W.z_isinstance boot_bool rfl W.z_bool (DE.db (dv 0))))))))
def AO(W:Wd K mg a):qD P w K mg base a 2 "_law_is" a.e_26 ["_law_found","_law_text_here","_law_table"] pq:=by
 refine W.e_26.pk (cj (F:=Ah) W.e_26.F NM λ_ _ _ _ _ _ b=>?_);have c:=b.units;unfold Ah;exact(aw (bS (na (bN (wl W) b (ai (dv 0) aA)) (na (D6 ya yc x9 yb (DE.db aj) (DE.db (dv 0)) (DE.db (cv cG cH rfl W.z_len cA (bi (DE.db (dv 2)) bO)))) (m9 (gW (c7 c) dA (DE.db (ay (dvC 2) (dv 0))) (DE.db (dv 1))))))))
def AQ(W:Wd K mg a):qD P w K mg base a 1 "_law_text" a.e_7 ["_law_thing_here","_law_chosen"] m_7:=by
 refine W.e_7.pk (cj (F:=b_7) W.e_7.F rX λ_ _ _ _ _ _ b=>?_);have c:=b.units;unfold b_7;exact (ar (dB 2 rX.nd (ay (dvC 0) aj))
 (ar (cZ cE rfl (DN rfl W.z_enumerate (ai (ay (dvC 0) aj) aA)) (eL rfl (bL (bB 3 5 rX.nd) (bL (bB 4 5 rX.nd) dX))) (aw (rF 2 rX.nd (DE.dx (ci eO (LX aS (oW rfl W.z_int (gW iX kS (DE.db (dv 3)) (DE.db aj)))) (vg c (dv 1) (dv 4) (dv 4) ⟨rfl,rfl,rfl,rfl⟩))))))
 (aw (bS (ci eO (dv 2) (ci LY aS (oW rfl W.z_int (gW iX kS (DE.db (cv cG cH rfl W.z_len cA (bi (DE.db (ay (dvC 0) aj)) bO))) (DE.db aj)))))))))
def FK(W:Wd K mg a):qD P w K mg base a 1 "_law_total" a.e_15 ["_law_pairs_here","_law_kinds"] vC:=by
 refine W.e_15.pk (cj (F:=vB) W.e_15.F rW λ_ _ _ _ _ _ b=>?_);have c:=b.units;unfold vB;exact (ar (dB 2 rW.nd aj)
 (ar (cZ cE rfl (bX (dv 0)) (eL rfl (bL (bB 3 5 rW.nd) (bL (bB 4 5 rW.nd) dX))) (aw (dB 2 rW.nd (ci nI (dv 2) (cv cG cH rfl W.z_len cA (bi (DE.db (lZ c (dv 1) (dv 4))) bO))))))
 (aw (iw 2))))
def NP(W:Wd K mg a):qD P w K mg base a 3 "_law_items_right" a.e_16 ["_law_found","_law_part_here","_law_kinds","_law_chosen","_law_table"] Ai:=by
 refine W.e_16.pk (cj (F:=vD) W.e_16.F nR λ_ _ _ _ _ _ b=>?_);have c:=b.units;unfold vD;exact (ar (bI (fD (eX (DE.db (iZ (T:="list") W.is_list rfl W.z_isinstance mL rfl W.z_list (DE.db (dv 0)))))) (aw (bS eW)) bM)
 (ar (dB 5 nR.nd aj)
 (ar (cZ cE rfl (bX (ay (dvC 1) aj)) (eL rfl (bL (bB 6 10 nR.nd) (bL (bB 7 10 nR.nd) dX))) (aw (cZ cE rfl (oO rfl W.z_range (ai (bN (FK W) b (ai (ay (dvC 1) aj) (ai (dv 2) aA))) aA)) (bB 8 10 nR.nd) (ar (Fh 9 nR.nd rfl W.z_dict (dv 3))
 (ar (Fk (du (dw tH xq PySem.F.type_dict_update Ff (pv 9) (bW (DE.pe (DZ.de (rj (FJ W) b (ai (dv 8) (ai (ay (dvC 1) aj) (ai (dv 2) aA)))))) cs))))
 (ar (bI (DW.dt (fU (bn C6 C7 (DE.db (dv 5)) (DE.db (cv cG cH rfl W.z_len cA (bi (DE.db (dv 0)) bO)))) (fU (fD (eX (DE.db (iZ (T:="tuple") W.is_tuple rfl W.z_isinstance boot_tuple rfl W.z_tuple (DE.db (ay (dvC 0) (dv 5))))))) (io (bn (fF c) fE (DE.db (cv cG cH rfl W.z_len cA (bi (DE.db (ay (dvC 0) (dv 5))) bO))) (DE.db aj)))))) (aw (bS eW)) bM)
 (ar (bI (fD (eX (DE.db (qQ (AO W) b (bi (DE.db (ay (DE.dc (ay (dvC 0) (dv 5))) aj)) (bi (K3 (AQ W) b (bi (DE.db (dv 6)) (bi (dvB 9) bO))) (bi (DE.db (dv 4)) bO))))))) (aw (bS eW)) bM)
 (ar (bI (DW.dt (fU (fD (eX (DE.db (bN (wl W) b (ai (ay (DE.dc (ay (dvC 0) (dv 5))) aj) aA))))) (io (bn (fF c) fE (DE.db (ay (DE.dc (ay (dvC 0) (dv 5))) aj)) (DE.db (dv 7)))))) (aw (bS eW)) bM)
 (aw (rF 5 nR.nd (DE.dx aj)))))))))))
 (aw (bS (gW (c7 c) dA (DE.db (dv 5)) (DE.db (cv cG cH rfl W.z_len cA (bi (DE.db (dv 0)) bO)))))))))
def NQ(W:Wd K mg a):qD P w K mg base a 4 "_law_part_right" a.e_48 ["_law_found","_law_part_here","_law_kinds","_law_chosen","_law_table"] Aj:=by
 refine W.e_48.pk (cj (F:=vE) W.e_48.F FI λ_ _ _ _ _ _ c=>?_);have b:=c.units;unfold vE;exact (ar (bI (fD (eX (DE.db (iZ (T:="tuple") W.is_tuple rfl W.z_isinstance boot_tuple rfl W.z_tuple (DE.db (dv 0)))))) (aw (bS eW)) bM)
 (ar (bI (DW.dt (fU (bn (c7 b) dA (DE.db (ay (dvC 1) aj)) (DE.db aS)) (io (bn (c7 b) dA (DE.db (ay (dvC 1) aj)) (DE.db aS))))) (ar (dB 5 FI.nd (ay (DO.dc (b9 (ai aS (ai aS aA)))) (oW rfl W.z_int (gW (c7 b) dA (DE.db (ay (dvC 1) aj)) (DE.db aS)))))
 (ar (bI (DW.dt (fU (bn (fF b) fE (DE.db (cv cG cH rfl W.z_len cA (bi (DE.db (dv 0)) bO))) (DE.db aj)) (io (bn (fF b) fE (DE.db (ay (dvC 0) aj)) (DE.db (dv 5)))))) (aw (bS eW)) bM)
 (aw (bS (bN (AO W) c (ai (ay (dvC 0) aj) (ai (bN (AQ W) c (ai (ay (dvC 1) aj) (ai (dv 3) aA))) (ai (dv 4) aA)))))))) bM)
 (ar (bI (DW.dt (fU (bn (fF b) fE (DE.db (cv cG cH rfl W.z_len cA (bi (DE.db (dv 0)) bO))) (DE.db aj)) (fU (bn (fF b) fE (DE.db (ay (dvC 0) aj)) (DE.db (ay (dvC 1) aj))) (fU (fD (eX (DE.db (bN (wl W) c (ai (ay (dvC 0) aj) aA))))) (io (bn (fF b) fE (DE.db (ay (dvC 0) aj)) (DE.db (ay (dvC 1) aj)))))))) (aw (bS eW)) bM)
 (aw (bS (bN (NP W) c (ai (ay (dvC 0) aj) (ai (dv 1) (ai (dv 2) (ai (dv 3) (ai (dv 4) aA)))))))))))
def NR(W:Wd K mg a):qD P w K mg base a 5 "_law_rule_right" a.e_27 ["_law_found","_law_row_here","_law_kinds","_law_chosen","_law_table"] Ak:=by
 refine W.e_27.pk (cj (F:=vF) W.e_27.F rY λ_ _ _ _ _ _ c=>?_);have b:=c.units;unfold vF;exact (ar (bI (DW.dt (fU (fD (eX (DE.db (iZ (T:="tuple") W.is_tuple rfl W.z_isinstance boot_tuple rfl W.z_tuple (DE.db (dv 0)))))) (io (bn (fF b) fE (DE.db (cv cG cH rfl W.z_len cA (bi (DE.db (dv 0)) bO))) (DE.db aj))))) (aw (bS eW)) bM)
 (ar (Nx 5 [("rule","make"),("may","may"),("never","never")] rY.nd (by decide +kernel) (xT mY mY (xT mY mY (xT mY mY JV))))
 (ar (uY 5 (bI (DW.dt (fU (bn (fF b) fE (DE.db (ay (dvC 0) aj)) (DE.db (lZ b (dv 5) (ay (dvC 1) aj)))) (io (fD (eX (DE.db (iZ (T:="list") W.is_list rfl W.z_isinstance mL rfl W.z_list (DE.db (ay (dvC 0) aj))))))))) (aw (bS eW)) bM))
 (ar (bI (DW.dt (uk (bn (c7 b) dA (DE.db (ay (dvC 1) aj)) (DE.db aS)) (uj (bn Db Dd (DE.db (ay (dvC 0) aj)) (DE.db lM))))) (aw (bS eW)) bM)
 (ar (bI (DW.dt (uk (bn (fF b) fE (DE.db (ay (dvC 1) aj)) (DE.db aS)) (uj (fD (eX (DE.db (bN (AO W) c (ai (ay (dvC 0) aj) (ai (bN (AQ W) c (ai (ay (dvC 1) aj) (ai (dv 3) aA))) (ai (dv 4) aA)))))))))) (aw (bS eW)) bM)
 (ar (ny 7 1 [] ["_law_part_here"] rY.nd rfl (DI.de (bX (ay (dvC 1) (iY aj)))) (λ_ _ _ _ _=>(dgc 0 1)) (λ_ _ _ _ _=>(uB (bn (fF b) fE (DE.db (ay (kW 0) aj)) (DE.db aS)))) (λ_ _ _ _ _=>(dvc 0)))
 (ar (bI (bn (fF b) fE (DE.db (cv cG cH rfl W.z_len cA (bi (DE.db (ay (dvC 0) aj)) bO))) (DE.db (cv cG cH rfl W.z_len cA (bi (DE.db (dv 7)) bO)))) (aw (bS eW)) bM)
 (ar (cZ cE rfl (Ko rfl W.z_zip (ai (ay (dvC 0) aj) (ai (dv 7) aA))) (eL rfl (bL (bB 8 9 rY.nd) (bL (bB 6 9 rY.nd) dX))) (aw (bI (fD (eX (DE.db (bN (NQ W) c (ai (dv 8) (ai (dv 6) (ai (dv 2) (ai (dv 3) (ai (dv 4) aA))))))))) (aw (bS eW)) bM)))
 (aw (bS eW))))))))))
def NS(W:Wd K mg a):qD P w K mg base a 6 "_law_rules_right" a.e_11 ["_law_found","_law_rows_here","_law_table"] vH:=by
 refine W.e_11.pk (cj (F:=vG) W.e_11.F nS λ_ _ _ _ _ _ b=>?_);have c:=b.units;unfold vG;exact (ar (yz 3 nS.nd)
 (ar (dB 4 nS.nd aj)
 (ar (cZ cE rfl (bX (dv 1)) (bB 5 8 nS.nd) (ar (bI (bn (c7 c) dA (DE.db (ay (dvC 5) aj)) (DE.db aS)) (ar (DR c (pv 3) (ay (dvC 5) aj) (ay (dvC 5) aj))
 (aw Dt)) bM)
 (aw (cZ cE rfl (oO rfl W.z_range (ai (uO (FK W) b (bi (DE.db (ay (dvC 5) (iY aj))) (bi (dvB 3) bO))) aA)) (bB 6 8 nS.nd) (ar (Eo 7 nS.nd (Ly (FJ W) b (bi (DE.db (dv 6)) (bi (DE.db (ay (dvC 5) (iY aj))) (bi (dvB 3) bO)))))
 (ar (bI (fD (eX (DE.db (qQ (NO W) b (bi (DE.db (ay (dvC 5) (iY aj))) (bi (dvB 7) bO)))))) (aw Dt) bM)
 (ar (bI (DW.dt (fU (bn C6 C7 (DE.db (dv 4)) (DE.db (cv cG cH rfl W.z_len cA (bi (DE.db (dv 0)) bO)))) (io (fD (eX (DE.db (qQ (NR W) b (bi (DE.db (ay (dvC 0) (dv 4))) (bi (DE.db (dv 5)) (bi (dvB 3) (bi (dvB 7) (bi (DE.db (dv 2)) bO)))))))))))) (aw (bS eW)) bM)
 (aw (rF 4 nS.nd (DE.dx aj))))))))))
 (aw (bS (gW (c7 c) dA (DE.db (dv 4)) (DE.db (cv cG cH rfl W.z_len cA (bi (DE.db (dv 0)) bO)))))))))
def FL(W:Wd K mg a):qD P w K mg base a 7 "_law_right" a.e_28 ["_law_found","_law_rows_here"] vJ:=by
 refine W.e_28.pk (cj (F:=vI) W.e_28.F Ae λ_ _ _ _ _ _ c=>?_);have b:=c.units;unfold vI;exact (ar (bI (DW.dt (fU (fD (eX (DE.db (iZ (T:="tuple") W.is_tuple rfl W.z_isinstance boot_tuple rfl W.z_tuple (DE.db (dv 0)))))) (fU (bn (fF b) fE (DE.db (cv cG cH rfl W.z_len cA (bi (DE.db (dv 0)) bO))) (DE.db aj)) (io (fD (eX (DE.db (iZ (T:="list") W.is_list rfl W.z_isinstance mL rfl W.z_list (DE.db (ay (dvC 0) aj)))))))))) (aw (bS eW)) bM)
 (ar (dB 2 Ae.nd (ay (dvC 0) aj))
 (ar (bI (DW.dt (fU (bn (fF b) fE (DE.db (E4 rfl rfl W.z_len rfl W.z_set (dv 2))) (DE.db (cv cG cH rfl W.z_len cA (bi (DE.db (dv 2)) bO)))) (io (fD (eX (DE.db (cv (DK rfl) DL rfl W.z_all boot_all (bi (DE.db (DO.de (gr 1 [] ["_law_text_here"] rfl (DI.de (bX (dv 2))) (λ_ _ _ _ _=>(dgc 0 1)) (λ_ _ _ _ _=>dY) (λ_ _ _ _ _=>(iZ (T:="str") W.is_str (glc rfl) W.z_isinstance boot_str (glc rfl) W.z_str (DE.db (dvc 0))))))) bO)))))))) (aw (bS eW)) bM)
 (ar (dB 3 Ae.nd (ay (dvC 0) aj))
 (ar (bI (DW.dt (fU (fD (eX (DE.db (iZ (T:="tuple") W.is_tuple rfl W.z_isinstance boot_tuple rfl W.z_tuple (DE.db (dv 3)))))) (fU (bn (fF b) fE (DE.db (cv cG cH rfl W.z_len cA (bi (DE.db (dv 3)) bO))) (DE.db aj)) (io (fD (eX (DE.db (bN (wl W) c (ai (ay (dvC 3) aj) aA))))))))) (aw (bS eW)) bM)
 (ar (bI (DW.dt (fU (bn (fF b) fE (DE.db (ay (dvC 3) aj)) (DE.db (cv cG cH rfl W.z_len cA (bi (DE.db (dv 2)) bO)))) (io (fD (eX (DE.db (iZ (T:="list") W.is_list rfl W.z_isinstance mL rfl W.z_list (DE.db (ay (dvC 3) aj))))))))) (aw (bS eW)) bM)
 (aw (bS (na (bN (NS W) c (ai (ay (dvC 3) aj) (ai (dv 1) (ai (dv 2) aA)))) (m9 (gW (c7 b) dA (DE.db (bN (NN W) c (ai (ay (dvC 3) aj) aA))) (DE.db (cv cG cH rfl W.z_len cA (bi (DE.db (dv 2)) bO))))))))))))))
def cQ(W:Wd K mg a):qM P w K mg base a 1 "_law_next" a.e_0 ["_law_state","_law_many"] 0 m_0:=by
 refine W.e_0.pk (i7 (F:=b_0) W.e_0.F NJ λ_ _ _ _ _ _ b=>?_);unfold b_0;exact (ar (LR (pv 0) aj (ci lN (ci eO (ci nI (ay (Ei 0) aj) aj) aj) (ci nh (ci qF aj aj) aj)))
 (aw (jz (ci lN (ci C5 (ay (Ei 0) aj) aj) (dv 1)))))
def FM(W:Wd K mg a):qM P w K mg base a 2 "_law_small" a.e_13 ["_law_state","_law_many","_law_span"] 0 rZ:=by
 refine W.e_13.pk (i7 (F:=vK) W.e_13.F vq λ_ _ _ _ _ _ b=>?_);unfold vK;exact (ar (dB 3 vq.nd aS)
 (ar (cZ cE rfl (oO rfl W.z_range (ai (dv 1) aA)) (bB 4 5 vq.nd) (aw (rF 3 vq.nd (EJ (DE.dx aS) (bP (cQ W) b (bR 0 (aO (DE.dx (dv 2)) ba)))))))
 (aw (jz (dv 3)))))
def AR(W:Wd K mg a):qM P w K mg base a 3 "_law_name" a.e_4 ["_law_state"] 0 m_4:=by
 refine W.e_4.pk (i7 (F:=b_4) W.e_4.F rS λ_ _ _ _ _ _ b=>?_);unfold b_4;exact (ar (gt 1 rS.nd (b9 (ai aS (ai aS (ai aS (ai aS (ai aS (ai aS (ai aS (ai aS aA))))))))))
 (ar (EX 1 rS.nd (DE.dx (DO.de (b9 (ai aS (ai aS (ai aS (ai aS (ai aS (ai aS (ai aS (ai aS aA))))))))))))
 (ar (fW 2 rS.nd (iB (DE.dx (DO.de (b9 (ai aj (ai aj aA))))) (bP (cQ W) b (bR 0 (aO (DE.dx aj) ba)))))
 (ar (fW 3 rS.nd (bP (FM W) b (bR 0 (aO (jd eO (DE.dx aj) (bP (cQ W) b (bR 0 (aO (DE.dx aj) ba)))) (aO (DE.dx (dv 2)) ba)))))
 (ar (jA 1 (bI (bn qJ qH (DE.db (dv 3)) (DE.db (dv 1))) (aw (jz (ci eO aS (dv 3)))) bM))
 (aw (jz (dv 3))))))))
def NT(W:Wd K mg a):qM P w K mg base a 4 "_law_lay" a.e_6 ["_law_state"] 0 m_6:=by
 refine W.e_6.pk (i7 (F:=b_6) W.e_6.F lr λ_ _ _ _ _ _ b=>?_);unfold b_6;exact (ar (gt 1 lr.nd (b9 aA))
 (ar (uR cE rfl (rH rfl W.z_range (aO (jd eO (DE.dx aj) (bP (cQ W) b (bR 0 (aO (DE.dx aj) ba)))) ba)) (bB 2 7 lr.nd) (ar (fW 3 lr.nd (bP (AR W) b (bR 0 ba)))
 (aw (bI (bn qK qI (DE.db (dv 3)) (dvB 1)) (aw (jB (du (dw eJ fJ fK fN (pv 1) (bW (DE.pe (dv 3)) cs))))) bM))))
 (ar (Mw 4 1 [0] 0 0 ["_law_most","_law_state"] lr.nd rfl (Ef (DE.dx (DO.de (b9 (ai aj (ai aj (ai aj (ai aj aA)))))))) (λ_ _ _ _ _=>(dgc 0 1)) (λ_ _ _ _ _=>(lb (aO (bP (AR W) b (va 1 ba)) (aO (yS (Eg rfl) (glc rfl) W.z_min boot_min (aO (DE.dx (dvc 0)) (aO (bP (cQ W) b (va 1 (aO (DE.dx aj) ba))) ba))) ba)))))
 (ar (gt 5 lr.nd (b9 aA))
 (ar (uR cE rfl (rH rfl W.z_range (aO (bP (cQ W) b (bR 0 (aO (DE.dx aj) ba))) ba)) (bB 2 7 lr.nd) (ar (fW 3 lr.nd (bP (AR W) b (bR 0 ba)))
 (ar (jA 1 (MO 6 1 [0] 0 0 ["_law_place","_law_state"] lr.nd rfl (Ef (DE.dx (dv 1))) (λ_ _ _ _ _=>(dgc 0 1)) (λ_ _ _ _ _=>(rG iX (bP (cQ W) b (va 1 (aO (DE.dx aj) ba))) (DE.dx aj))) (λ_ _ _ _ _=>(DE.dx (dvc 0)))))
 (aw (bI (DW.dt (uk (bn iX kS (DE.db (cv cG cH rfl W.z_len cA (bi (DE.db (dv 6)) bO))) (DE.db aj)) (uj (bn qK qI (DE.db (dv 3)) (DE.db (DO.de (gr 1 [] ["_law_kind"] rfl (yi 5) (λ_ _ _ _ _=>(dgc 0 1)) (λ_ _ _ _ _=>dY) (λ_ _ _ _ _=>(ay (kW 0) aj))))))))) (aw (rE (du (dw eJ fJ fK fN (pv 5) (bW (DX.pe (lb (aO (DE.dx (dv 3)) (aO (MH (DE.dx (dv 6)) (jd nh (DE.dx aj) (jd nI (DE.dx aj) (bP (cQ W) b (bR 0 (aO (DE.dx aj) ba)))))) ba)))) cs))))) bM)))))
 (aw (jA 5 (jA 1 (jz (cO (ai (dv 4) (ai (dv 1) (ai (dv 5) aA)))))))))))))
def FN(W:Wd K mg a):qM P w K mg base a 2 "_law_number" a.e_20 ["_law_state"] 0 r9:=by
 refine W.e_20.pk (i7 (F:=r6) W.e_20.F FH λ_ _ _ _ _ _ b=>?_);have c:=b.units;unfold r6;exact (ar (fW 1 FH.nd (jd nh (bP (cQ W) b (bR 0 (aO (DE.dx aj) ba))) (DE.dx aj)))
 (ar (u0 (rG (c7 c) (bP (cQ W) b (bR 0 (aO (DE.dx aj) ba))) (DE.dx aj)) (aw (nM (jd eO (DE.dx (ci nI (dv 1) (ci qF aj aj))) (bP (cQ W) b (bR 0 (aO (DE.dx (ci qF aj aj)) ba)))))) bM)
 (aw (jz (dv 1)))))
def NU(W:Wd K mg a):qM P w K mg base a 3 "_law_variable" a.e_31 ["_law_state"] 0 vL:=by
 refine W.e_31.pk (i7 (F:=sd) W.e_31.F FG λ_ _ _ _ _ _ b=>?_);unfold sd;exact (ar (fW 1 FG.nd (EJ (DE.dx aS) (bP (cQ W) b (bR 0 (aO (iB (DE.dx (DO.de (b9 (ai aj (ai aj aA))))) (bP (cQ W) b (bR 0 (aO (DE.dx aj) ba)))) ba)))))
 (aw (nM (jd eO (DE.dx (dv 1)) (bP (FM W) b (bR 0 (aO (bP (cQ W) b (bR 0 (aO (DE.dx aj) ba))) (aO (iB (DE.dx (DO.de (b9 (ai aj (ai aj aA))))) (bP (cQ W) b (bR 0 (aO (DE.dx aj) ba)))) ba))))))))
def FO(W:Wd K mg a):qM P w K mg base a 4 "_law_pairs" a.e_14 ["_law_state","_law_kinds","_law_taken","_law_most"] 0 vM:=by
 refine W.e_14.pk (i7 (F:=se) W.e_14.F vv λ_ _ _ _ _ _ b=>?_);unfold se;exact (ar (gt 4 vv.nd (b9 aA))
 (ar (uR cE rfl (rH rfl W.z_range (aO (jd nI (yS (Eg rfl) rfl W.z_min boot_min (aO (DE.dx (dv 3)) (aO (jd eO (jd C5 (bP (cQ W) b (bR 0 (aO (DE.dx aj) ba))) (DE.dx aj)) (bP (cQ W) b (bR 0 (aO (DE.dx aj) ba)))) ba))) (DE.dx (oW rfl W.z_int (gW iX kS (DE.db (cv cG cH rfl W.z_len cA (bi (DE.db (dv 1)) bO))) (DE.db aj))))) ba)) (bB 5 7 vv.nd) (ar (fW 6 vv.nd (bP (NU W) b (bR 0 ba)))
 (aw (bI (bn qK qI (DE.db (dv 6)) (DE.db (DO.de (qV (dv 2) (DO.de (gr 1 [] ["_law_pair"] rfl (yi 4) (λ_ _ _ _ _=>(dgc 0 1)) (λ_ _ _ _ _=>dY) (λ_ _ _ _ _=>(ay (kW 0) aj)))))))) (aw (rE (du (dw eJ fJ fK fN (pv 4) (bW (DX.pe (lb (aO (DE.dx (dv 6)) (aO (iB (iB (DE.dx (dv 1)) (bP (cQ W) b (bR 0 (aO (DE.dx (cv cG cH rfl W.z_len cA (bi (DE.db (dv 1)) bO))) ba)))) (DE.dx aj)) ba)))) cs))))) bM))))
 (aw (jA 4 (jz (dv 4))))))
def wm(W:Wd K mg a):qM P w K mg base a 2 "_law_thing" a.e_2 ["_law_state","_law_lay_here","_law_known"] 0 m_2:=by
 refine W.e_2.pk (i7 (F:=b_2) W.e_2.F rT λ_ _ _ _ _ _ b=>?_);unfold b_2;exact (ar (Fa (iB (DE.dx (ay (dvC 1) aj)) (bP (cQ W) b (bR 0 (aO (DE.dx aj) ba)))) (eL rfl (bL (bB 3 7 rT.nd) (bL (bB 4 7 rT.nd) dX))))
 (ar (gt 5 rT.nd (b9 aA))
 (ar (cZ cE rfl (oO rfl W.z_range (ai (dv 4) aA)) (bB 6 7 rT.nd) (aw (u0 (DWX.dtx (EH (DT.dtx (bn iX kS (DE.db (cv cG cH rfl W.z_len cA (bi (DE.db (dv 2)) bO))) (DE.db aj))) (EG (rG iX (bP (cQ W) b (bR 0 (aO (DE.dx aj) ba))) (DE.dx aj))))) (aw (rE (du (dw eJ fJ fK fN (pv 5) (bW (DX.pe (iB (DE.dx (dv 2)) (bP (cQ W) b (bR 0 (aO (DE.dx (cv cG cH rfl W.z_len cA (bi (DE.db (dv 2)) bO))) ba))))) cs))))) (aw (rE (du (dw eJ fJ fK fN (pv 5) (bW (DX.pe (iB (DE.dx (ay (dvC 1) aj)) (bP (cQ W) b (bR 0 (aO (DE.dx (cv cG cH rfl W.z_len cA (bi (DE.db (ay (dvC 1) aj)) bO))) ba))))) cs))))))))
 (aw (jA 5 (jz (cO (ai (dv 3) (ai (dv 5) aA)))))))))
def NV(W:Wd K mg a):qM P w K mg base a 5 "_law_items" a.e_10 ["_law_state","_law_lay_here","_law_known","_law_kinds","_law_many"] 0 vN:=by
 refine W.e_10.pk (i7 (F:=sh) W.e_10.F ph λ_ _ _ _ _ _ b=>?_);unfold sh;exact (ar (fW 5 ph.nd (bP (FO W) b (bR 0 (aO (DE.dx (dv 3)) (aO (DE.dx (dv 2)) (aO (DE.dx aj) ba))))))
 (ar (dB 6 ph.nd (DO.de (qV (dv 2) (DO.de (gr 1 [] ["_law_pair"] rfl (DI.de (bX (dv 5))) (λ_ _ _ _ _=>(dgc 0 1)) (λ_ _ _ _ _=>dY) (λ_ _ _ _ _=>(ay (kW 0) aj)))))))
 (ar (gt 7 ph.nd (b9 aA))
 (ar (uR cE rfl (rH rfl W.z_range (aO (jd eO (DE.dx aj) (bP (cQ W) b (bR 0 (aO (DE.dx (dv 4)) ba)))) ba)) (bB 8 10 ph.nd) (ar (fW 9 ph.nd (iB (EE (aO (DE.dx aj) (aO (yS Mm rfl W.z_abs boot_abs (aO (bP (FN W) b (bR 0 ba)) ba)) ba))) (bP (cQ W) b (bR 0 (aO (DE.dx aj) ba)))))
 (aw (rE (du (dw eJ fJ fK fN (pv 7) (bW (DX.pe (lb (aO (bP (wm W) b (bR 0 (aO (DE.dx (dv 1)) (aO (DE.dx (dv 6)) ba)))) (aO (DE.dx (dv 9)) ba)))) cs)))))))
 (aw (jA 7 (jz (cO (ai (dv 7) (ai (dv 5) aA))))))))))
def NW(W:Wd K mg a):qM P w K mg base a 6 "_law_part" a.e_5 ["_law_state","_law_lay_here","_law_known","_law_kinds"] 0 m_5:=by
 refine W.e_5.pk (i7 (F:=b_5) W.e_5.F mf λ_ _ _ _ _ _ b=>?_);have c:=b.units;unfold b_5;exact (ar (fW 4 mf.nd (bP (cQ W) b (bR 0 (aO (DE.dx aj) ba))))
 (ar (bI (bn (c7 c) dA (DE.db (dv 4)) (DE.db aj)) (ar (dB 5 mf.nd (ci eO (dv 2) (ay (dvC 1) aj)))
 (ar (fW 6 mf.nd (iB (DE.dx (dv 5)) (bP (cQ W) b (bR 0 (aO (DE.dx (cv cG cH rfl W.z_len cA (bi (DE.db (dv 5)) bO))) ba)))))
 (ar (u0 (DWX.dtx (EH (DT.dtx (bn iX kS (DE.db (cv cG cH rfl W.z_len cA (bi (DE.db (dv 2)) bO))) (DE.db aj))) (EG (rG iX (bP (cQ W) b (bR 0 (aO (DE.dx aj) ba))) (DE.dx aj))))) (aw (fW 6 mf.nd (iB (DE.dx (dv 2)) (bP (cQ W) b (bR 0 (aO (DE.dx (cv cG cH rfl W.z_len cA (bi (DE.db (dv 2)) bO))) ba)))))) bM)
 (ar (fW 7 mf.nd (iB (DE.dx (dv 5)) (bP (cQ W) b (bR 0 (aO (DE.dx (cv cG cH rfl W.z_len cA (bi (DE.db (dv 5)) bO))) ba)))))
 (ar (u0 (rG (c7 c) (bP (cQ W) b (bR 0 (aO (DE.dx aj) ba))) (DE.dx aj)) (aw (jz (cO (ai aS (ai (dv 7) (ai (dv 6) aA)))))) bM)
 (aw (jz (cO (ai aS (ai (dv 6) (ai (dv 7) aA))))))))))) bM)
 (ar (bI (bn x9 yb (DE.db (dv 4)) (DE.db aj)) (ar (Fa (bP (NV W) b (bR 0 (aO (DE.dx (dv 1)) (aO (DE.dx (dv 2)) (aO (DE.dx (dv 3)) (aO (DE.dx aj) ba)))))) (eL rfl (bL (bB 8 10 mf.nd) (bL (bB 9 10 mf.nd) dX))))
 (aw (nM (lb (aO (DE.dx (ay (DO.dc (b9 (ai aS (ai aS aA)))) (ci lN (dv 4) aj))) (aO (bP (FN W) b (bR 0 ba)) (aO (DE.dx (dv 8)) (aO (DE.dx (dv 9)) ba)))))))) bM)
 (aw (nM (lb (aO (DE.dx (ay (DO.dc (b9 (ai aS (ai aS (ai aS aA))))) (ci nh (dv 4) aj))) (aO (bP (wm W) b (bR 0 (aO (DE.dx (dv 1)) (aO (DE.dx (dv 2)) ba)))) ba))))))))
def NX(W:Wd K mg a):qM P w K mg base a 7 "_law_body" a.e_47 ["_law_state","_law_lay_here","_law_known","_law_kinds"] 0 Al:=by
 refine W.e_47.pk (i7 (F:=si) W.e_47.F NK λ_ _ _ _ _ _ b=>?_);unfold si;exact(aw (nM (Ml 1 [0,1,2,3] 0 0 ["_law_k","_law_state","_law_lay_here","_law_known","_law_kinds"] rfl (rH rfl W.z_range (aO (bP (cQ W) b (bR 0 (aO (DE.dx aj) ba))) ba)) (λ_ _ _ _ _=>(dgc 0 1)) (λ_ _ _ _ _=>(bP (NW W) b (va 1 (aO (DE.dx (dvc 2)) (aO (DE.dx (dvc 3)) (aO (DE.dx (dvc 4)) ba)))))))))
def NY(W:Wd K mg a):qM P w K mg base a 8 "_law_row" a.e_21 ["_law_state","_law_lay_here","_law_kinds"] 0 Am:=by
 refine W.e_21.pk (i7 (F:=sj) W.e_21.F rV λ_ _ _ _ _ _ b=>?_);have c:=b.units;unfold sj;exact (ar (fW 3 rV.nd (bP (FO W) b (bR 0 (aO (DE.dx (dv 2)) (aO (DE.dx (DO.de (b9 aA))) (aO (DE.dx aj) ba))))))
 (ar (ny 4 1 [] ["_law_pair"] rV.nd rfl (DI.de (bX (dv 3))) (λ_ _ _ _ _=>(dgc 0 1)) (λ_ _ _ _ _=>dY) (λ_ _ _ _ _=>(ay (kW 0) aj)))
 (ar (fW 5 rV.nd (bP (NX W) b (bR 0 (aO (DE.dx (dv 1)) (aO (DE.dx (dv 4)) (aO (DE.dx (dv 2)) ba))))))
 (ar (fW 6 rV.nd (bP (cQ W) b (bR 0 (aO (DE.dx aj) ba))))
 (ar (bI (bn (c7 c) dA (DE.db (dv 6)) (DE.db aj)) (aw (nM (lb (aO (DE.dx aS) (aO (jd eO (DE.dx (dv 5)) (EE (aO (lb (aO (iB (DE.dx (DO.de (b9 (ai aS (ai aS aA))))) (bP (cQ W) b (bR 0 (aO (DE.dx aj) ba)))) (aO (bP (wm W) b (bR 0 (aO (DE.dx (dv 1)) (aO (DE.dx (dv 4)) ba)))) ba))) ba))) (aO (DE.dx (dv 3)) ba)))))) bM)
 (aw (nM (lb (aO (DE.dx (ay (DO.dc (b9 (ai aS (ai aS aA)))) (ci nh (dv 6) aj))) (aO (bP (wm W) b (bR 0 (aO (DE.dx (dv 1)) (aO (DE.dx (dv 4)) ba)))) (aO (DE.dx (dv 5)) (aO (DE.dx (dv 3)) ba))))))))))))
def NZ(W:Wd K mg a):qD P w K mg base a 1 "_law_seeds" a.e_19 ["_law_script","_law_many"] vP:=by
 refine W.e_19.pk (cj (F:=vO) W.e_19.F rR λ_ _ _ _ _ _ b=>?_);unfold vO;exact (ar (yo 2 1 [] ["_law_k"] rR.nd rfl (DI.de (oO rfl W.z_range (ai (dv 1) aA))) (λ_ _ _ _ _=>(dgc 0 1)) (λ_ _ _ _ _=>dY) (λ_ _ _ _ _=>(ci eO (ci nI (dvc 0) aj) aj)))
 (ar (cZ cE rfl (DN rfl W.z_enumerate (ai (dv 0) aA)) (eL rfl (bL (bB 3 6 rR.nd) (bL (bB 4 6 rR.nd) dX))) (ar (dB 5 rR.nd (ci eO (ci nI (ay (dvC 2) (ci lN (dv 3) (dv 1))) aj) (ci lN (dv 4) (ci qF aj aj))))
 (aw (KW (pv 2) (ci lN (dv 3) (dv 1)) (ci lN (ci eO (dv 5) (dv 3)) (ci nh (ci qF aj aj) aj))))))
 (aw (iw 2))))
def FP(W:Wd K mg a):qD P w K mg base a 9 "_law_rows" a.e_3 ["_law_script","_law_many"] m_3:=by
 refine W.e_3.pk (cj (F:=b_3) W.e_3.F kh λ_ _ _ _ _ _ d=>?_);have e:=d.units;unfold b_3;exact (ar (dB 2 kh.nd (bN (NZ W) d (ai (dv 0) (ai (ci eO (dv 1) aj) aA))))
 (ar (gt 3 kh.nd (b9 (ai (ay (dvC 2) aj) aA)))
 (ar (fW 4 kh.nd (EF (NT W) d (bR 3 ba)))
 (ar (fW 5 kh.nd (EF (cQ W) d (bR 3 (aO (DE.dx aj) ba))))
 (ar (gt 6 kh.nd (b9 aA))
 (ar (cZ cE rfl (oO rfl W.z_range (ai (dv 1) aA)) (bB 7 11 kh.nd) (ar (dB 8 kh.nd (cv cG cH rfl W.z_len cA (bi (DE.db (DO.de (gr 1 [] ["_law_row_here"] rfl (yi 6) (λ_ _ _ _ _=>(dgc 0 1)) (λ_ _ _ _ _=>(uB (bn (c7 e) dA (DE.db (ay (kW 0) aj)) (DE.db aS)))) (λ_ _ _ _ _=>(dvc 0))))) bO)))
 (ar (cZ cE rfl (bX (DO.de (by refine yg ?a ?b ?c; (case a=>exact (ay (dvC 4) aj)); (case b=>exact (nj (dv 8))); (case c=>exact (nj (ci eO (dv 5) (dv 7))))))) (eL rfl (bL (bB 9 11 kh.nd) (bL (bB 10 11 kh.nd) dX))) (aw (jB (du (dw eJ fJ fK fN (pv 6) (bW (DE.pe (cO (ai aS (ai (dv 9) (ai (DO.de (Dn mL rfl W.z_list (dvC 10))) aA))))) cs))))))
 (aw (jB (du (dw eJ fJ fK fN (pv 6) (bW (DE.pe (MN (NY W) d (ai (ay (dvC 2) (ci eO (dv 7) aj)) aA) (ai (dv 4) (ai (DO.de (by refine yg ?a ?b ?c;(case a=>exact(ay (dvC 4) aj));(case b=>exact qN);(case c=>exact(nj (ci eO (dv 5) (dv 7)))))) aA)))) cs))))))))
 (aw (iw 6))))))))
def FQ(W:Wd K mg a):qD P w K mg base a 1 "must_be_unlike" a.e_41 ["words"] vQ:=by
 refine W.e_41.pk (cj (F:=An) W.e_41.F NC λ_ _ _ _ _ _ b=>?_);unfold An;exact(aw (bI (bn x9 yb (DE.db (E4 rfl rfl W.z_len rfl W.z_set (dv 0))) (DE.db (cv cG cH rfl W.z_len cA (bi (DE.db (dv 0)) bO)))) (aw rJ) bM))
def FR(W:Wd K mg a):qD P w K mg base a 2 "must_be_pairs" a.e_23 ["pairs","outer","kinds"] vR:=by
 refine W.e_23.pk (cj (F:=Ao) W.e_23.F vk λ_ _ _ _ _ _ b=>?_);unfold Ao;exact (ar (j2 (bN (FQ W) b (ai (DO.de (gr 2 [] ["variable","kind"] rfl (DI.de (bX (ci eO (dv 1) (dv 0)))) (λ_ _ _ _ _=>(eL rfl (bL (dgc 0 2) (bL (dgc 1 2) dX)))) (λ_ _ _ _ _=>dY) (λ_ _ _ _ _=>(dvc 0)))) aA)))
 (ar (ny 5 2 [] ["kind","names"] vk.nd rfl (DI.de (bX (dv 2))) (λ_ _ _ _ _=>(eL rfl (bL (dgc 0 2) (bL (dgc 1 2) dX)))) (λ_ _ _ _ _=>dY) (λ_ _ _ _ _=>(dvc 0)))
 (aw (cZ cE rfl (bX (dv 0)) (eL rfl (bL (bB 3 6 vk.nd) (bL (bB 4 6 vk.nd) dX))) (aw (bI (bn qK qI (DE.db (dv 4)) (DE.db (dv 5))) (aw rJ) bM))))))
def FS(W:Wd K mg a):qD P w K mg base a 1 "is_made_of" a.e_39 ["word","signs","most"] vS:=by
 refine W.e_39.pk (cj (F:=Ap) W.e_39.F NA λ_ _ _ _ _ _ b=>?_);unfold Ap;exact(aw (bS (na (D6 ya yc ya yc (DE.db aj) (DE.db (cv cG cH rfl W.z_len cA (bi (DE.db (dv 0)) bO))) (DE.db (dv 2))) (m9 (cv (DK rfl) DL rfl W.z_all boot_all (bi (DE.db (DO.de (gr 1 [1] ["sign","signs"] rfl (DI.de (L3 (dv 0))) (λ_ _ _ _ _=>(dgc 0 1)) (λ_ _ _ _ _=>dY) (λ_ _ _ _ _=>(gW L5 L4 (DE.db (dvc 0)) (DE.db (dvc 1))))))) bO))))))
def N0(W:Wd K mg a):qD P w K mg base a 2 "is_variable" a.e_53 ["word"] At:=by
 refine W.e_53.pk (cj (F:=Aq) W.e_53.F NB λ_ _ _ _ _ _ b=>?_);have c:=b.units;unfold Aq;exact(aw (bS (na (bN (FS W) b (ai (EM (dv 0) qN (nj aj)) (ai (EL rfl W.g_GREAT) (ai aj aA)))) (m9 (Kg (gW (c7 c) dA (DE.db (cv cG cH rfl W.z_len cA (bi (DE.db (dv 0)) bO))) (DE.db aj)) (m9 (bN (FS W) b (ai (EM (dv 0) (nj aj) qN) (ai (EL rfl W.g_SMALL) (ai aj aA))))))))))
def N1(W:Wd K mg a):qD P w K mg base a 3 "must_be_told" a.e_42 ["args","pairs"] Av:=by
 refine W.e_42.pk (cj (F:=Au) W.e_42.F z8 λ_ _ _ _ _ _ b=>?_);unfold Au;exact (ar (ny 2 2 [] ["variable","kind"] z8.nd rfl (DI.de (bX (dv 1))) (λ_ _ _ _ _=>(eL rfl (bL (dgc 0 2) (bL (dgc 1 2) dX)))) (λ_ _ _ _ _=>dY) (λ_ _ _ _ _=>(dvc 0)))
 (aw (cZ cE rfl (bX (dv 0)) (bB 3 4 z8.nd) (aw (bI (DW.dt (uk (eX (DE.db (bN (N0 W) b (ai (dv 3) aA)))) (uj (bn qK qI (DE.db (dv 3)) (DE.db (dv 2)))))) (aw rJ) bM)))))
def FT(W:Wd K mg a):qD P w K mg base a 1 "args_of" a.e_24 ["items"] vT:=by
 refine W.e_24.pk (cj (F:=Aw) W.e_24.F vm λ_ _ _ _ _ _ b=>?_);unfold Aw;exact (ar (gt 1 vm.nd (b9 aA))
 (ar (cZ cE rfl (bX (dv 0)) (eL rfl (bL (bB 2 4 vm.nd) (bL (bB 3 4 vm.nd) dX))) (aw (qP (du (dw eJ qb qc qr (pv 1) (bW (DE.pe (ay (dvC 2) aj)) cs))))))
 (aw (iw 1))))
def N2(W:Wd K mg a):qD P w K mg base a 2 "part_uses" a.e_50 ["part"] vU:=by
 refine W.e_50.pk (cj (F:=Ax) W.e_50.F ND λ_ _ _ _ _ _ b=>?_);have c:=b.units;unfold Ax;exact (ar (bI (bn (c7 c) dA (DE.db (ay (dvC 0) aj)) (DE.db aS)) (aw (bS (cO (ai (DO.de (b9 (ai (ay (dvC 0) aj) (ai (ay (dvC 0) aj) aA)))) (ai (DO.de (b9 aA)) aA))))) bM)
 (ar (bI (bn qJ qH (DE.db (ay (dvC 0) aj)) (DE.db (cO (ai aS (ai aS aA))))) (aw (bS (cO (ai (bN (FT W) b (ai (ay (dvC 0) aj) aA)) (ai (ay (dvC 0) aj) aA))))) bM)
 (aw (bS (cO (ai (ay (DE.dc (ay (dvC 0) aj)) aj) (ai (DO.de (b9 aA)) aA)))))))
def N3(W:Wd K mg a):qD P w K mg base a 3 "uses" a.e_49 ["row"] Az:=by
 refine W.e_49.pk (cj (F:=Ay) W.e_49.F FC λ_ _ _ _ _ _ b=>?_);have c:=b.units;unfold Ay;exact (ar (yo 1 1 [] ["part"] FC.nd rfl (DI.de (bX (ay (dvC 0) (iY aj)))) (λ_ _ _ _ _=>(dgc 0 1)) (λ_ _ _ _ _=>dY) (λ_ _ _ _ _=>(bN (N2 W) b (ai (dvc 0) aA))))
 (ar (bI (bn (c7 c) dA (DE.db (ay (dvC 0) aj)) (DE.db aS)) (aw (jB (du (dw eJ fJ fK fN (pv 1) (bW (DE.pe (cO (ai (bN (FT W) b (ai (ay (dvC 0) aj) aA)) (ai (ay (dvC 0) aj) aA)))) cs))))) (aw (bI (bn (fF c) fE (DE.db (ay (dvC 0) aj)) (DE.db aS)) (aw (jB (du (dw eJ fJ fK fN (pv 1) (bW (DE.pe (cO (ai (ay (DE.dc (ay (dvC 0) aj)) aj) (ai (DO.de (b9 aA)) aA)))) cs))))) bM)))
 (aw (iw 1))))
def N4(W:Wd K mg a):qD P w K mg base a 4 "must_be_known" a.e_33 ["row","kinds"] vV:=by
 refine W.e_33.pk (cj (F:=AA) W.e_33.F z7 λ_ _ _ _ _ _ b=>?_);unfold AA;exact (ar (j2 (bN (FR W) b (ai (ay (dvC 0) (iY aj)) (ai (DO.de (b9 aA)) (ai (dv 1) aA)))))
 (aw (cZ cE rfl (bX (bN (N3 W) b (ai (dv 0) aA))) (eL rfl (bL (bB 2 4 z7.nd) (bL (bB 3 4 z7.nd) dX))) (ar (j2 (bN (FR W) b (ai (dv 3) (ai (ay (dvC 0) (iY aj)) (ai (dv 1) aA)))))
 (aw (j2 (bN (N1 W) b (ai (dv 2) (ai (ci eO (ay (dvC 0) (iY aj)) (dv 3)) aA)))))))))
def N5(W:Wd K mg a):qD P w K mg base a 2 "must_be_new" a.e_40 ["row","kinds"] vW:=by
 refine W.e_40.pk (cj (F:=AB) W.e_40.F FB λ_ _ _ _ _ _ b=>?_);unfold AB;exact (ar (dB 2 FB.nd (ay (dvC 0) aj))
 (ar (bI (bn qJ qH (DE.db (dv 2)) (DE.db (DO.de (gr 2 [] ["kind","names"] rfl (DI.de (bX (dv 1))) (λ_ _ _ _ _=>(eL rfl (bL (dgc 0 2) (bL (dgc 1 2) dX)))) (λ_ _ _ _ _=>dY) (λ_ _ _ _ _=>(dvc 0)))))) (aw rJ) bM)
 (aw (j2 (bN (FQ W) b (ai (ay (dvC 0) aj) aA))))))
def N6(W:Wd K mg a):qD P w K mg base a 5 "kinds_of" a.e_32 ["rows"] AC:=by
 refine W.e_32.pk (cj (F:=vX) W.e_32.F z6 λ_ _ _ _ _ _ b=>?_);have c:=b.units;unfold vX;exact (ar (gt 1 z6.nd (b9 aA))
 (ar (cZ cE rfl (bX (dv 0)) (bB 2 3 z6.nd) (aw (bI (bn (c7 c) dA (DE.db (ay (dvC 2) aj)) (DE.db aS)) (ar (j2 (uO (N5 W) b (bi (DE.db (dv 2)) (bi (dvB 1) bO))))
 (aw (jB (du (dw eJ fJ fK fN (pv 1) (bW (DE.pe (cO (ai (ay (dvC 2) aj) (ai (DO.de (Dn mL rfl W.z_list (DE.dc (ay (dvC 2) aj)))) aA)))) cs)))))) (aw (j2 (uO (N4 W) b (bi (DE.db (dv 2)) (bi (dvB 1) bO))))))))
 (aw (iw 1))))
def N7(W:Wd K mg a):qD P w K mg base a 1 "numbered_part" a.e_46 ["part","places"] vZ:=by
 refine W.e_46.pk (cj (F:=vY) W.e_46.F NI λ_ _ _ _ _ _ c=>?_);have b:=c.units;unfold vY;exact (ar (bI (bn qJ qH (DE.db (ay (dvC 0) aj)) (DE.db (cO (ai aS (ai aS aA))))) (aw (bS (cO (ai (ay (dvC 0) aj) (ai (lZ b (dv 1) (ay (dvC 0) aj)) aA))))) bM)
 (aw (bS (cO (ai (ay (dvC 0) aj) (ai (ay (dvC 0) aj) (ai (DO.de (gr 2 [1] ["text","worth","places"] rfl (DI.de (bX (ay (dvC 0) aj))) (λ_ _ _ _ _=>(eL rfl (bL (dgc 0 2) (bL (dgc 1 2) dX)))) (λ_ _ _ _ _=>dY) (λ_ _ _ _ _=>(cO (ai (lZ b (dvc 2) (dvc 0)) (ai (dvc 1) aA)))))) aA)))))))
def N8(W:Wd K mg a):Pk P w K mg base CX0 2 "numbered" a.e_54 ["rule","places"] (spT ⟨K,a.cl⟩ ["rule","places"].length v4):=by
 refine W.e_54.pk (yH (F:=v3) W.e_54.F FF λ_ _ _ _ _ _ b=>?_);have c:=b.units;unfold v3;exact (ar (dB 2 FF.nd (x8 (bn Da Dc (DE.db (ay (dvC 0) aj)) (DE.db lM)) lM (lZ c (dv 1) (ay (dvC 0) aj))))
 (aw (yI (Lx (Em (ay (dvC 0) aj) (Em (dv 2) (Lw (El (gr 1 [1] ["part","places"] rfl (DI.de (bX (ay (dvC 0) aj))) (λ_ _ _ _ _=>(dgc 0 1)) (λ_ _ _ _ _=>dY) (λ_ _ _ _ _=>(bN (N7 W) b (ai (dvc 0) (ai (dvc 1) aA)))))))))))))
def AS(W:Wd K mg a):qD P w K mg base a 1 "must_be_narrow" a.e_25 ["listed","most","what"] px:=by
 refine W.e_25.pk (cj (F:=AD) W.e_25.F NE λ_ _ _ _ _ _ b=>?_);unfold AD;exact(aw (bI (bn iX kS (DE.db (DE.orE (cv cG cH rfl W.z_len cA (bi (DE.db (dv 0)) bO)) (yY rfl W.z_len (DE.db (dv 0))))) (DE.db (dv 1))) (aw rJ) bM))
def N9(W:Wd K mg a):qD P w K mg base a 1 "texts_in" a.e_36 ["rule"] AE:=by
 refine W.e_36.pk (cj (F:=v5) W.e_36.F Ac λ_ _ _ _ _ _ b=>?_);unfold v5;exact (ar (gt 1 Ac.nd (Nl (bn Da Dc (DE.db (ay (dvC 0) aj)) (DE.db lM)) (b9 aA) (b9 (ai (ay (dvC 0) aj) aA))))
 (ar (cZ cE rfl (bX (ay (dvC 0) aj)) (bB 2 3 Ac.nd) (aw (bI (bn qJ qH (DE.db (ay (dvC 2) aj)) (DE.db (cO (ai aS (ai aS aA))))) (aw (jB (du (dw eJ fJ fK fN (pv 1) (bW (DE.pe (ay (dvC 2) aj)) cs))))) (aw (qP (du (dw eJ qb qc qr (pv 1) (bW (DE.pe (DO.de (gr 2 [] ["text","worth"] rfl (DI.de (bX (ay (dvC 2) aj))) (λ_ _ _ _ _=>(eL rfl (bL (dgc 0 2) (bL (dgc 1 2) dX)))) (λ_ _ _ _ _=>dY) (λ_ _ _ _ _=>(dvc 0))))) cs))))))))
 (aw (iw 1))))
def Oa(W:Wd K mg a):qD P w K mg base a 2 "places_in" a.e_30 ["rules"] AF:=by
 refine W.e_30.pk (cj (F:=v6) W.e_30.F vp λ_ _ _ _ _ _ b=>?_);unfold v6;exact (ar (yz 1 vp.nd)
 (ar (cZ cE rfl (bX (dv 0)) (bB 2 4 vp.nd) (aw (cZ cE rfl (bX (bN (N9 W) b (ai (dv 2) aA))) (bB 3 4 vp.nd) (aw (MW (du (dw tH BV PySem.F.type_dict_setdefault MS (pv 1) (bW (DE.pe (dv 3)) (bW (DE.pe (yY rfl W.z_len (dvB 1))) cs)))))))))
 (ar (uY 1 (j2 (bN (AS W) b (ai (dv 1) (ai (yX rfl W.g_MOST_THINGS) (ai aS aA))))))
 (aw (uY 1 (bS (dv 1)))))))
def FU(W:Wd K mg a):qD P w K mg base a 1 "name_all" a.e_43 ["args","names"] v7:=by
 refine W.e_43.pk (cj (F:=AG) W.e_43.F NF λ_ _ _ _ _ _ b=>?_);have c:=b.units;unfold AG;exact(aw (yp (gr 1 [1] ["arg","names"] rfl (DI.de (bX (dv 0))) (λ_ _ _ _ _=>(dgc 0 1)) (λ_ _ _ _ _=>dY) (λ_ _ _ _ _=>(vg c (dvc 1) (dvc 0) (dvc 0) ⟨rfl,rfl,rfl,rfl⟩)))))
def Ob(W:Wd K mg a):qD P w K mg base a 2 "has_like" a.e_52 ["body","names"] AI:=by
 refine W.e_52.pk (cj (F:=AH) W.e_52.F FD λ_ _ _ _ _ _ b=>?_);have c:=b.units;unfold AH;exact (ar (ny 2 1 [1] ["part","names"] FD.nd rfl (DI.de (bX (dv 0))) (λ_ _ _ _ _=>(dgc 0 1)) (λ_ _ _ _ _=>(uB (bn (c7 c) dA (DE.db (ay (kW 0) aj)) (DE.db aS)))) (λ_ _ _ _ _=>(bN (FU W) b (ai (Nk (dvc 0) (nj aj) qN) (ai (dvc 1) aA)))))
 (aw (bS (cv (KI rfl) KJ rfl W.z_any boot_any (bi (DE.db (DO.de (gr 2 [] ["first","second"] rfl (DI.de (bX (dv 2))) (λ_ _ _ _ _=>(Nq rfl (bL (dgc 0 2) (bL (dgc 1 2) dX)))) (λ_ _ _ _ _=>dY) (λ_ _ _ _ _=>(gW (c7 c) dA (DE.db (dvc 0)) (DE.db (dvc 1))))))) bO)))))
def Oc(W:Wd K mg a):qD P w K mg base a 1 "ways" a.e_9 ["pairs","kinds"] m_9:=by
 refine W.e_9.pk (cj (F:=b_9) W.e_9.F me λ_ _ _ _ _ _ b=>?_);have c:=b.units;unfold b_9;exact (ar (Mg 2 rfl me.nd rfl W.z_dict (dv 1))
 (ar (uY 2 (dB 3 me.nd (DO.de (b9 (ai (DO.de (b9 aA)) aA)))))
 (ar (cZ cE rfl (bX (dv 0)) (eL rfl (bL (bB 4 8 me.nd) (bL (bB 5 8 me.nd) dX))) (ar (gt 6 me.nd (b9 aA))
 (ar (cZ cE rfl (bX (dv 3)) (bB 7 8 me.nd) (aw (qP (du (dw eJ qb qc qr (pv 6) (bW (DE.pe (DO.de (gr 1 [7] ["name","way"] rfl (DI.de (bX (lZ c (dv 2) (dv 5)))) (λ_ _ _ _ _=>(dgc 0 1)) (λ_ _ _ _ _=>dY) (λ_ _ _ _ _=>(DO.de (qV (dvc 1) (DO.de (b9 (ai (dvc 0) aA))))))))) cs))))))
 (aw (jA 6 (dB 3 me.nd (dv 6)))))))
 (aw (iw 3)))))
def FV(W:Wd K mg a):qD P w K mg base a 2 "names_by_ways" a.e_12 ["pairs","kinds","outer"] v9:=by
 refine W.e_12.pk (cj (F:=v8) W.e_12.F rQ λ_ _ _ _ _ _ b=>?_);unfold v8;exact (ar (ny 3 2 [] ["variable","kind"] rQ.nd rfl (DI.de (bX (dv 0))) (λ_ _ _ _ _=>(eL rfl (bL (dgc 0 2) (bL (dgc 1 2) dX)))) (λ_ _ _ _ _=>dY) (λ_ _ _ _ _=>(dvc 0)))
 (ar (gt 4 rQ.nd (b9 aA))
 (ar (cZ cE rfl (bX (bN (Oc W) b (ai (dv 0) (ai (dv 1) aA)))) (bB 5 7 rQ.nd) (ar (Fh 6 rQ.nd rfl W.z_dict (dv 2))
 (ar (Fk (du (dw tH xq PySem.F.type_dict_update Ff (pv 6) (bW (DE.pe (Nb rfl rfl W.z_dict rfl W.z_zip (ai (dv 3) (ai (dv 5) aA)))) cs))))
 (aw (jA 6 (jB (du (dw eJ fJ fK fN (pv 4) (bW (DE.pe (dv 6)) cs)))))))))
 (aw (iw 4)))))
def Od(W:Wd K mg a):qD P w K mg base a 1 "choice" a.e_44 ["low","high","items","body"] AJ:=by
 refine W.e_44.pk (cj (F:=wa) W.e_44.F FE λ_ _ _ _ _ _ b=>?_);unfold wa;exact (ar (yo 4 2 [3] ["text","worth","body"] FE.nd rfl (DI.de (bX (dv 2))) (λ_ _ _ _ _=>(eL rfl (bL (dgc 0 2) (bL (dgc 1 2) dX)))) (λ_ _ _ _ _=>dY) (λ_ _ _ _ _=>(cO (ai aS (ai (dvc 0) (ai (dvc 2) aA))))))
 (ar (jB (du (dw eJ fJ fK fN (pv 4) (bW (DE.pe (cO (ai aS (ai lM (ai (DO.de (qV (dv 3) (DO.de (b9 (ai (cO (ai aS (ai (ci nh (dv 0) aj) (ai (dv 2) aA)))) aA))))) aA))))) cs))))
 (ar (jB (du (dw eJ fJ fK fN (pv 4) (bW (DE.pe (cO (ai aS (ai lM (ai (DO.de (qV (dv 3) (DO.de (b9 (ai (cO (ai aS (ai (ci eO (dv 1) aj) (ai (dv 2) aA)))) aA))))) aA))))) cs))))
 (aw (iw 4)))))
def Oe(W:Wd K mg a):qD P w K mg base a 1 "shown_thing" a.e_34 ["thing"] AK:=by
 refine W.e_34.pk (cj (F:=wb) W.e_34.F z9 λ_ _ _ _ _ _ b=>?_);unfold wb;exact (ar (dB 1 z9.nd (ay (dvC 0) aj))
 (ar (dB 2 z9.nd (Mp (dw PySem.F.plainAttrs_str PySem.F.slot_str_join PySem.F.type_str_join Mn (DE.pe aS) (bW (DE.pe (ay (dvC 0) aj)) cs))))
 (aw (bS (x8 (eX (DE.db (dv 2))) (Ms (EW (dv 1) (EV (EW (dv 2) (EV Mq))))) (dv 1))))))
def wn(W:Wd K mg a):qD P w K mg base a 2 "text_of" a.e_17 ["thing","names"] py:=by
 refine W.e_17.pk (cj (F:=AL) W.e_17.F NG λ_ _ _ _ _ _ b=>?_);unfold AL;exact(aw (bS (bN (Oe W) b (ai (cO (ai (ay (dvC 0) aj) (ai (bN (FU W) b (ai (ay (dvC 0) aj) (ai (dv 1) aA))) aA))) aA))))
def FW(W:Wd K mg a):qD P w K mg base a 3 "put_items" a.e_18 ["items","over","names","kinds"] wd:=by
 refine W.e_18.pk (cj (F:=wc) W.e_18.F vo λ_ _ _ _ _ _ b=>?_);unfold wc;exact (ar (gt 4 vo.nd (b9 aA))
 (ar (cZ cE rfl (bX (dv 0)) (eL rfl (bL (bB 5 7 vo.nd) (bL (bB 6 7 vo.nd) dX))) (aw (qP (du (dw eJ qb qc qr (pv 4) (bW (DE.pe (DO.de (gr 1 [6,5] ["inner","worth","thing"] rfl (DI.de (bX (bN (FV W) b (ai (dv 1) (ai (dv 3) (ai (dv 2) aA)))))) (λ_ _ _ _ _=>(dgc 0 1)) (λ_ _ _ _ _=>dY) (λ_ _ _ _ _=>(cO (ai (bN (wn W) b (ai (dvc 2) (ai (dvc 0) aA))) (ai (dvc 1) aA))))))) cs))))))
 (ar (jA 4 (j2 (bN (AS W) b (ai (dv 4) (ai (yX rfl W.g_MOST_ITEMS) (ai aS aA))))))
 (aw (iw 4)))))
def Of(W:Wd K mg a):qD P w K mg base a 4 "put_part" a.e_45 ["part","names","kinds"] wf:=by
 refine W.e_45.pk (cj (F:=we) W.e_45.F NH λ_ _ _ _ _ _ b=>?_);have c:=b.units;unfold we;exact (ar (bI (bn (c7 c) dA (DE.db (ay (dvC 0) aj)) (DE.db aS)) (aw (bS (cO (ai aS (ai (bN (wn W) b (ai (ay (dvC 0) aj) (ai (dv 1) aA))) aA))))) bM)
 (ar (bI (bn (c7 c) dA (DE.db (ay (dvC 0) aj)) (DE.db aS)) (aw (bS (cO (ai aS (ai (bN (wn W) b (ai (ay (dvC 0) aj) (ai (dv 1) aA))) aA))))) bM)
 (aw (bS (cO (ai (ay (dvC 0) aj) (ai (ay (dvC 0) aj) (ai (bN (FW W) b (ai (ay (dvC 0) aj) (ai (ay (dvC 0) aj) (ai (dv 1) (ai (dv 2) aA))))) aA))))))))
def Og(W:Wd K mg a):qD P w K mg base a 5 "rules_by" a.e_35 ["row","names","kinds"] AM:=by
 refine W.e_35.pk (cj (F:=wg) W.e_35.F Ab λ_ _ _ _ _ _ b=>?_);have c:=b.units;unfold wg;exact (ar (ny 3 1 [1,2] ["part","names","kinds"] Ab.nd rfl (DI.de (bX (ay (dvC 0) (iY aj)))) (λ_ _ _ _ _=>(dgc 0 1)) (λ_ _ _ _ _=>(uB (bn (fF c) fE (DE.db (ay (kW 0) aj)) (DE.db aS)))) (λ_ _ _ _ _=>(bN (Of W) b (ai (dvc 0) (ai (dvc 1) (ai (dvc 2) aA))))))
 (ar (bI (bn (c7 c) dA (DE.db (ay (dvC 0) aj)) (DE.db aS)) (aw (yp (b9 (ai (cO (ai aS (ai lM (ai (dv 3) aA)))) aA)))) bM)
 (ar (bI (bn (c7 c) dA (DE.db (ay (dvC 0) aj)) (DE.db aS)) (aw (bS (bN (Od W) b (ai (ay (dvC 0) aj) (ai (ay (dvC 0) aj) (ai (bN (FW W) b (ai (ay (dvC 0) aj) (ai (ay (dvC 0) aj) (ai (dv 1) (ai (dv 2) aA))))) (ai (dv 3) aA))))))) bM)
 (ar (dB 4 Ab.nd (x8 (bn (c7 c) dA (DE.db (ay (dvC 0) aj)) (DE.db aS)) aS aS))
 (aw (yp (b9 (ai (cO (ai (dv 4) (ai (bN (wn W) b (ai (ay (dvC 0) aj) (ai (dv 1) aA))) (ai (dv 3) aA)))) aA))))))))
def Oh(W:Wd K mg a):qD P w K mg base a 6 "rules_of" a.e_29 ["rows","kinds"] AN:=by
 refine W.e_29.pk (cj (F:=wj) W.e_29.F vn λ_ _ _ _ _ _ b=>?_);have c:=b.units;unfold wj;exact (ar (gt 2 vn.nd (b9 aA))
 (ar (cZ cE rfl (bX (dv 0)) (bB 3 5 vn.nd) (aw (bI (bn (fF c) fE (DE.db (ay (dvC 3) aj)) (DE.db aS)) (aw (cZ cE rfl (bX (bN (FV W) b (ai (ay (dvC 3) (iY aj)) (ai (dv 1) (ai MV aA))))) (bB 4 5 vn.nd) (aw (bI (fD (eX (DE.db (bN (Ob W) b (ai (ay (dvC 3) (iY aj)) (ai (dv 4) aA)))))) (ar (qP (du (dw eJ qb qc qr (pv 2) (bW (DE.pe (bN (Og W) b (ai (dv 3) (ai (dv 4) (ai (dv 1) aA))))) cs))))
 (aw (j2 (uO (AS W) b (bi (dvB 2) (bi (DE.db (yX rfl W.g_MOST_RULES)) (bi (DE.db aS) bO))))))) bM)))) bM)))
 (aw (iw 2))))
def AT(W:Wd K mg a):Pk P w K mg base CX0 7 "plain_of" a.e_51 ["rows"] (spT ⟨K,a.cl⟩ ["rows"].length mi):=by
 refine W.e_51.pk (yH (F:=wk) W.e_51.F Aa λ_ _ _ _ _ _ b=>?_);unfold wk;exact (ar (dB 1 Aa.nd (bN (Oh W) b (ai (dv 0) (ai (bN (N6 W) b (ai (dv 0) aA)) aA))))
 (ar (dB 2 Aa.nd (bN (Oa W) b (ai (dv 1) aA)))
 (aw (yI (FA (uW (El (Ni rfl rfl W.z_list (dv 2))) (uW (FA (uW (Ek (yY rfl W.z_len (DE.db (dv 2)))) (uW (LC 1 [2] ["rule","places"] rfl (DI.de (bX (dv 1))) (λ_ _ _ _ _=>(dgc 0 1)) (λ_ _ _ _ _=>dY) (λ_ _ _ _ _=>(rj (N8 W) b (ai (dvc 0) (ai (dvc 1) aA))))) Ez))) Ez)))))))
def Oi(W:Wd K mg a):qD P w K mg base a 10 "law" a.e_1 ["_law_script"] m_1:=by
 refine W.e_1.pk (cj (F:=b_1) W.e_1.F mh λ_ _ _ _ _ _ b=>?_);have c:=b.units;unfold b_1;exact (ar (dB 1 mh.nd aj)
 (ar (bI (bn iX kS (DE.db (cv cG cH rfl W.z_len cA (bi (DE.db (dv 0)) bO))) (DE.db aj)) (aw (dB 1 mh.nd (ci eO aj (ci lN (ay (dvC 0) aj) aj)))) bM)
 (ar (dB 2 mh.nd (bN (FP W) b (ai (dv 0) (ai (dv 1) aA))))
 (ar (Eo 3 mh.nd (rj (AT W) b (ai (dv 2) aA)))
 (ar (bI (DW.dt (fU (fD (eX (DE.db (qQ (FL W) b (bi (dvB 3) (bi (DE.db (dv 2)) bO)))))) (io (bn (fF c) fE (DE.db (dv 2)) (DE.db (bN (FP W) b (ai (dv 0) (ai (dv 1) aA)))))))) (aw (bS eW)) bM)
 (ar (Fw (du (dw eJ fJ fK fN (rO (k:=0) (y9 (pv 3)) aj) (bW (DE.pe aS) cs))))
 (ar (Nv (i:=3) [4,5,6] cE rfl (rO (k:=1) (rO (k:=1) (y9 (pv 3)) aj) aj) (Cc rfl (tO (qd mh.nd (i:=4) rfl (by first | exact bU rfl | exact br rfl)) (tO (qd mh.nd (i:=5) rfl (by first | exact bU rfl | exact br rfl)) (tO (qd mh.nd (i:=6) rfl (by first | exact bU rfl | exact br rfl)) Ca)))) (aw (LF (du (dw eJ fJ fK fN (pv 6) (bW (Ek (cO (ai aS (ai aj aA)))) cs))))))
 (ar (Fw (du (dw eJ fJ fK fN (rO (k:=1) (rO (k:=1) (y9 (pv 3)) aj) aj) (bW (DE.pe (cO (ai aS (ai aj (ai (DO.de (b9 aA)) aA))))) cs))))
 (aw (bS (na (qQ (FL W) b (bi (DZ.db (rj (AT W) b (ai (dv 2) aA))) (bi (DE.db (dv 2)) bO))) (m9 (gW (c7 c) dA (DZ.db (rj (AT W) b (ai (DO.de (b9 aA)) aA))) (DE.db (cO (ai (DO.de (b9 aA)) (ai (cO (ai aj (ai (DO.de (b9 aA)) aA))) aA)))))))))))))))))
local macro_rules | `(tactic| walk_at "evS")=>`(tactic| first | decide | lia | assumption | exact ⟨by decide,by decide⟩ | exact ⟨by lia,by lia⟩ | exact .inl ⟨by decide,by decide⟩ | exact .inr ⟨by decide,by decide⟩ | exact .inl ⟨by lia,by lia⟩ | exact .inr ⟨by lia,by lia⟩ | exact ⟨by decide,by decide,by decide⟩)
local macro_rules | `(tactic| walk_at "evO")=>`(tactic| first | with_reducible exact gZ | with_reducible exact k6 | with_reducible exact uK | with_reducible exact i4 | with_reducible exact uL | with_reducible exact yC | with_reducible exact j3 _ _ | with_reducible exact uF _ _ | ((with_reducible apply lT); (focus walk_at "evS")) | ((with_reducible apply yB); (focus walk_at "evS")) | ((with_reducible apply dMul_eq); (focus walk_at "evS")) | ((with_reducible apply lW); (focus first | assumption | exact .inl (by walk_at "evS") | exact .inr ⟨by lia,by lia⟩)) | ((with_reducible apply uJ); (focus walk_at "evS")) | ((with_reducible apply dShr_eq); (focus walk_at "evS")) | with_reducible exact dEq_str _ _ | with_reducible exact dNe_str _ _ | with_reducible exact dEq_bl _ _ | with_reducible exact dAndB_eq | exact dEq_nil _ _ | exact dNe_nil _ _ | assumption | rfl)
local macro_rules | `(tactic| walk_at "ev")=>`(tactic| first
 | with_reducible assumption
 | ((with_reducible apply ap); (focus walk_at "ev"); (focus walk_at "ev"); (focus walk_at "evO"))
 | ((with_reducible apply aL); (focus walk_at "ev"))
 | ((with_reducible apply dZ); (focus walk_at "ev"); (focus first | assumption | rfl))
 | ((with_reducible apply qS); (focus walk_at "ev"); (focus walk_at "ev"))
 | ((with_reducible apply eY); (focus walk_at "ev"); (focus walk_at "ev"))
 | ((with_reducible apply eQ); (focus walk_at "ev"))
 | ((with_reducible apply lR); (focus walk_at "ev"); (focus walk_at "ev"))
 | ((with_reducible apply DD); (focus walk_at "ev"); (focus walk_at "ev"))
 | ((with_reducible apply DF); (focus walk_at "ev"))
 | ((with_reducible apply ah); (focus walk_at "ev"); (focus walk_at "ev"))
 | ((with_reducible apply dG); (focus walk_at "ev"))
 | ((with_reducible apply cY); (focus walk_at "ev"))
 | ((with_reducible apply aN); (focus walk_at "ev"); (focus first | with_reducible assumption | with_reducible exact dL _ _ | assumption | exact dL _ _ | exact D3 _ _ | rfl))
 | ((with_reducible apply oQ); (focus walk_at "ev"); (focus assumption); (focus rfl))
 | ((with_reducible apply am); (focus walk_at "ev"); (focus walk_at "ev"); (focus first | assumption | rfl))
 | ((with_reducible apply sl_kl); (focus walk_at "ev"); (focus rfl); (focus rfl))
 | ((with_reducible apply qX); (focus walk_at "ev"); (focus rfl); (focus rfl))
 | ((with_reducible apply bA); (focus walk_at "ev"); (focus rfl))
 | rfl)
local macro_rules | `(tactic| walk_at "nrm")=>`(tactic| simp only [DU,sQ,set_cons_zero])
local macro_rules | `(tactic| walk_at "set")=>`(tactic| (apply ao; (first | with_reducible apply cw | with_reducible apply e7); (focus walk_at "ev"); walk_at "nrm"))
local macro_rules | `(tactic| walk_at "if0")=>`(tactic| ((with_reducible first | apply aT | apply c8); (focus walk_at "ev")))
open PySem.Builtin PySem.Builtin.Str
@[reducible]noncomputable def tx(l:LN):Str:=⟨l.toArray⟩
def fX(l:LN):(tx l).length=l.length:=by show l.toArray.size=_;simp
def nT(a b:LN):tx a++tx b=tx (a++b):=by
 apply Str.ext';rw[Str.cps_append];simp
def AU(z:Str):tx z.cps.toList=z:=by
 apply Str.ext';simp
def mj{a b:LN}(h:tx a=tx b):a=b:=by
 have:=congrArg (λz:Str=>z.cps.toList) h
 simpa using this
variable{ρ:LS}{d:D}
def aQ{f:MF1}(h:f ρ=aa d):mX f ρ=aa (d,ρ):=by
 unfold mX;rw[h];rfl
variable{ρ1 c0:LS}{x:D}
def c5{m:D->D->OD}{f g:Xe}{y:D}(b:f ρ=aa (x,ρ1))(c:g ρ1=aa (y,c0))(e:m x y=aa d):mX2 m f g ρ=aa (d,c0):=by
 unfold mX2;rw[b,ax,c,ax,e];rfl
variable{ds:LD}
def bg{f:Xe}{g:Xa}(b:f ρ=aa (d,ρ1))(c:g ρ1=aa (ds,c0)):aE f g ρ=aa (d::ds,c0):=by
 unfold aE;rw[b,ax,c];rfl
def Oj{f:Xa}{b:LD}(c:f ρ=aa (b,ρ1))(e:lO b=aa ds):ka f ρ=aa (ds,ρ1):=by
 unfold ka;rw[c,ax,e];rfl
variable{i:Nat}{m:Addr->LD->LD->LD->Option (LD×D)}{l:Addr}{xs0 xs ys:LD}
def g8{f:Xa}{h:Addr}(b:ρ[i]?=aa (.pin h xs0))(c:f ρ=aa (ds,ρ1))(e:ρ1[i]?=aa (.pin l xs))(g:m l [] ds xs=aa (ys,d)):be i m f ρ=aa (d,ρ1.set i (.pin l ys)):=by
 unfold be;rw[b,c,ax,e];show(m l [] ds xs).map _=_;rw[g];rfl
open Classical in
def FX{f:Xa}(c:ρ[i]?=aa (.own xs0))(g:f ρ=aa (ds,ρ1))(j:ρ1[i]?=aa (.own xs))(b:∀l,m l [] ds xs=aa (ys,d)):oZ i m f ρ=aa (d,ρ1.set i (.own ys)):=by
 unfold oZ;rw[c];show(f ρ).bind _=_;rw[g,ax];dsimp only;rw[j];show(if h:∃q,∀l,m l [] ds xs=aa q then _ else ab)=_;rw[dif_pos ⟨(ys,d),b⟩]
 have e:(⟨(ys,d),b⟩:∃q,∀l,m l [] ds xs=aa q).choose=(ys,d):=by
  have:=(⟨(ys,d),b⟩:∃q,∀l,m l [] ds xs=aa q).choose_spec 0;rw[b 0]at this;exact cz this.symm
 rw[e]
variable{K:Fl->Prop}
def fI{f:Xe}(h:f ρ=aa (d,ρ1))(k:K (.nx (ρ1.set i (.im d)))):wp (dC i f) ρ K:=⟨_,by unfold dC;rw[h];rfl,k⟩
def ml{f:Xe}(h:f ρ=aa (d,ρ1))(k:K (.rtS d ρ1)):wp (jI f) ρ K:=⟨_,by unfold jI;rw[h];rfl,k⟩
def sk{f:Xe}{z:D}(b:ρ[i]?=aa (.im x))(h:f ρ=aa (d,ρ1))(c:rC x d=aa z)(k:K (.nx (ρ1.set i (.im z)))):wp (lc i f) ρ K:=⟨_,by
 unfold lc;rw[b];show(f ρ).bind _=_;rw[h,ax,c];rfl,k⟩
variable{F:MF3}{b:Bool}
def pz{t:Xt}{c:MF3}(h:t ρ=aa (b,ρ1))(g:b=ac->wp F ρ1 K)(e:b=ag->wp c ρ1 K):wp (l6 t F c) ρ K:=by
 unfold wp l6;rw[h]
 cases b with
 |true=>exact g rfl
 |false=>exact e rfl
abbrev nx(s:Int):Int:=(s*1181783497276652981+12345678910987) % (2 ^ 61-1)
abbrev okS(s:Int):Prop:=0<=s/\s<2305843009213693951
def bG(s:Int):okS (nx s):=by
 unfold okS nx;lia
abbrev dr(s k:Int):Int:=nx s / 65537 % k
variable{k:Int}
def bJ(s:Int)(h:0<k):0<=dr s k/\dr s k<k:=⟨Int.emod_nonneg _ (by lia),wZ _ h⟩
def pB(l:Addr)(s k:Int)(h:okS s)(g:0<k):m_0 l [] [.int k] [.int s]=aa ([.int (nx s)],.int (dr s k)):=by
 obtain⟨j,n⟩:=h
 have w:wp b_0 [.pin l [.int s],.im (.int k)] (λo=>o=.rtS (.int (dr s k)) [.pin l [.int (nx s)],.im (.int k)]):=by
  apply ao;have c:lV s 1181783497276652981:=.inr ⟨by lia,by decide⟩;exact LU (ap (ap (ap rfl rfl (lW c)) rfl gZ) (ap (ap rfl rfl (uJ (by decide))) rfl k6) (lT (by decide))) rfl rfl (by decide) (by show _<1;decide) (jG (ap (ap rfl rfl (yB (by have:=bG s;unfold okS at this;walk_at "evS"))) rfl (lT g)) rfl)
 obtain⟨o,e,rfl⟩:=w;exact i8 e rfl
abbrev smL:LN:=("abcdefghijklmnopqrstuvwxyz":Str).cps.toList
def AV:smL.length=26:=by decide +kernel
def smT:("abcdefghijklmnopqrstuvwxyz":Str)=tx smL:=(AU _).symm
abbrev stp(sp:Int)(p:Int×LN):Int×LN:=(nx p.1,p.2++[smL.getD (dr p.1 sp).toNat 0])
abbrev its(sp:Int):Nat->Int×LN->Int×LN
 | 0,p=>p
 |n+1,p=>stp sp (its sp n p)
def AW(sp:Int)(p:Int×LN)(h:okS p.1):∀n,okS (its sp n p).1/\(its sp n p).2.length=p.2.length+n
 | 0=>⟨h,rfl⟩
 |n+1=>by
  obtain⟨a,c⟩:=AW sp p h n;refine⟨bG _,?_⟩;show((its sp n p).2++[_]).length=_;rw[aM,c];rfl
def FY(a b:LN)(h:a.length+b.length<=2000):cT (.str (tx a)) (.str (tx b))=aa (.str (tx (a++b))):=by
 show(if (tx a).length+(tx b).length<=16777216 then aa _ else ab)=_;rw[fX,fX,if_pos (by lia),nT]
def AX(c:LN)(v:Int)(h:0<=v/\v<(c.length:Nat))(g:c.length<=1000):lh (.str (tx c)) (.int v)=aa (.str (tx [c.getD v.toNat 0])):=by
 show(if 0<=v/\v<2 ^ 63/\v<_ then ((tx c).cps[v.toNat]?).map _ else ab)=_;rw[if_pos ⟨h.1,by lia,by rw[fX];exact h.2⟩];have e:v.toNat<c.length:=by lia
 rw[sK,cR e,gy,cR e];rfl
def wo(v:Int)(a:0<=v)(b:v<=500):lO [D.int v]=aa ((cp v.toNat).map λ(i:Nat)=>D.int i):=by
 show(if -_<=v/\v<2 ^ 62 then aa _ else ab)=_;rw[if_pos ⟨by lia,by lia⟩,Dx];simp
abbrev smP(n sp s:Int):Int×LN:=its sp n.toNat (s,[])
def wq(n sp s:Int)(h:okS s)(hn:0<=n):okS (smP n sp s).1/\((smP n sp s).2.length:Int)=n:=by
 obtain⟨a,c⟩:=AW sp (s,[]) h n.toNat;refine⟨a,?_⟩;unfold smP;rw[c];simp only[oh];lia
def Ol(l:Addr)(s n sp:Int)(h:okS s)(hn:0<=n/\n<=500)(g:0<sp/\sp<=26):rZ l [] [.int n,.int sp] [.int s]=aa ([.int (smP n sp s).1],.str (tx (smP n sp s).2)):=by
 have w:wp vK [.pin l [.int s],.im (.int n),.im (.int sp),.no,.no] (λo=>∃a,o=.rtS (.str (tx (smP n sp s).2)) [.pin l [.int (smP n sp s).1],.im (.int n),.im (.int sp),.im (.str (tx (smP n sp s).2)),a]):=by
  apply ao;refine cw rfl ?_;show wp _ [.pin l _,.im _,.im _,.im (.str (tx [])),.no] _;apply ao;refine cM (cp n.toNat) (λi=>D.int i) (λpre ρ=>∃a,ρ=[.pin l [.int (its sp pre.length (s,[])).1],.im _,.im _,.im (.str (tx (its sp pre.length (s,[])).2)),a]) ?_ ⟨_,rfl⟩ ?_ ?_
  .have t:af (ae 1) nZ [.pin l [.int s],.im _,.im (.int sp),.im (.str (tx [])),.no]=aa [.int n]:=rfl;unfold gX;rw[t,ax,wo n hn.1 hn.2]
  .rintro pre x post ρ u ⟨a,rfl⟩;refine⟨_,rfl,?_⟩;obtain⟨j,q⟩:=(AW sp (s,[]) h) pre.length
   have c:pre.length<n.toNat:=by
    have:=congrArg fB u;rw[dH,aM,bT]at this;lia
   generalize v:its sp pre.length _=p at j q;have y:=bJ p.1 g.1;have r:be 0 m_0 (aE (mX (ae 2)) aP) _=aa _:=g8 (ρ1:=[.pin l _,.im (.int n),.im _,.im (.str (tx p.2)),.im (.int x)]) rfl (bg (aQ rfl) rfl) rfl (pB l p.1 sp j g.1);refine sk (z:=.str (tx (stp sp p).2)) rfl (c5 (aQ (by rw[smT])) r (AX smL _ (by rw[AV];lia) (by rw[AV];decide))) ?_ ?_
   .show(if (tx p.2).length+(tx [_]).length<=16777216 then aa _ else ab)=_;rw[fX,fX,if_pos (by rw[q];simp only[oh,bT];lia),nT];rfl
   .refine⟨.im (.int x),?_⟩;rw[aM,show([x]:LN).length=1 from rfl];show _=[Sl.pin l [.int (stp sp _).1],.im _,.im _,.im (.str (tx (stp sp _).2)),.im _];rw[v];rfl
  .rintro ρ ⟨a,rfl⟩;rw[dH];exact jG rfl ⟨a,rfl⟩
 obtain⟨o,e,a,rfl⟩:=w;exact i8 e rfl
def dD(l:Addr)(s k:Int)(r:LS){f:MF1}(c:f (.pin l [.int s]::r)=aa (.int k))(h:okS s)(e:0<k):be 0 m_0 (aE (mX f) aP) (.pin l [.int s]::r)=aa (.int (dr s k),.pin l [.int (nx s)]::r):=g8 (ρ1:=.pin l _::r) rfl (bg (aQ c) rfl) rfl (pB l s k h e)
abbrev itP{c:Type}(F:Int->Int×c):Nat->Int->Int×List c
 | 0,s=>(s,[])
 |n+1,s=>((itP F n (F s).1).1,(F s).2::(itP F n (F s).1).2)
def mm{e:Type}{F:Int->Int×e}(c:∀s,okS (F s).1):∀n s,okS s->okS (itP F n s).1/\(itP F n s).2.length=n
 | 0,s,h=>⟨h,rfl⟩
 |n+1,s,_=>⟨(mm c n _ (c s)).1,by show(_::(itP F n (F s).1).2).length=_;rw[bT,(mm c n _ (c s)).2]⟩
def kj{g:Type}{F:Int->Int×g}{P:g->Prop}(c:∀s,P (F s).2):∀n s,∀x∈(itP F n s).2,P x
 | 0,_,x,h=>(b6 h).elim
 |n+1,s,x,h=>by
  rcases b8.mp (h)with e |e
  .rw[e];exact c s
  .exact kj c n _ x e
abbrev grL:LN:=("ABCDEFGHIJKLMNOPQRSTUVWXYZ":Str).cps.toList
def grT:("ABCDEFGHIJKLMNOPQRSTUVWXYZ":Str)=tx grL:=(AU _).symm
def AY:grL.length=26:=by decide +kernel
abbrev kpS:LSt:=["kind","rule","may","choose","never","if","and","not","unlike","least","most","of","to","over","in","for"]
abbrev kpW:L2N:=kpS.map λz=>z.cps.toList
abbrev kept(w:LN):Bool:=kpW.any λk=>k==w
def kpD:kpS.map D.str=kpW.map λw=>D.str (tx w):=by
 refine pW λz _=>?_;show D.str z=D.str (tx z.cps.toList);rw[AU]
def inK(w:LN):dIn (.str (tx w)) (.lst (kpW.map λw=>D.str (tx w)))=aa (.bl (kept w)):=by
 show Option.map D.bl (if ((D.str (tx w)).scalar && (kpW.map λw=>D.str (tx w)).all D.scalar)=ac then aa _ else ab)=_;rw[if_pos (by rw[all_map];exact(di _ _).mpr ⟨rfl,all_eq_true.mpr λ_ _=>rfl⟩),any_map];show aa _=_
 congr 2
 refine congrArg _ (funext λk=>?_);show(tx k==tx w)=_;apply jh.mpr;rw[beq_iff_eq,beq_iff_eq];exact⟨mj,λe=>by rw[e]⟩
abbrev AZ(c w:LN):Bool:=w.all λx=>decide (x∈c)
abbrev made(w c:LN)(most:Nat):Bool:=(decide (1<=w.length) && decide (w.length<=most)) && AZ c w
abbrev fY(w:LN):Bool:=made w smL 8 && !kept w
abbrev sp2(v:Int):Int:=if v=0 then 26 else 2
def pE(v:Int):0<sp2 v/\sp2 v<=26:=by unfold sp2;split <;> decide
def FZ(sp:Int)(g:0<sp/\sp<=26)(p:Int×LN)(h:∀x∈p.2,x∈smL):∀n,∀x∈(its sp n p).2,x∈smL
 | 0,x,hx=>h x hx
 |n+1,x,hx=>by
  rcases cC.mp (hx)with e |e
  .exact FZ sp g p h n x e
  .have d:=bJ (its sp n p).1 g.1;rw[ca]at e;have c:(dr (its sp n p).1 sp).toNat<smL.length:=by rw[AV];lia
   rw[e,gy,cR c];exact ly c
def F0(n sp s:Int)(e:0<sp/\sp<=26):AZ smL (smP n sp s).2=ac:=all_eq_true.mpr λx c=>decide_eq_true (FZ sp e _ (λx c=>(b6 c).elim) n.toNat x c)
def Om:∀k∈kpW,fY (122::k)=ac:=by decide +kernel
@[reducible]noncomputable def sT(w:LN):D:=.str (tx w)
def A0{c:Type}{F:Int->Int×c}{toD:c->D}(hm:∀s,okS s->m l [] [] [.int s]=aa ([.int (F s).1],toD (F s).2))(s:Int)(r:LS)(h:okS s):be 0 m aP (.pin l [.int s]::r)=aa (toD (F s).2,.pin l [.int (F s).1]::r):=g8 (ρ1:=.pin l _::r) rfl rfl rfl (hm s h)
variable{fa:Xa}
def F1(l:Addr)(s n sp:Int)(r:LS)(c:ρ[0]?=aa (.pin l xs))(ha:fa ρ=aa ([.int n,.int sp],.pin l [.int s]::r))(h:okS s)(hn:0<=n/\n<=500)(e:0<sp/\sp<=26):be 0 rZ fa ρ=aa (.str (tx (smP n sp s).2),.pin l [.int (smP n sp s).1]::r):=g8 c ha rfl (Ol l s n sp h hn e)
def A1(v:Int)(h:0<=v/\v<2):fu (.lst [.int 26,.int 2]) (.int v)=aa (.int (sp2 v)):=by
 have:v=0\/v=1:=by lia
 rcases this with e |e <;> (rw[e];rfl)
def zT:("z":Str)=tx [122]:=by decide +kernel
def bxX{f g:Xe}{m:D->D->OD}{ρ':LS}(h:mX2 m f g ρ=aa (.bl b,ρ')):mBX (mX2 m f g) ρ=aa (b,ρ'):=by
 unfold mBX;rw[h];rfl
def F3{f:Xe}(c:ρ[i]?=aa (.own xs0))(h:f ρ=aa (.lst ds,ρ1))(h':ρ1[i]?=aa (.own xs))(e:xs.length+ds.length<=16777216)(k:K (.nx (ρ1.set i (.own (xs++ds))))):wp (o6 i f) ρ K:=⟨_,by
 unfold o6;rw[c];show(f ρ).bind _=_;rw[h,ax];dsimp only;rw[h'];show(if xs.length+ds.length<=16777216 then aa (Fl.nx (ρ1.set i (.own (xs++ds)))) else ab)=_;rw[if_pos e],k⟩
abbrev bC(s:Int):Int×LN:=((smP (1+dr (nx s) 8) (sp2 (dr s 2)) (nx (nx s))).1,if kept (smP (1+dr (nx s) 8) (sp2 (dr s 2)) (nx (nx s))).2 then 122::(smP (1+dr (nx s) 8) (sp2 (dr s 2)) (nx (nx s))).2 else (smP (1+dr (nx s) 8) (sp2 (dr s 2)) (nx (nx s))).2)
def sm(s:Int):okS (bC s).1/\fY (bC s).2=ac:=by
 have j:=bJ (nx s) (k:=8) (by decide);obtain⟨a,b⟩:=wq (1+dr (nx s) 8) (sp2 (dr s 2)) (nx (nx s)) (bG _) (by lia);have h:=F0 (1+dr (nx s) 8) (sp2 (dr s 2)) (nx (nx s)) (pE _);unfold bC;generalize smP _ _ _=q at a b h;refine⟨a,?_⟩;dsimp only;split
 .rename_i e;unfold kept at e;obtain⟨k,g,c⟩:=any_eq_true.mp e;rw[beq_iff_eq]at c;subst c;exact Om _ g
 .rename_i e;unfold fY made;rw[h,decide_eq_true (show 1<=q.2.length by lia),decide_eq_true (show q.2.length<=8 by lia),Bool.eq_false_iff.mpr e];rfl
def F4(l:Addr)(s:Int)(t:okS s):m_4 l [] [] [.int s]=aa ([.int (bC s).1],.str (tx (bC s).2)):=by
 have n:=bJ s (k:=2) (by decide);have v:=bJ (nx s) (k:=8) (by decide);have u:=bG s;have j:=bG (nx s)
 have w:wp b_4 [.pin l [.int s],.no,.no,.no] (λo=>∃c g h,o=.rtS (.str (tx (bC s).2)) [.pin l [.int (bC s).1],c,g,h]):=by
  unfold b_4 bC;apply ao;refine e7 rfl ?_;apply ao;refine F3 rfl (aQ rfl) rfl (by decide) ?_;show wp _ [.pin l [.int s],.own (kpS.map D.str),.no,.no] _;rw[kpD];apply ao;refine fI (c5 (aQ rfl) (dD l s 2 _ rfl t (by decide)) (A1 _ n)) ?_;show wp _ [.pin l [.int (nx s)],.own (kpW.map λw=>D.str (tx w)),.im (.int (sp2 (dr s 2))),.no] _;apply ao;refine fI (F1 l _ _ _ _ rfl (bg (c5 (aQ rfl) (dD l _ 8 _ rfl u (by decide)) gZ) (bg (aQ rfl) rfl)) j ⟨by lia,by lia⟩ (pE _)) ?_;obtain⟨p,r⟩:=wq (1+dr (nx s) 8) (sp2 (dr s 2)) _ j (by lia);generalize smP _ _ _=q at p r;apply ao;refine jD rfl ?_;refine aT (aL (ap rfl rfl (inK q.2))) (λe=>?_) λe=>bj ?_
  .rw[e];exact jG (ap (by rw[zT]) rfl (FY _ q.2 (by rw[dR];lia))) ⟨_,_,_,rfl⟩
  .rw[e];exact jG rfl ⟨_,_,_,rfl⟩
 obtain⟨o,e,c,g,h,rfl⟩:=w;exact i8 e rfl
abbrev dM(s:Int):Int×LN:=
 ((smP (dr (nx (nx s)) 8) (sp2 (dr (nx (nx (nx s))) 2)) (nx (nx (nx (nx s))))).1,grL.getD (dr (nx s) (sp2 (dr s 2))).toNat 0::(smP (dr (nx (nx s)) 8) (sp2 (dr (nx (nx (nx s))) 2)) (nx (nx (nx (nx s))))).2)
abbrev km(w:LN):Bool:=made (w.take 1) grL 1 && (decide (w.length=1) || made (w.drop 1) smL 7)
def F5(s:Int):okS (dM s).1/\km (dM s).2=ac:=by
 have j:=pE (dr s 2);have p:=bJ (nx s) j.1;have n:=bJ (nx (nx s)) (k:=8) (by decide);obtain⟨a,b⟩:=wq _ _ _ (bG _) n.1;have c:=F0 (dr (nx (nx s)) 8) _ (nx (nx (nx (nx s)))) (pE (dr (nx (nx (nx s))) 2));unfold dM;generalize smP _ _ _=q at a b c;refine⟨a,?_⟩;have h:(dr (nx s) (sp2 (dr s 2))).toNat<grL.length:=by rw[AY];lia
 have g:grL.getD (dr (nx s) (sp2 (dr s 2))).toNat 0∈grL:=by
  rw[gy,cR h];exact ly h
 generalize grL.getD (dr _ _).toNat 0=x at g;show(made [x] grL 1 && (decide _ || made q.2 smL 7))=ac
 have o:made [x] grL 1=ac:=by
  unfold made AZ;rw[mH,decide_eq_true g];rfl
 rw[o,Bool.true_and,bT];unfold made;rw[c]
 by_cases e:q.2.length=0
 .rw[decide_eq_true (show q.2.length+1=1 by lia)];rfl
 .rw[decide_eq_true (show 1<=q.2.length by lia),decide_eq_true (show q.2.length<=7 by lia)];simp
def On(l:Addr)(s:Int)(r:okS s):vL l [] [] [.int s]=aa ([.int (dM s).1],.str (tx (dM s).2)):=by
 have n:=pE (dr s 2);have t:=bJ (nx s) n.1;have p:=bJ (nx (nx s)) (k:=8) (by decide);have c:=bJ (nx (nx (nx s))) (k:=2) (by decide);have h:=pE (dr (nx (nx (nx s))) 2)
 have w:wp sd [.pin l [.int s],.no] (λo=>∃j,o=.rtS (.str (tx (dM s).2)) [.pin l [.int (dM s).1],j]):=by
  unfold sd dM;apply ao
  have q:be 0 m_0 (aE (mX2 fu (mX (bf (af (λ_=>aa _) (af (λ_=>aa _) nZ)))) (be 0 m_0 (aE (mX (λ_=>aa _)) aP))) aP) _=aa _:=
   g8 (ρ1:=[.pin l _,.no]) rfl (bg (c5 (aQ rfl) (dD l s 2 _ rfl r (by decide)) (A1 _ (bJ s (by decide)))) rfl) rfl (pB l _ _ (bG _) n.1)
  refine fI (c5 (aQ (by rw[grT])) q (AX grL _ (by rw[AY];lia) (by rw[AY];decide))) ?_;generalize grL.getD (dr _ _).toNat 0=x;have g:=bG (nx s);generalize nx (nx s)=s2 at *;obtain⟨a,b⟩:=wq _ (sp2 (dr (nx s2) 2)) (nx (nx s2)) (bG _) p.1;refine ml (c5 (aQ rfl) (F1 l _ _ _ _ rfl (bg (dD l s2 8 _ rfl g (by decide)) (bg (c5 (aQ rfl) (dD l _ 2 _ rfl (bG _) (by decide)) (A1 _ c)) rfl)) (bG _) ⟨by lia,by lia⟩ h) (FY [x] _ (by rw[dR];lia))) ⟨_,rfl⟩
 obtain⟨o,e,j,rfl⟩:=w;exact i8 e rfl
abbrev cN(s:Int):Int×Int:=if dr (nx s) 4=0 then (nx (nx (nx s)),(dr s 9-2)*10 ^ 20+dr (nx (nx s)) (10 ^ 10)) else (nx (nx s),dr s 9-2)
def A2(s:Int):okS (cN s).1/\-(10 ^ 30)<(cN s).2/\(cN s).2<10 ^ 30:=by
 have e:=bJ s (k:=9) (by decide);have c:=bJ (nx (nx s)) (k:=10 ^ 10) (by decide);unfold cN;split
 .refine⟨bG _,?_⟩;show -(10 ^ 30)<(dr s 9-2)*10 ^ 20+dr (nx (nx s)) (10 ^ 10)/\(dr s 9-2)*10 ^ 20+dr (nx (nx s)) (10 ^ 10)<10 ^ 30;lia
 .refine⟨bG _,?_⟩;show -(10 ^ 30)<dr s 9-2/\dr s 9-2<10 ^ 30;lia
def Oo(l:Addr)(s:Int)(n:okS s):r9 l [] [] [.int s]=aa ([.int (cN s).1],.int (cN s).2):=by
 have p:=bJ s (k:=9) (by decide);have h:=bJ (nx (nx s)) (k:=10 ^ 10) (by decide)
 have w:wp r6 [.pin l [.int s],.no] (λo=>∃g,o=.rtS (.int (cN s).2) [.pin l [.int (cN s).1],g]):=by
  unfold r6 cN;apply ao;refine fI (c5 (dD l s 9 _ rfl n (by decide)) (aQ rfl) k6) ?_;show wp _ [.pin l [.int (nx s)],.im (.int (dr s 9-2))] _;apply ao;refine pz (bxX (c5 (dD l (nx s) 4 _ rfl (bG _) (by decide)) (aQ rfl) (j3 _ _))) (λe=>?_) λe=>bj ?_
  .have c:dr (nx s) 4=0:=by simpa using e
   rw[if_pos c];refine ml (c5 (aQ (ap rfl (ap rfl rfl rfl) (lW (j:=10 ^ 20) (.inr ⟨by lia,by decide⟩)))) (dD l (nx (nx s)) (10 ^ 10) _ (ap rfl rfl rfl) (bG _) (by decide)) gZ) ⟨_,rfl⟩
  .have c:¬dr (nx s) 4=0:=by simpa using e
   rw[if_neg c];exact jG rfl ⟨_,rfl⟩
 obtain⟨o,e,g,rfl⟩:=w;exact i8 e rfl
def wt{f:Xe}(c:ρ[i]?=aa (.own xs0))(h:f ρ=aa (d,ρ1))(e:ρ1[i]?=aa (.own xs))(g:xs.length<16777216)(k:K (.nx (ρ1.set i (.own (xs++[d]))))):wp (j9 i f) ρ K:=⟨_,by
 unfold j9;rw[c,h,ax,e];exact if_pos g,k⟩
def ko{f:Xa}(h:f ρ=aa (ds,ρ1)):g6 f ρ=aa (.tup ds,ρ1):=by
 unfold g6;rw[h];rfl
def sn{f:Xe}{v:Int}(h:f ρ=aa (.int v,ρ1))(a:0<=v)(b:v<=500):ka (aE f aP) ρ=aa ((cp v.toNat).map (λ(i:Nat)=>D.int i),ρ1):=Oj (bg h rfl) (wo v a b)
def A3{m:LD->OD}{f:Xa}(c:f ρ=aa (ds,ρ1))(e:m ds=aa d):l5 m f ρ=aa (d,ρ1):=by
 unfold l5;rw[c,ax,e];rfl
def F6{f:Xa}(h:f ρ=aa (ds,ρ1)):oY f ρ=aa (.lst ds,ρ1):=by
 unfold oY;rw[h];rfl
def F7(w:LN)(L:L2N):inD (.str (tx w)) (.lst (L.map sT))=aa (decide (w∈L)):=by
 show(if ((D.str (tx w)).scalar && (L.map sT).all D.scalar)=ac then aa _ else ab)=_;rw[if_pos (by rw[all_map];exact(di _ _).mpr ⟨rfl,all_eq_true.mpr λ_ _=>rfl⟩),any_map]
 congr 1
 rw[jh,decide_eq_true_eq,any_eq_true];constructor
 .rintro⟨k,c,e⟩;have e:(tx k==tx w)=ac:=e;rw[beq_iff_eq]at e;exact mj e▸c
 .intro h;refine⟨w,h,?_⟩;show(tx w==tx w)=ac;exact beq_iff_eq.mpr rfl
def inW(w:LN)(L:L2N):dIn (.str (tx w)) (.lst (L.map sT))=aa (.bl (decide (w∈L))):=by
 unfold dIn;rw[F7];rfl
def sr(w:LN)(L:L2N):jZ (.str (tx w)) (.lst (L.map sT))=aa (.bl (!decide (w∈L))):=by
 unfold jZ;rw[F7];rfl
abbrev itN{c:Type}(f:c->c):Nat->c->c
 | 0,p=>p
 |n+1,p=>f (itN f n p)
abbrev itD{c:Type}(F:D->Int->Int×c):LD->Int->Int×List c
 | [],s=>(s,[])
 |d::ds,s=>((itD F ds (F d s).1).1,(F d s).2::(itD F ds (F d s).1).2)
variable{tl:LS}{fi:Xa}{s:Int}
def Op{j:Type}{fe:Xe}{F:D->Int->Int×j}{toD:j->D}(o:∀d s,d∈ds->okS s->fe [.im d,.pin l [.int s]]=aa (toD (F d s).2,[.im d,.pin l [.int (F d s).1]]))(n:∀d s,okS (F d s).1)(h:okS s)(hi:fi ρ=aa (ds,.pin l [.int s]::tl))(hz:ds.length<=1000):
  kc 1 [0] 0 0 fi (aF 0) fe ρ=aa (.lst ((itD F ds s).2.map toD),.pin l [.int (itD F ds s).1]::tl):=by
 have g:∀(e:Sl) d s,d∈ds->okS s->lj 1 [0] 0 0 (aF 0) fe (e::tl) l d [.int s]=aa (toD (F d s).2,[.int (F d s).1]):=λe d s hd h=>by
  unfold lj;show(aa [Sl.im d,Sl.pin l [.int s]]).bind _=_;rw[ax,o d s hd h,ax];refine if_pos λi hi=>?_
  cases i with
  |zero=>nomatch hi
  |succ i=>rfl
 have loop:∀(e:Sl) (c:LD) (s:Int),(∀d∈c,d∈ds)->okS s->gL 1 [0] 0 0 (aF 0) fe (e::tl) l c [.int s]=aa ((itD F c s).2.map toD,[.int (itD F c s).1]):=λe c=>by
  induction c with
  |nil=>intro s _ _;rfl
  |cons d c r=>
   intro s hz h;unfold gL;rw[g e d s (hz d bK) h,ax,r (F d s).1 (λx p=>hz x (cB _ p)) (n d s)];rfl
 unfold kc;rw[hi,ax];show(if ds.length<=16777216/\([0]:LN)[0]?=aa 0/\_=ac then (gL 1 [0] 0 0 _ _ _ l ds _).map λq=>_ else ab)=_;rw[if_pos ⟨by lia,rfl,rfl⟩,loop _ ds s (λ_ h=>h) h];rfl
abbrev fiP:L2N->Int->Int×L2N
 | [],s=>(s,[])
 |p::ps,s=>((fiP ps (nx s)).1,if 0<dr s 4 then p::(fiP ps (nx s)).2 else (fiP ps (nx s)).2)
def F8(p:LN)(ps:L2N)(s:Int):fiP (p::ps) s=((fiP ps (nx s)).1,if 0<dr s 4 then p::(fiP ps (nx s)).2 else (fiP ps (nx s)).2):=rfl
def Oq{tt:Xt}(j:∀d s,okS s->tt [.im d,.pin l [.int s]]=aa (decide (0<dr s 4),[.im d,.pin l [.int (nx s)]])){ps:L2N}(h:okS s)(hi:fi ρ=aa (ps.map sT,.pin l [.int s]::tl))(hz:ps.length<=1000):
  nN 1 [0] 0 0 fi (aF 0) tt (mX (ae 0)) ρ=aa (.lst ((fiP ps s).2.map sT),.pin l [.int (fiP ps s).1]::tl):=by
 have e:∀(c:Sl) (d:D) (y:OD) s,o7 1 [0] 0 0 (c::tl) l [.im d,.pin l [.int s]] y=aa (y,[.int s]):=λc d y s=>by
  unfold o7;refine if_pos λi hi=>?_
  cases i with
  |zero=>nomatch hi
  |succ i=>rfl
 have g:∀(c:Sl) d s,okS s->o8 1 [0] 0 0 (aF 0) tt (mX (ae 0)) (c::tl) l d [.int s]=aa (if 0<dr s 4 then aa d else ab,[.int (nx s)]):=λc d s h=>by
  unfold o8;show(aa [Sl.im d,Sl.pin l [.int s]]).bind _=_;rw[ax,j d s h,ax]
  by_cases hd:0<dr s 4
  .rw[decide_eq_true hd,if_pos hd];exact e c d _ _
  .rw[decide_eq_false hd,if_neg hd];exact e c d _ _
 have loop:∀(c:Sl) (ps:L2N) (s:Int),okS s->je 1 [0] 0 0 (aF 0) tt (mX (ae 0)) (c::tl) l (ps.map sT) [.int s]=aa ((fiP ps s).2.map sT,[.int (fiP ps s).1]):=λc ps=>by
  induction ps with
  |nil=>intro s _;rfl
  |cons p ps n=>
   intro s h;rw[cS];unfold je;rw[g c _ s h,ax];show(je 1 [0] 0 0 _ _ _ _ l _ [.int (nx s)]).map _=_;rw[n (nx s) (bG s)];rw[F8]
   by_cases hd:0<dr s 4
   .rw[if_pos hd,if_pos hd];rfl
   .rw[if_neg hd,if_neg hd];rfl
 unfold nN;rw[hi,ax];show(if (ps.map sT).length<=16777216/\([0]:LN)[0]?=aa 0/\_=ac then (je 1 [0] 0 0 _ _ _ _ l _ _).map λq=>_ else ab)=_;rw[if_pos ⟨by rw[au];lia,rfl,rfl⟩,loop _ ps s h];rfl
def F9(ps:L2N):∀s,okS s->okS (fiP ps s).1/\(fiP ps s).2.Sublist ps:=by
 induction ps with
 |nil=>exact λs h=>⟨h,.slnil⟩
 |cons p ps c=>
  intro s h;obtain⟨a,b⟩:=c (nx s) (bG s);refine⟨a,?_⟩;rw[F8];dsimp only;split
  .exact b.cons₂ _
  .exact b.cons _
abbrev plS(p:Int×L2N):Int×L2N:=((bC p.1).1,if (bC p.1).2∈p.2 then p.2 else p.2++[(bC p.1).2])
def Os(p:Int×L2N)(g:p.2.Nodup)(j:∀w∈p.2,fY w=ac):okS (plS p).1/\(plS p).2.Nodup/\(∀w∈(plS p).2,fY w=ac)/\p.2.length<=(plS p).2.length/\(plS p).2.length<=p.2.length+1/\0<(plS p).2.length:=by
 obtain⟨a,b⟩:=sm p.1;unfold plS;refine⟨a,?_⟩;dsimp only;split
 .rename_i h;exact⟨g,j,aU _,by lia,length_pos_of_mem h⟩
 .rename_i h;refine⟨eG.mpr ⟨g,by simp,λx n y o e=>?_⟩,λw c=>?_,by simp,by simp,by simp⟩
  .rw[ca.mp o]at e;rw[e]at n;exact h n
  .rcases cC.mp c with c |c
   .exact j w c
   .rw[ca.mp c];exact b
def pG{c:Type}{f:c->c}{I:Nat->c->Prop}(h:∀n p,I n p->I (n+1) (f p)){p:c}(e:I 0 p):∀n,I n (itN f n p)
 | 0=>e
 |n+1=>h n _ (pG h e n)
abbrev Ga(n:Nat)(p:Int×L2N):Prop:=okS p.1/\p.2.Nodup/\(∀w∈p.2,fY w=ac)/\p.2.length<=n/\(0<n->0<p.2.length)
def A4(h:okS s)(n:Nat):Ga n (itN plS n (s,[])):=
 pG (I:=Ga) (λn p q=>by
  obtain⟨_,a,b,c,_⟩:=q;obtain⟨e,g,j,r,t,o⟩:=Os p a b;exact⟨e,g,j,by lia,λ_=>o⟩) ⟨h,f7,λ_ z=>(b6 z).elim,aU _,λz=>absurd z (jR _)⟩ n
abbrev hdP(d:D)(s:Int):Int×(LN×Int):=(nx (bC s).1,((bC s).2,match d with
 |.int m=>if dr (bC s).1 4<m then dr (bC s).1 4 else m
 | _=>0))
abbrev jf(s:Int):Int×List (LN×Int):=itD hdP [.int 3,.int 2,.int 2,.int 1] s
@[reducible]noncomputable def nrD(x:LN×Int):D:=.tup [sT x.1,.int x.2]
@[reducible]noncomputable def kdD(x:LN×L2N):D:=.tup [sT x.1,.lst (x.2.map sT)]
abbrev kdS(pl:L2N)(p:Int×List (LN×L2N)):Int×List (LN×L2N):=
 if 0<(fiP pl (bC p.1).1).2.length/\(bC p.1).2∉p.2.map (·.1) then
  (nx (fiP pl (bC p.1).1).1,p.2++[((bC p.1).2,if dr (fiP pl (bC p.1).1).1 2=0 then (fiP pl (bC p.1).1).2 else (fiP pl (bC p.1).1).2.reverse)])
 else ((fiP pl (bC p.1).1).1,p.2)
structure wu(pl:L2N)(ks:List (LN×L2N)):Prop where
 nd:(ks.map (·.1)).Nodup
 nm:∀k∈ks,fY k.1=ac
 ns:∀k∈ks,k.2.Nodup/\k.2≠[]/\∀w∈k.2,w∈pl
variable{pl:L2N}
def Ot(r:pl.Nodup){p:Int×List (LN×L2N)}(h:wu pl p.2):okS (kdS pl p).1/\wu pl (kdS pl p).2/\(kdS pl p).2.length<=p.2.length+1:=by
 obtain⟨a,b⟩:=sm p.1;obtain⟨c,d⟩:=F9 pl _ a;unfold kdS;generalize fiP pl (bC p.1).1=f at c d;split
 .rename_i o;refine⟨bG _,⟨?_,λk g=>?_,λk g=>?_⟩,by simp⟩
  .rw[bp];refine eG.mpr ⟨h.nd,by simp,λx q y t e=>?_⟩;rw[show y=(bC p.1).2 from ca.mp t]at e;rw[e]at q;exact o.2 q
  .rcases cC.mp g with g |g
   .exact h.nm k g
   .rw[ca.mp g];exact b
  .rcases cC.mp g with g |g
   .exact h.ns k g
   .rw[ca.mp g];have hn:=d.nodup r;have hm:∀w∈f.2,w∈pl:=λw j=>d.subset j;have n:f.2≠[]:=lz.mp o.1;dsimp only;split
    .exact⟨hn,n,hm⟩
    .exact⟨pairwise_reverse.mpr (List.Pairwise.imp ce hn),λz=>n (reverse_eq_nil_iff.mp z),λw j=>hm w (kB.mp j)⟩
 .exact⟨c,h,by simp⟩
abbrev Gb(pl:L2N)(n:Nat)(p:Int×List (LN×L2N)):Prop:=okS p.1/\wu pl p.2/\p.2.length<=n
def Gd(c:pl.Nodup)(h:okS s)(n:Nat):Gb pl n (itN (kdS pl) n (s,[])):=
 pG (I:=Gb pl) (λn p j=>by
  obtain⟨_,a,b⟩:=j;obtain⟨e,g,o⟩:=Ot c a;exact⟨e,g,by lia⟩) (p:=(s,[])) ⟨h,⟨f7,λ_ z=>(b6 z).elim,λ_ z=>(b6 z).elim⟩,aU _⟩ n
structure Lay where
 h:List (LN×Int)
 p:L2N
 k:List (LN×L2N)
@[reducible]noncomputable def Lay.toD(y:Lay):D:=.tup [.lst (y.h.map nrD),.lst (y.p.map sT),.lst (y.k.map kdD)]
abbrev g9(s:Int):Int×L2N:=itN plS (1+dr s 3).toNat (nx s,[])
abbrev pH(s:Int)(pl:L2N):Int×List (LN×L2N):=itN (kdS pl) (dr s 4).toNat (nx s,[])
abbrev jg(s:Int):Int×Lay:=((pH (jf (g9 s).1).1 (g9 s).2).1,⟨(jf (g9 s).1).2,(g9 s).2,(pH (jf (g9 s).1).1 (g9 s).2).2⟩)
structure ff(y:Lay):Prop where
 h:y.h.length=4/\∀x∈y.h,fY x.1=ac/\0<=x.2/\x.2<=3
 p:y.p.Nodup/\(∀w∈y.p,fY w=ac)/\0<y.p.length/\y.p.length<=3
 k:wu y.p y.k/\y.k.length<=3
def Ou(d:D)(s:Int):okS (hdP d s).1:=bG _
def Ge(s:Int):okS (jf s).1/\(jf s).2.length=4/\∀x∈(jf s).2,fY x.1=ac/\0<=x.2/\x.2<=3:=by
 refine⟨bG _,rfl,λx c=>?_⟩
 have one:∀(m:Int) s,0<=m/\m<=3->fY (hdP (.int m) s).2.1=ac/\0<=(hdP (.int m) s).2.2/\(hdP (.int m) s).2.2<=3:=λm s hm=>by
  refine⟨(sm s).2,?_⟩;have d:=bJ (bC s).1 (k:=4) (by decide);show 0<=(if dr (bC s).1 4<m then dr (bC s).1 4 else m)/\(if dr (bC s).1 4<m then dr (bC s).1 4 else m)<=3
  split <;> lia
 have c:x∈[(hdP (.int 3) s).2,(hdP (.int 2) (hdP (.int 3) s).1).2,(hdP (.int 2) (hdP (.int 2) (hdP (.int 3) s).1).1).2,(hdP (.int 1) (hdP (.int 2) (hdP (.int 2) (hdP (.int 3) s).1).1).1).2]:=c;simp only[b8,b6,or_false]at c
 rcases c with rfl |rfl |rfl |rfl
 .exact one 3 _ (by decide)
 .exact one 2 _ (by decide)
 .exact one 2 _ (by decide)
 .exact one 1 _ (by decide)
def Gf(s:Int):okS (jg s).1/\ff (jg s).2:=by
 have u:=bJ s (k:=3) (by decide);obtain⟨r,c,e,g,h⟩:=A4 (bG s) (1+dr s 3).toNat;obtain⟨t,j,n⟩:=Ge (g9 s).1;have v:=bJ (jf (g9 s).1).1 (k:=4) (by decide);obtain⟨o,p,q⟩:=Gd c (bG (jf (g9 s).1).1) (dr (jf (g9 s).1).1 4).toNat;exact⟨o,⟨j,n⟩,⟨c,e,h (by lia),cV g (by lia)⟩,p,cV q (by lia)⟩
def Gg(l:Addr)(s:Int)(r:LS)(h:okS s):be 0 m_4 aP (.pin l [.int s]::r)=aa (sT (bC s).2,.pin l [.int (bC s).1]::r):=A0 (toD:=sT) (λs h=>F4 l s h) s r h
def Gh(d:D)(r:LD):atI (d::r) 0=aa d:=by
 unfold atI ixN;rw[if_pos (by decide),if_pos (by rw[bT];lia)];rfl
variable{fi:MF2}
def wv{c:Type}{f:c->D}{q:c->LN}{L:List c}(h:fi ρ=aa (L.map f))(g:∀x,∃r,f x=.tup (sT (q x)::r))(hz:L.length<=1000:=by lia):bQ 1 [] fi (aF 0) kY (mIx (ak 0) (kI 0)) ρ=aa ((L.map q).map sT):=by
 rw[map_map];refine gY L f (sT ∘ q) h (by lia) λz _=>?_;obtain⟨r,e⟩:=g z;rw[e];exact gu rfl rfl (am rfl rfl (Gh _ _))
def Ov(l:Addr)(s:Int)(hs:okS s):m_6 l [] [] [.int s]=aa ([.int (jg s).1],(jg s).2.toD):=by
 have d3:=bJ s (k:=3) (by decide)
 have w:wp b_6 [.pin l [.int s],.no,.no,.no,.no,.no,.no] (λo=>∃I j n J M r,o=.rtS (jg s).2.toD [.pin l [.int (jg s).1],I,j,n,J,M,r]):=by
  unfold b_6;apply ao;refine e7 rfl ?_;show wp _ [.pin l [.int s],.own [],.no,.no,.no,.no,.no] _;refine k7 (λρ=>∃j n,ρ=[.pin l [.int (g9 s).1],.own ((g9 s).2.map sT),j,n,.no,.no,.no]) ?_ ?_
  .refine uS (sn (c5 (aQ rfl) (dD l s 3 _ rfl hs (by decide)) gZ) (by lia) (by lia)) ?_;refine cM (cp (1+dr s 3).toNat) (λi=>D.int i) (λpre ρ=>∃j n,ρ=[.pin l [.int (itN plS pre.length (nx s,[])).1],.own ((itN plS pre.length (nx s,[])).2.map sT),j,n,.no,.no,.no]) rfl ⟨_,_,rfl⟩ ?_ ?_
   .rintro pre x post ρ G ⟨j,n,rfl⟩;refine⟨_,rfl,?_⟩;obtain⟨u,A,B,C,_⟩:=A4 (bG s) pre.length
    have y:pre.length<3:=by
     have:=congrArg fB G;rw[dH,aM,bT]at this;lia
    rw[aM,show([x]:LN).length=1 from rfl];show wp _ _ λo=>_;generalize H:itN plS pre.length (nx s,[])=p at u A B C;have t:itN plS (pre.length+1) (nx s,[])=plS p:=by rw[<- H];rfl
    rw[t];apply ao;refine fI (Gg l p.1 _ u) ?_;show wp _ [.pin l [.int (bC p.1).1],.own (p.2.map sT),.im (.int x),.im (sT (bC p.1).2),.no,.no,.no] _;refine aT (aL (ap rfl rfl (sr _ _))) (λe=>?_) λe=>bj ?_
    .have v:(bC p.1).2∉p.2:=by simpa using e
     refine iz rfl rfl (by rw[au];lia) ⟨.im (.int x),.im (sT (bC p.1).2),?_⟩;unfold plS;rw[if_neg v,bp];rfl
    .have v:(bC p.1).2∈p.2:=by simpa using e
     refine⟨.im (.int x),.im (sT (bC p.1).2),?_⟩;unfold plS;rw[if_pos v]
   .rintro ρ ⟨j,n,rfl⟩;rw[dH];exact k_J ⟨j,n,rfl⟩
  rintro _ ⟨j,n,rfl⟩;obtain⟨u,A,B,C,k5⟩:=A4 (bG s) (1+dr s 3).toNat;have hA:itN plS (1+dr s 3).toNat (nx s,[])=g9 s:=rfl;rw[hA]at u A B C;unfold jg;generalize g9 s=c at u A B C;apply ao;refine fI (Op (F:=hdP) (toD:=nrD) (ds:=[.int 3,.int 2,.int 2,.int 1]) (λd s hd h=>?_) (λd s=>Ou d s) u (by unfold oR;rw[aQ rfl];rfl) (by decide)) ?_
  .obtain⟨m,rfl⟩:∃m,d=.int m:=by
    simp only[b8,b6,or_false]at hd
    rcases hd with e |e |e |e <;> exact⟨_,e⟩
   have E:=(sm s).1;refine ko (bg (g8 (i:=1) (ρ1:=[.im (.int m),.pin l [.int s]]) rfl rfl rfl (F4 l s h)) (bg (A3 (ds:=[.int m,.int (dr (bC s).1 4)]) (bg (aQ rfl) (bg (g8 (i:=1) (ρ1:=[.im (.int m),.pin l [.int (bC s).1]]) rfl (bg (aQ rfl) rfl) rfl (pB l _ 4 E (by decide))) rfl)) rfl) rfl))
  obtain⟨N,Y,h3⟩:=Ge c.1;show wp _ [.pin l [.int (jf c.1).1],.own (c.2.map sT),j,n,.im (.lst ((jf c.1).2.map nrD)),.no,.no] _;generalize jf c.1=g at N Y h3;have d4:=bJ g.1 (k:=4) (by decide);apply ao;refine e7 rfl ?_;show wp _ [.pin l [.int g.1],.own (c.2.map sT),j,n,.im (.lst (g.2.map nrD)),.own [],.no] _;refine k7 (λρ=>∃z j n r,(z=Sl.own (c.2.map sT)\/z=.im (.lst (c.2.map sT)))/\ρ=[.pin l [.int (pH g.1 c.2).1],z,j,n,.im (.lst (g.2.map nrD)),.own ((pH g.1 c.2).2.map kdD),r]) ?_ ?_
  .refine uS (sn (dD l g.1 4 _ rfl N (by decide)) (by lia) (by lia)) ?_;refine cM (cp (dr g.1 4).toNat) (λi=>D.int i) (λpre ρ=>∃z j n r,(z=Sl.own (c.2.map sT)\/z=.im (.lst (c.2.map sT)))/\ρ=[.pin l [.int (itN (kdS c.2) pre.length (nx g.1,[])).1],z,j,n,.im (.lst (g.2.map nrD)),.own ((itN (kdS c.2) pre.length (nx g.1,[])).2.map kdD),r]) rfl ⟨_,_,_,_,.inl rfl,rfl⟩ ?_ ?_
   .rintro pre x post ρ G ⟨z,j,n,r,hz,rfl⟩;refine⟨_,rfl,?_⟩;obtain⟨Q,q2,q3⟩:=Gd A (bG g.1) pre.length
    have y:pre.length<4:=by
     have:=congrArg fB G;rw[dH,aM,bT]at this;lia
    rw[aM,show([x]:LN).length=1 from rfl];generalize H:itN (kdS c.2) pre.length (nx g.1,[])=p at Q q2 q3;have t:itN (kdS c.2) (pre.length+1) (nx g.1,[])=kdS c.2 p:=by rw[<- H];rfl
    rw[t];apply ao;refine fI (Gg l p.1 _ Q) ?_;obtain⟨E,_⟩:=sm p.1;show wp _ [.pin l [.int (bC p.1).1],z,.im (.int x),.im (sT (bC p.1).2),.im (.lst (g.2.map nrD)),.own (p.2.map kdD),r] _;apply ao
    refine jD (ρ':=[.pin l [.int (bC p.1).1],.im (.lst (c.2.map sT)),.im (.int x),.im (sT (bC p.1).2),.im (.lst (g.2.map nrD)),.own (p.2.map kdD),r]) (by rcases hz with rfl |rfl <;> rfl) ?_
    obtain⟨f1,f2⟩:=F9 c.2 _ E;refine fI (Oq (ps:=c.2) (λd s h=>bxX (c5 (g8 (i:=1) (ρ1:=[.im d,.pin l [.int s]]) rfl (bg (aQ rfl) rfl) rfl (pB l s 4 h (by decide))) (aQ rfl) i4)) E (by unfold oR;rw[aQ rfl];rfl) (by lia)) ?_;show wp _ [.pin l [.int (fiP c.2 (bC p.1).1).1],.im (.lst (c.2.map sT)),.im (.int x),.im (sT (bC p.1).2),.im (.lst (g.2.map nrD)),.own (p.2.map kdD),.im (.lst ((fiP c.2 (bC p.1).1).2.map sT))] _;have U:=f2.length_le;unfold kdS;generalize fiP c.2 (bC p.1).1=f at f1 f2 U;have T:bQ 1 [] (ak 5) (aF 0) kY (mIx (ak 0) (kI 0)) [.pin l [.int f.1],.im (.lst (c.2.map sT)),.im (.int x),.im (sT (bC p.1).2),.im (.lst (g.2.map nrD)),.own (p.2.map kdD),.im (.lst (f.2.map sT))]=aa ((p.2.map (·.1)).map sT):=wv (L:=p.2) (f:=kdD) (q:=(·.1)) rfl λz=>⟨_,rfl⟩;have d2:=bJ f.1 (k:=2) (by decide);refine aT (qS (aL (ap (aN (ah rfl rfl) (dL f.2 sT)) rfl i4)) (aL (ap rfl (cY T) (sr _ _)))) (λe=>?_) λe=>bj ?_
    .rw[di,decide_eq_true_eq,Bool.not_eq_true',decide_eq_false_iff_not]at e;rw[if_pos ⟨by lia,e.2⟩];refine wt (ρ1:=[.pin l [.int (nx f.1)],.im (.lst (c.2.map sT)),.im (.int x),.im (sT (bC p.1).2),.im (.lst (g.2.map nrD)),.own (p.2.map kdD),.im (.lst (f.2.map sT))]) rfl (ko (bg (aQ rfl) (bg (d:=.lst ((if dr f.1 2=0 then f.2 else f.2.reverse).map sT)) ?_ rfl))) rfl (by rw[au];lia) ⟨.im (.lst (c.2.map sT)),.im (.int x),.im (sT (bC p.1).2),.im (.lst (f.2.map sT)),.inr rfl,?_⟩
     .unfold vc;rw[aQ rfl,ax,c5 (aQ rfl) (c5 (aQ rfl) (dD l f.1 2 _ rfl f1 (by decide)) (lW (.inl (.inl ⟨by decide,by decide⟩)))) k6,ax]
      rcases(show dr f.1 2=0\/dr f.1 2=1 by lia)with e0 |e0
      .rw[e0];rfl
      .rw[e0];show aa (D.lst ((f.2.map sT).reverse),_)=_;rw[<- mE];rfl
     .rw[bp];rfl
    .have v:¬(0<f.2.length/\(bC p.1).2∉p.2.map (·.1)):=λz=>by
      rw[decide_eq_true (show(0:Int)<(f.2.length:Nat) by lia),decide_eq_false z.2]at e
      nomatch e
     rw[if_neg v];exact⟨_,_,_,_,.inr rfl,rfl⟩
   .rintro ρ ⟨z,j,n,r,hz,rfl⟩;rw[dH];exact k_J ⟨z,j,n,r,hz,rfl⟩
  rintro _ ⟨z,j,n,r,hz,rfl⟩;refine jD (i:=5) rfl ?_
  refine jD (i:=1) (ρ':=[.pin l [.int (pH g.1 c.2).1],.im (.lst (c.2.map sT)),j,n,.im (.lst (g.2.map nrD)),.im (.lst ((pH g.1 c.2).2.map kdD)),r]) (by rcases hz with rfl |rfl <;> rfl) ?_
  exact jG rfl ⟨_,_,_,_,_,_,rfl⟩
 obtain⟨o,e,I,j,n,J,M,r,rfl⟩:=w;exact i8 e rfl
@[reducible]noncomputable def Th:=LN×L2N
@[reducible]noncomputable def Ti:=Th×Int
@[reducible]noncomputable def Pr:=LN×LN
@[reducible]noncomputable def dN(z:Ti):D:=.tup [kdD z.1,.int z.2]
@[reducible]noncomputable def prD(p:Pr):D:=.tup [sT p.1,sT p.2]
inductive Pa where
 |is (t:Th)
 |no (t:Th)
 |un (a b:LN)
 |ct (w:Bool) (n:Int) (its:List Ti) (ov:List Pr)
@[reducible]noncomputable def Pa.toD:Pa->D
 |.is t=>.tup [.str "is",kdD t]
 |.no t=>.tup [.str "not",kdD t]
 |.un a b=>.tup [.str "unlike",sT a,sT b]
 |.ct w n its ov=>.tup [.str (if w then "least" else "most"),.int n,.lst (its.map dN),.lst (ov.map prD)]
inductive Ro where
 |kind (n:LN) (ns:L2N)
 |rule (b:Bool) (t:Th) (bd:List Pa) (ps:List Pr)
 |choose (lo hi:Int) (its:List Ti) (ov:List Pr) (bd:List Pa) (ps:List Pr)
 |never (bd:List Pa) (ps:List Pr)
@[reducible]noncomputable def Ro.toD:Ro->D
 |.kind n ns=>.tup [.str "kind",sT n,.lst (ns.map sT)]
 |.rule b t bd ps=>.tup [.str (if b then "rule" else "may"),kdD t,.lst (bd.map Pa.toD),.lst (ps.map prD)]
 |.choose lo hi its ov bd ps=>.tup [.str "choose",.int lo,.int hi,.lst (its.map dN),.lst (ov.map prD),.lst (bd.map Pa.toD),.lst (ps.map prD)]
 |.never bd ps=>.tup [.str "never",.lst (bd.map Pa.toD),.lst (ps.map prD)]
abbrev dh{c:Type}(L:List c)(z:c)(k:Int):c:=L.getD k.toNat z
def jK{e:Type}{L:List e}{z:e}(h:0<=k/\k<(L.length:Nat)):dh L z k∈L:=by
 have c:k.toNat<L.length:=by lia
 unfold dh;rw[gy,cR c];exact ly c
def Ow{c:Type}{L:List c}{z:c}(f:c->D)(h:0<=k/\k<(L.length:Nat)):atI (L.map f) k=aa (f (dh L z k)):=by
 have e:k.toNat<L.length:=by lia
 unfold atI ixN dh;rw[if_pos h.1,if_pos (by rw[au];lia),ax,eM,cR e,gy,cR e];rfl
def pI{c:Type}{L:List c}{z:c}(f:c->D)(h:0<=k/\k<(L.length:Nat)):fu (.lst (L.map f)) (.int k)=aa (f (dh L z k)):=Ow f h
abbrev fw(y:Lay)(kn:L2N)(s:Int):Int×LN:=
 if kn=[] then (nx s,dh y.p [] (dr s (y.p.length:Nat)))
 else if 0<dr s 4 then (nx (nx s),dh kn [] (dr (nx s) (kn.length:Nat))) else (nx (nx s),dh y.p [] (dr (nx s) (y.p.length:Nat)))
abbrev thP(y:Lay)(kn:L2N)(s:Int):Int×Th:=((itP (fw y kn) (dh y.h ([],0) (dr s 4)).2.toNat (nx s)).1,((dh y.h ([],0) (dr s 4)).1,(itP (fw y kn) (dh y.h ([],0) (dr s 4)).2.toNat (nx s)).2))
abbrev prS(ks:List (LN×L2N))(kn:L2N)(p:Int×List Pr):Int×List Pr:=
 if (dM p.1).2∈kn++p.2.map (·.1) then ((dM p.1).1,p.2) else (nx (dM p.1).1,p.2++[((dM p.1).2,(dh ks ([],[]) (dr (dM p.1).1 (ks.length:Nat))).1)])
abbrev prN(ks:List (LN×L2N))(most s:Int):Nat:=if 0<ks.length then (if dr s 6 / 2+dr (nx s) 2<most then dr s 6 / 2+dr (nx s) 2 else most).toNat else 0
abbrev cJ(ks:List (LN×L2N))(kn:L2N)(most s:Int):Int×List Pr:=itN (prS ks kn) (prN ks most s) (nx (nx s),[])
abbrev itS(y:Lay)(kn:L2N)(s:Int):Int×Ti:=((thP y kn (nx (cN s).1)).1,((thP y kn (nx (cN s).1)).2,if dr (cN s).1 2=0 then 1 else ((cN s).2.natAbs:Int)))
@[reducible]noncomputable def vrs(ps:List Pr):L2N:=ps.map (·.1)
abbrev dO(y:Lay)(kn:L2N)(ks:List (LN×L2N))(many s:Int):Int×(List Ti×List Pr):=
 ((itP (itS y (kn++vrs (cJ ks kn 2 s).2)) (1+dr (cJ ks kn 2 s).1 many).toNat (nx (cJ ks kn 2 s).1)).1,((itP (itS y (kn++vrs (cJ ks kn 2 s).2)) (1+dr (cJ ks kn 2 s).1 many).toNat (nx (cJ ks kn 2 s).1)).2,(cJ ks kn 2 s).2))
abbrev unO(y:Lay)(kn:L2N)(s:Int):Int×LN:=
 if kn=[] then (nx s,dh (kn++y.p) [] (dr s ((kn++y.p).length:Nat)))
 else if 0<dr (nx s) 4 then (nx (nx (nx s)),dh kn [] (dr (nx (nx s)) (kn.length:Nat))) else (nx (nx s),dh (kn++y.p) [] (dr s ((kn++y.p).length:Nat)))
abbrev unS(y:Lay)(kn:L2N)(s:Int):Int×Pa:=
 (nx (nx (unO y kn s).1),if dr (nx (unO y kn s).1) 2=0 then .un (dh (kn++y.p) [] (dr (unO y kn s).1 ((kn++y.p).length:Nat))) (unO y kn s).2 else .un (unO y kn s).2 (dh (kn++y.p) [] (dr (unO y kn s).1 ((kn++y.p).length:Nat))))
abbrev ctS(y:Lay)(kn:L2N)(ks:List (LN×L2N))(w:Bool)(s:Int):Int×Pa:=
 ((cN (dO y kn ks 2 s).1).1,.ct w (cN (dO y kn ks 2 s).1).2 (dO y kn ks 2 s).2.1 (dO y kn ks 2 s).2.2)
abbrev fg(y:Lay)(kn:L2N)(ks:List (LN×L2N))(s:Int):Int×Pa:=
 if dr s 6=0 then unS y kn (nx s)
 else if dr s 6<3 then ctS y kn ks (decide (dr s 6 % 2=0)) (nx s)
 else ((thP y kn (nx s)).1,if dr s 6=4 then .no (thP y kn (nx s)).2 else .is (thP y kn (nx s)).2)
abbrev gh(y:Lay)(kn:L2N)(ks:List (LN×L2N))(s:Int):Int×List Pa:=itP (fg y kn ks) (dr s 4).toNat (nx s)
abbrev pJ(y:Lay)(ps:List Pr)(bd:List Pa)(s:Int):Int×Ro:=
 if dr s 3=0 then ((thP y (vrs ps) (nx (nx s))).1,.never (bd++[if dr (nx s) 2=0 then .is (thP y (vrs ps) (nx (nx s))).2 else .no (thP y (vrs ps) (nx (nx s))).2]) ps)
 else ((thP y (vrs ps) (nx s)).1,.rule (decide (dr s 3=2)) (thP y (vrs ps) (nx s)).2 bd ps)
abbrev gi(y:Lay)(ks:List (LN×L2N))(s:Int):Int×Ro:=pJ y (cJ ks [] 3 s).2 (gh y (vrs (cJ ks [] 3 s).2) ks (cJ ks [] 3 s).1).2 (gh y (vrs (cJ ks [] 3 s).2) ks (cJ ks [] 3 s).1).1
abbrev iF(vs:L2N)(w:LN):Prop:=w∈vs\/fY w=ac
abbrev jL(vs:L2N)(t:Th):Prop:=∀w∈t.2,iF vs w
structure iG(ks:L2N)(vs:L2N)(ps:List Pr):Prop where
 nd:(vs++vrs ps).Nodup
 kd:∀p∈ps,p.2∈ks
 vr:∀p∈ps,km p.1=ac
abbrev PsL(ks:L2N)(vs:L2N)(ps:List Pr):Prop:=iG ks vs ps/\ps.length<=3
abbrev pK(ks vs:L2N):Pa->Prop
 |.is t=>jL vs t
 |.no t=>jL vs t
 |.un a b=>iF vs a/\iF vs b
 |.ct _ _ its ov=>PsL ks vs ov/\∀z∈its,jL (vs++vrs ov) z.1
abbrev su(ks:L2N):Ro->Prop
 |.kind _ _=>False
 |.rule _ t bd ps=>PsL ks [] ps/\jL (vrs ps) t/\∀p∈bd,pK ks (vrs ps) p
 |.choose _ _ its ov bd ps=>PsL ks [] ps/\(PsL ks (vrs ps) ov/\∀z∈its,jL (vrs ps++vrs ov) z.1)/\∀p∈bd,pK ks (vrs ps) p
 |.never bd ps=>PsL ks [] ps/\∀p∈bd,pK ks (vrs ps) p
section
variable{y:Lay}(hy:ff y)
include hy
def ww{kn:L2N}(s:Int)(e:kn.length<=1000):okS (fw y kn s).1/\iF kn (fw y kn s).2:=by
 obtain⟨g,c,j,n⟩:=hy.p;have dp:∀s,iF kn (dh y.p [] (dr s (y.p.length:Nat))):=λs=>.inr (c _ (jK (bJ s (by lia))));unfold fw;split
 .exact⟨bG _,dp _⟩
 .rename_i h;split
  .exact⟨bG _,.inl (jK (bJ _ (by have:=lz.mpr h;lia)))⟩
  .exact⟨bG _,dp _⟩
def kr{kn:L2N}(s:Int)(c:kn.length<=1000):okS (thP y kn s).1/\jL kn (thP y kn s).2/\(thP y kn s).2.2.length<=3:=by
 obtain⟨j,e⟩:=hy.h;have d:=bJ s (k:=4) (by decide);have hm:=e _ (jK (L:=y.h) (z:=([],0)) (k:=dr s 4) (by lia));obtain⟨a,b⟩:=mm (F:=fw y kn) (λs=>(ww hy s c).1) (dh y.h ([],0) (dr s 4)).2.toNat (nx s) (bG _);refine⟨a,λw g=>kj (F:=fw y kn) (P:=iF kn) (λs=>(ww hy s c).2) _ _ w g,?_⟩;show(itP (fw y kn) _ (nx s)).2.length<=3;rw[b];lia
end
abbrev nU(ks:L2N)(kn:L2N)(n:Nat)(p:Int×List Pr):Prop:=okS p.1/\iG ks kn p.2/\p.2.length<=n
variable{ks:List (LN×L2N)}{kn:L2N}
def A5(r:0<ks.length)(n:Nat)(p:Int×List Pr)(h:nU (ks.map (·.1)) kn n p):nU (ks.map (·.1)) kn (n+1) (prS ks kn p):=by
 obtain⟨_,g,o⟩:=h;obtain⟨a,b⟩:=F5 p.1;unfold prS;split
 .exact⟨a,g,Nat.le_succ_of_le o⟩
 .rename_i hn;refine⟨bG _,⟨?_,λq c=>?_,λq c=>?_⟩,by rw[aM,dR];lia⟩
  .show(kn++(p.2++[((dM p.1).2,(dh ks ([],[]) (dr (dM p.1).1 (ks.length:Nat))).1)]).map (λz=>z.1)).Nodup;rw[bp,<- eU];refine eG.mpr ⟨g.nd,by simp,λx j z hz e=>?_⟩;rw[show z=(dM p.1).2 from ca.mp hz]at e;rw[e]at j;exact hn j
  .rcases cC.mp c with c |c
   .exact g.kd q c
   .rw[ca.mp c];exact cq.mpr ⟨_,jK (bJ _ (by lia)),rfl⟩
  .rcases cC.mp c with c |c
   .exact g.vr q c
   .rw[ca.mp c];exact b
def A6(ks:List (LN×L2N))(most s:Int)(h:0<=most):prN ks most s<=most.toNat/\prN ks most s<=3/\(ks=[]->prN ks most s=0):=by
 have g:=bJ s (k:=6) (by decide);have c:=bJ (nx s) (k:=2) (by decide);unfold prN;refine⟨?_,?_,λe=>by rw[e];rfl⟩
 .split
  .split <;> lia
  .omega
 .split
  .split <;> lia
  .omega
def mn(hn:kn.Nodup)(most s:Int)(h:0<=most):okS (cJ ks kn most s).1/\iG (ks.map (·.1)) kn (cJ ks kn most s).2/\(cJ ks kn most s).2.length<=3:=by
 obtain⟨a,b,c⟩:=A6 ks most s h;have e:nU (ks.map (·.1)) kn 0 (nx (nx s),[]):=⟨bG _,⟨by simpa using hn,λ_ z=>(b6 z).elim,λ_ z=>(b6 z).elim⟩,aU _⟩;unfold cJ
 by_cases g:0<ks.length
 .obtain⟨o,q,r⟩:=pG (I:=nU (ks.map (·.1)) kn) (λn p j=>A5 g n p j) e (prN ks most s);exact⟨o,q,by lia⟩
 .rw[c (pS.mp (by lia))];exact⟨e.1,e.2.1,by simp[itN]⟩
section
variable{y:Lay}(hy:ff y)
include hy
def A7{kn:L2N}(s:Int)(c:kn.length<=1000):okS (itS y kn s).1/\jL kn (itS y kn s).2.1:=⟨(kr hy _ c).1,(kr hy _ c).2.1⟩
def wx{kn:L2N}(ks:List (LN×L2N))(hn:kn.Nodup)(o:kn.length<=100){many:Int}(hm:0<many)(s:Int):okS (dO y kn ks many s).1/\iG (ks.map (·.1)) kn (dO y kn ks many s).2.2/\(∀z∈(dO y kn ks many s).2.1,jL (kn++vrs (dO y kn ks many s).2.2) z.1)/\(dO y kn ks many s).2.2.length<=3/\(dO y kn ks many s).2.1.length<=many.toNat:=by
 obtain⟨h,c,e⟩:=mn (ks:=ks) hn 2 s (by decide);unfold dO;generalize cJ ks kn 2 s=q at h c e;have g:(kn++vrs q.2).length<=1000:=by rw[aM,au];lia
 obtain⟨j,n⟩:=mm (F:=itS y (kn++vrs q.2)) (λs=>(A7 hy s g).1) (1+dr q.1 many).toNat (nx q.1) (bG _);have d:=bJ q.1 hm;refine⟨j,c,λz hz=>kj (F:=itS y (kn++vrs q.2)) (P:=λz=>jL (kn++vrs q.2) z.1) (λs=>(A7 hy s g).2) _ _ z hz,e,?_⟩;show(itP (itS y _) _ _).2.length<=_;rw[n];lia
def Gi{kn:L2N}(s:Int):okS (unO y kn s).1/\iF kn (unO y kn s).2:=by
 obtain⟨g,e,j,n⟩:=hy.p
 have c:∀s,iF kn (dh (kn++y.p) [] (dr s ((kn++y.p).length:Nat))):=λs=>by
  rcases cC.mp (jK (L:=kn++y.p) (z:=[]) (bJ s (k:=((kn++y.p).length:Nat)) (by rw[aM];lia)))with z |z
  .exact .inl z
  .exact .inr (e _ z)
 unfold unO;split
 .exact⟨bG _,c _⟩
 .rename_i h;split
  .exact⟨bG _,.inl (jK (bJ _ (by have:=lz.mpr h;lia)))⟩
  .exact⟨bG _,c _⟩
def A8{kn:L2N}(ks:List (LN×L2N))(hn:kn.Nodup)(o:kn.length<=100)(s:Int):okS (fg y kn ks s).1/\pK (ks.map (·.1)) kn (fg y kn ks s).2:=by
 obtain⟨r,q,t,u⟩:=hy.p;unfold fg;split
 .have h:∀s,iF kn (dh (kn++y.p) [] (dr s ((kn++y.p).length:Nat))):=λs=>by
   rcases cC.mp (jK (L:=kn++y.p) (z:=[]) (bJ s (k:=((kn++y.p).length:Nat)) (by rw[aM];lia)))with z |z
   .exact .inl z
   .exact .inr (q _ z)
  have g:=(Gi hy (kn:=kn) (nx s)).2;refine⟨bG _,?_⟩;unfold unS;dsimp only;split
  .exact⟨h _,g⟩
  .exact⟨g,h _⟩
 .split
  .obtain⟨e,c,j,n,_⟩:=wx hy ks hn o (many:=2) (by decide) (nx s);exact⟨(A2 _).1,⟨c,n⟩,j⟩
  .obtain⟨e,c,_⟩:=kr hy (kn:=kn) (nx s) (by lia);refine⟨e,?_⟩;dsimp only;split
   .exact c
   .exact c
def wy{kn:L2N}(ks:List (LN×L2N))(hn:kn.Nodup)(c:kn.length<=100)(s:Int):okS (gh y kn ks s).1/\(∀p∈(gh y kn ks s).2,pK (ks.map (·.1)) kn p)/\(gh y kn ks s).2.length<=3:=by
 have d:=bJ s (k:=4) (by decide);obtain⟨e,g⟩:=mm (F:=fg y kn ks) (λs=>(A8 hy ks hn c s).1) (dr s 4).toNat (nx s) (bG _);refine⟨e,kj (F:=fg y kn ks) (λs=>(A8 hy ks hn c s).2) _ _,?_⟩;show(itP _ _ _).2.length<=_;rw[g];lia
def Ox(ks:List (LN×L2N))(s:Int):okS (gi y ks s).1/\su (ks.map (·.1)) (gi y ks s).2:=by
 obtain⟨n,e,g⟩:=mn (ks:=ks) (kn:=[]) f7 3 s (by decide);unfold gi;generalize cJ ks [] 3 s=q at n e g;have hn:(vrs q.2).Nodup:=by simpa using e.nd
 have t:(vrs q.2).length<=100:=by rw[au];lia
 obtain⟨o,h,r⟩:=wy hy ks hn t q.1;generalize gh y (vrs q.2) ks q.1=b at o h r;obtain⟨u,v,_⟩:=kr hy (kn:=vrs q.2) (nx b.1) (by lia);obtain⟨z,j,_⟩:=kr hy (kn:=vrs q.2) (nx (nx b.1)) (by lia);unfold pJ;split
 .refine⟨z,⟨e,g⟩,λp c=>?_⟩
  rcases cC.mp c with c |c
  .exact h p c
  .rw[ca.mp c];split
   .exact j
   .exact j
 .exact⟨u,⟨e,g⟩,v,h⟩
end
def Gj{f g:Xt}(h:f ρ=aa (ac,ρ1))(c:g ρ1=aa (b,c0)):l7 f g ρ=aa (b,c0):=by
 unfold l7;rw[h,ax,if_pos rfl,c]
def Gk{f g:Xt}(h:f ρ=aa (ag,ρ1)):l7 f g ρ=aa (ag,ρ1):=by
 unfold l7;rw[h,ax];rfl
def tX1{f:MF4}(h:f ρ=aa b):mTX f ρ=aa (b,ρ):=by
 unfold mTX;rw[h];rfl
def A9{c:Type}(F:Int->Int×c):∀n s,itP F (n+1) s=((F (itP F n s).1).1,(itP F n s).2++[(F (itP F n s).1).2])
 | 0,s=>rfl
 |n+1,s=>by
  show((itP F (n+1) (F s).1).1,(F s).2::(itP F (n+1) (F s).1).2)=_;rw[A9 F n (F s).1];rfl
def wz(n:Nat):dGt (.int (n:Nat)) (.int 0)=aa (.bl (decide (0<n))):=by
 rw[i4]
 congr 2
 exact decide_eq_decide.mpr (by lia)
variable{y:Lay}
def Oy(q:ff y)(l:Addr)(kn:L2N)(N:kn.length<=1000)(s:Int)(Q:okS s):m_2 l [] [y.toD,.lst (kn.map sT)] [.int s]=aa ([.int (thP y kn s).1],kdD (thP y kn s).2):=by
 obtain⟨Y,J⟩:=q.h;obtain⟨p1,p2,H,p4⟩:=q.p;have d:=bJ s (k:=4) (by decide);have hm:=J _ (jK (L:=y.h) (z:=([],0)) (k:=dr s 4) (by lia))
 have w:wp b_2 [.pin l [.int s],.im y.toD,.im (.lst (kn.map sT)),.no,.no,.no,.no] (λo=>∃u v A g,o=.rtS (kdD (thP y kn s).2) [.pin l [.int (thP y kn s).1],.im y.toD,.im (.lst (kn.map sT)),u,v,A,g]):=by
  unfold b_2 thP;apply ao;refine Fb (c5 (aQ (am rfl rfl (Gh _ _))) (dD l s 4 _ rfl Q (by decide)) (pI (z:=([],0)) nrD (by lia))) rfl ?_;generalize dh y.h ([],0) (dr s 4)=x at hm;show wp _ [.pin l [.int (nx s)],.im y.toD,.im (.lst (kn.map sT)),.im (sT x.1),.im (.int x.2),.no,.no] _;apply ao;refine e7 rfl ?_;show wp _ [.pin l [.int (nx s)],.im y.toD,.im (.lst (kn.map sT)),.im (sT x.1),.im (.int x.2),.own [],.no] _;refine k7 (λρ=>∃g,ρ=[.pin l [.int (itP (fw y kn) x.2.toNat (nx s)).1],.im y.toD,.im (.lst (kn.map sT)),.im (sT x.1),.im (.int x.2),.own ((itP (fw y kn) x.2.toNat (nx s)).2.map sT),g]) ?_ ?_
  .refine cM (cp x.2.toNat) (λi=>D.int i) (λpre ρ=>∃g,ρ=[.pin l [.int (itP (fw y kn) pre.length (nx s)).1],.im y.toD,.im (.lst (kn.map sT)),.im (sT x.1),.im (.int x.2),.own ((itP (fw y kn) pre.length (nx s)).2.map sT),g]) ?_ ⟨_,rfl⟩ ?_ ?_
   .unfold gX;rw[ah rfl rfl,ax,wo x.2 hm.2.1 (by lia)]
   .rintro pre i post ρ M ⟨g,rfl⟩;refine⟨_,rfl,?_⟩;obtain⟨r,U⟩:=mm (F:=fw y kn) (λs=>(ww q s N).1) pre.length (nx s) (bG _)
    have G:pre.length<4:=by
     have:=congrArg fB M;rw[dH,aM,bT]at this;lia
    rw[aM,show([i]:LN).length=1 from rfl,A9];generalize itP (fw y kn) pre.length (nx s)=p at r U;show wp _ [.pin l [.int p.1],.im y.toD,.im (.lst (kn.map sT)),.im (sT x.1),.im (.int x.2),.own (p.2.map sT),.im (.int i)] _;have c:mB (m2 dGt (aJ bE (af (ae 2) nZ)) (kI 0)) [.pin l [.int p.1],.im y.toD,.im (.lst (kn.map sT)),.im (sT x.1),.im (.int x.2),.own (p.2.map sT),.im (.int i)]=aa (decide (0<kn.length)):=aL (ap (aN (ah rfl rfl) (dL kn sT)) rfl (wz _))
    have n:∀(f:MF1) (L:L2N) t (K:Fl->Prop),okS t->0<L.length->(∀t,f [.pin l [.int t],.im y.toD,.im (.lst (kn.map sT)),.im (sT x.1),.im (.int x.2),.own (p.2.map sT),.im (.int i)]=aa (.lst (L.map sT)))->K (.nx [.pin l [.int (nx t)],.im y.toD,.im (.lst (kn.map sT)),.im (sT x.1),.im (.int x.2),.own ((p.2++[dh L [] (dr t (L.length:Nat))]).map sT),.im (.int i)])->wp (j9 5 (mX2 fu (mX f) (be 0 m_0 (aE (mX (aJ bE (af f nZ))) aP)))) [.pin l [.int t],.im y.toD,.im (.lst (kn.map sT)),.im (sT x.1),.im (.int x.2),.own (p.2.map sT),.im (.int i)] K:=λf L t K T hL C B=>by
     refine wt rfl (c5 (aQ (C t)) (dD l t (L.length:Nat) _ (aN (ah (C t) rfl) (dL L sT)) T (by lia)) (pI (z:=[]) sT (bJ t (by lia)))) rfl (by rw[au];lia) ?_;rw[bp]at B;exact B
    unfold fw
    by_cases j:kn=[]
    .rw[if_pos j];have I:decide (0<kn.length)=ag:=by rw[j];rfl
     rw[I]at c;refine pz (Gk (tX1 c)) (λe=>nomatch e) λ_=>?_;exact n _ y.p p.1 _ r H (λ_=>am rfl rfl rfl) ⟨_,rfl⟩
    .rw[if_neg j];have E:=lz.mpr j;rw[decide_eq_true E]at c;refine pz (Gj (tX1 c) (bxX (c5 (dD l p.1 4 _ rfl r (by decide)) (aQ rfl) i4))) (λe=>?_) λe=>?_
     .rw[if_pos (of_decide_eq_true e)];exact n _ kn (nx p.1) _ (bG _) E (λ_=>rfl) ⟨_,rfl⟩
     .rw[if_neg (of_decide_eq_false e)];exact n _ y.p (nx p.1) _ (bG _) H (λ_=>am rfl rfl rfl) ⟨_,rfl⟩
   .rintro ρ ⟨g,rfl⟩;rw[dH];exact k_J ⟨g,rfl⟩
  rintro _ ⟨g,rfl⟩;refine jD rfl ?_;exact jG rfl ⟨_,_,_,_,rfl⟩
 obtain⟨o,e,u,v,A,g,rfl⟩:=w;exact i8 e rfl
def Gm{f g:MF1}{a b:LD}(h:f ρ=aa (.lst a))(h':g ρ=aa (.lst b))(c:a.length+b.length<=16777216):gw f g ρ=aa (a++b):=by
 unfold gw;rw[h,h'];show(if a.length+b.length<=16777216 then aa _ else ab)=_;rw[if_pos c]
def Oz(l:Addr)(s:Int)(r:LS)(h:okS s):be 0 vL aP (.pin l [.int s]::r)=aa (sT (dM s).2,.pin l [.int (dM s).1]::r):=A0 (toD:=sT) (λs h=>On l s h) s r h
def Gn(l:Addr)(s:Int)(r:LS)(h:okS s):be 0 r9 aP (.pin l [.int s]::r)=aa (.int (cN s).2,.pin l [.int (cN s).1]::r):=A0 (toD:=D.int) (λs h=>Oo l s h) s r h
def Go(l:Addr)(ks:List (LN×L2N))(kn:L2N)(N:ks.length<=100)(hk:kn.length<=100)(hn:kn.Nodup)(most:Int)(hm:0<=most/\most<=3)(s:Int)(Q:okS s):vM l [] [.lst (ks.map kdD),.lst (kn.map sT),.int most] [.int s]=aa ([.int (cJ ks kn most s).1],.lst ((cJ ks kn most s).2.map prD)):=by
 have d6:=bJ s (k:=6) (by decide);have Y:=bJ (nx s) (k:=2) (by decide);obtain⟨_,J,t⟩:=A6 ks most s hm.1
 have w:wp se [.pin l [.int s],.im (.lst (ks.map kdD)),.im (.lst (kn.map sT)),.im (.int most),.no,.no,.no] (λo=>∃B c g,o=.rtS (.lst ((cJ ks kn most s).2.map prD)) [.pin l [.int (cJ ks kn most s).1],.im (.lst (ks.map kdD)),.im (.lst (kn.map sT)),.im (.int most),B,c,g]):=by
  unfold se;apply ao;refine e7 rfl ?_;show wp _ [.pin l [.int s],.im (.lst (ks.map kdD)),.im (.lst (kn.map sT)),.im (.int most),.own [],.no,.no] _
  have G:(mX2 jE (l5 rg (aE (mX (ae 3)) (aE (mX2 cT (mX2 qC (be 0 m_0 (aE (mX (kI 6)) aP)) (mX (kI 2))) (be 0 m_0 (aE (mX (kI 2)) aP))) aP))) (mX (gg (m2 dGt (aJ bE (af (ae 1) nZ)) (kI 0))))) [.pin l [.int s],.im (.lst (ks.map kdD)),.im (.lst (kn.map sT)),.im (.int most),.own [],.no,.no]=aa (.int (prN ks most s:Nat),[.pin l [.int (nx (nx s))],.im (.lst (ks.map kdD)),.im (.lst (kn.map sT)),.im (.int most),.own [],.no,.no]):=by
   have j:gg (m2 dGt (aJ bE (af (ae 1) nZ)) (kI 0)) [.pin l [.int (nx (nx s))],.im (.lst (ks.map kdD)),.im (.lst (kn.map sT)),.im (.int most),.own [],.no,.no]=aa (.int (if decide (0<ks.length) then 1 else 0)):=by
    unfold gg;rw[ap (aN (ah rfl rfl) (dL ks kdD)) rfl (wz _)];rfl
   refine c5 (A3 (ds:=[.int most,.int (dr s 6 / 2+dr (nx s) 2)]) (d:=.int (if dr s 6 / 2+dr (nx s) 2<most then dr s 6 / 2+dr (nx s) 2 else most)) (bg (aQ rfl) (bg (c5 (c5 (dD l s 6 _ rfl Q (by decide)) (aQ rfl) (yB ⟨by decide,by decide⟩)) (dD l (nx s) 2 _ rfl (bG _) (by decide)) gZ) rfl)) rfl) (aQ j) ?_
   rw[lW (.inr ⟨by split <;> lia,by split <;> decide⟩)]
   congr 2
   unfold prN
   by_cases h:0<ks.length
   .rw[if_pos h,decide_eq_true h,if_pos rfl,Int.mul_one,Int.toNat_of_nonneg (by split <;> lia)]
   .rw[if_neg h,decide_eq_false h,show(if ag=ac then (1:Int) else 0)=0 from rfl,Int.mul_zero];rfl
  refine k7 (λρ=>∃c g,ρ=[.pin l [.int (cJ ks kn most s).1],.im (.lst (ks.map kdD)),.im (.lst (kn.map sT)),.im (.int most),.own ((cJ ks kn most s).2.map prD),c,g]) ?_ ?_
  .refine uS (sn G (by lia) (by lia)) ?_;rw[gP];refine cM (cp (prN ks most s)) (λi=>D.int i) (λpre ρ=>∃c g,ρ=[.pin l [.int (itN (prS ks kn) pre.length (nx (nx s),[])).1],.im (.lst (ks.map kdD)),.im (.lst (kn.map sT)),.im (.int most),.own ((itN (prS ks kn) pre.length (nx (nx s),[])).2.map prD),c,g]) rfl ⟨_,_,rfl⟩ ?_ ?_
   .rintro pre i post ρ M ⟨c,g,rfl⟩;refine⟨_,rfl,?_⟩
    have r:pre.length<prN ks most s:=by
     have:=congrArg fB M;rw[dH,aM,bT]at this;lia
    have u:0<ks.length:=by
     rcases Nat.eq_zero_or_pos ks.length with z |z
     .rw[t (pS.mp z)]at r;lia
     .exact z
    obtain⟨C,T,U⟩:=pG (I:=nU (ks.map (·.1)) kn) (λn p v=>A5 u n p v) (p:=(nx (nx s),[])) ⟨bG _,⟨by simpa using hn,λ_ z=>(b6 z).elim,λ_ z=>(b6 z).elim⟩,aU _⟩ pre.length;rw[aM,show([i]:LN).length=1 from rfl];show wp _ _ λo=>_;generalize v:itN (prS ks kn) pre.length (nx (nx s),[])=p at C T U;have A:itN (prS ks kn) (pre.length+1) (nx (nx s),[])=prS ks kn p:=by rw[<- v];rfl
    rw[A];obtain⟨v1,_⟩:=F5 p.1;apply ao;refine fI (Oz l p.1 _ C) ?_;show wp _ [.pin l [.int (dM p.1).1],.im (.lst (ks.map kdD)),.im (.lst (kn.map sT)),.im (.int most),.own (p.2.map prD),.im (.int i),.im (sT (dM p.1).2)] _
    have H:bf (gw (ae 2) (bf (bQ 1 [] (ak 4) (aF 0) kY (mIx (ak 0) (kI 0))))) [.pin l [.int (dM p.1).1],.im (.lst (ks.map kdD)),.im (.lst (kn.map sT)),.im (.int most),.own (p.2.map prD),.im (.int i),.im (sT (dM p.1).2)]=aa (.lst ((kn++vrs p.2).map sT)):=by
     refine cY ((Gm (a:=kn.map sT) (b:=(vrs p.2).map sT) rfl (cY (wv (L:=p.2) (f:=prD) (q:=(·.1)) rfl λz=>⟨_,rfl⟩)) (by rw[au,au,au];lia)).trans ?_);rw[bp]
    unfold prS;refine aT (aL (ap rfl H (sr _ _))) (λe=>?_) λe=>bj ?_
    .have j:(dM p.1).2∉kn++vrs p.2:=by simpa using e
     rw[if_neg j];have E:=bJ (dM p.1).1 (k:=(ks.length:Nat)) (by lia);refine wt rfl (ko (bg (aQ rfl) (bg (c5 (c5 (aQ rfl) (dD l _ (ks.length:Nat) _ (aN (ah rfl rfl) (dL ks kdD)) v1 (by lia)) (pI (z:=([],[])) kdD E)) (aQ rfl) rfl) rfl))) rfl (by rw[au];lia) ⟨.im (.int i),.im (sT (dM p.1).2),?_⟩;rw[bp];rfl
    .have j:(dM p.1).2∈kn++vrs p.2:=by simpa using e
     rw[if_pos j];exact⟨_,_,rfl⟩
   .rintro ρ ⟨c,g,rfl⟩;rw[dH];exact k_J ⟨c,g,rfl⟩
  rintro _ ⟨c,g,rfl⟩;refine jD rfl ?_;exact jG rfl ⟨_,_,_,rfl⟩
 obtain⟨o,e,B,c,g,rfl⟩:=w;exact i8 e rfl
def OA(n:Int):u8 [.int n]=aa (.int (n.natAbs:Int)):=by
 show aa (D.int (if n<0 then -n else n))=_
 congr 2
 split <;> lia
variable{r:LS}
def thX(g:ff y)(l:Addr)(kn:L2N)(c:kn.length<=1000)(s:Int)(e:okS s)(ha:fa (.pin l [.int s]::r)=aa ([y.toD,.lst (kn.map sT)],.pin l [.int s]::r)):be 0 m_2 fa (.pin l [.int s]::r)=aa (kdD (thP y kn s).2,.pin l [.int (thP y kn s).1]::r):=g8 rfl ha rfl (Oy g l kn c s e)
def OB(B:ff y)(l:Addr)(kn:L2N)(ks:List (LN×L2N))(n:ks.length<=100)(I:kn.length<=100)(hn:kn.Nodup)(many:Int)(hm:0<many/\many<=3)(s:Int)(J:okS s):
  vN l [] [y.toD,.lst (kn.map sT),.lst (ks.map kdD),.int many] [.int s]=aa ([.int (dO y kn ks many s).1],.tup [.lst ((dO y kn ks many s).2.1.map dN),.lst ((dO y kn ks many s).2.2.map prD)]):=by
 obtain⟨E,Q,T⟩:=mn (ks:=ks) hn 2 s (by decide)
 have w:wp sh [.pin l [.int s],.im y.toD,.im (.lst (kn.map sT)),.im (.lst (ks.map kdD)),.im (.int many),.no,.no,.no,.no,.no] (λo=>∃t u v g h,o=.rtS (.tup [.lst ((dO y kn ks many s).2.1.map dN),.lst ((dO y kn ks many s).2.2.map prD)]) [.pin l [.int (dO y kn ks many s).1],.im y.toD,.im (.lst (kn.map sT)),.im (.lst (ks.map kdD)),.im (.int many),t,u,v,g,h]):=by
  unfold sh dO;apply ao;refine fI (g8 rfl (bg (aQ rfl) (bg (aQ rfl) (bg (aQ rfl) rfl))) rfl (Go l ks kn n I hn 2 (by decide) s J)) ?_;generalize cJ ks kn 2 s=q at E Q T;show wp _ [.pin l [.int q.1],.im y.toD,.im (.lst (kn.map sT)),.im (.lst (ks.map kdD)),.im (.int many),.im (.lst (q.2.map prD)),.no,.no,.no,.no] _;apply ao;refine cw (d:=.lst ((kn++vrs q.2).map sT)) (cY ((Gm (a:=kn.map sT) (b:=(vrs q.2).map sT) rfl (cY (wv (L:=q.2) (f:=prD) (q:=(·.1)) rfl λz=>⟨_,rfl⟩)) (by rw[au,au,au];lia)).trans (by rw[bp]))) ?_;have j:(kn++vrs q.2).length<=1000:=by rw[aM,au];lia
  generalize kn++vrs q.2=c at j;show wp _ [.pin l [.int q.1],.im y.toD,.im (.lst (kn.map sT)),.im (.lst (ks.map kdD)),.im (.int many),.im (.lst (q.2.map prD)),.im (.lst (c.map sT)),.no,.no,.no] _;apply ao;refine e7 rfl ?_;show wp _ [.pin l [.int q.1],.im y.toD,.im (.lst (kn.map sT)),.im (.lst (ks.map kdD)),.im (.int many),.im (.lst (q.2.map prD)),.im (.lst (c.map sT)),.own [],.no,.no] _;have Y:=bJ q.1 hm.1;refine k7 (λρ=>∃g h,ρ=[.pin l [.int (itP (itS y c) (1+dr q.1 many).toNat (nx q.1)).1],.im y.toD,.im (.lst (kn.map sT)),.im (.lst (ks.map kdD)),.im (.int many),.im (.lst (q.2.map prD)),.im (.lst (c.map sT)),.own ((itP (itS y c) (1+dr q.1 many).toNat (nx q.1)).2.map dN),g,h]) ?_ ?_
  .refine uS (sn (c5 (aQ rfl) (dD l q.1 many _ rfl E hm.1) gZ) (by lia) (by lia)) ?_;refine cM (cp (1+dr q.1 many).toNat) (λi=>D.int i) (λpre ρ=>∃g h,ρ=[.pin l [.int (itP (itS y c) pre.length (nx q.1)).1],.im y.toD,.im (.lst (kn.map sT)),.im (.lst (ks.map kdD)),.im (.int many),.im (.lst (q.2.map prD)),.im (.lst (c.map sT)),.own ((itP (itS y c) pre.length (nx q.1)).2.map dN),g,h]) rfl ⟨_,_,rfl⟩ ?_ ?_
   .rintro pre i post ρ H ⟨g,h,rfl⟩;refine⟨_,rfl,?_⟩;obtain⟨C,M⟩:=mm (F:=itS y c) (λs=>(A7 B s j).1) pre.length (nx q.1) (bG _)
    have A:pre.length<4:=by
     have:=congrArg fB H;rw[dH,aM,bT]at this;lia
    rw[aM,show([i]:LN).length=1 from rfl,A9];generalize itP (itS y c) pre.length (nx q.1)=p at C M;obtain⟨N,_⟩:=A2 p.1;have U:=bJ (cN p.1).1 (k:=2) (by decide)
    have G:fu (.lst [.int 1,.int ((cN p.1).2.natAbs:Int)]) (.int (dr (cN p.1).1 2))=aa (.int (if dr (cN p.1).1 2=0 then 1 else ((cN p.1).2.natAbs:Int))):=by
     rcases(show dr (cN p.1).1 2=0\/dr (cN p.1).1 2=1 by lia)with e |e
     .rw[e];rfl
     .rw[e];rfl
    apply ao;refine fI (c5 (F6 (bg (aQ rfl) (bg (A3 (bg (Gn l p.1 _ C) rfl) (OA _)) rfl))) (dD l _ 2 _ rfl N (by decide)) G) ?_;show wp _ [.pin l [.int (nx (cN p.1).1)],.im y.toD,.im (.lst (kn.map sT)),.im (.lst (ks.map kdD)),.im (.int many),.im (.lst (q.2.map prD)),.im (.lst (c.map sT)),.own (p.2.map dN),.im (.int i),.im (.int (if dr (cN p.1).1 2=0 then 1 else ((cN p.1).2.natAbs:Int)))] _;refine wt rfl (ko (bg (thX B l c j _ (bG _) (bg (aQ rfl) (bg (aQ rfl) rfl))) (bg (aQ rfl) rfl))) rfl (by rw[au];lia) ⟨.im (.int i),.im (.int (if dr (cN p.1).1 2=0 then 1 else ((cN p.1).2.natAbs:Int))),?_⟩;rw[bp];rfl
   .rintro ρ ⟨g,h,rfl⟩;rw[dH];exact k_J ⟨g,h,rfl⟩
  rintro _ ⟨g,h,rfl⟩;refine jD rfl ?_;exact jG rfl ⟨_,_,_,_,_,rfl⟩
 obtain⟨o,e,t,u,v,g,h,rfl⟩:=w;exact i8 e rfl
def OC(h:ff y)(l:Addr)(kn:L2N)(ks:List (LN×L2N))(c:ks.length<=100)(e:kn.length<=100)(hn:kn.Nodup)(many:Int)(hm:0<many/\many<=3)(s:Int)(g:okS s)(ha:fa (.pin l [.int s]::r)=aa ([y.toD,.lst (kn.map sT),.lst (ks.map kdD),.int many],.pin l [.int s]::r)):
  be 0 vN fa (.pin l [.int s]::r)=aa (.tup [.lst ((dO y kn ks many s).2.1.map dN),.lst ((dO y kn ks many s).2.2.map prD)],.pin l [.int (dO y kn ks many s).1]::r):=g8 rfl ha rfl (OB h l kn ks c e hn many hm s g)
def OE(g:ff y)(l:Addr)(kn:L2N)(ks:List (LN×L2N))(u:ks.length<=100)(T:kn.length<=100)(hn:kn.Nodup)(s:Int)(hs:okS s):
  m_5 l [] [y.toD,.lst (kn.map sT),.lst (ks.map kdD)] [.int s]=aa ([.int (fg y kn ks s).1],(fg y kn ks s).2.toD):=by
 obtain⟨p1,p2,p3,p4⟩:=g.p;have d6:=bJ s (k:=6) (by decide);have h:=bG s
 have w:wp b_5 [.pin l [.int s],.im y.toD,.im (.lst (kn.map sT)),.im (.lst (ks.map kdD)),.no,.no,.no,.no,.no,.no] (λo=>∃C E G H I J L M N,o=.rtS (fg y kn ks s).2.toD [.pin l [.int (fg y kn ks s).1],C,E,G,H,I,J,L,M,N]):=by
  unfold b_5 fg;apply ao;refine fI (dD l s 6 _ rfl hs (by decide)) ?_;generalize dr s 6=v at d6;generalize nx s=s1 at h;show wp _ [.pin l [.int s1],.im y.toD,.im (.lst (kn.map sT)),.im (.lst (ks.map kdD)),.im (.int v),.no,.no,.no,.no,.no] _;apply ao;refine aT (b:=decide (v=0)) (aL (ap rfl rfl (j3 v 0))) (λe=>?_) λe=>bj ?_
  .have e:=of_decide_eq_true e;rw[if_pos e];unfold unS;apply ao;refine cw (d:=.lst ((kn++y.p).map sT)) (ap rfl (am rfl rfl rfl) ?_) ?_
   .show(if (kn.map sT).length+(y.p.map sT).length<=16777216 then aa (D.lst (kn.map sT++y.p.map sT)) else ab)=_;rw[if_pos (by rw[au,au];lia),bp]
   have hsd:0<(kn++y.p).length:=by rw[aM];lia
   have j:=(Gi g (kn:=kn) s1).1;have ds:=bJ s1 (k:=((kn++y.p).length:Nat)) (by lia);have n2:=bG s1;show wp _ [.pin l [.int s1],.im y.toD,.im (.lst (kn.map sT)),.im (.lst (ks.map kdD)),.im (.int v),.im (.lst ((kn++y.p).map sT)),.no,.no,.no,.no] _;apply ao;refine fI (c5 (aQ rfl) (dD l s1 ((kn++y.p).length:Nat) _ (aN (ah rfl rfl) (dL (kn++y.p) sT)) h (by lia)) (pI (z:=[]) sT ds)) ?_;show wp _ [.pin l [.int (nx s1)],.im y.toD,.im (.lst (kn.map sT)),.im (.lst (ks.map kdD)),.im (.int v),.im (.lst ((kn++y.p).map sT)),.im (sT (dh (kn++y.p) [] (dr s1 ((kn++y.p).length:Nat)))),.no,.no,.no] _;refine k7 (λρ=>ρ=[.pin l [.int (unO y kn s1).1],.im y.toD,.im (.lst (kn.map sT)),.im (.lst (ks.map kdD)),.im (.int v),.im (.lst ((kn++y.p).map sT)),.im (sT (unO y kn s1).2),.no,.no,.no]) ?_ ?_
   .unfold unO
    by_cases c:kn=[]
    .rw[if_pos c];refine pz (Gk (tX1 (aL (ap (aN (ah rfl rfl) (dL kn sT)) rfl ((wz _).trans (by rw[c];rfl)))))) (λe=>nomatch e) λ_=>bj (k_J rfl)
    .rw[if_neg c];have t:=lz.mpr c;refine pz (b:=decide (0<dr (nx s1) 4)) (Gj (tX1 (aL (ap (aN (ah rfl rfl) (dL kn sT)) rfl ((wz _).trans (by rw[decide_eq_true t]))))) (bxX (c5 (dD l (nx s1) 4 _ rfl n2 (by decide)) (aQ rfl) i4))) (λe=>?_) λe=>?_
     .rw[if_pos (of_decide_eq_true e)];exact fI (c5 (aQ rfl) (dD l (nx (nx s1)) (kn.length:Nat) _ (aN (ah rfl rfl) (dL kn sT)) (bG _) (by lia)) (pI (z:=[]) sT (bJ _ (by lia)))) (k_J rfl)
     .rw[if_neg (of_decide_eq_false e)];exact bj (k_J rfl)
   rintro _ rfl;generalize unO y kn s1=q at j;obtain⟨s2,one⟩:=q;have j:okS s2:=j;have n:=bJ s2 (k:=((kn++y.p).length:Nat)) (by lia);apply ao;refine fI (c5 (aQ rfl) (dD l s2 ((kn++y.p).length:Nat) _ (aN (ah rfl rfl) (dL (kn++y.p) sT)) j (by lia)) (pI (z:=[]) sT n)) ?_;dsimp only;generalize dh (kn++y.p) [] (dr s2 ((kn++y.p).length:Nat))=A;have Y:=bG s2;generalize nx s2=B at Y;show wp _ [.pin l [.int B],.im y.toD,.im (.lst (kn.map sT)),.im (.lst (ks.map kdD)),.im (.int v),.im (.lst ((kn++y.p).map sT)),.im (sT one),.im (sT A),.no,.no] _;apply ao;refine pz (b:=decide (dr B 2=0)) (bxX (c5 (dD l B 2 _ rfl Y (by decide)) (aQ rfl) (j3 _ _))) (λe=>?_) λe=>bj ?_
   .rw[if_pos (of_decide_eq_true e)];exact jG rfl ⟨_,_,_,_,_,_,_,_,_,rfl⟩
   .rw[if_neg (of_decide_eq_false e)];exact jG rfl ⟨_,_,_,_,_,_,_,_,_,rfl⟩
  have e1:=of_decide_eq_false e;rw[if_neg e1];apply ao;refine aT (b:=decide (v<3)) (aL (ap rfl rfl uK)) (λe=>?_) λe=>bj ?_
  .have e:=of_decide_eq_true e;rw[if_pos e];unfold ctS;apply ao;refine Fb (OC g l kn ks u T hn 2 (by decide) s1 h (bg (aQ rfl) (bg (aQ rfl) (bg (aQ rfl) (bg (aQ rfl) rfl))))) rfl ?_;obtain⟨U,_⟩:=wx g ks hn T (many:=2) (by decide) s1;generalize dO y kn ks 2 s1=q at U;show wp _ [.pin l [.int q.1],.im y.toD,.im (.lst (kn.map sT)),.im (.lst (ks.map kdD)),.im (.int v),.no,.no,.no,.im (.lst (q.2.1.map dN)),.im (.lst (q.2.2.map prD))] _;refine ml (d:=Pa.toD (.ct (decide (v % 2=0)) (cN q.1).2 q.2.1 q.2.2)) (ko (bg (d:=.str (if decide (v % 2=0) then "least" else "most")) (aQ (am rfl (ap rfl rfl (lT (by decide))) ?_)) (bg (Gn l q.1 _ U) (bg (aQ rfl) (bg (aQ rfl) rfl))))) ⟨_,_,_,_,_,_,_,_,_,rfl⟩
   rcases(show v % 2=0\/v % 2=1 by lia)with z |z
   .rw[z];rfl
   .rw[z];rfl
  .have e:=of_decide_eq_false e;rw[if_neg e];obtain⟨t1,t2,_⟩:=kr g (kn:=kn) s1 (by lia);have Q:=thX g l kn (by lia) s1 h (r:=[.im y.toD,.im (.lst (kn.map sT)),.im (.lst (ks.map kdD)),.im (.int v),.no,.no,.no,.no,.no]) (fa:=aE (mX (ae 1)) (aE (mX (ae 2)) aP)) (bg (aQ rfl) (bg (aQ rfl) rfl))
   by_cases z:v=4
   .rw[if_pos z];exact ml (d:=Pa.toD (.no (thP y kn s1).2)) (ko (bg (d:=.str "not") (aQ (am rfl (ap rfl rfl k6) (by rw[z];rfl))) (bg Q rfl))) ⟨_,_,_,_,_,_,_,_,_,rfl⟩
   .rw[if_neg z]
    exact ml (d:=Pa.toD (.is (thP y kn s1).2)) (ko (bg (d:=.str "is") (aQ (am rfl (ap rfl rfl k6) (by rcases(show v=3\/v=5 by lia)with z |z <;> (rw[z];rfl)))) (bg Q rfl))) ⟨_,_,_,_,_,_,_,_,_,rfl⟩
 obtain⟨o,e,C,E,G,H,I,J,L,M,N,rfl⟩:=w;exact i8 e rfl
def OF(t:ff y)(l:Addr)(kn:L2N)(ks:List (LN×L2N))(j:ks.length<=100)(n:kn.length<=100)(hn:kn.Nodup)(s:Int)(u:okS s):
  Al l [] [y.toD,.lst (kn.map sT),.lst (ks.map kdD)] [.int s]=aa ([.int (gh y kn ks s).1],.lst ((gh y kn ks s).2.map Pa.toD)):=by
 have z:=bJ s (k:=4) (by decide)
 have g:∀(c:Sl) d s,okS s->lj 1 [0,1,2,3] 0 0 (aF 0) (be 1 m_5 (aE (mX (ae 2)) (aE (mX (ae 3)) (aE (mX (ae 4)) aP)))) [c,.im y.toD,.im (.lst (kn.map sT)),.im (.lst (ks.map kdD))] l d [.int s]=aa ((fg y kn ks s).2.toD,[.int (fg y kn ks s).1]):=λc d s h=>by
  unfold lj;show(aa [Sl.im d,Sl.pin l [.int s],.im y.toD,.im (.lst (kn.map sT)),.im (.lst (ks.map kdD))]).bind _=_;rw[ax,g8 (i:=1) (ρ1:=[.im d,.pin l [.int s],.im y.toD,.im (.lst (kn.map sT)),.im (.lst (ks.map kdD))]) rfl (bg (aQ rfl) (bg (aQ rfl) (bg (aQ rfl) rfl))) rfl (OE t l kn ks j n hn s h),ax];refine if_pos λi hi=>?_
  cases i with
  |zero=>nomatch hi
  |succ i=>rfl
 have loop:∀(c:Sl) (ds:LD) (s:Int),okS s->gL 1 [0,1,2,3] 0 0 (aF 0) (be 1 m_5 (aE (mX (ae 2)) (aE (mX (ae 3)) (aE (mX (ae 4)) aP)))) [c,.im y.toD,.im (.lst (kn.map sT)),.im (.lst (ks.map kdD))] l ds [.int s]=aa ((itP (fg y kn ks) ds.length s).2.map Pa.toD,[.int (itP (fg y kn ks) ds.length s).1]):=λc ds=>by
  induction ds with
  |nil=>intro s _;rfl
  |cons d ds v=>
   intro s h;unfold gL;rw[g c d s h,ax,v _ (A8 t ks hn n s).1];rfl
 have w:wp si [.pin l [.int s],.im y.toD,.im (.lst (kn.map sT)),.im (.lst (ks.map kdD))] (λo=>o=.rtS (.lst ((gh y kn ks s).2.map Pa.toD)) [.pin l [.int (gh y kn ks s).1],.im y.toD,.im (.lst (kn.map sT)),.im (.lst (ks.map kdD))]):=by
  unfold si gh;refine ml (ρ1:=[.pin l [.int (itP (fg y kn ks) (dr s 4).toNat (nx s)).1],.im y.toD,.im (.lst (kn.map sT)),.im (.lst (ks.map kdD))]) ?_ rfl;unfold kc;rw[sn (dD l s 4 _ rfl u (by decide)) (by lia) (by lia),ax];show(if ((cp (dr s 4).toNat).map λ(i:Nat)=>D.int i).length<=16777216/\_[0]?=aa 0/\_=ac then (gL 1 [0,1,2,3] 0 0 _ _ _ l _ _).map λq=>_ else ab)=_;have p:((cp (dr s 4).toNat).map λ(i:Nat)=>D.int i).length=(dr s 4).toNat:=by rw[au,dH]
  rw[if_pos ⟨by rw[p];lia,rfl,rfl⟩,loop _ _ (nx s) (bG s),p];rfl
 obtain⟨o,e,rfl⟩:=w;exact i8 e rfl
def OG{f:Xa}(h:f ρ=aa (ds,ρ1))(e:D.tup ds=d):g6 f ρ=aa (d,ρ1):=by
 rw[ko h,e]
def OH(n:ff y)(l:Addr)(ks:List (LN×L2N))(g:ks.length<=100)(s:Int)(hs:okS s):Am l [] [y.toD,.lst (ks.map kdD)] [.int s]=aa ([.int (gi y ks s).1],(gi y ks s).2.toD):=by
 have w:wp sj [.pin l [.int s],.im y.toD,.im (.lst (ks.map kdD)),.no,.no,.no,.no] (λo=>∃C E G H I J,o=.rtS (gi y ks s).2.toD [.pin l [.int (gi y ks s).1],C,E,G,H,I,J]):=by
  unfold sj gi;obtain⟨p,M,B⟩:=mn (ks:=ks) (kn:=[]) f7 3 s (by decide);apply ao;refine fI (d:=.lst ((cJ ks [] 3 s).2.map prD)) (g8 (i:=0) (ρ1:=[.pin l [.int s],.im y.toD,.im (.lst (ks.map kdD)),.no,.no,.no,.no]) rfl (bg (aQ rfl) (bg (aQ rfl) (bg (aQ rfl) rfl))) rfl (Go l ks [] g (by simp) f7 3 (by decide) s hs)) ?_;generalize cJ ks [] 3 s=q at p M B;obtain⟨s1,ps⟩:=q;have p:okS s1:=p;have B:ps.length<=3:=B;have hn:(vrs ps).Nodup:=by simpa using M.nd
  have L:(vrs ps).length<=100:=by rw[au];lia
  show wp _ [.pin l [.int s1],.im y.toD,.im (.lst (ks.map kdD)),.im (.lst (ps.map prD)),.no,.no,.no] _;apply ao;refine cw (d:=.lst ((vrs ps).map sT)) (cY (wv (f:=prD) (q:=(·.1)) (bA rfl rfl) (λz=>⟨_,rfl⟩) (by lia))) ?_;show wp _ [.pin l [.int s1],.im y.toD,.im (.lst (ks.map kdD)),.im (.lst (ps.map prD)),.im (.lst ((vrs ps).map sT)),.no,.no] _;have Y:=OF n l (vrs ps) ks g L hn s1 p;obtain⟨h,N,u⟩:=wy n ks hn L s1;apply ao;refine fI (d:=.lst ((gh y (vrs ps) ks s1).2.map Pa.toD)) (g8 (i:=0) (ρ1:=[.pin l [.int s1],.im y.toD,.im (.lst (ks.map kdD)),.im (.lst (ps.map prD)),.im (.lst ((vrs ps).map sT)),.no,.no]) rfl (bg (aQ rfl) (bg (aQ rfl) (bg (aQ rfl) rfl))) rfl Y) ?_;dsimp only;generalize gh y (vrs ps) ks s1=Q at h N u;obtain⟨s2,bd⟩:=Q;have h:okS s2:=h;have u:bd.length<=3:=u;show wp _ [.pin l [.int s2],.im y.toD,.im (.lst (ks.map kdD)),.im (.lst (ps.map prD)),.im (.lst ((vrs ps).map sT)),.im (.lst (bd.map Pa.toD)),.no] _;have T:=bJ s2 (k:=3) (by decide);have A:=bG s2;apply ao;refine fI (dD l s2 3 _ rfl h (by decide)) ?_;unfold pJ;dsimp only;generalize dr s2 3=v at T;generalize nx s2=c at A;show wp _ [.pin l [.int c],.im y.toD,.im (.lst (ks.map kdD)),.im (.lst (ps.map prD)),.im (.lst ((vrs ps).map sT)),.im (.lst (bd.map Pa.toD)),.im (.int v)] _;apply ao;refine aT (b:=decide (v=0)) (aL (ap rfl rfl (j3 v 0))) (λe=>?_) λe=>bj ?_
  .have e:=of_decide_eq_true e;rw[if_pos e];have d2:=bJ c (k:=2) (by decide);have j:=thX n l (vrs ps) (by lia) (nx c) (bG _) (r:=[.im y.toD,.im (.lst (ks.map kdD)),.im (.lst (ps.map prD)),.im (.lst ((vrs ps).map sT)),.im (.lst (bd.map Pa.toD)),.im (.int v)]) (fa:=aE (mX (ae 1)) (aE (mX (ae 4)) aP)) (bg (aQ rfl) (bg (aQ rfl) rfl));generalize thP y (vrs ps) (nx c)=t at j
   have U:fu (.lst [.str "is",.str "not"]) (.int (dr c 2))=aa (.str (if dr c 2=0 then "is" else "not")):=by
    rcases(show dr c 2=0\/dr c 2=1 by lia)with z |z <;> (rw[z];rfl)
   refine ml (d:=Ro.toD (.never (bd++[if dr c 2=0 then Pa.is t.2 else Pa.no t.2]) ps)) (ko (bg (aQ rfl) (bg (c5 (aQ rfl) (F6 (bg (d:=Pa.toD (if dr c 2=0 then Pa.is t.2 else Pa.no t.2)) (OG (bg (c5 (aQ rfl) (dD l c 2 _ rfl A (by decide)) U) (bg j rfl)) ?_) rfl)) ?_) (bg (aQ rfl) rfl)))) ⟨_,_,_,_,_,_,rfl⟩
   .split <;> rfl
   .show(if (bd.map Pa.toD).length+1<=16777216 then aa (D.lst (bd.map Pa.toD++[_])) else ab)=_;rw[if_pos (by rw[au];lia),bp];rfl
  .have e:=of_decide_eq_false e;rw[if_neg e];have j:=thX n l (vrs ps) (by lia) c A (r:=[.im y.toD,.im (.lst (ks.map kdD)),.im (.lst (ps.map prD)),.im (.lst ((vrs ps).map sT)),.im (.lst (bd.map Pa.toD)),.im (.int v)]) (fa:=aE (mX (ae 1)) (aE (mX (ae 4)) aP)) (bg (aQ rfl) (bg (aQ rfl) rfl));refine ml (d:=Ro.toD (.rule (decide (v=2)) (thP y (vrs ps) c).2 bd ps)) (ko (bg (d:=.str (if decide (v=2) then "rule" else "may")) (aQ (am rfl (ap rfl rfl k6) ?_)) (bg j (bg (aQ rfl) (bg (aQ rfl) rfl))))) ⟨_,_,_,_,_,_,rfl⟩
   rcases(show v=1\/v=2 by lia)with z |z <;> (rw[z];rfl)
 obtain⟨o,e,C,E,G,H,I,J,rfl⟩:=w;exact i8 e rfl
open NumText PySem.Builtin PySem.Builtin.Str
nonrec abbrev asc(w:LN):Prop:=w.all (· < 128)=ac
variable{w:LN}
def OI(h:asc w):(tx w).cps.all (· < 128)=ac:=by
 simpa using h
def OJ(x:Nat)(c:LN):inS ⟨#[x]⟩ (tx c)=decide (x∈c):=StrLaws.found_one _ x
def Gp(w:LN)(h:w.length<=1000):bE [.str (tx w)]=aa (.int (w.length:Int)):=by
 show(if (tx w).length<=16777216 then aa _ else ab)=_;rw[fX,if_pos (by lia)]
def OK{f:MF1}(h:f ρ=aa (.str (tx w)))(ha:asc w):o0 f ρ=aa (w.map λx=>D.str ⟨#[x]⟩):=by
 unfold o0;rw[h,ax];show(if (tx w).cps.all (· < 128)=ac then aa _ else ab)=_;rw[if_pos (OI ha)]
def Gq(bs:List Bool):qT [.lst (bs.map D.bl)]=aa (.bl (bs.all id)):=by
 have:∀l:List Bool,gK (l.map D.bl)=aa l:=by
  intro l
  induction l with
  |nil=>rfl
  |cons a l c=>rw[cS];unfold gK;rw[c];rfl
 show((gK _).map λbs=>D.bl _)=_;rw[this];rfl
def Gr(w c:LN)(most:Nat)(j:w.length<=1000)(ha:asc w):vS [.str (tx w),.str (tx c),.int (most:Int)]=aa (.bl (made w c most)):=by
 apply cn;show wp _ [.im _,.im _,.im _] _;refine c8 ?_ (cP rfl);refine lR ?_ ?_
 .have:=D7 (f:=λ_=>aa (.int 1)) (g:=aJ bE (af (ae 0) nZ)) (h:=ae 2) (ρ:=[.im _,.im (.str (tx c)),.im (.int most)]) rfl (aN rfl (Gp w j)) uL rfl uL;rw[this]
  congr 3 <;> exact decide_eq_decide.mpr (by lia)
 .have e:bQ 1 [1] (o0 (ae 0)) (aF 0) kY (m2 o4 (ae 0) (ae 1)) [.im (.str (tx w)),.im (.str (tx c)),.im (.int most)]=aa ((w.map λx=>decide (x∈c)).map D.bl):=by
   rw[map_map];exact gY w _ (λx=>D.bl _) (OK rfl ha) (by lia) λx _=>gu rfl rfl (ap rfl rfl (show aa _=_ by rw[OJ]))
  refine aN (ah (cY e) rfl) ?_;rw[Gq,all_map];rfl
def Gs(w:LN)(i:Int)(h:0<=i/\i<=w.length):ic (tx w) (aa i) ab=tx (w.drop i.toNat):=by
 have:=StrLaws.sliceText_from (x:=tx w) ⟨h.1,h.2⟩;show StrLaws.sliceText _ _ ab=_;rw[this]
 congr 2
 show(w.drop i.toNat).take _=_;rw[jk (by rw[lB];show _<=(w.length-i).toNat;lia)]
def OL(w:LN)(i:Int)(h:(w.length:Int)<=i):ic (tx w) (aa i) ab=tx (w.drop i.toNat):=by
 have e:xk (aa i) ab 1 (tx w).length=xk (aa ((tx w).length:Int)) ab 1 (tx w).length:=by
  have o:=fX w;have g:¬i<0:=by lia
  have j:¬(((tx w).length:Nat):Int)<0:=by lia
  have n:min i (((tx w).length:Nat):Int)=((tx w).length:Nat):=by lia
  simp[xk,g,j,n]
 have c:ic (tx w) (aa i) ab=ic (tx w) (aa w.length) ab:=by
  unfold ic;rw[e,fX]
 rw[c,Gs w _ ⟨by lia,by lia⟩,drop_of_length_le (by lia),drop_of_length_le (by lia)]
def OM(w:LN)(i:Int)(h:0<=i):ic (tx w) (aa i) ab=tx (w.drop i.toNat):=by
 by_cases hi:i<=w.length
 .exact Gs w i ⟨h,hi⟩
 .exact OL w i (by lia)
def ON(w:LN)(j:Int)(h:0<=j/\j<=w.length):ic (tx w) ab (aa j)=tx (w.take j.toNat):=by
 have:=StrLaws.sliceText_to (x:=tx w) ⟨h.1,h.2⟩;show StrLaws.sliceText _ ab _=_;rw[this];simp
def OO(w:LN):ic (tx w) ab (aa 1)=tx (w.take 1):=by
 cases w with
 |nil=>rfl
 |cons a w=>exact ON _ 1 ⟨by decide,by rw[bT];lia⟩
def OP(w:LN)(lo hi:Option Int)(h:w.length<=1000):u4 (.str (tx w)) lo hi=aa (.str (ic (tx w) lo hi)):=by
 show(if (tx w).length<=16777216 then aa _ else ab)=_;rw[fX,if_pos (by lia)]
variable{l h:LS->Option (Option Int)}
def Gu{f:MF1}{lo hi:Option Int}{r:Str}(c:f ρ=aa (.str (tx w)))(e:l ρ=aa lo)(g:h ρ=aa hi)(n:w.length<=1000)(j:ic (tx w) lo hi=r):o5 f l h ρ=aa (.str r):=by
 unfold o5;rw[c,ax,e,ax,g,ax,OP w lo hi n,j]
def Gv{a b:LN}(h:asc b)(c:a ⊆ b):asc a:=all_eq_true.mpr λx e=>all_eq_true.mp h x (c e)
def OQ(w:LN)(c:w.length<=1000)(ha:asc w):At [.str (tx w)]=aa (.bl (km w)):=by
 apply cn;refine c8 (lR ?_ (DD ?_ ?_)) (cP rfl)
 .exact aN (ah (Gu rfl rfl rfl c (OO w)) (ah rfl (ah rfl rfl))) (Gr _ grL 1 (by rw[hJ];lia) (Gv ha (take_subset _ _)))
 .refine ap (aN rfl (Gp w c)) rfl ((j3 _ _).trans ?_)
  congr 2
  by_cases e:w.length=1
  .rw[e];rfl
  .rw[decide_eq_false e];exact beq_eq_false_iff_ne.mpr (by lia)
 .exact aN (ah (Gu rfl rfl rfl c (OM w 1 (by decide))) (ah rfl (ah rfl rfl))) (Gr _ smL 7 (by rw[lB];lia) (Gv ha (drop_subset _ _)))
def Gw:∀x∈smL,x<128:=by decide +kernel
def OR:∀x∈grL,x<128:=by decide +kernel
def sv(h:fY w=ac):w.length<=8/\∀x∈w,x∈smL:=by
 unfold fY made at h;simp only[di,decide_eq_true_eq]at h;exact⟨h.1.1.2,λx c=>of_decide_eq_true (all_eq_true.mp h.1.2 x c)⟩
def OS:∀x∈grL,x∉smL:=by decide +kernel
def OU(h:fY w=ac):km w=ag:=by
 obtain⟨_,e⟩:=sv h
 have c:1<=w.length:=by
  unfold fY made at h;simp only[di,decide_eq_true_eq]at h;exact h.1.1.1
 match w,c with
 |x::w,_=>
  rw[Bool.eq_false_iff];intro z;unfold km made at z;simp only[di,decide_eq_true_eq]at z;have:=of_decide_eq_true (all_eq_true.mp z.1.2 x (by simp));exact OS x this (e x bK)
def OV(h:fY w=ac):asc w:=all_eq_true.mpr λx c=>decide_eq_true (Gw x ((sv h).2 x c))
def Gy(h:km w=ac):w.length<=8/\∀x∈w,x∈grL\/x∈smL:=by
 unfold km made at h;simp only[di,kz,decide_eq_true_eq]at h;obtain⟨j,c⟩:=h
 match w with
 | []=>exact⟨by simp,λx g=>(b6 g).elim⟩
 |x::w=>
  have g:=of_decide_eq_true (all_eq_true.mp j.2 x (by simp))
  rcases c with c |c
  .have:w=[]:=pS.mp (by rw[bT]at c;lia);subst this;exact⟨by simp,λz hz=>by rw[ca.mp hz];exact .inl g⟩
  .have n:w.length<=7:=c.1.2;refine⟨by rw[bT];lia,λz hz=>?_⟩
   rcases b8.mp hz with e |e
   .rw[e];exact .inl g
   .exact .inr (of_decide_eq_true (all_eq_true.mp c.2 z e))
def OW(h:km w=ac):asc w:=all_eq_true.mpr λx c=>decide_eq_true (((Gy h).2 x c).elim (OR x) (Gw x))
def OX(ws:L2N):(ws.map tx).Nodup↔ws.Nodup:=by
 rw[pQ,pQ,pairwise_map];exact⟨λh=>h.imp λh e=>h (by rw[e]),λh=>h.imp λh e=>h (mj e)⟩
variable{ws:L2N}
def Gz{f:MF1}(h:f ρ=aa (.lst (ws.map sT)))(c:ws.length<4000):ma f ρ=aa (.int (iE (ws.map tx):Nat)):=by
 refine MD (xs:=ws.map tx) ?_ (by rw[au];exact c);rw[h,map_map];rfl
def GA(ws:L2N):decide (((iE (ws.map tx):Nat):Int)<(ws.length:Nat))=!decide ws.Nodup:=by
 have g:=E7 (ws.map tx);have c:=ME (ws.map tx);rw[au,OX]at c;rw[au]at g
 by_cases h:ws.Nodup
 .rw[decide_eq_true h,c.mpr h];simp
 .rw[decide_eq_false h];exact decide_eq_true (by have:iE (ws.map tx)≠ws.length:=λe=>h (c.mp e);lia)
def OY(ws:L2N)(c:ws.length<4000):mB (m2 dLt (ma (ae 0)) (aJ bE (af (ae 0) nZ))) [.im (.lst (ws.map sT))]=aa (!decide ws.Nodup):=by
 refine aL (ap (Gz rfl c) (aN (ah rfl rfl) (dL ws sT)) ?_);rw[uK,GA]
def GB(ws:L2N)(h:ws.Nodup)(c:ws.length<4000):vQ [.lst (ws.map sT)]=aa .non:=by
 apply cn;refine aT (OY ws c) (λe=>?_) λ_=>bj ⟨_,rfl,rfl⟩;rw[decide_eq_true h]at e
 nomatch e
def pL{c:Type}{f:c->D}{q:c->LN}{L:List c}(h:fi ρ=aa (L.map f))(g:∀x,∃r,f x=.tup [sT (q x),r])(hz:L.length<=1000):bQ 2 [] fi (dg (bu (aF 0) (bu (aF 1) da))) kY (ae 0) ρ=aa ((L.map q).map sT):=by
 rw[map_map];refine gY L f (sT ∘ q) h (by lia) λz _=>?_;obtain⟨r,e⟩:=g z;rw[e];exact gu rfl rfl rfl
def GC{c:Type}(f:c->D)(a b:List c)(h:a.length+b.length<=1000):cT (.lst (a.map f)) (.lst (b.map f))=aa (.lst ((a++b).map f)):=by
 show(if (a.map f).length+(b.map f).length<=16777216 then aa (D.lst (a.map f++b.map f)) else ab)=_;rw[if_pos (by rw[au,au];lia),bp]
def GD(ks:List (LN×L2N))(c ps:List Pr)(h:iG (ks.map (·.1)) (vrs c) ps)(v:c.length+ps.length<=100)(u:ks.length<=1000):vR [.lst (ps.map prD),.lst (c.map prD),.lst (ks.map kdD)]=aa .non:=by
 apply cn;show wp _ [.im (.lst (ps.map prD)),.im (.lst (c.map prD)),.im (.lst (ks.map kdD)),.no,.no,.no] _;apply ao;have t:vrs (c++ps)=vrs c++vrs ps:=bp;refine j4 (aN (ah (cY (pL (L:=c++ps) (f:=prD) (q:=(·.1)) (bA (ap rfl rfl (GC prD c ps (by lia))) rfl) (λz=>⟨_,rfl⟩) (by rw[aM];lia))) rfl) (GB _ (by show(vrs (c++ps)).Nodup;rw[t];exact h.nd) (by rw[au,aM];lia))) ?_;apply ao;refine cw (cY (pL (L:=ks) (f:=kdD) (q:=(·.1)) (bA rfl rfl) (λz=>⟨_,rfl⟩) (by lia))) ?_;show wp _ [.im (.lst (ps.map prD)),.im (.lst (c.map prD)),.im (.lst (ks.map kdD)),.no,.no,.im (.lst ((ks.map (·.1)).map sT))] _;refine cM ps prD (λ_ ρ=>∃g j,ρ=[.im (.lst (ps.map prD)),.im (.lst (c.map prD)),.im (.lst (ks.map kdD)),g,j,.im (.lst ((ks.map (·.1)).map sT))]) (bA rfl rfl) ⟨_,_,rfl⟩ ?_ ?_
 .rintro pre p post ρ n ⟨g,j,rfl⟩;refine⟨_,rfl,?_⟩;have o:p∈ps:=by rw[n];simp
  refine aT (aL (ap rfl rfl (sr p.2 _))) (λe=>?_) λ_=>bj ⟨_,_,rfl⟩;rw[decide_eq_true (h.kd p o)]at e
  nomatch e
 .rintro ρ ⟨g,j,rfl⟩;exact⟨_,rfl,rfl⟩
def OZ(c:L2N)(ps:List Pr)(h:∀w∈c,iF (vrs ps) w)(n:∀p∈ps,km p.1=ac)(v:ps.length<=100):Av [.lst (c.map sT),.lst (ps.map prD)]=aa .non:=by
 apply cn;show wp _ [.im (.lst (c.map sT)),.im (.lst (ps.map prD)),.no,.no] _;apply ao;refine cw (cY (pL (L:=ps) (f:=prD) (q:=(·.1)) (bA rfl rfl) (λz=>⟨_,rfl⟩) (by lia))) ?_;show wp _ [.im (.lst (c.map sT)),.im (.lst (ps.map prD)),.im (.lst ((vrs ps).map sT)),.no] _;refine cM c sT (λ_ ρ=>∃g,ρ=[.im (.lst (c.map sT)),.im (.lst (ps.map prD)),.im (.lst ((vrs ps).map sT)),g]) (bA rfl rfl) ⟨_,rfl⟩ ?_ ?_
 .rintro pre w post ρ t ⟨g,rfl⟩;refine⟨_,rfl,?_⟩;have o:=h w (by rw[t];simp)
  have u:w.length<=8/\asc w:=by
   rcases o with z |z
   .obtain⟨p,j,rfl⟩:=cq.mp z;exact⟨(Gy (n p j)).1,OW (n p j)⟩
   .exact⟨(sv z).1,OV z⟩
  refine aT (b:=km w && !decide (w∈vrs ps)) (qS (dZ (aN (ah rfl rfl) (OQ w (by lia) u.2)) rfl) (aL (ap rfl rfl (sr w _)))) (λe=>?_) λ_=>bj ⟨_,rfl⟩
  rcases o with z |z
  .rw[decide_eq_true z,Bool.not_true,Bool.and_false]at e;nomatch e
  .rw[OU z]at e;nomatch e
 .rintro ρ ⟨g,rfl⟩;exact⟨_,rfl,rfl⟩
def O0{f:MF1}(h:f ρ=aa (.lst ds))(h':ρ[i]?=aa (.own xs))(c:xs.length+ds.length<=16777216):j1 i (j0 f) ρ=aa (.nx (ρ.set i (.own (xs++ds)))):=by
 unfold j1 j0;rw[h]
 show((match ρ[i]? with |some (.own xs)=>_ | _=>_):Option Fl)=_
 rw[h'];exact if_pos c
def sw{f:MF1}(h:f ρ=aa (.lst ds))(h':ρ[i]?=aa (.own xs))(c:xs.length+ds.length<=16777216)(k:K (.nx (ρ.set i (.own (xs++ds))))):wp (j1 i (j0 f)) ρ K:=⟨_,O0 h h' c,k⟩
@[reducible]noncomputable def Us:=L2N×List Pr
@[reducible]noncomputable def usD(u:Us):D:=.tup [.lst (u.1.map sT),.lst (u.2.map prD)]
abbrev ku(its:List Ti):L2N:=its.flatMap λz=>z.1.2
abbrev paU:Pa->Us
 |.is t=>(t.2,[])
 |.no t=>(t.2,[])
 |.un a b=>([a,b],[])
 |.ct _ _ its ov=>(ku its,ov)
abbrev roU:Ro->List Us
 |.kind _ _=>[]
 |.rule _ t bd _=>bd.map paU++[(t.2,[])]
 |.choose _ _ its ov bd _=>bd.map paU++[(ku its,ov)]
 |.never bd _=>bd.map paU
abbrev roP:Ro->List Pr
 |.kind _ _=>[]
 |.rule _ _ _ ps=>ps
 |.choose _ _ _ _ _ ps=>ps
 |.never _ ps=>ps
abbrev roB:Ro->List Pa
 |.kind _ _=>[]
 |.rule _ _ bd _=>bd
 |.choose _ _ _ _ bd _=>bd
 |.never bd _=>bd
abbrev PaS:Pa->Prop
 |.is t=>t.2.length<=100
 |.no t=>t.2.length<=100
 |.un _ _=>True
 |.ct _ _ its _=>its.length<=100/\∀z∈its,z.1.2.length<=100
abbrev RoS:Ro->Prop
 |.kind _ ns=>ns.length<=100
 |.rule _ t bd _=>t.2.length<=100/\bd.length<=100/\∀p∈bd,PaS p
 |.choose _ _ its _ bd _=>(its.length<=100/\∀z∈its,z.1.2.length<=100)/\bd.length<=100/\∀p∈bd,PaS p
 |.never bd _=>bd.length<=100/\∀p∈bd,PaS p
def O1{its:List Ti}(h:∀z∈its,z.1.2.length<=100):(ku its).length<=100*its.length:=by
 unfold ku
 induction its with
 |nil=>simp
 |cons z its e=>
  rw[iJ,aM,bT];have g:=h z bK;have j:=e λx c=>h x (cB _ c);lia
def GE(its:List Ti)(o:its.length<=100)(h:∀z∈its,z.1.2.length<=100):vT [.lst (its.map dN)]=aa (.lst ((ku its).map sT)):=by
 apply cn;show wp _ [.im (.lst (its.map dN)),.no,.no,.no] _;apply ao;refine e7 rfl ?_;show wp _ [.im (.lst (its.map dN)),.own [],.no,.no] _;apply ao;refine cM its dN (λpre ρ=>∃c g,ρ=[.im (.lst (its.map dN)),.own ((ku pre).map sT),c,g]) (bA rfl rfl) ⟨_,_,rfl⟩ ?_ ?_
 .rintro pre z post ρ j ⟨c,g,rfl⟩;refine⟨_,rfl,?_⟩;have hz:=h z (by rw[j];simp);have q:=O1 (its:=pre) λx n=>h x (by rw[j];simp[n])
  have p:pre.length<=100:=by
   have:=congrArg fB j;rw[aM]at this;lia
  refine sw (am rfl rfl rfl) rfl (by rw[au,au];lia) ⟨.im (kdD z.1),.im (.int z.2),?_⟩
  have e:ku (pre++[z])=ku pre++z.1.2:=by
   unfold ku;rw[eS];simp
  rw[e,bp];rfl
 .rintro ρ ⟨c,g,rfl⟩;exact⟨_,rfl,_,rfl,rfl⟩
def O2(p:Pa)(h:PaS p):vU [p.toD]=aa (usD (paU p)):=by
 apply cn;show wp _ [.im p.toD] _
 cases p with
 |is t=>
  apply ao;refine aT (b:=ag) (aL (ap (am rfl rfl rfl) rfl rfl)) (λe=>nomatch e) λ_=>bj ?_;apply ao;refine aT (b:=ag) (aL (ap (am rfl rfl rfl) rfl rfl)) (λe=>nomatch e) λ_=>bj ?_
  exact c8 (dG (ah (am (bA (am rfl rfl rfl) rfl) rfl rfl) (ah rfl rfl))) (cP rfl)
 |no t=>
  apply ao;refine aT (b:=ag) (aL (ap (am rfl rfl rfl) rfl rfl)) (λe=>nomatch e) λ_=>bj ?_;apply ao;refine aT (b:=ag) (aL (ap (am rfl rfl rfl) rfl rfl)) (λe=>nomatch e) λ_=>bj ?_
  exact c8 (dG (ah (am (bA (am rfl rfl rfl) rfl) rfl rfl) (ah rfl rfl))) (cP rfl)
 |un a b=>
  apply ao;refine aT (b:=ac) (aL (ap (am rfl rfl rfl) rfl rfl)) (λ_=>?_) λe=>nomatch e
  exact c8 (dG (ah (cY (ah (am rfl rfl rfl) (ah (am rfl rfl rfl) rfl))) (ah rfl rfl))) (cP rfl)
 |ct w n its ov=>
  apply ao
  refine aT (b:=ag) (aL (ap (am rfl rfl rfl) rfl (by cases w <;> rfl))) (λe=>nomatch e) λ_=>bj ?_
  apply ao
  refine aT (b:=ac) (aL (ap (am rfl rfl rfl) rfl (by cases w <;> rfl))) (λ_=>?_) λe=>nomatch e
  exact c8 (dG (ah (aN (ah (am rfl rfl rfl) rfl) (GE its h.1 h.2)) (ah (am rfl rfl rfl) rfl))) (cP rfl)
def O3(r:Ro)(o:∀n ns,r≠.kind n ns)(h:RoS r):Az [r.toD]=aa (.lst ((roU r).map usD)):=by
 have bd:∀(bd:List Pa) (ρ:LS) (fi:MF2),fi ρ=aa (bd.map Pa.toD)->bd.length<=100->(∀p∈bd,PaS p)->bQ 1 [] fi (aF 0) kY (aJ vU (af (ae 0) nZ)) ρ=aa ((bd.map paU).map usD):=λbd ρ fi g u j=>by
  rw[map_map];exact gY bd Pa.toD (usD ∘ paU) g (by lia) λp q=>gu rfl rfl (aN (ah rfl rfl) (O2 p (j p q)))
 apply cn;show wp _ [.im r.toD,.no] _
 cases r with
 |kind n ns=>exact absurd rfl (o n ns)
 |rule b t c ps=>
  apply ao;refine e7 (bd c _ _ (bA (am rfl rfl rfl) rfl) h.2.1 h.2.2) ?_;apply ao
  refine aT (b:=ag) (aL (ap (am rfl rfl rfl) rfl (by cases b <;> rfl))) (λe=>nomatch e) λ_=>?_
  refine aT (b:=ac) (aL (ap (am rfl rfl rfl) rfl (by cases b <;> rfl))) (λ_=>?_) λe=>nomatch e
  refine iz (dG (ah (am (bA (am rfl rfl rfl) rfl) rfl rfl) (ah rfl rfl))) rfl (by rw[au,au];have:=h.2.1;lia) ⟨_,rfl,_,rfl,?_⟩;show D.lst (_++[_])=_;unfold roU;rw[bp]
  rfl
 |choose lo hi its ov c ps=>
  apply ao;refine e7 (bd c _ _ (bA (am rfl rfl rfl) rfl) h.2.1 h.2.2) ?_;apply ao;refine aT (b:=ac) (aL (ap (am rfl rfl rfl) rfl rfl)) (λ_=>?_) λe=>nomatch e;refine iz (dG (ah (aN (ah (am rfl rfl rfl) rfl) (GE its h.1.1 h.1.2)) (ah (am rfl rfl rfl) rfl))) rfl (by rw[au,au];have:=h.2.1;lia) ⟨_,rfl,_,rfl,?_⟩;show D.lst (_++[_])=_;unfold roU;rw[bp]
  rfl
 |never c ps=>
  apply ao;refine e7 (bd c _ _ (bA (am rfl rfl rfl) rfl) h.1 h.2) ?_;apply ao;refine aT (b:=ag) (aL (ap (am rfl rfl rfl) rfl rfl)) (λe=>nomatch e) λ_=>?_;refine aT (b:=ag) (aL (ap (am rfl rfl rfl) rfl rfl)) (λe=>nomatch e) λ_=>bj ⟨_,rfl,_,rfl,rfl⟩
@[reducible]noncomputable def Kd:=LN×L2N
abbrev wA(K vs:L2N)(u:Us):Prop:=PsL K vs u.2/\∀w∈u.1,iF (vs++vrs u.2) w
variable{K vs:L2N}
def GF(h:vs.Nodup):PsL K vs []:=⟨⟨by simpa using h,λ_ z=>(b6 z).elim,λ_ z=>(b6 z).elim⟩,by decide⟩
variable{t:Th}
def thU(c:vs.Nodup)(h:jL vs t):wA K vs (t.2,[]):=⟨GF c,λw e=>by simpa using h w e⟩
variable{ov:List Pr}
def itU{its:List Ti}(h:PsL K vs ov/\∀z∈its,jL (vs++vrs ov) z.1):wA K vs (ku its,ov):=by
 refine⟨h.1,λw c=>?_⟩;obtain⟨z,hz,c⟩:=gB.mp c;exact h.2 z hz w c
def Ba(c:vs.Nodup):∀p:Pa,pK K vs p->wA K vs (paU p)
 |.is _,h=>thU c h
 |.no _,h=>thU c h
 |.un a b,h=>⟨GF c,λw g=>by
   rcases b8.mp g with e |e
   .rw[e];show iF (vs++[]) a;rw[cx];exact h.1
   .rw[ca.mp e];show iF (vs++[]) b;rw[cx];exact h.2⟩
 |.ct _ _ _ _,h=>itU h
def O4:∀r:Ro,su K r->PsL K [] (roP r)/\∀u∈roU r,wA K (vrs (roP r)) u
 |.rule _ t bd ps,h=>by
  have c:(vrs ps).Nodup:=by simpa using h.1.1.nd
  refine⟨h.1,λu j=>?_⟩
  rcases cC.mp j with e |e
  .obtain⟨p,g,rfl⟩:=cq.mp e;exact Ba c p (h.2.2 p g)
  .rw[ca.mp e];exact thU c h.2.1
 |.choose _ _ its ov bd ps,h=>by
  have c:(vrs ps).Nodup:=by simpa using h.1.1.nd
  refine⟨h.1,λu j=>?_⟩
  rcases cC.mp j with e |e
  .obtain⟨p,g,rfl⟩:=cq.mp e;exact Ba c p (h.2.2 p g)
  .rw[ca.mp e];exact itU h.2.1
 |.never bd ps,h=>by
  have c:(vrs ps).Nodup:=by simpa using h.1.1.nd
  refine⟨h.1,λu j=>?_⟩;obtain⟨p,g,rfl⟩:=cq.mp j;exact Ba c p (h.2 p g)
def Bb(r:Ro)(c:∀n ns,r≠.kind n ns)(ρ:LS):mIx (ak 0) (m1 fO (kI 1)) (.im r.toD::ρ)=aa (.lst ((roP r).map prD)):=by
 cases r with
 |kind n ns=>exact absurd rfl (c n ns)
 |rule b t bd ps=>exact am rfl rfl rfl
 |choose lo hi its ov bd ps=>exact am rfl rfl rfl
 |never bd ps=>exact am rfl rfl rfl
def O5(ks:List Kd)(r:Ro)(h:su (ks.map (·.1)) r)(B:RoS r)(q:ks.length<=1000):vV [r.toD,.lst (ks.map kdD)]=aa .non:=by
 have hn:∀n ns,r≠.kind n ns:=λn ns e=>by subst e;exact h
 obtain⟨j,v⟩:=O4 r h;have G:=j.2;apply cn;show wp _ [.im r.toD,.im (.lst (ks.map kdD)),.no,.no] _;apply ao;refine j4 (aN (ah (Bb r hn _) (ah rfl (ah rfl rfl))) (GD ks [] (roP r) j.1 (by rw[oh];lia) q)) ?_;refine cM (roU r) usD (λ_ ρ=>∃c g,ρ=[.im r.toD,.im (.lst (ks.map kdD)),c,g]) (bA (aN (ah rfl rfl) (O3 r hn B)) rfl) ⟨_,_,rfl⟩ ?_ ?_
 .rintro pre u post ρ z ⟨c,g,rfl⟩;refine⟨_,rfl,?_⟩;obtain⟨o,E⟩:=v u (by rw[z];simp);have H:=o.2;apply ao;refine j4 (aN (ah rfl (ah (Bb r hn _) (ah rfl rfl))) (GD ks (roP r) u.2 o.1 (by lia) q)) ?_;refine j4 (aN (ah rfl (ah (ap (Bb r hn _) rfl (GC prD (roP r) u.2 (by lia))) rfl)) (OZ u.1 (roP r++u.2) (λw C=>?_) (λp A=>?_) (by rw[aM];lia))) ⟨_,_,rfl⟩
  .rw[show vrs (roP r++u.2)=vrs (roP r)++vrs u.2 from bp];exact E w C
  .exact(cC.mp A).elim (j.1.vr p) (o.1.vr p)
 .rintro ρ ⟨c,g,rfl⟩;exact⟨_,rfl,rfl⟩
def O6(ks:List Kd)(n:LN)(c:Sl)(e:ks.length<=1000):mB (m2 dIn (ae 2) (bf (bQ 2 [] (bh (ae 1)) (dg (bu (aF 0) (bu (aF 1) da))) kY (ae 0)))) [c,.im (.lst (ks.map kdD)),.im (sT n)]=aa (decide (n∈ks.map (·.1))):=
 aL (ap rfl (cY (pL (L:=ks) (f:=kdD) (q:=(·.1)) (bA rfl rfl) (λz=>⟨_,rfl⟩) e)) (inW n _))
def O7(ks:List Kd)(n:LN)(ns:L2N)(h:n∉ks.map (·.1))(hn:ns.Nodup)(g:ns.length<4000)(c:ks.length<=1000):vW [Ro.toD (.kind n ns),.lst (ks.map kdD)]=aa .non:=by
 apply cn;show wp _ [.im (Ro.toD (.kind n ns)),.im (.lst (ks.map kdD)),.no] _;apply ao;refine cw (d:=sT n) (am rfl rfl rfl) ?_;show wp _ [.im (Ro.toD (.kind n ns)),.im (.lst (ks.map kdD)),.im (sT n)] _;apply ao;refine aT (O6 ks n _ c) (λe=>absurd (of_decide_eq_true e) h) λ_=>bj ?_;exact j4 (aN (ah (am rfl rfl rfl) rfl) (GB ns hn g)) ⟨_,rfl,rfl⟩
abbrev iH:Ro->List Kd
 |.kind n ns=>[(n,ns)]
 | _=>[]
abbrev aG(rs:List Ro):List Kd:=rs.flatMap iH
def Bc(rs:List Ro):(aG rs).length<=rs.length:=by
 unfold aG
 induction rs with
 |nil=>simp
 |cons r rs c=>
  rw[iJ,aM,bT]
  have:(iH r).length<=1:=by cases r <;> simp[iH]
  lia
abbrev wB(ks:List Kd):Ro->Prop
 |.kind n ns=>n∉ks.map (·.1)/\ns.Nodup
 |r=>su (ks.map (·.1)) r
def O8(r:Ro)(a b:Sl):mB (m2 dEq (mIx (ak 2) (kI 0)) (kSt "kind")) [a,b,.im r.toD]=aa (match r with |.kind _ _=>ac | _=>ag):=by
 cases r with
 |kind n ns=>exact aL (ap (am rfl rfl rfl) rfl rfl)
 |rule b t bd ps=>exact aL (ap (am rfl rfl rfl) rfl (by cases b <;> rfl))
 |choose lo hi its ov bd ps=>exact aL (ap (am rfl rfl rfl) rfl rfl)
 |never bd ps=>exact aL (ap (am rfl rfl rfl) rfl rfl)
def Bd{m:LD->OD}{f:MF2}(h:f ρ=aa ds)(e:m ds=aa .non):i5 m f ρ=aa .non:=by
 unfold i5;rw[h,ax,e];rfl
abbrev Be(rs:List Ro):Prop:=∀pre r post,rs=pre++r::post->wB (aG pre) r/\RoS r
def Bf(pre:List Ro)(r:Ro):aG (pre++[r])=aG pre++iH r:=by
 unfold aG;rw[eS,pT]
def O9(a:Sl)(ks:List Kd)(r:Ro)(h:wB ks r)(g:RoS r)(c:ks.length<=1000):wp (bx (mB (m2 dEq (mIx (ak 2) (kI 0)) (kSt "kind"))) (aq (gc (i5 vW (af (ae 2) (af (fo 1) nZ))))
  (ge 1 (cg (af (mIx (ak 2) (kI 1)) (af (bf (bh (mIx (ak 2) (kI 2)))) nZ))))) (gc (i5 vV (af (ae 2) (af (fo 1) nZ))))) [a,.own (ks.map kdD),.im r.toD] (λo=>o=.nx [a,.own ((ks++iH r).map kdD),.im r.toD]):=by
 refine aT (O8 r _ _) (λe=>?_) λe=>?_
 .cases r with
  |kind n ns=>
   apply ao;refine j4 (Bd (ah rfl (ah rfl rfl)) (O7 ks n ns h.1 h.2 (by have:ns.length<=100:=g;lia) c)) ?_;refine iz (d:=kdD (n,ns)) (dG (ah (am rfl rfl rfl) (ah (cY (bA (am rfl rfl rfl) rfl)) rfl))) rfl (by rw[au];lia) ?_;show Fl.nx [a,.own (ks.map kdD++[kdD (n,ns)]),_]=Fl.nx [a,.own ((ks++[(n,ns)]).map kdD),_];rw[bp]
   rfl
  |rule b t bd ps=>nomatch e
  |choose lo hi its ov bd ps=>nomatch e
  |never bd ps=>nomatch e
 .have hn:iH r=[]/\su (ks.map (·.1)) r:=by
   cases r with
   |kind n ns=>nomatch e
   |rule b t bd ps=>exact⟨rfl,h⟩
   |choose lo hi its ov bd ps=>exact⟨rfl,h⟩
   |never bd ps=>exact⟨rfl,h⟩
  refine j4 (Bd (ah rfl (ah rfl rfl)) (O5 ks r hn.2 g c)) ?_;rw[hn.1,cx]
def Pb(rs:List Ro)(h:Be rs)(p:rs.length<=1000):AC [.lst (rs.map Ro.toD)]=aa (.lst ((aG rs).map kdD)):=by
 apply cn;unfold vX;show wp _ [.im (.lst (rs.map Ro.toD)),.no,.no] _;apply ao;refine e7 (d:=[]) rfl ?_;show wp _ [.im (.lst (rs.map Ro.toD)),.own [],.no] _;apply ao;refine cM rs Ro.toD (λpre ρ=>∃c,ρ=[.im (.lst (rs.map Ro.toD)),.own ((aG pre).map kdD),c]) (bA rfl rfl) ⟨_,rfl⟩ ?_ ?_
 .rintro pre r post ρ g ⟨c,rfl⟩;refine⟨_,rfl,?_⟩;obtain⟨j,n⟩:=h pre r post g;have q:pre.length<=rs.length:=by rw[g,aM];lia
  have:=Bc pre;obtain⟨o,e,rfl⟩:=O9 (.im (.lst (rs.map Ro.toD))) (aG pre) r j n (by lia);exact⟨_,e,_,by rw[Bf]⟩
 .rintro ρ ⟨c,rfl⟩;exact nG rfl (j5 rfl)
abbrev gM{c:Type}(F:List (List c))(ns:List c):List (List c):=F.flatMap λw=>ns.map λn=>w++[n]
abbrev d5{c:Type}(S:List (List c)):List (List c):=S.foldl gM [[]]
abbrev nV{c:Type}(d:c):List (List c)->Nat->List c
 | [],_=>[]
 |ns::R,i=>nV d R (i / ns.length)++[ns.getD (i % ns.length) d]
abbrev tot{c:Type}(S:List (List c)):Nat:=S.foldl (λt ns=>t*ns.length) 1
def sx{e:Type}(ns:List e):∀F:List (List e),(gM F ns).length=F.length*ns.length
 | []=>by simp[gM]
 |w::F=>by
  have c:=sx ns F;unfold gM at c ⊢;rw[iJ,aM,c,au,bT,oj,Nat.add_comm]
def GG{e:Type}(d:e)(ns:List e)(hn:0<ns.length):∀(F:List (List e)) (i:Nat) (w:List e),F[i / ns.length]?=aa w->(gM F ns)[i]?=aa (w++[ns.getD (i % ns.length) d])
 | [],i,w,h=>by simp at h
 |v::F,i,w,h=>by
  unfold gM;rw[iJ]
  by_cases hi:i<ns.length
  .rw[mx (by rw[au];exact hi),eM,cR hi,Nat.mod_eq_of_lt hi];rw[Nat.div_eq_of_lt hi]at h;cases h;rw[gy,cR hi];rfl
  .have c:ns.length<=i:=sX hi;rw[jO (by rw[au];exact c),au];have g:=GG d ns hn F (i-ns.length) w;unfold gM at g;rw[<- Nat.mod_eq_sub_mod c]at g;apply g;have:i / ns.length=(i-ns.length) / ns.length+1:=by rw[Nat.div_eq_sub_div hn c]
   rw[this]at h;exact h
def mo{c:Type}(S:List (List c))(ns:List c):d5 (S++[ns])=gM (d5 S) ns:=by unfold d5;rw[mD];rfl
def Bg{c:Type}(S:List (List c))(ns:List c):tot (S++[ns])=tot S*ns.length:=by unfold tot;rw[mD];rfl
def GH{e:Type}(R:List (List e)):(d5 R.reverse).length=tot R.reverse:=by
 induction R with
 |nil=>rfl
 |cons ns R c=>rw[gQ,mo,Bg,sx,c]
def Pc{c:Type}(d:c)(R:List (List c))(hR:∀ns∈R,0<ns.length):∀i,i<tot R.reverse->(d5 R.reverse)[i]?=aa (nV d R i):=by
 induction R with
 |nil=>
  intro i hi;have:i=0:=by unfold tot at hi;simp at hi;exact hi
  subst this
  rfl
 |cons ns R e=>
  intro i hi;rw[gQ,Bg]at hi;have hn:=hR ns bK;rw[gQ,mo];exact GG d ns hn _ i _ (e (λm hm=>hR m (cB _ hm)) (i / ns.length) ((Nat.div_lt_iff_lt_mul hn).mpr hi))
def Bh{c:Type}(f:c->LN)(g:c->D)(w:LN):∀L:List c,iA (L.map λx=>(iS (tx (f x)):Key)) (L.map g) (.inr (tx w))=(L.find? λx=>decide (f x=w)).map g
 | []=>rfl
 |x::L=>by
  have j:=Bh f g w L;unfold iA at j ⊢;rw[cS,cS,mC,og,og]
  by_cases e:f x=w
  .rw[decide_eq_true (show(iS (tx (f x)):Key)=.inr (tx w) by rw[e]),decide_eq_true e];rfl
  .rw[decide_eq_false (λz=>e (mj (oB z))),decide_eq_false e];exact j
@[reducible]noncomputable def As:=List (LN×LN)
abbrev aK(n:As):List Key:=n.map λp=>.inr (tx p.1)
abbrev aV(n:As):LD:=n.map λp=>sT p.2
abbrev fQ(d:D)(n:As):Prop:=j8 d=aa (aK n,aV n)
abbrev nmF(n:As)(w:LN):LN:=((n.find? λp=>decide (p.1=w)).map (·.2)).getD w
variable{n:As}
def Pe(h:fQ d n)(w:LN):vf d (sT w) (sT w)=aa (sT (nmF n w)):=by
 unfold vf;rw[h,ax];show aa ((iA (aK n) (aV n) (.inr (tx w))).getD (sT w))=_;unfold aK aV nmF;rw[Bh (λp:LN×LN=>p.1) (λp=>sT p.2) w n]
 cases n.find? λp=>decide (p.1=w) <;> rfl
def wC{f g h:MF1}(c:f ρ=aa d)(e:g ρ=aa (sT w))(j:h ρ=aa (sT w))(ha:fQ d n):md f g h ρ=aa (sT (nmF n w)):=by
 unfold md;rw[c,ax,e,ax,j,ax];exact Pe ha w
abbrev dP(ks:List Kd):List Key:=ks.map λk=>.inr (tx k.1)
abbrev fA(ks:List Kd):LD:=ks.map λk=>.lst (k.2.map sT)
abbrev kOf(ks:List Kd)(k:LN):L2N:=((ks.find? λq=>decide (q.1=k)).map (·.2)).getD []
abbrev mq(d:D)(ks:List Kd):Prop:=j8 d=aa (dP ks,fA ks)
variable{ks:List Kd}
def Bi{k:LN}(h:k∈ks.map (·.1)):∃q,ks.find? (λq=>decide (q.1=k))=aa q/\kOf ks k=q.2/\q∈ks:=by
 obtain⟨q,g,e⟩:=cq.mp h
 cases c:ks.find? (λq=>decide (q.1=k))with
 |none=>exact absurd (sR.mp c q g) (by simpa using e)
 |some x=>exact⟨x,rfl,by unfold kOf;rw[c];rfl,mem_of_find?_eq_some c⟩
def Bj(h:mq d ks){k:LN}(g:k∈ks.map (·.1)):gf d (sT k)=aa (.lst ((kOf ks k).map sT)):=by
 obtain⟨q,c,e,_⟩:=Bi g;unfold gf;rw[h,ax];show iA (dP ks) (fA ks) (.inr (tx k))=_;unfold dP fA;rw[Bh (λq:Kd=>q.1) (λq=>D.lst (q.2.map sT)) k ks,c,e];rfl
def GI:∀ks:List Kd,li (ks.map kdD)=aa (dP ks,fA ks)
 | []=>rfl
 |k::ks=>by
  rw[cS];show((i3 (.str (tx k.1))).bind λy=>(li (ks.map kdD)).map λr=>(y::r.1,D.lst (k.2.map sT)::r.2))=_;rw[GI ks];rfl
def wD{c:Type}(f:c->LN)(L:List c)(h:(L.map f).Nodup):(L.map λx=>(iS (tx (f x)):Key)).Nodup:=by
 rw[pQ,pairwise_map]at h ⊢;exact h.imp λh e=>h (mj (oB e))
abbrev psN(ks:List Kd)(ps:List Pr):List L2N:=ps.map λp=>kOf ks p.2
structure PsK(ks:List Kd)(ps:List Pr):Prop where
 k:∀p∈ps,p.2∈ks.map (·.1)
 l:∀p∈ps,0<(kOf ks p.2).length/\(kOf ks p.2).length<=12
 n:ps.length<=3
def GJ:∀(S:List L2N),(∀ns∈S,ns.length<=12)->(d5 S.reverse).length<=12 ^ S.length
 | [],_=>aU _
 |ns::S,h=>by
  rw[gQ,mo,sx,bT,Nat.pow_succ];exact Nat.mul_le_mul (GJ S λm hm=>h m (cB _ hm)) (h ns bK)
def GK:∀(S:List L2N),∀w∈d5 S.reverse,w.length=S.length
 | [],w,hw=>by cases ca.mp hw;rfl
 |ns::S,w,hw=>by
  rw[gQ,mo]at hw;obtain⟨v,e,c⟩:=gB.mp hw;obtain⟨n,_,rfl⟩:=cq.mp c;rw[aM,GK S v e];rfl
variable{ps:List Pr}
def pM(h:PsK ks ps):(d5 (psN ks ps)).length<=1728/\∀w∈d5 (psN ks ps),w.length=ps.length:=by
 have c:=GJ (psN ks ps).reverse λm hm=>by
  obtain⟨p,j,rfl⟩:=cq.mp (kB.mp hm);exact(h.l p j).2
 have e:=GK (psN ks ps).reverse;rw[kA]at c e;have g:(psN ks ps).reverse.length=ps.length:=by unfold psN;rw[jP,au]
 rw[g]at c;refine⟨cV c (cV (sV (by decide) h.n) (by decide)),λw o=>(e w o).trans g⟩
def Bk{a b:List Pr}(h:PsK ks (a++b)):PsK ks a:=⟨λp c=>h.k p (cC.mpr (.inl c)),λp c=>h.l p (cC.mpr (.inl c)),by have:=h.n;rw[aM]at this;lia⟩
def Pf(nd:(ks.map (·.1)).Nodup)(J:ks.length<=1000)(h:PsK ks ps):m_9 [.lst (ps.map prD),.lst (ks.map kdD)]=aa (.lst ((d5 (psN ks ps)).map λw=>D.lst (w.map sT))):=by
 apply cn;unfold b_9;show wp _ [.im (.lst (ps.map prD)),.im (.lst (ks.map kdD)),.no,.no,.no,.no,.no,.no] _;apply ao
 have L:u6 2 (ae 1) [.im (.lst (ps.map prD)),.im (.lst (ks.map kdD)),.no,.no,.no,.no,.no,.no]=aa (.nx [.im (.lst (ps.map prD)),.im (.lst (ks.map kdD)),.ownd (dP ks) (fA ks),.no,.no,.no,.no,.no]):=by
  show((li (ks.map kdD)).bind λr=>if r.1.Nodup/\r.1.length<=1000 then aa (Fl.nx [.im (.lst (ps.map prD)),.im (.lst (ks.map kdD)),.ownd r.1 r.2,.no,.no,.no,.no,.no]) else ab)=_;rw[GI,ax,if_pos ⟨wD (λk:Kd=>k.1) ks nd,by unfold dP;rw[au];exact J⟩]
 refine nF L ?_;apply ao;refine yN (ks:=dP ks) (xs:=fA ks) rfl ?_;refine cw (d:=.lst ((d5 (psN ks [])).map λw=>D.lst (w.map sT))) rfl ?_;show wp _ [.im (.lst (ps.map prD)),.im (.lst (ks.map kdD)),.im (.kd (dP ks) (fA ks)),.im (.lst ((d5 (psN ks [])).map λw=>D.lst (w.map sT))),.no,.no,.no,.no] _;have e:mq (.kd (dP ks) (fA ks)) ks:=rfl;generalize D.kd (dP ks) (fA ks)=N at e;apply ao;refine cM ps prD (λpre ρ=>∃u v q c,ρ=[.im (.lst (ps.map prD)),.im (.lst (ks.map kdD)),.im N,.im (.lst ((d5 (psN ks pre)).map λw=>D.lst (w.map sT))),u,v,q,c]) (bA rfl rfl) ⟨_,_,_,_,rfl⟩ ?_ ?_
 .rintro pre p post ρ z ⟨u,v,q,c,rfl⟩;have B:p∈ps:=by rw[z];simp
  obtain⟨f1,f2⟩:=pM (Bk (z▸h));have o:pre.length<=3:=(Bk (z▸h)).n;have C:=Bj e (h.k p B);have j:=(h.l p B).2;have E:psN ks (pre++[p])=psN ks pre++[kOf ks p.2]:=by unfold psN;rw[bp];rfl
  rw[E,mo];generalize d5 (psN ks pre)=F at f1 f2;generalize kOf ks p.2=ns at C j;refine⟨_,rfl,?_⟩;show wp _ [.im (.lst (ps.map prD)),.im (.lst (ks.map kdD)),.im N,.im (.lst (F.map λw=>D.lst (w.map sT))),.im (sT p.1),.im (sT p.2),q,c] _;apply ao;refine e7 (d:=[]) rfl ?_;show wp _ [.im (.lst (ps.map prD)),.im (.lst (ks.map kdD)),.im N,.im (.lst (F.map λw=>D.lst (w.map sT))),.im (sT p.1),.im (sT p.2),.own [],c] _;apply ao;refine cM F (λw=>D.lst (w.map sT)) (λpre ρ=>∃c,ρ=[.im (.lst (ps.map prD)),.im (.lst (ks.map kdD)),.im N,.im (.lst (F.map λw=>D.lst (w.map sT))),.im (sT p.1),.im (sT p.2),.own ((gM pre ns).map λw=>D.lst (w.map sT)),c]) (bA rfl rfl) ⟨_,rfl⟩ ?_ ?_
  .rintro G w A ρ g ⟨c,rfl⟩;refine⟨_,rfl,?_⟩;have M:w.length<=3:=by rw[f2 w (by rw[g];simp)];exact o
   have H:G.length<=1728:=by have:=congrArg fB g;rw[aM]at this;lia
   have I:bQ 1 [7] (bh (m2 gf (ae 2) (ae 5))) (aF 0) kY (bf (gw (ae 1) (bf (af (ae 0) nZ)))) [.im (.lst (ps.map prD)),.im (.lst (ks.map kdD)),.im N,.im (.lst (F.map λw=>D.lst (w.map sT))),.im (sT p.1),.im (sT p.2),.own ((gM G ns).map λw=>D.lst (w.map sT)),.im (.lst (w.map sT))]=aa ((ns.map λn=>w++[n]).map λw=>D.lst (w.map sT)):=by
    rw[map_map];refine gY ns sT _ (bA (ap rfl rfl C) rfl) (by lia) λn _=>gu rfl rfl ?_;show(gw _ _ _).map D.lst=aa (D.lst ((w++[n]).map sT));unfold gw;show((if (w.map sT).length+1<=16777216 then aa (w.map sT++[sT n]) else ab):OLD).map D.lst=_;rw[if_pos (by rw[au];lia),bp];rfl
   refine sw (cY I) rfl (by rw[au,sx,au,au];have:=Nat.mul_le_mul H j;lia) ⟨.im (.lst (w.map sT)),?_⟩;have:gM (G++[w]) ns=gM G ns++ns.map λn=>w++[n]:=by unfold gM;rw[eS];simp
   rw[this,bp];rfl
  .rintro ρ ⟨c,rfl⟩;refine jD (ρ':=[.im (.lst (ps.map prD)),.im (.lst (ks.map kdD)),.im N,.im (.lst (F.map λw=>D.lst (w.map sT))),.im (sT p.1),.im (sT p.2),.im (.lst ((gM F ns).map λw=>D.lst (w.map sT))),c]) rfl ?_;exact cw (d:=.lst ((gM F ns).map λw=>D.lst (w.map sT))) rfl ⟨_,_,_,_,rfl⟩
 .rintro ρ ⟨u,v,q,c,rfl⟩;exact uM rfl (cP rfl)
abbrev nbw(ks:List Kd)(ps:List Pr)(n:As):List As:=(d5 (psN ks ps)).map λw=>n++(vrs ps).zip w
abbrev asD(n:As):D:=.dic (aK n) (aV n)
def Pg(vs w:L2N)(e:vs.length=w.length)(hn:vs.Nodup)(h:vs.length<=100):yZ [.lst (vs.map sT),.lst (w.map sT)]=aa (asD (vs.zip w)):=by
 have c:∀vs:L2N,pd (vs.map sT)=aa (vs.map λv=>(iS (tx v):Key)):=λvs=>by
  induction vs with
  |nil=>rfl
  |cons v vs j=>
   rw[cS];show((i3 (.str (tx v))).bind λk=>(pd (vs.map sT)).map λr=>k::r)=_;rw[j];rfl
 show(pd (vs.map sT)).bind _=_;rw[c,ax,if_pos ⟨wD (λv=>v) vs (by simpa using hn),by rw[au,au];exact e,by rw[au];lia⟩];unfold asD aK aV
 congr 2
 .have:=map_map (g:=λv=>(iS (tx v):Key)) (f:=Prod.fst) (l:=vs.zip w);rw[mF (by lia)]at this;exact this
 .have:=map_map (g:=sT) (f:=Prod.snd) (l:=vs.zip w);rw[map_snd_zip (by lia)]at this;exact this
def sy(n m:As):aK (n++m)=aK n++aK m:=bp
def Bl(n m:As):aV (n++m)=aV n++aV m:=bp
def GL(nd:(ks.map (·.1)).Nodup)(u:ks.length<=1000)(h:PsK ks ps)(hd:fQ d n)(hn:(n.map (·.1)++vrs ps).Nodup)(B:n.length<=100):v9 [.lst (ps.map prD),.lst (ks.map kdD),d]=aa (.lst ((nbw ks ps n).map asD)):=by
 apply cn;unfold v8;show wp _ [.im (.lst (ps.map prD)),.im (.lst (ks.map kdD)),.im d,.no,.no,.no,.no] _;have A:=h.n;apply ao;refine cw (cY (pL (L:=ps) (f:=prD) (q:=(·.1)) (bA rfl rfl) (λz=>⟨_,rfl⟩) (by lia))) ?_;apply ao;refine e7 (d:=[]) rfl ?_;show wp _ [.im (.lst (ps.map prD)),.im (.lst (ks.map kdD)),.im d,.im (.lst ((vrs ps).map sT)),.own [],.no,.no] _;obtain⟨f1,f2⟩:=pM h;apply ao;refine cM (d5 (psN ks ps)) (λw=>D.lst (w.map sT)) (λpre ρ=>∃e c,ρ=[.im (.lst (ps.map prD)),.im (.lst (ks.map kdD)),.im d,.im (.lst ((vrs ps).map sT)),.own ((pre.map λw=>n++(vrs ps).zip w).map asD),e,c]) (bA (aN (ah rfl (ah rfl rfl)) (Pf nd u h)) rfl) ⟨_,_,rfl⟩ ?_ ?_
 .rintro pre w post ρ j ⟨e,c,rfl⟩;refine⟨_,rfl,?_⟩;have v:(vrs ps).length=w.length:=by rw[au,f2 w (by rw[j];simp)]
  have o:pre.length<=1728:=by have:=congrArg fB j;rw[aM]at this;lia
  show wp _ [.im (.lst (ps.map prD)),.im (.lst (ks.map kdD)),.im d,.im (.lst ((vrs ps).map sT)),.own ((pre.map λw=>n++(vrs ps).zip w).map asD),.im (.lst (w.map sT)),c] _;apply ao;refine Fi rfl hd ?_;show wp _ [.im (.lst (ps.map prD)),.im (.lst (ks.map kdD)),.im d,.im (.lst ((vrs ps).map sT)),.own ((pre.map λw=>n++(vrs ps).zip w).map asD),.im (.lst (w.map sT)),.ownd (aK n) (aV n)] _;apply ao;have g:((vrs ps).zip w).map (·.1)=vrs ps:=mF (by lia)
  refine Fm (ks:=aK n) (xs:=aV n) (r:=(aK ((vrs ps).zip w),aV ((vrs ps).zip w))) rfl (by
   unfold vd;rw[ah rfl (ah rfl rfl),ax];exact Pg (vrs ps) w v (eG.mp hn).2.1 (by rw[au];lia)) rfl ?_ ?_ ?_
  .rw[<- sy];exact wD (λp:LN×LN=>p.1) _ (by rw[bp,g];exact hn)
  .unfold aK;rw[au,au,jQ,au];lia
  dsimp only;rw[<- sy,<- Bl];refine jD (ρ':=[.im (.lst (ps.map prD)),.im (.lst (ks.map kdD)),.im d,.im (.lst ((vrs ps).map sT)),.own ((pre.map λw=>n++(vrs ps).zip w).map asD),.im (.lst (w.map sT)),.im (asD (n++(vrs ps).zip w))]) rfl ?_;refine iz (d:=asD (n++(vrs ps).zip w)) rfl rfl (by rw[au,au];lia) ⟨.im (.lst (w.map sT)),.im (asD (n++(vrs ps).zip w)),?_⟩;rw[bp,bp];rfl
 .rintro ρ ⟨e,c,rfl⟩;exact nG rfl (j5 rfl)
abbrev jn(a:LN):L2N->LN
 | []=>[]
 | [x]=>x
 |x::y::r=>x++a++jn a (y::r)
def Ph(a:LN):∀ws:L2N,Txt.join (tx a) (ws.map tx)=tx (jn a ws):=by
 intro ws;show c9.Str.glued (tx a) (ws.map tx)=_;rw[StrLaws.glued_eq_join]
 induction ws with
 |nil=>rfl
 |cons x r c=>
  cases r with
  |nil=>rfl
  |cons y r=>
   show tx x++tx a++Str.join (tx a) ((y::r).map tx)=_;rw[c,nT,nT];rfl
abbrev nW(ws:L2N):Nat:=(ws.map fB).sum
def wE(a:LN):∀ws,(jn a ws).length<=nW ws+ws.length*a.length
 | []=>gD _
 | [x]=>by show x.length<=_;unfold nW;simp
 |x::y::r=>by
  have c:=wE a (y::r);show(x++a++jn a (y::r)).length<=_;rw[aM,aM];unfold nW at c ⊢;rw[cS,sum_cons,bT (a:=x),oj];lia
def wF(b:Nat):∀ws:L2N,(∀w∈ws,w.length<=b)->nW ws<=ws.length*b
 | [],_=>gD _
 |w::ws,h=>by
  have e:=wF b ws λx c=>h x (cB _ c);have g:=h w bK;unfold nW at e ⊢;rw[cS,sum_cons,bT,oj];lia
def Pi(a:LN)(ws:L2N)(ha:a.length<=16)(g:nW ws+ws.length<=100000):u9 (.str (tx a)) (.lst (ws.map sT))=aa (.str (tx (jn a ws))):=by
 have e:ws.map sT=(ws.map tx).map D.str:=by rw[map_map];rfl
 show(iD (ws.map sT)).bind (λc=>if PySem.JoinOk (tx a) c=ac then aa (D.str (xw (tx a) c)) else ab)=_;rw[e,ER,ax,if_pos,Ph];refine joinOk_of_weight ?_ (by rw[fX];exact ha);rw[map_map,au];have:(λx=>x.length) ∘ tx=fB:=funext λw=>fX w;rw[this];unfold nW at g;lia
def Bm(a b:LN)(h:a.length+b.length<=100000):cT (.str (tx a)) (.str (tx b))=aa (.str (tx (a++b))):=by
 show(if (tx a).length+(tx b).length<=16777216 then aa (D.str (tx a++tx b)) else ab)=_;rw[fX,fX,if_pos (by lia),nT]
def Pj(a b:LN)(h:a.length+b.length<=100000):rC (.str (tx a)) (.str (tx b))=aa (.str (tx (a++b))):=by
 show(if (tx a).length+(tx b).length<=16777216 then aa (D.str (tx a++tx b)) else ab)=_;rw[fX,fX,if_pos (by lia),nT]
def GM:∀(ws:L2N) (o:LN),jJ (tx o) (ws.map tx)=tx (ws.foldl (·++·) o)
 | [],_=>rfl
 |w::ws,o=>by
  show jJ (tx o++tx w) (ws.map tx)=_;rw[nT,GM ws (o++w)];rfl
def Pl{f:LS->Option LSt}{r:LN}(h:f ρ=aa (ws.map tx))(c:ws.foldl (·++·) []=r)(g:r.length<=100000):mFs f ρ=aa (.str (tx r)):=by
 have e:jJ oz (ws.map tx)=tx r:=by rw[<- c];exact GM ws []
 unfold mFs;rw[h,ax,e,fX,if_pos (by lia)]
variable{g:LS->Option LSt}{zs:LSt}
def GN{f:MF1}(h:f ρ=aa (.str (tx w)))(e:w.length<=100000)(c:g ρ=aa zs):mFv f g ρ=aa (tx w::zs):=by
 unfold mFv;rw[h,ax];show(if (tx w).length<=16777216 then aa (tx w) else ab).bind _=_;rw[fX,if_pos (by lia),ax,c];rfl
def GO{x:Str}(h:x=tx w)(c:g ρ=aa zs):mFc x g ρ=aa (tx w::zs):=by
 unfold mFc;rw[c,h];rfl
def Pm{a:LN}:∀{ws:L2N},ws≠[]->(∀w∈ws,0<w.length)->0<(jn a ws).length
 | [],h,_=>absurd rfl h
 | [x],_,h=>h x bK
 |x::y::r,_,h=>by
  show 0<(x++a++jn a (y::r)).length;have:=h x bK;rw[aM,aM];lia
def Pn(w:LN)(h:w.length<=100000):ui (.str (tx w))=aa (decide (0<w.length)):=by
 show(if (tx w).length<=16777216 then aa (((tx w).length:Int) != 0) else ab)=_;rw[fX,if_pos (by lia)]
 congr 1
 by_cases e:w.length=0
 .rw[e];rfl
 .rw[decide_eq_true (show 0<w.length by lia)];simp only[bne_iff_ne,ne_eq];lia
def cmT:(",":Str)=tx [44]:=by decide +kernel
def opT:("(":Str)=tx [40]:=by decide +kernel
def clT:(")":Str)=tx [41]:=by decide +kernel
abbrev thT(t:Th):LN:=if t.2=[] then t.1 else t.1++[40]++jn [44] t.2++[41]
abbrev tT(n:As)(t:Th):LN:=thT (t.1,t.2.map (nmF n))
structure Bo(t:Th):Prop where
 a:t.1.length<=8
 l:t.2.length<=3
 w:∀w∈t.2,0<w.length/\w.length<=8
abbrev kw(n:As)(t:Th):Prop:=Bo (t.1,t.2.map (nmF n))
def Po(h:Bo t):(thT t).length<=50:=by
 have j:=wE [44] t.2;have s:=wF 8 t.2 λw c=>(h.w w c).2;have a:=h.a;have l:=h.l;unfold thT;split
 .omega
 .simp only[aM,dR]at *;lia
def Pp(t:Th)(h:Bo t):AK [kdD t]=aa (sT (thT t)):=by
 have j:=wE [44] t.2;have s:=wF 8 t.2 λw c=>(h.w w c).2;have ha:=h.a;have o:=h.l;rw[dR]at j;apply cn;unfold wb;show wp _ [.im (kdD t),.no,.no] _;apply ao;refine cw (d:=sT t.1) (am rfl rfl rfl) ?_;show wp _ [.im (kdD t),.im (sT t.1),.no] _;apply ao;refine cw (d:=sT (jn [44] t.2)) (ap (x:=.str (tx [44])) (by rw[cmT]) (am rfl rfl rfl) (Pi [44] t.2 (by decide) (by lia))) ?_;show wp _ [.im (kdD t),.im (sT t.1),.im (sT (jn [44] t.2))] _;have tt:dz (ae 2) [.im (kdD t),.im (sT t.1),.im (sT (jn [44] t.2))]=aa (decide (0<(jn [44] t.2).length)):=dZ rfl (Pn _ (by lia));refine c8 (d:=sT (thT t)) ?_ (cP rfl);unfold vIf;rw[tt,ax]
 by_cases hn:t.2=[]
 .have e:jn [44] t.2=[]:=by rw[hn];rfl
  unfold thT;rw[if_pos hn,if_neg (by rw[e];decide)];rfl
 .rw[if_pos (decide_eq_true (Pm hn λw c=>(h.w w c).1))];refine Pl (ws:=[t.1,[40],jn [44] t.2,[41]]) (GN rfl (by lia) (GO opT (GN rfl (by lia) (GO clT rfl)))) ?_ ?_
  .unfold thT;rw[if_neg hn];simp
  .have:=Po h;lia
def GP(ha:fQ d n)(x:D)(ws:L2N)(c:ik x=aa (ws.map sT))(e:ws.length<=1000):v7 [x,d]=aa (.lst ((ws.map (nmF n)).map sT)):=by
 apply cn;show wp _ [.im x,.im d] _;rw[map_map];exact yA (gY ws sT (sT ∘ nmF n) (bA rfl c) (by lia) λw _=>gu rfl rfl (wC rfl rfl rfl ha)) (j5 rfl)
def wG(ha:fQ d n)(t:Th)(h:kw n t):py [kdD t,d]=aa (sT (tT n t)):=by
 apply cn;show wp _ [.im (kdD t),.im d] _;have c:=h.l;rw[au]at c;exact c8 (aN (ah (dG (ah (am rfl rfl rfl) (ah (aN (ah (am rfl rfl rfl) (ah rfl rfl)) (GP ha _ t.2 rfl (by lia))) rfl))) rfl) (Pp (t.1,t.2.map (nmF n)) h)) (cP rfl)
abbrev isU:Pa->Bool
 |.un _ _=>ac
 | _=>ag
abbrev sA(n:As):Pa->L2N
 |.un a b=>[nmF n a,nmF n b]
 | _=>[]
abbrev cD(n:As)(bd:List Pa):Bool:=bd.any λp=>match p with
 |.un a b=>decide (nmF n a=nmF n b)
 | _=>ag
def Pq(bs:List Bool):uH [.lst (bs.map D.bl)]=aa (.bl (bs.any id)):=by
 have:∀l:List Bool,gK (l.map D.bl)=aa l:=by
  intro l
  induction l with
  |nil=>rfl
  |cons a l c=>rw[cS];unfold gK;rw[c];rfl
 show((gK _).map λbs=>D.bl _)=_;rw[this];rfl
def wH(p:Pa)(ρ:LS):mB (m2 dEq (mIx (ak 0) (kI 0)) (kSt "unlike")) (.im p.toD::ρ)=aa (isU p):=by
 cases p with
 |is t=>exact aL (ap (am rfl rfl rfl) rfl rfl)
 |no t=>exact aL (ap (am rfl rfl rfl) rfl rfl)
 |un a b=>exact aL (ap (am rfl rfl rfl) rfl rfl)
 |ct w n its ov=>exact aL (ap (am rfl rfl rfl) rfl (by cases w <;> rfl))
def Bp(p:Pa)(ρ:LS):mB (m2 dNe (mIx (ak 0) (kI 0)) (kSt "unlike")) (.im p.toD::ρ)=aa (!isU p):=by
 cases p with
 |is t=>exact aL (ap (am rfl rfl rfl) rfl rfl)
 |no t=>exact aL (ap (am rfl rfl rfl) rfl rfl)
 |un a b=>exact aL (ap (am rfl rfl rfl) rfl rfl)
 |ct w n its ov=>exact aL (ap (am rfl rfl rfl) rfl (by cases w <;> rfl))
def eqT(a b:LN):dEq (sT a) (sT b)=aa (.bl (decide (a=b))):=by
 rw[show dEq (sT a) (sT b)=aa (.bl (tx a==tx b))from rfl]
 congr 2
 apply jh.mpr;rw[beq_iff_eq,decide_eq_true_eq];exact⟨mj,λe=>by rw[e]⟩
def Ps(ha:fQ d n)(bd:List Pa)(o:bd.length<=1000):AI [.lst (bd.map Pa.toD),d]=aa (.bl (cD n bd)):=by
 apply cn;show wp _ [.im (.lst (bd.map Pa.toD)),.im d,.no] _;apply ao;refine cw (d:=.lst ((bd.filter isU).map λp=>D.lst ((sA n p).map sT))) (cY (uD bd Pa.toD isU (λp=>D.lst ((sA n p).map sT)) (bA rfl rfl) (by lia) λp _=>?_)) ?_
 .cases p with
  |un a b=>
   refine gu rfl (wH (.un a b) _) (aN (ah (d:=.tup [sT a,sT b]) rfl (ah rfl rfl)) (GP ha _ [a,b] rfl (by simp)))
  |is t=>exact nz (b:=ag) (y:=.non) rfl (wH (.is t) _) λe=>nomatch e
  |no t=>exact nz (b:=ag) (y:=.non) rfl (wH (.no t) _) λe=>nomatch e
  |ct w k its ov=>exact nz (b:=ag) (y:=.non) rfl (wH (.ct w k its ov) _) λe=>nomatch e
 show wp _ [.im (.lst (bd.map Pa.toD)),.im d,.im (.lst ((bd.filter isU).map λp=>D.lst ((sA n p).map sT)))] _
 have j:bQ 2 [] (bh (ae 2)) (y4 (bu (aF 0) (bu (aF 1) da))) kY (m2 dEq (ae 0) (ae 1)) [.im (.lst (bd.map Pa.toD)),.im d,.im (.lst ((bd.filter isU).map λp=>D.lst ((sA n p).map sT)))]=aa (((bd.filter isU).map λp=>match p with |.un a b=>decide (nmF n a=nmF n b) | _=>ag).map D.bl):=by
  rw[map_map];refine gY (bd.filter isU) (λp=>D.lst ((sA n p).map sT)) _ (bA rfl rfl) (cV (pV _ _) (by lia)) λp q=>?_;have c:=(lC.mp q).2
  cases p with
  |un a b=>exact gu (ρ1:=[.im (sT (nmF n a)),.im (sT (nmF n b))]) rfl rfl (ap rfl rfl (eqT _ _))
  |is t=>nomatch c
  |no t=>nomatch c
  |ct w k its ov=>nomatch c
 refine c8 (aN (ah (cY j) rfl) (Pq _)) (cP ?_)
 congr 1
 unfold cD;rw[any_map];clear j o
 induction bd with
 |nil=>rfl
 |cons p bd u=>
  rw[iK,<- u]
  cases p with
  |un a b=>rw[sN rfl,iK];rfl
  |is t=>rw[lx (show ¬ag=ac from bZ)];rfl
  |no t=>rw[lx (show ¬ag=ac from bZ)];rfl
  |ct w k its ov=>rw[lx (show ¬ag=ac from bZ)];rfl
inductive PP where
 |i (t:LN)
 |o (t:LN)
 |c (w:Bool) (n:Int) (its:List (LN×Int))
@[reducible]noncomputable def tiD(z:LN×Int):D:=.tup [sT z.1,.int z.2]
@[reducible]noncomputable def PP.toD:PP->D
 |.i t=>.tup [.str "in",sT t]
 |.o t=>.tup [.str "out",sT t]
 |.c w n its=>.tup [.str (if w then "least" else "most"),.int n,.lst (its.map tiD)]
structure PR where
 w:Str
 h:Option LN
 b:List PP
@[reducible]noncomputable def hdD:Option LN->D
 |none=>.non
 |some t=>sT t
@[reducible]noncomputable def PR.toD(r:PR):D:=.tup [.str r.w,hdD r.h,.lst (r.b.map PP.toD)]
abbrev itF(ks:List Kd)(ov:List Pr)(n:As)(its:List Ti):List (LN×Int):=its.flatMap λz=>(nbw ks ov n).map λm=>(tT m z.1,z.2)
abbrev ppF(ks:List Kd)(n:As):Pa->PP
 |.is t=>.i (tT n t)
 |.no t=>.o (tT n t)
 |.ct w k its ov=>.c w k (itF ks ov n its)
 |.un _ _=>.i []
abbrev bdF(ks:List Kd)(n:As)(bd:List Pa):List PP:=(bd.filter λp=>!isU p).map (ppF ks n)
abbrev chF(lo hi:Int)(its:List (LN×Int))(b:List PP):List PR:=(its.map λz=>PR.mk "may" (aa z.1) b)++[PR.mk "never" ab (b++[.c ag (lo-1) its]),PR.mk "never" ab (b++[.c ac (hi+1) its])]
abbrev rbF(ks:List Kd)(n:As):Ro->List PR
 |.kind _ _=>[]
 |.rule b t bd _=>[PR.mk (if b then "make" else "may") (aa (tT n t)) (bdF ks n bd)]
 |.choose lo hi its ov bd _=>chF lo hi (itF ks ov n its) (bdF ks n bd)
 |.never bd _=>[PR.mk "never" ab (bdF ks n bd)]
structure ItK(ks:List Kd)(n:As)(its:List Ti)(ov:List Pr):Prop where
 p:PsK ks ov
 d:(n.map (·.1)++vrs ov).Nodup
 t:∀z∈its,∀m∈nbw ks ov n,kw m z.1
 l:(itF ks ov n its).length<=60
 s:its.length<=100
abbrev PaK(ks:List Kd)(n:As):Pa->Prop
 |.is t=>kw n t
 |.no t=>kw n t
 |.ct _ _ its ov=>ItK ks n its ov
 |.un _ _=>True
abbrev RoK(ks:List Kd)(n:As):Ro->Prop
 |.kind _ _=>True
 |.rule _ t bd _=>kw n t/\bd.length<=100/\∀p∈bd,PaK ks n p
 |.choose _ _ its ov bd _=>ItK ks n its ov/\bd.length<=100/\∀p∈bd,PaK ks n p
 |.never bd _=>bd.length<=100/\∀p∈bd,PaK ks n p
def GQ{c:Type}(L:List c)(f:c->D)(k:Int)(w:Str)(h:(L.length:Int)<=k):px [.lst (L.map f),.int k,.str w]=aa .non:=by
 apply cn;show wp _ [.im (.lst (L.map f)),.im (.int k),.im (.str w)] _
 have e:oI (aJ bE (af (ae 0) nZ)) (lq (ae 0)) [.im (.lst (L.map f)),.im (.int k),.im (.str w)]=aa (.int (L.length:Int)):=by
  unfold oI;rw[aN (ah rfl rfl) (dL L f)];rfl
 refine aT (aL (ap e rfl i4)) (λz=>?_) λ_=>bj ⟨_,rfl,rfl⟩;have:=of_decide_eq_true z;lia
def GR(h:PsK ks ps)(n:As):(nbw ks ps n).length<=1728:=by unfold nbw;rw[au];exact(pM h).1
section
variable{ks:List Kd}(nd:(ks.map (·.1)).Nodup)(hk:ks.length<=1000)
include nd hk
def GS{n:As}{d:D}(hd:fQ d n)(q:n.length<=100){its:List Ti}{ov:List Pr}(h:ItK ks n its ov):wd [.lst (its.map dN),.lst (ov.map prD),d,.lst (ks.map kdD)]=aa (.lst ((itF ks ov n its).map tiD)):=by
 apply cn;unfold wc;show wp _ [.im (.lst (its.map dN)),.im (.lst (ov.map prD)),.im d,.im (.lst (ks.map kdD)),.no,.no,.no] _;apply ao;refine e7 (d:=[]) rfl ?_;show wp _ [.im (.lst (its.map dN)),.im (.lst (ov.map prD)),.im d,.im (.lst (ks.map kdD)),.own [],.no,.no] _;have A:=GR h.p n;have v:=h.s;apply ao;refine cM its dN (λpre ρ=>∃c e,ρ=[.im (.lst (its.map dN)),.im (.lst (ov.map prD)),.im d,.im (.lst (ks.map kdD)),.own ((itF ks ov n pre).map tiD),c,e]) (bA rfl rfl) ⟨_,_,rfl⟩ ?_ ?_
 .rintro pre z post ρ j ⟨c,e,rfl⟩;refine⟨_,rfl,?_⟩;have hz:=h.t z (by rw[j];simp)
  have u:(itF ks ov n pre).length<=60:=by
   have:=h.l;rw[j]at this;unfold itF at this ⊢;rw[eS,aM]at this;lia
  show wp _ [.im (.lst (its.map dN)),.im (.lst (ov.map prD)),.im d,.im (.lst (ks.map kdD)),.own ((itF ks ov n pre).map tiD),.im (kdD z.1),.im (.int z.2)] _;refine sw (ds:=((nbw ks ov n).map λm=>(tT m z.1,z.2)).map tiD) (cY ?_) rfl (by rw[au,au,au];lia) ⟨.im (kdD z.1),.im (.int z.2),?_⟩
  .rw[map_map];exact gY (nbw ks ov n) asD _ (bA (aN (ah rfl (ah rfl (ah rfl rfl))) (GL nd hk h.p hd h.d q)) rfl) (by lia) λm hm=>gu rfl rfl (dG (ah (aN (ah rfl (ah rfl rfl)) (wG (show fQ (asD m) m from rfl) z.1 (hz m hm))) (ah rfl rfl)))
  .have:itF ks ov n (pre++[z])=itF ks ov n pre++(nbw ks ov n).map λm=>(tT m z.1,z.2):=by unfold itF;rw[eS];simp
   rw[this,bp];rfl
 .rintro ρ ⟨c,e,rfl⟩;have o:=h.l;apply ao;refine jD (ρ':=[.im (.lst (its.map dN)),.im (.lst (ov.map prD)),.im d,.im (.lst (ks.map kdD)),.im (.lst ((itF ks ov n its).map tiD)),c,e]) rfl ?_;refine j4 (aN (ah rfl (ah rfl (ah rfl rfl))) (GQ _ tiD 60 "items" (by lia))) ?_;exact uM rfl (cP rfl)
def Pt{n:As}{d:D}(hd:fQ d n)(c:n.length<=100)(p:Pa)(h:PaK ks n p)(j:isU p=ag):wf [p.toD,d,.lst (ks.map kdD)]=aa (ppF ks n p).toD:=by
 apply cn;unfold we;show wp _ [.im p.toD,.im d,.im (.lst (ks.map kdD))] _
 cases p with
 |is t=>
  apply ao;refine aT (b:=ac) (aL (ap (am rfl rfl rfl) rfl rfl)) (λ_=>?_) λe=>nomatch e
  exact c8 (dG (ah rfl (ah (aN (ah (am rfl rfl rfl) (ah rfl rfl)) (wG hd t h)) rfl))) (cP rfl)
 |no t=>
  apply ao;refine aT (b:=ag) (aL (ap (am rfl rfl rfl) rfl rfl)) (λe=>nomatch e) λ_=>bj ?_;apply ao;refine aT (b:=ac) (aL (ap (am rfl rfl rfl) rfl rfl)) (λ_=>?_) λe=>nomatch e
  exact c8 (dG (ah rfl (ah (aN (ah (am rfl rfl rfl) (ah rfl rfl)) (wG hd t h)) rfl))) (cP rfl)
 |un a b=>nomatch j
 |ct w k its ov=>
  apply ao
  refine aT (b:=ag) (aL (ap (am rfl rfl rfl) rfl (by cases w <;> rfl))) (λe=>nomatch e) λ_=>bj ?_
  apply ao
  refine aT (b:=ag) (aL (ap (am rfl rfl rfl) rfl (by cases w <;> rfl))) (λe=>nomatch e) λ_=>bj ?_
  exact c8 (dG (ah (am rfl rfl rfl) (ah (am rfl rfl rfl) (ah (aN (ah (am rfl rfl rfl) (ah (am rfl rfl rfl) (ah rfl (ah rfl rfl)))) (GS nd hk hd c h)) rfl)))) (cP rfl)
def Bq{n:As}{d:D}(hd:fQ d n)(z:n.length<=100)(bd:List Pa)(B:bd.length<=100)(h:∀p∈bd,PaK ks n p){ρ:LS}{fi:MF2}(v:fi ρ=aa (bd.map Pa.toD))(q:ρ[1]?=aa (.im d))(u:ρ[2]?=aa (.im (.lst (ks.map kdD)))):
  bQ 1 [1,2] fi (aF 0) (mB (m2 dNe (mIx (ak 0) (kI 0)) (kSt "unlike"))) (aJ wf (af (ae 0) (af (ae 1) (af (ae 2) nZ)))) ρ=aa ((bdF ks n bd).map PP.toD):=by
 unfold bdF;rw[map_map]
 have o:cU 1 [1,2] ρ=[.no,.im d,.im (.lst (ks.map kdD))]:=by
  show[Sl.no]++[1,2].map (λj=>(ρ[j]?).getD .no)=_;simp[q,u]
 refine uD bd Pa.toD (λp=>!isU p) (PP.toD ∘ ppF ks n) v (by lia) λp A=>?_;rw[o]
 cases c:isU p with
 |false=>exact gu rfl ((Bp p _).trans (by rw[c];rfl)) (aN (ah rfl (ah rfl (ah rfl rfl))) (Pt nd hk hd z p (h p A) c))
 |true=>exact nz (b:=ag) (y:=.non) rfl ((Bp p _).trans (by rw[c];rfl)) λe=>nomatch e
def Pu(lo hi:Int)(its:List (LN×Int))(b:List PP)(q:its.length<=1000)(u:b.length<=1000):AJ [.int lo,.int hi,.lst (its.map tiD),.lst (b.map PP.toD)]=aa (.lst ((chF lo hi its b).map PR.toD)):=by
 apply cn;unfold wa;show wp _ [.im (.int lo),.im (.int hi),.im (.lst (its.map tiD)),.im (.lst (b.map PP.toD)),.no] _;apply ao;refine e7 (d:=(its.map λz=>PR.mk "may" (aa z.1) b).map PR.toD) (by rw[map_map];exact gY its tiD _ (bA rfl rfl) (by lia) λz _=>gu rfl rfl (dG (ah rfl (ah rfl (ah rfl rfl))))) ?_
 have e:∀(p:PP) (ρ:LS) (f g:MF1),f ρ=aa (.lst (b.map PP.toD))->g ρ=aa p.toD->bf (gw f (bf (af g nZ))) ρ=aa (.lst ((b++[p]).map PP.toD)):=λp ρ f g j o=>by
  refine cY ?_;unfold gw;rw[j,ax,cY (ah o rfl)];show(if (b.map PP.toD).length+1<=16777216 then aa (b.map PP.toD++[p.toD]) else ab)=_;rw[if_pos (by rw[au];lia),bp];rfl
 show wp _ [.im (.int lo),.im (.int hi),.im (.lst (its.map tiD)),.im (.lst (b.map PP.toD)),.own ((its.map λz=>PR.mk "may" (aa z.1) b).map PR.toD)] _;apply ao;refine iz (d:=PR.toD (PR.mk "never" ab (b++[.c ag (lo-1) its]))) (dG (ah rfl (ah rfl (ah (e (.c ag (lo-1) its) _ _ _ rfl (dG (ah rfl (ah (ap rfl rfl k6) (ah rfl rfl))))) rfl)))) rfl (by rw[au,au];lia) ?_;apply ao;refine iz (d:=PR.toD (PR.mk "never" ab (b++[.c ac (hi+1) its]))) (dG (ah rfl (ah rfl (ah (e (.c ac (hi+1) its) _ _ _ rfl (dG (ah rfl (ah (ap rfl rfl gZ) (ah rfl rfl))))) rfl)))) rfl (by rw[aM,au,au,dR];lia) ?_;refine nG rfl (j5 ?_);unfold chF;rw[bp,eU];rfl
def Pw{n:As}{d:D}(hd:fQ d n)(c:n.length<=100)(r:Ro)(q:∀a b,r≠.kind a b)(h:RoK ks n r):AM [r.toD,d,.lst (ks.map kdD)]=aa (.lst ((rbF ks n r).map PR.toD)):=by
 apply cn;unfold wg;show wp _ [.im r.toD,.im d,.im (.lst (ks.map kdD)),.no,.no] _
 cases r with
 |kind a b=>exact absurd rfl (q a b)
 |rule b t bd ps=>
  apply ao;refine cw (cY (Bq nd hk hd c bd h.2.1 h.2.2 (bA (am rfl rfl rfl) rfl) rfl rfl)) ?_;apply ao
  refine aT (b:=ag) (aL (ap (am rfl rfl rfl) rfl (by cases b <;> rfl))) (λe=>nomatch e) λ_=>bj ?_
  apply ao
  refine aT (b:=ag) (aL (ap (am rfl rfl rfl) rfl (by cases b <;> rfl))) (λe=>nomatch e) λ_=>bj ?_
  apply ao;refine cw (d:=.str (if b then "make" else "may")) ?_ ?_
  .unfold vIf
   rw[aL (b:=b) (ap (am rfl rfl rfl) rfl (by cases b <;> rfl)),ax]
   cases b <;> rfl
  exact yA (ah (dG (ah rfl (ah (aN (ah (am rfl rfl rfl) (ah rfl rfl)) (wG hd t h.1)) (ah rfl rfl)))) rfl) (j5 rfl)
 |choose lo hi its ov bd ps=>
  apply ao;refine cw (cY (Bq nd hk hd c bd h.2.1 h.2.2 (bA (am rfl rfl rfl) rfl) rfl rfl)) ?_;apply ao;refine aT (b:=ag) (aL (ap (am rfl rfl rfl) rfl rfl)) (λe=>nomatch e) λ_=>bj ?_;apply ao;refine aT (b:=ac) (aL (ap (am rfl rfl rfl) rfl rfl)) (λ_=>?_) λe=>nomatch e
  have o:(bdF ks n bd).length<=1000:=by
   unfold bdF;rw[au];have:=pV (λp=>!isU p) bd;have:=h.2.1;lia
  have j:=h.1.l
  exact c8 (aN (ah (am rfl rfl rfl) (ah (am rfl rfl rfl) (ah (aN (ah (am rfl rfl rfl) (ah (am rfl rfl rfl) (ah rfl (ah rfl rfl)))) (GS nd hk hd c h.1)) (ah rfl rfl)))) (Pu nd hk lo hi _ _ (by lia) o)) (cP rfl)
 |never bd ps=>
  apply ao;refine cw (cY (Bq nd hk hd c bd h.1 h.2 (bA (am rfl rfl rfl) rfl) rfl rfl)) ?_;apply ao;refine aT (b:=ac) (aL (ap (am rfl rfl rfl) rfl rfl)) (λ_=>?_) λe=>nomatch e;exact yA (ah (dG (ah rfl (ah rfl (ah rfl rfl)))) rfl) (j5 rfl)
end
abbrev d7:Ro->Bool
 |.kind _ _=>ac
 | _=>ag
abbrev rwF(ks:List Kd)(r:Ro):List PR:=((nbw ks (roP r) []).filter λn=>!cD n (roB r)).flatMap λn=>rbF ks n r
abbrev rsF(ks:List Kd)(rs:List Ro):List PR:=rs.flatMap λr=>if d7 r then [] else rwF ks r
structure RwK(ks:List Kd)(r:Ro):Prop where
 p:PsK ks (roP r)
 d:(vrs (roP r)).Nodup
 b:(roB r).length<=1000
 k:∀n∈nbw ks (roP r) [],cD n (roB r)=ag->RoK ks n r/\n.length<=100
def nKd(r:Ro)(a b c:Sl):mB (m2 dNe (mIx (ak 3) (kI 0)) (kSt "kind")) [a,b,c,.im r.toD,.no]=aa (!d7 r)/\∀z:Sl,mB (m2 dNe (mIx (ak 3) (kI 0)) (kSt "kind")) [a,b,c,.im r.toD,z]=aa (!d7 r):=by
 have h:∀z:Sl,mB (m2 dNe (mIx (ak 3) (kI 0)) (kSt "kind")) [a,b,c,.im r.toD,z]=aa (!d7 r):=λz=>by
  cases r with
  |kind n ns=>exact aL (ap (am rfl rfl rfl) rfl rfl)
  |rule b t bd ps=>exact aL (ap (am rfl rfl rfl) rfl (by cases b <;> rfl))
  |choose lo hi its ov bd ps=>exact aL (ap (am rfl rfl rfl) rfl rfl)
  |never bd ps=>exact aL (ap (am rfl rfl rfl) rfl rfl)
 exact⟨h _,h⟩
def GT(r:Ro)(e:d7 r=ag)(a b c z:Sl):mIx (ak 3) (m1 fO (kI 1)) [a,b,c,.im r.toD,z]=aa (.lst ((roP r).map prD))/\mIx (ak 3) (m1 fO (kI 2)) [a,b,c,.im r.toD,z]=aa (.lst ((roB r).map Pa.toD)):=by
 cases r with
 |kind n ns=>nomatch e
 |rule b t bd ps=>exact⟨am rfl rfl rfl,am rfl rfl rfl⟩
 |choose lo hi its ov bd ps=>exact⟨am rfl rfl rfl,am rfl rfl rfl⟩
 |never bd ps=>exact⟨am rfl rfl rfl,am rfl rfl rfl⟩
def Px(nd:(ks.map (·.1)).Nodup)(Y:ks.length<=1000)(rs:List Ro)(hl:rs.length<=1000)(h:∀r∈rs,d7 r=ag->RwK ks r)(q:(rsF ks rs).length<=400):AN [.lst (rs.map Ro.toD),.lst (ks.map kdD)]=aa (.lst ((rsF ks rs).map PR.toD)):=by
 apply cn;unfold wj;show wp _ [.im (.lst (rs.map Ro.toD)),.im (.lst (ks.map kdD)),.no,.no,.no] _;apply ao;refine e7 (d:=[]) rfl ?_;show wp _ [.im (.lst (rs.map Ro.toD)),.im (.lst (ks.map kdD)),.own [],.no,.no] _;apply ao;refine cM rs Ro.toD (λpre ρ=>∃I c,ρ=[.im (.lst (rs.map Ro.toD)),.im (.lst (ks.map kdD)),.own ((rsF ks pre).map PR.toD),I,c]) (bA rfl rfl) ⟨_,_,rfl⟩ ?_ ?_
 .rintro pre r post ρ U ⟨I,c,rfl⟩;refine⟨_,rfl,?_⟩;show wp _ [.im (.lst (rs.map Ro.toD)),.im (.lst (ks.map kdD)),.own ((rsF ks pre).map PR.toD),.im r.toD,c] _;have E:r∈rs:=by rw[U];simp
  have es:∀x,rsF ks (pre++[x])=rsF ks pre++if d7 x then [] else rwF ks x:=λx=>by unfold rsF;rw[eS];simp
  refine aT ((nKd r _ _ _).2 _) (λe=>?_) λe=>bj ?_
  .have o:d7 r=ag:=by simpa using e
   have H:=h r E o;have hn0:=GR H.p []
   have v:(rsF ks pre).length+(rwF ks r).length<=400:=by
    have e2:rsF ks rs=rsF ks (pre++[r])++rsF ks post:=by rw[U];unfold rsF;rw[<- eS];simp
    rw[e2,aM,es,o,aM]at q;have:(if ag=ac then ([]:List PR) else rwF ks r)=rwF ks r:=rfl;rw[this]at q;lia
   have J:=GL nd Y H.p (n:=[]) (d:=.dic [] []) rfl (by simpa using H.d) (by simp);refine cM (nbw ks (roP r) []) asD (λu ρ=>∃c,ρ=[.im (.lst (rs.map Ro.toD)),.im (.lst (ks.map kdD)),.own ((rsF ks pre++(u.filter λn=>!cD n (roB r)).flatMap λn=>rbF ks n r).map PR.toD),.im r.toD,c]) (bA (aN (ah (GT r o _ _ _ _).1 (ah rfl (ah rfl rfl))) J) rfl) ⟨c,by simp⟩ ?_ ?_
   .rintro u n A ρ G ⟨c,rfl⟩;refine⟨_,rfl,?_⟩;show wp _ [.im (.lst (rs.map Ro.toD)),.im (.lst (ks.map kdD)),.own ((rsF ks pre++(u.filter λn=>!cD n (roB r)).flatMap λn=>rbF ks n r).map PR.toD),.im r.toD,.im (asD n)] _;have N:n∈nbw ks (roP r) []:=by rw[G];simp
    have B:fQ (asD n) n:=rfl;refine aT (b:=!cD n (roB r)) (eQ (dZ (aN (ah (GT r o _ _ _ _).2 (ah rfl rfl)) (Ps B (roB r) H.b)) rfl)) (λe=>?_) λe=>bj ⟨.im (asD n),?_⟩
    .have j:cD n (roB r)=ag:=by simpa using e
     obtain⟨Q,M⟩:=H.k n N j
     have T:((u++[n]).filter λn=>!cD n (roB r)).flatMap (λn=>rbF ks n r)=(u.filter λn=>!cD n (roB r)).flatMap (λn=>rbF ks n r)++rbF ks n r:=by
      rw[sS,eS];simp[j]
     have C:(rsF ks pre++(u.filter λn=>!cD n (roB r)).flatMap λn=>rbF ks n r).length+(rbF ks n r).length<=400:=by
      have e3:rwF ks r=((u++[n]).filter λn=>!cD n (roB r)).flatMap (λn=>rbF ks n r)++(A.filter λn=>!cD n (roB r)).flatMap (λn=>rbF ks n r):=by
       unfold rwF;rw[G,<- eS,<- sS];simp
      rw[e3,T,aM,aM]at v;rw[aM];lia
     rw[T,<- eU];generalize (rsF ks pre++(u.filter λn=>!cD n (roB r)).flatMap λn=>rbF ks n r)=R at C;apply ao;have L:∀a b,r≠.kind a b:=λa b z=>by rw[z]at o;nomatch o
     refine sw (aN (ah rfl (ah rfl (ah rfl rfl))) (Pw nd Y B M r L Q)) rfl (by rw[au,au];lia) ?_;rw[<- bp];refine j4 (Bd (ah rfl (ah rfl (ah rfl rfl))) (GQ (R++rbF ks n r) PR.toD 400 "rules" (by rw[aM];lia))) ⟨_,rfl⟩
    .have j:cD n (roB r)=ac:=by simpa using e
     rw[sS];simp[j]
   .rintro ρ ⟨c,rfl⟩;refine⟨.im r.toD,c,?_⟩;rw[es,o];rfl
  .have o:d7 r=ac:=by simpa using e
   refine⟨.im r.toD,c,?_⟩;rw[es,o];show _=[.im (.lst (rs.map Ro.toD)),.im (.lst (ks.map kdD)),.own ((rsF ks pre++[]).map PR.toD),.im r.toD,c];rw[cx]
 .rintro ρ ⟨I,c,rfl⟩;exact nG rfl (j5 rfl)
abbrev ppT:PP->L2N
 |.i t=>[t]
 |.o t=>[t]
 |.c _ _ its=>its.map (·.1)
abbrev prT(r:PR):L2N:=r.h.toList++r.b.flatMap ppT
def GU(p:PP)(ρ:LS)(i:Nat)(h:ρ[i]?=aa (.im p.toD)):mB (m2 dIn (mIx (ak i) (kI 0)) (cg (af (kSt "in") (af (kSt "out") nZ)))) ρ=aa (match p with |.c _ _ _=>ag | _=>ac):=by
 have e:ak i ρ=ik p.toD:=by unfold ak;rw[h]
 cases p with
 |i t=>exact aL (ap (x:=.str "in") (am (ds:=[.str "in",sT t]) (e.trans rfl) rfl rfl) rfl rfl)
 |o t=>exact aL (ap (x:=.str "out") (am (ds:=[.str "out",sT t]) (e.trans rfl) rfl rfl) rfl rfl)
 |c w n its=>exact aL (ap (x:=.str (if w then "least" else "most")) (am (ds:=[.str (if w then "least" else "most"),.int n,.lst (its.map tiD)]) (e.trans rfl) rfl rfl) rfl (by cases w <;> rfl))
def Py(r:PR)(N:r.b.length<=1000)(hi:∀p∈r.b,(ppT p).length<=1000):AE [r.toD]=aa (.lst ((prT r).map sT)):=by
 apply cn;unfold v5;show wp _ [.im r.toD,.no,.no] _;apply ao;refine e7 (d:=r.h.toList.map sT) ?_ ?_
 .obtain⟨w,h,b⟩:=r
  cases h with
  |none=>
   unfold rM;rw[aL (b:=ac) (ap (am rfl rfl rfl) rfl rfl)]
   rfl
  |some t=>
   unfold rM;rw[aL (b:=ag) (ap (am rfl rfl rfl) rfl rfl)];show af (mIx (ak 0) (kI 1)) nZ [.im (PR.toD ⟨w,aa t,b⟩),.no,.no]=_;exact ah (am rfl rfl rfl) rfl
 show wp _ [.im r.toD,.own (r.h.toList.map sT),.no] _;apply ao;refine cM r.b PP.toD (λpre ρ=>∃u,ρ=[.im r.toD,.own ((r.h.toList++pre.flatMap ppT).map sT),u]) (bA (am rfl rfl rfl) rfl) ⟨.no,by simp⟩ ?_ ?_
 .rintro pre p post ρ v ⟨u,rfl⟩;refine⟨_,rfl,?_⟩
  have j:(r.h.toList++pre.flatMap ppT).length<=1+1000*1000:=by
   have J:r.h.toList.length<=1:=by cases r.h <;> simp
   have E:∀l:List PP,(∀p∈l,(ppT p).length<=1000)->(l.flatMap ppT).length<=l.length*1000:=λl=>by
    induction l with
    |nil=>intro _;simp
    |cons x l I=>
     intro h;rw[iJ,aM,bT,oj];have:=h x bK;have:=I λy B=>h y (cB _ B);lia
   have M:=E pre λy B=>hi y (by rw[v];simp[B]);have G:pre.length<=1000:=by have:=congrArg fB v;rw[aM]at this;lia
   rw[aM];have:=sW 1000 G;lia
  have H:=hi p (by rw[v];simp);have C:r.h.toList++(pre++[p]).flatMap ppT=(r.h.toList++pre.flatMap ppT)++ppT p:=by rw[eS];simp
  rw[C];generalize r.h.toList++pre.flatMap ppT=T at j;show wp _ [.im r.toD,.own (T.map sT),.im p.toD] _;refine aT (GU p _ 2 rfl) (λe=>?_) λe=>?_
  .cases p with
   |i t=>exact iz (d:=sT t) (am rfl rfl rfl) rfl (by rw[au];lia) ⟨.im (PP.toD (.i t)),by rw[bp];rfl⟩
   |o t=>exact iz (d:=sT t) (am rfl rfl rfl) rfl (by rw[au];lia) ⟨.im (PP.toD (.o t)),by rw[bp];rfl⟩
   |c w n its=>nomatch e
  .cases p with
   |i t=>nomatch e
   |o t=>nomatch e
   |c w n its=>
    have A:its.length<=1000:=by have:(its.map (·.1)).length<=1000:=H;rwa [au]at this
    exact sw (ds:=(its.map (·.1)).map sT) (cY (pL (L:=its) (f:=tiD) (q:=(·.1)) (bA (am rfl rfl rfl) rfl) (λz=>⟨_,rfl⟩) A)) rfl (by rw[au,au,au];lia) ⟨.im (PP.toD (.c w n its)),by rw[bp];rfl⟩
 .rintro ρ ⟨u,rfl⟩;exact nG rfl (j5 rfl)
abbrev dQ(tb:L2N)(t:LN):L2N:=if t∈tb then tb else tb++[t]
abbrev tbF(c:L2N):L2N:=c.foldl dQ []
abbrev tK(tb:L2N):List Key:=tb.map λt=>.inr (tx t)
abbrev tV(tb:L2N):LD:=(cp tb.length).map λ(i:Nat)=>D.int i
def GV(tb:L2N)(c:L2N)(t:LN):(c++[t]).foldl dQ tb=dQ (c.foldl dQ tb) t:=by rw[mD];rfl
def nX(j:L2N):∀tb:L2N,tb.Nodup->(j.foldl dQ tb).Nodup/\(∀t,t∈j.foldl dQ tb↔t∈tb\/t∈j)/\tb.length<=(j.foldl dQ tb).length:=by
 induction j with
 |nil=>exact λtb h=>⟨h,λt=>by simp,aU _⟩
 |cons x j q=>
  intro tb h
  have o:(dQ tb x).Nodup/\(∀t,t∈dQ tb x↔t∈tb\/t=x)/\tb.length<=(dQ tb x).length:=by
   unfold dQ;split
   .rename_i hm;exact⟨h,λt=>⟨.inl,λz=>z.elim id λe=>by rw[e];exact hm⟩,aU _⟩
   .rename_i hm;refine⟨eG.mpr ⟨h,by simp,λa ha b p e=>?_⟩,λt=>by simp,by simp⟩;rw[ca.mp p]at e;rw[e]at ha;exact hm ha
  obtain⟨a,b,c⟩:=q (dQ tb x) o.1;refine⟨a,λt=>?_,cV o.2.2 c⟩;rw[foldl_cons,b t,o.2.1 t,b8,or_assoc]
def Br(tb:L2N)(t:LN):fV (tK tb) (.inr (tx t))=decide (t∈tb):=by
 apply jh.mpr;unfold fV tK;rw[any_map,any_eq_true,decide_eq_true_eq];constructor
 .rintro⟨x,c,e⟩;have:=mj (oB (of_decide_eq_true e));rw[<- this];exact c
 .exact λh=>⟨t,h,decide_eq_true rfl⟩
def Pz(tb:L2N)(t:LN)(o:tb.length<=100000)(a b:Sl)(K:Fl->Prop)(k:K (.nx [a,.ownd (tK (dQ tb t)) (tV (dQ tb t)),b,.im (sT t)])):wp (rL 1 (ae 3) (lq (fo 1))) [a,.ownd (tK tb) (tV tb),b,.im (sT t)] K:=by
 refine⟨_,?_,k⟩;unfold rL;show(if fV (tK tb) (.inr (tx t))=ac then aa (Fl.nx [a,.ownd (tK tb) (tV tb),b,.im (sT t)]) else if (tK tb).length<16777216 then aa (Fl.nx [a,.ownd (tK tb++[.inr (tx t)]) (tV tb++[.int ((tK tb).length:Nat)]),b,.im (sT t)]) else ab)=_;rw[Br];unfold dQ
 by_cases h:t∈tb
 .rw[if_pos (decide_eq_true h),if_pos h]
 .rw[if_neg (by rw[decide_eq_false h];exact bZ),if_neg h];have c:(tK tb).length=tb.length:=by unfold tK;rw[au]
  rw[c,if_pos (by lia)];have e:tK (tb++[t])=tK tb++[.inr (tx t)]:=by unfold tK;rw[bp];rfl
  have j:tV (tb++[t])=tV tb++[.int (tb.length:Nat)]:=by
   unfold tV;rw[aM,dR,range_succ,bp];rfl
  rw[e,j]
def PB(rs:List PR)(L:rs.length<=1000)(I:∀r∈rs,r.b.length<=1000/\∀p∈r.b,(ppT p).length<=1000)(j:(tbF (rs.flatMap prT)).length<=60):AF [.lst (rs.map PR.toD)]=aa (.kd (tK (tbF (rs.flatMap prT))) (tV (tbF (rs.flatMap prT)))):=by
 apply cn;unfold v6;show wp _ [.im (.lst (rs.map PR.toD)),.no,.no,.no] _;apply ao;refine nF (o:=.nx [.im (.lst (rs.map PR.toD)),.ownd (tK (tbF [])) (tV (tbF [])),.no,.no]) rfl ?_
 have q:∀a b:L2N,rs.flatMap prT=a++b->(tbF a).length<=60:=λa b e=>by
  rw[e]at j;unfold tbF at j ⊢;rw[mD]at j;have:=(nX b (a.foldl dQ []) (nX a [] f7).1).2.2;lia
 apply ao;refine cM rs PR.toD (λpre ρ=>∃A c,ρ=[.im (.lst (rs.map PR.toD)),.ownd (tK (tbF (pre.flatMap prT))) (tV (tbF (pre.flatMap prT))),A,c]) (bA rfl rfl) ⟨_,_,rfl⟩ ?_ ?_
 .rintro pre r post ρ C ⟨A,c,rfl⟩;refine⟨_,rfl,?_⟩;obtain⟨E,G⟩:=I r (by rw[C];simp);refine cM (prT r) sT (λu ρ=>∃c,ρ=[.im (.lst (rs.map PR.toD)),.ownd (tK (tbF (pre.flatMap prT++u))) (tV (tbF (pre.flatMap prT++u))),.im r.toD,c]) (bA (aN (ah rfl rfl) (Py r E G)) rfl) ⟨_,by rw[cx];rfl⟩ ?_ ?_
  .rintro u t v ρ B ⟨c,rfl⟩;refine⟨_,rfl,?_⟩;have M:=q (pre.flatMap prT++u) (t::v++post.flatMap prT) (by rw[C,eS,iJ,B];simp);refine Pz (tbF (pre.flatMap prT++u)) t (by lia) _ _ _ ⟨.im (sT t),?_⟩;rw[<- eU];show _=[_,Sl.ownd (tK ((pre.flatMap prT++u++[t]).foldl dQ [])) (tV ((pre.flatMap prT++u++[t]).foldl dQ [])),_,_];rw[GV];rfl
  .rintro ρ ⟨c,rfl⟩;refine⟨.im r.toD,c,?_⟩;rw[eS];simp
 .rintro ρ ⟨A,c,rfl⟩;generalize J:tbF (rs.flatMap prT)=T at j;apply ao;refine yN (ks:=tK T) (xs:=tV T) rfl ?_;show wp _ [.im (.lst (rs.map PR.toD)),.im (.kd (tK T) (tV T)),A,c] _
  have H:px [.kd (tK T) (tV T),.int 60,.str "things"]=aa .non:=by
   apply cn;show wp _ [.im (.kd (tK T) (tV T)),.im (.int 60),.im (.str "things")] _
   have e:oI (aJ bE (af (ae 0) nZ)) (lq (ae 0)) [.im (.kd (tK T) (tV T)),.im (.int 60),.im (.str "things")]=aa (.int (T.length:Nat)):=by
    show aa (D.int ((tK T).length:Nat))=_;unfold tK;rw[au]
   refine aT (aL (ap e rfl i4)) (λz=>?_) λ_=>bj ⟨_,rfl,rfl⟩;have:=of_decide_eq_true z;lia
  refine j4 (aN (ah rfl (ah rfl (ah rfl rfl))) H) ?_;refine⟨_,rfl,cP rfl⟩
variable{o:O}
def PC{f:MF2}{g:LS->Option O}(h:f ρ=aa ds)(h':g ρ=aa o):rh f g ρ=aa (.tup (ds.map .fz++[o])):=by
 unfold rh;rw[h,ax,h'];rfl
def PD{f:MF2}(h:f ρ=aa ds):nJ f ρ=aa (.lst (ds.map .fz)):=by
 unfold nJ;rw[h];rfl
variable{ft:MF4}{fe:LS->Option O}
def PF{g:D->LS->Option LS}{y:O}(c:g d ρ=aa ρ1)(e:ft ρ1=aa ac)(j:fe ρ1=aa y):rp g ft fe ρ d=aa (aa y):=by
 unfold rp;rw[c,ax,e,ax,if_pos rfl,j];rfl
def PH{c:Type}{k:Nat}{js:LN}{g:D->LS->Option LS}(xs:List c)(f:c->D)(φ:c->O)(hi:fi ρ=aa (xs.map f))(e:xs.length<=16777216)
 (j:∀x∈xs,rp g ft fe (cU k js ρ) (f x)=aa (aa (φ x))):oV k js fi g ft fe ρ=aa (.lst (xs.map φ)):=by
 unfold oV;rw[hi,ax,if_pos (by rw[au];exact e),Er f φ j];rfl
def sB{m:LD->Option O}{f:MF2}(h:f ρ=aa ds)(h':m ds=aa o):i9 m f ρ=aa o:=by
 unfold i9;rw[h,ax,h']
def PJ{m:LD->Option O}{f:MF2}(h:f ρ=aa ds)(h':m ds=aa o)(c:o.flat=ac):rm m f ρ=aa o:=by
 unfold rm;rw[h,ax,h',ax,if_pos c]
def Bs{f:LS->Option O}(h:f ρ=aa o)(c:o.kn=ac):zB f ρ=aa o.toD:=by
 unfold zB;rw[h,ax,if_pos c]
def GW(h:ρ[i]?=aa (.deep o))(c:o.kn=ac):fo i ρ=aa o.toD:=by
 unfold fo;rw[h];exact if_pos c
abbrev pos(tb:L2N)(t:LN):Nat:=tb.idxOf t
def GX(t:LN):∀(tb:L2N) (xs:LD),tb.length=xs.length->t∈tb->iA (tK tb) xs (.inr (tx t))=xs[tb.idxOf t]?
 | [],_,_,h=>(b6 h).elim
 |a::tb,[],hl,_=>by simp at hl
 |a::tb,x::xs,hl,h=>by
  have c:=GX t tb xs (by simpa using hl);unfold iA tK at c ⊢;rw[cS,mC,og,idxOf_cons]
  by_cases e:a=t
  .subst e;simp
  .rw[decide_eq_false (λz=>e (mj (oB z))),beq_eq_false_iff_ne.mpr e];show Option.map _ (List.find? _ _)=_;rw[c ((b8.mp h).resolve_left (ce e))];simp
variable{tb:L2N}{t:LN}
def ixT(h:t∈tb):gf (.kd (tK tb) (tV tb)) (sT t)=aa (.int (pos tb t:Nat)):=by
 show iA (tK tb) (tV tb) (.inr (tx t))=_;have c:tb.idxOf t<tb.length:=sL h;rw[GX t tb (tV tb) (by unfold tV;rw[au,dH]) h];unfold tV;rw[eM,pR c];rfl
@[reducible]noncomputable def niD(tb:L2N)(z:LN×Int):D:=.tup [.int (pos tb z.1:Nat),.int z.2]
@[reducible]noncomputable def PP.nD(tb:L2N):PP->D
 |.i t=>.tup [.str "in",.int (pos tb t:Nat)]
 |.o t=>.tup [.str "out",.int (pos tb t:Nat)]
 |.c w n its=>.tup [.str (if w then "least" else "most"),.int n,.lst (its.map (niD tb))]
@[reducible]noncomputable def hnD(tb:L2N):Option LN->D
 |none=>.non
 |some t=>.int (pos tb t:Nat)
@[reducible]noncomputable def PR.nD(tb:L2N)(r:PR):D:=.tup [.str r.w,hnD tb r.h,.lst (r.b.map (PP.nD tb))]
@[reducible]noncomputable def PR.nO(tb:L2N)(r:PR):O:=.tup [.fz (.str r.w),.fz (hnD tb r.h),.lst ((r.b.map (PP.nD tb)).map .fz)]
def wI:∀ds:LD,O.kns (ds.map .fz)=ac
 | []=>rfl
 |d::ds=>by rw[cS,O.kns,wI ds];rfl
def PK(tb:L2N)(p:PP)(h:∀t∈ppT p,t∈tb)(j:(ppT p).length<=1000):vZ [p.toD,.kd (tK tb) (tV tb)]=aa (p.nD tb):=by
 apply cn;unfold vY;show wp _ [.im p.toD,.im (.kd (tK tb) (tV tb))] _;apply ao;refine aT (GU p _ 0 rfl) (λe=>?_) λe=>bj ?_
 .cases p with
  |i t=>exact c8 (dG (ah (am rfl rfl rfl) (ah (ap rfl (am rfl rfl rfl) (ixT (h t (by simp[ppT])))) rfl))) (cP rfl)
  |o t=>exact c8 (dG (ah (am rfl rfl rfl) (ah (ap rfl (am rfl rfl rfl) (ixT (h t (by simp[ppT])))) rfl))) (cP rfl)
  |c w n its=>nomatch e
 .cases p with
  |i t=>nomatch e
  |o t=>nomatch e
  |c w n its=>
   have q:its.length<=1000:=by have:(its.map (·.1)).length<=1000:=j;rwa [au]at this
   refine c8 (dG (ah (am rfl rfl rfl) (ah (am rfl rfl rfl) (ah (cY (gY its tiD (niD tb) (bA (am rfl rfl rfl) rfl) (by lia) λz hz=>?_)) rfl)))) (cP rfl);exact gu rfl rfl (dG (ah (ap rfl rfl (ixT (h z.1 (cq.mpr ⟨z,hz,rfl⟩)))) (ah rfl rfl)))
variable{os:List O}
def GY{g:LS->Option (List O)}(h:g ρ=aa os):rP g ρ=aa (.tup os):=by
 unfold rP;rw[h];rfl
def wJ{f:LS->Option O}{g:LS->Option (List O)}(h:f ρ=aa o)(h':g ρ=aa os):k8 f g ρ=aa (o::os):=by
 unfold k8;rw[h,ax,h'];rfl
def Bt{n:Nat}(h:wp F (jC n ds) (yK λx=>x=o)):lY n F ds=aa o:=by
 obtain⟨x,e,rfl⟩:=Lz h;exact e
def PL(tb:L2N)(r:PR)(h:∀t∈prT r,t∈tb)(u:r.b.length<=1000)(j:∀p∈r.b,(ppT p).length<=1000):v4 [r.toD,.kd (tK tb) (tV tb)]=aa (r.nO tb):=by
 apply Bt;unfold v3;show wp _ [.im r.toD,.im (.kd (tK tb) (tV tb)),.no] _;apply ao;refine cw (d:=hnD tb r.h) ?_ ?_
 .obtain⟨w,hd,b⟩:=r;unfold vIf
  cases hd with
  |none=>rw[aL (b:=ac) (ap (am rfl rfl rfl) rfl rfl)];rfl
  |some t=>
   rw[aL (b:=ag) (ap (am rfl rfl rfl) rfl rfl)];show m2 gf (ae 1) (mIx (ak 0) (kI 1)) [.im (PR.toD ⟨w,aa t,b⟩),.im (.kd (tK tb) (tV tb)),.no]=_;exact ap rfl (am rfl rfl rfl) (ixT (h t (by simp[prT])))
 have e:bQ 1 [1] (bh (mIx (ak 0) (kI 2))) (aF 0) kY (aJ vZ (af (ae 0) (af (ae 1) nZ))) [.im r.toD,.im (.kd (tK tb) (tV tb)),.im (hnD tb r.h)]=aa (r.b.map (PP.nD tb)):=
  gY r.b PP.toD (PP.nD tb) (bA (am rfl rfl rfl) rfl) (by lia) λp c=>gu rfl rfl (aN (ah rfl (ah rfl rfl)) (PK tb p (λt q=>h t (cC.mpr (.inr (gB.mpr ⟨p,c,q⟩)))) (j p c)))
 refine yJ ?_ (yL rfl);exact PC (ds:=[.str r.w,hnD tb r.h]) (ah (am rfl rfl rfl) (ah rfl rfl)) (PD e)
abbrev plR(rs:List Ro):List PR:=rsF (aG rs) rs
abbrev plT(rs:List Ro):L2N:=tbF ((plR rs).flatMap prT)
@[reducible]noncomputable def plO(tb:L2N)(R:List PR):O:=.tup [.lst ((tb.map sT).map .fz),.tup [.fz (.int (tb.length:Nat)),.lst (R.map (PR.nO tb))]]
@[reducible]noncomputable def plD(tb:L2N)(R:List PR):D:=.tup [.lst (tb.map sT),.tup [.int (tb.length:Nat),.lst (R.map (PR.nD tb))]]
def GZ(tb:L2N):∀R:List PR,O.toDs (R.map (PR.nO tb))=R.map (PR.nD tb)
 | []=>rfl
 |r::R=>by
  rw[cS,cS];show(PR.nO tb r).toD::O.toDs (R.map (PR.nO tb))=_;rw[GZ tb R];show D.tup [.str r.w,hnD tb r.h,.lst (O.toDs ((r.b.map (PP.nD tb)).map .fz))]::_=_;rw[xZ]
def Bu(tb:L2N)(R:List PR):(plO tb R).toD=plD tb R:=by
 show D.tup [.lst (O.toDs ((tb.map sT).map .fz)),.tup [.int (tb.length:Nat),.lst (O.toDs (R.map (PR.nO tb)))]]=_;rw[xZ,GZ]
structure PlK(rs:List Ro):Prop where
 g:Be rs
 l:rs.length<=1000
 n:((aG rs).map (·.1)).Nodup
 k:∀r∈rs,d7 r=ag->RwK (aG rs) r
 r:(plR rs).length<=400
 b:∀r∈plR rs,r.b.length<=1000/\∀p∈r.b,(ppT p).length<=1000
 t:(plT rs).length<=60
def G0(rs:List Ro)(h:PlK rs):mi [.lst (rs.map Ro.toD)]=aa (plO (plT rs) (plR rs)):=by
 apply Bt;unfold wk;show wp _ [.im (.lst (rs.map Ro.toD)),.no,.no] _;have u:=Bc rs;have z:=h.l;have c:=h.r;apply ao;refine cw (d:=.lst ((plR rs).map PR.toD)) (aN (ah rfl (ah (aN (ah rfl rfl) (Pb rs h.g h.l)) rfl)) (Px h.n (by lia) rs h.l h.k h.r)) ?_;show wp _ [.im (.lst (rs.map Ro.toD)),.im (.lst ((plR rs).map PR.toD)),.no] _;apply ao;refine cw (d:=.kd (tK (plT rs)) (tV (plT rs))) (aN (ah rfl rfl) (PB (plR rs) (by lia) h.b h.t)) ?_;show wp _ [.im (.lst (rs.map Ro.toD)),.im (.lst ((plR rs).map PR.toD)),.im (.kd (tK (plT rs)) (tV (plT rs)))] _;have e:∀r∈plR rs,∀t∈prT r,t∈plT rs:=λr c t v=>((nX ((plR rs).flatMap prT) [] f7).2.1 t).mpr (.inr (gB.mpr ⟨r,c,v⟩));have q:=PH (k:=1) (js:=[2]) (fi:=bh (ae 1)) (g:=aF 0) (ft:=λ_=>aa ac) (fe:=i9 v4 (af (ae 0) (af (ae 1) nZ))) (ρ:=[.im (.lst (rs.map Ro.toD)),.im (.lst ((plR rs).map PR.toD)),.im (.kd (tK (plT rs)) (tV (plT rs)))]) (plR rs) PR.toD (PR.nO (plT rs)) (bA rfl rfl) (by lia) λr c=>PF rfl rfl (sB (ah rfl (ah rfl rfl)) (PL (plT rs) r (e r c) (h.b r c).1 (h.b r c).2));refine yJ ?_ (yL rfl)
 have j:nJ (ve (ae 2)) [.im (.lst (rs.map Ro.toD)),.im (.lst ((plR rs).map PR.toD)),.im (.kd (tK (plT rs)) (tV (plT rs)))]=aa (.lst (((plT rs).map sT).map .fz)):=by
  show aa (O.lst (((tK (plT rs)).map kD).map .fz))=_;unfold tK;rw[map_map,map_map,map_map];rfl
 have p:oT (lq (ae 2)) [.im (.lst (rs.map Ro.toD)),.im (.lst ((plR rs).map PR.toD)),.im (.kd (tK (plT rs)) (tV (plT rs)))]=aa (.fz (.int ((plT rs).length:Nat))):=by
  show aa (O.fz (.int ((tK (plT rs)).length:Nat)))=_;unfold tK;rw[au]
 exact GY (wJ j (wJ (GY (wJ p (wJ q rfl))) rfl))
def Bv{n:Nat}{pre post:LN}(h:cp n=pre++i::post):i=pre.length/\pre.length<n:=by
 have e:=congrArg fB h;rw[dH,aM,bT]at e;have c:=congrArg (λl:LN=>l[pre.length]?) h;rw[pR (by lia),jO (aU _),Nat.sub_self]at c;exact⟨(cz c).symm,by lia⟩
def Bw(h:PsK ks ps):tot (psN ks ps)<=1728:=by
 have:=(pM h).1;have e:=GH (psN ks ps).reverse;rw[kA]at e;lia
def G1(hd:mq d ks)(ps:List Pr)(h:PsK ks ps):vC [.lst (ps.map prD),d]=aa (.int (tot (psN ks ps):Nat)):=by
 apply cn;unfold vB;show wp _ [.im (.lst (ps.map prD)),.im d,.no,.no,.no] _;apply ao;refine cw (d:=.int (tot (psN ks []):Nat)) rfl ?_;show wp _ [.im (.lst (ps.map prD)),.im d,.im (.int (tot (psN ks []):Nat)),.no,.no] _;apply ao;refine cM ps prD (λpre ρ=>∃c e,ρ=[.im (.lst (ps.map prD)),.im d,.im (.int (tot (psN ks pre):Nat)),c,e]) (bA rfl rfl) ⟨_,_,rfl⟩ ?_ ?_
 .rintro pre p post ρ j ⟨c,e,rfl⟩;refine⟨_,rfl,?_⟩;have q:p∈ps:=by rw[j];simp
  have z:=Bw (Bk (j▸h));have v:=(h.l p q).2;have u:tot (psN ks (pre++[p]))=tot (psN ks pre)*(kOf ks p.2).length:=by unfold psN;rw[bp];exact Bg _ _
  show wp _ [.im (.lst (ps.map prD)),.im d,.im (.int (tot (psN ks pre):Nat)),.im (sT p.1),.im (sT p.2)] _;refine cw (d:=.int (tot (psN ks (pre++[p])):Nat)) (ap rfl (aN (ah (ap rfl rfl (Bj hd (h.k p q))) rfl) (dL (kOf ks p.2) sT)) ?_) ⟨_,_,rfl⟩;rw[u];exact(lW (.inl (.inl ⟨by lia,by lia⟩))).trans (by rw[Int.natCast_mul])
 .rintro ρ ⟨c,e,rfl⟩;exact uM rfl (cP rfl)
abbrev chW(ks:List Kd):List Pr->Nat->As
 | [],_=>[]
 |p::R,i=>(p.1,(kOf ks p.2).getD (i % (kOf ks p.2).length) [])::chW ks R (i / (kOf ks p.2).length)
abbrev dvW(ks:List Kd)(R:List Pr)(i:Nat):Nat:=R.foldl (λx p=>x / (kOf ks p.2).length) i
def G2(ks:List Kd)(p:Pr):∀(R:List Pr) (i:Nat),chW ks (R++[p]) i=chW ks R i++[(p.1,(kOf ks p.2).getD (dvW ks R i % (kOf ks p.2).length) [])]
 | [],_=>rfl
 |q::R,i=>by
  rw[mG,chW,G2 ks p R];rfl
def sC(ks:List Kd):∀(R:List Pr) (i:Nat),(chW ks R i).map (·.1)=vrs R
 | [],_=>rfl
 |q::R,i=>by rw[chW,cS,sC ks R];rfl
def Bx(ks:List Kd)(R:List Pr)(i:Nat):(chW ks R i).length=R.length:=by
 have:=congrArg fB (sC ks R i)
 rwa [au,au]at this
def G3{c:Type}(d:c):∀(R:List (List c)) (i:Nat),(nV d R i).length=R.length
 | [],_=>rfl
 |ns::R,i=>by unfold nV;rw[aM,G3 d R];rfl
def G4(ks:List Kd):∀(R:List Pr) (i:Nat),(chW ks R i).reverse=(vrs R.reverse).zip (nV [] (psN ks R) i)
 | [],_=>rfl
 |q::R,i=>by
  rw[chW,gQ,G4 ks R];show _=(vrs (q::R).reverse).zip (nV [] (psN ks R) _++[_]);rw[gQ,show vrs (R.reverse++[q])=vrs R.reverse++[q.1]from bp];rw[zip_append (by rw[G3];unfold psN;rw[au,au,jP])];rfl
def wK{ks:List Key}{k:Key}(h:fV ks k=ag)(xs:LD)(d:D):kZ ks k=ks++[k]/\iy ks xs k d=xs++[d]:=by
 unfold kZ iy;rw[h];exact⟨rfl,rfl⟩
def PM(n:As)(v:LN):fV (aK n) (.inr (tx v))=decide (v∈n.map (·.1)):=by
 have:=Br (n.map (·.1)) v;unfold tK at this;rw[map_map]at this;exact this
def PN(ns:L2N)(i:Nat)(h:0<ns.length)(x:LN)(e:x=ns.getD (i % ns.length) []):atI (ns.map sT) ((i:Int) % (ns.length:Int))=aa (sT x):=by
 have c:=Nat.mod_lt i h;subst e;have:(i:Int) % (ns.length:Int)=((i % ns.length:Nat):Int):=by lia
 rw[this];unfold atI ixN;rw[if_pos (by lia),if_pos (by rw[au];lia),ax,eM,gP,cR c,gy,cR c];rfl
abbrev chO(c:As):O:=.dic (aK c) ((aV c).map .fz)
def sD(c:As):(chO c).kn=ac/\(chO c).toD=asD c/\(chO c).flat=ac:=by
 refine⟨?_,?_,?_⟩
 .show O.kns ((aV c).map .fz)=ac;exact wI _
 .show D.dic (aK c) (O.toDs ((aV c).map .fz))=_;rw[xZ];rfl
 .show O.flats ((aV c).map .fz)=ac;unfold aV
  induction c with
  |nil=>rfl
  |cons p c e=>rw[cS,cS];exact e
def G5(hd:mq d ks)(ps:List Pr)(h:PsK ks ps)(hn:(vrs ps).Nodup)(i:Nat):vA [.int (i:Nat),.lst (ps.map prD),d]=aa (chO (chW ks ps.reverse i)):=by
 apply Bt;unfold vz;show wp _ [.im (.int (i:Nat)),.im (.lst (ps.map prD)),.im d,.no,.no,.no,.no] _;apply ao;refine nF (o:=.nx [.im (.int (i:Nat)),.im (.lst (ps.map prD)),.im d,.ownd (aK (chW ks [] i)) (aV (chW ks [] i)),.no,.no,.no]) rfl ?_;have T:=h.n;apply ao;refine cM ps.reverse prD (λpre ρ=>∃v A u,ρ=[.im (.int (dvW ks pre i:Nat)),.im (.lst (ps.map prD)),.im d,.ownd (aK (chW ks pre i)) (aV (chW ks pre i)),v,A,u]) (Lr (ah rfl rfl)) ⟨_,_,_,rfl⟩ ?_ ?_
 .rintro pre p post ρ B ⟨v,A,u,rfl⟩;refine⟨_,rfl,?_⟩;have J:p∈ps:=by rw[<- kB,B];simp
  have I:=h.l p J;have G:=Bj hd (h.k p J)
  have L:pre.length<=3:=by
   have:=congrArg fB B;rw[jP,aM]at this;lia
  have q:p.1∉vrs pre:=λz=>by
   have H:(vrs ps.reverse).Nodup:=by rw[show vrs ps.reverse=(vrs ps).reverse from mE];exact(oe _).nodup_iff.mpr hn
   rw[B,show vrs (pre++p::post)=vrs pre++p.1::vrs post from bp]at H;exact(eG.mp H).2.2 _ z _ bK rfl
  have E:fV (aK (chW ks pre i)) (.inr (tx p.1))=ag:=by rw[PM,sC];exact decide_eq_false q
  rw[G2];have N:dvW ks (pre++[p]) i=dvW ks pre i / (kOf ks p.2).length:=by unfold dvW;rw[mD];rfl
  rw[N,sy,Bl];have e:(aK (chW ks pre i)).length<16777216:=by unfold aK;rw[au,Bx];lia
  generalize dvW ks pre i=j;generalize M:(kOf ks p.2).getD (j % (kOf ks p.2).length) []=x;generalize chW ks pre i=c at E e;generalize kOf ks p.2=ns at I G M;show wp _ [.im (.int (j:Nat)),.im (.lst (ps.map prD)),.im d,.ownd (aK c) (aV c),.im (sT p.1),.im (sT p.2),u] _;apply ao;refine K8 (d:=.tup [.int ((j:Int) / (ns.length:Int)),.int ((j:Int) % (ns.length:Int))]) (aN (ah rfl (ah (aN (ah (ap rfl rfl G) rfl) (dL ns sT)) rfl)) ?_) rfl ?_
  .show(if 0<(ns.length:Int)/\(ns.length:Int)<1073741824 then _ else ab)=_;rw[if_pos (by lia)]
  show wp _ [.im (.int ((j:Int) / (ns.length:Int))),.im (.lst (ps.map prD)),.im d,.ownd (aK c) (aV c),.im (sT p.1),.im (sT p.2),.im (.int ((j:Int) % (ns.length:Int)))] _;have C:mIx (bh (m2 gf (ae 2) (ae 5))) (ae 6) [.im (.int ((j:Int) / (ns.length:Int))),.im (.lst (ps.map prD)),.im d,.ownd (aK c) (aV c),.im (sT p.1),.im (sT p.2),.im (.int ((j:Int) % (ns.length:Int)))]=aa (sT x):=am (bA (ap rfl rfl G) rfl) rfl (PN ns j I.1 x M.symm);have Q:(j:Int) / (ns.length:Int)=((j / ns.length:Nat):Int):=by lia
  refine⟨.nx [.im (.int ((j / ns.length:Nat):Int)),.im (.lst (ps.map prD)),.im d,.ownd (aK c++aK [(p.1,x)]) (aV c++aV [(p.1,x)]),.im (sT p.1),.im (sT p.2),.im (.int ((j:Int) % (ns.length:Int)))],?_,⟨_,_,_,rfl⟩⟩;unfold nC;rw[C,ax];show(if (aK c).length<16777216 then aa (Fl.nx [.im (.int ((j:Int) / (ns.length:Int))),.im (.lst (ps.map prD)),.im d,.ownd (kZ (aK c) (.inr (tx p.1))) (iy (aK c) (aV c) (.inr (tx p.1)) (sT x)),.im (sT p.1),.im (sT p.2),.im (.int ((j:Int) % (ns.length:Int)))]) else ab)=_;rw[if_pos e,(wK E (aV c) (sT x)).1,(wK E (aV c) (sT x)).2,Q];rfl
 .rintro ρ ⟨v,A,u,rfl⟩;exact yJ rfl (yL rfl)
def By:∀{n:As} (_:(n.map (·.1)).Nodup) {p:LN×LN} (_:p∈n),n.find? (λq=>decide (q.1=p.1))=aa p
 | [],_,p,hp=>(b6 hp).elim
 |a::n,h,p,hp=>by
  rw[cS,gC]at h;rw[og]
  rcases b8.mp hp with e |e
  .subst e;rw[decide_eq_true rfl]
  .rw[decide_eq_false (λz:a.1=p.1=>h.1 (by rw[z];exact mem_map_of_mem e))];exact By h.2 e
variable{m:As}
def G6(h:n.Perm m)(hn:(n.map (·.1)).Nodup):nmF n=nmF m:=funext λw=>by
 have hm:(m.map (·.1)).Nodup:=(h.map _).nodup_iff.mp hn;unfold nmF
 by_cases e:∃p∈n,p.1=w
 .obtain⟨p,c,rfl⟩:=e;rw[By hn c,By hm (h.mem_iff.mp c)]
 .rw[sR.mpr λp c z=>e ⟨p,c,of_decide_eq_true z⟩,sR.mpr λp c z=>e ⟨p,h.mem_iff.mpr c,of_decide_eq_true z⟩]
def wL(h:nmF n=nmF m):tT n=tT m:=funext λt=>by unfold tT;rw[h]
def wM(h:nmF n=nmF m)(t:Th):kw n t->kw m t:=λz=>by unfold kw at z ⊢;rw[<- h];exact z
def PQ(h:nmF n=nmF m)(bd:List Pa):cD n bd=cD m bd:=by unfold cD;rw[h]
def PU(h:PsK ks ps):d5 (psN ks ps)=(cp (tot (psN ks ps))).map λi=>nV [] (psN ks ps.reverse) i:=by
 have e:psN ks ps.reverse=(psN ks ps).reverse:=mE;rw[e]
 have j:∀ns∈(psN ks ps).reverse,0<ns.length:=λns hn=>by
  obtain⟨p,u,rfl⟩:=cq.mp (kB.mp hn);exact(h.l p u).1
 have q:=GH (psN ks ps).reverse;have c:=Pc [] (psN ks ps).reverse j;rw[kA]at q c;apply lA;intro i
 by_cases hi:i<tot (psN ks ps)
 .rw[c i hi,eM,pR hi];rfl
 .rw[sJ (by lia),sJ (by rw[au,dH];lia)]
def G7(h:PsK ks ps)(n:As):nbw ks ps n=(cp (tot (psN ks ps))).map λi=>n++(chW ks ps.reverse i).reverse:=by
 unfold nbw;rw[PU h,map_map];refine pW λi _=>?_;rw[G4,kA];rfl
abbrev sf(ws:L2N):LN:=if ws=[] then [] else 40::jn [44] ws
def G8(a w:LN):∀ws:L2N,ws≠[]->jn a (ws++[w])=jn a ws++a++w
 | [],h=>absurd rfl h
 | [x],_=>rfl
 |x::y::r,_=>by
  have c:=G8 a w (y::r) (by simp);show x++a++jn a (y::r++[w])=_;rw[c];show _=x++a++jn a (y::r)++a++w;simp
def PV(ws:L2N)(w:LN):sf (ws++[w])=sf ws++([[40,44].getD (if ws=[] then 0 else 1) 0]++w):=by
 unfold sf;rw[if_neg (by simp)]
 by_cases h:ws=[]
 .subst h;rfl
 .rw[if_neg h,if_neg h,G8 _ _ _ h];simp
def G9(ws:L2N)(e:ws.length<=3)(c:∀w∈ws,w.length<=8):(sf ws).length<=40:=by
 have j:=wE [44] ws;have s:=wF 8 ws c;rw[dR]at j;unfold sf;split
 .simp
 .rw[bT];lia
def PY:("(,":Str)=tx [40,44]:=by decide +kernel
def PZ{c:Type}(l:List c)(i:Nat)(d:c)(h:i<l.length):l.take (i+1)=l.take i++[l.getD i d]:=by
 rw[take_succ,cR h,gy,cR h];rfl
def wN(ha:fQ d n)(t:Th)(h:kw n t):m_7 [kdD t,d]=aa (sT (tT n t)):=by
 have G:t.2.length<=3:=by have:=h.l;rwa [au]at this
 have v:∀w∈t.2,(nmF n w).length<=8:=λw e=>(h.w _ (mem_map_of_mem e)).2;have H:t.1.length<=8:=h.a;apply cn;unfold b_7;show wp _ [.im (kdD t),.im d,.no,.no,.no] _;apply ao;refine cw (d:=sT (t.1++sf ((t.2.take 0).map (nmF n)))) (am rfl rfl (by rw[take_zero];show aa (sT t.1)=aa (sT (t.1++[]));rw[cx])) ?_;show wp _ [.im (kdD t),.im d,.im (sT (t.1++sf ((t.2.take 0).map (nmF n)))),.no,.no] _;apply ao;refine cM (cp t.2.length) (λi=>D.tup [.int (i:Nat),sT (t.2.getD i [])]) (λpre ρ=>∃p u,ρ=[.im (kdD t),.im d,.im (sT (t.1++sf ((t.2.take pre.length).map (nmF n)))),p,u]) (K2 [] (ah (am rfl rfl rfl) rfl)) ⟨_,_,rfl⟩ ?_ ?_
 .rintro pre i post ρ E ⟨p,u,rfl⟩;obtain⟨rfl,hi⟩:=Bv E;refine⟨_,rfl,?_⟩;rw[aM,dR,PZ t.2 pre.length [] hi,bp,sU,PV,<- eU];have hm:t.2.getD pre.length []∈t.2:=by rw[gy,cR hi];exact ly hi
  have A:=v _ hm
  have j:=G9 ((t.2.take pre.length).map (nmF n)) (by rw [au,hJ]; lia) (λw e=>by
   obtain⟨x,B,rfl⟩:=cq.mp e;exact v x (sP B))
  have hz:(t.2.take pre.length).map (nmF n)=[]↔pre.length=0:=by
   rw[map_eq_nil_iff,take_eq_nil_iff];constructor
   .rintro(z |z)
    .exact z
    .rw[z]at hi;simp at hi
   .exact .inl
  generalize (t.2.take pre.length).map (nmF n)=ws at j hz;generalize t.2.getD pre.length []=w at A;generalize pre.length=k at hz;show wp _ [.im (kdD t),.im d,.im (sT (t.1++sf ws)),.im (.int (k:Nat)),.im (sT w)] _
  have C:m2 lh (kSt "(,") (gg (m2 dGt (ae 3) (kI 0))) [.im (kdD t),.im d,.im (sT (t.1++sf ws)),.im (.int (k:Nat)),.im (sT w)]=aa (sT [[40,44].getD (if ws=[] then 0 else 1) 0]):=by
   refine ap (y:=.int (if ws=[] then 0 else 1)) (x:=.str (tx [40,44])) (by rw[PY]) ?_ ?_
   .unfold gg;rw[ap rfl rfl i4,ax];show aa (D.int (if decide ((k:Int)>0)=ac then 1 else 0))=_
    congr 2
    by_cases z:ws=[]
    .rw[if_pos z,if_neg (by rw[hz.mp z];decide)]
    .rw[if_neg z,if_pos (decide_eq_true (by have:k≠0:=λq=>z (hz.mpr q);lia))]
   .rw[AX [40,44] _ (by split <;> simp) (by simp)]
    by_cases z:ws=[]
    .rw[if_pos z,if_pos z];rfl
    .rw[if_neg z,if_neg z];rfl
  refine sk rfl (aQ (ap C (wC (w:=w) rfl rfl rfl ha) (Bm [[40,44].getD (if ws=[] then 0 else 1) 0] (nmF n w) (by rw[dR];lia)))) (Pj (t.1++sf ws) ([[40,44].getD (if ws=[] then 0 else 1) 0]++nmF n w) (by simp only[aM,dR];lia)) ⟨.im (.int (k:Nat)),.im (sT w),?_⟩;rfl
 .rintro ρ ⟨p,u,rfl⟩;rw[dH,take_length]
  have j:=G9 (t.2.map (nmF n)) (by rw [au]; exact G) (λw e=>by
   obtain⟨x,B,rfl⟩:=cq.mp e;exact v x B)
  refine c8 (d:=sT (tT n t)) (ap (y:=sT (if t.2=[] then [] else [41])) rfl (ap (y:=.int (if t.2=[] then 0 else 1)) (x:=.str ")") rfl ?_ ?_) ?_) (cP rfl)
  .unfold gg;rw[ap (aN (ah (am rfl rfl rfl) rfl) (dL t.2 sT)) rfl i4,ax];show aa (D.int (if decide ((t.2.length:Int)>0)=ac then 1 else 0))=_
   congr 2
   by_cases z:t.2=[]
   .rw[if_pos z,if_neg (by rw[z];decide)]
   .rw[if_neg z,if_pos (decide_eq_true (by have:=lz.mpr z;lia))]
  .split
   .rfl
   .rw[clT];rfl
  .unfold tT thT sf
   by_cases z:t.2=[]
   .have c:t.2.map (nmF n)=[]:=by rw[z];rfl
    rw[if_pos c,if_pos z,if_pos c];exact(Bm _ _ (by simp;lia)).trans (by simp)
   .have c:t.2.map (nmF n)≠[]:=by simpa using z
    unfold sf at j;rw[if_neg c]at j;rw[if_neg c,if_neg z,if_neg c];exact(Bm _ _ (by rw[aM,dR];lia)).trans (by simp)
def P0(ha:fQ d n)(bd:List Pa):Af [.lst (bd.map Pa.toD),d]=aa (.bl (!cD n bd)):=by
 apply cn;unfold vw;show wp _ [.im (.lst (bd.map Pa.toD)),.im d,.no,.no] _;apply ao;refine cM bd Pa.toD (λpre ρ=>cD n pre=ag/\∃j c,ρ=[.im (.lst (bd.map Pa.toD)),.im d,j,c]) (bA rfl rfl) ⟨rfl,_,_,rfl⟩ ?_ ?_
 .rintro pre p post ρ u ⟨q,j,c,rfl⟩;refine⟨_,rfl,?_⟩
  have es:∀x,cD n (pre++[x])=(match x with |.un a b=>decide (nmF n a=nmF n b) | _=>ag):=λx=>by
   have:cD n (pre++[x])=(cD n pre || cD n [x]):=by unfold cD;rw[any_append]
   rw[this,q];unfold cD
   cases x <;> simp
  show wp _ [.im (.lst (bd.map Pa.toD)),.im d,.im p.toD,c] _
  cases p with
  |is t=>
   refine aT (b:=ag) (aL (ap (am rfl rfl rfl) rfl rfl)) (λe=>nomatch e) λ_=>bj ⟨es _,_,_,rfl⟩
  |no t=>
   refine aT (b:=ag) (aL (ap (am rfl rfl rfl) rfl rfl)) (λe=>nomatch e) λ_=>bj ⟨es _,_,_,rfl⟩
  |ct w k its ov=>
   refine aT (b:=ag) (aL (ap (am rfl rfl rfl) rfl (by cases w <;> rfl))) (λe=>nomatch e) λ_=>bj ⟨es _,_,_,rfl⟩
  |un a b=>
   refine aT (b:=ac) (aL (ap (am rfl rfl rfl) rfl rfl)) (λ_=>?_) λe=>nomatch e;apply ao;refine cw (d:=sT (nmF n a)) (wC (w:=a) rfl (am rfl rfl rfl) (am rfl rfl rfl) ha) ?_;show wp _ [.im (.lst (bd.map Pa.toD)),.im d,.im (Pa.toD (.un a b)),.im (sT (nmF n a))] _;refine aT (b:=decide (nmF n a=nmF n b)) (aL (ap rfl (wC (w:=b) rfl (am rfl rfl rfl) (am rfl rfl rfl) ha) (eqT _ _))) (λe=>?_) λe=>bj ⟨(es _).trans e,_,_,rfl⟩;refine c8 rfl (cP ?_)
   have:cD n bd=ac:=by
    unfold cD;rw[any_eq_true];exact⟨.un a b,by rw[u];simp,e⟩
   rw[this];rfl
 .rintro ρ ⟨q,j,c,rfl⟩;refine c8 rfl (cP ?_);rw[q];rfl
structure Sm(n m:As):Prop where
 p:n.Perm m
 d:(m.map (·.1)).Nodup
def Sm.f(h:Sm n m):nmF n=nmF m:=G6 h.p ((h.p.map _).nodup_iff.mpr h.d)
def wO(n:Int):pj [.int n]=aa (.bl ac):=by
 apply cn;show wp _ [.im (.int n)] _;exact c8 (lR (a:=ac) (b:=ac) rfl (DF (a:=ag) rfl)) (cP rfl)
def P1(e:t∈tb):atI (tb.map sT) ((pos tb t:Nat):Int)=aa (sT t):=by
 have c:=sL e;unfold atI ixN pos;rw[if_pos (by lia),if_pos (by rw[au];lia),ax,eM,gP,cR c,List.getElem_idxOf c];rfl
def wP(c:t∈tb):pq [.int (pos tb t:Nat),sT t,.lst (tb.map sT)]=aa (.bl ac):=by
 have e:=sL c;apply cn;show wp _ [.im (.int (pos tb t:Nat)),.im (sT t),.im (.lst (tb.map sT))] _;refine c8 (lR (a:=ac) (b:=ac) (aN (ah rfl rfl) (wO _)) (lR (a:=ac) (b:=ac) ((D7 rfl rfl uL (aN (ah rfl rfl) (dL tb sT)) uK).trans ?_) (ap (am rfl rfl (P1 c)) rfl (Dy (d:=sT t) rfl)))) (cP rfl);rw[decide_eq_true (show(0:Int)<=((pos tb t:Nat):Int) by lia),decide_eq_true (show((pos tb t:Nat):Int)<(tb.length:Int) by unfold pos;lia)];rfl
variable{dk:D}
def P2(hk:mq dk ks)(ha:fQ d n)(hs:Sm n m)(hl:n.length<=100){w:Bool}{its:List Ti}(h:ItK ks m its ov)(ht:∀z∈itF ks ov m its,z.1∈tb):Ai [.lst ((itF ks ov m its).map (niD tb)),(Pa.ct w k its ov).toD,dk,d,.lst (tb.map sT)]=aa (.bl ac):=by
 apply cn;unfold vD;generalize hF:D.lst ((itF ks ov m its).map (niD tb))=j
 have e5:∀ρ:LS,ρ[1]?=aa (.im (Pa.ct w k its ov).toD)->mIx (ak 1) (kI 2) ρ=aa (.lst (its.map dN))/\mIx (ak 1) (kI 3) ρ=aa (.lst (ov.map prD)):=λρ h=>by
  have hv:ak 1 ρ=aa [.str (if w then "least" else "most"),.int k,.lst (its.map dN),.lst (ov.map prD)]:=by unfold ak;rw[h];rfl
  exact⟨am hv rfl rfl,am hv rfl rfl⟩
 generalize (Pa.ct w k its ov).toD=E at e5;show wp _ [.im j,.im E,.im dk,.im d,.im (.lst (tb.map sT)),.no,.no,.no,.no,.no] _;have hvc:∀ρ:LS,ρ[0]?=aa (.im j)->ak 0 ρ=aa ((itF ks ov m its).map (niD tb)):=λρ h=>by unfold ak;rw[h,<- hF];rfl
 have I:bE [j]=aa (.int ((itF ks ov m its).length:Nat)):=by rw[<- hF];exact dL _ _
 have htl:=Bw h.p;have h60:=h.l;have h3:=h.p.n;have U:=G7 h.p m;apply ao;refine aT (b:=ag) (eQ (b:=ac) (dZ (by rw[<- hF];rfl) rfl)) (λe=>nomatch e) λ_=>bj ?_;apply ao;refine cw (d:=.int ((itF ks ov m ([]:List Ti)).length:Nat)) rfl ?_;show wp _ [.im j,.im E,.im dk,.im d,.im (.lst (tb.map sT)),.im (.int ((itF ks ov m ([]:List Ti)).length:Nat)),.no,.no,.no,.no] _;apply ao;refine cM its dN (λpre ρ=>∃a6 a7 G B,ρ=[.im j,.im E,.im dk,.im d,.im (.lst (tb.map sT)),.im (.int ((itF ks ov m pre).length:Nat)),a6,a7,G,B]) (bA (e5 _ rfl).1 rfl) ⟨_,_,_,_,rfl⟩ ?_ ?_
 .rintro pre z post ρ he ⟨a6,a7,G,B,rfl⟩;refine⟨_,rfl,?_⟩;have hz:z∈its:=by rw[he];simp
  have es:itF ks ov m (pre++[z])=itF ks ov m pre++(cp (tot (psN ks ov))).map λi=>(tT (m++(chW ks ov.reverse i).reverse) z.1,z.2):=by
   unfold itF;rw[eS,U,pT,map_map];rfl
  have H:itF ks ov m its=itF ks ov m pre++((cp (tot (psN ks ov))).map λi=>(tT (m++(chW ks ov.reverse i).reverse) z.1,z.2))++itF ks ov m post:=by
   rw[he,show pre++z::post=pre++[z]++post by simp];rw[<- es];unfold itF;rw[eS]
  show wp _ [.im j,.im E,.im dk,.im d,.im (.lst (tb.map sT)),.im (.int ((itF ks ov m pre).length:Nat)),.im (kdD z.1),.im (.int z.2),G,B] _;rw[es,aM,au,dH];generalize hT:itF ks ov m pre=T at H;refine cM (cp (tot (psN ks ov))) (λ(i:Nat)=>D.int i) (λA ρ=>∃G B,ρ=[.im j,.im E,.im dk,.im d,.im (.lst (tb.map sT)),.im (.int ((T.length+A.length:Nat):Int)),.im (kdD z.1),.im (.int z.2),G,B]) ((yu (n:=((tot (psN ks ov):Nat):Int)) (ah (aN (ah (e5 _ rfl).2 (ah rfl rfl)) (G1 hk ov h.p)) rfl) (by lia) (by lia)).trans (by rw[gP])) ⟨_,_,rfl⟩ ?_ ?_
  .rintro A i ipost ρ hie ⟨G,B,rfl⟩;refine⟨_,rfl,?_⟩;obtain⟨hi,C⟩:=Bv hie;subst hi;have v:m++(chW ks ov.reverse A.length).reverse∈nbw ks ov m:=by rw[U];exact cq.mpr ⟨A.length,jm.mpr C,rfl⟩
   have J:=h.t z hz _ v;have hvo:(vrs ov).Nodup:=(eG.mp h.d).2.1;have L:=G5 hk ov h.p hvo A.length;have M:=sC ks ov.reverse A.length;have N:=Bx ks ov.reverse A.length
   have q:(itF ks ov m its)[T.length+A.length]?=aa (tT (m++(chW ks ov.reverse A.length).reverse) z.1,z.2):=by
    rw[H,eU,jO (by lia),w6,mx (by rw[au,dH];exact C),eM,pR C];rfl
   have eZ:=(eD.mp q).1;have Q:=ht _ (sO q);rw[aM,dR];generalize A.length=i at v J L M N C q eZ Q;generalize chW ks ov.reverse i=c at v J L M N q Q;rw[jP]at N
   have Y:((n++c).map (·.1)).Nodup:=by
    rw[bp,M,show vrs ov.reverse=(vrs ov).reverse from mE];exact(((hs.p.map _).append (oe _)).nodup_iff).mpr h.d
   have hnm:nmF (n++c)=nmF (m++c.reverse):=G6 (hs.p.append (oe c).symm) Y
   have hix:atI ((itF ks ov m its).map (niD tb)) ((T.length+i:Nat):Int)=aa (niD tb (tT (m++c.reverse) z.1,z.2)):=by
    unfold atI ixN;rw[if_pos (by lia),if_pos (by rw[au];lia),ax,eM,gP,q];rfl
   show wp _ [.im j,.im E,.im dk,.im d,.im (.lst (tb.map sT)),.im (.int ((T.length+i:Nat):Int)),.im (kdD z.1),.im (.int z.2),.im (.int (i:Nat)),B] _;apply ao;refine Fi rfl ha ?_;show wp _ [.im j,.im E,.im dk,.im d,.im (.lst (tb.map sT)),.im (.int ((T.length+i:Nat):Int)),.im (kdD z.1),.im (.int z.2),.im (.int (i:Nat)),.ownd (aK n) (aV n)] _;apply ao;refine Fm (ks:=aK n) (xs:=aV n) (r:=(aK c,aV c)) rfl ((Bs (sB (ah rfl (ah (e5 _ rfl).2 (ah rfl rfl))) L) (sD c).1).trans (by rw[(sD c).2.1])) rfl ?_ ?_ ?_
   .rw[<- sy];exact wD (λp:LN×LN=>p.1) _ Y
   .unfold aK;rw[au,au];lia
   dsimp only;rw[<- sy,<- Bl];show wp _ [.im j,.im E,.im dk,.im d,.im (.lst (tb.map sT)),.im (.int ((T.length+i:Nat):Int)),.im (kdD z.1),.im (.int z.2),.im (.int (i:Nat)),.ownd (aK (n++c)) (aV (n++c))] _;have u:∀ρ:LS,ρ[0]?=aa (.im j)->ρ[5]?=aa (.im (.int ((T.length+i:Nat):Int)))->mIx (ak 0) (ae 5) ρ=aa (niD tb (tT (m++c.reverse) z.1,z.2)):=λρ h1 h2=>am (hvc ρ h1) (show ae 5 ρ=aa (.int ((T.length+i:Nat):Int)) by unfold ae;rw[h2]) hix;apply ao;refine aT (b:=ag) (eY (a:=ag) (b:=ag) (aL (ap rfl (aN (ah rfl rfl) I) (yC.trans ?_))) (eY (a:=ag) (b:=ag) (eQ (b:=ac) (dZ (by unfold fP;rw[u _ rfl rfl];rfl) rfl)) (aL (ap (aN (ah (u _ rfl rfl) rfl) rfl) rfl rfl)))) (λe=>nomatch e) λ_=>bj ?_
   .rw[decide_eq_false (by lia)]
   apply ao;refine aT (b:=ag) (eQ (b:=ac) (dZ (oQ (ah (am (bA (u _ rfl rfl) rfl) rfl rfl) (ah (aN (ah rfl (ah rfl rfl)) ((wN (show fQ (.dic (aK (n++c)) (aV (n++c))) (n++c)from rfl) z.1 (wM hnm.symm _ J)).trans (by rw[wL hnm]))) (ah rfl rfl))) (wP Q) rfl) rfl)) (λe=>nomatch e) λ_=>bj ?_;apply ao;refine aT (b:=ag) (eY (a:=ag) (b:=ag) (eQ (b:=ac) (dZ (aN (ah (am (bA (u _ rfl rfl) rfl) rfl rfl) rfl) (wO _)) rfl)) (aL (ap (am (bA (u _ rfl rfl) rfl) rfl rfl) rfl (qR (d:=.int z.2) rfl)))) (λe=>nomatch e) λ_=>bj ?_;refine sk rfl (aQ rfl) (show _=aa (D.int ((T.length+(i+1):Nat):Int))from ?_) ⟨_,_,rfl⟩;show aa (D.int (((T.length+i:Nat):Int)+1))=_
   congr 2
  .rintro ρ ⟨G,B,rfl⟩;rw[dH];exact⟨_,_,_,_,rfl⟩
 .rintro ρ ⟨a6,a7,G,B,rfl⟩;exact c8 (ap rfl (aN (ah rfl rfl) I) ((j3 _ _).trans (by rw[beq_self_eq_true]))) (cP rfl)
def P3(A:mq dk ks)(ha:fQ d n)(v:Sm n m)(B:n.length<=100)(p:Pa)(q:PaK ks m p)(C:isU p=ag)(u:∀t∈ppT (ppF ks m p),t∈tb):Aj [(ppF ks m p).nD tb,p.toD,dk,d,.lst (tb.map sT)]=aa (.bl ac):=by
 have c:=v.f;apply cn;unfold vE;show wp _ [.im ((ppF ks m p).nD tb),.im p.toD,.im dk,.im d,.im (.lst (tb.map sT)),.no] _
 cases p with
 |un a b=>nomatch C
 |is t=>
  have j:tT m t∈tb:=u _ (by simp[ppF,ppT]);apply ao;refine aT (b:=ag) (eQ (b:=ac) (dZ rfl rfl)) (λe=>nomatch e) λ_=>bj ?_;apply ao;refine aT (b:=ac) (eY (a:=ac) (b:=ag) (aL (ap (am rfl rfl rfl) rfl rfl)) (aL (ap (am rfl rfl rfl) rfl rfl))) (λ_=>?_) λe=>nomatch e;apply ao;refine cw (d:=.str "in") (am (ds:=[.str "out",.str "in"]) rfl (show _=aa (D.int 1) by unfold gg;rw[ap (am rfl rfl rfl) rfl rfl];rfl) rfl) ?_;apply ao;refine aT (b:=ag) (eY (a:=ag) (b:=ag) (aL (ap (aN (ah rfl rfl) rfl) rfl rfl)) (aL (ap (am rfl rfl rfl) rfl rfl))) (λe=>nomatch e) λ_=>bj ?_
  exact c8 (aN (ah (am rfl rfl rfl) (ah (aN (ah (am rfl rfl rfl) (ah rfl rfl)) ((wN ha t (wM c.symm _ q)).trans (by rw[wL c]))) (ah rfl rfl))) (wP j)) (cP rfl)
 |no t=>
  have j:tT m t∈tb:=u _ (by simp[ppF,ppT]);apply ao;refine aT (b:=ag) (eQ (b:=ac) (dZ rfl rfl)) (λe=>nomatch e) λ_=>bj ?_;apply ao;refine aT (b:=ac) (eY (a:=ag) (b:=ac) (aL (ap (am rfl rfl rfl) rfl rfl)) (aL (ap (am rfl rfl rfl) rfl rfl))) (λ_=>?_) λe=>nomatch e;apply ao;refine cw (d:=.str "out") (am (ds:=[.str "out",.str "in"]) rfl (show _=aa (D.int 0) by unfold gg;rw[ap (am rfl rfl rfl) rfl rfl];rfl) rfl) ?_;apply ao;refine aT (b:=ag) (eY (a:=ag) (b:=ag) (aL (ap (aN (ah rfl rfl) rfl) rfl rfl)) (aL (ap (am rfl rfl rfl) rfl rfl))) (λe=>nomatch e) λ_=>bj ?_
  exact c8 (aN (ah (am rfl rfl rfl) (ah (aN (ah (am rfl rfl rfl) (ah rfl rfl)) ((wN ha t (wM c.symm _ q)).trans (by rw[wL c]))) (ah rfl rfl))) (wP j)) (cP rfl)
 |ct w k its ov=>
  have hi:=P2 (w:=w) (k:=k) A ha v B q (λz hz=>u z.1 (cq.mpr ⟨z,hz,rfl⟩));apply ao;refine aT (b:=ag) (eQ (b:=ac) (dZ rfl rfl)) (λe=>nomatch e) λ_=>bj ?_;apply ao
  refine aT (b:=ag) (eY (a:=ag) (b:=ag) (aL (ap (am rfl rfl rfl) rfl (by cases w <;> rfl))) (aL (ap (am rfl rfl rfl) rfl (by cases w <;> rfl)))) (λe=>nomatch e) λ_=>bj ?_
  apply ao;refine aT (b:=ag) (eY (a:=ag) (b:=ag) (aL (ap (aN (ah rfl rfl) rfl) rfl rfl)) (eY (a:=ag) (b:=ag) (aL (ap (am rfl rfl rfl) (am rfl rfl rfl) (qR (d:=.str (if w then "least" else "most")) rfl))) (eY (a:=ag) (b:=ag) (eQ (b:=ac) (dZ (aN (ah (am rfl rfl rfl) rfl) (wO k)) rfl)) (aL (ap (am rfl rfl rfl) (am rfl rfl rfl) (qR (d:=.int k) rfl)))))) (λe=>nomatch e) λ_=>bj ?_;exact c8 (aN (ah (am rfl rfl rfl) (ah rfl (ah rfl (ah rfl (ah rfl rfl))))) hi) (cP rfl)
abbrev ruF(ks:List Kd)(m:As):Ro->PR
 |.rule b t bd _=>PR.mk (if b then "make" else "may") (aa (tT m t)) (bdF ks m bd)
 |r=>PR.mk "never" ab (bdF ks m (roB r))
abbrev isC:Ro->Bool
 |.choose _ _ _ _ _ _=>ac
 | _=>ag
def Bz(ks:List Kd)(m:As)(r:Ro)(j:d7 r=ag)(p:isC r=ag):rbF ks m r=[ruF ks m r]:=by
 cases r with
 |kind a b=>nomatch j
 |rule b t bd ps=>rfl
 |choose a b c d e f=>nomatch p
 |never bd ps=>rfl
def P4(hk:mq dk ks)(ha:fQ d n)(hs:Sm n m)(hl:n.length<=100)(r:Ro)(Q:d7 r=ag)(T:isC r=ag)(hr:RoK ks m r)(ht:∀t∈prT (ruF ks m r),t∈tb):Ak [(ruF ks m r).nD tb,r.toD,dk,d,.lst (tb.map sT)]=aa (.bl ac):=by
 have I:=hs.f
 have A:(roB r).length<=100/\∀p∈roB r,PaK ks m p:=by
  cases r with
  |kind a b=>nomatch Q
  |rule b t bd ps=>exact hr.2
  |choose a b c d e f=>nomatch T
  |never bd ps=>exact hr
 have hb:(ruF ks m r).b=bdF ks m (roB r):=by
  cases r with
  |kind a b=>nomatch Q
  |rule b t bd ps=>rfl
  |choose a b c d e f=>nomatch T
  |never bd ps=>rfl
 have htb:∀p∈bdF ks m (roB r),∀t∈ppT p,t∈tb:=λp Y t h=>ht t (cC.mpr (.inr (by rw[hb];exact gB.mpr ⟨p,Y,h⟩)));apply cn;unfold vF;generalize E:(ruF ks m r).nD tb=v
 have u:∀ρ:LS,ρ[0]?=aa (.im v)->mIx (ak 0) (kI 2) ρ=aa (.lst ((bdF ks m (roB r)).map (PP.nD tb)))/\mIx (ak 0) (kI 1) ρ=aa (hnD tb (ruF ks m r).h)/\mIx (ak 0) (kI 0) ρ=aa (.str (ruF ks m r).w):=λρ h=>by
  have j:ak 0 ρ=aa [.str (ruF ks m r).w,hnD tb (ruF ks m r).h,.lst ((ruF ks m r).b.map (PP.nD tb))]:=by unfold ak;rw[h,<- E];rfl
  rw[hb]at j;exact⟨am j rfl rfl,am j rfl rfl,am j rfl rfl⟩
 have L:uw "tuple" v=aa (.bl ac)/\bE [v]=aa (.int 3):=by rw[<- E];exact⟨rfl,rfl⟩
 show wp _ [.im v,.im r.toD,.im dk,.im d,.im (.lst (tb.map sT)),.no,.no,.no,.no] _;apply ao;refine aT (b:=ag) (eY (a:=ag) (b:=ag) (eQ (b:=ac) (dZ L.1 rfl)) (aL (ap (aN (ah rfl rfl) L.2) rfl rfl))) (λe=>nomatch e) λ_=>bj ?_;apply ao;refine nF (o:=.nx [.im v,.im r.toD,.im dk,.im d,.im (.lst (tb.map sT)),.ownd [.inr "rule",.inr "may",.inr "never"] [.str "make",.str "may",.str "never"],.no,.no,.no]) rfl ?_;apply ao;refine yN (ks:=[.inr "rule",.inr "may",.inr "never"]) (xs:=[.str "make",.str "may",.str "never"]) rfl ?_;generalize G:D.kd [.inr "rule",.inr "may",.inr "never"] [.str "make",.str "may",.str "never"]=Wd;show wp _ [.im v,.im r.toD,.im dk,.im d,.im (.lst (tb.map sT)),.im Wd,.no,.no,.no] _
 have z:∀ρ:LS,ρ[1]?=aa (.im r.toD)->ρ[5]?=aa (.im Wd)->m2 gf (ae 5) (mIx (ak 1) (kI 0)) ρ=aa (.str (ruF ks m r).w)/\mB (m2 dEq (mIx (ak 1) (kI 0)) (kSt "never")) ρ=aa (ruF ks m r).h.isNone/\mB (m2 dNe (mIx (ak 1) (kI 0)) (kSt "never")) ρ=aa (ruF ks m r).h.isSome/\mIx (ak 1) (m1 fO (kI 2)) ρ=aa (.lst ((roB r).map Pa.toD)):=λρ h U=>by
  have U:ae 5 ρ=aa Wd:=by unfold ae;rw[U]
  have j:ak 1 ρ=ik r.toD:=by unfold ak;rw[h]
  cases r with
  |kind a b=>nomatch Q
  |choose a b c d e f=>nomatch T
  |rule b t bd ps=>
   have j:ak 1 ρ=aa [.str (if b then "rule" else "may"),kdD t,.lst (bd.map Pa.toD),.lst (ps.map prD)]:=j
   refine⟨ap U (am j rfl rfl) (by rw[<- G];cases b <;> rfl),aL (ap (am j rfl rfl) rfl (by cases b <;> rfl)),aL (ap (am j rfl rfl) rfl (by cases b <;> rfl)),am j rfl rfl⟩
  |never bd ps=>
   have j:ak 1 ρ=aa [.str "never",.lst (bd.map Pa.toD),.lst (ps.map prD)]:=j;exact⟨ap U (am j rfl rfl) (by rw[<- G];rfl),aL (ap (am j rfl rfl) rfl rfl),aL (ap (am j rfl rfl) rfl rfl),am j rfl rfl⟩
 have hhd:∀ρ:LS,ρ[0]?=aa (.im v)->ρ[1]?=aa (.im r.toD)->ρ[3]?=aa (.im d)->ρ[4]?=aa (.im (.lst (tb.map sT)))->ρ[5]?=aa (.im Wd)->il (mB (m2 dNe (mIx (ak 1) (kI 0)) (kSt "never"))) (dW (dz (aJ pq (af (mIx (ak 0) (kI 1)) (af (aJ m_7 (af (mIx (ak 1) (kI 1)) (af (ae 3) nZ))) (af (ae 4) nZ)))))) ρ=aa ag:=λρ C M g3 g4 g5=>by
  have B:=(z ρ M g5).2.2.1;have N:=(u ρ C).2.1;have e3:ae 3 ρ=aa d:=by unfold ae;rw[g3]
  have e4:ae 4 ρ=aa (.lst (tb.map sT)):=by unfold ae;rw[g4]
  cases r with
  |kind a b=>nomatch Q
  |choose a b c d e f=>nomatch T
  |never bd ps=>exact yt B
  |rule b t bd ps=>
   have htt:tT m t∈tb:=ht _ (cC.mpr (.inl (by simp[ruF])));have j:ak 1 ρ=aa [.str (if b then "rule" else "may"),kdD t,.lst (bd.map Pa.toD),.lst (ps.map prD)]:=by unfold ak;rw[M];rfl
   exact qS (a:=ac) (b:=ag) B (eQ (b:=ac) (dZ (aN (ah N (ah (aN (ah (am j rfl rfl) (ah e3 rfl)) ((wN ha t (wM I.symm _ hr.1)).trans (by rw[wL I]))) (ah e4 rfl))) (wP htt)) rfl))
 have hno:∀ρ:LS,ρ[0]?=aa (.im v)->ρ[1]?=aa (.im r.toD)->ρ[5]?=aa (.im Wd)->il (mB (m2 dEq (mIx (ak 1) (kI 0)) (kSt "never"))) (mB (m2 qG (mIx (ak 0) (kI 1)) kN)) ρ=aa ag:=λρ C M g5=>by
  have B:=(z ρ M g5).2.1;have N:=(u ρ C).2.1
  cases hh:(ruF ks m r).h with
  |none=>rw[hh]at B N;exact qS (a:=ac) (b:=ag) B (aL (ap N rfl rfl))
  |some t=>rw[hh]at B;exact yt B
 refine aT (b:=ag) (eY (a:=ag) (b:=ag) (aL (ap (u _ rfl).2.2 (z _ rfl rfl).1 (qR (d:=.str (ruF ks m r).w) rfl))) (eQ (b:=ac) (dZ (by unfold fP;rw[(u _ rfl).1];rfl) rfl))) (λe=>nomatch e) λ_=>bj ?_;apply ao;refine aT (b:=ag) (hno _ rfl rfl rfl) (λe=>nomatch e) λ_=>bj ?_;apply ao;refine aT (b:=ag) (hhd _ rfl rfl rfl rfl rfl) (λe=>nomatch e) λ_=>bj ?_;apply ao;refine cw (d:=.lst (((roB r).filter λp=>!isU p).map Pa.toD)) (cY (uD (roB r) Pa.toD (λp=>!isU p) Pa.toD (bA (z _ rfl rfl).2.2.2 rfl) (by have:=A.1;lia) λp _=>nz rfl (Bp p _) λ_=>rfl)) ?_;show wp _ [.im v,.im r.toD,.im dk,.im d,.im (.lst (tb.map sT)),.im Wd,.no,.im (.lst (((roB r).filter λp=>!isU p).map Pa.toD)),.no] _;have H:bdF ks m (roB r)=((roB r).filter λp=>!isU p).map (ppF ks m):=rfl
 have J:∀p∈(roB r).filter (λp=>!isU p),PaK ks m p/\isU p=ag/\∀t∈ppT (ppF ks m p),t∈tb:=λp Y=>by
  obtain⟨a,b⟩:=lC.mp Y;exact⟨A.2 p a,by simpa using b,htb _ (by rw[H];exact mem_map_of_mem Y)⟩
 rw[H]at u;have hfl:=cV (pV (λp=>!isU p) (roB r)) A.1;generalize (roB r).filter (λp=>!isU p)=q at u J hfl;apply ao;refine aT (b:=ag) (aL (ap (aN (ah (u _ rfl).1 rfl) (dL _ _)) (aN (ah rfl rfl) (dL q Pa.toD)) ((uF _ _).trans (by rw[au,beq_self_eq_true];rfl)))) (λe=>nomatch e) λ_=>bj ?_;apply ao
 have hz:∀ρ:LS,ρ[0]?=aa (.im v)->ρ[7]?=aa (.im (.lst (q.map Pa.toD)))->qO (af (mIx (ak 0) (kI 2)) (af (ae 7) nZ)) ρ=aa (q.map λp=>D.tup [(ppF ks m p).nD tb,p.toD]):=λρ C g7=>by
  unfold qO;rw[ah (u ρ C).1 (ah (show ae 7 ρ=aa (.lst (q.map Pa.toD)) by unfold ae;rw[g7]) rfl)];show aa (n8 _ ((q.map (ppF ks m)).map (PP.nD tb)) (q.map Pa.toD))=_;rw[map_map,zipWith_map,zipWith_self];rfl
 refine cM q (λp=>D.tup [(ppF ks m p).nD tb,p.toD]) (λ_ ρ=>∃a6 a8,ρ=[.im v,.im r.toD,.im dk,.im d,.im (.lst (tb.map sT)),.im Wd,a6,.im (.lst (q.map Pa.toD)),a8]) (hz _ rfl rfl) ⟨_,_,rfl⟩ ?_ ?_
 .rintro pre p post ρ he ⟨a6,a8,rfl⟩;refine⟨_,rfl,?_⟩;obtain⟨p1,p2,p3⟩:=J p (by rw[he];simp);refine aT (b:=ag) (eQ (b:=ac) (dZ (aN (ah rfl (ah rfl (ah rfl (ah rfl (ah rfl rfl))))) (P3 hk ha hs hl p p1 p2 p3)) rfl)) (λe=>nomatch e) λ_=>bj ⟨_,_,rfl⟩
 .rintro ρ ⟨a6,a8,rfl⟩;exact c8 rfl (cP rfl)
def P5(l:L2N):∀X:L2N,∃bv,l.foldl dQ X=X++bv:=by
 induction l with
 |nil=>exact λX=>⟨[],by simp⟩
 |cons t l e=>
  intro X;obtain⟨r,c⟩:=e (dQ X t);refine⟨(if t∈X then [] else [t])++r,?_⟩;rw[foldl_cons,c];unfold dQ
  split <;> simp
def BA(t:LN):∀(A B:L2N),t∈A->(A++B).idxOf t=A.idxOf t
 | [],_,h=>(b6 h).elim
 |a::A,B,h=>by
  rw[mG,idxOf_cons,idxOf_cons]
  by_cases e:a=t
  .rw[beq_iff_eq.mpr e];rfl
  .rw[beq_eq_false_iff_ne.mpr e];show(A++B).idxOf t+1=A.idxOf t+1;rw[BA t A B ((b8.mp h).resolve_left (ce e))]
def Ha(t:LN):∀A:L2N,t∉A->(A++[t]).idxOf t=A.length
 | [],_=>by simp
 |a::A,h=>by
  rw[mG,idxOf_cons,beq_eq_false_iff_ne.mpr (λe=>h (by rw[e];exact bK))];show(A++[t]).idxOf t+1=_;rw[Ha t A λz=>h (cB _ z)];rfl
def P6(a b:L2N)(t:LN):pos (tbF (a++t::b)) t<=(tbF a).length/\(tbF (a++[t])).length=(tbF a).length+if pos (tbF (a++t::b)) t=(tbF a).length then 1 else 0:=by
 have c:tbF (a++[t])=dQ (tbF a) t:=GV [] a t;have e:tbF (a++t::b)=b.foldl dQ (dQ (tbF a) t):=by unfold tbF;rw[mD];rfl
 obtain⟨r,j⟩:=P5 b (dQ (tbF a) t);rw[c,e,j];unfold pos;generalize tbF a=A;unfold dQ
 by_cases h:t∈A
 .rw[if_pos h,BA t A r h];have:=sL h;rw[if_neg (by lia)];lia
 .rw[if_neg h,BA t (A++[t]) r (by simp),Ha t A h,if_pos rfl,aM];exact⟨aU _,rfl⟩
abbrev psI(tb:L2N)(c:L2N):LD:=c.map λt=>D.int (pos tb t:Nat)
def P7(R:List PR)(hb:∀r∈R,r.b.length<=1000/\∀p∈r.b,(ppT p).length<=1000):m_8 [.lst (R.map (PR.nD (tbF (R.flatMap prT))))]=aa (.int ((tbF (R.flatMap prT)).length:Nat)):=by
 generalize B:tbF (R.flatMap prT)=tb;apply cn;unfold b_8;show wp _ [.im (.lst (R.map (PR.nD tb))),.no,.no,.no,.no,.no,.no,.no] _;apply ao;refine cw (d:=.int ((tbF ([]:L2N)).length:Nat)) rfl ?_;show wp _ [.im (.lst (R.map (PR.nD tb))),.im (.int ((tbF ([]:L2N)).length:Nat)),.no,.no,.no,.no,.no,.no] _;apply ao;refine cM R (PR.nD tb) (λpre ρ=>∃M N Q L j q,ρ=[.im (.lst (R.map (PR.nD tb))),.im (.int ((tbF (pre.flatMap prT)).length:Nat)),M,N,Q,L,j,q]) (bA rfl rfl) ⟨_,_,_,_,_,_,rfl⟩ ?_ ?_
 .rintro pre r post ρ he ⟨M,N,Q,L,j,q,rfl⟩;refine⟨_,rfl,?_⟩;obtain⟨hb1,H⟩:=hb r (by rw[he];simp);have eT:R.flatMap prT=pre.flatMap prT++prT r++post.flatMap prT:=by rw[he,eS,iJ,eU]
  rw[eT]at B;rw[eS,pT];generalize pre.flatMap prT=A at B;generalize post.flatMap prT=C at B;generalize D.lst (R.map (PR.nD tb))=Rd;show wp _ [.im Rd,.im (.int ((tbF A).length:Nat)),.im (.str r.w),.im (hnD tb r.h),.im (.lst (r.b.map (PP.nD tb))),L,j,q] _;apply ao;refine e7 (d:=psI tb r.h.toList) ?_ ?_
  .cases hh:r.h with
   |none=>
    rw[qX (xs:=[D.non]) (g:=id) rfl rfl (show mPt _ _=aa (aa 0)from rfl)]
    rfl
   |some t=>
    rw[qX (xs:=[D.int (pos tb t:Nat)]) (g:=id) rfl rfl (show mPt _ _=aa (aa 1)from rfl)];rfl
  show wp _ [.im Rd,.im (.int ((tbF A).length:Nat)),.im (.str r.w),.im (hnD tb r.h),.im (.lst (r.b.map (PP.nD tb))),.own (psI tb r.h.toList),j,q] _;refine k7 (λρ=>∃j,ρ=[.im Rd,.im (.int ((tbF A).length:Nat)),.im (.str r.w),.im (hnD tb r.h),.im (.lst (r.b.map (PP.nD tb))),.own (psI tb (prT r)),j,q]) ?_ ?_
  .refine cM r.b (PP.nD tb) (λpp ρ=>∃j,ρ=[.im Rd,.im (.int ((tbF A).length:Nat)),.im (.str r.w),.im (hnD tb r.h),.im (.lst (r.b.map (PP.nD tb))),.own (psI tb (r.h.toList++pp.flatMap ppT)),j,q]) (bA rfl rfl) ⟨j,by simp⟩ ?_ ?_
   .rintro pp p ppost ρ G ⟨j,rfl⟩;refine⟨_,rfl,?_⟩;have Y:=H p (by rw[G];simp)
    have ef:psI tb (r.h.toList++(pp++[p]).flatMap ppT)=psI tb (r.h.toList++pp.flatMap ppT)++psI tb (ppT p):=by
     unfold psI;rw[<- bp,eS];simp
    have T:(psI tb (r.h.toList++pp.flatMap ppT)).length<=1+1000*1000:=by
     unfold psI;rw[au,aM]
     have h1:r.h.toList.length<=1:=by cases r.h <;> simp
     have h2:∀l:List PP,(∀p∈l,(ppT p).length<=1000)->(l.flatMap ppT).length<=l.length*1000:=λl=>by
      induction l with
      |nil=>intro _;simp
      |cons x l ih=>
       intro h;rw[iJ,aM,bT,oj];have:=h x bK;have:=ih λy hy=>h y (cB _ hy);lia
     have h3:=h2 pp λy hy=>H y (by rw[G];simp[hy]);have h4:pp.length<=1000:=by have:=congrArg fB G;rw[aM]at this;lia
     have:=sW 1000 h4;lia
    rw[ef];generalize psI tb (r.h.toList++pp.flatMap ppT)=U at T;show wp _ [.im Rd,.im (.int ((tbF A).length:Nat)),.im (.str r.w),.im (hnD tb r.h),.im (.lst (r.b.map (PP.nD tb))),.own U,.im (p.nD tb),q] _
    cases p with
    |i t=>
     refine aT (b:=ac) (aL (ap (aN (ah rfl rfl) rfl) rfl rfl)) (λ_=>?_) λe=>nomatch e
     exact iz (d:=.int (pos tb t:Nat)) (am rfl rfl rfl) rfl (by lia) ⟨_,rfl⟩
    |o t=>
     refine aT (b:=ac) (aL (ap (aN (ah rfl rfl) rfl) rfl rfl)) (λ_=>?_) λe=>nomatch e
     exact iz (d:=.int (pos tb t:Nat)) (am rfl rfl rfl) rfl (by lia) ⟨_,rfl⟩
    |c w n its=>
     have hl':its.length<=1000:=by have:(its.map (·.1)).length<=1000:=Y;rwa [au]at this
     refine aT (b:=ag) (aL (ap (aN (ah rfl rfl) rfl) rfl rfl)) (λe=>nomatch e) λ_=>?_
     have hc:bQ 1 [] (bh (mIx (ak 6) (kI 2))) (aF 0) kY (mIx (ak 0) (kI 0)) [.im Rd,.im (.int ((tbF A).length:Nat)),.im (.str r.w),.im (hnD tb r.h),.im (.lst (r.b.map (PP.nD tb))),.own U,.im (PP.nD tb (.c w n its)),q]=aa (psI tb (ppT (.c w n its))):=by
      unfold psI;show _=aa ((its.map (·.1)).map _);rw[map_map];refine gY its (niD tb) _ (bA (am rfl rfl rfl) rfl) (by lia) λz _=>?_;exact gu (ρ1:=[.im (niD tb z)]) rfl rfl (am rfl rfl rfl)
     exact F3 rfl (aQ (cY hc)) rfl (by unfold psI;rw[au];show _+(its.map (·.1)).length<=_;rw[au];lia) ⟨_,rfl⟩
   .rintro ρ ⟨j,rfl⟩;exact k_J ⟨_,rfl⟩
  rintro _ ⟨j,rfl⟩;refine jD (ρ':=[.im Rd,.im (.int ((tbF A).length:Nat)),.im (.str r.w),.im (hnD tb r.h),.im (.lst (r.b.map (PP.nD tb))),.im (.lst (psI tb (prT r))),j,q]) rfl ?_;generalize hP:prT r=P at B;refine cM P (λt=>D.int (pos tb t:Nat)) (λJ ρ=>∃q,ρ=[.im Rd,.im (.int ((tbF (A++J)).length:Nat)),.im (.str r.w),.im (hnD tb r.h),.im (.lst (r.b.map (PP.nD tb))),.im (.lst (psI tb P)),j,q]) (bA rfl rfl) ⟨q,by rw[cx]⟩ ?_ ?_
  .rintro J t E ρ hte ⟨q,rfl⟩;refine⟨_,rfl,?_⟩;have I:=P6 (A++J) (E++C) t;have e4:A++J++t::(E++C)=A++P++C:=by rw[hte];simp
   rw[e4,B]at I;obtain⟨s1,s2⟩:=I;rw[<- eU,s2];generalize (tbF (A++J)).length=v at s1;generalize pos tb t=u at s1;show wp _ [.im Rd,.im (.int (v:Nat)),.im (.str r.w),.im (hnD tb r.h),.im (.lst (r.b.map (PP.nD tb))),.im (.lst (psI tb P)),j,.im (.int (u:Nat))] _;apply ao;refine aT (b:=ag) (aL (ap rfl rfl (i4.trans (by rw[decide_eq_false (by lia)])))) (λe=>nomatch e) λ_=>bj ?_;refine sk (d:=.int ((if u=v then 1 else 0:Nat):Int)) rfl (aQ ?_) (show _=aa (D.int ((v+if u=v then 1 else 0:Nat):Int))from ?_) ⟨_,rfl⟩
   .unfold gg;rw[ap rfl rfl (j3 _ _),ax];show aa (D.int (if ((u:Int)==(v:Int))=ac then 1 else 0))=_
    by_cases z:u=v
    .rw[if_pos z,if_pos (by rw[z];exact beq_self_eq_true _)];rfl
    .rw[if_neg z,if_neg (by rw[beq_iff_eq];lia)];rfl
   .rw[Int.natCast_add];rfl
  .rintro ρ ⟨q,rfl⟩;exact⟨_,_,_,_,_,_,rfl⟩
 .rintro ρ ⟨M,N,Q,L,j,q,rfl⟩;rw[B];exact uM rfl (cP rfl)
abbrev blk(F:Nat->As)(g:As->Bool)(B:As->List PR)(l:LN):List PR:=((l.map F).filter g).flatMap B
def P8(F:Nat->As)(g:As->Bool)(B:As->List PR)(a b:LN):blk F g B (a++b)=blk F g B a++blk F g B b:=by
 unfold blk;rw[bp,sS,eS]
def P9(F:Nat->As)(g:As->Bool)(B:As->List PR)(i:Nat):blk F g B [i]=if g (F i) then B (F i) else []:=by
 unfold blk;rw[sU]
 cases h:g (F i)with
 |true=>rw[sN h];simp
 |false=>rw[lx (by rw[h];exact bZ)];simp
def BB(r:Ro)(e:d7 r=ag)(ρ:LS)(i:Nat)(h:ρ[i]?=aa (.im r.toD)):mIx (ak i) (m1 fO (kI 1)) ρ=aa (.lst ((roP r).map prD))/\mIx (ak i) (m1 fO (kI 2)) ρ=aa (.lst ((roB r).map Pa.toD)):=by
 have c:ak i ρ=ik r.toD:=by unfold ak;rw[h]
 cases r with
 |kind n ns=>nomatch e
 |rule b t bd ps=>exact⟨am (c.trans rfl) rfl rfl,am (c.trans rfl) rfl rfl⟩
 |choose lo hi its ov bd ps=>exact⟨am (c.trans rfl) rfl rfl,am (c.trans rfl) rfl rfl⟩
 |never bd ps=>exact⟨am (c.trans rfl) rfl rfl,am (c.trans rfl) rfl rfl⟩
def Hb(r:Ro)(ρ:LS)(i:Nat)(h:ρ[i]?=aa (.im r.toD)):mB (m2 dEq (mIx (ak i) (kI 0)) (kSt "kind")) ρ=aa (d7 r):=by
 have c:ak i ρ=ik r.toD:=by unfold ak;rw[h]
 cases r with
 |kind n ns=>exact aL (ap (am (c.trans rfl) rfl rfl) rfl rfl)
 |rule b t bd ps=>exact aL (ap (am (c.trans rfl) rfl rfl) rfl (by cases b <;> rfl))
 |choose lo hi its ov bd ps=>exact aL (ap (am (c.trans rfl) rfl rfl) rfl rfl)
 |never bd ps=>exact aL (ap (am (c.trans rfl) rfl rfl) rfl rfl)
structure RsK(rs:List Ro):Prop where
 n:((aG rs).map (·.1)).Nodup
 l:rs.length<=1000
 k:∀pre r post,rs=pre++r::post->d7 r=ag->isC r=ag/\RwK (aG pre) r/\rwF (aG rs) r=rwF (aG pre) r
def wQ(K:List Kd)(a b:List Ro):rsF K (a++b)=rsF K a++rsF K b:=by unfold rsF;rw[eS]
def BC(K:List Kd)(r:Ro):rsF K [r]=if d7 r then [] else rwF K r:=by unfold rsF;rw[pT]
def Qa(rs:List Ro)(h:RsK rs)(tb:L2N)(ht:∀r∈rsF (aG rs) rs,∀t∈prT r,t∈tb):vH [.lst ((rsF (aG rs) rs).map (PR.nD tb)),.lst (rs.map Ro.toD),.lst (tb.map sT)]=aa (.bl ac):=by
 generalize hK:aG rs=K at ht;apply cn;unfold vG;generalize hFd:D.lst ((rsF K rs).map (PR.nD tb))=G;have hvc:∀ρ:LS,ρ[0]?=aa (.im G)->ak 0 ρ=aa ((rsF K rs).map (PR.nD tb)):=λρ h=>by unfold ak;rw[h,<- hFd];rfl
 have U:bE [G]=aa (.int ((rsF K rs).length:Nat)):=by rw[<- hFd];exact dL _ _
 generalize hTd:D.lst (tb.map sT)=L;show wp _ [.im G,.im (.lst (rs.map Ro.toD)),.im L,.no,.no,.no,.no,.no] _;apply ao;refine nF (o:=.nx [.im G,.im (.lst (rs.map Ro.toD)),.im L,.ownd (dP (aG [])) (fA (aG [])),.no,.no,.no,.no]) rfl ?_;apply ao;refine cw (d:=.int ((rsF K ([]:List Ro)).length:Nat)) rfl ?_;show wp _ [.im G,.im (.lst (rs.map Ro.toD)),.im L,.ownd (dP (aG [])) (fA (aG [])),.im (.int ((rsF K ([]:List Ro)).length:Nat)),.no,.no,.no] _;apply ao;refine cM rs Ro.toD (λpre ρ=>∃a5 H A,ρ=[.im G,.im (.lst (rs.map Ro.toD)),.im L,.ownd (dP (aG pre)) (fA (aG pre)),.im (.int ((rsF K pre).length:Nat)),a5,H,A]) (bA rfl rfl) ⟨_,_,_,rfl⟩ ?_ ?_
 .rintro pre r post ρ he ⟨a5,H,A,rfl⟩;refine⟨_,rfl,?_⟩;show wp _ [.im G,.im (.lst (rs.map Ro.toD)),.im L,.ownd (dP (aG pre)) (fA (aG pre)),.im (.int ((rsF K pre).length:Nat)),.im r.toD,H,A] _
  have hKs:K=aG pre++iH r++aG post:=by
   rw[<- hK,he];unfold aG;rw[eS,iJ,eU]
  have hnd:=h.n;rw[hK,hKs]at hnd
  have hkl:(aG pre).length<=1000:=by
   have:=Bc pre;have h2:=congrArg fB he;rw[aM]at h2;have:=h.l;lia
  apply ao;refine aT (Hb r _ 5 rfl) (λe=>?_) λe=>bj ?_
  .cases r with
   |rule b t bd ps=>nomatch e
   |choose a b c d e' f=>nomatch e
   |never bd ps=>nomatch e
   |kind n ns=>
    have Y:fV (dP (aG pre)) (.inr (tx n))=ag:=by
     have h1:=Br ((aG pre).map (·.1)) n;unfold tK at h1;rw[map_map]at h1;have h1:fV (dP (aG pre)) (.inr (tx n))=_:=h1;rw[h1];refine decide_eq_false λz=>?_;rw[bp,bp]at hnd;have h2:=(eG.mp hnd).1;exact(eG.mp h2).2.2 _ z _ bK rfl
    have hY:(dP (aG pre)).length<16777216:=by unfold dP;rw[au];lia
    apply ao;refine⟨.nx [.im G,.im (.lst (rs.map Ro.toD)),.im L,.ownd (dP (aG (pre++[.kind n ns]))) (fA (aG (pre++[.kind n ns]))),.im (.int ((rsF K pre).length:Nat)),.im (Ro.toD (.kind n ns)),H,A],?_,?_⟩
    .unfold nC;show(if (dP (aG pre)).length<16777216 then aa (Fl.nx [.im G,.im (.lst (rs.map Ro.toD)),.im L,.ownd (kZ (dP (aG pre)) (.inr (tx n))) (iy (dP (aG pre)) (fA (aG pre)) (.inr (tx n)) (.lst (ns.map sT))),.im (.int ((rsF K pre).length:Nat)),.im (Ro.toD (.kind n ns)),H,A]) else ab)=_;rw[if_pos hY,(wK Y (fA (aG pre)) (.lst (ns.map sT))).1,(wK Y (fA (aG pre)) (.lst (ns.map sT))).2,Bf,show dP (aG pre++iH (.kind n ns))=dP (aG pre)++[.inr (tx n)]from bp,show fA (aG pre++iH (.kind n ns))=fA (aG pre)++[.lst (ns.map sT)]from bp]
    .refine⟨_,rfl,.im (Ro.toD (.kind n ns)),H,A,?_⟩;rw[wQ,BC];show _=[_,_,_,_,Sl.im (.int (((rsF K pre++[]).length:Nat):Int)),_,_,_];rw[cx]
  .obtain⟨hC,I,hEq⟩:=h.k pre r post he e
   have hKO:iH r=[]:=by cases r <;> first |rfl |nomatch e
   have E:=I.p;have hnb:=G7 E [];have htt:=Bw E;rw[hK]at hEq
   have hL:rwF (aG pre) r=blk (λi=>(chW (aG pre) (roP r).reverse i).reverse) (λn=>!cD n (roB r)) (λn=>rbF (aG pre) n r) (cp (tot (psN (aG pre) (roP r)))):=by
    unfold rwF;rw[hnb];rfl
   have j:rsF K rs=rsF K pre++rwF (aG pre) r++rsF K post:=by
    rw[he,show pre++r::post=pre++[r]++post by simp,wQ,wQ,BC,e,<- hEq];rfl
   have J:rsF K (pre++[r])=rsF K pre++rwF (aG pre) r:=by
    rw[wQ,BC,e,<- hEq];rfl
   rw[hL]at j J;have hkd:aG (pre++[r])=aG pre:=by rw[Bf,hKO,cx]
   have C:mq (.dic (dP (aG pre)) (fA (aG pre))) (aG pre):=rfl;generalize hT:rsF K pre=T at j J;generalize aG pre=q at I E hnb htt hL j J hkd C;generalize hgk:dP q=gk at C;generalize hgv:fA q=gv at C;have N:=P8 (λi=>(chW q (roP r).reverse i).reverse) (λn=>!cD n (roB r)) (λn=>rbF q n r);have hB1:=P9 (λi=>(chW q (roP r).reverse i).reverse) (λn=>!cD n (roB r)) (λn=>rbF q n r);generalize hBd:blk (λi=>(chW q (roP r).reverse i).reverse) (λn=>!cD n (roB r)) (λn=>rbF q n r)=B at j J N hB1;refine cM (cp (tot (psN q (roP r)))) (λ(i:Nat)=>D.int i) (λip ρ=>∃H A,ρ=[.im G,.im (.lst (rs.map Ro.toD)),.im L,.ownd gk gv,.im (.int ((T.length+(B ip).length:Nat):Int)),.im r.toD,H,A]) ((yu (n:=((tot (psN q (roP r)):Nat):Int)) (ah (K5 (ah (BB r e _ 5 rfl).1 (ah rfl rfl)) (G1 C (roP r) E) rfl) rfl) (by lia) (by lia)).trans (by rw[gP])) ⟨_,_,by rw[show B []=[] by rw[<- hBd];rfl];rfl⟩ ?_ ?_
   .rintro ip i v ρ hie ⟨H,A,rfl⟩;refine⟨_,rfl,?_⟩;have ms:i<tot (psN q (roP r)):=jm.mp (by rw[hie];simp);have ll:(chW q (roP r).reverse i).reverse∈nbw q (roP r) []:=by rw[hnb];exact cq.mpr ⟨i,jm.mpr ms,rfl⟩
    have hch:=G5 C (roP r) E I.d i;have hcl:=Bx q (roP r).reverse i;have hck:=sC q (roP r).reverse i;have u:B [i]=if (!cD (chW q (roP r).reverse i).reverse (roB r))=ac then rbF q (chW q (roP r).reverse i).reverse r else []:=hB1 i;have hsp:B (cp (tot (psN q (roP r))))=B ip++B [i]++B v:=by rw[hie,show ip++i::v=ip++[i]++v by simp,N,N]
    rw[hsp]at j;rw[N ip [i],aM];generalize B ip=P at j;generalize B v=Q at j;generalize B [i]=M at j u;generalize chW q (roP r).reverse i=c at ll hch hcl hck u;have hn3:=E.n;rw[jP]at hcl
    have hSm:Sm c c.reverse:=⟨(oe c).symm,by
     rw[mE,hck];refine(oe _).nodup_iff.mpr ?_;rw[show vrs (roP r).reverse=(vrs (roP r)).reverse from mE];exact(oe _).nodup_iff.mpr I.d⟩
    have hIs:fQ (asD c) c:=rfl;show wp _ [.im G,.im (.lst (rs.map Ro.toD)),.im L,.ownd gk gv,.im (.int ((T.length+P.length:Nat):Int)),.im r.toD,.im (.int (i:Nat)),A] _;apply ao;refine Ep (PJ (ah rfl (ah (BB r e _ 5 rfl).1 (ah rfl rfl))) hch (sD c).2.2) ?_;show wp _ [.im G,.im (.lst (rs.map Ro.toD)),.im L,.ownd gk gv,.im (.int ((T.length+P.length:Nat):Int)),.im r.toD,.im (.int (i:Nat)),.deep (chO c)] _;have hvB:∀ρ:LS,ρ[7]?=aa (.deep (chO c))->fo 7 ρ=aa (asD c):=λρ h7=>by rw[GW h7 (sD c).1,(sD c).2.1]
    apply ao;refine aT (b:=cD c.reverse (roB r)) ((eQ (b:=!cD c.reverse (roB r)) (dZ (oQ (ah (BB r e _ 5 rfl).2 (ah (hvB _ rfl) rfl)) ((P0 hIs (roB r)).trans (by rw[PQ hSm.f])) rfl) rfl)).trans (by rw[Bool.not_not])) (λz=>?_) λz=>bj ?_
    .rw[z]at u;have u:M=[]:=u;subst u;exact⟨_,rfl,_,_,rfl⟩
    .rw[z]at u;have u:M=rbF q c.reverse r:=u;rw[Bz q c.reverse r e hC]at u;subst u;obtain⟨hRo,hnl⟩:=I.k _ ll z
     have hat:(rsF K rs)[T.length+P.length]?=aa (ruF q c.reverse r):=by
      rw[j];simp only[eU];rw[jO (by lia),w6,jO (by lia),Nat.sub_self];rfl
     have eZ:=(eD.mp hat).1
     have hix:atI ((rsF K rs).map (PR.nD tb)) ((T.length+P.length:Nat):Int)=aa ((ruF q c.reverse r).nD tb):=by
      unfold atI ixN;rw[if_pos (by lia),if_pos (by rw[au];lia),ax,eM,gP,hat];rfl
     have hru:=P4 (tb:=tb) C hIs hSm (by lia) r e hC hRo (λt h2=>ht _ (sO hat) t h2);rw[hTd]at hru;apply ao;refine aT (b:=ag) (eY (a:=ag) (b:=ag) (aL (ap rfl (aN (ah rfl rfl) U) (yC.trans (by rw[decide_eq_false (by lia)])))) (eQ (b:=ac) (dZ (oQ (ah (am (hvc _ rfl) rfl hix) (ah rfl (ah rfl (ah (hvB _ rfl) (ah rfl rfl))))) hru rfl) rfl))) (λe=>nomatch e) λ_=>bj ?_;refine sk rfl (aQ rfl) (show _=aa (D.int ((T.length+(P.length+1):Nat):Int))from ?_) ⟨_,_,rfl⟩;show aa (D.int (((T.length+P.length:Nat):Int)+1))=_
     congr 2
   .rintro ρ ⟨H,A,rfl⟩;refine⟨.im r.toD,H,A,?_⟩;rw[hkd,J,aM,hgk,hgv]
 .rintro ρ ⟨a5,H,A,rfl⟩;exact c8 (ap rfl (aN (ah rfl rfl) U) ((j3 _ _).trans (by rw[beq_self_eq_true]))) (cP rfl)
def Qb(rs:List Ro)(h:RsK rs)(B:∀r∈rsF (aG rs) rs,r.b.length<=1000/\∀p∈r.b,(ppT p).length<=1000)(z:(plT rs).length<=60):vJ [plD (plT rs) (plR rs),.lst (rs.map Ro.toD)]=aa (.bl ac):=by
 have j:(plT rs).Nodup:=(nX _ [] f7).1;have c:∀r∈rsF (aG rs) rs,∀t∈prT r,t∈plT rs:=λr C t E=>((nX ((plR rs).flatMap prT) [] f7).2.1 t).mpr (.inr (gB.mpr ⟨r,C,E⟩));have hR:=Qa rs h (plT rs) c;have u:=P7 (plR rs) B;rw[show tbF ((plR rs).flatMap prT)=plT rs from rfl]at u;have hR:vH [.lst ((plR rs).map (PR.nD (plT rs))),.lst (rs.map Ro.toD),.lst ((plT rs).map sT)]=aa (.bl ac):=hR;generalize plT rs=tb at j hR u z;generalize plR rs=R at hR u;apply cn;unfold vI;show wp _ [.im (plD tb R),.im (.lst (rs.map Ro.toD)),.no,.no] _;apply ao;refine aT (b:=ag) (eY (a:=ag) (b:=ag) (eQ (b:=ac) (dZ rfl rfl)) (eY (a:=ag) (b:=ag) (aL (ap (aN (ah rfl rfl) rfl) rfl rfl)) (eQ (b:=ac) (dZ (by unfold fP;rw[am (ds:=[.lst (tb.map sT),.tup [.int (tb.length:Nat),.lst (R.map (PR.nD tb))]]) rfl rfl rfl];rfl) rfl)))) (λe=>nomatch e) λ_=>bj ?_;apply ao;refine cw (d:=.lst (tb.map sT)) (am rfl rfl rfl) ?_;show wp _ [.im (plD tb R),.im (.lst (rs.map Ro.toD)),.im (.lst (tb.map sT)),.no] _
 have q:bQ 1 [] (bh (ae 2)) (aF 0) kY (fP "str" (ae 0)) [.im (plD tb R),.im (.lst (rs.map Ro.toD)),.im (.lst (tb.map sT)),.no]=aa ((tb.map λ_=>ac).map D.bl):=by
  rw[map_map];exact gY tb sT _ (bA rfl rfl) (by lia) λt _=>gu rfl rfl rfl
 apply ao;refine aT (b:=ag) (eY (a:=ag) (b:=ag) (aL (ap (Gz rfl (by lia)) (aN (ah rfl rfl) (dL tb sT)) ((uF _ _).trans ?_))) (eQ (b:=ac) (dZ (aN (ah (cY q) rfl) (Gq _)) ?_))) (λe=>nomatch e) λ_=>bj ?_
 .have v:=GA tb;rw[decide_eq_true j]at v;have v:=of_decide_eq_false v;have A:iE (tb.map tx)<=(tb.map tx).length:=E7 _;rw[au]at A;rw[show iE (tb.map tx)=tb.length by lia,beq_self_eq_true];rfl
 .show aa ((tb.map λ_=>ac).all id)=aa ac
  congr 1
  rw[all_map];exact all_eq_true.mpr λ_ _=>rfl
 apply ao;refine cw (d:=.tup [.int (tb.length:Nat),.lst (R.map (PR.nD tb))]) (am rfl rfl rfl) ?_;show wp _ [.im (plD tb R),.im (.lst (rs.map Ro.toD)),.im (.lst (tb.map sT)),.im (.tup [.int (tb.length:Nat),.lst (R.map (PR.nD tb))])] _;apply ao;refine aT (b:=ag) (eY (a:=ag) (b:=ag) (eQ (b:=ac) (dZ rfl rfl)) (eY (a:=ag) (b:=ag) (aL (ap (aN (ah rfl rfl) rfl) rfl rfl)) (eQ (b:=ac) (dZ (aN (ah (am rfl rfl rfl) rfl) (wO _)) rfl)))) (λe=>nomatch e) λ_=>bj ?_;apply ao;refine aT (b:=ag) (eY (a:=ag) (b:=ag) (aL (ap (am rfl rfl rfl) (aN (ah rfl rfl) (dL tb sT)) ((uF _ _).trans (by rw[beq_self_eq_true];rfl)))) (eQ (b:=ac) (dZ (by unfold fP;rw[am (ds:=[.int (tb.length:Nat),.lst (R.map (PR.nD tb))]) rfl rfl rfl];rfl) rfl))) (λe=>nomatch e) λ_=>bj ?_;exact c8 (lR (a:=ac) (b:=ac) (aN (ah (am rfl rfl rfl) (ah rfl (ah rfl rfl))) hR) (ap (aN (ah (am rfl rfl rfl) rfl) u) (aN (ah rfl rfl) (dL tb sT)) ((j3 _ _).trans (by rw[beq_self_eq_true])))) (cP rfl)
section
variable{y:Lay}(hy:ff y)
include hy
def Qc{kn:L2N}(ks:List (LN×L2N))(hn:kn.Nodup)(u:kn.length<=100)(many s:Int):∀z∈(dO y kn ks many s).2.1,z.1.2.length<=100:=by
 obtain⟨c,e,j⟩:=mn (ks:=ks) hn 2 s (by decide);unfold dO;generalize cJ ks kn 2 s=q at c e j;have p:(kn++vrs q.2).length<=1000:=by rw[aM,au];lia
 refine kj (F:=itS y (kn++vrs q.2)) (P:=λz=>z.1.2.length<=100) (λs=>?_) _ _;have:=(kr hy (kn:=kn++vrs q.2) (nx (cN s).1) p).2.2;exact cV this (by decide)
def Qd{kn:L2N}(ks:List (LN×L2N))(hn:kn.Nodup)(c:kn.length<=100)(s:Int):PaS (fg y kn ks s).2:=by
 unfold fg;split
 .unfold unS;dsimp only
  split <;> trivial
 .split
  .obtain⟨_,_,_,_,a⟩:=wx hy ks hn c (many:=2) (by decide) (nx s);exact⟨cV a (by decide),Qc hy ks hn c 2 _⟩
  .have:=(kr hy (kn:=kn) (nx s) (by lia)).2.2;dsimp only
   split <;> exact cV this (by decide)
def Qe(ks:List (LN×L2N))(s:Int):RoS (gi y ks s).2:=by
 obtain⟨z,j,A⟩:=mn (ks:=ks) (kn:=[]) f7 3 s (by decide);unfold gi;generalize cJ ks [] 3 s=q at z j A;have hn:(vrs q.2).Nodup:=by simpa using j.nd
 have v:(vrs q.2).length<=100:=by rw[au];lia
 obtain⟨B,C,u⟩:=wy hy ks hn v q.1;have e:∀p∈(gh y (vrs q.2) ks q.1).2,PaS p:=kj (F:=fg y (vrs q.2) ks) (λs=>Qd hy ks hn v s) _ _;generalize gh y (vrs q.2) ks q.1=b at B C u e;have E:=(kr hy (kn:=vrs q.2) (nx b.1) (by lia)).2.2;have G:=(kr hy (kn:=vrs q.2) (nx (nx b.1)) (by lia)).2.2;unfold pJ;split
 .refine⟨by rw[aM,dR];lia,λp c=>?_⟩
  rcases cC.mp c with c |c
  .exact e p c
  .rw[ca.mp c]
   split <;> exact cV G (by decide)
 .exact⟨cV E (by decide),cV u (by decide),e⟩
end
abbrev mr:List Kd->List Ro->Prop
 | _,[]=>True
 |ks,r::rs=>(wB ks r/\RoS r)/\mr (ks++iH r) rs
def BD:∀(a b:List Ro) (ks:List Kd),mr ks a->mr (ks++aG a) b->mr ks (a++b)
 | [],b,ks,_,h=>by simpa[aG]using h
 |r::a,b,ks,h,h2=>⟨h.1,BD a b _ h.2 (by rw[eU];exact h2)⟩
def Hc:∀(pre:List Ro) (r:Ro) (post:List Ro) (ks:List Kd),mr ks (pre++r::post)->wB (ks++aG pre) r/\RoS r
 | [],r,post,ks,h=>by
  have:=h.1;rw[show aG []=[]from rfl,cx]
  exact this
 |x::pre,r,post,ks,h=>by
  have:=Hc pre r post _ h.2;rw[eU]at this;exact this
def Qf{rs:List Ro}(h:mr [] rs):Be rs:=λpre r post e=>by
 subst e;exact Hc pre r post [] h
abbrev jM(k:Kd):Ro:=.kind k.1 k.2
def sE(a b:List Ro):aG (a++b)=aG a++aG b:=by
 unfold aG;rw[eS]
def pN:∀ks:List Kd,aG (ks.map jM)=ks
 | []=>rfl
 |k::ks=>by
  have:=pN ks;unfold aG at this;show[(k.1,k.2)]++(ks.map jM).flatMap iH=_;rw[this];rfl
def Hd:∀(b a:List Kd),((a++b).map (·.1)).Nodup->(∀k∈b,k.2.Nodup/\k.2.length<=100)->mr a (b.map jM)
 | [],_,_,_=>trivial
 |k::b,a,h,h2=>by
  refine⟨⟨⟨λz=>?_,(h2 k bK).1⟩,(h2 k bK).2⟩,?_⟩
  .rw[bp,eG]at h;exact h.2.2 _ z _ bK rfl
  .refine Hd b _ ?_ λx c=>h2 x (cB _ c);show((a++[(k.1,k.2)]++b).map (·.1)).Nodup;rw[eU];exact h
abbrev eC(y:Lay)(f:Int)(ss:List Int):Nat->List Ro
 | 0=>[]
 |n+1=>eC y f ss n++((y.k.take (f+n).toNat).drop (aG (eC y f ss n)).length).map jM++[(gi y (y.k.take (f+n).toNat) (ss.getD (n+1) 0)).2]
def wR(y:Lay)(f:Int)(j:0<=f)(ss:List Int):∀n:Nat,∃m:Nat,m<=(f+n).toNat/\aG (eC y f ss n)=y.k.take m
 | 0=>⟨0,gD _,by rw[take_zero];rfl⟩
 |n+1=>by
  obtain⟨m,hm,e⟩:=wR y f j ss n;refine⟨(f+n).toNat,by lia,?_⟩;rw[eC,sE,sE,pN,e]
  have p:aG [(gi y (y.k.take (f+n).toNat) (ss.getD (n+1) 0)).2]=[]:=by
   have:∀q:Ro,aG [q]=iH q:=λq=>by unfold aG;rw[pT]
   rw[this];unfold gi pJ
   split <;> rfl
  rw[p,cx];have c:y.k.take m=(y.k.take (f+n).toNat).take m:=by rw[take_take,kC hm]
  rw[c];generalize y.k.take (f+n).toNat=M;rw[hJ]
  by_cases h:m<=M.length
  .rw[kC h,pU]
  .rw[oi (by lia),drop_length,cx,jk (by lia)]
def He{y:Lay}(u:ff y)(A:∀k∈y.k,k.2.length<=100)(f:Int)(z:0<=f)(ss:List Int):∀n,mr [] (eC y f ss n)
 | 0=>trivial
 |n+1=>by
  obtain⟨m,hm,e⟩:=wR y f z ss n;obtain⟨B,E⟩:=u.k;have C:y.k.take m=(y.k.take (f+n).toNat).take m:=by rw[take_take,kC hm]
  have v:aG (eC y f ss n)++(y.k.take (f+n).toNat).drop (aG (eC y f ss n)).length=y.k.take (f+n).toNat:=by
   rw[e,C];generalize y.k.take (f+n).toNat=M;rw[hJ]
   by_cases h:m<=M.length
   .rw[kC h,pU]
   .rw[oi (by lia),drop_length,cx,jk (by lia)]
  have j:∀k∈(y.k.take (f+n).toNat).drop (aG (eC y f ss n)).length,k∈y.k:=λk p=>sP (mem_of_mem_drop p);refine BD _ _ _ (BD _ _ _ (He u A f z ss n) ?_) ⟨⟨?_,Qe u _ _⟩,trivial⟩
  .rw[jl];refine Hd _ _ ?_ λk p=>⟨(B.ns k (j k p)).1,A k (j k p)⟩;rw[v,map_take];exact B.nd.sublist (take_sublist _ _)
  .rw[jl,sE,pN,v];have:=(Ox u (y.k.take (f+n).toNat) (ss.getD (n+1) 0)).2;generalize (gi y (y.k.take (f+n).toNat) (ss.getD (n+1) 0)).2=q at this
   cases q with
   |kind a b=>exact this.elim
   |rule a b c d=>exact this
   |choose a b c d e f=>exact this
   |never a b=>exact this
def BE{y:Lay}(c:ff y)(f:Int)(ss:List Int):∀n,(eC y f ss n).length<=4*n
 | 0=>gD _
 |n+1=>by
  have:=BE c f ss n;have e:=c.k.2;rw[eC,aM,aM,au,lB,hJ,dR];lia
def Qg{c:Type}{f:MF1}{g:c->D}{xs:List c}{a b:Int}(e:f ρ=aa (.lst (xs.map g)))(j:l ρ=aa (aa a))(p:h ρ=aa (aa b))(ha:0<=a)(q:0<=b):mSl f l h ρ=aa (((xs.take b.toNat).drop a.toNat).map g):=by
 rw[qX e j p];obtain⟨n,rfl⟩:=wY ha;obtain⟨m,rfl⟩:=wY q;rw[HT.sIx_nat,HT.sIx_nat]
 congr 1
 rw[gP,gP,drop_take]
 by_cases hn:n<=xs.length
 .rw[kC hn]
  by_cases hm:m<=xs.length
  .rw[kC hm]
  .rw[oi (by lia),jk (by rw[lB];lia),jk (by rw[lB];lia)]
 .rw[oi (show xs.length<=n by lia),drop_length,drop_of_length_le (by lia),take_nil,take_nil]
def Hg(ws:L2N)(n:Nat):fH (n+2) (.lst (ws.map sT)):=λx c=>by
 obtain⟨w,_,rfl⟩:=cq.mp c;rfl
abbrev ThD(y:Lay)(kn:L2N)(t:Th):Prop:=(t.1,((t.2.length:Nat):Int))∈y.h/\∀w∈t.2,w∈kn\/w∈y.p
structure PsD(ks:List Kd)(kn:L2N)(ps:List Pr):Prop where
 o:iG (ks.map (·.1)) kn ps
 l:ps.length<=2
structure ItD(y:Lay)(ks:List Kd)(kn:L2N)(its:List Ti)(ov:List Pr):Prop where
 p:PsD ks kn ov
 l:its.length<=3
 t:∀z∈its,ThD y (kn++vrs ov) z.1
 w:∀z∈its,0<=z.2/\z.2<10 ^ 30
abbrev PaD(y:Lay)(ks:List Kd)(kn:L2N):Pa->Prop
 |.is t=>ThD y kn t
 |.no t=>ThD y kn t
 |.un _ _=>True
 |.ct _ _ its ov=>ItD y ks kn its ov
abbrev BF(y:Lay):Prop:=∃a b c d:LN×Int,y.h=[a,b,c,d]/\a.2.toNat<=3/\b.2.toNat<=2/\c.2.toNat<=2/\d.2.toNat<=1
def Qh(s:Int):BF (jg s).2:=by
 have one:∀(m:Int) s,0<=m->(hdP (.int m) s).2.2.toNat<=m.toNat:=λm s hm=>by
  have d:=bJ (bC s).1 (k:=4) (by decide);show(if dr (bC s).1 4<m then dr (bC s).1 4 else m).toNat<=m.toNat
  split <;> lia
 exact⟨_,_,_,_,rfl,one 3 _ (by decide),one 2 _ (by decide),one 2 _ (by decide),one 1 _ (by decide)⟩
def Qi(hn:kn.Nodup)(s:Int):PsD ks kn (cJ ks kn 2 s).2:=by
 refine⟨(mn hn 2 s (by decide)).2.1,?_⟩;obtain⟨a,b,c⟩:=A6 ks 2 s (by decide);have e:nU (ks.map (·.1)) kn 0 (nx (nx s),[]):=⟨bG _,⟨by simpa using hn,λ_ z=>(b6 z).elim,λ_ z=>(b6 z).elim⟩,aU _⟩;unfold cJ
 by_cases j:0<ks.length
 .obtain⟨u,v,A⟩:=pG (I:=nU (ks.map (·.1)) kn) (λn p q=>A5 j n p q) e (prN ks 2 s);have:(2:Int).toNat=2:=rfl;lia
 .rw[c (pS.mp (by lia))];simp[itN]
section
variable{y:Lay}(hy:ff y)
include hy
def Qj{kn:L2N}(s:Int):(fw y kn s).2∈kn\/(fw y kn s).2∈y.p:=by
 obtain⟨c,e,j,q⟩:=hy.p;have dp:∀s,dh y.p [] (dr s (y.p.length:Nat))∈y.p:=λs=>jK (bJ s (by lia));unfold fw;split
 .exact .inr (dp _)
 .rename_i h;split
  .exact .inl (jK (bJ _ (by have:=lz.mpr h;lia)))
  .exact .inr (dp _)
def wS{kn:L2N}(j:kn.length<=1000)(s:Int):ThD y kn (thP y kn s).2:=by
 obtain⟨q,c⟩:=hy.h;have d:=bJ s (k:=4) (by decide);have hm:=jK (L:=y.h) (z:=([],0)) (k:=dr s 4) (by lia);have e:=c _ hm;obtain⟨a,b⟩:=mm (F:=fw y kn) (λs=>(ww hy s j).1) (dh y.h ([],0) (dr s 4)).2.toNat (nx s) (bG _);refine⟨?_,kj (F:=fw y kn) (P:=λw=>w∈kn\/w∈y.p) (λs=>Qj hy s) _ _⟩;show((dh y.h ([],0) (dr s 4)).1,(((itP (fw y kn) _ (nx s)).2.length:Nat):Int))∈y.h;rw[b,Int.toNat_of_nonneg e.2.1];exact hm
def Qk(ks:List Kd){kn:L2N}(hn:kn.Nodup)(e:kn.length<=100){many:Int}(hm:0<many/\many<=3)(s:Int):ItD y ks kn (dO y kn ks many s).2.1 (dO y kn ks many s).2.2:=by
 obtain⟨p,q,u,v,A⟩:=wx hy ks hn e hm.1 s;have c:=Qi (ks:=ks) hn s;have j:(kn++vrs (cJ ks kn 2 s).2).length<=1000:=by rw[aM,au];have:=c.l;lia
 refine⟨c,by lia,?_,?_⟩
 .exact kj (F:=itS y (kn++vrs (cJ ks kn 2 s).2)) (P:=λz=>ThD y (kn++vrs (cJ ks kn 2 s).2) z.1) (λs=>wS hy j _) _ _
 .refine kj (F:=itS y (kn++vrs (cJ ks kn 2 s).2)) (P:=λz=>0<=z.2/\z.2<10 ^ 30) (λs=>?_) _ _;have:=A2 s;show 0<=(if dr (cN s).1 2=0 then (1:Int) else ((cN s).2.natAbs:Int))/\(if dr (cN s).1 2=0 then (1:Int) else ((cN s).2.natAbs:Int))<10 ^ 30;split
  .decide
  .omega
def Ql(ks:List Kd){kn:L2N}(hn:kn.Nodup)(c:kn.length<=100)(s:Int):PaD y ks kn (fg y kn ks s).2:=by
 unfold fg;split
 .unfold unS;dsimp only
  split <;> trivial
 .split
  .exact Qk hy ks hn c (many:=2) (by decide) (nx s)
  .dsimp only;split
   .exact wS hy (by lia) _
   .exact wS hy (by lia) _
def Qm(ks:List Kd){kn:L2N}(hn:kn.Nodup)(c:kn.length<=100)(s:Int):∀p∈(gh y kn ks s).2,PaD y ks kn p:=kj (F:=fg y kn ks) (λs=>Ql hy ks hn c s) _ _
end
structure NmD(y:Lay)(vs:L2N)(n:As):Prop where
 k:n.map (·.1)=vs
 v:∀p∈n,p.2∈y.p
def Qn(h:NmD y vs n)(q:w∈vs\/w∈y.p):nmF n w∈y.p:=by
 unfold nmF
 cases c:n.find? (λp=>decide (p.1=w))with
 |some p=>exact h.v p (mem_of_find?_eq_some c)
 |none=>
  refine q.resolve_left λz=>?_;rw[<- h.k]at z;obtain⟨p,j,e⟩:=cq.mp z;exact sR.mp c p j (decide_eq_true e)
def wT(b:Nat):∀(S:List L2N),(∀ns∈S,ns.length<=b)->(d5 S.reverse).length<=b ^ S.length
 | [],_=>aU _
 |ns::S,h=>by
  rw[gQ,mo,sx,bT,Nat.pow_succ];exact Nat.mul_le_mul (wT b S λm hm=>h m (cB _ hm)) (h ns bK)
def BG:∀(S:List L2N),∀w∈d5 S.reverse,∀x∈w,∃ns∈S,x∈ns
 | [],w,hw,x,hx=>by cases ca.mp hw;exact(b6 hx).elim
 |ns::S,w,hw,x,hx=>by
  rw[gQ,mo]at hw;obtain⟨v,p,c⟩:=gB.mp hw;obtain⟨n,hn,rfl⟩:=cq.mp c
  rcases cC.mp hx with e |e
  .obtain⟨q,hm,j⟩:=BG S v p x e;exact⟨q,cB _ hm,j⟩
  .rw[ca.mp e];exact⟨ns,bK,hn⟩
def Hh(p:L2N):∀ws:L2N,(∀w∈ws,w∈p)->ws.reverse∈d5 (gz ws.length p)
 | [],_=>ca.mpr rfl
 |w::ws,h=>by
  rw[gQ,bT,replicate_succ',mo];exact gB.mpr ⟨_,Hh p ws λx c=>h x (cB _ c),cq.mpr ⟨w,h w bK,rfl⟩⟩
def Qo(p ws:L2N)(h:∀w∈ws,w∈p):ws∈d5 (gz ws.length p):=by
 have:=Hh p ws.reverse λw c=>h w (kB.mp c)
 rwa [kA,jP]at this
abbrev lu(y:Lay):L2N:=y.h.flatMap λx=>(d5 (gz x.2.toNat y.p)).map λws=>thT (x.1,ws)
section
variable{y:Lay}(hy:ff y)
include hy
def Qp(A:BF y):(lu y).length<=60:=by
 obtain⟨a,b,c,d,e,q,u,v,z⟩:=A;have B:=hy.p.2.2.2
 have j:∀k m:Nat,k<=m->(d5 (gz k y.p)).length<=3 ^ m:=λk m h=>by
  have:=wT 3 (gz k y.p) λns hn=>by rw[(mem_replicate.mp hn).2];exact B
  rw[reverse_replicate,mz]at this;exact cV this (sV (by decide) h)
 have C:=j _ _ q;have E:=j _ _ u;have G:=j _ _ v;have H:=j _ _ z;unfold lu;rw[e];simp only[iJ,flatMap_nil,aM,au,oh];lia
def mv{vs:L2N}{n:As}{t:Th}(h:NmD y vs n)(j:ThD y vs t):kw n t/\tT n t∈lu y:=by
 have u:=hy.h.2 _ j.1
 have e:∀w∈t.2.map (nmF n),w∈y.p:=λw q=>by
  obtain⟨x,v,rfl⟩:=cq.mp q;exact Qn h (j.2 x v)
 refine⟨⟨(sv u.1).1,?_,λw q=>?_⟩,?_⟩
 .show(t.2.map (nmF n)).length<=3;rw[au];have:((t.2.length:Nat):Int)<=3:=u.2.2;lia
 .have c:=hy.p.2.1 w (e w q);refine⟨?_,(sv c).1⟩;unfold fY made at c;simp only[di,decide_eq_true_eq]at c;exact c.1.1.1
 .refine gB.mpr ⟨_,j.1,cq.mpr ⟨t.2.map (nmF n),?_,rfl⟩⟩;have:=Qo y.p _ e
  rwa [au]at this
end
def BH{c j:Type}(f:c->List j)(b:Nat):∀l:List c,(∀x∈l,(f x).length<=b)->(l.flatMap f).length<=l.length*b:=λl=>by
 induction l with
 |nil=>intro _;simp
 |cons x l e=>
  intro h;rw[iJ,aM,bT,oj];have:=h x bK;have:=e λz hz=>h z (cB _ hz);lia
section
variable{y:Lay}(hy:ff y){ks:List Kd}(fy:∀k∈ks,k∈y.k)
include hy fy
def sF{k:LN}(j:k∈ks.map (·.1)):0<(kOf ks k).length/\(kOf ks k).length<=3/\∀w∈kOf ks k,w∈y.p:=by
 obtain⟨q,_,e,u⟩:=Bi j;obtain⟨a,b,c⟩:=hy.k.1.ns q (fy q u);rw[e];refine⟨lz.mpr b,?_,c⟩;have:=w5 a (λw v=>c w v);have:=hy.p.2.2.2;lia
def BI{kn:L2N}{ps:List Pr}(h:iG (ks.map (·.1)) kn ps)(c:ps.length<=3):PsK ks ps:=⟨h.kd,λp e=>by have:=sF hy fy (h.kd p e);lia,c⟩
def Hi{kn:L2N}{ps:List Pr}(h:PsD ks kn ps):PsK ks ps:=BI hy fy h.o (by have:=h.l;lia)
def Qq{vs:L2N}{n:As}{ov:List Pr}(h:NmD y vs n)(q:PsD ks vs ov):(nbw ks ov n).length<=9/\∀m∈nbw ks ov n,NmD y (vs++vrs ov) m:=by
 have B:=Hi hy fy q
 have j:∀w∈d5 (psN ks ov),∀x∈w,x∈y.p:=λw u x C=>by
  have:=BG (psN ks ov).reverse w (by rw[kA];exact u) x C;obtain⟨ns,hn,z⟩:=this;obtain⟨p,c,rfl⟩:=cq.mp (kB.mp hn);exact(sF hy fy (q.o.kd p c)).2.2 x z
 constructor
 .unfold nbw;rw[au]
  have:=wT 3 (psN ks ov).reverse λns hn=>by
   obtain⟨p,c,rfl⟩:=cq.mp (kB.mp hn);exact(sF hy fy (q.o.kd p c)).2.1
  rw[kA,jP]at this;have A:(psN ks ov).length<=2:=by unfold psN;rw[au];exact q.l
  exact cV this (sV (by decide) A)
 .intro m hm;obtain⟨w,u,rfl⟩:=cq.mp hm;have A:=(pM B).2 w u;refine⟨?_,λp c=>?_⟩
  .rw[bp,h.k,mF (by rw[au];lia)]
  .rcases cC.mp c with e |e
   .exact h.v p e
   .exact j w u p.2 (of_mem_zip e).2
def Qr{vs:L2N}{n:As}{its:List Ti}{ov:List Pr}(h:NmD y vs n)(hi:ItD y ks vs its ov):ItK ks n its ov/\(itF ks ov n its).length<=27/\∀z∈itF ks ov n its,z.1∈lu y:=by
 obtain⟨u,nm⟩:=Qq hy fy h hi.p;have e:=hi.l
 have j:(itF ks ov n its).length<=27:=by
  have:=BH (λz:Ti=>(nbw ks ov n).map λm=>(tT m z.1,z.2)) 9 its λz _=>by rw[au];exact u
  unfold itF;have c:=sW 9 e;lia
 refine⟨⟨Hi hy fy hi.p,by rw[h.k];exact hi.p.o.nd,λz hz m hm=>(mv hy (nm m hm) (hi.t z hz)).1,by lia,by lia⟩,j,λz hz=>?_⟩;obtain⟨x,q,c⟩:=gB.mp hz;obtain⟨m,hm,rfl⟩:=cq.mp c;exact(mv hy (nm m hm) (hi.t x q)).2
def Hj{vs:L2N}{n:As}(h:NmD y vs n)(p:Pa)(j:PaD y ks vs p):PaK ks n p/\(isU p=ag->(ppT (ppF ks n p)).length<=27/\∀t∈ppT (ppF ks n p),t∈lu y):=by
 cases p with
 |is t=>exact⟨(mv hy h j).1,λ_=>⟨by simp[ppF,ppT],λx q=>by rw[ca.mp (show x∈[tT n t]from q)];exact(mv hy h j).2⟩⟩
 |no t=>exact⟨(mv hy h j).1,λ_=>⟨by simp[ppF,ppT],λx q=>by rw[ca.mp (show x∈[tT n t]from q)];exact(mv hy h j).2⟩⟩
 |un a b=>exact⟨trivial,λe=>nomatch e⟩
 |ct w k its ov=>
  obtain⟨a,b,c⟩:=Qr hy fy h j;refine⟨a,λ_=>⟨by show((itF ks ov n its).map (·.1)).length<=27;rw[au];exact b,λt u=>?_⟩⟩;obtain⟨z,hz,rfl⟩:=cq.mp (show t∈(itF ks ov n its).map (·.1)from u);exact c z hz
end
structure nY(y:Lay)(ks:List Kd)(r:Ro):Prop where
 k:d7 r=ag
 c:isC r=ag
 p:iG (ks.map (·.1)) [] (roP r)
 l:(roP r).length<=3
 b:∀p∈roB r,PaD y ks (vrs (roP r)) p
 n:(roB r).length<=4
 t:∀b t bd ps,r=.rule b t bd ps->ThD y (vrs ps) t
def BJ(z:ff y)(ks:List Kd)(s:Int):nY y ks (gi y ks s).2:=by
 obtain⟨C,j,u⟩:=mn (ks:=ks) (kn:=[]) f7 3 s (by decide);unfold gi;generalize cJ ks [] 3 s=q at C j u;have hn:(vrs q.2).Nodup:=by simpa using j.nd
 have A:(vrs q.2).length<=100:=by rw[au];lia
 obtain⟨E,G,H⟩:=wy z ks hn A q.1;have v:=Qm z ks hn A q.1;generalize gh y (vrs q.2) ks q.1=b at E G H v;have B:=λs=>wS z (kn:=vrs q.2) (by lia) s;unfold pJ;split
 .refine⟨rfl,rfl,j,u,λp c=>?_,by show(b.2++[_]).length<=4;rw[aM,dR];lia,λ_ _ _ _ e=>nomatch e⟩
  rcases cC.mp (show p∈b.2++[_]from c)with c |c
  .exact v p c
  .rw[ca.mp c]
   split <;> exact B _
 .exact⟨rfl,rfl,j,u,v,by show b.2.length<=4;lia,λ_ _ _ _ e=>by cases e;exact B _⟩
def Hk{a b:L2N}(h:∀k∈a,k∈b)(p:iG a vs ps):iG b vs ps:=⟨p.nd,λq c=>h _ (p.kd q c),p.vr⟩
variable{a b:List Kd}
def Qs(h:∀k∈a.map (·.1),k∈b.map (·.1))(p:Pa)(c:PaD y a vs p):PaD y b vs p:=by
 cases p with
 |is t=>exact c
 |no t=>exact c
 |un a b=>exact c
 |ct w k its ov=>exact⟨⟨Hk h c.p.o,c.p.l⟩,c.l,c.t,c.w⟩
def Qt(h:∀k∈a.map (·.1),k∈b.map (·.1)){r:Ro}(e:nY y a r):nY y b r:=⟨e.k,e.c,Hk h e.p,e.l,λp j=>Qs h p (e.b p j),e.n,e.t⟩
section
variable{y:Lay}(hy:ff y){ks:List Kd}(fy:∀k∈ks,k∈y.k)
include hy fy
def Qu{vs:L2N}{n:As}{ov:List Pr}(h:NmD y vs n)(u:iG (ks.map (·.1)) vs ov)(A:ov.length<=3):(nbw ks ov n).length<=27/\∀m∈nbw ks ov n,NmD y (vs++vrs ov) m:=by
 have C:=BI hy fy u A
 have j:∀w∈d5 (psN ks ov),∀x∈w,x∈y.p:=λw q x E=>by
  have:=BG (psN ks ov).reverse w (by rw[kA];exact q) x E;obtain⟨ns,hn,z⟩:=this;obtain⟨p,c,rfl⟩:=cq.mp (kB.mp hn);exact(sF hy fy (u.kd p c)).2.2 x z
 constructor
 .unfold nbw;rw[au]
  have:=wT 3 (psN ks ov).reverse λns hn=>by
   obtain⟨p,c,rfl⟩:=cq.mp (kB.mp hn);exact(sF hy fy (u.kd p c)).2.1
  rw[kA,jP]at this;have B:(psN ks ov).length<=3:=by unfold psN;rw[au];exact A
  exact cV this (sV (by decide) B)
 .intro m hm;obtain⟨w,q,rfl⟩:=cq.mp hm;have B:=(pM C).2 w q;refine⟨?_,λp c=>?_⟩
  .rw[bp,h.k,mF (by rw[au];lia)]
  .rcases cC.mp c with e |e
   .exact h.v p e
   .exact j w q p.2 (of_mem_zip e).2
def wU{r:Ro}(j:nY y ks r):RwK ks r/\(nbw ks (roP r) []).length<=27/\∀n∈nbw ks (roP r) [],(ruF ks n r).b.length<=4/\(∀p∈(ruF ks n r).b,(ppT p).length<=27)/\∀t∈prT (ruF ks n r),t∈lu y:=by
 have N:NmD y [] []:=⟨rfl,λ_ z=>(b6 z).elim⟩;obtain⟨J,u⟩:=Qu hy fy N j.p j.l;rw[jl]at u;have Q:=j.l;have G:=j.n
 have H:∀n∈nbw ks (roP r) [],∀p∈bdF ks n (roB r),(ppT p).length<=27/\∀t∈ppT p,t∈lu y:=λn hn p v=>by
  unfold bdF at v;obtain⟨q,M,rfl⟩:=cq.mp v;obtain⟨L,B⟩:=lC.mp M;exact(Hj hy fy (u n hn) q (j.b q L)).2 (by simpa using B)
 have A:∀n,(bdF ks n (roB r)).length<=4:=λn=>by
  unfold bdF;rw[au];exact cV (pV _ _) G
 have C:∀n∈nbw ks (roP r) [],∀p∈roB r,PaK ks n p:=λn hn p v=>(Hj hy fy (u n hn) p (j.b p v)).1;refine⟨⟨BI hy fy j.p j.l,by simpa using j.p.nd,by lia,λn hn _=>⟨?_,?_⟩⟩,J,λn hn=>?_⟩
 .cases r with
  |kind a b=>nomatch j.k
  |choose a b c d e f=>nomatch j.c
  |rule b t bd ps=>exact⟨(mv hy (u n hn) (j.t b t bd ps rfl)).1,by have:bd.length<=4:=G;lia,C n hn⟩
  |never bd ps=>exact⟨by have:bd.length<=4:=G;lia,C n hn⟩
 .have:=congrArg fB (u n hn).k;rw[au,au]at this;lia
 .have E:=H n hn;have A:=A n
  cases r with
  |kind a b=>nomatch j.k
  |choose a b c d e f=>nomatch j.c
  |rule b t bd ps=>
   refine⟨A,λp v=>(E p v).1,λx I=>?_⟩
   rcases cC.mp (show x∈[tT n t]++(bdF ks n bd).flatMap ppT from I)with q |q
   .rw[ca.mp q];exact(mv hy (u n hn) (j.t b t bd ps rfl)).2
   .obtain⟨p,v,B⟩:=gB.mp q
    exact(E p v).2 x B
  |never bd ps=>
   refine⟨A,λp v=>(E p v).1,λx I=>?_⟩;obtain⟨p,v,B⟩:=gB.mp (show x∈(bdF ks n bd).flatMap ppT from I);exact(E p v).2 x B
end
def Qv{k:LN}(h:k∈a.map (·.1)):kOf (a++b) k=kOf a k:=by
 obtain⟨q,c,_,_⟩:=Bi h;unfold kOf;rw[find?_append,c];rfl
def Qw(h:iG (a.map (·.1)) vs ps):psN (a++b) ps=psN a ps:=pW λp c=>Qv (h.kd p c)
def Hl(h:iG (a.map (·.1)) vs ps)(n:As):nbw (a++b) ps n=nbw a ps n:=by unfold nbw;rw[Qw h]
def Qx(n:As)(p:Pa)(h:PaD y a vs p):ppF (a++b) n p=ppF a n p:=by
 cases p with
 |is t=>rfl
 |no t=>rfl
 |un c d=>rfl
 |ct w k its ov=>
  show PP.c w k (itF (a++b) ov n its)=PP.c w k (itF a ov n its);unfold itF;rw[Hl h.p.o]
def Qy(n:As)(bd:List Pa)(h:∀p∈bd,PaD y a vs p):bdF (a++b) n bd=bdF a n bd:=pW λp c=>Qx n p (h p (lC.mp c).1)
def Qz{r:Ro}(h:nY y a r):rwF (a++b) r=rwF a r:=by
 unfold rwF;rw[Hl h.p]
 congr 1
 funext n;have j:=Qy (b:=b) n (roB r) h.b
 cases r with
 |kind c d=>nomatch h.k
 |choose c d e f g i=>nomatch h.c
 |rule c t bd ps=>exact congrArg (λz=>[PR.mk _ _ z]) j
 |never bd ps=>exact congrArg (λz=>[PR.mk _ _ z]) j
def Hm{y:Lay}(z:ff y)(f:Int)(C:0<=f)(ss:List Int):∀(n:Nat) (pre:List Ro) (r:Ro) (post:List Ro),eC y f ss n=pre++r::post->d7 r=ag->nY y (aG pre) r/\∃m,aG pre=y.k.take m
 | 0,pre,r,post,h,_=>by simp[eC]at h
 |n+1,pre,r,post,h,hr=>by
  obtain⟨m,hm,e⟩:=wR y f C ss n;have E:y.k.take m=(y.k.take (f+n).toNat).take m:=by rw[take_take,kC hm]
  have A:aG (eC y f ss n)++(y.k.take (f+n).toNat).drop (aG (eC y f ss n)).length=y.k.take (f+n).toNat:=by
   rw[e,E];generalize y.k.take (f+n).toNat=M;rw[hJ]
   by_cases h:m<=M.length
   .rw[kC h,pU]
   .rw[oi (by lia),drop_length,cx,jk (by lia)]
  rw[eC,eU]at h
  rcases append_eq_append_iff.mp h with⟨c,q,p⟩ |⟨c,q,p⟩
  .-- pre reaches behind the rows so far
   rcases append_eq_append_iff.mp p with⟨d,u,j⟩ |⟨d,u,j⟩
   .cases d with
    |nil=>
     rw[jl]at j
     injection j with j h5
     rw[cx]at u;have v:aG pre=y.k.take (f+n).toNat:=by rw[q,u,sE,pN,A]
     rw[v];refine⟨?_,_,rfl⟩;rw[<- j]
     exact BJ z _ _
    |cons x d=>
     rw[mG]at j
     injection j with j h5
     simp at h5
   .cases d with
    |nil=>
     rw[jl]at j
     injection j with j h5
     rw[cx]at u;have v:aG pre=y.k.take (f+n).toNat:=by rw[q,<- u,sE,pN,A]
     rw[v];refine⟨?_,_,rfl⟩;rw[j]
     exact BJ z _ _
    |cons x d=>
     rw[mG]at j
     injection j with j h5
     have:r∈((y.k.take (f+n).toNat).drop (aG (eC y f ss n)).length).map jM:=by rw[u,j];simp
     obtain⟨k,_,rfl⟩:=cq.mp this
     nomatch hr
  .cases c with
   |nil=>
    rw[jl]at p;rw[cx]at q
    cases hd:((y.k.take (f+n).toNat).drop (aG (eC y f ss n)).length).map jM with
    |nil=>
     rw[hd,jl]at p
     injection p with j h5
     have v:aG pre=y.k.take (f+n).toNat:=by
      have B:=pN ((y.k.take (f+n).toNat).drop (aG (eC y f ss n)).length);rw[hd]at B;rw[<- q,<- A,<- B];simp[aG]
     rw[v];refine⟨?_,_,rfl⟩;rw[j]
     exact BJ z _ _
    |cons x d=>
     rw[hd,mG]at p
     injection p with j h5
     have:r∈((y.k.take (f+n).toNat).drop (aG (eC y f ss n)).length).map jM:=by rw[hd,j];simp
     obtain⟨k,_,rfl⟩:=cq.mp this
     nomatch hr
   |cons x c=>
    rw[mG]at p
    injection p with j h5
    subst j;exact Hm z f C ss n pre r c q hr
def QA{c:Type}{f:MF2}{g:c->D}{xs:List c}(d:c)(e:f ρ=aa [.kl (xs.map g)]):lS f ρ=aa ((cp xs.length).map λi=>D.tup [.int (i:Nat),g (xs.getD i d)]):=by
 unfold lS;rw[e,<- D4];rfl
def QB(ns:List Int)(many:Int)(hm:0<many/\many<=6):∃ss:List Int,ss.length=many.toNat/\(∀s∈ss,okS s)/\vP [.kl (ns.map D.int),.int many]=aa (.lst (ss.map D.int)):=by
 have w:wp vO [.im (.kl (ns.map D.int)),.im (.int many),.no,.no,.no,.no] (qW λd=>∃ss:List Int,d=.lst (ss.map D.int)/\ss.length=many.toNat/\∀s∈ss,okS s):=by
  generalize G:D.kl _=v;apply ao
  have Q:bQ 1 [] (gX (af (ae 1) nZ)) (aF 0) kY (m2 cT (m2 jE (ae 0) (kI 7368787)) (kI 1000003)) [.im v,.im (.int many),.no,.no,.no,.no]=aa (((cp many.toNat).map λ(k:Nat)=>(k:Int)*7368787+1000003).map D.int):=by
   rw[map_map];refine gY _ (λ(i:Nat)=>D.int i) _ ?_ (by rw[dH];lia) λi hi=>?_
   .unfold gX;rw[show af _ _ _=aa _ from rfl,ax,wo _ (by lia) (by lia)]
   .have T:=jm.mp hi;exact gu rfl rfl (ap (ap rfl rfl (lW (.inl (.inr ⟨by decide,by decide⟩)))) rfl gZ)
  refine e7 Q ?_;apply ao;refine cM _ _ (λ_ ρ=>∃(ss:List Int) (A B C:Sl),(ss.length=many.toNat/\∀s∈ss,okS s)/\ρ=[.im v,.im _,.own (ss.map D.int),A,B,C]) (by subst G;exact QA 0 rfl) ⟨_,_,_,_,⟨by rw[au,dH],λs j=>?_⟩,rfl⟩ ?_ ?_
  .obtain⟨k,U,rfl⟩:=cq.mp j;have:=jm.mp U;unfold okS;lia
  .rintro pre i post ρ Y ⟨ss,A,B,C,⟨p,j⟩,rfl⟩;refine⟨_,rfl,?_⟩;generalize ns.getD i 0=c;have H:0<=i % many/\i % many<many:=⟨Int.emod_nonneg _ (by lia),wZ _ hm.1⟩;have E:∀(L M:Sl),m2 jx (ae 3) (ae 1) [.im v,.im _,.own (ss.map D.int),.im _,L,M]=aa (.int (i % many)):=λ_ _=>ap rfl rfl (lT hm.1);generalize _ % many=q at H E;have u:q.toNat<ss.length:=by lia
   have I:atI (ss.map D.int) q=aa (.int ss[q.toNat]):=by
    unfold atI ixN;rw[if_pos H.1,if_pos (by rw[au];lia),ax,eM,cR u];rfl
   have J:=j _ (ly u);unfold okS at J;generalize ss[q.toNat]=s at I J;apply ao;refine cw (ap (ap (am rfl (E _ _) I) rfl (lW (.inr ⟨by lia,by decide⟩))) (ap rfl (ap rfl rfl (uJ (by decide))) (lT (by decide))) gZ) ?_;refine K0 (ap (ap rfl rfl gZ) (ap (ap rfl rfl (uJ (by decide))) rfl k6) (lT (by decide))) (E _ _) rfl H.1 (by rw[au];lia) ?_;refine⟨ss.set q.toNat ((s*1000003+c % 10 ^ 30+i) % (2 ^ 61-1)),.im (.int i),.im (.int c),.im (.int (s*1000003+c % 10 ^ 30)),⟨by rw[hU];exact p,λz hz=>?_⟩,?_⟩
   .rcases mem_or_eq_of_mem_set hz with e |e
    .exact j z e
    .have N:=Int.emod_nonneg (s*1000003+c % 10 ^ 30+i) (show(2 ^ 61-1:Int)≠0 by decide);rw[e];exact⟨N,(wZ _ (show _<2 ^ 61-1 by decide))⟩
   .rw[map_set];rfl
  .rintro ρ ⟨ss,A,B,C,⟨p,j⟩,rfl⟩;exact nG rfl (j5 ⟨ss,rfl,p,j⟩)
 obtain⟨d,e,ss,rfl,p,j⟩:=D0 (n:=6) (ds:=[.kl _,.int many]) w;exact⟨ss,p,j,e⟩
def QC{c:Type}{f:MF1}{g:c->D}{xs:List c}{b:Int}(e:f ρ=aa (.lst (xs.map g)))(j:l ρ=aa ab)(p:h ρ=aa (aa b))(q:0<=b):mSl f l h ρ=aa ((xs.take b.toNat).map g):=by
 rw[qX e j p];obtain⟨m,rfl⟩:=wY q;rw[HT.sIx_nat,show HT.sIx xs.length 0 ab=0 from rfl,drop_zero,Nat.sub_zero,gP]
 by_cases hm:m<=xs.length
 .rw[kC hm]
 .rw[oi (by lia),jk (by lia),jk (by lia)]
def QD(rs:List Ro):(rs.filter d7).length=(aG rs).length:=by
 unfold aG
 induction rs with
 |nil=>rfl
 |cons r rs j=>
  rw[iJ,aM,<- j]
  cases r with
  |kind a b=>rw[sN rfl,bT];show _=1+_;lia
  |rule a b c d=>rw[lx (show ¬ag=ac from bZ)];show _=0+_;lia
  |choose a b c d e f=>rw[lx (show ¬ag=ac from bZ)];show _=0+_;lia
  |never a b=>rw[lx (show ¬ag=ac from bZ)];show _=0+_;lia
variable{ss:List Int}{n:Nat}
def Ho(h:n<ss.length):atI (ss.map D.int) (n:Int)=aa (.int (ss.getD n 0)):=by
 unfold atI ixN;rw[if_pos (by lia),if_pos (by rw[au];lia),ax,eM,gP,cR h,gy,cR h];rfl
def Hq(h:n<ss.length):ss.getD n 0∈ss:=by
 rw[gy,cR h];exact ly h
def QE(c:ff y):∀k∈y.k,k.2.length<=100:=λk e=>by
 have h:=c.k.1.ns k e;have:=w5 h.1 (λw j=>h.2.2 w j);have:=c.p.2.2.2;lia
abbrev lv(ss:List Int):List Ro:=eC (jg (ss.getD 0 0)).2 (dr (jg (ss.getD 0 0)).1 4) ss (ss.length-1)
def QF(j:D)(many:Int)(hm:1<=many/\many<=3)(ss:List Int)(Y:ss.length=(many+1).toNat)(N:∀s∈ss,okS s)(es:vP [j,.int (many+1)]=aa (.lst (ss.map D.int))):m_3 [j,.int many]=aa (.lst ((lv ss).map Ro.toD)):=by
 apply cn;unfold b_3;show wp _ [.im j,.im (.int many),.no,.no,.no,.no,.no,.no,.no,.no,.no] _;have J:0<ss.length:=by lia
 have H:=N _ (Hq J);apply ao;refine cw (aN (ah rfl (ah (ap rfl rfl gZ) rfl)) es) ?_;show wp _ [.im j,.im (.int many),.im (.lst (ss.map D.int)),.no,.no,.no,.no,.no,.no,.no,.no] _;apply ao;refine e7 (d:=[.int (ss.getD 0 0)]) (ah (am rfl rfl (Ho J)) rfl) ?_;obtain⟨Q,u⟩:=Gf (ss.getD 0 0);apply ao;refine fI (FX (xs:=[.int (ss.getD 0 0)]) rfl rfl rfl λl=>Ov l _ H) ?_;unfold lv;generalize jg (ss.getD 0 0)=q at Q u;obtain⟨s1,y⟩:=q;apply ao;refine fI (FX (xs:=[.int s1]) rfl (bg (aQ rfl) rfl) rfl λl=>pB l s1 4 Q (by decide)) ?_;have T:=bJ s1 (k:=4) (by decide);show wp _ [.im j,.im (.int many),.im (.lst (ss.map D.int)),.own [.int (nx s1)],.im y.toD,.im (.int (dr s1 4)),.no,.no,.no,.no,.no] _;dsimp only;generalize dr s1 4=f at T;apply ao;refine e7 rfl ?_;show wp _ [.im j,.im (.int many),.im (.lst (ss.map D.int)),.own [.int (nx s1)],.im y.toD,.im (.int f),.own [],.no,.no,.no,.no] _;generalize nx s1=s2;apply ao;have u:ff y:=u;refine cM (cp (ss.length-1)) (λ(i:Nat)=>D.int i) (λpre ρ=>∃A z e c,ρ=[.im j,.im (.int many),.im (.lst (ss.map D.int)),.own [.int s2],.im y.toD,.im (.int f),.own ((eC y f ss pre.length).map Ro.toD),A,z,e,c]) ((yu (n:=many) (ah rfl rfl) (by lia) (by lia)).trans (by rw[show many.toNat=ss.length-1 by lia])) ⟨_,_,_,_,rfl⟩ ?_ ?_
 .rintro pre i post ρ C ⟨A,z,e,c,rfl⟩;refine⟨_,rfl,?_⟩;obtain⟨E,G⟩:=Bv C;subst E;rw[aM,dR];generalize hn:pre.length=n at G;show wp _ [.im j,.im (.int many),.im (.lst (ss.map D.int)),.own [.int s2],.im y.toD,.im (.int f),.own ((eC y f ss n).map Ro.toD),.im (.int n),z,e,c] _;have hR:=BE u f ss n;generalize B:eC y f ss n=R at hR;apply ao;refine cw (d:=.int ((aG R).length:Nat)) (aN (ah (cY (uD R Ro.toD d7 Ro.toD rfl (by lia) λr _=>nz rfl (Hb r _ 0 rfl) λ_=>rfl)) rfl) (by rw[dL,QD])) ?_;show wp _ [.im j,.im (.int many),.im (.lst (ss.map D.int)),.own [.int s2],.im y.toD,.im (.int f),.own (R.map Ro.toD),.im (.int n),.im (.int ((aG R).length:Nat)),e,c] _
  have v:mSl (mIx (ak 4) (kI 2)) (mPt (ae 8)) (mPt (m2 cT (ae 5) (ae 7))) [.im j,.im (.int many),.im (.lst (ss.map D.int)),.own [.int s2],.im y.toD,.im (.int f),.own (R.map Ro.toD),.im (.int n),.im (.int ((aG R).length:Nat)),e,c]=aa (((y.k.take (f+n).toNat).drop (aG R).length).map kdD):=by
   have:=Qg (xs:=y.k) (g:=kdD) (f:=mIx (ak 4) (kI 2)) (l:=mPt (ae 8)) (h:=mPt (m2 cT (ae 5) (ae 7))) (ρ:=[.im j,.im (.int many),.im (.lst (ss.map D.int)),.own [.int s2],.im y.toD,.im (.int f),.own (R.map Ro.toD),.im (.int n),.im (.int ((aG R).length:Nat)),e,c]) (a:=((aG R).length:Nat)) (b:=f+n) (am rfl rfl rfl) rfl rfl (by lia) (by lia);exact this
  generalize L:(y.k.take (f+n).toNat).drop (aG R).length=M at v
  have U:M.length<=3:=by
   rw[<- L,lB,hJ];have:y.k.length<=3:=u.k.2;lia
  refine k7 (λρ=>∃e c,ρ=[.im j,.im (.int many),.im (.lst (ss.map D.int)),.own [.int s2],.im y.toD,.im (.int f),.own ((R++M.map jM).map Ro.toD),.im (.int n),.im (.int ((aG R).length:Nat)),e,c]) ?_ ?_
  .refine cM M kdD (λpre ρ=>∃e c,ρ=[.im j,.im (.int many),.im (.lst (ss.map D.int)),.own [.int s2],.im y.toD,.im (.int f),.own ((R++pre.map jM).map Ro.toD),.im (.int n),.im (.int ((aG R).length:Nat)),e,c]) (bA (cY v) rfl) ⟨_,_,by rw[map_nil,cx]⟩ ?_ ?_
   .rintro p k post ρ C ⟨e,c,rfl⟩;refine⟨_,rfl,?_⟩
    have hp:p.length<=3:=by
     have:=congrArg fB C;rw[aM]at this;lia
    refine iz (d:=(jM k).toD) (dG (ah rfl (ah rfl (ah rfl rfl)))) rfl (by rw[au,aM,au];lia) ⟨.im (sT k.1),.im (.lst (k.2.map sT)),?_⟩;rw[bp,bp,bp,sU,bp,sU,<- eU];rfl
   .rintro ρ ⟨e,c,rfl⟩;exact k_J ⟨_,_,rfl⟩
  rintro _ ⟨e,c,rfl⟩;have I:=N _ (Hq (ss:=ss) (n:=n+1) (by lia))
  have htk:(y.k.take (f+n).toNat).length<=100:=by
   rw[hJ];have:y.k.length<=3:=u.k.2;lia
  refine iz (d:=(gi y (y.k.take (f+n).toNat) (ss.getD (n+1) 0)).2.toD) (ML (q:=(_,_)) (ah (am rfl (ap rfl rfl gZ) ?_) rfl) (ah rfl (ah (cY (QC (xs:=y.k) (g:=kdD) (b:=f+n) (am rfl rfl rfl) rfl rfl (by lia))) rfl)) λl=>OH u l _ htk _ I) rfl (by rw[au,aM,au];lia) ⟨.im (.int n),.im (.int ((aG R).length:Nat)),e,c,?_⟩
  .rw[show(n:Int)+1=((n+1:Nat):Int) by lia];exact Ho (by lia)
  .rw[eC,B,L,bp (l₁:=R++M.map jM)];rfl
 .rintro ρ ⟨A,z,e,c,rfl⟩;rw[dH];exact nG rfl (j5 rfl)
def QG(ss:List Int)(h4:ss.length<=4):PlK (lv ss)/\RsK (lv ss):=by
 unfold lv;obtain⟨l1,z⟩:=Gf (ss.getD 0 0);have T:=Qh (ss.getD 0 0);generalize jg (ss.getD 0 0)=q at l1 z T;obtain⟨s1,y⟩:=q;have z:ff y:=z;have T:BF y:=T;have Q:=bJ s1 (k:=4) (by decide);dsimp only;generalize dr s1 4=f at Q;have I:=BE z f ss (ss.length-1);have B:=Qf (He z (QE z) f Q.1 ss (ss.length-1));have G:=Hm z f Q.1 ss (ss.length-1);obtain⟨M,_,hK⟩:=wR y f Q.1 ss (ss.length-1);generalize eC y f ss (ss.length-1)=rs at I B G hK;have C:∀k∈aG rs,k∈y.k:=λk j=>by rw[hK]at j;exact sP j
 have J:((aG rs).map (·.1)).Nodup:=by
  rw[hK,map_take];exact z.k.1.nd.sublist (take_sublist _ _)
 have L:∀pre r post,rs=pre++r::post->∃m,aG rs=aG pre++m:=λpre r post e=>by
  rw[e];unfold aG;rw[eS];exact⟨_,rfl⟩
 have u:∀r∈rs,d7 r=ag->nY y (aG rs) r:=λr v j=>by
  obtain⟨pre,post,e⟩:=append_of_mem v;obtain⟨H,_⟩:=G pre r post e j;obtain⟨m,hm⟩:=L pre r post e;refine Qt (λk j=>?_) H;rw[hm,bp];exact f6 _ j
 have ll:∀x∈rsF (aG rs) rs,∃r∈rs,d7 r=ag/\∃n∈nbw (aG rs) (roP r) [],x=ruF (aG rs) n r:=λx N=>by
  obtain⟨r,v,E⟩:=gB.mp N
  cases j:d7 r with
  |true=>rw[j]at E;exact(b6 E).elim
  |false=>
   rw[j]at E;obtain⟨n,hn,Y⟩:=gB.mp (show x∈rwF (aG rs) r from E);rw[Bz _ _ _ j (u r v j).c]at Y;exact⟨r,v,j,n,(lC.mp hn).1,ca.mp Y⟩
 have A:∀x∈rsF (aG rs) rs,x.b.length<=4/\(∀p∈x.b,(ppT p).length<=27)/\∀t∈prT x,t∈lu y:=λx N=>by
  obtain⟨r,v,j,n,hn,rfl⟩:=ll x N;exact(wU z C (u r v j)).2.2 n hn
 refine⟨⟨B,by lia,J,λr v j=>(wU z C (u r v j)).1,?_,λx N=>?_,?_⟩,J,by lia,λpre r post e j=>?_⟩
 .have:=BH (λr=>if d7 r then [] else rwF (aG rs) r) 27 rs λr v=>by
   cases j:d7 r with
   |true=>simp
   |false=>
    show(rwF (aG rs) r).length<=27;have h27:=(wU z C (u r v j)).2.1;have H:=BH (λn=>rbF (aG rs) n r) 1 ((nbw (aG rs) (roP r) []).filter λn=>!cD n (roB r)) λn _=>by rw[Bz _ _ _ j (u r v j).c];exact aU _
    have E:=pV (λn=>!cD n (roB r)) (nbw (aG rs) (roP r) []);unfold rwF;lia
  have U:rs.length<=12:=by lia
  have Y:=sW 27 U;show(rsF (aG rs) rs).length<=400;unfold rsF;lia
 .obtain⟨a,b,_⟩:=A x N;exact⟨by lia,λp hp=>by have:=b p hp;lia⟩
 .have hs:∀t∈plT rs,t∈lu y:=λt ht=>by
   rcases((nX ((plR rs).flatMap prT) [] f7).2.1 t).mp ht with e |e
   .exact(b6 e).elim
   .obtain⟨r,v,E⟩:=gB.mp e;exact(A r v).2.2 t E
  have:=w5 (nX ((plR rs).flatMap prT) [] f7).1 (λt ht=>hs t ht);have:=Qp z T;show(plT rs).length<=60;unfold plT tbF;lia
 .obtain⟨H,m,hm⟩:=G pre r post e j;obtain⟨m2,hm2⟩:=L pre r post e;have hs1:∀k∈aG pre,k∈y.k:=λk j=>by rw[hm]at j;exact sP j
  exact⟨H.c,(wU z hs1 H).1,by rw[hm2];exact Qz H⟩
def iI(h:∀d∈ds,fH n d):fH (n+1) (.tup ds):=h
def pO{c:Type}(f:c->D)(l:List c)(h:∀x,fH n (f x)):fH (n+1) (.lst (l.map f)):=λd hd=>by
 obtain⟨x,_,rfl⟩:=cq.mp hd;exact h x
abbrev Hr(P:D->Prop):LD->Prop
 | []=>True
 | [d]=>P d
 |d::e::ds=>P d/\Hr P (e::ds)
def hE{n:Nat}{P:D->Prop}:∀{ds:LD},Hr P ds->∀d∈ds,P d
 | [],_,d,hd=>(b6 hd).elim
 | [x],h,d,hd=>by rw[ca.mp hd];exact h
 |x::e::ds,h,d,hd=>by
  rcases b8.mp hd with q |q
  .rw[q];exact h.1
  .exact hE (n:=n) h.2 d q
def wV(t:Th):fH 10 (kdD t):=iI (hE (n:=0) ⟨rfl,Hg t.2 7⟩)
def sG(ps:List Pr):fH 10 (.lst (ps.map prD)):=pO prD ps λp=>iI (hE (n:=0) ⟨rfl,rfl⟩)
def Hs(its:List Ti):fH 12 (.lst (its.map dN)):=pO dN its λz=>iI (hE (n:=0) ⟨wV z.1,rfl⟩)
def BK:∀(n:Nat) (d:D),fH n d->fH (n+1) d
 | 0,_,h=>h.elim
 |n+1,d,h=>by
  cases d with
  |lst xs=>exact λx c=>BK n x (h x c)
  |tup xs=>exact λx c=>BK n x (h x c)
  | _=>exact h
def gN{m:Nat}(h:n<=m)(p:fH n d):fH m d:=by
 induction h with
 |refl=>exact p
 |step _ c=>exact BK _ _ c
def BL(p:Pa):fH 15 p.toD:=by
 cases p with
 |is t=>exact iI (hE (n:=0) ⟨rfl,gN (by decide) (wV t)⟩)
 |no t=>exact iI (hE (n:=0) ⟨rfl,gN (by decide) (wV t)⟩)
 |un a b=>exact iI (hE (n:=0) ⟨rfl,rfl,rfl⟩)
 |ct w k its ov=>exact iI (hE (n:=0) ⟨rfl,rfl,gN (by decide) (Hs its),gN (by decide) (sG ov)⟩)
def QH(r:Ro):fH 18 r.toD:=by
 cases r with
 |kind n ns=>exact iI (hE (n:=0) ⟨rfl,rfl,Hg ns 15⟩)
 |rule b t bd ps=>exact iI (hE (n:=0) ⟨rfl,gN (by decide) (wV t),gN (by decide) (pO Pa.toD bd BL),gN (by decide) (sG ps)⟩)
 |choose lo hi its ov bd ps=>exact iI (hE (n:=0) ⟨rfl,rfl,rfl,gN (by decide) (Hs its),gN (by decide) (sG ov),gN (by decide) (pO Pa.toD bd BL),gN (by decide) (sG ps)⟩)
 |never bd ps=>exact iI (hE (n:=0) ⟨rfl,gN (by decide) (pO Pa.toD bd BL),gN (by decide) (sG ps)⟩)
def QI(rs:List Ro):fH 20 (.lst (rs.map Ro.toD)):=gN (by decide) (pO Ro.toD rs QH)
def QJ:PlK []:=⟨λpre r post e=>by simp at e,by simp,f7,λr c=>(b6 c).elim,by show([]:List PR).length<=400;simp,λr c=>(b6 (show r∈([]:List PR)from c)).elim,by show([]:L2N).length<=60;simp⟩
def BM(tb:L2N)(R:List PR):(plO tb R).kn=ac:=by
 have c:∀R:List PR,O.kns (R.map (PR.nO tb))=ac:=λR=>by
  induction R with
  |nil=>rfl
  |cons r R e=>
   rw[cS,O.kns,e];show(ac && (ac && (O.kns ((r.b.map (PP.nD tb)).map .fz) && ac)) && ac)=ac;rw[wI];rfl
 show(O.kns ((tb.map sT).map .fz) && ((ac && (O.kns (R.map (PR.nO tb)) && ac)) && ac))=ac;rw[wI,c];rfl
def QK(ns:List Int)(_:ns.length<=63):m_1 [.kl (ns.map D.int)]=aa (.bl ac):=by
 apply cn;unfold b_1;generalize p:D.kl (ns.map D.int)=j;show wp _ [.im j,.no,.no,.no,.no,.no,.no] _;apply ao;refine cw rfl ?_;refine k7 (λρ=>∃many:Int,(1<=many/\many<=3)/\ρ=[.im j,.im (.int many),.no,.no,.no,.no,.no]) ?_ ?_
 .subst p;refine aT (aL (ap (aN rfl (D3 ns D.int)) rfl i4)) (λe=>?_) λe=>bj (k_J ⟨1,by decide,rfl⟩);have H:0<ns.length:=by have:=of_decide_eq_true e;lia
  have Y:atI (ns.map D.int) 0=aa (.int ns[0]):=by
   unfold atI ixN;rw[if_pos (by decide),if_pos (by rw[au];lia),ax,eM];show(ns[0]?).map D.int=_;rw[cR H];rfl
  refine cw (ap rfl (ap (am rfl rfl Y) rfl (lT (by decide))) gZ) (k_J ⟨1+ns[0] % 3,by lia,rfl⟩)
 rintro ρ ⟨many,hm,rfl⟩;obtain⟨ss,H,J,es⟩:=QB ns (many+1) (by lia);rw[p]at es;clear p;have E:=QF j many hm ss H J es;obtain⟨q,hK⟩:=QG ss (by lia);have c:=Qb _ hK q.b q.t;have v:=G0 _ q;have A:=QI (lv ss);have G:=q.t;have z:=q.r;have N:=q.b;generalize D.lst ((lv ss).map Ro.toD)=Rd at E c v A;generalize plT (lv ss)=tb at c v G;generalize plR (lv ss)=R at c v z N;apply ao;refine cw (aN (ah rfl (ah rfl rfl)) E) ?_;show wp _ [.im j,.im (.int many),.im Rd,.no,.no,.no,.no] _;apply ao;refine Ep (sB (ah rfl rfl) v) ?_;show wp _ [.im j,.im (.int many),.im Rd,.deep (plO tb R),.no,.no,.no] _;apply ao;refine aT (b:=ag) (eY (a:=ag) (b:=ag) (eQ (b:=ac) (dZ (oQ (ah ((GW rfl (BM tb R)).trans (by rw[Bu])) (ah rfl rfl)) c rfl) rfl)) (aL (ap rfl (aN (ah rfl (ah rfl rfl)) E) (qR A)))) (λe=>nomatch e) λ_=>bj ?_;apply ao;generalize hX:O.lst ((tb.map sT).map .fz++[.fz (.str "x")])=X;refine nF (o:=.nx [.im j,.im (.int many),.im Rd,.deep (.tup [X,.tup [.fz (.int (tb.length:Nat)),.lst (R.map (PR.nO tb))]]),.no,.no,.no]) ?_ ?_
 .show(if ((tb.map sT).map O.fz).length<16777216 then aa (O.lst ((tb.map sT).map .fz++[.fz (.str "x")])) else ab).map _=_;rw[if_pos (by rw[au,au];lia),hX];rfl
 apply ao;refine Nu (os:=R.map (PR.nO tb)) (R:=λx=>.tup [X,.tup [.fz (.int (tb.length:Nat)),x]]) rfl (by decide) (λu o ho ρ1 l1=>?_) ?_
 .obtain⟨r,hr,rfl⟩:=cq.mp ho;obtain⟨L,la⟩:=l1;have L:ρ1.length=7:=L;have I:=(N r hr).1;generalize B:(r.b.map (PP.nD tb)).map O.fz=pt;have Q:pt.length<=1000:=by rw[<- B,au,au];exact I
  refine⟨((ρ1.set 4 (.im (.str r.w))).set 5 (.im (hnD tb r.h))).set 6 (.deep (.lst pt)),(((ρ1.set 4 (.im (.str r.w))).set 5 (.im (hnD tb r.h))).set 6 (.deep (.lst pt))).set 6 (.deep (.lst (pt++[.fz (.tup [.str "in",.int 0])]))),by rw[<- B];rfl,?_,?_⟩
  .have eg:(((ρ1.set 4 (.im (.str r.w))).set 5 (.im (hnD tb r.h))).set 6 (.deep (.lst pt)))[6]?=aa (.deep (.lst pt)):=ji (by rw[hU,hU];lia);obtain⟨o,e,rfl⟩:=LG (f:=oT (cg (af (kSt "in") (af (kI 0) nZ)))) (o:=.fz (.tup [.str "in",.int 0])) (K:=λo=>o=.nx ((((ρ1.set 4 (.im (.str r.w))).set 5 (.im (hnD tb r.h))).set 6 (.deep (.lst pt))).set 6 (.deep (.lst (pt++[.fz (.tup [.str "in",.int 0])]))))) rfl eg (by lia) rfl;exact e
  .refine⟨by rw[hU,hU,hU,hU];exact L,λm hm=>?_⟩;have h4:m≠4:=λe=>hm (by rw[e];decide);have h5:m≠5:=λe=>hm (by rw[e];decide);have M:m≠6:=λe=>hm (by rw[e];decide);rw[fZ (ce M),fZ (ce M),fZ (ce h5),fZ (ce h4)];exact la m hm
 show wp _ [.im j,.im (.int many),.im Rd,.deep (.tup [X,.tup [.fz (.int (tb.length:Nat)),.jnk (R.map (PR.nO tb)).length]]),.no,.no,.no] _;apply ao;refine nF (o:=.nx [.im j,.im (.int many),.im Rd,.deep (.tup [X,.tup [.fz (.int (tb.length:Nat)),.jnk ((R.map (PR.nO tb)).length+1)]]),.no,.no,.no]) ?_ ?_
 .show(if (R.map (PR.nO tb)).length<16777216 then aa (O.jnk ((R.map (PR.nO tb)).length+1)) else ab).map _=_;rw[if_pos (by rw[au];lia)];rfl
 have U:∀(ρ:LS),ρ[2]?=aa (.im Rd)->zB (i9 mi (af (ae 2) nZ)) ρ=aa (plD tb R):=λρ h2=>by
  rw[Bs (sB (ah (show ae 2 ρ=aa Rd by unfold ae;rw[h2]) rfl) v) (BM tb R),Bu]
 have T:∀(ρ:LS),zB (i9 mi (af (bf nZ) nZ)) ρ=aa (plD [] []):=λρ=>by
  have C:=G0 [] QJ;have C:mi [.lst []]=aa (plO [] []):=C;rw[Bs (sB (ah rfl rfl) C) (BM [] []),Bu]
 refine c8 (lR (a:=ac) (b:=ac) (oQ (ah (U _ rfl) (ah rfl rfl)) c rfl) (ap (T _) (dG (ah rfl (ah (dG (ah rfl (ah rfl rfl))) rfl))) ?_)) (cP rfl);exact Dy (gN (n:=5) (by decide) (iI (hE (n:=0) ⟨λ_ h=>(b6 h).elim,iI (hE (n:=0) ⟨rfl,λ_ h=>(b6 h).elim⟩)⟩)))
abbrev sp_law(K:bm):Sp:=λvs H Q _=>∃(a:Addr) (ns:List Int),vs=[.ref a]/\SqL K H a (ns.map V.int)/\ns.length<=63/\∀H',Q (.bl ac) H'
variable{K:bm}
def sp_law_of{H:Hp}{a:Addr}{ns:List Int}{E:XK}(e:ns.length<=63)(c:SqL K H a (ns.map V.int)):sp_law K [.ref a] H (λv _=>v=.bl ac) E:=⟨a,ns,rfl,c,e,λ_=>rfl⟩
variable{w:World}
def law_ok{a:Wa}(W:Wd K mg a):gm P w K mg base CX0 10 a.e_1.1 a.e_1.2 ["_law_script"] (sp_law K):=(Oi W).ok.imp λvs H Q E ⟨a,ns,c,e,j,k⟩=>
 ⟨H,[.kl (ns.map D.int)],.bl ac,aH.refl _,⟨.ref a,[],c,⟨a,_,rfl,e,aB.ints ns⟩,rfl⟩,rfl,QK ns j,λv Hf' H' x r=>by rw[show v=V.bl ac from r];exact k H'⟩
variable{P:LVa->Prop}
def sH(h:P []):∀us:LVa,us.length=0->P us:=λus e=>by
 rw[eq_nil_of_length_eq_zero e];exact h
def gO(h:∀a (us:LVa),us.length=n->P (a::us)):∀us:LVa,us.length=n+1->P us:=λus e=>by
 cases us with
 |nil=>cases e
 |cons a us=>exact h a us (Nat.succ.inj e)
def Ht(h:∀c:Value,P [c]):∀us:LVa,us.length=1->P us:=gO (P:=λus=>P (us)) λc=>sH (h c)
def QL(h:∀c e:Value,P [c,e]):∀us:LVa,us.length=2->P us:=gO (P:=λus=>P (us)) λc=>gO (P:=λus=>P (c::us)) λe=>sH (h c e)
def QM(h:∀c e j:Value,P [c,e,j]):∀us:LVa,us.length=3->P us:=gO (P:=λus=>P (us)) λc=>gO (P:=λus=>P (c::us)) λe=>gO (P:=λus=>P (c::e::us)) λj=>sH (h c e j)
def QN(h:∀c e j p:Value,P [c,e,j,p]):∀us:LVa,us.length=4->P us:=gO (P:=λus=>P (us)) λc=>gO (P:=λus=>P (c::us)) λe=>gO (P:=λus=>P (c::e::us)) λj=>gO (P:=λus=>P (c::e::j::us)) λp=>sH (h c e j p)
def QO(h:∀c e j p q:Value,P [c,e,j,p,q]):∀us:LVa,us.length=5->P us:=gO (P:=λus=>P (us)) λc=>gO (P:=λus=>P (c::us)) λe=>gO (P:=λus=>P (c::e::us)) λj=>gO (P:=λus=>P (c::e::j::us)) λp=>gO (P:=λus=>P (c::e::j::p::us)) λq=>sH (h c e j p q)
local macro_rules | `(tactic| walk_at "bd")=>`(tactic| exact λ_ _ _ _ _ _=>by first | exact Ht λ_=>rfl | exact QL λ_ _=>rfl | exact QM λ_ _ _=>rfl | exact QN λ_ _ _ _=>rfl | exact QO λ_ _ _ _ _=>rfl)
set_option autoImplicit true in
def all_mk{h:Heap}{fd_39 fd_53 fd_32 fd_40 fd_41 fd_33 fd_23 fd_42 fd_49 fd_50 fd_24 fd_9 fd_34 fd_51 fd_29 fd_25 H fd_52 fd_43 N fd_35 fd_44 fd_45 Q fd_30 fd_36 fd_54 fd_46 fd_0 T I fd_4 fd_31 U fd_6 fd_2 J C fd_5 fd_47 Y fd_3 L fd_37 fd_7 fd_38 fd_22 fd_26 M fd_48 fd_27 E fd_8 fd_28 fd_1:gl}{t_SMALL t_GREAT z j u:Tok}{fa:Addr}(X:K.In h)(G:h.Ns cK mg)(hfa:mg "law"=aa (.ref fa))
 (q_39:Dq K "is_made_of" zc f_39 fd_39)
 (q_53:Dq K "is_variable" zd f_53 fd_53)
 (q_32:Dq K "kinds_of" ze f_32 fd_32)
 (q_40:Dq K "must_be_new" zf f_40 fd_40)
 (q_41:Dq K "must_be_unlike" zg f_41 fd_41)
 (q_33:Dq K "must_be_known" zh f_33 fd_33)
 (q_23:Dq K "must_be_pairs" zi f_23 fd_23)
 (q_42:Dq K "must_be_told" zj f_42 fd_42)
 (q_49:Dq K "uses" zk f_49 fd_49)
 (q_50:Dq K "part_uses" zl f_50 fd_50)
 (q_24:Dq K "args_of" zm f_24 fd_24)
 (q_9:Dq K "ways" s_9 f_9 fd_9)
 (q_34:Dq K "shown_thing" zn f_34 fd_34)
 (q_51:Dq K "plain_of" zo f_51 fd_51)
 (q_29:Dq K "rules_of" zp f_29 fd_29)
 (q_25:Dq K "must_be_narrow" zq f_25 fd_25)
 (q_12:Dq K "names_by_ways" zt f_12 H)
 (q_52:Dq K "has_like" zu f_52 fd_52)
 (q_43:Dq K "name_all" zw f_43 fd_43)
 (q_17:Dq K "text_of" zx f_17 N)
 (q_35:Dq K "rules_by" zy f_35 fd_35)
 (q_44:Dq K "choice" zA f_44 fd_44)
 (q_45:Dq K "put_part" zC f_45 fd_45)
 (q_18:Dq K "put_items" zD f_18 Q)
 (q_30:Dq K "places_in" zE f_30 fd_30)
 (q_36:Dq K "texts_in" zF f_36 fd_36)
 (q_54:Dq K "numbered" zG f_54 fd_54)
 (q_46:Dq K "numbered_part" zH f_46 fd_46)
 (q_0:Dq K "_law_next" s_0 f_0 fd_0)
 (q_19:Dq K "_law_seeds" zI f_19 T)
 (q_13:Dq K "_law_small" zJ f_13 I)
 (q_4:Dq K "_law_name" s_4 f_4 fd_4)
 (q_31:Dq K "_law_variable" zK f_31 fd_31)
 (q_20:Dq K "_law_number" zM f_20 U)
 (q_6:Dq K "_law_lay" s_6 f_6 fd_6)
 (q_2:Dq K "_law_thing" s_2 f_2 fd_2)
 (q_14:Dq K "_law_pairs" zN f_14 J)
 (q_10:Dq K "_law_items" zO f_10 C)
 (q_5:Dq K "_law_part" s_5 f_5 fd_5)
 (q_47:Dq K "_law_body" zP f_47 fd_47)
 (q_21:Dq K "_law_row" zQ f_21 Y)
 (q_3:Dq K "_law_rows" s_3 f_3 fd_3)
 (q_15:Dq K "_law_total" zR f_15 L)
 (q_37:Dq K "_law_choice" zS f_37 fd_37)
 (q_7:Dq K "_law_text" s_7 f_7 fd_7)
 (q_38:Dq K "_law_apart" zU f_38 fd_38)
 (q_22:Dq K "_law_whole" zV f_22 fd_22)
 (q_26:Dq K "_law_is" zW f_26 fd_26)
 (q_16:Dq K "_law_items_right" zX f_16 M)
 (q_48:Dq K "_law_part_right" zY f_48 fd_48)
 (q_27:Dq K "_law_rule_right" zZ f_27 fd_27)
 (q_11:Dq K "_law_rules_right" z3 f_11 E)
 (q_8:Dq K "_law_in_order" s_8 f_8 fd_8)
 (q_28:Dq K "_law_right" z4 f_28 fd_28)
 (q_1:Dq K "law" s_1 f_1 fd_1)
 (B:dU K cK "SMALL"=aa (aa (.str "abcdefghijklmnopqrstuvwxyz" t_SMALL)))
 (A:dU K cK "GREAT"=aa (aa (.str "ABCDEFGHIJKLMNOPQRSTUVWXYZ" t_GREAT)))
 (q:dU K cK "MOST_RULES"=aa (aa (.int 400 z)))
 (c:dU K cK "MOST_THINGS"=aa (aa (.int 60 j)))
 (p:dU K cK "MOST_ITEMS"=aa (aa (.int 60 u)))
 (z_ValueError:dU K cK "ValueError"=aa ab)
 (z_abs:dU K cK "abs"=aa ab)
 (z_all:dU K cK "all"=aa ab)
 (z_any:dU K cK "any"=aa ab)
 (z_bool:dU K cK "bool"=aa ab)
 (z_dict:dU K cK "dict"=aa ab)
 (z_divmod:dU K cK "divmod"=aa ab)
 (z_enumerate:dU K cK "enumerate"=aa ab)
 (z_int:dU K cK "int"=aa ab)
 (z_isinstance:dU K cK "isinstance"=aa ab)
 (z_len:dU K cK "len"=aa ab)
 (z_list:dU K cK "list"=aa ab)
 (z_min:dU K cK "min"=aa ab)
 (z_range:dU K cK "range"=aa ab)
 (z_reversed:dU K cK "reversed"=aa ab)
 (z_set:dU K cK "set"=aa ab)
 (z_str:dU K cK "str"=aa ab)
 (z_tuple:dU K cK "tuple"=aa ab)
 (z_zip:dU K cK "zip"=aa ab)
 (is_bool:jy K "bool")
 (is_int:jy K "int")
 (is_list:jy K "list")
 (is_str:jy K "str")
 (is_tuple:jy K "tuple")
  : ∃a:Wa,∃W:Wd K mg a,a.e_1.1=fa/\∀(s:aI) (v:Value),BindsTo s a.e_1.2 ⟨[v],[]⟩ [("_law_script",v)]:=by
 have e:=hfa.symm.trans (W.mg_of X G q_1.a);cases e
 exact⟨{
  e_39:=(f_39,fd_39),e_53:=(f_53,fd_53),e_32:=(f_32,fd_32),e_40:=(f_40,fd_40),e_41:=(f_41,fd_41),e_33:=(f_33,fd_33),e_23:=(f_23,fd_23),e_42:=(f_42,fd_42),e_49:=(f_49,fd_49),e_50:=(f_50,fd_50),e_24:=(f_24,fd_24),e_9:=(f_9,fd_9),e_34:=(f_34,fd_34),e_51:=(f_51,fd_51),e_29:=(f_29,fd_29),e_25:=(f_25,fd_25),e_12:=(f_12,H),e_52:=(f_52,fd_52),e_43:=(f_43,fd_43),e_17:=(f_17,N),e_35:=(f_35,fd_35),e_44:=(f_44,fd_44),e_45:=(f_45,fd_45),e_18:=(f_18,Q),e_30:=(f_30,fd_30),e_36:=(f_36,fd_36),e_54:=(f_54,fd_54),e_46:=(f_46,fd_46),e_0:=(f_0,fd_0),e_19:=(f_19,T),e_13:=(f_13,I),e_4:=(f_4,fd_4),e_31:=(f_31,fd_31),e_20:=(f_20,U),e_6:=(f_6,fd_6),e_2:=(f_2,fd_2),e_14:=(f_14,J),e_10:=(f_10,C),e_5:=(f_5,fd_5),e_47:=(f_47,fd_47),e_21:=(f_21,Y),e_3:=(f_3,fd_3),e_15:=(f_15,L),e_37:=(f_37,fd_37),e_7:=(f_7,fd_7),e_38:=(f_38,fd_38),e_22:=(f_22,fd_22),e_26:=(f_26,fd_26),e_16:=(f_16,M),e_48:=(f_48,fd_48),e_27:=(f_27,fd_27),e_11:=(f_11,E),e_8:=(f_8,fd_8),e_28:=(f_28,fd_28),e_1:=(f_1,fd_1),cl:=λ_=>0},{
  g_SMALL:=⟨_,W.mg_of X G B⟩,
  g_GREAT:=⟨_,W.mg_of X G A⟩,
  g_MOST_RULES:=⟨_,W.mg_of X G q⟩,
  g_MOST_THINGS:=⟨_,W.mg_of X G c⟩,
  g_MOST_ITEMS:=⟨_,W.mg_of X G p⟩,
  z_ValueError:=fL X G z_ValueError,
  z_abs:=fL X G z_abs,
  z_all:=fL X G z_all,
  z_any:=fL X G z_any,
  z_bool:=fL X G z_bool,
  z_dict:=fL X G z_dict,
  z_divmod:=fL X G z_divmod,
  z_enumerate:=fL X G z_enumerate,
  z_int:=fL X G z_int,
  z_isinstance:=fL X G z_isinstance,
  z_len:=fL X G z_len,
  z_list:=fL X G z_list,
  z_min:=fL X G z_min,
  z_range:=fL X G z_range,
  z_reversed:=fL X G z_reversed,
  z_set:=fL X G z_set,
  z_str:=fL X G z_str,
  z_tuple:=fL X G z_tuple,
  z_zip:=fL X G z_zip,
  e_39:=q_39.mk2 X G,
  e_53:=q_53.mk2 X G,
  e_32:=q_32.mk2 X G,
  e_40:=q_40.mk2 X G,
  e_41:=q_41.mk2 X G,
  e_33:=q_33.mk2 X G,
  e_23:=q_23.mk2 X G,
  e_42:=q_42.mk2 X G,
  e_49:=q_49.mk2 X G,
  e_50:=q_50.mk2 X G,
  e_24:=q_24.mk2 X G,
  e_9:=q_9.mk2 X G,
  e_34:=q_34.mk2 X G,
  e_51:=q_51.mk2 X G,
  e_29:=q_29.mk2 X G,
  e_25:=q_25.mk2 X G,
  e_12:=q_12.mk2 X G,
  e_52:=q_52.mk2 X G,
  e_43:=q_43.mk2 X G,
  e_17:=q_17.mk2 X G,
  e_35:=q_35.mk2 X G,
  e_44:=q_44.mk2 X G,
  e_45:=q_45.mk2 X G,
  e_18:=q_18.mk2 X G,
  e_30:=q_30.mk2 X G,
  e_36:=q_36.mk2 X G,
  e_54:=q_54.mk2 X G,
  e_46:=q_46.mk2 X G,
  e_0:=q_0.mk2 X G,
  e_19:=q_19.mk2 X G,
  e_13:=q_13.mk2 X G,
  e_4:=q_4.mk2 X G,
  e_31:=q_31.mk2 X G,
  e_20:=q_20.mk2 X G,
  e_6:=q_6.mk2 X G,
  e_2:=q_2.mk2 X G,
  e_14:=q_14.mk2 X G,
  e_10:=q_10.mk2 X G,
  e_5:=q_5.mk2 X G,
  e_47:=q_47.mk2 X G,
  e_21:=q_21.mk2 X G,
  e_3:=q_3.mk2 X G,
  e_15:=q_15.mk2 X G,
  e_37:=q_37.mk2 X G,
  e_7:=q_7.mk2 X G,
  e_38:=q_38.mk2 X G,
  e_22:=q_22.mk2 X G,
  e_26:=q_26.mk2 X G,
  e_16:=q_16.mk2 X G,
  e_48:=q_48.mk2 X G,
  e_27:=q_27.mk2 X G,
  e_11:=q_11.mk2 X G,
  e_8:=q_8.mk2 X G,
  e_28:=q_28.mk2 X G,
  e_1:=q_1.mk2 X G,
  is_bool:=is_bool,
  is_int:=is_int,
  is_list:=is_list,
  is_str:=is_str,
  is_tuple:=is_tuple},rfl,q_1.bt (λ_ _ _ _ _ _=>Ht λ_=>rfl)⟩
end N_k83
structure PySem.W.Fast:Prop where
 (te6374734486781187761 te11083221779437128819 te5035551238706916331 te5420612113348298289 te2501085190463048388 te9365286030435156634 te16141101624533975605 te16677119353757299096 te16240553793034571037 te15468490066622305242 te17985632492870605185 te6190307525871492521 te1050982180810112939 te7603045747530848032 te13878629548024975620 te14350178849994090120 te16568358739618845994 te2870470382300533049 te9997330387090470558 te3887533574431037621 te13268435170357355188 te8620716211947085889 te18076105530587744473 te9942144111383372508 te4166526824892900390 te14582257303883412494 te4944834720288100451 te6779290400571311666 te8035169875211616108 te16018061420158844045 te12775322972094101070 te17068587780258774077 te3332051087146101828 te13887257373577420180 te17306969004835886567 te11345300288779598545 te4429199029913960250 te9019267112141926702 te9247448075337252947 te13680000916386866632 te1222569805756177348 te11985567162827581372 te16696765244445634249 te10605274364874249827 te17094459668580045142 te5187210774401076760 te15661780629546835824 te3791821002076450130 te4795127829127421116 te9011468937390378907 te4112688276910627003 te3556012267959516698 te9641778390456174474 te9650044808566823554 te3004706753833872341 te6320079394355744328 te11336137770436621963 te9770480947428348305 te2778821905953807144 te7738059341203683766 te13884922268394355685 te6745644465247599994 te17962688147834343207 te11820145376589509857 te712492596088152575 te154001233761989247 te12686813083959317142 te7889762263628384005 te16394572122935606091 te10186729150253702096 te3977068822096596647 te4345380848658749926 te10624654814463679087 te2163590131484337889 te6010123245294330729 te9904031096297468629 te11810287125272045564 te11236621524568935469 te524026321889969928 te16104759753795826954 te9599116805173670995 te2945869623940787005 te7011977869840511330 te7199316964467891197 te6412446762293495775 te423689841473914894 te169430484727692101 te16112537057666825702 te7671152254782993530 te1756779400004481385 te13663328025201327008 te7044725699065893002 te13312470082117567294 te1627520887628185387 te10225262463462599326 te7052769409842965511 te11469396584482736982 te2022718711906712002 te2267023258955063554 te2215150857726866876 te1959594019064416569 te1375469629004787655 te17354697714788585005 te15898558264441769012 te11256484134259379208 te11495076675163228607 te14004169090657312532 te18188562693796212191 te18349926780460343450 te6182556993052026962 te12428469797781516295 te10390952461667090250 te211552191653349994 te9958570526986531321 te16611344535374178532 te17037311421509015606 te13826808100361544363 te8581847889834679017 te9400462173084047485 te3377510916209629443 te12157676006096803108 te7316640042284589018 te4347705689762488095 te3301331734129622483 te5318020549093838837 te12701917969040120884 te7723244159169812189 te10905950388106137905 te17554119899444077679 te12520097924740171721 te14108003610619989974 te5743223768415231043 te12324911403765573506 te12623443210300929845 te15223468855875030448 te12104939991796274796 te10034669581740980504 te6673906870394710066 te4280004808953495669 te14986180850772733229 te10438607476334214642 te14869691796180673854 te2966573020417595843 te14448146064752667156 te5749980191747828290 te6370891478161370369 te5143840468352917474 te16418846790345048796 te12055537123250691474 te13024664140310742087 te16463157106278391620 te6556903866500344006 te6669137414156882586 te8499227513939699489 te16860565870790044899 te7100041589817276519 te11944172501783508700 te8822778874581382300 te7961407268460768357 te10637325405981164489 te18206657763409953479 te12640145003711569806 te572241236865401517 te11870669053091536709 te13709097274634425870 te11160293068746371812 te1515834288692663389 te12803332431288508169 te12430229026029525659 te7367982877348984181 te8355846216585781692 te827973097182864680 te8551191035675022454 te15897759114485455731 te10946841372282401753 te11735607399205365000 te11447755635822314011 te16172325460081231 te16054828382700094663 te6710053644669139693 te5551935030915737314 te18355832498040535300 te8042970941438914917 te12483462011658498754 te14436497635574566334 te8340563187126239375 te11241954620071347324 te7146826891793857438 te15535305481364152186 te16611118863996224002 te14345345067888230044 te2381143436388146006 te8592236139267356973 te13638291827376959243 te560034558613170007 te6482398821334283109 te3074732556800757000 te16820560480596292069 te7115586457259479411 te4701996647089669703 te15693109363866880942 te650523729589522382 te11740983775663259705 te17095168765714413196 te14113967054997637566 te1153219580020530000 te17478717937021979044 te6365145611345033426 te11342137604545772257 te1439886751742704099 te3055862241489156604 te6997337440019240589 te16098985409771325035 te4087319127197158426 te2410366624376765572 te4066865874244433756 te15470649087682635123 te3759072846077710846 te14654131460847648881 te11533713086862410064 te7131250330577236597 te6599398792436471327 te14243554625039096012 te9968989238155451372 te6175886717789514231 te7042882837800249439 te2860807915953628413 te5706921305182065001 te2030919936710050898 te13757057250400285565 te8187526235652816631 te12395094534286729383 te7104622116189851603 te854898987081984468 te11003698997592237948 te9117803353748955473 te13400551681565797865 te1052718582439639857 te6725043296038743831 te7297908222162031662 te17894512019368806051 te5770154553128472083 te5949875403241576885 te4113907200059113853 te17858532600907003276 te4210506157517649432 te7879128474967223538 te1865070086227269928 te1049772879185460082 te7923866977717339583 te5149562418104038473 te14352542717789121180 te11333693749622183452 te15022213646836733999 te9297753874993388332 te2326568366493257181 te1616850786305969332 te17946151592767933773 te1175772497118226201 te6807504614539461761 te12280425452822607542 te9833258796491735589 te5825270053403279543 te5247494604166647652 te13837128485820984564 te4148414189793662446 te4198914723046539559 te11998440068823985154 te10760029765543062091 te17225530011237889054 te16924931582809023639 te18283188413972355532 te3546150817204503237 te9340863153044092201 te13918298253714215887 te15148505710866666180 te6495222559493026091 te9664252170484104552 te8588086263970674969 te8715999527157532689 te10353494514591286746 te181310760817322461 te17548825524572060318 te11122402358957377606 te2871384597293446890 te4300960541431387875 te7486791545874802786 te2902184766769946940 te5090645527728318692 te645093069898630561 te14156911552226365713 te3587908661491164024 te10281263902951043840 te12801334078217804040 te17779703475854958347 te864517730381959566 te8589783211026789325 te7219555040661033497 te6410147424772527612 te14535960380876686941 te16062595250348180340 te15056987135381808789 te6411084259575827650 te3158154375824094660 te4531032930950254982 te4135868773576609747 te17791807715798431490 te6723191732279752328 te9145552431867959954 te14442545720619326111 te4054756954974190981 te6740652506311715057 te15866792307814409340 te1186729830924068 te16082274591926655150 te5868674759904852034 te2015184807389980847 te1898463322217628835 te5577857956457324846 te6414735209642676468 te11626265493457858416 te2520136773924062471 te15447811835828093091:True)
open PySem PySem.W PyProof.Rows
set_option maxRecDepth 100000 in
set_option maxHeartbeats 0 in
theorem PySem.Challenge.cw_standstill_k83_put_holds : PySem.Challenge.rw_standstill_k83_put.Holds := by
 w_on; o_law; k_head; (case hw=>w_witness2)
 k_fill
 refine L2.walk_ofK (l:=PySem.Challenge.rw_standstill_k83_put) (n:=63) (k:=10) (x:="_law_script") (CX:=L2.CX0) (sp:=N_k83.sp_law) rfl (by decide) rfl ⟨rfl,by decide,by decide⟩ (fun w h Y=>PySem.W.kIn_of Y) ?F (fun _ _ a ns hl _ hS=>N_k83.sp_law_of hl hS) (fun _ _ _ _ z=>z)
 case F =>
  intro w mg fa h KX G hmg
  have TT : ∃ a : N_k83.Wa,∃ W : N_k83.Wd (L2.KOf KX) mg a,a.e_1.1=fa /\ ∀ (s:Shared) (v:Value),BindsTo s a.e_1.2 ⟨[v],[]⟩ [("_law_script",v)]:=by
   dsimp only [L2.KOf]
   refine' N_k83.all_mk KX G hmg ..
   all_goals first | k_is | kit_is | k_exc | exact ⟨by k_is,L2.fun_mk (by k_is) (by k_is) (by k_is)⟩ | exact ⟨by k_is,by k_is,L2.fun_mk (by k_is) (by k_is) (by k_is)⟩ | (intro t ht; simp only [List.mem_cons,List.not_mem_nil,or_false] at ht; rcases ht with rfl | rfl | rfl | rfl | rfl | rfl | rfl <;> kit_is) | skip
  obtain ⟨a,W,e1,hb⟩:=TT
  subst e1
  exact ⟨_,hb,fun base kb nb=>N_k83.law_ok W⟩
